/-
  How many bits a number has: the two powers of package poly, and small numbers.
-/
import Derived.Test.YtalljoneflepiaaPra
namespace Go.Proofs.Ytalljoneflepiaa
open Go.RowKit
set_option maxRecDepth 100000 in
set_option maxHeartbeats 1000000 in
theorem len_half (w : World) : Calls Try.prog 70 #[.int .u64 ((1152921504606846975 : Nat) : Int)] w fun e w' => e = .returned (.int .i64 ((60 : Nat) : Int)) ∧ w = w' := by
  rw [show ((1152921504606846975 : Nat) : Int) = 1152921504606846975 from rfl, show ((60 : Nat) : Int) = 60 from rfl]
  go_enter Try.func70, Try.ntmps70
  go_wp2
  go_ret
  exact ⟨by kernel_rfl, rfl⟩
set_option maxRecDepth 100000 in
set_option maxHeartbeats 1000000 in
theorem len_P (w : World) : Calls Try.prog 70 #[.int .u64 ((2305843009213693951 : Nat) : Int)] w fun e w' => e = .returned (.int .i64 ((61 : Nat) : Int)) ∧ w = w' := by
  rw [show ((2305843009213693951 : Nat) : Int) = 2305843009213693951 from rfl, show ((61 : Nat) : Int) = 61 from rfl]
  go_enter Try.func70, Try.ntmps70
  go_wp2
  go_ret
  exact ⟨by kernel_rfl, rfl⟩
end Go.Proofs.Ytalljoneflepiaa
