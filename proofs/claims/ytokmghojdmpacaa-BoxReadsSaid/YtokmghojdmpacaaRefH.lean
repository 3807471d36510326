/-
  The small helpers of the statements (the first so many of a text, of bytes, of numbers; a number below another; are bytes the same): what they answer; what was there is left as it was.
-/
import Derived.Test.YtokmghojdmpacaaStr
import Derived.Test.YtokmghojdmpacaaOpsC
import Derived.Laws.AppendOwnNone
import Derived.Laws.IdiomStrings
namespace Go.Proofs.Ytokmghojdmpacaa
open Go.RowKit

theorem around_pos (n k : Nat) (w : World) (hn : n < 9223372036854775808) (hk : 0 < k) (hk2 : k ≤ 1000000) :
    Calls Try.prog 17 #[.int .i64 (n : Int), .int .i64 (k : Int)] w fun e w' => e = .returned (.int .i64 ((n % k : Nat) : Int)) ∧ w = w' := by
  have h0 : decide ((n : Int) < 0) = false := decide_eq_false (by omega)
  have hz : ((k : Int) == 0) = false := by rw [beq_eq_false_iff_ne]; omega
  have hr : (n : Int) % (k : Int) = ((n % k : Nat) : Int) := by rw [Int.natCast_emod]
  obtain ⟨r, hre⟩ : ∃ r, r = n % k := ⟨_, rfl⟩
  rw [← hre] at hr ⊢
  have HR := Lib.hid hre
  clear hre
  go_enter Try.func17, Try.ntmps17
  go_wp2
  go_ret
  exact ⟨by show Ending.returned (.int .i64 ((n : Int) % (k : Int))) = _; rw [hr], rfl⟩

theorem around_neg (m k : Nat) (z : Int) (w : World) (hz : z = -((m : Int) + 1)) (hm : m < 9223372036854775808) (hk : 0 < k) (hk2 : k ≤ 1000000) :
    Calls Try.prog 17 #[.int .i64 z, .int .i64 (k : Int)] w fun e w' => e = .returned (.int .i64 ((m % k : Nat) : Int)) ∧ w = w' := by
  have h0 : decide (z < 0) = true := decide_eq_true (by omega)
  have hk0 : ((k : Int) == 0) = false := by rw [beq_eq_false_iff_ne]; omega
  have hw1 : IntKind.i64.wrap (z + 1) = z + 1 := by rw [IntKind.wrap_i64]; omega
  have hw2 : IntKind.i64.wrap (-(z + 1)) = (m : Int) := by rw [IntKind.wrap_i64]; omega
  have hr : (m : Int) % (k : Int) = ((m % k : Nat) : Int) := by rw [Int.natCast_emod]
  obtain ⟨r, hre⟩ : ∃ r, r = m % k := ⟨_, rfl⟩
  rw [← hre] at hr ⊢
  have HR := Lib.hid hre
  have HZ := Lib.hid hz
  clear hre hz
  go_enter Try.func17, Try.ntmps17
  go_wp2
  go_ret
  exact ⟨by show Ending.returned (.int .i64 ((m : Int) % (k : Int))) = _; rw [hr], rfl⟩

theorem around_any (z : Int) (k : Nat) (w : World) (h1 : -9223372036854775808 ≤ z) (h2 : z ≤ 9223372036854775807) (hk : 0 < k) (hk2 : k ≤ 1000000) :
    Calls Try.prog 17 #[.int .i64 z, .int .i64 (k : Int)] w fun e w' => ∃ r : Nat, r < k ∧ e = .returned (.int .i64 (r : Int)) ∧ w = w' := by
  rcases Int.lt_or_le z 0 with h | h
  · exact (around_neg (-(z + 1)).toNat k z w (by omega) (by omega) hk hk2).mono fun _ _ ⟨he, hw⟩ => ⟨_, Nat.mod_lt _ hk, he, hw⟩
  · have e : z = ((z.toNat : Nat) : Int) := by omega
    rw [e]
    exact (around_pos z.toNat k w (by omega) hk hk2).mono fun _ _ ⟨he, hw⟩ => ⟨_, Nat.mod_lt _ hk, he, hw⟩

/-! ### the first numbers, the first bytes, in memory of their own -/
theorem slice_head (T : Nat) (hT : Try.prog.underlying T = some (.slice (Try.prog.elem T))) (hz : ∀ W : World, (sizeOf (Try.prog.elem T)).run Try.prog W = .ok 1 W) (A : Option Addr) (n c k : Nat) (hk : k ≤ c) (W : World) :
    (Instr.slice T (.slice A n c) none (some (.int .i64 (k : Int))) none).run Try.prog W = .ok (.slice A k c) W := by
  have h := run_slice_h (P := Try.prog) W T A n c hT .i64 (k : Int) (by omega) (by omega)
  rw [h, hz]
  simp only [Result.andThen, sliced, Int.toNat_natCast, Nat.zero_mul, Nat.sub_zero]
  congr 2
  rcases A with _ | ad
  · simp
  · simp [Addr.add]

theorem nums_src (l : List Nat) (b off : Nat) (w : World) (k : Nat) (hc : ∀ i u, (u64s l)[i]? = some u → w.cell? ⟨b, off + i, none⟩ = some u) : ∀ j u, (u64s (l.take k))[j]? = some u → w.cell? ((⟨b, off, none⟩ : Addr).add j) = some u := by
  intro j u hu
  rw [Addr.add_lit]
  refine hc j u ?_
  unfold u64s at hu ⊢
  rw [List.getElem?_map, List.getElem?_take] at hu
  rw [List.getElem?_map]
  split at hu
  · exact hu
  · simp at hu

theorem few_src (l : List UInt8) (b off : Nat) (w : World) (k : Nat) (hc : ∀ i u, (u8s l)[i]? = some u → w.cell? ⟨b, off + i, none⟩ = some u) : ∀ j u, (u8s (l.take k))[j]? = some u → w.cell? ((⟨b, off, none⟩ : Addr).add j) = some u := by
  intro j u hu
  rw [Addr.add_lit]
  refine hc j u ?_
  unfold u8s at hu ⊢
  rw [List.getElem?_map, List.getElem?_take] at hu
  rw [List.getElem?_map]
  split at hu
  · exact hu
  · simp at hu

end Go.Proofs.Ytokmghojdmpacaa
