/-
  The statements' helpers for package draw: the first 8 of some numbers; the reference's number; is a number among some. What was there is left as it was.
-/
import Derived.Test.YtkicjjcangkneaaGreatDoorNxt
namespace Go.Proofs.YtkicjjcangkneaaGreatDoor
open Go.RowKit

theorem rsecret_two (z j : Nat) (w : World) :
    Calls Tryz.prog 67 #[.string ⟨#[100, 114, 97, 119]⟩, .slice (some ⟨w.heap.size, 0, none⟩) 2 2] (w.alloc (.cells #[.int .u64 (z : Int), .int .u64 (j : Int)] 25)) fun e w' => e = .returned (.int .u64 (Hsh.secret Dw.label [z, j] : Nat)) ∧
      Below (w.alloc (.cells #[.int .u64 (z : Int), .int .u64 (j : Int)] 25)).heap.size (w.alloc (.cells #[.int .u64 (z : Int), .int .u64 (j : Int)] 25)) w' :=
  rsecret_any ⟨#[100, 114, 97, 119]⟩ [z, j] (some ⟨w.heap.size, 0, none⟩) 2 2 (w.alloc (.cells #[.int .u64 (z : Int), .int .u64 (j : Int)] 25)) (by decide) rfl (by omega)
    (fun _ => ⟨w.heap.size, 0, rfl, by simp, fun i u hu => by
      rw [Nat.zero_add, (blk_new w 25 #[.int .u64 (z : Int), .int .u64 (j : Int)]).cell i]
      simpa [u64s] using hu⟩)

/-! ### is a number among some -/
def i64s (l : List Nat) : List Value := l.map fun n : Nat => .int .i64 (n : Int)
theorem i64s_len (l : List Nat) : (i64s l).length = l.length := by simp [i64s]
theorem i64s_snoc (l : List Nat) (x : Nat) : i64s (l ++ [x]) = i64s l ++ [.int .i64 (x : Int)] := by simp [i64s]

end Go.Proofs.YtkicjjcangkneaaGreatDoor
