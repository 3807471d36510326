/-
  Package draw's Next, Below and Used: what they tell of draws, and that nothing turns but how many were drawn. For every seed, and up to a million said.
-/
import Derived.Test.YtkicjjcangkneaaGreatDoorNew
namespace Go.Proofs.YtkicjjcangkneaaGreatDoor
open Go.RowKit

theorem secret_two (z j : Nat) (w0 w1 : World) (h : w1.heap.size = w0.heap.size) (hz : z < 18446744073709551616) (hj : j < 18446744073709551616) :
    Calls Tryz.prog 157 #[.string ⟨#[100, 114, 97, 119]⟩, .slice (some ⟨w0.heap.size, 0, none⟩) 2 2] (w1.alloc (.cells #[.int .u64 (z : Int), .int .u64 (j : Int)] 25)) fun e w' => e = .returned (.int .u64 (Hsh.secret Dw.label [z, j] : Nat)) ∧
      Below (w1.alloc (.cells #[.int .u64 (z : Int), .int .u64 (j : Int)] 25)).heap.size (w1.alloc (.cells #[.int .u64 (z : Int), .int .u64 (j : Int)] 25)) w' := by
  rw [← h]
  exact secret_any ⟨#[100, 114, 97, 119]⟩ (some ⟨w1.heap.size, 0, none⟩) 2 2 [z, j] (w1.alloc (.cells #[.int .u64 (z : Int), .int .u64 (j : Int)] 25)) (by decide) rfl (by omega)
    (by intro y hy
        rcases List.mem_cons.1 hy with rfl | hy
        · omega
        · rcases List.mem_cons.1 hy with rfl | hy
          · omega
          · cases hy)
    (fun _ => ⟨w1.heap.size, 0, rfl, by simp, fun i u hu => by
      rw [Nat.zero_add, (blk_new w1 25 #[.int .u64 (z : Int), .int .u64 (j : Int)]).cell i]
      simpa [u64s] using hu⟩)

end Go.Proofs.YtkicjjcangkneaaGreatDoor
