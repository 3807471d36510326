/-
  The document's examples of chapter 2 hold: the statements' own check of them answers true, and leaves what was there as it was. No condition.
-/
import Derived.Test.YtalljoneflepiaaRefS
namespace Go.Proofs.Ytalljoneflepiaa
open Go.RowKit

theorem kept_trans {a b c : World} (h : Below a.heap.size a b) (k : Below b.heap.size b c) : Below a.heap.size a c := h.trans (k.mono h.size)

theorem rd_one (w : World) (x : Nat) : Rd (w.alloc (.cells #[.int .u64 (x : Int)] 23)).heap.size (w.alloc (.cells #[.int .u64 (x : Int)] 23)) (some ⟨w.heap.size, 0, none⟩) (u64s [x]) := fun _ =>
  ⟨w.heap.size, 0, rfl, by simp, fun i u hu => by
    rw [Nat.zero_add, (blk_new w 23 #[.int .u64 (x : Int)]).cell i]
    simpa [u64s] using hu⟩

end Go.Proofs.Ytalljoneflepiaa
