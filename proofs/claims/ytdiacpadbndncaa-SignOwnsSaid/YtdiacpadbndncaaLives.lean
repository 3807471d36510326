/-
  The document's examples of chapter 2 hold: the statements' own check of them answers true, and leaves what was there as it was. No condition.
-/
import Derived.Test.YtdiacpadbndncaaRefS
namespace Go.Proofs.Ytdiacpadbndncaa
open Go.RowKit

theorem kept_trans {a b c : World} (h : Below a.heap.size a b) (k : Below b.heap.size b c) : Below a.heap.size a c := h.trans (k.mono h.size)

theorem rd_one (w : World) (x : Nat) : Rd (w.alloc (.cells #[.int .u64 (x : Int)] 22)).heap.size (w.alloc (.cells #[.int .u64 (x : Int)] 22)) (some ⟨w.heap.size, 0, none⟩) (u64s [x]) := fun _ =>
  ⟨w.heap.size, 0, rfl, by simp, fun i u hu => by
    rw [Nat.zero_add, (blk_new w 22 #[.int .u64 (x : Int)]).cell i]
    simpa [u64s] using hu⟩

theorem of_lit (s : ByteArray) (x : Nat) (w : World) (hs : s.size ≤ 9223372036854775800) (hx : x < 18446744073709551616) :
    Calls Try.prog 40 #[.string s, .slice (some ⟨w.heap.size, 0, none⟩) 1 1] (w.alloc (.cells #[.int .u64 (x : Int)] 22)) fun e w' => e = .returned (.int .u64 (Hsh.of s.data.toList [x] : Nat)) ∧ Below (w.alloc (.cells #[.int .u64 (x : Int)] 22)).heap.size (w.alloc (.cells #[.int .u64 (x : Int)] 22)) w' :=
  of_any s (some ⟨w.heap.size, 0, none⟩) 1 1 [x] _ hs rfl (by omega) (by intro y hy; rw [List.mem_singleton.1 hy]; exact hx) (rd_one w x)

end Go.Proofs.Ytdiacpadbndncaa
