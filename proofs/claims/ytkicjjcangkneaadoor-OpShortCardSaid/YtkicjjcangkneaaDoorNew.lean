/-
  Package draw's New: draws of which none was drawn, that keep none of what was handed in; what was there is left as it was. For every seed and up to a million numbers.
-/
import Derived.Test.YtkicjjcangkneaaDoorDrw
import Derived.Lib.SliceRun
namespace Go.Proofs.YtkicjjcangkneaaDoor
open Go.RowKit

theorem kp_own {w : World} {lo : Nat} {v : Value} {l : List Nat} {n : Nat} (h : w.ownsRow lo 27 1 v n (u64s l)) :
    ∃ A c, v = .slice A n c ∧ Kp lo w A l ∧ n = l.length := by
  have hl : n = l.length := by have := h.1; rw [u64s_len] at this; omega
  rcases h.2 with ⟨rfl, h0⟩ | ⟨g, cp, cur, rfl, hg, hb, h1, h2, h3, h4⟩
  · refine ⟨none, 0, by rw [h0], fun hp => absurd hp (by omega), hl⟩
  · refine ⟨_, cp, rfl, fun _ => ⟨g, 0, rfl, hg, ?_, fun i u hu => ?_⟩, hl⟩
    · rcases Nat.lt_or_ge g w.heap.size with h5 | h5
      · exact h5
      · rw [Array.getElem?_eq_none h5] at hb; cases hb
    · rw [Nat.zero_add, cell_block hb i]
      rw [← h4, List.getElem?_take] at hu
      split at hu
      · simpa using hu
      · cases hu

end Go.Proofs.YtkicjjcangkneaaDoor
