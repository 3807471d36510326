/-
  The statement DrawEven: the walk, over natural numbers. No condition.
-/
import Derived.Test.YtkicjjcangkneaaGreatDoorLawF
namespace Go.Proofs.YtkicjjcangkneaaGreatDoor
open Go.RowKit

/-! ### which numbers are told -/
namespace Dw
def told (k j : Nat) : List Nat := (List.range j).map fun i => (1 + i) % k
theorem told_len (k j : Nat) : (told k j).length = j := by simp [told]
theorem told_succ (k j : Nat) : told k (j + 1) = told k j ++ [(1 + j) % k] := by simp [told, List.range_succ]
theorem told_new (k j : Nat) (hj : j < k) : (1 + j) % k ∉ told k j := by
  intro h
  obtain ⟨i, hi, he⟩ := List.mem_map.1 h
  rw [List.mem_range] at hi
  have h1 : (1 + i) % k = 1 + i := Nat.mod_eq_of_lt (by omega)
  rcases Nat.lt_or_ge (1 + j) k with h2 | h2
  · rw [h1, Nat.mod_eq_of_lt h2] at he
    omega
  · rw [h1, show 1 + j = k by omega, Nat.mod_self] at he
    omega
theorem nth_even (seed k j : Nat) (hj : j < k) (hk : k ≤ 1000) : nth seed (List.range k) (j + 1) % k = (1 + j) % k := by
  rw [nth_said _ _ _ (by rw [List.length_range]; exact hj), List.getElem_range, Nat.mod_eq_of_lt (a := j) (by omega)]
end Dw

theorem info_i64 : (Tryz.prog.info? 3).map (fun i => (i.zero, i.size, i.bytes)) = some (some (.int .i64 0), 1, 8) := by kernel_rfl

theorem own_rd {w : World} {B e : Nat} {A : Option Addr} {n c : Nat} {vs : List Value} (h : w.ownsRow B e 1 (.slice A n c) n vs) : Rd w.heap.size w A vs ∧ n = vs.length := by
  have hl : n = vs.length := by have := h.1; omega
  refine ⟨fun hp => ?_, hl⟩
  rcases h.2 with ⟨_, h0⟩ | ⟨g, cp, cur, hv, hg, hb, h1, h2, h3, h4⟩
  · omega
  · injection hv with hv
    subst hv
    refine ⟨g, 0, rfl, ?_, fun i u hu => ?_⟩
    · rcases Nat.lt_or_ge g w.heap.size with h5 | h5
      · exact h5
      · rw [Array.getElem?_eq_none h5] at hb; cases hb
    · rw [Nat.zero_add, cell_block hb i]
      rw [← h4, List.getElem?_take] at hu
      split at hu
      · simpa using hu
      · cases hu

theorem own_grown {w w' : World} {B e n : Nat} {v : Value} {xs : List Value} {U : Nat} (h : w.ownsRow B e 1 v n xs) (hU : U < B) (hg : w.grownBy w' (some U)) : w'.ownsRow B e 1 v n xs :=
  h.kept hg (.inr fun e => by have := (h.lt U e).1; omega)

/-! ### DrawEven -/
end Go.Proofs.YtkicjjcangkneaaGreatDoor
