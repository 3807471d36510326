/-
  The statements HashModulo, HashWords and HashOwn: the walks, over natural numbers and lists. No condition but what fits memory.
-/
import Derived.Test.YtkicjjcangkneaaGreatDoorJa
namespace Go.Proofs.YtkicjjcangkneaaGreatDoor
open Go.RowKit

namespace Hsh
/-- The numbers that HashModulo sets beside the given ones. -/
def mm (L : List Nat) (i : Nat) : Nat := if i % 2 = 0 then L[i]?.getD 0 % 2305843009213693951 + 2305843009213693951 else L[i]?.getD 0 % 2305843009213693951
def rowM (L : List Nat) (j : Nat) : List Nat := (List.range j).map (mm L)
theorem rowM_succ (L : List Nat) (j : Nat) : rowM L (j + 1) = rowM L j ++ [mm L j] := by simp [rowM, List.range_succ]
theorem rowM_len (L : List Nat) (j : Nat) : (rowM L j).length = j := by simp [rowM]
theorem rowM_lt (L : List Nat) (j : Nat) : ∀ x ∈ rowM L j, x < 18446744073709551616 := by
  intro x hx
  obtain ⟨i, _, rfl⟩ := List.mem_map.1 hx
  unfold mm
  split <;> omega
theorem mm_mod (L : List Nat) (i : Nat) : mm L i % 2305843009213693951 = L[i]?.getD 0 % 2305843009213693951 := by
  unfold mm
  split <;> omega
theorem rowM_mod (L : List Nat) (k : Nat) (hk : k = L.length) : (rowM L k).map (· % Fld.P) = L.map (· % Fld.P) := by
  apply List.ext_getElem
  · rw [List.length_map, List.length_map, rowM_len, hk]
  · intro i h1 h2
    rw [List.length_map] at h2
    rw [List.getElem_map, List.getElem_map]
    have e : (rowM L k)[i]'(by rw [rowM_len]; omega) = mm L i := by simp [rowM]
    rw [e]
    show mm L i % 2305843009213693951 = L[i] % 2305843009213693951
    rw [mm_mod, List.getElem?_eq_getElem h2]
    rfl
end Hsh

/-! ### HashModulo -/
/-! ### HashWords -/
/-! ### HashOwn -/
end Go.Proofs.YtkicjjcangkneaaGreatDoor
