/-
  Interpolation by Newton, without any program: what is 0 at all places that were met, and what has the values there; and that there is but one.
-/
import Derived.Test.YtalljoneflepiaaPre
namespace Go.Proofs.Ytalljoneflepiaa
open Go.RowKit
namespace Pl
open Fld (F iv)

/-- The first k are not the same, modulo the prime. -/
def Dis (xs : List Nat) (k : Nat) : Prop := ∀ i j, i < j → j < k → co xs i ≠ co xs j
/-- What is known behind k rounds. -/
structure Fr (xs ys : List Nat) (k : Nat) (Z S : Pl) : Prop where
  lt : Lt Z (k + 1)
  zr : ∀ x, val Z x = 0 ↔ ∃ j, j < k ∧ x = co xs j
  fl : Lt S k
  fv : ∀ j, j < k → val S (co xs j) = co ys j
  ds : Dis xs k
theorem Fr.start (xs ys : List Nat) : Fr xs ys 0 (C 1) 0 :=
  ⟨Lt.C 1, fun x => ⟨fun h => absurd ((val_C 1 x).symm.trans h) Fld.one_ne, fun ⟨j, h, _⟩ => absurd h (Nat.not_lt_zero j)⟩, Lt.zero 0, fun j h => absurd h (Nat.not_lt_zero j), fun _ j _ h => absurd h (Nat.not_lt_zero j)⟩
theorem Fr.step {xs ys : List Nat} {k : Nat} {Z S : Pl} (h : Fr xs ys k Z S) (hz : val Z (co xs k) ≠ 0) :
    Fr xs ys (k + 1) (lin (co xs k) * Z) (S + C ((co ys k - val S (co xs k)) * iv (val Z (co xs k))) * Z) := by
  have pZ : Po Z := ⟨_, h.lt⟩
  have pS : Po S := ⟨_, h.fl⟩
  have hv : ∀ x, val (S + C ((co ys k - val S (co xs k)) * iv (val Z (co xs k))) * Z) x = val S x + (co ys k - val S (co xs k)) * iv (val Z (co xs k)) * val Z x := fun x => by
    rw [val_add pS ((Po.C _).mul pZ), val_smul _ pZ]
  refine ⟨by rw [lin_mul]; exact h.lt.sh.sub ((Lt.smul _ h.lt).mono (by omega)), fun x => ?_, (h.fl.mono (by omega)).add (Lt.smul _ h.lt), fun j hj => ?_, fun i j hij hj => ?_⟩
  · rw [val_mul (Po.lin _) pZ, val_lin, Fld.mul_eq_zero, h.zr]
    constructor
    · rintro (h1 | ⟨j, h1, h2⟩)
      · exact ⟨k, by omega, by grind⟩
      · exact ⟨j, by omega, h2⟩
    · rintro ⟨j, h1, h2⟩
      rcases Nat.lt_or_ge j k with h3 | h3
      · exact .inr ⟨j, h3, h2⟩
      · obtain rfl : j = k := by omega
        left; rw [h2]; grind
  · rw [hv]
    rcases Nat.lt_or_ge j k with h3 | h3
    · rw [h.fv j h3, (h.zr (co xs j)).2 ⟨j, h3, rfl⟩]; grind
    · obtain rfl : j = k := by omega
      have := Fld.mul_iv hz
      grind
  · rcases Nat.lt_or_ge j k with h3 | h3
    · exact h.ds i j hij h3
    · obtain rfl : j = k := by omega
      intro e
      exact hz ((h.zr _).2 ⟨i, hij, e.symm⟩)
theorem Fr.same {xs ys : List Nat} {k n : Nat} {Z S : Pl} (h : Fr xs ys k Z S) (hk : k < n) (hz : val Z (co xs k) = 0) : ¬ Dis xs n := fun hd => by
  obtain ⟨j, h1, h2⟩ := (h.zr _).1 hz
  exact hd j k h1 hk h2.symm

/-- The polynomial of a degree below n that has the values. -/
def Fi (xs ys : List Nat) (n : Nat) (s : Pl) : Prop := Lt s n ∧ ∀ j, j < n → val s (co xs j) = co ys j
theorem zeros_eq {xs : List Nat} {n : Nat} {s : Pl} (hd : Dis xs n) (hl : Lt s n) (h : ∀ j, j < n → val s (co xs j) = 0) : s = 0 := by
  refine Classical.byContradiction fun hne => ?_
  obtain ⟨d, hdn, hdg⟩ := dg_of n s hl hne
  have h1 := roots_le d s hdg ((List.range n).map fun j => co xs j) ?_ ?_
  · rw [List.length_map, List.length_range] at h1; omega
  · rw [List.Nodup, List.pairwise_map]
    refine List.Pairwise.imp_of_mem ?_ (List.pairwise_lt_range (n := n))
    intro a b _ hb hab
    exact hd a b hab (List.mem_range.1 hb)
  · intro x hx
    obtain ⟨j, hj, rfl⟩ := List.mem_map.1 hx
    exact h j (List.mem_range.1 hj)
theorem Fi.uniq {xs ys : List Nat} {n : Nat} {s t : Pl} (hd : Dis xs n) (h : Fi xs ys n s) (k : Fi xs ys n t) : s = t :=
  sub_eq_zero (zeros_eq hd (h.1.sub k.1) fun j hj => by rw [val_sub ⟨n, h.1⟩ ⟨n, k.1⟩, h.2 j hj, k.2 j hj]; grind)
theorem Fr.fi {xs ys : List Nat} {n : Nat} {Z S : Pl} (h : Fr xs ys n Z S) : Fi xs ys n S := ⟨h.fl, h.fv⟩
end Pl
end Go.Proofs.Ytalljoneflepiaa
