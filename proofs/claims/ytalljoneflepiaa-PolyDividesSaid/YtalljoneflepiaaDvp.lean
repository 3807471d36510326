/- DIVISION, STEP BY STEP, WITHOUT ANY PROGRAM: what each step keeps, and what the last one leaves. No condition. -/
import Derived.Test.YtalljoneflepiaaLst
namespace Go.Proofs.Ytalljoneflepiaa
open Fld (F)
namespace Pl
def Dk (A0 b : Pl) (la nq k : Nat) (S Q : Pl) : Prop := S + Q * b = A0 ∧ Lt S (la - k) ∧ ∀ i, i + k < nq → Q i = 0
theorem Dk.start {A0 b : Pl} {la nq : Nat} (h : Lt A0 la) : Dk A0 b la nq 0 A0 0 := ⟨by rw [zero_mul, add_zero], h, fun _ _ => rfl⟩
theorem Dk.step {A0 b S Q S' Q' : Pl} {la dg nq k p : Nat} {v : F} (h : Dk A0 b la nq k S Q) (hp : p + (k + 1) = nq) (hla : nq + dg = la) (hb : Dg b dg) (hv : v * b dg = S (p + dg)) (hQ : Q p = 0)
    (hS' : S' = S + C (0 - v) * shn p b) (hQ' : ∀ n, Q' n = if n = p then v else Q n) : Dk A0 b la nq (k + 1) S' Q' := by
  obtain ⟨h1, h2, h3⟩ := h
  have e : Q' = Q + C v * shn p (C 1) := ext fun n => by
    rw [hQ', add_at, C_mul_at, shn_at]
    by_cases e1 : n = p
    · subst e1
      rw [if_pos rfl, if_pos (Nat.le_refl _), Nat.sub_self, C_0, hQ]; grind
    · rw [if_neg e1]
      by_cases e2 : p ≤ n
      · obtain ⟨d, hd⟩ : ∃ d, n - p = d + 1 := ⟨n - p - 1, by omega⟩
        rw [if_pos e2, hd, C_s]; exact ((Fin.mul_zero v) ▸ (Fin.add_zero (Q n))).symm
      · rw [if_neg e2]; exact ((Fin.mul_zero v) ▸ (Fin.add_zero (Q n))).symm
  refine ⟨?_, fun i hi => ?_, fun i hi => ?_⟩
  · rw [hS', e, add_mul, mul_assoc, shn_mul, one_mul, ← h1]
    refine ext fun n => ?_
    simp only [add_at, C_mul_at]; grind
  · rw [hS', add_at, C_mul_at, shn_at, if_pos (by omega)]
    by_cases e1 : i = p + dg
    · subst e1
      rw [show p + dg - p = dg by omega, ← hv]; grind
    · rw [h2 i (by omega), hb.2 (i - p) (by omega), Fin.mul_zero, Fin.add_zero]
  · rw [hQ', if_neg (by omega), h3 i (by omega)]
theorem Dk.dm {A0 b S Q : Pl} {la dg nq : Nat} (h : Dk A0 b la nq nq S Q) (hb : Dg b dg) (hla : la - nq ≤ dg) (hQ : Po Q) : DM A0 b Q S :=
  ⟨hQ, ⟨_, h.2.1⟩, by rw [← h.1, add_comm], fun d hd => by rw [← hb.uniq hd]; exact h.2.1.mono hla⟩
theorem quo_top {A0 b q r : Pl} {n dg : Nat} (h : DM A0 b q r) (hb : Dg b dg) (hq : Lt q (n + 1)) (hA : Dg A0 (n + dg)) : q n ≠ 0 := fun e => by
  have h1 := hA.1
  rw [h.2.2.1, add_at, top_mul hq hb.2, h.2.2.2 dg hb (n + dg) (by omega), e] at h1
  exact h1 (by rw [Fin.zero_mul, Fin.add_zero])
end Pl
theorem Pl.Sm.set_ {l : List Nat} (h : Pl.Sm l) (i : Nat) {v : Nat} (hv : v < 2305843009213693951) : Pl.Sm (l.set i v) := fun x hx => by
  rcases List.mem_or_eq_of_mem_set hx with h1 | h1
  · exact h x h1
  · rw [h1]; exact hv
theorem Pl.up_take (L : List Nat) (off : Nat) (a : List Nat) (t n : Nat) : ∀ k, off + k ≤ n → (Pl.up L off a t k).take n = Pl.up (L.take n) off a t k
  | 0, _ => rfl
  | k + 1, h => by
    rw [Pl.up, Pl.up, List.take_set, Pl.up_take L off a t n k (by omega)]
    congr 2
    rw [List.getElem?_take, if_pos (by omega)]
end Go.Proofs.Ytalljoneflepiaa
