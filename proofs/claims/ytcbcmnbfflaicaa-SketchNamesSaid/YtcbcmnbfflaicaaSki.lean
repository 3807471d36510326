/-
  Package sketch's elements and fit: the roots of a polynomial, if these are elements, and as many as its degree; whether two lists fit at all points. What was there is left as it was.
-/
import Derived.Test.YtcbcmnbfflaicaaSkh
import Derived.BigQuiet
namespace Go.Proofs.Ytcbcmnbfflaicaa
open Go.RowKit
open Sk (pt Fit)

/-- A list of elements. -/
def El (l : List Nat) : Prop := ∀ x ∈ l, 1 ≤ x ∧ x ≤ 1152921504606846976
theorem rof_rise {f : Pl} {rs : List Nat} (h : Pl.Rof f rs) (hu : Up rs) : rs.Pairwise (· < ·) := hu.rise h.2.1
theorem rise_up {rs : List Nat} (h : rs.Pairwise (· < ·)) : Up rs := h.imp fun h => Nat.le_of_lt h
/-- What elements tells, of a polynomial that is not 0, and of so many numbers. -/
def Elems (lo : Nat) (f : Pl) (n : Nat) (w : World) (e : Ending) (w' : World) : Prop :=
  ((∃ z rs, e = .returned (.tuple #[z, .bool true]) ∧ Gl lo w' z rs ∧ Pl.Rof f rs ∧ rs.Pairwise (· < ·) ∧ El rs ∧ rs.length + 1 = n) ∨
    (∃ z, e = .returned (.tuple #[z, .bool false]) ∧ ∀ rs, Pl.Rof f rs → rs.Pairwise (· < ·) → ¬ (El rs ∧ rs.length + 1 = n))) ∧ Below lo w w'

set_option maxRecDepth 100000 in
set_option maxHeartbeats 2000000 in
theorem elements_any (A : Option Addr) (n c : Nat) (l : List Nat) (w : World) (hp : Pt w A n c l) (hn : n ≤ 13) (hn0 : 0 < n) (hl : ∀ y ∈ l, y < 18446744073709551616) (h0 : Pl.co l ≠ 0) :
    Calls Try.prog 34 #[.slice A n c] w (Elems w.heap.size (Pl.co l) n w) := by
  have hr := roots_own A n c l w hp.1 hn hl hp.2.1 h0
  have HR := Lib.hid hr
  have H0 := Lib.hid h0
  have HLN := Lib.hid hp.1
  clear hr hp hl h0
  obtain ⟨m, hm⟩ : ∃ m, n = m + 1 := ⟨n - 1, by omega⟩
  have hm1 : (n : Int) - 1 = (m : Int) := by omega
  have HM := Lib.hid hm
  clear hm hn0
  go_enter Try.func34, Try.ntmps34
  go_wp2_with fail
  refine HR.out.mono ?_
  rintro e w1 ⟨⟨z, rs, rfl, hg, hrf, hup⟩, hb1⟩
  obtain ⟨d, hd⟩ : ∃ d, Pl.Dg (Pl.co l) d := (Pl.Po.co l).dg H0.out
  have hrl : rs.length ≤ 13 := by
    have h1 := hrf.len hd
    have h2 := hd.lt (Pl.Lt.co l)
    have h3 := HLN.out
    omega
  have hris := rof_rise hrf hup
  obtain ⟨Az, cz, rfl, hpz, -⟩ := hg.pt
  have hsm := hrf.1
  have huq : ∀ rs', Pl.Rof (Pl.co l) rs' → rs'.Pairwise (· < ·) → rs' = rs := fun rs' h1 h2 => rof_uniq h1 (rise_up h2) hrf hup
  have HG := Lib.hid hg
  have HPZ := Lib.hid hpz
  have HRF := Lib.hid hrf
  have HRI := Lib.hid hris
  have HSM := Lib.hid hsm
  have HUQ := Lib.hid huq
  obtain ⟨k0, hk0⟩ : ∃ k0, k0 = rs.length := ⟨_, rfl⟩
  rw [← hk0] at hrl HPZ ⊢
  have HK0 := Lib.hid hk0
  clear hg hrf hup hpz hris hsm huq hk0 hd
  go_wp2
  go_loopw [11] (fun i wr => ∃ k : Nat, k ≤ k0 ∧ i = .int .i64 (k : Int) ∧ (∀ i, i < k → 1 ≤ rs[i]?.getD 0 ∧ rs[i]?.getD 0 ≤ 1152921504606846976) ∧ wr = w1) (fun i _ => k0 - (intOf i).toNat)
  case atStart => exact ⟨0, Nat.zero_le _, rfl, fun i hi => by omega, rfl⟩
  case round =>
    obtain ⟨k, hk, rfl, hel, rfl⟩ := hrel
    have HE := Lib.hid hel
    clear hel
    by_cases hlt : k < k0
    · obtain ⟨b, off, rfl, hbb, hc⟩ := HPZ.out.at_ hlt
      have hyl := HSM.out.get k
      obtain ⟨y, hy⟩ : ∃ y, y = rs[k]?.getD 0 := ⟨_, rfl⟩
      rw [← hy] at hc hyl
      have q0 : (0 : Int) ≤ (k : Int) := by omega
      have q1 : (k : Int) < (k0 : Int) := by omega
      have HY := Lib.hid hy
      clear hy
      by_cases hy1 : y < 1
      · have d1 : (y : Int) < 1 := by omega
        go_wp2
        go_ret2
        refine ⟨.inr ⟨_, rfl, fun rs' h1 h2 ⟨h3, _⟩ => ?_⟩, hb1⟩
        have e := HUQ.out rs' h1 h2
        subst e
        have h4 := h3 y (by rw [HY.out, List.getElem?_eq_getElem (by have := HK0.out; omega)]; exact List.getElem_mem _)
        omega
      · have d1 : ¬ (y : Int) < 1 := by omega
        by_cases hy2 : 1152921504606846976 < y
        · have d2 : decide ((1152921504606846976 : Int) < (y : Int)) = true := decide_eq_true (by omega)
          have HY2 := Lib.hid hy2
          clear hy2
          go_wp2
          go_ret2
          refine ⟨.inr ⟨_, rfl, fun rs' h1 h2 ⟨h3, _⟩ => ?_⟩, hb1⟩
          have e := HUQ.out rs' h1 h2
          subst e
          have h4 := h3 y (by rw [HY.out, List.getElem?_eq_getElem (by have := HK0.out; omega)]; exact List.getElem_mem _)
          have := HY2.out
          omega
        · have d2 : decide ((1152921504606846976 : Int) < (y : Int)) = false := decide_eq_false (by omega)
          have HY2 := Lib.hid hy2
          have HY1 := Lib.hid hy1
          clear hy2 hy1
          go_wp2
          go_roundw
          case rel =>
            refine ⟨k + 1, hlt, by go_num, fun i hi => ?_, by first | rfl | trivial⟩
            by_cases e : i = k
            · rw [e, ← HY.out]
              have := HY1.out
              have := HY2.out
              omega
            · exact HE.out i (by omega)
          case measure => simp [intOf]; omega
    · have e : k = k0 := by omega
      subst e
      have hel : El rs := fun x hx => by
        obtain ⟨i, hi, ei⟩ := List.mem_iff_getElem.1 hx
        have h := HE.out i (by have := HK0.out; omega)
        rw [List.getElem?_eq_getElem hi] at h
        rw [← ei]; exact h
      have HEL := Lib.hid hel
      clear hel
      by_cases hkm : k = m
      · subst hkm
        go_wp2
        go_ret2
        refine ⟨.inl ⟨_, rs, by first | rfl | simp, ?_, HRF.out, HRI.out, HEL.out, by have := HK0.out; have := HM.out; omega⟩, hb1⟩
        rw [HK0.out]
        exact HG.out
      · have hne : ((k : Int) == (m : Int)) = false := by rw [beq_eq_false_iff_ne]; omega
        have hne2 : ¬ (k : Int) = (m : Int) := by omega
        have HKM := Lib.hid hkm
        clear hkm
        go_wp2
        go_ret2
        refine ⟨.inr ⟨_, by first | rfl | simp, fun rs' h1 h2 ⟨_, h4⟩ => ?_⟩, hb1⟩
        have e := HUQ.out rs' h1 h2
        subst e
        have := HK0.out
        have := HM.out
        have := HKM.out
        omega

end Go.Proofs.Ytcbcmnbfflaicaa
