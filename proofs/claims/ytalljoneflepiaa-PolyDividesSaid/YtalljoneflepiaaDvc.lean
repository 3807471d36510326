/-
  Package poly's Gcd, in memory of its own; what was there was left as it was. For lists of numbers of 64 bits, up to a million of them.
-/
import Derived.Test.YtalljoneflepiaaDvb
namespace Go.Proofs.Ytalljoneflepiaa
open Go.RowKit

/-- Divided by its last coefficient, what is left of Euclid's divisions is what divides both. -/
theorem gc_end {A B X : Pl} {l : List Nat} (ht : Pl.Tr l) (hx : Pl.co l = X) (h : ∀ d, Pl.Po d → ((Pl.Dv d X ∧ Pl.Dv d 0) ↔ (Pl.Dv d A ∧ Pl.Dv d B))) : Pl.Gc A B (Pl.C (Fld.iv (Fld.to (lead l))) * X) := by
  subst hx
  rcases Nat.eq_zero_or_pos l.length with h0 | h0
  · rw [List.eq_nil_of_length_eq_zero h0, Pl.co_nil, Pl.mul_zero]
    refine ⟨Pl.Po.zero, fun d hd => ?_, fun n hn => absurd rfl hn.ne⟩
    rw [← h d hd, List.eq_nil_of_length_eq_zero h0, Pl.co_nil]
    exact ⟨fun h => ⟨h, h⟩, fun h => h.1⟩
  · obtain ⟨k, hk⟩ : ∃ k, l.length = k + 1 := ⟨l.length - 1, by omega⟩
    have hne := lead_ne ht h0
    have hdg := ht.dg hk
    refine ⟨(Pl.Po.C _).mul (Pl.Po.co l), fun d hd => ?_, fun n hn => ?_⟩
    · rw [Pl.dv_smul (Fld.iv_ne hne), ← h d hd]
      exact ⟨fun h => ⟨h, Pl.Dv.zero d⟩, fun h => h.1⟩
    · rw [hn.uniq (hdg.smul (Fld.iv_ne hne)), Pl.C_mul_at, Pl.co_at, show l[k]?.getD 0 = lead l by unfold lead; rw [hk, Nat.add_sub_cancel]]
      have := Fld.mul_iv hne
      grind

def GcdAt (w wr : World) (A B : Pl) (ny : Nat) (a b : Value) : Prop :=
  ∃ gx nx cx Lx X gy cy Ly Y, a = .slice (some ⟨gx, 0, none⟩) nx cx ∧ b = .slice (some ⟨gy, 0, none⟩) ny cy ∧ w.heap.size ≤ gx ∧ w.heap.size ≤ gy ∧ gx ≠ gy ∧ Own wr gx nx cx Lx X ∧ Pl.Tr (Lx.take nx) ∧ Own wr gy ny cy Ly Y ∧ Pl.Tr (Ly.take ny) ∧
    nx ≤ 1000000 ∧ (∀ d, Pl.Po d → ((Pl.Dv d X ∧ Pl.Dv d Y) ↔ (Pl.Dv d A ∧ Pl.Dv d B)))

set_option maxRecDepth 100000 in
set_option maxHeartbeats 2000000 in
theorem gcd_poly (A A2 : Option Addr) (la ca lb cb : Nat) (a b : List Nat) (w : World) (hn : la = a.length) (hm : lb = b.length) (hla : la ≤ 1000000) (hlb : lb ≤ 1000000)
    (ha : ∀ y ∈ a, y < 18446744073709551616) (hb : ∀ y ∈ b, y < 18446744073709551616) (hA : Rd w.heap.size w A (u64s a)) (hA2 : Rd w.heap.size w A2 (u64s b)) :
    Calls Try.prog 26 #[.slice A la ca, .slice A2 lb cb] w fun e w' => (∃ s, Poly w.heap.size s e w' ∧ Pl.Gc (Pl.co a) (Pl.co b) s) ∧ Below w.heap.size w w' := by
  have h1 := trim_poly A la ca a w hn hla ha hA
  have h2 := fun w1 (hw : Below w.heap.size w w1) => trim_poly A2 lb cb b w1 hm hlb hb ((hA2.below hw).more hw.size)
  have H1 := Lib.hid h1
  have H2 := Lib.hid h2
  have HA := Lib.hid (hn ▸ hla : a.length ≤ 1000000)
  have HB := Lib.hid (hm ▸ hlb : b.length ≤ 1000000)
  clear h1 h2 hn hm ha hb hA hA2
  go_enter Try.func26, Try.ntmps26
  go_wp2_with fail
  refine H1.out.mono ?_
  rintro e w1 ⟨hg1, hb1⟩
  obtain ⟨g1, n1, c1, L1, rfl, hl1, ho1, ht1⟩ := hg1.own
  have HO1 := Lib.hid ho1
  have HT1 := Lib.hid ht1
  clear hg1 ho1 ht1
  go_wp2_with fail
  refine (H2.out w1 hb1).mono ?_
  rintro e w2 ⟨hg2, hb2⟩
  obtain ⟨g2, n2, c2, L2, rfl, hl2, ho2, ht2⟩ := hg2.own
  have hlt1 := HO1.out.lt
  have hs1 := hb1.size
  have hs2 := hb2.size
  have hb02 : Below w.heap.size w w2 := hb1.trans (hb2.mono hs1)
  have hn1 : n1 ≤ 1000000 := Nat.le_trans (HO1.out.len HT1.out (Pl.Lt.co a)) HA.out
  have hn2 : n2 ≤ 1000000 := Nat.le_trans (ho2.len ht2 (Pl.Lt.co b)) HB.out
  have hat : GcdAt w w2 (Pl.co a) (Pl.co b) n2 (.slice (some ⟨g1, 0, none⟩) n1 c1) (.slice (some ⟨g2, 0, none⟩) n2 c2) :=
    ⟨g1, n1, c1, L1, _, g2, c2, L2, _, rfl, rfl, hl1, by omega, by omega, HO1.out.below hb2 hlt1, HT1.out, ho2, ht2, hn1, fun d _ => Iff.rfl⟩
  have HAT := Lib.hid hat
  clear hg2 ho2 ht2 hb2 hb1 hlt1 hn1 hat hs1 hs2 H1 H2 HA HB HO1 HT1
  go_wp2
  go_loopw [0, 1, 5, 6] (fun x y _ _ wr => ∃ ny, ny ≤ 1000000 ∧ GcdAt w wr (Pl.co a) (Pl.co b) ny x y ∧ Below w.heap.size w wr) (fun _ y _ _ _ => match y with | .slice _ n _ => n | _ => 0)
  case atStart => exact ⟨n2, hn2, HAT.out, hb02⟩
  case round =>
    obtain ⟨ny, hny, ⟨gx, nx, cx, Lx, X, gy, cy, Ly, Y, rfl, rfl, k1, k2, k3, k4, k5, k6, k7, k8, k9⟩, hbr⟩ := hrel
    have K := Lib.hid (And.intro k4 (And.intro k5 (And.intro k6 (And.intro k7 k9))))
    clear k4 k5 k6 k7 k9 HAT
    cases ny with
    | zero =>
      obtain ⟨k4, k5, k6, k7, k9⟩ := K.out
      have hy0 : Y = 0 := (k6.zero k7).1 rfl
      subst hy0
      have hmon := monic_any (some ⟨gx, 0, none⟩) nx cx (Lx.take nx) wr k4.pt k5 k8
      have HMON := Lib.hid hmon
      clear k4 k5 k6 k7 k9 hmon
      go_wp2_with fail
      refine HMON.out.mono ?_
      rintro e w5 ⟨⟨A5, n5, c5, l5, rfl, h5⟩, hb5⟩
      have H5 := Lib.hid h5
      clear h5
      go_wp2
      go_ret
      obtain ⟨k4, k5, k6, k7, k9⟩ := K.out
      exact ⟨⟨_, Poly.mono ⟨_, _, _, _, rfl, H5.out⟩ hbr.size, by rw [k4.co]; exact gc_end k5 k4.co k9⟩, hbr.trans (hb5.mono hbr.size)⟩
    | succ j =>
      obtain ⟨k4, k5, k6, k7, k9⟩ := K.out
      have hdg := k7.dg k6.slice
      have hdiv := divide_own gx nx cx Lx X (some ⟨gy, 0, none⟩) (j + 1) cy _ wr k4 k8 k6.pt k7 (by omega) hny (fun bl off e => by injection e with e; injection e with e1; omega)
      have HDIV := Lib.hid hdiv
      have HDG := Lib.hid hdg
      clear k4 k5 k6 k7 k9 hdiv hdg
      go_wp2_with fail
      refine HDIV.out.mono ?_
      rintro e w5 ⟨⟨gq, nq, Lq, nr, L', Q, R, rfl, d1, d2, d3, d4, d5, d6, d7, d8⟩, hg5⟩
      have K2 := Lib.hid (And.intro d2 (And.intro d3 (And.intro d4 d7)))
      clear d2 d3 d4 d7 d8 HDIV
      go_wp2
      obtain ⟨k4, k5, k6, k7, k9⟩ := K.out
      obtain ⟨d2, d3, d4, d7⟩ := K2.out
      rw [k6.co] at d7
      have hdg := HDG.out
      rw [k6.co] at hdg
      have hnr : nr ≤ j := d3.len d4 (d7.2.2.2 j hdg)
      go_round
      case rel =>
        refine ⟨nr, by omega, ⟨gy, j + 1, cy, Ly, Y, gx, cx, L', R, rfl, rfl, k2, k1, k3.symm, k6.grown hg5 k3.symm, k7, d3, d4, hny, fun d hd => ?_⟩, hbr.trans (below_only hg5 k1 hbr.size)⟩
        rw [← k9 d hd]
        exact Pl.Dv.left d7.1 d7.2.2.1
      case measure => show _ < _; simp; omega
end Go.Proofs.Ytalljoneflepiaa
