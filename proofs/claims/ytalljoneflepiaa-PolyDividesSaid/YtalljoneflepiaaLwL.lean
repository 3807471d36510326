/-
  PolyDivides: quotient, what is left, and what divides both, is the document's.
-/
import Derived.Test.YtalljoneflepiaaHpb
namespace Go.Proofs.Ytalljoneflepiaa
open Go.RowKit

section
variable {w : World} {o o2 : Value} {s t : Pl} {d k : Nat}
theorem rdiv_v (h : Qv w o s d) (h' : Qv w o2 t k) (hd : d ≤ 100000) (hk : k ≤ 100000) : Calls Try.prog 25 #[o, o2] w fun e w' =>
    (∃ z z2 q r, e = .returned (.tuple #[z, z2]) ∧ Tv w' z q d ∧ Tv w' z2 r d ∧ (t = 0 → q = 0 ∧ r = 0) ∧ (t ≠ 0 → Pl.DM s t q r)) ∧ Below w.heap.size w w' := by
  refine (rdivmod_v h h' hd hk).mono ?_
  rintro e w' ⟨⟨g1, g2⟩, hb⟩
  refine ⟨?_, hb⟩
  by_cases h0 : t = 0
  · exact ⟨_, _, 0, 0, g1 h0, Tv.nil _ _, Tv.nil _ _, fun _ => ⟨rfl, rfl⟩, fun h => absurd h0 h⟩
  · obtain ⟨z, z2, q, r, e1, h1, h2, h3⟩ := g2 h0
    exact ⟨z, z2, q, r, e1, h1, h2, fun h => absurd h h0, fun _ => h3⟩
theorem same_w (h : Tv w o s d) (h' : Tv w o2 s k) (hd : d ≤ 100000) (hk : k ≤ 100000) (W : World) (hW : Below w.heap.size w W) : Calls Try.prog 13 #[o, o2] W fun e w' => e = .returned (.bool true) ∧ Below w.heap.size w w' :=
  (same_v (h.below hW) (h'.below hW) hd hk).mono fun _ _ ⟨g, b⟩ => ⟨g, hW.trans (b.mono hW.size)⟩
theorem gcd_w (h : Qv w o s d) (h' : Qv w o2 t k) (hd : d ≤ 100000) (hk : k ≤ 100000) (W : World) (hW : Below w.heap.size w W) : Calls Try.prog 26 #[o, o2] W fun e w' => (∃ z g, e = .returned z ∧ Tv w' z g (max d k) ∧ Pl.Gc s t g) ∧ Below w.heap.size w w' ∧ Below W.heap.size W w' :=
  (gcd_v (h.below hW) (h'.below hW) hd hk).mono fun _ _ ⟨g, b⟩ => ⟨g, hW.trans (b.mono hW.size), b⟩
theorem rgcd_w (h : Qv w o s d) (h' : Qv w o2 t k) (hd : d ≤ 100000) (hk : k ≤ 100000) (W : World) (hW : Below w.heap.size w W) : Calls Try.prog 27 #[o, o2] W fun e w' => (∃ z g, e = .returned z ∧ Tv w' z g (max d k) ∧ Pl.Gc s t g) ∧ Below w.heap.size w w' ∧ Below W.heap.size W w' :=
  (rgcd_v (h.below hW) (h'.below hW) hd hk).mono fun _ _ ⟨g, b⟩ => ⟨g, hW.trans (b.mono hW.size), b⟩
theorem same_w2 {w0 W1 W2 : World} {g1 g2 : Pl} (h1 : Tv W1 o g1 (max 100 100)) (hg1 : Pl.Gc s t g1) (h2 : Tv W2 o2 g2 (max 100 100)) (hg2 : Pl.Gc s t g2) (hb : Below W1.heap.size W1 W2) (hW : Below w0.heap.size w0 W2) :
    Calls Try.prog 13 #[o, o2] W2 fun e w' => e = .returned (.bool true) ∧ Below w0.heap.size w0 w' := by
  have e := hg1.uniq hg2
  subst e
  exact (same_v (h1.below hb) h2 (by omega) (by omega)).mono fun _ _ ⟨g, b⟩ => ⟨g, hW.trans (b.mono hW.size)⟩
end
theorem Qv.open_ {w : World} {o : Value} {s : Pl} {d : Nat} (h : Qv w o s d) : ∃ A n c, o = .slice A n c := by
  obtain ⟨A, n, c, l, e, _⟩ := h
  exact ⟨A, n, c, e⟩
set_option maxRecDepth 100000 in
set_option maxHeartbeats 8000000 in
theorem divides_walk (A A2 A3 : Option Addr) (n c m c2 m3 c3 : Nat) (l l2 l3 : List Nat) (w : World) (hA : In w A n c l) (hB : In w A2 m c2 l2) (hC : In w A3 m3 c3 l3) :
    Calls Try.prog 4 #[.slice A n c, .slice A2 m c2, .slice A3 m3 c3] w fun e w' => e = .returned (.bool true) ∧ Below w.heap.size w w' := by
  have A0 := Lib.hid hA
  have B0 := Lib.hid hB
  have C0 := Lib.hid hC
  have hk0 : Below w.heap.size w w := Below.refl _ _
  clear hA hB hC
  go_enter Try.func4, Try.ntmps4
  go_wp2_with fail
  refine (few_v A0.out).mono ?_
  rintro e w1 ⟨⟨p, rfl, h⟩, hb1⟩
  obtain ⟨Ap, np, cp, rfl⟩ := h.open_
  have hk1 := kept_trans hk0 hb1
  have B1 := Lib.hid (B0.out.below hb1)
  have C1 := Lib.hid (C0.out.below hb1)
  have P1 := Lib.hid h
  clear hb1 hk0 A0 B0 C0 h
  go_wp2_with fail
  refine (few_v B1.out).mono ?_
  rintro e w2 ⟨⟨q, rfl, h⟩, hb2⟩
  obtain ⟨Aq, nq, cq, rfl⟩ := h.open_
  have hk2 := kept_trans hk1 hb2
  have C2 := Lib.hid (C1.out.below hb2)
  have P2 := Lib.hid (P1.out.below hb2)
  have Q2 := Lib.hid h
  clear hb2 hk1 B1 C1 P1 h
  go_wp2_with fail
  refine (nums_v C2.out 3 (by omega)).mono ?_
  rintro e w3 ⟨⟨r, rfl, h⟩, hb3⟩
  have hk3 := kept_trans hk2 hb3
  have P3 := Lib.hid (P2.out.below hb3)
  have Q3 := Lib.hid (Q2.out.below hb3)
  have R3 := Lib.hid h
  clear hb3 hk2 C2 P2 Q2 h
  go_wp2_with fail
  refine (rmul_v P3.out R3.out (by omega) (by omega)).mono ?_
  rintro e w4 ⟨⟨pr, rfl, h⟩, hb4⟩
  obtain ⟨Ar, nr, cr, rfl⟩ := h.q.open_
  have hk4 := kept_trans hk3 hb4
  have P4 := Lib.hid (P3.out.below hb4)
  have Q4 := Lib.hid (Q3.out.below hb4)
  have R4 := Lib.hid (R3.out.below hb4)
  have PR4 := Lib.hid h
  clear hb4 hk3 P3 Q3 R3 h
  go_wp2_with fail
  refine (rmul_v Q4.out R4.out (by omega) (by omega)).mono ?_
  rintro e w5 ⟨⟨qr, rfl, h⟩, hb5⟩
  obtain ⟨As, ns, cs, rfl⟩ := h.q.open_
  have hk5 := kept_trans hk4 hb5
  have P5 := Lib.hid (P4.out.below hb5)
  have Q5 := Lib.hid (Q4.out.below hb5)
  have PR5 := Lib.hid (PR4.out.below hb5)
  have QR5 := Lib.hid h
  clear hb5 hk4 P4 Q4 R4 PR4 h
  go_wp2
  have hb6 : Below w5.heap.size w5 (w5.alloc (.cells #[.slice Ap np cp, .slice Aq nq cq, .slice Aq nq cq, .slice Ap np cp, .slice Ar nr cr, .slice As ns cs, .slice Ap np cp, .slice none 0 0, .slice none 0 0, .slice Ap np cp] 31)) := (Below.refl _ _).alloc (Nat.le_refl _) _
  have hblk := blk_new w5 31 #[.slice Ap np cp, .slice Aq nq cq, .slice Aq nq cq, .slice Ap np cp, .slice Ar nr cr, .slice As ns cs, .slice Ap np cp, .slice none 0 0, .slice none 0 0, .slice Ap np cp]
  obtain ⟨w6, hw6⟩ : ∃ w6, w6 = w5.alloc (.cells #[.slice Ap np cp, .slice Aq nq cq, .slice Aq nq cq, .slice Ap np cp, .slice Ar nr cr, .slice As ns cs, .slice Ap np cp, .slice none 0 0, .slice none 0 0, .slice Ap np cp] 31) := ⟨_, rfl⟩
  rw [← hw6] at hb6 hblk ⊢
  obtain ⟨g, hg⟩ : ∃ g, g = w5.heap.size := ⟨_, rfl⟩
  rw [← hg] at hblk ⊢
  have hpairs : ∀ t, t < 5 → ∃ A n c A' n' c' s s', w6.cell? ⟨g, t * 2, none⟩ = some (.slice A n c) ∧ w6.cell? ⟨g, t * 2 + 1, none⟩ = some (.slice A' n' c') ∧ Qv w6 (.slice A n c) s 100 ∧ Qv w6 (.slice A' n' c') s' 100 := by
    have wd : ∀ {o : Value} {s : Pl} {d : Nat}, Qv w6 o s d → d ≤ 100 → Qv w6 o s 100 := fun h hd => by
      obtain ⟨A, n, c, l, e, h1, h2, h3, h4⟩ := h
      exact ⟨A, n, c, l, e, h1, h2, by omega, h4⟩
    have hp := wd (P5.out.below hb6) (by omega)
    have hq := wd (Q5.out.below hb6) (by omega)
    have hpr := wd (PR5.out.q.below hb6) (by omega)
    have hqr := wd (QR5.out.q.below hb6) (by omega)
    have hn := Qv.nil w6 100
    intro t ht
    match t, ht with
    | 0, _ => exact ⟨_, _, _, _, _, _, _, _, hblk.cell 0, hblk.cell 1, hp, hq⟩
    | 1, _ => exact ⟨_, _, _, _, _, _, _, _, hblk.cell 2, hblk.cell 3, hq, hp⟩
    | 2, _ => exact ⟨_, _, _, _, _, _, _, _, hblk.cell 4, hblk.cell 5, hpr, hqr⟩
    | 3, _ => exact ⟨_, _, _, _, _, _, _, _, hblk.cell 6, hblk.cell 7, hp, hn⟩
    | 4, _ => exact ⟨_, _, _, _, _, _, _, _, hblk.cell 8, hblk.cell 9, hn, hp⟩
  have HPS := Lib.hid hpairs
  have hk6 := kept_trans hk5 hb6
  have hgl := hblk.lt
  have hself : Below w6.heap.size w6 w6 := Below.refl _ _
  clear hpairs hblk hb6 hw6 hg P5 Q5 PR5 QR5
  go_loopw [11] (fun i wr => ∃ t : Nat, i = .int .i64 (t : Int) ∧ t ≤ 5 ∧ Below w6.heap.size w6 wr) (fun i _ => 5 - (intOf i).toNat)
  case atStart => exact ⟨0, rfl, by omega, hself⟩
  case round =>
    obtain ⟨t, rfl, ht, hbr⟩ := hrel
    clear hself
    have hkr := kept_trans hk6 hbr
    by_cases hlt : t < 5
    · obtain ⟨Ax, nx, cx, Ay, ny, cy, s, s', hc1, hc2, hx, hy⟩ := HPS.out t hlt
      have hc1r := (hbr.cell (p := ⟨g, t * 2, none⟩) (by show g < w6.heap.size; exact hgl)).trans hc1
      have hc2r := (hbr.cell (p := ⟨g, t * 2 + 1, none⟩) (by show g < w6.heap.size; exact hgl)).trans hc2
      have HX := Lib.hid (hx.below hbr)
      have HY := Lib.hid (hy.below hbr)
      have q1 : (t : Int) < 5 := by omega
      have q2 : (0 : Int) ≤ (t : Int) := by omega
      have hgr : g < wr.heap.size := by have := hbr.size; omega
      have hrr : Below wr.heap.size wr wr := Below.refl _ _
      have hdiv := fun W (hW : Below wr.heap.size wr W) => divmod_v (HX.out.below hW) (HY.out.below hW) (by omega) (by omega)
      have HDIV := Lib.hid hdiv
      clear hc1 hc2 hx hy hdiv
      go_wp2_with fail
      go_region_held3 (fun w' : World => w'.cell? ⟨g, t * 2, none⟩ = some (.slice Ax nx cx) ∧ w'.cell? ⟨g, t * 2 + 1, none⟩ = some (.slice Ay ny cy))
        ((first | exact ⟨hc1r, hc2r⟩ | exact ⟨((below_of_drew hba).cell (p := ⟨g, t * 2, none⟩) hgr).trans hc1r, ((below_of_drew hba).cell (p := ⟨g, t * 2 + 1, none⟩) hgr).trans hc2r⟩))
        (first
          | (go_at_call 24; ((with_reducible refine (HDIV.out _ (below_to_drew hrr)).mono ?_); rintro e wa ⟨⟨z1, z2, qq, rr, rfl, hz1, hz2, hz0, hdm⟩, hba'⟩; have hba : Below wr.heap.size wr.drew wa := hba'; have HZ1 := Lib.hid hz1; have HZ2 := Lib.hid hz2; have HZ0 := Lib.hid hz0; have HDM := Lib.hid hdm; clear hz1 hz2 hz0 hdm)))
      all_goals
        have hba1 : Below wr.heap.size wr wa := below_of_drew hba
        have hc1a := (hba1.cell (p := ⟨g, t * 2, none⟩) hgr).trans hc1r
        have hc2a := (hba1.cell (p := ⟨g, t * 2 + 1, none⟩) hgr).trans hc2r
        have hga : g < wa.heap.size := by have := hba1.size; omega
        have hraa : Below wa.heap.size wa wa := Below.refl _ _
        have HXA := Lib.hid (HX.out.below hba1)
        have HYA := Lib.hid (HY.out.below hba1)
        have hrd := fun W (hW : Below wa.heap.size wa W) => rdiv_v (HXA.out.below hW) (HYA.out.below hW) (by omega) (by omega)
        have HRD := Lib.hid hrd
        clear hba hc1r hc2r hrr hrd
        go_wp2_with fail
        go_region_held3 (fun w' : World => w'.cell? ⟨g, t * 2, none⟩ = some (.slice Ax nx cx) ∧ w'.cell? ⟨g, t * 2 + 1, none⟩ = some (.slice Ay ny cy))
          ((first | exact ⟨hc1a, hc2a⟩ | exact ⟨((below_of_drew hbb).cell (p := ⟨g, t * 2, none⟩) hga).trans hc1a, ((below_of_drew hbb).cell (p := ⟨g, t * 2 + 1, none⟩) hga).trans hc2a⟩))
          (first
            | (go_at_call 25; ((with_reducible refine (HRD.out _ (below_to_drew hraa)).mono ?_); rintro e wb ⟨⟨z3, z4, q3, r3, rfl, hz3, hz4, hz0, hdm⟩, hbb'⟩; have hbb : Below wa.heap.size wa.drew wb := hbb'; have HZ3 := Lib.hid hz3; have HZ4 := Lib.hid hz4; have HZ0' := Lib.hid hz0; have HDM' := Lib.hid hdm; clear hz3 hz4 hz0 hdm)))
        all_goals
          have hbb1 : Below wa.heap.size wa wb := below_of_drew hbb
          have hqr : qq = q3 ∧ rr = r3 := by
            by_cases h0 : s' = 0
            · rw [(HZ0.out h0).1, (HZ0.out h0).2, (HZ0'.out h0).1, (HZ0'.out h0).2]; exact ⟨rfl, rfl⟩
            · exact (HDM.out h0).uniq HY.out.po h0 (HDM'.out h0)
          obtain ⟨e3, e4⟩ := hqr
          subst e3 e4
          have hc1b := (hbb1.cell (p := ⟨g, t * 2, none⟩) hga).trans hc1a
          have hc2b := (hbb1.cell (p := ⟨g, t * 2 + 1, none⟩) hga).trans hc2a
          have hgb : g < wb.heap.size := by have := hbb1.size; omega
          have hrb : Below wb.heap.size wb wb := Below.refl _ _
          have HXB := Lib.hid (HXA.out.below hbb1)
          have HYB := Lib.hid (HYA.out.below hbb1)
          have Z1B := Lib.hid (HZ1.out.below hbb1)
          have Z2B := Lib.hid (HZ2.out.below hbb1)
          have SA := Lib.hid (same_w Z1B.out HZ3.out (by omega) (by omega))
          have SB := Lib.hid (same_w Z2B.out HZ4.out (by omega) (by omega))
          have GC := Lib.hid (gcd_w HXB.out HYB.out (by omega) (by omega))
          have RG := Lib.hid (rgcd_w HXB.out HYB.out (by omega) (by omega))
          have hkb := kept_trans hbr (kept_trans hba1 hbb1)
          clear hbb hc1a hc2a hraa
          go_wp2_with fail
          go_region_held3 (fun w' : World => w'.cell? ⟨g, t * 2, none⟩ = some (.slice Ax nx cx) ∧ w'.cell? ⟨g, t * 2 + 1, none⟩ = some (.slice Ay ny cy))
            ((first
              | exact ⟨hc1b, hc2b⟩
              | exact ⟨(hb7.cell (p := ⟨g, t * 2, none⟩) hgb).trans hc1b, (hb7.cell (p := ⟨g, t * 2 + 1, none⟩) hgb).trans hc2b⟩
              | exact ⟨(hb6'.cell (p := ⟨g, t * 2, none⟩) hgb).trans hc1b, (hb6'.cell (p := ⟨g, t * 2 + 1, none⟩) hgb).trans hc2b⟩
              | exact ⟨(hb5.cell (p := ⟨g, t * 2, none⟩) hgb).trans hc1b, (hb5.cell (p := ⟨g, t * 2 + 1, none⟩) hgb).trans hc2b⟩
              | exact ⟨(hb4.cell (p := ⟨g, t * 2, none⟩) hgb).trans hc1b, (hb4.cell (p := ⟨g, t * 2 + 1, none⟩) hgb).trans hc2b⟩
              | exact ⟨(hb3.cell (p := ⟨g, t * 2, none⟩) hgb).trans hc1b, (hb3.cell (p := ⟨g, t * 2 + 1, none⟩) hgb).trans hc2b⟩))
            (first
              | (go_at_call 13; (first | (with_reducible refine (SA.out _ (below_to_drew hrb)).mono ?_) | (with_reducible refine (SA.out _ hrb).mono ?_)); rintro e w3' ⟨rfl, hb3⟩)
              | (go_at_call 13; (with_reducible refine (SB.out _ hb3).mono ?_); rintro e w4' ⟨rfl, hb4⟩)
              | (go_at_call 26; (with_reducible refine (GC.out _ hb4).mono ?_); rintro e w5' ⟨⟨z5, g5, rfl, hz5, hg5⟩, hb5, hb5W⟩)
              | (go_at_call 27; (with_reducible refine (RG.out _ hb5).mono ?_); rintro e w6' ⟨⟨z6, g6, rfl, hz6, hg6⟩, hb6', hb6W⟩)
              | (go_at_call 13; have q9 := same_w2 hz5 hg5 hz6 hg6 hb6W hb6'; (with_reducible refine q9.mono ?_); rintro e w7' ⟨rfl, hb7⟩))
          all_goals
            go_wp2
            go_roundw
            case rel => exact ⟨t + 1, by go_num, hlt, kept_trans hkb hb7⟩
            case measure => simp [intOf]; omega
    · go_wp2_with fail
      refine (lives_any _).mono ?_
      rintro e wz ⟨rfl, hbz⟩
      go_wp2
      go_ret
      exact ⟨rfl, kept_trans hkr hbz⟩

end Go.Proofs.Ytalljoneflepiaa
