/-
  Package sketch's Diff: the two lists that fit two sketches, each rising, in memory of its own; ErrDiff, if there are none; ErrArg of unlike numbers of values. What was there is left as it was. For sketches of up to 14 values, or of up to 1000, if lists of up to 12 elements each fit them; no value is 0.
-/
import Derived.Test.YtcbcmnbfflaicaaSkk
namespace Go.Proofs.Ytcbcmnbfflaicaa
open Go.RowKit
open Sk (pt Fit Quo)

theorem rof_prodR {p : List Nat} (hp : p.Pairwise (· < ·)) (he : El p) : Pl.Rof (Pl.prodR p) p :=
  have hl : ∀ x ∈ p, x < 2305843009213693951 := fun x hx => by have := he x hx; omega
  ⟨hl, hp.imp fun h => Nat.ne_of_lt h, fun x hx => ⟨fun h => Sk.root_p h, fun h => Sk.root_mem hx hl h⟩⟩

/-- What Diff tells. -/
def Dif (a b : List Nat) (na nb : Nat) (w : World) (e : Ending) (w' : World) : Prop :=
  ((∃ z1 z2 p q B1, e = .returned (.tuple #[z1, z2, .int .i64 0]) ∧ Gl w.heap.size w' z1 p ∧ Gl B1 w' z2 q ∧ w.heap.size ≤ B1 ∧ (∀ k, some k = z1.ownBlock → k < B1) ∧ Fit a b na nb p q) ∨
    (e = .returned (.tuple #[.slice none 0 0, .slice none 0 0, .int .i64 32]) ∧ ∀ p q, ¬ Fit a b na nb p q)) ∧ Below w.heap.size w w'

theorem Gl.own_lt {B : Nat} {w : World} {z : Value} {L : List Nat} (h : Gl B w z L) : ∀ k, some k = z.ownBlock → k < w.heap.size := fun k hk => by
  obtain ⟨A, c, rfl, h1⟩ := h
  exact (own_ge h1 hk).2

set_option maxRecDepth 100000 in
set_option maxHeartbeats 2000000 in
theorem diff_arg (na nb n c n' c' : Nat) (A A' : Option Addr) (w : World) (hne : n ≠ n') :
    Calls Try.prog 21 #[skv na A n c, skv nb A' n' c'] w fun e w' => e = .returned (.tuple #[.slice none 0 0, .slice none 0 0, .int .i64 1]) ∧ Below w.heap.size w w' := by
  obtain ⟨w2, hw2⟩ : ∃ w2, w2 = ((w.alloc (.cells #[.int .i64 (na : Int), .slice A n c] 29)).alloc (.cells #[.int .i64 (nb : Int), .slice A' n' c'] 29)) := ⟨_, rfl⟩
  have hk1 := (blk_new w 29 #[.int .i64 (na : Int), .slice A n c])
  have hk2 := (blk_new (w.alloc (.cells #[.int .i64 (na : Int), .slice A n c] 29)) 29 #[.int .i64 (nb : Int), .slice A' n' c'])
  rw [World.size_alloc] at hk2
  have hk3 := blk_alloc hk1 (.cells #[.int .i64 (nb : Int), .slice A' n' c'] 29)
  have hb0 : Below w.heap.size w ((w.alloc (.cells #[.int .i64 (na : Int), .slice A n c] 29)).alloc (.cells #[.int .i64 (nb : Int), .slice A' n' c'] 29)) := ((Below.refl _ w).alloc (Nat.le_refl _) _).alloc (by simp) _
  have e0 : ((w.alloc (.cells #[.int .i64 (na : Int), .slice A n c] 29)).alloc (.cells #[.int .i64 (nb : Int), .slice A' n' c'] 29)).cell? ⟨w.heap.size, 0, none⟩ = some (.int .i64 (na : Int)) := hk3.cell 0
  have e1 : ((w.alloc (.cells #[.int .i64 (na : Int), .slice A n c] 29)).alloc (.cells #[.int .i64 (nb : Int), .slice A' n' c'] 29)).cell? ⟨w.heap.size, 1, none⟩ = some (.slice A n c) := hk3.cell 1
  have e2 : ((w.alloc (.cells #[.int .i64 (na : Int), .slice A n c] 29)).alloc (.cells #[.int .i64 (nb : Int), .slice A' n' c'] 29)).cell? ⟨w.heap.size + 1, 0, none⟩ = some (.int .i64 (nb : Int)) := hk2.cell 0
  have e3 : ((w.alloc (.cells #[.int .i64 (na : Int), .slice A n c] 29)).alloc (.cells #[.int .i64 (nb : Int), .slice A' n' c'] 29)).cell? ⟨w.heap.size + 1, 1, none⟩ = some (.slice A' n' c') := hk2.cell 1
  have hne1 : ((n : Int) == (n' : Int)) = false := by rw [beq_eq_false_iff_ne]; omega
  have hne2 : ¬ (n : Int) = (n' : Int) := by omega
  rw [← hw2] at hb0
  have HB0 := Lib.hid hb0
  have HW2 := Lib.hid hw2
  unfold skv
  clear hk1 hk2 hk3 hb0 hw2
  go_enter Try.func21, Try.ntmps21
  go_wp2
  go_ret3
  exact ⟨rfl, by have h := HB0.out; rw [HW2.out] at h; exact h⟩

set_option maxRecDepth 100000 in
set_option maxHeartbeats 4000000 in
theorem diff_any (na nb n c c' : Nat) (A A' : Option Addr) (a b : List Nat) (w : World) (hA : Pt w A n c a) (hA' : Pt w A' n c' b) (ha : Pl.Sm a) (hb : Pl.Sm b) (hn : n ≤ 1000) (h1 : na ≤ 1000000) (h2 : nb ≤ 1000000) (hne : ∀ k, k < n → Pl.co a k ≠ 0)
    (hD : n ≤ 14 ∨ ∃ p q, Fit a b na nb p q ∧ p.length ≤ 12 ∧ q.length ≤ 12) :
    Calls Try.prog 21 #[skv na A n c, skv nb A' n c'] w (Dif a b na nb w) := by
  have hal : a.length = n := hA.1.symm
  obtain ⟨w2, hw2⟩ : ∃ w2, w2 = ((w.alloc (.cells #[.int .i64 (na : Int), .slice A n c] 29)).alloc (.cells #[.int .i64 (nb : Int), .slice A' n c'] 29)) := ⟨_, rfl⟩
  have hk1 := (blk_new w 29 #[.int .i64 (na : Int), .slice A n c])
  have hk2 := (blk_new (w.alloc (.cells #[.int .i64 (na : Int), .slice A n c] 29)) 29 #[.int .i64 (nb : Int), .slice A' n c'])
  rw [World.size_alloc] at hk2
  have hk3 := blk_alloc hk1 (.cells #[.int .i64 (nb : Int), .slice A' n c'] 29)
  have hb0 : Below w.heap.size w ((w.alloc (.cells #[.int .i64 (na : Int), .slice A n c] 29)).alloc (.cells #[.int .i64 (nb : Int), .slice A' n c'] 29)) := ((Below.refl _ w).alloc (Nat.le_refl _) _).alloc (by simp) _
  have e0 : ((w.alloc (.cells #[.int .i64 (na : Int), .slice A n c] 29)).alloc (.cells #[.int .i64 (nb : Int), .slice A' n c'] 29)).cell? ⟨w.heap.size, 0, none⟩ = some (.int .i64 (na : Int)) := hk3.cell 0
  have e1 : ((w.alloc (.cells #[.int .i64 (na : Int), .slice A n c] 29)).alloc (.cells #[.int .i64 (nb : Int), .slice A' n c'] 29)).cell? ⟨w.heap.size, 1, none⟩ = some (.slice A n c) := hk3.cell 1
  have e2 : ((w.alloc (.cells #[.int .i64 (na : Int), .slice A n c] 29)).alloc (.cells #[.int .i64 (nb : Int), .slice A' n c'] 29)).cell? ⟨w.heap.size + 1, 0, none⟩ = some (.int .i64 (nb : Int)) := hk2.cell 0
  have e3 : ((w.alloc (.cells #[.int .i64 (na : Int), .slice A n c] 29)).alloc (.cells #[.int .i64 (nb : Int), .slice A' n c'] 29)).cell? ⟨w.heap.size + 1, 1, none⟩ = some (.slice A' n c') := hk2.cell 1
  rw [← hw2] at hb0
  have hqt := quotient_any na nb n c c' A A' a b w2 (hA.below hb0) (hA'.below hb0) ha hb hn h1 h2 hne
  have hsz2 : w2.heap.size = w.heap.size + 2 := by rw [hw2]; simp
  have hk2' : Blk w2 (w.heap.size + 1) 29 #[.int .i64 (nb : Int), .slice A' n c'] := by rw [hw2]; exact hk2
  have hk3' : Blk w2 w.heap.size 29 #[.int .i64 (na : Int), .slice A n c] := by rw [hw2]; exact hk3
  have HQT := Lib.hid hqt
  have HW2 := Lib.hid hw2
  have HB0 := Lib.hid hb0
  have HSZ2 := Lib.hid hsz2
  have HK2 := Lib.hid hk2'
  have HK3 := Lib.hid hk3'
  have HA := Lib.hid (hA.below hb0)
  have HA' := Lib.hid (hA'.below hb0)
  have HSA := Lib.hid ha
  have HSB := Lib.hid hb
  have HAL := Lib.hid hal
  have HD := Lib.hid hD
  unfold skv at HQT ⊢
  clear hk1 hk2 hk3 hb0 hqt hw2 hA hA' ha hb hne hsz2 hk2' hk3' hal hD h1 h2
  go_enter Try.func21, Try.ntmps21
  go_wp2_with fail
  rw [← HW2.out]
  refine HQT.out.mono ?_
  rintro e w3 ⟨hq, hb3⟩
  have HB3 := Lib.hid hb3
  clear hb3 e0 e1 e2 e3
  rcases hq with ⟨z1, z2, f, g, m1, m2, rfl, ht1, ht2, hquo⟩ | ⟨rfl, hno⟩
  · have hm : m1 ≤ 12 ∧ m2 ≤ 12 := by
      rcases HD.out with h | ⟨p, q, h1, h2, h3⟩
      · have := hquo.few
        have := HAL.out
        omega
      · obtain ⟨e1, e2⟩ := hquo.fits p q h1
        have h4 := hquo.df
        have h5 := hquo.dg
        rw [e1] at h4
        rw [e2] at h5
        have := h4.uniq (Pl.Dg.prodR p).1
        have := h5.uniq (Pl.Dg.prodR q).1
        omega
    obtain ⟨A1, n1, c1, l1, rfl, hp1, his1, _⟩ := ht1
    obtain ⟨A2, n2, c2, l2, rfl, hp2, his2, _⟩ := ht2
    have hn1 : n1 = m1 + 1 := by
      have h := his1.1
      have h0 : l1.length ≠ 0 := fun h0 => hquo.df.ne (by rw [← his1.2]; exact (h.len_zero).1 h0)
      obtain ⟨j, hj⟩ : ∃ j, l1.length = j + 1 := ⟨l1.length - 1, by omega⟩
      have h2 := h.dg hj
      rw [his1.2] at h2
      have := hquo.df.uniq h2
      have := hp1.1
      omega
    have hn2 : n2 = m2 + 1 := by
      have h := his2.1
      have h0 : l2.length ≠ 0 := fun h0 => hquo.dg.ne (by rw [← his2.2]; exact (h.len_zero).1 h0)
      obtain ⟨j, hj⟩ : ∃ j, l2.length = j + 1 := ⟨l2.length - 1, by omega⟩
      have h2 := h.dg hj
      rw [his2.2] at h2
      have := hquo.dg.uniq h2
      have := hp2.1
      omega
    have hel1 := elements_any A1 n1 c1 l1 w3 hp1 (by omega) (by omega) his1.1.1.big (by rw [his1.2]; exact hquo.df.ne)
    rw [his1.2] at hel1
    have hgne : Pl.co l2 ≠ 0 := by rw [his2.2]; exact hquo.dg.ne
    have HEL1 := Lib.hid hel1
    have HP2 := Lib.hid hp2
    have HIS2 := Lib.hid his2
    have HQUO := Lib.hid hquo
    have HN1 := Lib.hid hn1
    have HN2 := Lib.hid hn2
    have HM := Lib.hid hm
    have HGNE := Lib.hid hgne
    clear hel1 hp1 hp2 his1 his2 hquo hn1 hn2 hm hgne
    go_wp2_with fail
    refine HEL1.out.mono ?_
    rintro e w4 ⟨hr1, hb4⟩
    have hm := HM.out
    have hn2 := HN2.out
    have hel2 := elements_any A2 n2 c2 l2 w4 (HP2.out.below hb4) (by omega) (by omega) HIS2.out.1.1.big HGNE.out
    rw [HIS2.out.2] at hel2
    have HEL2 := Lib.hid hel2
    have HB4 := Lib.hid hb4
    have HB4' := Lib.hid (HB3.out.trans (hb4.mono HB3.out.size))
    clear hel2 hb4 hm hn2
    rcases hr1 with ⟨y1, p, rfl, hg1, hrf1, hri1, hep, hlp⟩ | ⟨y1, rfl, hno1⟩
    · have HOW := Lib.hid hg1.own_lt
      have HG1 := Lib.hid hg1
      have HRF1 := Lib.hid hrf1
      have HRI1 := Lib.hid hri1
      have HEP := Lib.hid hep
      have HLP := Lib.hid hlp
      clear hg1 hrf1 hri1 hep hlp
      go_wp2_with fail
      refine HEL2.out.mono ?_
      rintro e w5 ⟨hr2, hb5⟩
      have HB5 := Lib.hid hb5
      have HB5' := Lib.hid (HB4'.out.trans (hb5.mono HB4'.out.size))
      clear hb5
      rcases hr2 with ⟨y2, q, rfl, hg2, hrf2, hri2, heq, hlq⟩ | ⟨y2, rfl, hno2⟩
      · have HG2 := Lib.hid hg2
        have hg15 := HG1.out.below HB5.out
        have HG15 := Lib.hid hg15
        have hlp1 := HLP.out
        have hlq1 := hlq
        have hm := HM.out
        have hn1 := HN1.out
        have hn2 := HN2.out
        obtain ⟨Y1, k1, rfl, hpp, -⟩ := hg15.pt
        obtain ⟨Y2, k2, rfl, hqp, -⟩ := hg2.pt
        have hb25 : Below w2.heap.size w2 w5 := HB5'.out
        have f0 : w5.cell? ⟨w.heap.size, 0, none⟩ = some (.int .i64 (na : Int)) := (HK3.out.below hb25 (by have := HSZ2.out; omega)).cell 0
        have f1 : w5.cell? ⟨w.heap.size, 1, none⟩ = some (.slice A n c) := (HK3.out.below hb25 (by have := HSZ2.out; omega)).cell 1
        have f2 : w5.cell? ⟨w.heap.size + 1, 0, none⟩ = some (.int .i64 (nb : Int)) := (HK2.out.below hb25 (by have := HSZ2.out; omega)).cell 0
        have f3 : w5.cell? ⟨w.heap.size + 1, 1, none⟩ = some (.slice A' n c') := (HK2.out.below hb25 (by have := HSZ2.out; omega)).cell 1
        have hft := fit_any na nb n c n c' p.length k1 q.length k2 A A' Y1 Y2 a b p q w5 (HA.out.below hb25) (HA'.out.below hb25) rfl HSA.out HSB.out hn hpp hqp (fun y hy => by have := HEP.out y hy; omega) (fun y hy => by have := heq y hy; omega) (by omega) (by omega)
        unfold skv at hft
        have HFT := Lib.hid hft
        have HRF2 := Lib.hid hrf2
        have HRI2 := Lib.hid hri2
        have HEQ := Lib.hid heq
        have HLQ := Lib.hid hlq
        obtain ⟨lp, hlpe⟩ : ∃ lp, lp = p.length := ⟨_, rfl⟩
        obtain ⟨lq, hlqe⟩ : ∃ lq, lq = q.length := ⟨_, rfl⟩
        rw [← hlpe] at HFT HG15 HOW ⊢
        rw [← hlqe] at HFT HG2 ⊢
        clear hft hg2 hrf2 hri2 heq hlq hpp hqp hg15 hb25 hlp1 hlq1 hm hn1 hn2 hlpe hlqe
        go_wp2_with fail
        refine HFT.out.mono ?_
        rintro e w6 ⟨hv, hb6⟩
        have HB6 := Lib.hid (HB5'.out.trans (hb6.mono HB5'.out.size))
        have hx1 := HG15.out.below hb6
        have hx2 := HG2.out.below hb6
        have HX1 := Lib.hid hx1
        have HX2 := Lib.hid hx2
        clear hb6 hx1 hx2 f0 f1 f2 f3
        rcases hv with ⟨rfl, hvals⟩ | ⟨rfl, hnv⟩
        · have HV := Lib.hid hvals
          clear hvals
          go_wp2
          go_ret3
          have hq := HQUO.out
          have hal := HAL.out
          have hlp := HLP.out
          have hlq := HLQ.out
          have hn1 := HN1.out
          have hn2 := HN2.out
          have hw : w.heap.size ≤ w3.heap.size := by have := HB3.out.size; have := HSZ2.out; omega
          refine ⟨.inl ⟨_, _, p, q, w4.heap.size, rfl, HX1.out.base hw, HX2.out, by have := HB4.out.size; omega, HOW.out, ?_⟩, HB0.out.trans (HB6.out.mono HB0.out.size)⟩
          refine ⟨HRI1.out, HRI2.out, HEP.out, HEQ.out, fun x hx1 hx2 => ?_, by have := hq.few; omega, by have := hq.more; omega, ?_⟩
          · have hxl : x < 2305843009213693951 := by have := HEP.out x hx1; omega
            exact hq.ap (Fld.to x) ⟨(HRF1.out.2.2 x hxl).1 hx1, (HRF2.out.2.2 x hxl).1 hx2⟩
          · rw [hal]
            exact vals_iff.1 HV.out
        · have hno : ∀ p q, ¬ Fit a b na nb p q := fun p' q' h => by
            obtain ⟨e1, e2⟩ := HQUO.out.fits p' q' h
            have hr1 : Pl.Rof f p' := by rw [e1]; exact rof_prodR h.up h.ep
            have hr2 : Pl.Rof g q' := by rw [e2]; exact rof_prodR h.uq h.eq
            have ep : p' = p := rof_uniq hr1 (rise_up h.up) HRF1.out (rise_up HRI1.out)
            have eq : q' = q := rof_uniq hr2 (rise_up h.uq) HRF2.out (rise_up HRI2.out)
            subst ep eq
            refine hnv (vals_iff.2 ?_)
            have hv := h.vals
            rw [HAL.out] at hv
            exact hv
          have HNO := Lib.hid hno
          clear hno hnv
          go_wp2
          go_ret3
          exact ⟨.inr ⟨rfl, HNO.out⟩, HB0.out.trans (HB6.out.mono HB0.out.size)⟩
      · have hno : ∀ p q, ¬ Fit a b na nb p q := fun p' q' h => by
          obtain ⟨e1, e2⟩ := HQUO.out.fits p' q' h
          have hr2 : Pl.Rof g q' := by rw [e2]; exact rof_prodR h.uq h.eq
          have h5 := HQUO.out.dg
          rw [e2] at h5
          have := h5.uniq (Pl.Dg.prodR q').1
          exact hno2 q' hr2 h.uq ⟨h.eq, by have := HN2.out; omega⟩
        have HNO := Lib.hid hno
        clear hno hno2
        go_wp2
        go_ret3
        exact ⟨.inr ⟨rfl, HNO.out⟩, HB0.out.trans (HB5'.out.mono HB0.out.size)⟩
    · have hno : ∀ p q, ¬ Fit a b na nb p q := fun p' q' h => by
        obtain ⟨e1, e2⟩ := HQUO.out.fits p' q' h
        have hr1 : Pl.Rof f p' := by rw [e1]; exact rof_prodR h.up h.ep
        have h5 := HQUO.out.df
        rw [e1] at h5
        have := h5.uniq (Pl.Dg.prodR p').1
        exact hno1 p' hr1 h.up ⟨h.ep, by have := HN1.out; omega⟩
      have HNO := Lib.hid hno
      clear hno hno1
      go_wp2_with fail
      refine HEL2.out.mono ?_
      rintro e w5 ⟨hr2, hb5⟩
      have HB5' := Lib.hid (HB4'.out.trans (hb5.mono HB4'.out.size))
      clear hb5
      rcases hr2 with ⟨y2, q, rfl, -, -, -, -, -⟩ | ⟨y2, rfl, -⟩
      · go_wp2
        go_ret3
        exact ⟨.inr ⟨rfl, HNO.out⟩, HB0.out.trans (HB5'.out.mono HB0.out.size)⟩
      · go_wp2
        go_ret3
        exact ⟨.inr ⟨rfl, HNO.out⟩, HB0.out.trans (HB5'.out.mono HB0.out.size)⟩
  · have HNO := Lib.hid hno
    clear hno
    go_wp2
    go_ret3
    exact ⟨.inr ⟨rfl, HNO.out⟩, HB0.out.trans (HB3.out.mono HB0.out.size)⟩
end Go.Proofs.Ytcbcmnbfflaicaa
