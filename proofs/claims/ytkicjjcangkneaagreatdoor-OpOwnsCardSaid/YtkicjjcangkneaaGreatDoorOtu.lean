/-
  An operation made of numbers: the reference's. No condition.
-/
import Derived.Test.YtkicjjcangkneaaGreatDoorOtt
import Derived.Test.YtkicjjcangkneaaGreatDoorOrd
import Derived.Deep.DeepCutAuto
import Derived.Deep.CutBlock
namespace Go.Proofs.YtkicjjcangkneaaGreatDoor
open Go.RowKit
attribute [local go_sem ↓] Go.wp_at_zero Go.wp_at_succ
set_option maxRecDepth 100000
namespace Ot
set_option maxHeartbeats 8000000 in
theorem op_any {w : World} (l : Ls Int) (hl : Lz kInt No w l) (hok : ∀ x ∈ l.l, i64 x) (hb : l.l.length ≤ 9223372036854775807) :
    Calls Tryz.prog 9 #[l.v] w fun e w' => ∃ o : LOp, e = .returned o.v ∧ GOp (l.l.take 60) o ∧ Lies No w' o ∧ Below w.heap.size w w' := by
  have hl1 := hl.bf (Bf.alloc w (.cells LOp.zero.cells 35))
  have HI := Lib.hid (ints_any l hl1 60 (by omega) hb)
  have HOK := Lib.hid hok
  have HB0 := Lib.hid ((Below.refl w.heap.size w).alloc (Nat.le_refl _) (.cells LOp.zero.cells 35))
  have HS0 := Lib.hid (show (w.alloc (.cells LOp.zero.cells 35)).heap.size = w.heap.size + 1 from by simp)
  have HR0 := Lib.hid (Vr.new w LOp.zero)
  obtain ⟨E, hE⟩ : ∃ E, E = w.heap.size := ⟨_, rfl⟩
  have HE := Lib.hid hE
  clear hl hl1 hok hb hE
  go_enter Tryz.func9, Tryz.ntmps9
  go_wp2_with fail
  rw [zc]
  refine (HI.out).mono ?_
  rintro e w1 ⟨⟨xs, yA, yc⟩, hres0, hy0, hgr, hb1⟩
  have hres : e = .returned (.slice yA xs.length yc) := hres0
  have hy : xs = l.l.take 60 := hy0
  clear hres0 hy0
  subst hres
  have htk : Tk w1.heap.size (w1.alloc (.cells #[.slice yA xs.length yc, .int .i64 0] 73)) xs 0 := by
    refine ⟨⟨yA, yc, blk_new w1 73 _, ((hgr.lz (F := No) (fun _ h => h.elim)).step (Bf.alloc w1 _) fun k hk hT => ?_)⟩, ?_, fun x hx => ?_⟩
    · have hT : w1.heap.size ≤ k := hT; omega
    · rw [hy, List.length_take]; omega
    · rw [hy] at hx; exact HOK.out x (List.mem_of_mem_take hx)
  have HY := Lib.hid hy
  have HB1 := Lib.hid ((HB0.out.trans (hb1.mono (by rw [HS0.out]; omega))).alloc (show w.heap.size ≤ w1.heap.size by have := hb1.size; rw [HS0.out] at this; omega) (.cells #[.slice yA xs.length yc, .int .i64 0] 73))
  have HT0 := Lib.hid htk
  have HS1 := Lib.hid (show E < w1.heap.size by have := hb1.size; rw [HS0.out] at this; have := HE.out; omega)
  have hR1 : Vr (w1.alloc (.cells #[.slice yA xs.length yc, .int .i64 0] 73)) w.heap.size LOp.zero := blk_alloc (show Vr w1 w.heap.size LOp.zero from HR0.out.below hb1 (by rw [HS0.out]; omega)) _
  have HR1 := Lib.hid hR1
  obtain ⟨T, hT⟩ : ∃ T, T = w1.heap.size := ⟨_, rfl⟩
  have hsT : (w1.alloc (.cells #[.slice yA xs.length yc, .int .i64 0] 73)).heap.size = T + 1 := by rw [hT]; simp
  obtain ⟨w2, hw2⟩ : ∃ w2, w2 = w1.alloc (.cells #[.slice yA xs.length yc, .int .i64 0] 73) := ⟨_, rfl⟩
  rw [← hw2] at HT0 HB1 HR1 hsT
  rw [← hT] at HT0 HS1
  have HW2 := Lib.hid hw2
  have HTT := Lib.hid hT
  have HST := Lib.hid hsT
  have a0 := nx_lt xs (0) (show 0 < 13 by omega)
  obtain ⟨r0, hr0⟩ : ∃ r, r = nx xs (0) 13 := ⟨_, rfl⟩
  rw [← hr0] at a0
  have HRR0 := Lib.hid hr0
  have v0 := wrap_i1 r0 (by omega)
  have a1 := nx_lt xs (0 + 1) (show 0 < 6 by omega)
  obtain ⟨r1, hr1⟩ : ∃ r, r = nx xs (0 + 1) 6 := ⟨_, rfl⟩
  rw [← hr1] at a1
  have HRR1 := Lib.hid hr1
  have v1 := wrap_i1 r1 (by omega)
  have a2 := nx_lt xs (0 + 1 + 1) (show 0 < 20 by omega)
  obtain ⟨r2, hr2⟩ : ∃ r, r = nx xs (0 + 1 + 1) 20 := ⟨_, rfl⟩
  rw [← hr2] at a2
  have HRR2 := Lib.hid hr2
  have v2 := wrap_i1 r2 (by omega)
  have a3 := nx_lt xs (0 + 1 + 1 + 1) (show 0 < 500 by omega)
  obtain ⟨r3, hr3⟩ : ∃ r, r = nx xs (0 + 1 + 1 + 1) 500 := ⟨_, rfl⟩
  rw [← hr3] at a3
  have HRR3 := Lib.hid hr3
  have v3 := wrap_i1 r3 (by omega)
  have HN0 := Lib.hid (next_any HT0.out (by omega) 13 (by omega) (by omega))
  rw [← HRR0.out] at HN0
  clear hgr hb1 hy htk hT hsT hw2 hr0 hr1 hr2 hr3 hR1
  go_wp2_with fail
  rw [← HW2.out, ← HTT.out]
  refine (HN0.out).mono ?_
  rintro e w3 ⟨rfl, ht, hg⟩
  have HT1 := Lib.hid (show Tn T w2 w3 xs _ from ⟨ht, hg⟩)
  have HN1 := Lib.hid (next_any ht (by omega) 6 (by omega) (by omega))
  rw [← HRR1.out] at HN1
  clear ht hg HN0
  go_wp2_with fail
  refine (HN1.out).mono ?_
  rintro e w4 ⟨rfl, ht, hg⟩
  have HT2 := Lib.hid (Tn.trans HT1.out (show Tn T w3 w4 xs _ from ⟨ht, hg⟩))
  have HN2 := Lib.hid (next_any ht (by omega) 20 (by omega) (by omega))
  rw [← HRR2.out] at HN2
  clear ht hg HN1 HT1
  go_wp2_with fail
  refine (HN2.out).mono ?_
  rintro e w5 ⟨rfl, ht, hg⟩
  have HT3 := Lib.hid (Tn.trans HT2.out (show Tn T w4 w5 xs _ from ⟨ht, hg⟩))
  have HN3 := Lib.hid (next_any ht (by omega) 500 (by omega) (by omega))
  rw [← HRR3.out] at HN3
  clear ht hg HN2 HT2
  go_wp2_with fail
  refine (HN3.out).mono ?_
  rintro e w6 ⟨rfl, ht, hg⟩
  have HT4 := Lib.hid (Tn.trans HT3.out (show Tn T w5 w6 xs _ from ⟨ht, hg⟩))
  clear ht hg HN3 HT3
  obtain ⟨o, ho⟩ : ∃ o : LOp, o = { LOp.zero with kind := 1 + (r0 : Int), by_ := 1 + (r1 : Int), seq := 1 + (r2 : Int), at_ := (r3 : Int) } := ⟨_, rfl⟩
  have HO := Lib.hid ho
  have HV0 := Lib.hid (Vr.new w6 LOp.zero)
  have HMK := Lib.hid (show Mk E (w6.heap.size + 1) T w6.heap.size w ((w6.alloc (.cells LOp.zero.cells 35)).setRow w6.heap.size o.cells) xs 4 o from by
    have hs := HT4.out.2.size
    have h1 := HST.out
    have h2 := HS1.out
    have hE := HE.out
    have hg := (World.grownBy_alloc w6 (.cells LOp.zero.cells 35) none).andThen (row := none) (grown_setRow _ w6.heap.size o.cells) fun j ej => by injection ej with ej; exact .inl (by omega)
    refine ⟨(Vr.new w6 LOp.zero).setRow o, ?_, HT4.out.1.bf (F := No) (Bf.grown hg fun g eg => by cases eg) (fun _ h => h.elim), ?_, ⟨by omega, by omega, by omega, by show _ ≤ (World.setRow _ _ _).heap.size; have := (grown_setRow (w6.alloc (.cells LOp.zero.cells 35)) w6.heap.size o.cells).size; simp⟩, ?_⟩
    · rw [ho]; exact (Lies.zero _ _).plain _ _ _ _ _ _ _ _ _ _ _ _ _ _ _
    · exact ((HE.out ▸ HB1.out).grown HT4.out.2 (by omega) fun g eg => by injection eg with eg; omega).grown hg (by omega) fun g eg => by cases eg
    · exact blk_grown (blk_grown (HE.out ▸ HR1.out) HT4.out.2 fun eg => by injection eg with eg; omega) hg fun eg => by cases eg)
  obtain ⟨ov, hov⟩ : ∃ ov, ov = o.v := ⟨_, rfl⟩
  have HOV := Lib.hid hov
  clear ho hov
  go_upto_region 3 with (first | (refine wpList_build_four rfl (.tmp 17) (.tmp 20) (.tmp 23) (.tmp 25) rfl rfl rfl rfl rfl ?_) | (refine wpList_store_op (o' := o) rfl _ _ rfl rfl (by rw [HO.out]; rfl) HV0.out ?_))
  obtain ⟨W, hW⟩ : ∃ W, W = (w6.alloc (.cells LOp.zero.cells 35)).setRow w6.heap.size o.cells := ⟨_, rfl⟩
  rw [← hW] at HMK
  rw [zc, ← hW]
  obtain ⟨V, hV⟩ : ∃ V, V = w6.heap.size := ⟨_, rfl⟩
  obtain ⟨ow, how⟩ : ∃ ow, ow = { LOp.zero with kind := 1 + (r0 : Int), by_ := 1 + (r1 : Int), seq := 1 + (r2 : Int), at_ := (r3 : Int) }.v := ⟨_, rfl⟩
  rw [← how, ← hV]
  rw [← hV] at HMK
  obtain ⟨kd0, hkd⟩ : ∃ k : Int, k = o.kind := ⟨_, rfl⟩
  have hkk : kd0 = 1 + (r0 : Int) := by rw [hkd, HO.out]
  have HKD := Lib.hid hkd
  have HKK := Lib.hid hkk
  have c2 := (HMK.out.vr.cell 2).trans o.c2
  rw [← hkd] at c2
  clear hW hV how hkd hkk HV0 HT4
  go_upto_if 29 with (fail)
  go_cut [] (fun wx => ∃ (o' : LOp) (i : Nat) (W' : World), W' = wx ∧ Mk E (V + 1) T V w W' xs i o' ∧ i ≤ 20 ∧ PastOk o o')
  case first =>
   as_aux_lemma =>
    by_cases hk1 : r0 = 0
    · have q1 : (kd0 != 1) = false := by rw [HKK.out, hk1]; rfl
      have HK1 := Lib.hid hk1
      clear hk1 c2
      go_wp2
      go_meet
      have ho1 : o.kind = 1 := by rw [← HKD.out, HKK.out, HK1.out]; rfl
      have ho2 : o.past.l = [] := by rw [HO.out]; rfl
      exact ⟨o, 4, W, rfl, HMK.out, by omega, ⟨rfl, fun _ => ho2, fun h => absurd ho1 h, (by rw [ho2]; exact Nat.zero_le _), (by rw [ho2]; exact (fun _ h => nomatch h)), (by rw [ho2]; exact List.Pairwise.nil)⟩⟩
    · have q1 : (kd0 != 1) = true := by rw [bne_iff_ne, HKK.out]; omega
      have HK1 := Lib.hid (show o.kind ≠ 1 by rw [← HKD.out, HKK.out]; omega)
      have a4 := nx_lt xs 4 (show 0 < 3 by omega)
      obtain ⟨r4, hr4⟩ : ∃ r, r = nx xs 4 3 := ⟨_, rfl⟩
      rw [← hr4] at a4
      have v4 := wrap_i1 r4 (by omega)
      have HN4 := Lib.hid (next_any HMK.out.tk (by omega) 3 (by omega) (by omega))
      rw [← hr4] at HN4
      clear hk1 hr4
      go_wp2_with fail
      refine (HN4.out).mono ?_
      rintro e w7 ⟨rfl, htn⟩
      have HM7 := Lib.hid (HMK.out.tn htn)
      have HSP := Lib.hid (show o.past = Ls.nil by rw [HO.out]; rfl)
      clear htn HN4 c2
      obtain ⟨B, hB⟩ : ∃ B, B = w7.heap.size := ⟨_, rfl⟩
      have HB := Lib.hid hB
      have hVB : V + 1 ≤ B := by rw [hB]; exact HM7.out.ord.2.2.2
      obtain ⟨n0, hn0⟩ : ∃ n0, n0 = 1 + r4 := ⟨_, rfl⟩
      have hn3 : n0 ≤ 3 := by omega
      have hn1 : 1 ≤ n0 := by omega
      have e4 : 1 + (r4 : Int) = (n0 : Int) := by omega
      clear hB hn0 a4
      go_wp2
      go_loopw [5, 6] (fun cv _ wr => ∃ (c : Nat) (x : Ls Pk.Nm) (i : Nat), cv = .int .i64 (c : Int) ∧ c ≤ n0 ∧ x.l.length + c ≤ n0 ∧ (c < n0 → 0 < x.l.length) ∧ (∀ y ∈ x.l, GNm y) ∧ x.l.Nodup ∧ Gr kNm B wr x ∧ Mk E (V + 1) T V w wr xs i { o with past := x } ∧ i ≤ 5 + 3 * (n0 - c) ∧ B ≤ wr.heap.size) (fun cv _ _ => (intOf cv).toNat)
      case atStart => exact ⟨n0, Ls.nil, 5, rfl, Nat.le_refl _, by show 0 + n0 ≤ n0; omega, by omega, (fun _ h => nomatch h), List.nodup_nil, Gr.nil B w7, by have h := HM7.out; rw [show o = { o with past := Ls.nil } from by rw [← HSP.out]] at h; exact h, by omega, Nat.le_of_eq HB.out⟩
      case round =>
        obtain ⟨c, x, i, rfl, hc, hxc, hxp, hgood, hnd, hgr, hmk, hi, hBw⟩ := hrel
        have HGOOD := Lib.hid hgood
        have HND := Lib.hid hnd
        have HGR := Lib.hid hgr
        have HMKR := Lib.hid hmk
        have HXP := Lib.hid hxp
        obtain ⟨wo, rfl⟩ : ∃ wo, wo = wr := ⟨_, rfl⟩
        have hTV := hmk.ord
        by_cases hc0 : 0 < c
        · have q6_ : decide ((0 : Int) < (c : Int)) = true := decide_eq_true (by omega)
          have q7_ : decide (0 < c) = true := decide_eq_true hc0
          have HC0 := Lib.hid hc0
          have HNM := Lib.hid (name_any hmk.tk (by omega))
          clear hgood hnd hgr hmk hxp hc0
          go_wp2_with fail
          refine (HNM.out).mono ?_
          rintro e w8 ⟨y, rfl, hyg, htn⟩
          have HYG := Lib.hid hyg
          have HM8 := Lib.hid ((HMKR.out.tn htn).alloc (.cells #[.int .i64 y.a, .int .i64 y.b, .int .u64 (y.c : Int)] 27))
          have hgr8 := (HGR.out.grown htn.2 fun g eg => by injection eg with eg; omega).below ((Below.refl _ w8).alloc (Nat.le_refl _) (.cells #[.int .i64 y.a, .int .i64 y.b, .int .u64 (y.c : Int)] 27))
          have HGR8 := Lib.hid hgr8
          have HS8 := Lib.hid (show B ≤ w8.heap.size from Nat.le_trans hBw htn.2.size)
          have HIT := Lib.hid (blk_new w8 27 #[.int .i64 y.a, .int .i64 y.b, .int .u64 (y.c : Int)])
          have HHS := Lib.hid (hasid_any x (hgr8.lz fun k hk => hk.elim) (by omega) y)
          have c4 := (HM8.out.vr.cell 4).trans (LOp.c4 { o with past := x })
          clear hyg htn hgr8 HNM
          go_wp2_with fail
          refine (HHS.out).mono ?_
          rintro e w9 ⟨r, rfl, hr, hb9⟩
          have HM9 := Lib.hid (HM8.out.below hb9)
          have HS9 := Lib.hid (show B ≤ w9.heap.size by have h5 := hb9.size; have h6 := HS8.out; simp at h5; omega)
          have HGR9 := Lib.hid (HGR8.out.below hb9)
          have HIT9 := Lib.hid (HIT.out.below hb9 HIT.out.lt)
          cases r with
          | true =>
            have HIN := Lib.hid (hr.1 rfl)
            clear hr hb9 HHS HIT c4
            go_wp2
            go_roundw
            case rel => have := HC0.out; exact ⟨c - 1, x, i + 3, by rw [show ((c : Int) - 1) = ((c - 1 : Nat) : Int) by omega], by omega, by omega, fun _ => List.length_pos_of_mem HIN.out, HGOOD.out, HND.out, HGR9.out, HM9.out, by omega, HS9.out⟩
            case measure => have := HC0.out; simp [intOf]; omega
          | false =>
            have HNI := Lib.hid (show y ∉ x.l from fun h => by have := hr.2 h; cases this)
            have c4 := (HM9.out.vr.cell 4).trans (LOp.c4 { o with past := x })
            have g0 := HIT9.out.cell 0
            have g1 := HIT9.out.cell 1
            have g2 := HIT9.out.cell 2
            have HSRC := Lib.hid (show ∀ j u, (kNm.cells [y])[j]? = some u → (w9.alloc (.cells #[.int .i64 y.a, .int .i64 y.b, .int .u64 (y.c : Int)] 27)).cell? ((⟨w9.heap.size, 0, none⟩ : Addr).add j) = some u from fun j u hu => by rw [kNm.cells_one] at hu; exact cell_new w9 #[.int .i64 y.a, .int .i64 y.b, .int .u64 (y.c : Int)] 27 j u hu)
            have HGA := Lib.hid (HGR9.out.below ((Below.refl _ w9).alloc (Nat.le_refl _) (.cells #[.int .i64 y.a, .int .i64 y.b, .int .u64 (y.c : Int)] 27)))
            have HMA := Lib.hid (HM9.out.alloc (.cells #[.int .i64 y.a, .int .i64 y.b, .int .u64 (y.c : Int)] 27))
            have HSB := Lib.hid (show B ≤ (w9.alloc (.cells #[.int .i64 y.a, .int .i64 y.b, .int .u64 (y.c : Int)] 27)).heap.size from Nat.le_trans HS9.out (by simp))
            clear hr hb9 HHS HIT
            go_wp2_with (at_builtin; refine wpList_push1 ki_nm rfl _ _ rfl B x HGA.out rfl _ 1 1 [y] rfl rfl (by omega) HSRC.out (by simp only [List.length_singleton]; omega) HSB.out ?_; intro z w10 hz hgr10 hgw10 _; have hv10 := blk_grown HMA.out.vr hgw10 (fun eg => by have h5 := (HGA.out.lt V eg.symm).1; omega); have k4 := (hv10.cell 4).trans (LOp.c4 { o with past := x }); have kf := hv10.frozen 4; have HZ := Lib.hid hz; have HGR10 := Lib.hid hgr10; have HGW10 := Lib.hid hgw10; have HV10 := Lib.hid hv10; clear hz hgr10 hgw10 hv10 c4 g0 g1 g2; rw [show z.v = .slice z.A z.l.length z.c from rfl])
            have hzl : z.l.length = x.l.length + 1 := by rw [HZ.out, List.length_append]; rfl
            have hbf : Bf (fun k => k = V ∨ V + 1 ≤ k) (w9.alloc (.cells #[.int .i64 y.a, .int .i64 y.b, .int .u64 (y.c : Int)] 27)) (w10.setCell ⟨V, 4, none⟩ (.slice z.A z.l.length z.c)) :=
              (Bf.grown HGW10.out fun g eg => .inr (by have h5 := (HGA.out.lt g eg).1; omega)).trans (Bf.set w10 (.inl rfl))
            have hvz : Vr (w10.setCell ⟨V, 4, none⟩ (.slice z.A z.l.length z.c)) V { o with past := z } := Vr.set (o := { o with past := x }) HV10.out 4 _ { o with past := z } rfl
            have hgz : Gr kNm B (w10.setCell ⟨V, 4, none⟩ (.slice z.A z.l.length z.c)) z := HGR10.out.bf (F := fun k => k = V) (Bf.set w10 rfl) fun k hk => by omega
            have hlz : Lies (Til (V + 1)) (w10.setCell ⟨V, 4, none⟩ (.slice z.A z.l.length z.c)) { o with past := z } := by
              have h0 : Lies (Til (V + 1)) (w10.setCell ⟨V, 4, none⟩ (.slice z.A z.l.length z.c)) { LOp.zero with kind := o.kind, by_ := o.by_, seq := o.seq, at_ := o.at_ } := (Lies.zero _ _).plain _ _ _ _ _ _ _ _ _ _ _ _ _ _ _
              rw [HO.out]
              have h1 := h0.past_ (hgz.lz (F := Til (V + 1)) fun k hk => by have hk : k < V + 1 := hk; omega)
              rw [HO.out] at h1
              exact h1
            have HMZ := Lib.hid (HMA.out.step hbf hvz hlz)
            have HGZ := Lib.hid hgz
            have HZL := Lib.hid hzl
            have HSZ := Lib.hid (show B ≤ (w10.setCell ⟨V, 4, none⟩ (.slice z.A z.l.length z.c)).heap.size from Nat.le_trans HSB.out hbf.size)
            clear hbf hvz hgz hlz hzl
            go_roundw
            case rel =>
              have := HC0.out
              have := HZL.out
              refine ⟨c - 1, z, i + 3, by rw [show ((c : Int) - 1) = ((c - 1 : Nat) : Int) by omega], by omega, by omega, fun _ => by omega, ?_, ?_, HGZ.out, HMZ.out, by omega, HSZ.out⟩
              · intro y' hy'
                rw [HZ.out] at hy'
                rcases List.mem_append.1 hy' with h1 | h1
                · exact HGOOD.out y' h1
                · rw [List.mem_singleton.1 h1]; exact HYG.out
              · rw [HZ.out]
                refine List.nodup_append.2 ⟨HND.out, List.pairwise_singleton _ _, fun a ha b hb e => ?_⟩
                rw [List.mem_singleton.1 hb] at e
                exact HNI.out (e ▸ ha)
            case measure => have := HC0.out; simp [intOf]; omega
        · have hc00 : c = 0 := by omega
          have q6_ : decide ((0 : Int) < (c : Int)) = false := decide_eq_false (by omega)
          have q7_ : decide (0 < c) = false := decide_eq_false hc0
          have hle : x.l.length ≤ 3 := by omega
          have HSO := Lib.hid (sorted_any x (hgr.lz (F := No) fun _ h => h.elim) (by omega))
          have HPO := Lib.hid (show 0 < x.l.length from hxp (by omega))
          have c4 := (hmk.vr.cell 4).trans (LOp.c4 { o with past := x })
          have HLE := Lib.hid hle
          clear hgood hnd hgr hmk hxp hc0 hle
          go_wp2_with fail
          refine (HSO.out).mono ?_
          rintro e w8 ⟨z, rfl, hzl, hins, hgz0, hb8⟩
          have HM8 := Lib.hid (HMKR.out.below hb8)
          have HZL := Lib.hid hzl
          have HINS := Lib.hid hins
          have HGZ := Lib.hid hgz0
          have k4 := ((HMKR.out.below hb8).vr.cell 4).trans (LOp.c4 { o with past := x })
          have kf := (HMKR.out.below hb8).vr.frozen 4
          clear hzl hins hgz0 hb8 c4 HSO
          go_wp2
          go_meet
          have hbf : Bf (fun k => k = V ∨ V + 1 ≤ k) w8 (w8.setCell ⟨V, 4, none⟩ (.slice z.A z.l.length z.c)) := Bf.set w8 (.inl rfl)
          have hvz : Vr (w8.setCell ⟨V, 4, none⟩ (.slice z.A z.l.length z.c)) V { o with past := z } := Vr.set (o := { o with past := x }) HM8.out.vr 4 _ { o with past := z } rfl
          have hgz : Gr kNm wo.heap.size (w8.setCell ⟨V, 4, none⟩ (.slice z.A z.l.length z.c)) z := HGZ.out.bf (F := fun k => k = V) (Bf.set w8 rfl) fun k hk => by have := HMKR.out.ord; omega
          have hlz : Lies (Til (V + 1)) (w8.setCell ⟨V, 4, none⟩ (.slice z.A z.l.length z.c)) { o with past := z } := by
            have h0 : Lies (Til (V + 1)) (w8.setCell ⟨V, 4, none⟩ (.slice z.A z.l.length z.c)) { LOp.zero with kind := o.kind, by_ := o.by_, seq := o.seq, at_ := o.at_ } := (Lies.zero _ _).plain _ _ _ _ _ _ _ _ _ _ _ _ _ _ _
            rw [HO.out]
            have h1 := h0.past_ (hgz.lz (F := Til (V + 1)) fun k hk => by have hk : k < V + 1 := hk; have := HMKR.out.ord; omega)
            rw [HO.out] at h1
            exact h1
          refine ⟨{ o with past := z }, i, w8.setCell ⟨V, 4, none⟩ (.slice z.A z.l.length z.c), rfl, HM8.out.step hbf hvz hlz, by omega, ⟨rfl, fun h => absurd h HK1.out, fun _ => ?_, ?_, fun y hy => HGOOD.out y (HINS.out.1.mem_iff.1 hy), HINS.out.2 HND.out⟩⟩
          · show 0 < z.l.length
            rw [HZL.out]; exact HPO.out
          · show z.l.length ≤ 3
            rw [HZL.out]; exact HLE.out
  case rest =>
    obtain ⟨o1, i1, W1, rfl, hmk1, hi1, hpo⟩ := hcut
    have hkd1 : o1.kind = kd0 := (congrArg LOp.kind hpo.eq).trans HKD.out.symm
    have HM1 := Lib.hid hmk1
    have HPO := Lib.hid hpo
    have HKD1 := Lib.hid hkd1
    have HP0 := Lib.hid (show o1.path = Ls.nil from (congrArg LOp.path hpo.eq).trans (show o.path = Ls.nil by rw [HO.out]; rfl))
    have hTV := hmk1.ord
    have c2 := (hmk1.vr.cell 2).trans o1.c2
    rw [hkd1] at c2
    have HC := Lib.hid (rcommit_any kd0 W1)
    clear hmk1 hpo hkd1
    go_wp2_with fail
    with_reducible refine (HC.out).mono ?_
    rintro e w2 ⟨rfl, rfl⟩
    obtain ⟨bc, hbc⟩ : ∃ bc, bc = isCommit kd0 := ⟨_, rfl⟩
    rw [← hbc]
    have HBC := Lib.hid hbc
    clear hbc HC
    go_upto_if 56 with (fail)
    go_cut [] (fun wx => ∃ (o' : LOp) (i : Nat) (W' : World), W' = wx ∧ Mk E (V + 1) T V w W' xs i o' ∧ i ≤ 60 ∧ PathOk o1 o')
    case first =>
     as_aux_lemma =>
      cases bc with
      | false =>
        go_wp2
        go_meet
        exact ⟨o1, i1, W1, rfl, HM1.out, by omega, ⟨rfl, fun _ => (by rw [HP0.out]; rfl), (by rw [HP0.out]; exact Nat.zero_le _), (by rw [HP0.out]; exact fun _ h => nomatch h)⟩⟩
      | true =>
        have HBT := Lib.hid (show isCommit o1.kind = true by rw [HKD1.out]; exact HBC.out.symm)
        have a5 := nx_lt xs i1 (show 0 < 3 by omega)
        obtain ⟨r5, hr5⟩ : ∃ r, r = nx xs i1 3 := ⟨_, rfl⟩
        rw [← hr5] at a5
        have v5 := wrap_i1 r5 (by omega)
        have HN5 := Lib.hid (next_lit HM1.out.tk (by omega) 3 3 (by omega) (by omega) rfl hr5)
        clear hr5 c2
        go_wp2_with fail
        with_reducible refine (HN5.out).mono ?_
        rintro e w7 ⟨rfl, htn⟩
        have HG7 := Lib.hid (Pg.nil (K := kNd) (fld := sPath) (N := nPath) (HM1.out.tn htn) (by have h := HP0.out; show { o1 with path := Ls.nil } = o1; rw [← h]))
        clear htn HN5
        obtain ⟨B, hB⟩ : ∃ B, B = w7.heap.size := ⟨_, rfl⟩
        rw [← hB] at HG7
        have hVB : V + 1 ≤ B := HG7.out.nB
        obtain ⟨n0, hn0⟩ : ∃ n0, n0 = 1 + r5 := ⟨_, rfl⟩
        have hn3 : n0 ≤ 3 := by omega
        have hn1 : 1 ≤ n0 := by omega
        have e4 : 1 + (r5 : Int) = (n0 : Int) := by omega
        clear hB hn0 a5 v5
        go_wp2
        go_loopw [7] (fun cv wr => ∃ (c : Nat) (x : Ls LNd) (i : Nat), cv = .int .i64 (c : Int) ∧ c ≤ n0 ∧ x.l.length + c = n0 ∧ (∀ y ∈ x.l, 1 ≤ y.pub ∧ y.pub ≤ 1000 ∧ y.boxes.l.length ≤ 2 ∧ ∀ b ∈ y.boxes.l, GBx b) ∧ Pg kNd sPath nPath E (V + 1) T V B w wr xs i o1 x ∧ i ≤ i1 + 1 + 10 * (n0 - c)) (fun cv _ => (intOf cv).toNat)
        case atStart => exact ⟨n0, Ls.nil, i1 + 1, rfl, Nat.le_refl _, (by show 0 + n0 = n0; omega), (fun _ h => nomatch h), HG7.out, by omega⟩
        case round =>
          obtain ⟨c, x, i, rfl, hc, hxc, hgood, hpg, hi⟩ := hrel
          have HGOOD := Lib.hid hgood
          have HPG := Lib.hid hpg
          obtain ⟨wo, rfl⟩ : ∃ wo, wo = wr := ⟨_, rfl⟩
          by_cases hc0 : 0 < c
          · have q6_ : decide ((0 : Int) < (c : Int)) = true := decide_eq_true (by omega)
            have q7_ : decide (0 < c) = true := decide_eq_true hc0
            have HC0 := Lib.hid hc0
            have a0 := nx_lt xs i (show 0 < 1000 by omega)
            obtain ⟨p0, hp0⟩ : ∃ r, r = nx xs i 1000 := ⟨_, rfl⟩
            rw [← hp0] at a0
            have a1 := nx_lt xs (i + 1) (show 0 < 3 by omega)
            obtain ⟨p1, hp1⟩ : ∃ r, r = nx xs (i + 1) 3 := ⟨_, rfl⟩
            rw [← hp1] at a1
            have HP1 := Lib.hid hp1
            have u0 := wrap_u p0 (by omega)
            have v0 := wrap_u1 p0 (by omega)
            have HD := Lib.hid (hpg.drew mv_path)
            have HNA := Lib.hid (next_lit HD.out.me.tk (by omega) 1000 1000 (by omega) (by omega) rfl hp0)
            have c9 := (HD.out.me.vr.cell 9).trans (LOp.c9 (sPath o1 x))
            clear hgood hpg hc0 hp0 hp1 HPG
            go_wp2
            refine Ord.start (by kernel_rfl) ?_
            try simp only [Act.put, List.getElem_toArray, List.getElem_cons_succ, List.getElem_cons_zero, List.setIfInBounds_toArray, List.set_cons_zero, List.set_cons_succ]
            refine wpAny_take (i := 0) (v := ?_) rfl (by kernel_rfl) (by kernel_rfl) (by kernel_rfl) (fun _ _ _ h => h) (Or.inl ⟨by rfl, ?_⟩) ?_
            rotate_left
            · (intro w; go_simp; try (with_reducible rfl))
            try simp only [Act.put, List.getElem_toArray, List.getElem_cons_zero, List.setIfInBounds_toArray, List.set_cons_zero, List.set_cons_succ]
            refine Ord.load_first [12, 14] (fun w' : World => w'.cell? ⟨V, 9, none⟩ = some (.slice x.A x.l.length x.c)) (i := 1) (v := ?_) rfl (by kernel_rfl) (by kernel_rfl) (by kernel_rfl) (by kernel_rfl) (by kernel_rfl) (fun _ _ _ h => h) (Or.inl ⟨by rfl, ?_⟩) c9 ?_
            rotate_left
            · (intro w hSw; (try dsimp only at hSw); go_simp; try (with_reducible rfl))
            try simp only [Act.put, List.getElem_toArray, List.getElem_cons_succ, List.getElem_cons_zero, List.setIfInBounds_toArray, List.set_cons_zero, List.set_cons_succ]
            refine Ord.AnyR.take (i := 2) (v := ?_) rfl (by kernel_rfl) (by kernel_rfl) (by kernel_rfl) (fun _ _ _ h => h) (fun _ _ h => h) (Or.inl ⟨by rfl, ?_⟩) ?_
            rotate_left
            · (intro w; go_simp; try (with_reducible rfl))
            try simp only [Act.put, List.getElem_toArray, List.getElem_cons_succ, List.getElem_cons_zero, List.setIfInBounds_toArray, List.set_cons_zero, List.set_cons_succ]
            refine Ord.AnyR.take (i := 6) (v := ?_) rfl (by kernel_rfl) (by kernel_rfl) (by kernel_rfl) (fun _ _ _ h => h) (fun _ _ h => h) (Or.inl ⟨by rfl, ?_⟩) ?_
            rotate_left
            · (intro w; go_simp; try (with_reducible rfl))
            try simp only [Act.put, List.getElem_toArray, List.getElem_cons_succ, List.getElem_cons_zero, List.setIfInBounds_toArray, List.set_cons_zero, List.set_cons_succ]
            refine Ord.AnyR.take (i := 7) (v := ?_) rfl (by kernel_rfl) (by kernel_rfl) (by kernel_rfl) (fun _ _ _ h => h) (fun _ _ h => h) (Or.inl ⟨by rfl, ?_⟩) ?_
            rotate_left
            · (intro w; go_simp; try (with_reducible rfl))
            try simp only [Act.put, List.getElem_toArray, List.getElem_cons_succ, List.getElem_cons_zero, List.setIfInBounds_toArray, List.set_cons_zero, List.set_cons_succ]
            refine Ord.AnyR.ready1 (i := 3) (by kernel_rfl) rfl (fun K hK => ?_)
            go_simp
            with_reducible refine (HNA.out).mono ?_
            rintro e w8 ⟨rfl, htn⟩
            have HG8 := Lib.hid (HD.out.tn mv_path htn)
            have HNB := Lib.hid (next_lit HG8.out.me.tk (by omega) 3 3 (by omega) (by omega) rfl HP1.out)
            clear htn HNA HD c9
            try go_simp
            refine hK.out _ _ (fun _ _ => (HG8.out.me.vr.cell 9).trans (LOp.c9 (sPath o1 x))) ?_
            clear hK K
            try simp only [Act.put, List.getElem_toArray, List.getElem_cons_succ, List.getElem_cons_zero, List.setIfInBounds_toArray, List.set_cons_zero, List.set_cons_succ]
            refine Ord.AnyR.take (i := 4) (v := ?_) rfl (by kernel_rfl) (by kernel_rfl) (by kernel_rfl) (fun _ _ _ h => h) (fun _ _ h => h) (Or.inl ⟨by rfl, ?_⟩) ?_
            rotate_left
            · (intro w; go_simp; try (with_reducible rfl))
            try simp only [Act.put, List.getElem_toArray, List.getElem_cons_succ, List.getElem_cons_zero, List.setIfInBounds_toArray, List.set_cons_zero, List.set_cons_succ]
            refine Ord.AnyR.take (i := 5) (v := ?_) rfl (by kernel_rfl) (by kernel_rfl) (by kernel_rfl) (fun _ _ _ h => h) (fun _ _ h => h) (Or.inl ⟨by rfl, ?_⟩) ?_
            rotate_left
            · (intro w; go_simp; try (with_reducible rfl))
            try simp only [Act.put, List.getElem_toArray, List.getElem_cons_succ, List.getElem_cons_zero, List.setIfInBounds_toArray, List.set_cons_zero, List.set_cons_succ]
            refine Ord.AnyR.ready1 (i := 8) (by kernel_rfl) rfl (fun K hK => ?_)
            go_simp
            with_reducible refine (HNB.out).mono ?_
            rintro e w9 ⟨rfl, htn⟩
            have HG9 := Lib.hid (HG8.out.tn mv_path htn)
            have HBX := Lib.hid (boxes_lit HG9.out.me.tk (p1 : Int) p1 (by omega) (by omega) rfl)
            clear htn HNB HG8
            try go_simp
            refine hK.out _ _ (fun _ _ => (HG9.out.me.vr.cell 9).trans (LOp.c9 (sPath o1 x))) ?_
            clear hK K
            try simp only [Act.put, List.getElem_toArray, List.getElem_cons_succ, List.getElem_cons_zero, List.setIfInBounds_toArray, List.set_cons_zero, List.set_cons_succ]
            refine Ord.AnyR.ready1 (i := 9) (by kernel_rfl) rfl (fun K hK => ?_)
            go_simp
            with_reducible refine (HBX.out).mono ?_
            rintro e w10 ⟨yb, rfl, hyl, hyg, hyr, htn⟩
            have HYB := Lib.hid (HG9.out.in_ hyr |>.bf (Bf.alloc w10 (.cells #[.int .u64 ((1 + p0 : Nat) : Int), .slice yb.A yb.l.length yb.c] 66)))
            have HG10 := Lib.hid (HG9.out.tn mv_path htn)
            have HYL := Lib.hid hyl
            have HYG := Lib.hid hyg
            clear htn hyl hyg hyr HBX HG9
            try go_simp
            refine hK.out _ _ (fun _ _ => (HG10.out.me.vr.cell 9).trans (LOp.c9 (sPath o1 x))) ?_
            clear hK K
            try simp only [Act.put, List.getElem_toArray, List.getElem_cons_succ, List.getElem_cons_zero, List.setIfInBounds_toArray, List.set_cons_zero, List.set_cons_succ]
            refine Ord.AnyR.take (i := 10) (v := ?_) rfl (by kernel_rfl) (by kernel_rfl) (by kernel_rfl) (fun _ _ _ h => h) (fun _ _ h => h) (Or.inl ⟨by rfl, ?_⟩) ?_
            rotate_left
            · (intro w; go_simp; try (with_reducible rfl))
            try simp only [Act.put, List.getElem_toArray, List.getElem_cons_succ, List.getElem_cons_zero, List.setIfInBounds_toArray, List.set_cons_zero, List.set_cons_succ]
            refine Ord.AnyR.ready1 (i := 11) (by kernel_rfl) rfl (fun K hK => ?_)
            go_simp
            have HGA := Lib.hid (HG10.out.alloc mv_path (.cells #[.int .u64 ((1 + p0 : Nat) : Int), .slice yb.A yb.l.length yb.c] 66))
            have HSRC := Lib.hid (show ∀ j u, (kNd.cells [⟨1 + p0, yb⟩])[j]? = some u → (w10.alloc (.cells #[.int .u64 ((1 + p0 : Nat) : Int), .slice yb.A yb.l.length yb.c] 66)).cell? ((⟨w10.heap.size, 0, none⟩ : Addr).add j) = some u from fun j u hu => by rw [kNd.cells_one] at hu; exact cell_new w10 #[.int .u64 ((1 + p0 : Nat) : Int), .slice yb.A yb.l.length yb.c] 66 j u hu)
            clear HG10
            refine hK.out _ _ (fun _ _ => (HGA.out.me.vr.cell 9).trans (LOp.c9 (sPath o1 x))) ?_
            clear hK K
            try simp only [Act.put, List.getElem_toArray, List.getElem_cons_succ, List.getElem_cons_zero, List.setIfInBounds_toArray, List.set_cons_zero, List.set_cons_succ]
            refine Ord.AnyR.ready1 (i := 12) (by kernel_rfl) rfl (fun K hK => ?_)
            refine step_push1 ki_nd rfl (.tmp 65) (.tmp 75) rfl B x HGA.out.gr rfl _ 1 1 [⟨1 + p0, yb⟩] rfl rfl (by omega) HSRC.out (by simp only [List.length_singleton]; omega) HGA.out.size ?_
            intro z w11 hz hgz hgw hlie
            have HPZ := Lib.hid (path_push HGA.out HYB.out hz hgz hgw hlie)
            have HZ := Lib.hid hz
            have k9 := ((HGA.out.own hgw).cell 9).trans (LOp.c9 (sPath o1 x))
            have kf := (HGA.out.own hgw).frozen 9
            clear hz hgz hgw hlie HGA HYB HSRC
            rw [show z.v = .slice z.A z.l.length z.c from rfl]
            refine hK.out _ _ (fun h => absurd h (by decide)) ?_
            clear hK K
            try simp only [Act.put, List.getElem_toArray, List.getElem_cons_succ, List.getElem_cons_zero, List.setIfInBounds_toArray, List.set_cons_zero, List.set_cons_succ]
            refine Ord.AnyR.take (i := 13) (v := ?_) rfl (by kernel_rfl) (by kernel_rfl) (by kernel_rfl) (fun _ _ _ h => h) (fun _ _ h => h) (Or.inl ⟨by rfl, ?_⟩) ?_
            rotate_left
            · (intro w; go_simp; try (with_reducible rfl))
            try simp only [Act.put, List.getElem_toArray, List.getElem_cons_succ, List.getElem_cons_zero, List.setIfInBounds_toArray, List.set_cons_zero, List.set_cons_succ]
            refine Ord.AnyR.ready1 (i := 14) (by kernel_rfl) rfl (fun K hK => ?_)
            go_simp
            refine hK.out _ _ (fun h => absurd h (by decide)) ?_
            clear hK K
            try simp only [Act.put, List.getElem_toArray, List.getElem_cons_succ, List.getElem_cons_zero, List.setIfInBounds_toArray, List.set_cons_zero, List.set_cons_succ]
            refine Ord.AnyR.end_ (by kernel_rfl) ?_ _
            have HZL := Lib.hid (show z.l.length = x.l.length + 1 by rw [HZ.out, List.length_append]; rfl)
            go_wp2
            go_roundw
            case rel =>
              have := HC0.out
              have := HZL.out
              refine ⟨c - 1, z, i + 1 + 1 + 4 * p1, by rw [show ((c : Int) - 1) = ((c - 1 : Nat) : Int) by omega], by omega, by omega, ?_, HPZ.out, by omega⟩
              intro y' hy'
              rw [HZ.out] at hy'
              rcases List.mem_append.1 hy' with h1 | h1
              · exact HGOOD.out y' h1
              · rw [List.mem_singleton.1 h1]; exact ⟨by show 1 ≤ 1 + p0; omega, by show 1 + p0 ≤ 1000; omega, by show yb.l.length ≤ 2; rw [HYL.out]; omega, HYG.out⟩
            case measure => have := HC0.out; simp [intOf]; omega
          · have hc00 : c = 0 := by omega
            have q6_ : decide ((0 : Int) < (c : Int)) = false := decide_eq_false (by omega)
            have q7_ : decide (0 < c) = false := decide_eq_false hc0
            clear hgood hpg hc0
            go_wp2
            go_meet
            exact ⟨sPath o1 x, i, wo, rfl, HPG.out.me, by omega, ⟨rfl, (fun h => by rw [HBT.out] at h; cases h), (by show x.l.length ≤ 3; omega), HGOOD.out⟩⟩
    case rest =>
      obtain ⟨o2, i2, W2, rfl, hmk2, hi2, hpa⟩ := hcut
      have hkd2 : o2.kind = kd0 := (congrArg LOp.kind hpa.eq).trans HKD1.out
      have HM2 := Lib.hid hmk2
      have HPA := Lib.hid hpa
      have HKD2 := Lib.hid hkd2
      have HR0 := Lib.hid (show o2.refs = Ls.nil from (congrArg LOp.refs hpa.eq).trans ((congrArg LOp.refs HPO.out.eq).trans (show o.refs = Ls.nil by rw [HO.out]; rfl)))
      have HG0 := Lib.hid (show o2.guards = Ls.nil from (congrArg LOp.guards hpa.eq).trans ((congrArg LOp.guards HPO.out.eq).trans (show o.guards = Ls.nil by rw [HO.out]; rfl)))
      have HH0 := Lib.hid (show o2.hist = Ls.nil from (congrArg LOp.hist hpa.eq).trans ((congrArg LOp.hist HPO.out.eq).trans (show o.hist = Ls.nil by rw [HO.out]; rfl)))
      have hTV2 := hmk2.ord
      clear c2
      have c2 := (hmk2.vr.cell 2).trans o2.c2
      rw [hkd2] at c2
      clear hmk2 hpa hkd2
      go_upto_block 4 with (fail)
      go_cut [] (fun wx => ∃ (o' : LOp) (i : Nat) (W' : World), W' = wx ∧ Mk E (V + 1) T V w W' xs i o' ∧ i ≤ 150 ∧ Sw o2 o')
      case first =>
        have hks : kd0 = 1 ∨ kd0 = 2 ∨ kd0 = 3 ∨ kd0 = 4 ∨ kd0 = 5 ∨ kd0 = 6 ∨ kd0 = 7 ∨ kd0 = 8 ∨ kd0 = 9 ∨ kd0 = 10 ∨ kd0 = 11 ∨ kd0 = 12 ∨ kd0 = 13 := by have := HKK.out; omega
        rcases hks with rfl | rfl | rfl | rfl | rfl | rfl | rfl | rfl | rfl | rfl | rfl | rfl | rfl
        · as_aux_lemma =>
          go_wp2_with fail
          have a_1 := nx_lt xs (i2) (show 0 < 21 by omega)
          obtain ⟨r_1, hr_1⟩ : ∃ r, r = nx xs (i2) 21 := ⟨_, rfl⟩
          rw [← hr_1] at a_1
          have HN := Lib.hid (next_lit HM2.out.tk (by omega) 21 21 (by omega) (by omega) rfl hr_1)
          clear hr_1 c2
          with_reducible refine (HN.out).mono ?_
          rintro e w_1 ⟨rfl, htn⟩
          have HM_1 := Lib.hid (HM2.out.tn htn)
          clear htn HN
          have k20 := (HM_1.out.vr.cell 20).trans (LOp.c20 (o2))
          have f20 := HM_1.out.vr.frozen 20
          have HM_2 := Lib.hid (HM_1.out.fld 20 (.int .i64 (r_1 : Int)) ({ o2 with need := (r_1 : Int) }) rfl ⟨HM_1.out.lies.past, HM_1.out.lies.path, HM_1.out.lies.pathB, HM_1.out.lies.body, HM_1.out.lies.refs, HM_1.out.lies.guards, HM_1.out.lies.boxes, HM_1.out.lies.hist, HM_1.out.lies.histB⟩)
          go_wp2
          go_meet
          exact ⟨_, _, _, rfl, HM_2.out, by omega, Sw.create _ HKD2.out (by omega) (by omega)⟩
        · as_aux_lemma =>
          go_wp2_with fail
          have a_3 := nx_lt xs (i2) (show 0 < 12 by omega)
          obtain ⟨r_3, hr_3⟩ : ∃ r, r = nx xs (i2) 12 := ⟨_, rfl⟩
          rw [← hr_3] at a_3
          have HN := Lib.hid (next_lit HM2.out.tk (by omega) 12 12 (by omega) (by omega) rfl hr_3)
          clear hr_3 c2
          with_reducible refine (HN.out).mono ?_
          rintro e w_3 ⟨rfl, htn⟩
          have HM_3 := Lib.hid (HM2.out.tn htn)
          clear htn HN
          have k5 := (HM_3.out.vr.cell 5).trans (LOp.c5 (o2))
          have f5 := HM_3.out.vr.frozen 5
          have HM_4 := Lib.hid (HM_3.out.fld 5 (.int .i64 (1 + (r_3 : Int))) ({ o2 with dev := (1 + (r_3 : Int)) }) rfl ⟨HM_3.out.lies.past, HM_3.out.lies.path, HM_3.out.lies.pathB, HM_3.out.lies.body, HM_3.out.lies.refs, HM_3.out.lies.guards, HM_3.out.lies.boxes, HM_3.out.lies.hist, HM_3.out.lies.histB⟩)
          go_wp2_with fail
          have a_5 := nx_lt xs (i2 + 1) (show 0 < 3 by omega)
          obtain ⟨r_5, hr_5⟩ : ∃ r, r = nx xs (i2 + 1) 3 := ⟨_, rfl⟩
          rw [← hr_5] at a_5
          have HN := Lib.hid (next_lit HM_4.out.tk (by omega) 3 3 (by omega) (by omega) rfl hr_5)
          clear hr_5 k5 f5
          with_reducible refine (HN.out).mono ?_
          rintro e w_5 ⟨rfl, htn⟩
          have HM_5 := Lib.hid (HM_4.out.tn htn)
          clear htn HN
          have k8 := (HM_5.out.vr.cell 8).trans (LOp.c8 ({ o2 with dev := (1 + (r_3 : Int)) }))
          have f8 := HM_5.out.vr.frozen 8
          have HM_6 := Lib.hid (HM_5.out.fld 8 (.int .i64 (1 + (r_5 : Int))) ({ o2 with dev := (1 + (r_3 : Int)), role := (1 + (r_5 : Int)) }) rfl ⟨HM_5.out.lies.past, HM_5.out.lies.path, HM_5.out.lies.pathB, HM_5.out.lies.body, HM_5.out.lies.refs, HM_5.out.lies.guards, HM_5.out.lies.boxes, HM_5.out.lies.hist, HM_5.out.lies.histB⟩)
          go_wp2
          go_meet
          exact ⟨_, _, _, rfl, HM_6.out, by omega, Sw.add _ _ HKD2.out ⟨by omega, by omega⟩ ⟨by omega, by omega⟩⟩
        · as_aux_lemma =>
          go_wp2_with fail
          have a_7 := nx_lt xs (i2) (show 0 < 7 by omega)
          obtain ⟨r_7, hr_7⟩ : ∃ r, r = nx xs (i2) 7 := ⟨_, rfl⟩
          rw [← hr_7] at a_7
          have HN := Lib.hid (next_lit HM2.out.tk (by omega) 7 7 (by omega) (by omega) rfl hr_7)
          clear hr_7 c2
          with_reducible refine (HN.out).mono ?_
          rintro e w_7 ⟨rfl, htn⟩
          have HM_7 := Lib.hid (HM2.out.tn htn)
          clear htn HN
          by_cases hr0 : r_7 = 0
          · subst hr0
            have k5 := (HM_7.out.vr.cell 5).trans (LOp.c5 (o2))
            have f5 := HM_7.out.vr.frozen 5
            have HM_8 := Lib.hid (HM_7.out.fld 5 (.int .i64 0) ({ o2 with dev := 0 }) rfl ⟨HM_7.out.lies.past, HM_7.out.lies.path, HM_7.out.lies.pathB, HM_7.out.lies.body, HM_7.out.lies.refs, HM_7.out.lies.guards, HM_7.out.lies.boxes, HM_7.out.lies.hist, HM_7.out.lies.histB⟩)
            have kk := (HM_8.out.vr.cell 5).trans (LOp.c5 ({ o2 with dev := 0 }))
            go_wp2_with fail
            have a_9 := nx_lt xs (i2 + 1) (show 0 < 8 by omega)
            obtain ⟨r_9, hr_9⟩ : ∃ r, r = nx xs (i2 + 1) 8 := ⟨_, rfl⟩
            rw [← hr_9] at a_9
            have HN := Lib.hid (next_lit HM_8.out.tk (by omega) 8 8 (by omega) (by omega) rfl hr_9)
            clear hr_9 k5 f5 a_7 kk
            with_reducible refine (HN.out).mono ?_
            rintro e w_9 ⟨rfl, htn⟩
            have HM_9 := Lib.hid (HM_8.out.tn htn)
            clear htn HN
            have k7 := (HM_9.out.vr.cell 7).trans (LOp.c7 ({ o2 with dev := 0 }))
            have f7 := HM_9.out.vr.frozen 7
            have HM_10 := Lib.hid (HM_9.out.fld 7 (.int .i64 (1 + (r_9 : Int))) ({ o2 with dev := 0, mem := (1 + (r_9 : Int)) }) rfl ⟨HM_9.out.lies.past, HM_9.out.lies.path, HM_9.out.lies.pathB, HM_9.out.lies.body, HM_9.out.lies.refs, HM_9.out.lies.guards, HM_9.out.lies.boxes, HM_9.out.lies.hist, HM_9.out.lies.histB⟩)
            go_wp2
            go_meet
            exact ⟨_, _, _, rfl, HM_10.out, by omega, Sw.remove2 _ HKD2.out ⟨by omega, by omega⟩⟩
          · have q_ : ((r_7 : Int) == 0) = false := by rw [beq_eq_false_iff_ne]; omega
            have k5 := (HM_7.out.vr.cell 5).trans (LOp.c5 (o2))
            have f5 := HM_7.out.vr.frozen 5
            have HM_11 := Lib.hid (HM_7.out.fld 5 (.int .i64 (r_7 : Int)) ({ o2 with dev := (r_7 : Int) }) rfl ⟨HM_7.out.lies.past, HM_7.out.lies.path, HM_7.out.lies.pathB, HM_7.out.lies.body, HM_7.out.lies.refs, HM_7.out.lies.guards, HM_7.out.lies.boxes, HM_7.out.lies.hist, HM_7.out.lies.histB⟩)
            have kk := (HM_11.out.vr.cell 5).trans (LOp.c5 ({ o2 with dev := (r_7 : Int) }))
            go_wp2
            go_meet
            exact ⟨_, _, _, rfl, HM_11.out, by omega, Sw.remove _ HKD2.out ⟨by omega, by omega⟩⟩
        · as_aux_lemma =>
          go_wp2
          go_meet
          exact ⟨_, _, _, rfl, HM2.out, by omega, Sw.update HKD2.out⟩
        · as_aux_lemma =>
          go_wp2_with fail
          have a_12 := nx_lt xs (i2) (show 0 < 8 by omega)
          obtain ⟨r_12, hr_12⟩ : ∃ r, r = nx xs (i2) 8 := ⟨_, rfl⟩
          rw [← hr_12] at a_12
          have HN := Lib.hid (next_lit HM2.out.tk (by omega) 8 8 (by omega) (by omega) rfl hr_12)
          clear hr_12 c2
          with_reducible refine (HN.out).mono ?_
          rintro e w_12 ⟨rfl, htn⟩
          have HM_12 := Lib.hid (HM2.out.tn htn)
          clear htn HN
          have k7 := (HM_12.out.vr.cell 7).trans (LOp.c7 (o2))
          have f7 := HM_12.out.vr.frozen 7
          have HM_13 := Lib.hid (HM_12.out.fld 7 (.int .i64 (1 + (r_12 : Int))) ({ o2 with mem := (1 + (r_12 : Int)) }) rfl ⟨HM_12.out.lies.past, HM_12.out.lies.path, HM_12.out.lies.pathB, HM_12.out.lies.body, HM_12.out.lies.refs, HM_12.out.lies.guards, HM_12.out.lies.boxes, HM_12.out.lies.hist, HM_12.out.lies.histB⟩)
          go_wp2_with fail
          have a_14 := nx_lt xs (i2 + 1) (show 0 < 3 by omega)
          obtain ⟨r_14, hr_14⟩ : ∃ r, r = nx xs (i2 + 1) 3 := ⟨_, rfl⟩
          rw [← hr_14] at a_14
          have HN := Lib.hid (next_lit HM_13.out.tk (by omega) 3 3 (by omega) (by omega) rfl hr_14)
          clear hr_14 k7 f7
          with_reducible refine (HN.out).mono ?_
          rintro e w_14 ⟨rfl, htn⟩
          have HM_14 := Lib.hid (HM_13.out.tn htn)
          clear htn HN
          have k8 := (HM_14.out.vr.cell 8).trans (LOp.c8 ({ o2 with mem := (1 + (r_12 : Int)) }))
          have f8 := HM_14.out.vr.frozen 8
          have HM_15 := Lib.hid (HM_14.out.fld 8 (.int .i64 (1 + (r_14 : Int))) ({ o2 with mem := (1 + (r_12 : Int)), role := (1 + (r_14 : Int)) }) rfl ⟨HM_14.out.lies.past, HM_14.out.lies.path, HM_14.out.lies.pathB, HM_14.out.lies.body, HM_14.out.lies.refs, HM_14.out.lies.guards, HM_14.out.lies.boxes, HM_14.out.lies.hist, HM_14.out.lies.histB⟩)
          go_wp2
          go_meet
          exact ⟨_, _, _, rfl, HM_15.out, by omega, Sw.promote _ _ HKD2.out ⟨by omega, by omega⟩ ⟨by omega, by omega⟩⟩
        · as_aux_lemma =>
          go_wp2_with fail
          have HN := Lib.hid (name_any HM2.out.tk (by omega))
          with_reducible refine (HN.out).mono ?_
          rintro e w_16 ⟨y_16, rfl, hyg, htn⟩
          have HY_16 := Lib.hid hyg
          have HM_16 := Lib.hid (HM2.out.tn htn)
          clear htn hyg HN c2
          go_wp2_with (refine wpList_store_epoch rfl (.tmp 121) (.tmp 120) rfl rfl rfl HM_16.out.vr ?_; intro wS17 hvS hgS; have HM_17 := Lib.hid (HM_16.out.put hgS hvS ⟨HM_16.out.lies.past, HM_16.out.lies.path, HM_16.out.lies.pathB, HM_16.out.lies.body, HM_16.out.lies.refs, HM_16.out.lies.guards, HM_16.out.lies.boxes, HM_16.out.lies.hist, HM_16.out.lies.histB⟩); clear hvS hgS)
          have a_18 := nx_lt xs (i2 + 3) (show 0 < 5 by omega)
          obtain ⟨r_18, hr_18⟩ : ∃ r, r = nx xs (i2 + 3) 5 := ⟨_, rfl⟩
          rw [← hr_18] at a_18
          have HN := Lib.hid (next_lit HM_17.out.tk (by omega) 5 5 (by omega) (by omega) rfl hr_18)
          clear hr_18
          with_reducible refine (HN.out).mono ?_
          rintro e w_18 ⟨rfl, htn⟩
          have HM_18 := Lib.hid (HM_17.out.tn htn)
          clear htn HN
          have k13 := (HM_18.out.vr.cell 13).trans (LOp.c13 ({ o2 with epoch := y_16 }))
          have f13 := HM_18.out.vr.frozen 13
          have HM_19 := Lib.hid (HM_18.out.fld 13 (.int .i64 (r_18 : Int)) ({ o2 with epoch := y_16, n := (r_18 : Int) }) rfl ⟨HM_18.out.lies.past, HM_18.out.lies.path, HM_18.out.lies.pathB, HM_18.out.lies.body, HM_18.out.lies.refs, HM_18.out.lies.guards, HM_18.out.lies.boxes, HM_18.out.lies.hist, HM_18.out.lies.histB⟩)
          go_wp2_with fail
          have a_20 := nx_lt xs (i2 + 3 + 1) (show 0 < 9 by omega)
          obtain ⟨r_20, hr_20⟩ : ∃ r, r = nx xs (i2 + 3 + 1) 9 := ⟨_, rfl⟩
          rw [← hr_20] at a_20
          have HN := Lib.hid (next_lit HM_19.out.tk (by omega) 9 9 (by omega) (by omega) rfl hr_20)
          clear hr_20 k13 f13
          with_reducible refine (HN.out).mono ?_
          rintro e w_20 ⟨rfl, htn⟩
          have HM_20 := Lib.hid (HM_19.out.tn htn)
          clear htn HN
          go_wp2_with fail
          have HN := Lib.hid (bytes_lit HM_20.out.tk (8 + (r_20 : Int)) (8 + r_20) (by omega) (by omega) (by omega))
          with_reducible refine (HN.out).mono ?_
          rintro e w_21 ⟨x_21, rfl, hxl, hxg, hxr, htn⟩
          have HXL_21 := Lib.hid hxl
          have HXG_21 := Lib.hid hxg
          have HXR_21 := Lib.hid (hxr.lz (F := Til (V + 1)) fun k hk => Nat.lt_of_lt_of_le hk HM_20.out.ord.2.2.2)
          have HM_21 := Lib.hid (HM_20.out.tn htn)
          clear htn hxl hxg hxr HN
          have k14 := (HM_21.out.vr.cell 14).trans (LOp.c14 ({ o2 with epoch := y_16, n := (r_18 : Int) }))
          have f14 := HM_21.out.vr.frozen 14
          have HM_22 := Lib.hid (HM_21.out.fld 14 (.slice x_21.A x_21.l.length x_21.c) ({ o2 with epoch := y_16, n := (r_18 : Int), body := x_21 }) rfl ⟨HM_21.out.lies.past, HM_21.out.lies.path, HM_21.out.lies.pathB, HXR_21.out, HM_21.out.lies.refs, HM_21.out.lies.guards, HM_21.out.lies.boxes, HM_21.out.lies.hist, HM_21.out.lies.histB⟩)
          go_wp2_with fail
          have a_23 := nx_lt xs (i2 + 3 + 1 + 1 + (8 + r_20)) (show 0 < 3 by omega)
          obtain ⟨r_23, hr_23⟩ : ∃ r, r = nx xs (i2 + 3 + 1 + 1 + (8 + r_20)) 3 := ⟨_, rfl⟩
          rw [← hr_23] at a_23
          have HN := Lib.hid (next_lit HM_22.out.tk (by omega) 3 3 (by omega) (by omega) rfl hr_23)
          clear hr_23 k14 f14
          with_reducible refine (HN.out).mono ?_
          rintro e w_23 ⟨rfl, htn⟩
          have HM_23 := Lib.hid (HM_22.out.tn htn)
          clear htn HN
          obtain ⟨ob, hob⟩ : ∃ ob : LOp, ob = { o2 with epoch := y_16, n := (r_18 : Int), body := x_21 } := ⟨_, rfl⟩
          have HPG0 := Lib.hid (Pg.nil (K := kU64) (fld := sRefs) (N := nAny) (o := ob) (by rw [hob]; exact HM_23.out) (by rw [hob]; show { { o2 with epoch := y_16, n := (r_18 : Int), body := x_21 } with refs := Ls.nil } = { o2 with epoch := y_16, n := (r_18 : Int), body := x_21 }; rw [← HR0.out]))
          have HOB := Lib.hid hob
          obtain ⟨B, hB⟩ : ∃ B, B = w_23.heap.size := ⟨_, rfl⟩
          rw [← hB] at HPG0
          obtain ⟨ib, hib⟩ : ∃ ib, ib = i2 + 3 + 1 + 1 + (8 + r_20) + 1 := ⟨_, rfl⟩
          have hib2 : ib ≤ 90 := by omega
          rw [← hib] at HPG0
          clear hB hob hib
          go_wp2
          go_loopw [8] (fun cv wr => ∃ (c : Nat) (x : Ls Nat) (i : Nat), cv = .int .i64 (c : Int) ∧ c ≤ r_23 ∧ x.l.length + c = r_23 ∧ (∀ y ∈ x.l, y < 1000) ∧ Pg kU64 sRefs nAny E (V + 1) T V B w wr xs i ob x ∧ i ≤ ib + (r_23 - c)) (fun cv _ => (intOf cv).toNat)
          case atStart => exact ⟨r_23, Ls.nil, ib, rfl, Nat.le_refl _, (by show 0 + r_23 = r_23; omega), (fun _ h => nomatch h), HPG0.out, by omega⟩
          case round =>
            obtain ⟨c, x, i, rfl, hc, hxc, hgood, hpg, hi⟩ := hrel
            have HGOOD := Lib.hid hgood
            have HPG := Lib.hid hpg
            obtain ⟨wo, rfl⟩ : ∃ wo, wo = wr := ⟨_, rfl⟩
            by_cases hc0 : 0 < c
            · have q6_ : decide ((0 : Int) < (c : Int)) = true := decide_eq_true (by omega)
              have q7_ : decide (0 < c) = true := decide_eq_true hc0
              have HC0 := Lib.hid hc0
              have a0 := nx_lt xs i (show 0 < 1000 by omega)
              obtain ⟨p0, hp0⟩ : ∃ r, r = nx xs i 1000 := ⟨_, rfl⟩
              rw [← hp0] at a0
              have u0 := wrap_u p0 (by omega)
              have HD := Lib.hid (hpg.drew mv_any)
              have HNA := Lib.hid (next_lit HD.out.me.tk (by omega) 1000 1000 (by omega) (by omega) rfl hp0)
              have c15 := (HD.out.me.vr.cell 15).trans (LOp.c15 (sRefs ob x))
              clear hgood hpg hc0 hp0 HPG
              go_wp2
              refine Ord.start (by kernel_rfl) ?_
              try simp only [Act.put, List.getElem_toArray, List.getElem_cons_succ, List.getElem_cons_zero, List.setIfInBounds_toArray, List.set_cons_zero, List.set_cons_succ]
              refine wpAny_take (i := 0) (v := ?_) rfl (by kernel_rfl) (by kernel_rfl) (by kernel_rfl) (fun _ _ _ h => h) (Or.inl ⟨by rfl, ?_⟩) ?_
              rotate_left
              · (intro w; go_simp; try (with_reducible rfl))
              try simp only [Act.put, List.getElem_toArray, List.getElem_cons_zero, List.setIfInBounds_toArray, List.set_cons_zero, List.set_cons_succ]
              refine Ord.load_first [6, 8] (fun w' : World => w'.cell? ⟨V, 15, none⟩ = some (.slice x.A x.l.length x.c)) (i := 1) (v := ?_) rfl (by kernel_rfl) (by kernel_rfl) (by kernel_rfl) (by kernel_rfl) (by kernel_rfl) (fun _ _ _ h => h) (Or.inl ⟨by rfl, ?_⟩) c15 ?_
              rotate_left
              · (intro w hSw; (try dsimp only at hSw); go_simp; try (with_reducible rfl))
              try simp only [Act.put, List.getElem_toArray, List.getElem_cons_succ, List.getElem_cons_zero, List.setIfInBounds_toArray, List.set_cons_zero, List.set_cons_succ]
              refine Ord.AnyR.take (i := 2) (v := ?_) rfl (by kernel_rfl) (by kernel_rfl) (by kernel_rfl) (fun _ _ _ h => h) (fun _ _ h => h) (Or.inl ⟨by rfl, ?_⟩) ?_
              rotate_left
              · (intro w; go_simp; try (with_reducible rfl))
              try simp only [Act.put, List.getElem_toArray, List.getElem_cons_succ, List.getElem_cons_zero, List.setIfInBounds_toArray, List.set_cons_zero, List.set_cons_succ]
              refine Ord.AnyR.ready1 (i := 3) (by kernel_rfl) rfl (fun K hK => ?_)
              go_simp
              with_reducible refine (HNA.out).mono ?_
              rintro e w8 ⟨rfl, htn⟩
              have HG10 := Lib.hid (HD.out.tn mv_any htn)
              clear htn HNA HD c15
              try go_simp
              refine hK.out _ _ (fun _ _ => (HG10.out.me.vr.cell 15).trans (LOp.c15 (sRefs ob x))) ?_
              clear hK K
              try simp only [Act.put, List.getElem_toArray, List.getElem_cons_succ, List.getElem_cons_zero, List.setIfInBounds_toArray, List.set_cons_zero, List.set_cons_succ]
              refine Ord.AnyR.take (i := 4) (v := ?_) rfl (by kernel_rfl) (by kernel_rfl) (by kernel_rfl) (fun _ _ _ h => h) (fun _ _ h => h) (Or.inl ⟨by rfl, ?_⟩) ?_
              rotate_left
              · (intro w; go_simp; try (with_reducible rfl))
              try simp only [Act.put, List.getElem_toArray, List.getElem_cons_succ, List.getElem_cons_zero, List.setIfInBounds_toArray, List.set_cons_zero, List.set_cons_succ]
              refine Ord.AnyR.ready1 (i := 5) (by kernel_rfl) rfl (fun K hK => ?_)
              go_simp
              have HGA := Lib.hid (HG10.out.alloc mv_any (.cells #[.int .u64 (p0 : Int)] 25))
              have HSRC := Lib.hid (show ∀ j u, (kU64.cells [p0])[j]? = some u → (w8.alloc (.cells #[.int .u64 (p0 : Int)] 25)).cell? ((⟨w8.heap.size, 0, none⟩ : Addr).add j) = some u from fun j u hu => by rw [kU64.cells_one] at hu; exact cell_new w8 #[.int .u64 (p0 : Int)] 25 j u hu)
              clear HG10
              refine hK.out _ _ (fun _ _ => (HGA.out.me.vr.cell 15).trans (LOp.c15 (sRefs ob x))) ?_
              clear hK K
              try simp only [Act.put, List.getElem_toArray, List.getElem_cons_succ, List.getElem_cons_zero, List.setIfInBounds_toArray, List.set_cons_zero, List.set_cons_succ]
              refine Ord.AnyR.ready1 (i := 6) (by kernel_rfl) rfl (fun K hK => ?_)
              refine step_push1 ki_u64 rfl (.tmp 138) (.tmp 142) rfl B x HGA.out.gr rfl _ 1 1 [p0] rfl rfl (by omega) HSRC.out (by simp only [List.length_singleton]; omega) HGA.out.size ?_
              intro z w11 hz hgz hgw _
              have HPZ := Lib.hid (refs_push HGA.out hgz hgw)
              have HZ := Lib.hid hz
              have k9 := ((HGA.out.own hgw).cell 15).trans (LOp.c15 (sRefs ob x))
              have kf := (HGA.out.own hgw).frozen 15
              clear hz hgz hgw HGA HSRC
              rw [show z.v = .slice z.A z.l.length z.c from rfl]
              refine hK.out _ _ (fun h => absurd h (by decide)) ?_
              clear hK K
              try simp only [Act.put, List.getElem_toArray, List.getElem_cons_succ, List.getElem_cons_zero, List.setIfInBounds_toArray, List.set_cons_zero, List.set_cons_succ]
              refine Ord.AnyR.take (i := 7) (v := ?_) rfl (by kernel_rfl) (by kernel_rfl) (by kernel_rfl) (fun _ _ _ h => h) (fun _ _ h => h) (Or.inl ⟨by rfl, ?_⟩) ?_
              rotate_left
              · (intro w; go_simp; try (with_reducible rfl))
              try simp only [Act.put, List.getElem_toArray, List.getElem_cons_succ, List.getElem_cons_zero, List.setIfInBounds_toArray, List.set_cons_zero, List.set_cons_succ]
              refine Ord.AnyR.ready1 (i := 8) (by kernel_rfl) rfl (fun K hK => ?_)
              go_simp
              refine hK.out _ _ (fun h => absurd h (by decide)) ?_
              clear hK K
              try simp only [Act.put, List.getElem_toArray, List.getElem_cons_succ, List.getElem_cons_zero, List.setIfInBounds_toArray, List.set_cons_zero, List.set_cons_succ]
              refine Ord.AnyR.end_ (by kernel_rfl) ?_ _
              have HZL := Lib.hid (show z.l.length = x.l.length + 1 by rw [HZ.out, List.length_append]; rfl)
              go_wp2
              go_roundw
              case rel =>
                have := HC0.out
                have := HZL.out
                refine ⟨c - 1, z, i + 1, by rw [show ((c : Int) - 1) = ((c - 1 : Nat) : Int) by omega], by omega, by omega, ?_, HPZ.out, by omega⟩
                intro y' hy'
                rw [HZ.out] at hy'
                rcases List.mem_append.1 hy' with h1 | h1
                · exact HGOOD.out y' h1
                · rw [List.mem_singleton.1 h1]; exact a0
              case measure => have := HC0.out; simp [intOf]; omega
            · have hc00 : c = 0 := by omega
              have q6_ : decide ((0 : Int) < (c : Int)) = false := decide_eq_false (by omega)
              have q7_ : decide (0 < c) = false := decide_eq_false hc0
              clear hgood hpg hc0
              go_wp2
              go_meet
              have hsw : Sw o2 (sRefs ob x) := by
                rw [HOB.out]
                exact Sw.message y_16 (r_18 : Int) x_21 x HKD2.out HY_16.out ⟨by omega, by omega⟩ ⟨by rw [HXL_21.out]; omega, by rw [HXL_21.out]; omega⟩ (by omega) HGOOD.out
              exact ⟨_, _, _, rfl, HPG.out.me, by omega, hsw⟩
        · as_aux_lemma =>
          go_wp2_with fail
          have HN := Lib.hid (name_any HM2.out.tk (by omega))
          with_reducible refine (HN.out).mono ?_
          rintro e w_24 ⟨y_24, rfl, hyg, htn⟩
          have HY_24 := Lib.hid hyg
          have HM_24 := Lib.hid (HM2.out.tn htn)
          clear htn hyg HN c2
          go_wp2_with (refine wpList_store_of rfl (.tmp 149) (.tmp 148) rfl rfl rfl HM_24.out.vr ?_; intro wS25 hvS hgS; have HM_25 := Lib.hid (HM_24.out.put hgS hvS ⟨HM_24.out.lies.past, HM_24.out.lies.path, HM_24.out.lies.pathB, HM_24.out.lies.body, HM_24.out.lies.refs, HM_24.out.lies.guards, HM_24.out.lies.boxes, HM_24.out.lies.hist, HM_24.out.lies.histB⟩); clear hvS hgS)
          have a_26 := nx_lt xs (i2 + 3) (show 0 < 4 by omega)
          obtain ⟨r_26, hr_26⟩ : ∃ r, r = nx xs (i2 + 3) 4 := ⟨_, rfl⟩
          rw [← hr_26] at a_26
          have HN := Lib.hid (next_lit HM_25.out.tk (by omega) 4 4 (by omega) (by omega) rfl hr_26)
          clear hr_26
          with_reducible refine (HN.out).mono ?_
          rintro e w_26 ⟨rfl, htn⟩
          have HM_26 := Lib.hid (HM_25.out.tn htn)
          clear htn HN
          go_wp2_with fail
          have HN := Lib.hid (bytes_lit HM_26.out.tk (1 + (r_26 : Int)) (1 + r_26) (by omega) (by omega) (by omega))
          with_reducible refine (HN.out).mono ?_
          rintro e w_27 ⟨x_27, rfl, hxl, hxg, hxr, htn⟩
          have HXL_27 := Lib.hid hxl
          have HXG_27 := Lib.hid hxg
          have HXR_27 := Lib.hid (hxr.lz (F := Til (V + 1)) fun k hk => Nat.lt_of_lt_of_le hk HM_26.out.ord.2.2.2)
          have HM_27 := Lib.hid (HM_26.out.tn htn)
          clear htn hxl hxg hxr HN
          have k14 := (HM_27.out.vr.cell 14).trans (LOp.c14 ({ o2 with of_ := y_24 }))
          have f14 := HM_27.out.vr.frozen 14
          have HM_28 := Lib.hid (HM_27.out.fld 14 (.slice x_27.A x_27.l.length x_27.c) ({ o2 with of_ := y_24, body := x_27 }) rfl ⟨HM_27.out.lies.past, HM_27.out.lies.path, HM_27.out.lies.pathB, HXR_27.out, HM_27.out.lies.refs, HM_27.out.lies.guards, HM_27.out.lies.boxes, HM_27.out.lies.hist, HM_27.out.lies.histB⟩)
          go_wp2
          go_meet
          exact ⟨_, _, _, rfl, HM_28.out, by omega, Sw.react _ _ HKD2.out HY_24.out ⟨by rw [HXL_27.out]; omega, by rw [HXL_27.out]; omega⟩⟩
        · as_aux_lemma =>
          go_wp2_with fail
          have HN := Lib.hid (name_any HM2.out.tk (by omega))
          with_reducible refine (HN.out).mono ?_
          rintro e w_29 ⟨y_29, rfl, hyg, htn⟩
          have HY_29 := Lib.hid hyg
          have HM_29 := Lib.hid (HM2.out.tn htn)
          clear htn hyg HN c2
          go_wp2_with (refine wpList_store_of rfl (.tmp 243) (.tmp 242) rfl rfl rfl HM_29.out.vr ?_; intro wS30 hvS hgS; have HM_30 := Lib.hid (HM_29.out.put hgS hvS ⟨HM_29.out.lies.past, HM_29.out.lies.path, HM_29.out.lies.pathB, HM_29.out.lies.body, HM_29.out.lies.refs, HM_29.out.lies.guards, HM_29.out.lies.boxes, HM_29.out.lies.hist, HM_29.out.lies.histB⟩); clear hvS hgS)
          go_meet
          exact ⟨_, _, _, rfl, HM_30.out, by omega, Sw.plain _ (.inl HKD2.out) HY_29.out⟩
        · as_aux_lemma =>
          have HPG0 := Lib.hid (Pg.nil (K := kInt) (fld := sGuards) (N := nAny) HM2.out (by show { o2 with guards := Ls.nil } = o2; rw [← HG0.out]))
          obtain ⟨B, hB⟩ : ∃ B, B = W2.heap.size := ⟨_, rfl⟩
          rw [← hB] at HPG0
          clear hB
          go_wp2
          go_loopw [9] (fun cv wr => ∃ (k : Nat) (x : Ls Int) (i : Nat), cv = .int .i64 (k : Int) ∧ 1 ≤ k ∧ k ≤ 7 ∧ x.l.length + 1 ≤ k ∧ (∀ y ∈ x.l, 1 ≤ y ∧ y < (k : Int)) ∧ x.l.Pairwise (· < ·) ∧ (k = 7 → 0 < x.l.length) ∧ Pg kInt sGuards nAny E (V + 1) T V B w wr xs i o2 x ∧ i ≤ i2 + k) (fun cv _ => 7 - (intOf cv).toNat)
          case atStart => exact ⟨1, Ls.nil, i2, rfl, by omega, by omega, (by show 0 + 1 ≤ 1; omega), (fun _ h => nomatch h), List.Pairwise.nil, by omega, HPG0.out, by omega⟩
          case round =>
            obtain ⟨k, x, i, rfl, hk1, hk7, hxk, hgood, hpw, hk0, hpg, hi⟩ := hrel
            have HGOOD := Lib.hid hgood
            have HPW := Lib.hid hpw
            have HK0 := Lib.hid hk0
            have HPG := Lib.hid hpg
            obtain ⟨wo, rfl⟩ : ∃ wo, wo = wr := ⟨_, rfl⟩
            by_cases hlt : k < 7
            · have q6_ : decide ((k : Int) < 7) = true := decide_eq_true (by omega)
              have q7_ : decide (k < 7) = true := decide_eq_true hlt
              have a0 := nx_lt xs i (show 0 < 2 by omega)
              obtain ⟨p0, hp0⟩ : ∃ r, r = nx xs i 2 := ⟨_, rfl⟩
              rw [← hp0] at a0
              have HNA := Lib.hid (next_lit HPG.out.me.tk (by omega) 2 2 (by omega) (by omega) rfl hp0)
              clear hgood hpw hk0 hpg hp0
              go_wp2_with fail
              with_reducible refine (HNA.out).mono ?_
              rintro e w8 ⟨rfl, htn⟩
              have HG8 := Lib.hid (HPG.out.tn mv_any htn)
              clear htn HNA HPG
              have c19 : w8.cell? ⟨V, 19, none⟩ = some (.slice x.A x.l.length x.c) := (HG8.out.me.vr.cell 19).trans (LOp.c19 (sGuards o2 x))
              by_cases hp : p0 = 0
              · subst hp
                have HGA := Lib.hid (HG8.out.alloc mv_any (.cells #[.int .i64 (k : Int)] 3))
                have HSRC := Lib.hid (show ∀ j u, (kInt.cells [(k : Int)])[j]? = some u → (w8.alloc (.cells #[.int .i64 (k : Int)] 3)).cell? ((⟨w8.heap.size, 0, none⟩ : Addr).add j) = some u from fun j u hu => by rw [kInt.cells_one] at hu; exact cell_new w8 #[.int .i64 (k : Int)] 3 j u hu)
                go_wp2_with (at_builtin; refine wpList_push1 ki_int rfl _ _ rfl B x HGA.out.gr rfl _ 1 1 [(k : Int)] rfl rfl (by omega) HSRC.out (by simp only [List.length_singleton]; omega) HGA.out.size ?_; intro z w11 hz hgz hgw _; have HPZ := Lib.hid (guards_push HGA.out hgz hgw); have HZ := Lib.hid hz; have k9 := ((HGA.out.own hgw).cell 19).trans (LOp.c19 (sGuards o2 x)); have kf := (HGA.out.own hgw).frozen 19; clear hz hgz hgw HGA HSRC c19; rw [show z.v = .slice z.A z.l.length z.c from rfl])
                have HZL := Lib.hid (show z.l.length = (x).l.length + 1 by rw [HZ.out, List.length_append]; rfl)
                go_roundw
                case rel =>
                  have := HZL.out
                  refine ⟨k + 1, z, i + 1, (by first | rfl | go_num), by omega, by omega, by omega, ?_, ?_, fun _ => by omega, HPZ.out, by omega⟩
                  · intro y' hy'
                    rw [HZ.out] at hy'
                    rcases List.mem_append.1 hy' with h1 | h1
                    · have := HGOOD.out y' h1; omega
                    · rw [List.mem_singleton.1 h1]; omega
                  · rw [HZ.out]
                    refine List.pairwise_append.2 ⟨HPW.out, List.pairwise_singleton _ _, fun a ha b hb => ?_⟩
                    rw [List.mem_singleton.1 hb]
                    exact (HGOOD.out a ha).2
                case measure => simp [intOf] <;> omega
              · have hp1 : p0 = 1 := by omega
                subst hp1
                clear hp a0
                by_cases h6 : k = 6
                · subst h6
                  obtain ⟨xl, xA, xc⟩ := x
                  rcases xl with _ | ⟨y0, ys⟩
                  · have c19_ : w8.cell? ⟨V, 19, none⟩ = some (.slice xA 0 xc) := c19
                    clear c19
                    have HGA := Lib.hid (HG8.out.alloc mv_any (.cells #[.int .i64 (6 : Int)] 3))
                    have HSRC := Lib.hid (show ∀ j u, (kInt.cells [(6 : Int)])[j]? = some u → (w8.alloc (.cells #[.int .i64 (6 : Int)] 3)).cell? ((⟨w8.heap.size, 0, none⟩ : Addr).add j) = some u from fun j u hu => by rw [kInt.cells_one] at hu; exact cell_new w8 #[.int .i64 (6 : Int)] 3 j u hu)
                    go_wp2_with (at_builtin; refine wpList_push1 ki_int rfl _ _ rfl B (⟨[], xA, xc⟩ : Ls Int) HGA.out.gr rfl _ 1 1 [(6 : Int)] rfl rfl (by omega) HSRC.out (by simp only [List.length_singleton]; omega) HGA.out.size ?_; intro z w11 hz hgz hgw _; have HPZ := Lib.hid (guards_push HGA.out hgz hgw); have HZ := Lib.hid hz; have k9 := ((HGA.out.own hgw).cell 19).trans (LOp.c19 (sGuards o2 (⟨[], xA, xc⟩ : Ls Int))); have kf := (HGA.out.own hgw).frozen 19; clear hz hgz hgw HGA HSRC c19_; rw [show z.v = .slice z.A z.l.length z.c from rfl])
                    have HZL := Lib.hid (show z.l.length = 0 + 1 by rw [HZ.out, List.length_append]; rfl)
                    go_roundw
                    case rel =>
                      have := HZL.out
                      refine ⟨7, z, i + 1, (by first | rfl | go_num), by omega, by omega, by omega, ?_, ?_, fun _ => by omega, HPZ.out, by omega⟩
                      · intro y' hy'
                        rw [HZ.out] at hy'
                        rcases List.mem_append.1 hy' with h1 | h1
                        · have := HGOOD.out y' h1; omega
                        · rw [List.mem_singleton.1 h1]; omega
                      · rw [HZ.out]
                        refine List.pairwise_append.2 ⟨HPW.out, List.pairwise_singleton _ _, fun a ha b hb => ?_⟩
                        rw [List.mem_singleton.1 hb]
                        exact (HGOOD.out a ha).2
                    case measure => simp [intOf] <;> omega
                  · have c19_ : w8.cell? ⟨V, 19, none⟩ = some (.slice xA (ys.length + 1) xc) := c19
                    have hx1 : (((ys.length : Int) + 1) == 0) = false := by rw [beq_eq_false_iff_ne]; omega
                    clear c19
                    go_wp2
                    go_roundw
                    case rel => exact ⟨7, ⟨y0 :: ys, xA, xc⟩, i + 1, (by first | rfl | go_num), by omega, by omega, Nat.le_succ_of_le hxk, fun y' hy' => (by have := HGOOD.out y' hy'; omega), HPW.out, fun _ => Nat.succ_pos _, HG8.out, by omega⟩
                    case measure => simp [intOf] <;> omega
                · have hq6 : ((k : Int) == 6) = false := by rw [beq_eq_false_iff_ne]; omega
                  clear c19
                  go_wp2
                  go_roundw
                  case rel => exact ⟨k + 1, x, i + 1, (by first | rfl | go_num), by omega, by omega, by omega, fun y' hy' => (by have := HGOOD.out y' hy'; omega), HPW.out, fun _ => by omega, HG8.out, by omega⟩
                  case measure => simp [intOf] <;> omega
            · have hk7' : k = 7 := by omega
              have hl0 : 0 < x.l.length := hk0 hk7'
              have hl6 : x.l.length ≤ 6 := by omega
              have q6_ : decide ((k : Int) < 7) = false := decide_eq_false (by omega)
              have q7_ : decide (k < 7) = false := decide_eq_false hlt
              have HM0 := Lib.hid hpg.me
              have HGL := Lib.hid (show ∀ y ∈ x.l, 1 ≤ y ∧ y ≤ 6 from fun y hy => by have := hgood y hy; omega)
              have hi9 : i ≤ i2 + 7 := by omega
              clear hgood hpw hk0 hpg
              have HM0' := Lib.hid (show Mk E (V + 1) T V w wo xs i { o2 with guards := x } from HM0.out)
              have g19 := (HM0'.out.vr.cell 19).trans (LOp.c19 ({ o2 with guards := x }))
              go_wp2_with fail
              have a_31 := nx_lt xs (i) (show 0 < x.l.length by omega)
              obtain ⟨r_31, hr_31⟩ : ∃ r, r = nx xs (i) x.l.length := ⟨_, rfl⟩
              rw [← hr_31] at a_31
              have HN := Lib.hid (next_lit HM0'.out.tk (by omega) (x.l.length : Int) x.l.length (by omega) (by omega) rfl hr_31)
              clear hr_31 g19
              with_reducible refine (HN.out).mono ?_
              rintro e w_31 ⟨rfl, htn⟩
              have HM_31 := Lib.hid (HM0'.out.tn htn)
              clear htn HN
              have k20 := (HM_31.out.vr.cell 20).trans (LOp.c20 ({ o2 with guards := x }))
              have f20 := HM_31.out.vr.frozen 20
              have HM_32 := Lib.hid (HM_31.out.fld 20 (.int .i64 (1 + (r_31 : Int))) ({ o2 with guards := x, need := (1 + (r_31 : Int)) }) rfl ⟨HM_31.out.lies.past, HM_31.out.lies.path, HM_31.out.lies.pathB, HM_31.out.lies.body, HM_31.out.lies.refs, HM_31.out.lies.guards, HM_31.out.lies.boxes, HM_31.out.lies.hist, HM_31.out.lies.histB⟩)
              go_wp2_with fail
              have a_33 := nx_lt xs (i + 1) (show 0 < 50 by omega)
              obtain ⟨r_33, hr_33⟩ : ∃ r, r = nx xs (i + 1) 50 := ⟨_, rfl⟩
              rw [← hr_33] at a_33
              have HN := Lib.hid (next_lit HM_32.out.tk (by omega) 50 50 (by omega) (by omega) rfl hr_33)
              clear hr_33 k20 f20
              with_reducible refine (HN.out).mono ?_
              rintro e w_33 ⟨rfl, htn⟩
              have HM_33 := Lib.hid (HM_32.out.tn htn)
              clear htn HN
              have k21 := (HM_33.out.vr.cell 21).trans (LOp.c21 ({ o2 with guards := x, need := (1 + (r_31 : Int)) }))
              have f21 := HM_33.out.vr.frozen 21
              have HM_34 := Lib.hid (HM_33.out.fld 21 (.int .i64 (r_33 : Int)) ({ o2 with guards := x, need := (1 + (r_31 : Int)), wait := (r_33 : Int) }) rfl ⟨HM_33.out.lies.past, HM_33.out.lies.path, HM_33.out.lies.pathB, HM_33.out.lies.body, HM_33.out.lies.refs, HM_33.out.lies.guards, HM_33.out.lies.boxes, HM_33.out.lies.hist, HM_33.out.lies.histB⟩)
              go_wp2_with fail
              have a_35 := nx_lt xs (i + 1 + 1) (show 0 < 1000 by omega)
              obtain ⟨r_35, hr_35⟩ : ∃ r, r = nx xs (i + 1 + 1) 1000 := ⟨_, rfl⟩
              rw [← hr_35] at a_35
              have HN := Lib.hid (next_lit HM_34.out.tk (by omega) 1000 1000 (by omega) (by omega) rfl hr_35)
              have u_35 := wrap_u r_35 (by omega)
              clear hr_35 k21 f21
              with_reducible refine (HN.out).mono ?_
              rintro e w_35 ⟨rfl, htn⟩
              have HM_35 := Lib.hid (HM_34.out.tn htn)
              clear htn HN
              have k23 := (HM_35.out.vr.cell 23).trans (LOp.c23 ({ o2 with guards := x, need := (1 + (r_31 : Int)), wait := (r_33 : Int) }))
              have f23 := HM_35.out.vr.frozen 23
              have HM_36 := Lib.hid (HM_35.out.fld 23 (.int .u64 (1 + (r_35 : Int))) ({ o2 with guards := x, need := (1 + (r_31 : Int)), wait := (r_33 : Int), pub := (1 + r_35) }) rfl ⟨HM_35.out.lies.past, HM_35.out.lies.path, HM_35.out.lies.pathB, HM_35.out.lies.body, HM_35.out.lies.refs, HM_35.out.lies.guards, HM_35.out.lies.boxes, HM_35.out.lies.hist, HM_35.out.lies.histB⟩)
              have g19 := (HM_36.out.vr.cell 19).trans (LOp.c19 ({ o2 with guards := x, need := (1 + (r_31 : Int)), wait := (r_33 : Int), pub := (1 + r_35) }))
              go_wp2_with fail
              have HN := Lib.hid (boxes_lit HM_36.out.tk (x.l.length : Int) x.l.length (by omega) (by omega) (by omega))
              with_reducible refine (HN.out).mono ?_
              rintro e w_37 ⟨x_37, rfl, hxl, hxg, hxr, htn⟩
              have HXL_37 := Lib.hid hxl
              have HXG_37 := Lib.hid hxg
              have HXR_37 := Lib.hid (hxr.lz (F := Til (V + 1)) fun k hk => Nat.lt_of_lt_of_le hk HM_36.out.ord.2.2.2)
              have HM_37 := Lib.hid (HM_36.out.tn htn)
              clear htn hxl hxg hxr HN k23 f23 g19
              have k22 := (HM_37.out.vr.cell 22).trans (LOp.c22 ({ o2 with guards := x, need := (1 + (r_31 : Int)), wait := (r_33 : Int), pub := (1 + r_35) }))
              have f22 := HM_37.out.vr.frozen 22
              have HM_38 := Lib.hid (HM_37.out.fld 22 (.slice x_37.A x_37.l.length x_37.c) ({ o2 with guards := x, need := (1 + (r_31 : Int)), wait := (r_33 : Int), pub := (1 + r_35), boxes := x_37 }) rfl ⟨HM_37.out.lies.past, HM_37.out.lies.path, HM_37.out.lies.pathB, HM_37.out.lies.body, HM_37.out.lies.refs, HM_37.out.lies.guards, HXR_37.out, HM_37.out.lies.hist, HM_37.out.lies.histB⟩)
              go_wp2
              go_meet
              exact ⟨_, _, _, rfl, HM_38.out, by omega, Sw.guard x (1 + (r_31 : Int)) (r_33 : Int) (1 + r_35) x_37 HKD2.out ⟨hl0, hl6⟩ HGL.out HPW.out ⟨by omega, by omega⟩ ⟨by omega, by omega⟩ ⟨by omega, by omega⟩ HXL_37.out HXG_37.out⟩
        · as_aux_lemma =>
          go_wp2_with fail
          have HN := Lib.hid (name_any HM2.out.tk (by omega))
          with_reducible refine (HN.out).mono ?_
          rintro e w_39 ⟨y_39, rfl, hyg, htn⟩
          have HY_39 := Lib.hid hyg
          have HM_39 := Lib.hid (HM2.out.tn htn)
          clear htn hyg HN c2
          go_wp2_with (refine wpList_store_of rfl (.tmp 206) (.tmp 205) rfl rfl rfl HM_39.out.vr ?_; intro wS40 hvS hgS; have HM_40 := Lib.hid (HM_39.out.put hgS hvS ⟨HM_39.out.lies.past, HM_39.out.lies.path, HM_39.out.lies.pathB, HM_39.out.lies.body, HM_39.out.lies.refs, HM_39.out.lies.guards, HM_39.out.lies.boxes, HM_39.out.lies.hist, HM_39.out.lies.histB⟩); clear hvS hgS)
          have a_41 := nx_lt xs (i2 + 3) (show 0 < 6 by omega)
          obtain ⟨r_41, hr_41⟩ : ∃ r, r = nx xs (i2 + 3) 6 := ⟨_, rfl⟩
          rw [← hr_41] at a_41
          have HN := Lib.hid (next_lit HM_40.out.tk (by omega) 6 6 (by omega) (by omega) rfl hr_41)
          clear hr_41
          with_reducible refine (HN.out).mono ?_
          rintro e w_41 ⟨rfl, htn⟩
          have HM_41 := Lib.hid (HM_40.out.tn htn)
          clear htn HN
          go_wp2_with fail
          have HN := Lib.hid (boxes_lit HM_41.out.tk (1 + (r_41 : Int)) (1 + r_41) (by omega) (by omega) (by omega))
          with_reducible refine (HN.out).mono ?_
          rintro e w_42 ⟨x_42, rfl, hxl, hxg, hxr, htn⟩
          have HXL_42 := Lib.hid hxl
          have HXG_42 := Lib.hid hxg
          have HXR_42 := Lib.hid (hxr.lz (F := Til (V + 1)) fun k hk => Nat.lt_of_lt_of_le hk HM_41.out.ord.2.2.2)
          have HM_42 := Lib.hid (HM_41.out.tn htn)
          clear htn hxl hxg hxr HN
          have k22 := (HM_42.out.vr.cell 22).trans (LOp.c22 ({ o2 with of_ := y_39 }))
          have f22 := HM_42.out.vr.frozen 22
          have HM_43 := Lib.hid (HM_42.out.fld 22 (.slice x_42.A x_42.l.length x_42.c) ({ o2 with of_ := y_39, boxes := x_42 }) rfl ⟨HM_42.out.lies.past, HM_42.out.lies.path, HM_42.out.lies.pathB, HM_42.out.lies.body, HM_42.out.lies.refs, HM_42.out.lies.guards, HXR_42.out, HM_42.out.lies.hist, HM_42.out.lies.histB⟩)
          go_wp2
          go_meet
          exact ⟨_, _, _, rfl, HM_43.out, by omega, Sw.refresh _ _ HKD2.out HY_39.out ⟨by rw [HXL_42.out]; omega, by rw [HXL_42.out]; omega⟩ HXG_42.out⟩
        · as_aux_lemma =>
          go_wp2_with fail
          have HN := Lib.hid (name_any HM2.out.tk (by omega))
          with_reducible refine (HN.out).mono ?_
          rintro e w_44 ⟨y_44, rfl, hyg, htn⟩
          have HY_44 := Lib.hid hyg
          have HM_44 := Lib.hid (HM2.out.tn htn)
          clear htn hyg HN c2
          go_wp2_with (refine wpList_store_of rfl (.tmp 217) (.tmp 216) rfl rfl rfl HM_44.out.vr ?_; intro wS45 hvS hgS; have HM_45 := Lib.hid (HM_44.out.put hgS hvS ⟨HM_44.out.lies.past, HM_44.out.lies.path, HM_44.out.lies.pathB, HM_44.out.lies.body, HM_44.out.lies.refs, HM_44.out.lies.guards, HM_44.out.lies.boxes, HM_44.out.lies.hist, HM_44.out.lies.histB⟩); clear hvS hgS)
          have a_46 := nx_lt xs (i2 + 3) (show 0 < 12 by omega)
          obtain ⟨r_46, hr_46⟩ : ∃ r, r = nx xs (i2 + 3) 12 := ⟨_, rfl⟩
          rw [← hr_46] at a_46
          have HN := Lib.hid (next_lit HM_45.out.tk (by omega) 12 12 (by omega) (by omega) rfl hr_46)
          clear hr_46
          with_reducible refine (HN.out).mono ?_
          rintro e w_46 ⟨rfl, htn⟩
          have HM_46 := Lib.hid (HM_45.out.tn htn)
          clear htn HN
          have k5 := (HM_46.out.vr.cell 5).trans (LOp.c5 ({ o2 with of_ := y_44 }))
          have f5 := HM_46.out.vr.frozen 5
          have HM_47 := Lib.hid (HM_46.out.fld 5 (.int .i64 (1 + (r_46 : Int))) ({ o2 with of_ := y_44, dev := (1 + (r_46 : Int)) }) rfl ⟨HM_46.out.lies.past, HM_46.out.lies.path, HM_46.out.lies.pathB, HM_46.out.lies.body, HM_46.out.lies.refs, HM_46.out.lies.guards, HM_46.out.lies.boxes, HM_46.out.lies.hist, HM_46.out.lies.histB⟩)
          go_wp2_with fail
          have HN := Lib.hid (boxes_lit HM_47.out.tk 1 1 (by omega) (by omega) (by omega))
          with_reducible refine (HN.out).mono ?_
          rintro e w_48 ⟨x_48, rfl, hxl, hxg, hxr, htn⟩
          have HXL_48 := Lib.hid hxl
          have HXG_48 := Lib.hid hxg
          have HXR_48 := Lib.hid (hxr.lz (F := Til (V + 1)) fun k hk => Nat.lt_of_lt_of_le hk HM_47.out.ord.2.2.2)
          have HM_48 := Lib.hid (HM_47.out.tn htn)
          clear htn hxl hxg hxr HN k5 f5
          have k22 := (HM_48.out.vr.cell 22).trans (LOp.c22 ({ o2 with of_ := y_44, dev := (1 + (r_46 : Int)) }))
          have f22 := HM_48.out.vr.frozen 22
          have HM_49 := Lib.hid (HM_48.out.fld 22 (.slice x_48.A x_48.l.length x_48.c) ({ o2 with of_ := y_44, dev := (1 + (r_46 : Int)), boxes := x_48 }) rfl ⟨HM_48.out.lies.past, HM_48.out.lies.path, HM_48.out.lies.pathB, HM_48.out.lies.body, HM_48.out.lies.refs, HM_48.out.lies.guards, HXR_48.out, HM_48.out.lies.hist, HM_48.out.lies.histB⟩)
          go_wp2
          go_meet
          exact ⟨_, _, _, rfl, HM_49.out, by omega, Sw.vouch _ _ _ HKD2.out HY_44.out ⟨by omega, by omega⟩ HXL_48.out HXG_48.out⟩
        · as_aux_lemma =>
          go_wp2_with fail
          have HN := Lib.hid (name_any HM2.out.tk (by omega))
          with_reducible refine (HN.out).mono ?_
          rintro e w_50 ⟨y_50, rfl, hyg, htn⟩
          have HY_50 := Lib.hid hyg
          have HM_50 := Lib.hid (HM2.out.tn htn)
          clear htn hyg HN c2
          go_wp2_with (refine wpList_store_of rfl (.tmp 243) (.tmp 242) rfl rfl rfl HM_50.out.vr ?_; intro wS51 hvS hgS; have HM_51 := Lib.hid (HM_50.out.put hgS hvS ⟨HM_50.out.lies.past, HM_50.out.lies.path, HM_50.out.lies.pathB, HM_50.out.lies.body, HM_50.out.lies.refs, HM_50.out.lies.guards, HM_50.out.lies.boxes, HM_50.out.lies.hist, HM_50.out.lies.histB⟩); clear hvS hgS)
          go_meet
          exact ⟨_, _, _, rfl, HM_51.out, by omega, Sw.plain _ (.inr HKD2.out) HY_50.out⟩
        · as_aux_lemma =>
          go_wp2_with fail
          have HN := Lib.hid (name_any HM2.out.tk (by omega))
          with_reducible refine (HN.out).mono ?_
          rintro e w_52 ⟨y_52, rfl, hyg, htn⟩
          have HY_52 := Lib.hid hyg
          have HM_52 := Lib.hid (HM2.out.tn htn)
          clear htn hyg HN c2
          go_wp2_with (refine wpList_store_of rfl (.tmp 229) (.tmp 228) rfl rfl rfl HM_52.out.vr ?_; intro wS53 hvS hgS; have HM_53 := Lib.hid (HM_52.out.put hgS hvS ⟨HM_52.out.lies.past, HM_52.out.lies.path, HM_52.out.lies.pathB, HM_52.out.lies.body, HM_52.out.lies.refs, HM_52.out.lies.guards, HM_52.out.lies.boxes, HM_52.out.lies.hist, HM_52.out.lies.histB⟩); clear hvS hgS)
          have a_54 := nx_lt xs (i2 + 3) (show 0 < 12 by omega)
          obtain ⟨r_54, hr_54⟩ : ∃ r, r = nx xs (i2 + 3) 12 := ⟨_, rfl⟩
          rw [← hr_54] at a_54
          have HN := Lib.hid (next_lit HM_53.out.tk (by omega) 12 12 (by omega) (by omega) rfl hr_54)
          clear hr_54
          with_reducible refine (HN.out).mono ?_
          rintro e w_54 ⟨rfl, htn⟩
          have HM_54 := Lib.hid (HM_53.out.tn htn)
          clear htn HN
          have k5 := (HM_54.out.vr.cell 5).trans (LOp.c5 ({ o2 with of_ := y_52 }))
          have f5 := HM_54.out.vr.frozen 5
          have HM_55 := Lib.hid (HM_54.out.fld 5 (.int .i64 (1 + (r_54 : Int))) ({ o2 with of_ := y_52, dev := (1 + (r_54 : Int)) }) rfl ⟨HM_54.out.lies.past, HM_54.out.lies.path, HM_54.out.lies.pathB, HM_54.out.lies.body, HM_54.out.lies.refs, HM_54.out.lies.guards, HM_54.out.lies.boxes, HM_54.out.lies.hist, HM_54.out.lies.histB⟩)
          go_wp2_with fail
          have a_56 := nx_lt xs (i2 + 3 + 1) (show 0 < 12 by omega)
          obtain ⟨r_56, hr_56⟩ : ∃ r, r = nx xs (i2 + 3 + 1) 12 := ⟨_, rfl⟩
          rw [← hr_56] at a_56
          have HN := Lib.hid (next_lit HM_55.out.tk (by omega) 12 12 (by omega) (by omega) rfl hr_56)
          clear hr_56 k5 f5
          with_reducible refine (HN.out).mono ?_
          rintro e w_56 ⟨rfl, htn⟩
          have HM_56 := Lib.hid (HM_55.out.tn htn)
          clear htn HN
          have k6 := (HM_56.out.vr.cell 6).trans (LOp.c6 ({ o2 with of_ := y_52, dev := (1 + (r_54 : Int)) }))
          have f6 := HM_56.out.vr.frozen 6
          have HM_57 := Lib.hid (HM_56.out.fld 6 (.int .i64 (1 + (r_56 : Int))) ({ o2 with of_ := y_52, dev := (1 + (r_54 : Int)), old := (1 + (r_56 : Int)) }) rfl ⟨HM_56.out.lies.past, HM_56.out.lies.path, HM_56.out.lies.pathB, HM_56.out.lies.body, HM_56.out.lies.refs, HM_56.out.lies.guards, HM_56.out.lies.boxes, HM_56.out.lies.hist, HM_56.out.lies.histB⟩)
          go_wp2
          go_meet
          exact ⟨_, _, _, rfl, HM_57.out, by omega, Sw.replace _ _ _ HKD2.out HY_52.out ⟨by omega, by omega⟩ ⟨by omega, by omega⟩⟩
      case rest =>
        obtain ⟨o3, i3, W3, rfl, hmk3, hi3, hsw⟩ := hcut
        have hkd3 : o3.kind = kd0 := hsw.head3.trans HKD2.out
        have HM3 := Lib.hid hmk3
        have HSW := Lib.hid hsw
        have HKD3 := Lib.hid hkd3
        have HH3 := Lib.hid (show o3.hist = Ls.nil from hsw.hist0.trans HH0.out)
        have hTV3 := hmk3.ord
        clear c2
        have c2 := (hmk3.vr.cell 2).trans o3.c2
        rw [hkd3] at c2
        clear hmk3 hsw hkd3
        have hks : kd0 = 2 ∨ kd0 = 13 ∨ (kd0 ≠ 2 ∧ kd0 ≠ 13) := by omega
        rcases hks with rfl | rfl | ⟨hn2, hn13⟩
        · as_aux_lemma =>
          go_wp2_with fail
          have a_58 := nx_lt xs (i3) (show 0 < 3 by omega)
          obtain ⟨r_58, hr_58⟩ : ∃ r, r = nx xs (i3) 3 := ⟨_, rfl⟩
          rw [← hr_58] at a_58
          have HN := Lib.hid (next_lit HM3.out.tk (by omega) 3 3 (by omega) (by omega) rfl hr_58)
          clear hr_58 c2
          with_reducible refine (HN.out).mono ?_
          rintro e w_58 ⟨rfl, htn⟩
          have HM_58 := Lib.hid (HM3.out.tn htn)
          clear htn HN
          have HPG0 := Lib.hid (Pg.nil (K := kSd) (fld := sHist) (N := nHist) HM_58.out (by show { o3 with hist := Ls.nil } = o3; rw [← HH3.out]))
          obtain ⟨B, hB⟩ : ∃ B, B = w_58.heap.size := ⟨_, rfl⟩
          rw [← hB] at HPG0
          clear hB
          go_wp2
          go_loopw [10] (fun cv wr => ∃ (c : Nat) (x : Ls LSd) (i : Nat), cv = .int .i64 (c : Int) ∧ c ≤ r_58 ∧ x.l.length + c = r_58 ∧ (∀ y ∈ x.l, GNm y.nm ∧ 8 ≤ y.body.l.length ∧ y.body.l.length ≤ 12) ∧ Pg kSd sHist nHist E (V + 1) T V B w wr xs i o3 x ∧ i ≤ i3 + 1 + 20 * (r_58 - c)) (fun cv _ => (intOf cv).toNat)
          case atStart => exact ⟨r_58, Ls.nil, i3 + 1, rfl, Nat.le_refl _, (by show 0 + r_58 = r_58; omega), (fun _ h => nomatch h), HPG0.out, by omega⟩
          case round =>
            obtain ⟨c, x, i, rfl, hc, hxc, hgood, hpg, hi⟩ := hrel
            have HGOOD := Lib.hid hgood
            have HPG := Lib.hid hpg
            obtain ⟨wo, rfl⟩ : ∃ wo, wo = wr := ⟨_, rfl⟩
            by_cases hc0 : 0 < c
            · have q6_ : decide ((0 : Int) < (c : Int)) = true := decide_eq_true (by omega)
              have q7_ : decide (0 < c) = true := decide_eq_true hc0
              have HC0 := Lib.hid hc0
              have a1_ := nx_lt xs (i + 3) (show 0 < 5 by omega)
              obtain ⟨p1, hp1⟩ : ∃ r, r = nx xs (i + 3) 5 := ⟨_, rfl⟩
              rw [← hp1] at a1_
              have HP1 := Lib.hid hp1
              have v1_ : IntKind.i64.wrap (8 + (p1 : Int)) = 8 + (p1 : Int) := by rw [IntKind.wrap_i64]; omega
              have HD := Lib.hid (hpg.drew mv_hist)
              have HNA := Lib.hid (name_any HD.out.me.tk (by omega))
              have c24 := (HD.out.me.vr.cell 24).trans (LOp.c24 (sHist o3 x))
              clear hgood hpg hc0 hp1 HPG
              go_wp2
              refine Ord.start (by kernel_rfl) ?_
              try simp only [Act.put, List.getElem_toArray, List.getElem_cons_succ, List.getElem_cons_zero, List.setIfInBounds_toArray, List.set_cons_zero, List.set_cons_succ]
              refine wpAny_take (i := 0) (v := ?_) rfl (by kernel_rfl) (by kernel_rfl) (by kernel_rfl) (fun _ _ _ h => h) (Or.inl ⟨by rfl, ?_⟩) ?_
              rotate_left
              · (intro w; go_simp; try (with_reducible rfl))
              try simp only [Act.put, List.getElem_toArray, List.getElem_cons_zero, List.setIfInBounds_toArray, List.set_cons_zero, List.set_cons_succ]
              refine Ord.load_first [11, 13] (fun w' : World => w'.cell? ⟨V, 24, none⟩ = some (.slice x.A x.l.length x.c)) (i := 1) (v := ?_) rfl (by kernel_rfl) (by kernel_rfl) (by kernel_rfl) (by kernel_rfl) (by kernel_rfl) (fun _ _ _ h => h) (Or.inl ⟨by rfl, ?_⟩) c24 ?_
              rotate_left
              · (intro w hSw; (try dsimp only at hSw); go_simp; try (with_reducible rfl))
              try simp only [Act.put, List.getElem_toArray, List.getElem_cons_succ, List.getElem_cons_zero, List.setIfInBounds_toArray, List.set_cons_zero, List.set_cons_succ]
              refine Ord.AnyR.take (i := 2) (v := ?_) rfl (by kernel_rfl) (by kernel_rfl) (by kernel_rfl) (fun _ _ _ h => h) (fun _ _ h => h) (Or.inl ⟨by rfl, ?_⟩) ?_
              rotate_left
              · (intro w; go_simp; try (with_reducible rfl))
              try simp only [Act.put, List.getElem_toArray, List.getElem_cons_succ, List.getElem_cons_zero, List.setIfInBounds_toArray, List.set_cons_zero, List.set_cons_succ]
              refine Ord.AnyR.take (i := 4) (v := ?_) rfl (by kernel_rfl) (by kernel_rfl) (by kernel_rfl) (fun _ _ _ h => h) (fun _ _ h => h) (Or.inl ⟨by rfl, ?_⟩) ?_
              rotate_left
              · (intro w; go_simp; try (with_reducible rfl))
              try simp only [Act.put, List.getElem_toArray, List.getElem_cons_succ, List.getElem_cons_zero, List.setIfInBounds_toArray, List.set_cons_zero, List.set_cons_succ]
              refine Ord.AnyR.take (i := 5) (v := ?_) rfl (by kernel_rfl) (by kernel_rfl) (by kernel_rfl) (fun _ _ _ h => h) (fun _ _ h => h) (Or.inl ⟨by rfl, ?_⟩) ?_
              rotate_left
              · (intro w; go_simp; try (with_reducible rfl))
              try simp only [Act.put, List.getElem_toArray, List.getElem_cons_succ, List.getElem_cons_zero, List.setIfInBounds_toArray, List.set_cons_zero, List.set_cons_succ]
              refine Ord.AnyR.ready1 (i := 3) (by kernel_rfl) rfl (fun K hK => ?_)
              go_simp
              with_reducible refine (HNA.out).mono ?_
              rintro e w8 ⟨y8, rfl, hyn, htn⟩
              have HYN := Lib.hid hyn
              have HG8 := Lib.hid (HD.out.tn mv_hist htn)
              have HNB := Lib.hid (next_lit HG8.out.me.tk (by omega) 5 5 (by omega) (by omega) rfl HP1.out)
              clear htn hyn HNA HD c24
              try go_simp
              refine hK.out _ _ (fun _ _ => (HG8.out.me.vr.cell 24).trans (LOp.c24 (sHist o3 x))) ?_
              clear hK K
              try simp only [Act.put, List.getElem_toArray, List.getElem_cons_succ, List.getElem_cons_zero, List.setIfInBounds_toArray, List.set_cons_zero, List.set_cons_succ]
              refine Ord.AnyR.ready1 (i := 6) (by kernel_rfl) rfl (fun K hK => ?_)
              go_simp
              with_reducible refine (HNB.out).mono ?_
              rintro e w9 ⟨rfl, htn⟩
              have HG9 := Lib.hid (HG8.out.tn mv_hist htn)
              have HBX := Lib.hid (bytes_lit HG9.out.me.tk (8 + (p1 : Int)) (8 + p1) (by omega) (by omega) (by omega))
              clear htn HNB HG8
              try go_simp
              refine hK.out _ _ (fun _ _ => (HG9.out.me.vr.cell 24).trans (LOp.c24 (sHist o3 x))) ?_
              clear hK K
              try simp only [Act.put, List.getElem_toArray, List.getElem_cons_succ, List.getElem_cons_zero, List.setIfInBounds_toArray, List.set_cons_zero, List.set_cons_succ]
              refine Ord.AnyR.take (i := 7) (v := ?_) rfl (by kernel_rfl) (by kernel_rfl) (by kernel_rfl) (fun _ _ _ h => h) (fun _ _ h => h) (Or.inl ⟨by rfl, ?_⟩) ?_
              rotate_left
              · (intro w; go_simp; try (with_reducible rfl))
              try simp only [Act.put, List.getElem_toArray, List.getElem_cons_succ, List.getElem_cons_zero, List.setIfInBounds_toArray, List.set_cons_zero, List.set_cons_succ]
              refine Ord.AnyR.ready1 (i := 8) (by kernel_rfl) rfl (fun K hK => ?_)
              go_simp
              with_reducible refine (HBX.out).mono ?_
              rintro e w10 ⟨yb, rfl, hyl, _, hyr, htn⟩
              have HYB := Lib.hid (HG9.out.in_ hyr |>.bf (Bf.alloc w10 (.cells #[.int .i64 y8.a, .int .i64 y8.b, .int .u64 (y8.c : Int), .slice yb.A yb.l.length yb.c] 81)))
              have HG10 := Lib.hid (HG9.out.tn mv_hist htn)
              have HYL := Lib.hid hyl
              clear htn hyl hyr HBX HG9
              try go_simp
              refine hK.out _ _ (fun _ _ => (HG10.out.me.vr.cell 24).trans (LOp.c24 (sHist o3 x))) ?_
              clear hK K
              try simp only [Act.put, List.getElem_toArray, List.getElem_cons_succ, List.getElem_cons_zero, List.setIfInBounds_toArray, List.set_cons_zero, List.set_cons_succ]
              refine Ord.AnyR.take (i := 9) (v := ?_) rfl (by kernel_rfl) (by kernel_rfl) (by kernel_rfl) (fun _ _ _ h => h) (fun _ _ h => h) (Or.inl ⟨by rfl, ?_⟩) ?_
              rotate_left
              · (intro w; go_simp; try (with_reducible rfl))
              try simp only [Act.put, List.getElem_toArray, List.getElem_cons_succ, List.getElem_cons_zero, List.setIfInBounds_toArray, List.set_cons_zero, List.set_cons_succ]
              refine Ord.AnyR.ready1 (i := 10) (by kernel_rfl) rfl (fun K hK => ?_)
              go_simp
              have HGA := Lib.hid (HG10.out.alloc mv_hist (.cells #[.int .i64 y8.a, .int .i64 y8.b, .int .u64 (y8.c : Int), .slice yb.A yb.l.length yb.c] 81))
              have HSRC := Lib.hid (show ∀ j u, (kSd.cells [⟨y8, yb⟩])[j]? = some u → (w10.alloc (.cells #[.int .i64 y8.a, .int .i64 y8.b, .int .u64 (y8.c : Int), .slice yb.A yb.l.length yb.c] 81)).cell? ((⟨w10.heap.size, 0, none⟩ : Addr).add j) = some u from fun j u hu => by rw [kSd.cells_one] at hu; exact cell_new w10 #[.int .i64 y8.a, .int .i64 y8.b, .int .u64 (y8.c : Int), .slice yb.A yb.l.length yb.c] 81 j u hu)
              clear HG10
              refine hK.out _ _ (fun _ _ => (HGA.out.me.vr.cell 24).trans (LOp.c24 (sHist o3 x))) ?_
              clear hK K
              try simp only [Act.put, List.getElem_toArray, List.getElem_cons_succ, List.getElem_cons_zero, List.setIfInBounds_toArray, List.set_cons_zero, List.set_cons_succ]
              refine Ord.AnyR.ready1 (i := 11) (by kernel_rfl) rfl (fun K hK => ?_)
              refine step_push1 ki_sd rfl (.tmp 259) (.tmp 268) rfl B x HGA.out.gr rfl _ 1 1 [⟨y8, yb⟩] rfl rfl (by omega) HSRC.out (by simp only [List.length_singleton]; omega) HGA.out.size ?_
              intro z w11 hz hgz hgw hlie
              have HPZ := Lib.hid (hist_push HGA.out HYB.out hz hgz hgw hlie)
              have HZ := Lib.hid hz
              have k9 := ((HGA.out.own hgw).cell 24).trans (LOp.c24 (sHist o3 x))
              have kf := (HGA.out.own hgw).frozen 24
              clear hz hgz hgw hlie HGA HYB HSRC
              rw [show z.v = .slice z.A z.l.length z.c from rfl]
              refine hK.out _ _ (fun h => absurd h (by decide)) ?_
              clear hK K
              try simp only [Act.put, List.getElem_toArray, List.getElem_cons_succ, List.getElem_cons_zero, List.setIfInBounds_toArray, List.set_cons_zero, List.set_cons_succ]
              refine Ord.AnyR.take (i := 12) (v := ?_) rfl (by kernel_rfl) (by kernel_rfl) (by kernel_rfl) (fun _ _ _ h => h) (fun _ _ h => h) (Or.inl ⟨by rfl, ?_⟩) ?_
              rotate_left
              · (intro w; go_simp; try (with_reducible rfl))
              try simp only [Act.put, List.getElem_toArray, List.getElem_cons_succ, List.getElem_cons_zero, List.setIfInBounds_toArray, List.set_cons_zero, List.set_cons_succ]
              refine Ord.AnyR.ready1 (i := 13) (by kernel_rfl) rfl (fun K hK => ?_)
              go_simp
              refine hK.out _ _ (fun h => absurd h (by decide)) ?_
              clear hK K
              try simp only [Act.put, List.getElem_toArray, List.getElem_cons_succ, List.getElem_cons_zero, List.setIfInBounds_toArray, List.set_cons_zero, List.set_cons_succ]
              refine Ord.AnyR.end_ (by kernel_rfl) ?_ _
              have HZL := Lib.hid (show z.l.length = x.l.length + 1 by rw [HZ.out, List.length_append]; rfl)
              go_wp2
              go_roundw
              case rel =>
                have := HC0.out
                have := HZL.out
                refine ⟨c - 1, z, i + 3 + 1 + (8 + p1), by rw [show ((c : Int) - 1) = ((c - 1 : Nat) : Int) by omega], by omega, by omega, ?_, HPZ.out, by omega⟩
                intro y' hy'
                rw [HZ.out] at hy'
                rcases List.mem_append.1 hy' with h1 | h1
                · exact HGOOD.out y' h1
                · rw [List.mem_singleton.1 h1]; exact ⟨HYN.out, by show 8 ≤ yb.l.length; rw [HYL.out]; omega, by show yb.l.length ≤ 12; rw [HYL.out]; omega⟩
              case measure => have := HC0.out; simp [intOf]; omega
            · have hc00 : c = 0 := by omega
              have q6_ : decide ((0 : Int) < (c : Int)) = false := decide_eq_false (by omega)
              have q7_ : decide (0 < c) = false := decide_eq_false hc0
              have HMX := Lib.hid hpg.me
              clear hgood hpg hc0
              have HRES := Lib.hid (show Vr wo w.heap.size LOp.zero from HE.out ▸ HMX.out.res)
              go_wp2_with (first | (refine wpList_load_op rfl _ rfl rfl HMX.out.vr ?_) | (refine wpList_store_op (o' := (sHist o3 x)) rfl _ _ rfl rfl rfl HRES.out ?_))
              refine bodyPost_ret (v := ((sHist o3 x)).v) (results_op rfl rfl _ rfl (HRES.out.setRow ((sHist o3 x)))) rfl ?_
              obtain ⟨hf1, hf2⟩ := HMX.out.fin HE.out
              refine ⟨(sHist o3 x), rfl, ?_, hf1, hf2⟩
              rw [← HY.out]
              refine ⟨r0, r3, o1, o2, o3, a0, a3, ?_, HPA.out, HSW.out, ⟨rfl, (fun h2 h13 => by have := HKD3.out; omega), (by show x.l.length ≤ 2; omega), HGOOD.out⟩⟩
              rw [← HRR1.out, ← HRR2.out, ← HO.out]
              exact HPO.out
        · as_aux_lemma =>
          go_wp2_with fail
          have a_59 := nx_lt xs (i3) (show 0 < 3 by omega)
          obtain ⟨r_59, hr_59⟩ : ∃ r, r = nx xs (i3) 3 := ⟨_, rfl⟩
          rw [← hr_59] at a_59
          have HN := Lib.hid (next_lit HM3.out.tk (by omega) 3 3 (by omega) (by omega) rfl hr_59)
          clear hr_59 c2
          with_reducible refine (HN.out).mono ?_
          rintro e w_59 ⟨rfl, htn⟩
          have HM_59 := Lib.hid (HM3.out.tn htn)
          clear htn HN
          have HPG0 := Lib.hid (Pg.nil (K := kSd) (fld := sHist) (N := nHist) HM_59.out (by show { o3 with hist := Ls.nil } = o3; rw [← HH3.out]))
          obtain ⟨B, hB⟩ : ∃ B, B = w_59.heap.size := ⟨_, rfl⟩
          rw [← hB] at HPG0
          clear hB
          go_wp2
          go_loopw [10] (fun cv wr => ∃ (c : Nat) (x : Ls LSd) (i : Nat), cv = .int .i64 (c : Int) ∧ c ≤ r_59 ∧ x.l.length + c = r_59 ∧ (∀ y ∈ x.l, GNm y.nm ∧ 8 ≤ y.body.l.length ∧ y.body.l.length ≤ 12) ∧ Pg kSd sHist nHist E (V + 1) T V B w wr xs i o3 x ∧ i ≤ i3 + 1 + 20 * (r_59 - c)) (fun cv _ => (intOf cv).toNat)
          case atStart => exact ⟨r_59, Ls.nil, i3 + 1, rfl, Nat.le_refl _, (by show 0 + r_59 = r_59; omega), (fun _ h => nomatch h), HPG0.out, by omega⟩
          case round =>
            obtain ⟨c, x, i, rfl, hc, hxc, hgood, hpg, hi⟩ := hrel
            have HGOOD := Lib.hid hgood
            have HPG := Lib.hid hpg
            obtain ⟨wo, rfl⟩ : ∃ wo, wo = wr := ⟨_, rfl⟩
            by_cases hc0 : 0 < c
            · have q6_ : decide ((0 : Int) < (c : Int)) = true := decide_eq_true (by omega)
              have q7_ : decide (0 < c) = true := decide_eq_true hc0
              have HC0 := Lib.hid hc0
              have a1_ := nx_lt xs (i + 3) (show 0 < 5 by omega)
              obtain ⟨p1, hp1⟩ : ∃ r, r = nx xs (i + 3) 5 := ⟨_, rfl⟩
              rw [← hp1] at a1_
              have HP1 := Lib.hid hp1
              have v1_ : IntKind.i64.wrap (8 + (p1 : Int)) = 8 + (p1 : Int) := by rw [IntKind.wrap_i64]; omega
              have HD := Lib.hid (hpg.drew mv_hist)
              have HNA := Lib.hid (name_any HD.out.me.tk (by omega))
              have c24 := (HD.out.me.vr.cell 24).trans (LOp.c24 (sHist o3 x))
              clear hgood hpg hc0 hp1 HPG
              go_wp2
              refine Ord.start (by kernel_rfl) ?_
              try simp only [Act.put, List.getElem_toArray, List.getElem_cons_succ, List.getElem_cons_zero, List.setIfInBounds_toArray, List.set_cons_zero, List.set_cons_succ]
              refine wpAny_take (i := 0) (v := ?_) rfl (by kernel_rfl) (by kernel_rfl) (by kernel_rfl) (fun _ _ _ h => h) (Or.inl ⟨by rfl, ?_⟩) ?_
              rotate_left
              · (intro w; go_simp; try (with_reducible rfl))
              try simp only [Act.put, List.getElem_toArray, List.getElem_cons_zero, List.setIfInBounds_toArray, List.set_cons_zero, List.set_cons_succ]
              refine Ord.load_first [11, 13] (fun w' : World => w'.cell? ⟨V, 24, none⟩ = some (.slice x.A x.l.length x.c)) (i := 1) (v := ?_) rfl (by kernel_rfl) (by kernel_rfl) (by kernel_rfl) (by kernel_rfl) (by kernel_rfl) (fun _ _ _ h => h) (Or.inl ⟨by rfl, ?_⟩) c24 ?_
              rotate_left
              · (intro w hSw; (try dsimp only at hSw); go_simp; try (with_reducible rfl))
              try simp only [Act.put, List.getElem_toArray, List.getElem_cons_succ, List.getElem_cons_zero, List.setIfInBounds_toArray, List.set_cons_zero, List.set_cons_succ]
              refine Ord.AnyR.take (i := 2) (v := ?_) rfl (by kernel_rfl) (by kernel_rfl) (by kernel_rfl) (fun _ _ _ h => h) (fun _ _ h => h) (Or.inl ⟨by rfl, ?_⟩) ?_
              rotate_left
              · (intro w; go_simp; try (with_reducible rfl))
              try simp only [Act.put, List.getElem_toArray, List.getElem_cons_succ, List.getElem_cons_zero, List.setIfInBounds_toArray, List.set_cons_zero, List.set_cons_succ]
              refine Ord.AnyR.take (i := 4) (v := ?_) rfl (by kernel_rfl) (by kernel_rfl) (by kernel_rfl) (fun _ _ _ h => h) (fun _ _ h => h) (Or.inl ⟨by rfl, ?_⟩) ?_
              rotate_left
              · (intro w; go_simp; try (with_reducible rfl))
              try simp only [Act.put, List.getElem_toArray, List.getElem_cons_succ, List.getElem_cons_zero, List.setIfInBounds_toArray, List.set_cons_zero, List.set_cons_succ]
              refine Ord.AnyR.take (i := 5) (v := ?_) rfl (by kernel_rfl) (by kernel_rfl) (by kernel_rfl) (fun _ _ _ h => h) (fun _ _ h => h) (Or.inl ⟨by rfl, ?_⟩) ?_
              rotate_left
              · (intro w; go_simp; try (with_reducible rfl))
              try simp only [Act.put, List.getElem_toArray, List.getElem_cons_succ, List.getElem_cons_zero, List.setIfInBounds_toArray, List.set_cons_zero, List.set_cons_succ]
              refine Ord.AnyR.ready1 (i := 3) (by kernel_rfl) rfl (fun K hK => ?_)
              go_simp
              with_reducible refine (HNA.out).mono ?_
              rintro e w8 ⟨y8, rfl, hyn, htn⟩
              have HYN := Lib.hid hyn
              have HG8 := Lib.hid (HD.out.tn mv_hist htn)
              have HNB := Lib.hid (next_lit HG8.out.me.tk (by omega) 5 5 (by omega) (by omega) rfl HP1.out)
              clear htn hyn HNA HD c24
              try go_simp
              refine hK.out _ _ (fun _ _ => (HG8.out.me.vr.cell 24).trans (LOp.c24 (sHist o3 x))) ?_
              clear hK K
              try simp only [Act.put, List.getElem_toArray, List.getElem_cons_succ, List.getElem_cons_zero, List.setIfInBounds_toArray, List.set_cons_zero, List.set_cons_succ]
              refine Ord.AnyR.ready1 (i := 6) (by kernel_rfl) rfl (fun K hK => ?_)
              go_simp
              with_reducible refine (HNB.out).mono ?_
              rintro e w9 ⟨rfl, htn⟩
              have HG9 := Lib.hid (HG8.out.tn mv_hist htn)
              have HBX := Lib.hid (bytes_lit HG9.out.me.tk (8 + (p1 : Int)) (8 + p1) (by omega) (by omega) (by omega))
              clear htn HNB HG8
              try go_simp
              refine hK.out _ _ (fun _ _ => (HG9.out.me.vr.cell 24).trans (LOp.c24 (sHist o3 x))) ?_
              clear hK K
              try simp only [Act.put, List.getElem_toArray, List.getElem_cons_succ, List.getElem_cons_zero, List.setIfInBounds_toArray, List.set_cons_zero, List.set_cons_succ]
              refine Ord.AnyR.take (i := 7) (v := ?_) rfl (by kernel_rfl) (by kernel_rfl) (by kernel_rfl) (fun _ _ _ h => h) (fun _ _ h => h) (Or.inl ⟨by rfl, ?_⟩) ?_
              rotate_left
              · (intro w; go_simp; try (with_reducible rfl))
              try simp only [Act.put, List.getElem_toArray, List.getElem_cons_succ, List.getElem_cons_zero, List.setIfInBounds_toArray, List.set_cons_zero, List.set_cons_succ]
              refine Ord.AnyR.ready1 (i := 8) (by kernel_rfl) rfl (fun K hK => ?_)
              go_simp
              with_reducible refine (HBX.out).mono ?_
              rintro e w10 ⟨yb, rfl, hyl, _, hyr, htn⟩
              have HYB := Lib.hid (HG9.out.in_ hyr |>.bf (Bf.alloc w10 (.cells #[.int .i64 y8.a, .int .i64 y8.b, .int .u64 (y8.c : Int), .slice yb.A yb.l.length yb.c] 81)))
              have HG10 := Lib.hid (HG9.out.tn mv_hist htn)
              have HYL := Lib.hid hyl
              clear htn hyl hyr HBX HG9
              try go_simp
              refine hK.out _ _ (fun _ _ => (HG10.out.me.vr.cell 24).trans (LOp.c24 (sHist o3 x))) ?_
              clear hK K
              try simp only [Act.put, List.getElem_toArray, List.getElem_cons_succ, List.getElem_cons_zero, List.setIfInBounds_toArray, List.set_cons_zero, List.set_cons_succ]
              refine Ord.AnyR.take (i := 9) (v := ?_) rfl (by kernel_rfl) (by kernel_rfl) (by kernel_rfl) (fun _ _ _ h => h) (fun _ _ h => h) (Or.inl ⟨by rfl, ?_⟩) ?_
              rotate_left
              · (intro w; go_simp; try (with_reducible rfl))
              try simp only [Act.put, List.getElem_toArray, List.getElem_cons_succ, List.getElem_cons_zero, List.setIfInBounds_toArray, List.set_cons_zero, List.set_cons_succ]
              refine Ord.AnyR.ready1 (i := 10) (by kernel_rfl) rfl (fun K hK => ?_)
              go_simp
              have HGA := Lib.hid (HG10.out.alloc mv_hist (.cells #[.int .i64 y8.a, .int .i64 y8.b, .int .u64 (y8.c : Int), .slice yb.A yb.l.length yb.c] 81))
              have HSRC := Lib.hid (show ∀ j u, (kSd.cells [⟨y8, yb⟩])[j]? = some u → (w10.alloc (.cells #[.int .i64 y8.a, .int .i64 y8.b, .int .u64 (y8.c : Int), .slice yb.A yb.l.length yb.c] 81)).cell? ((⟨w10.heap.size, 0, none⟩ : Addr).add j) = some u from fun j u hu => by rw [kSd.cells_one] at hu; exact cell_new w10 #[.int .i64 y8.a, .int .i64 y8.b, .int .u64 (y8.c : Int), .slice yb.A yb.l.length yb.c] 81 j u hu)
              clear HG10
              refine hK.out _ _ (fun _ _ => (HGA.out.me.vr.cell 24).trans (LOp.c24 (sHist o3 x))) ?_
              clear hK K
              try simp only [Act.put, List.getElem_toArray, List.getElem_cons_succ, List.getElem_cons_zero, List.setIfInBounds_toArray, List.set_cons_zero, List.set_cons_succ]
              refine Ord.AnyR.ready1 (i := 11) (by kernel_rfl) rfl (fun K hK => ?_)
              refine step_push1 ki_sd rfl (.tmp 259) (.tmp 268) rfl B x HGA.out.gr rfl _ 1 1 [⟨y8, yb⟩] rfl rfl (by omega) HSRC.out (by simp only [List.length_singleton]; omega) HGA.out.size ?_
              intro z w11 hz hgz hgw hlie
              have HPZ := Lib.hid (hist_push HGA.out HYB.out hz hgz hgw hlie)
              have HZ := Lib.hid hz
              have k9 := ((HGA.out.own hgw).cell 24).trans (LOp.c24 (sHist o3 x))
              have kf := (HGA.out.own hgw).frozen 24
              clear hz hgz hgw hlie HGA HYB HSRC
              rw [show z.v = .slice z.A z.l.length z.c from rfl]
              refine hK.out _ _ (fun h => absurd h (by decide)) ?_
              clear hK K
              try simp only [Act.put, List.getElem_toArray, List.getElem_cons_succ, List.getElem_cons_zero, List.setIfInBounds_toArray, List.set_cons_zero, List.set_cons_succ]
              refine Ord.AnyR.take (i := 12) (v := ?_) rfl (by kernel_rfl) (by kernel_rfl) (by kernel_rfl) (fun _ _ _ h => h) (fun _ _ h => h) (Or.inl ⟨by rfl, ?_⟩) ?_
              rotate_left
              · (intro w; go_simp; try (with_reducible rfl))
              try simp only [Act.put, List.getElem_toArray, List.getElem_cons_succ, List.getElem_cons_zero, List.setIfInBounds_toArray, List.set_cons_zero, List.set_cons_succ]
              refine Ord.AnyR.ready1 (i := 13) (by kernel_rfl) rfl (fun K hK => ?_)
              go_simp
              refine hK.out _ _ (fun h => absurd h (by decide)) ?_
              clear hK K
              try simp only [Act.put, List.getElem_toArray, List.getElem_cons_succ, List.getElem_cons_zero, List.setIfInBounds_toArray, List.set_cons_zero, List.set_cons_succ]
              refine Ord.AnyR.end_ (by kernel_rfl) ?_ _
              have HZL := Lib.hid (show z.l.length = x.l.length + 1 by rw [HZ.out, List.length_append]; rfl)
              go_wp2
              go_roundw
              case rel =>
                have := HC0.out
                have := HZL.out
                refine ⟨c - 1, z, i + 3 + 1 + (8 + p1), by rw [show ((c : Int) - 1) = ((c - 1 : Nat) : Int) by omega], by omega, by omega, ?_, HPZ.out, by omega⟩
                intro y' hy'
                rw [HZ.out] at hy'
                rcases List.mem_append.1 hy' with h1 | h1
                · exact HGOOD.out y' h1
                · rw [List.mem_singleton.1 h1]; exact ⟨HYN.out, by show 8 ≤ yb.l.length; rw [HYL.out]; omega, by show yb.l.length ≤ 12; rw [HYL.out]; omega⟩
              case measure => have := HC0.out; simp [intOf]; omega
            · have hc00 : c = 0 := by omega
              have q6_ : decide ((0 : Int) < (c : Int)) = false := decide_eq_false (by omega)
              have q7_ : decide (0 < c) = false := decide_eq_false hc0
              have HMX := Lib.hid hpg.me
              clear hgood hpg hc0
              have HRES := Lib.hid (show Vr wo w.heap.size LOp.zero from HE.out ▸ HMX.out.res)
              go_wp2_with (first | (refine wpList_load_op rfl _ rfl rfl HMX.out.vr ?_) | (refine wpList_store_op (o' := (sHist o3 x)) rfl _ _ rfl rfl rfl HRES.out ?_))
              refine bodyPost_ret (v := ((sHist o3 x)).v) (results_op rfl rfl _ rfl (HRES.out.setRow ((sHist o3 x)))) rfl ?_
              obtain ⟨hf1, hf2⟩ := HMX.out.fin HE.out
              refine ⟨(sHist o3 x), rfl, ?_, hf1, hf2⟩
              rw [← HY.out]
              refine ⟨r0, r3, o1, o2, o3, a0, a3, ?_, HPA.out, HSW.out, ⟨rfl, (fun h2 h13 => by have := HKD3.out; omega), (by show x.l.length ≤ 2; omega), HGOOD.out⟩⟩
              rw [← HRR1.out, ← HRR2.out, ← HO.out]
              exact HPO.out
        · have q2_ : (kd0 == 2) = false := by rw [beq_eq_false_iff_ne]; exact hn2
          have q13_ : (kd0 == 13) = false := by rw [beq_eq_false_iff_ne]; exact hn13
          have HRES := Lib.hid (show Vr W3 w.heap.size LOp.zero from HE.out ▸ HM3.out.res)
          go_wp2_with (first | (refine wpList_load_op rfl _ rfl rfl HM3.out.vr ?_) | (refine wpList_store_op (o' := o3) rfl _ _ rfl rfl rfl HRES.out ?_))
          refine bodyPost_ret (v := (o3).v) (results_op rfl rfl _ rfl (HRES.out.setRow (o3))) rfl ?_
          obtain ⟨hf1, hf2⟩ := HM3.out.fin HE.out
          refine ⟨o3, rfl, ?_, hf1, hf2⟩
          rw [← HY.out]
          refine ⟨r0, r3, o1, o2, o3, a0, a3, ?_, HPA.out, HSW.out, ⟨rfl, (fun _ _ => by rw [HH3.out]; rfl), (by rw [HH3.out]; exact Nat.zero_le _), (by rw [HH3.out]; exact fun _ h => nomatch h)⟩⟩
          rw [← HRR1.out, ← HRR2.out, ← HO.out]
          exact HPO.out
end Ot
end Go.Proofs.YtkicjjcangkneaaGreatDoor
