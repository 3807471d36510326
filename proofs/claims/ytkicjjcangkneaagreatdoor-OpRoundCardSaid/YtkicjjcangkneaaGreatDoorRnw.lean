/-
  Joined texts: Owa Ouh Owb Ouj Ouk Oui.
-/
import Derived.Test.YtkicjjcangkneaaGreatDoorRft
import Derived.Deep.DeepCutAuto
import Derived.Deep.CutBlock
import Derived.Test.YtkicjjcangkneaaGreatDoorOtv
import Derived.Test.YtkicjjcangkneaaGreatDoorRfw
import Derived.Test.YtkicjjcangkneaaGreatDoorInn
import Derived.Test.YtkicjjcangkneaaGreatDoorOrk
import Derived.Test.YtkicjjcangkneaaGreatDoorOug

/-
  The reference's bytes of an operation. For operations of few items, with short texts.
-/
namespace Go.Proofs.YtkicjjcangkneaaGreatDoor
open Go.RowKit
attribute [local go_sem ↓] Go.wp_at_zero Go.wp_at_succ
set_option maxRecDepth 100000
namespace Ot
/-- An operation that was got out of at most 40000 bytes: no text of it is longer. -/
structure Wide (o : Er) : Prop where
  ok : Ok o
  body : o.body.length ≤ 40000
  histB : ∀ s ∈ o.hist, s.body.length ≤ 40000
theorem Tiny.wide {o : Er} (h : Tiny o) : Wide o := ⟨h.ok, Nat.le_trans h.body (by omega), fun s hs => Nat.le_trans (h.histB s hs) (by omega)⟩
theorem nd_mostW {o : LOp} (h : Wide o.er) : o.path.l.length ≤ 1000 := by have := h.ok.path.1; unfold LOp.er at this; rw [List.length_map] at this; exact this
theorem sd_mostW {o : LOp} (h : Wide o.er) : o.hist.l.length ≤ 1000 := by have := h.ok.hist.1; unfold LOp.er at this; rw [List.length_map] at this; exact this
theorem tx_wide (s : List UInt8) (h : s.length ≤ 40000) : (Pk.nText s).length ≤ 40010 := by
  have h1 := Pk.nInt_len (s.length : Nat) (by omega) (by omega)
  unfold Pk.nText
  rw [List.length_append]
  omega
set_option maxHeartbeats 800000 in
theorem rwtext_wide (s : ByteArray) (w : World) (hs : s.size ≤ 40000) : Calls Tryz.prog 79 #[.string s] w fun e w' => Bys w w' e (Pk.nText s.data.toList) := by
  obtain ⟨i0, hi0, hz0, hz1, hz2⟩ := info_parts info_u8
  obtain ⟨B, hBe⟩ : ∃ B, B = w.heap.size := ⟨_, rfl⟩
  have HI := Lib.hid hi0
  have HZ0 := Lib.hid hz0
  have HZ1 := Lib.hid hz1
  have HZ2 := Lib.hid hz2
  have hin := rwint_any (s.size : Nat) w (by omega) (by omega)
  have hl := Pk.nInt_len (s.size : Nat) (by omega) (by omega)
  unfold Bys at hin ⊢
  rw [← hBe] at hin ⊢
  obtain ⟨l1, hl1⟩ : ∃ l1, l1 = Pk.nInt (s.size : Nat) := ⟨_, rfl⟩
  obtain ⟨F, hF⟩ : ∃ F, F = Pk.nText s.data.toList := ⟨_, rfl⟩
  have hF2 : F = l1 ++ s.data.toList := by rw [hF, hl1]; rfl
  rw [← hl1] at hin hl
  obtain ⟨m, hm⟩ : ∃ m, m = l1.length := ⟨_, rfl⟩
  rw [← hm] at hin hl
  rw [← hF]
  have hFl : F.length = m + s.size := by rw [hF2, List.length_append, ← hm]; rfl
  rw [hFl]
  have HN := Lib.hid hin
  have HF := Lib.hid hF2
  have HBS := Lib.hid hBe
  clear hi0 hz0 hz1 hz2 hBe hin hl1 hF hF2 hm hFl
  go_enter Tryz.func79, Tryz.ntmps79
  go_wp2_with fail
  refine (HN.out).mono ?_
  rintro e wr ⟨A, c, rfl, hA, hb⟩
  have hBw : B ≤ wr.heap.size := by have := hb.size; have := HBS.out; omega
  have HA := Lib.hid hA
  have HBEL := Lib.hid hb
  clear hA hb HN
  go_wp2_with (at_builtin; refine Lib.wpList_append_own_string _ rfl _ _ 28 9 rfl B 5 i0 Tryz.underlying28 Tryz.underlying9 HI.out HZ0.out HZ1.out HZ2.out _ _ _ rfl HA.out s rfl (by unfold maxLen; omega) (by omega) hBw ?_; intro v' w1 hown' hgrow _; obtain ⟨A2, c2, rfl⟩ := own_slice hown'; have HO := Lib.hid (And.intro hown' (HBEL.out.grown hgrow hBw (fun j e => (HA.out.lt j e).1))); clear hown' hgrow)
  go_ret
  refine ⟨A2, c2, rfl, ?_, HO.out.2⟩
  rw [HF.out, ou_u8s_app]
  exact HO.out.1

set_option maxHeartbeats 8000000 in
theorem rcon_wide {w : World} (o : LOp) (hx : Lies No w o) (ht : Wide o.er) :
    Calls Tryz.prog 30 #[o.v] w fun e w' => Byt w w' e (con o.er) := by
  obtain ⟨cs, hcs⟩ : ∃ cs, cs = o.cells := ⟨_, rfl⟩
  have hV : Vr (w.alloc (.cells cs 35)) w.heap.size o := by
    unfold Vr
    rw [← hcs]
    exact blk_new w 35 cs
  have hL0 : Lies (fun k => w.heap.size ≤ k) (w.alloc (.cells cs 35)) o := (hx.weak (F := No) fun k hk hf => by have hf : w.heap.size ≤ k := hf; omega).alloc _
  have hb0 : Below w.heap.size w (w.alloc (.cells cs 35)) := (Below.refl _ w).alloc (Nat.le_refl _) _
  have hs0 : w.heap.size + 1 ≤ (w.alloc (.cells cs 35)).heap.size := by simp
  have HK := Lib.hid ht.ok
  have HT := Lib.hid ht
  have HL0 := Lib.hid hL0
  have HV0 := Lib.hid hV
  have HB0 := Lib.hid hb0
  have HS0 := Lib.hid hs0
  have npa : o.past.l.length ≤ 1000 := ht.ok.past.1
  have npt := nd_mostW ht
  have nhi := sd_mostW ht
  have nbo : o.body.l.length ≤ 40000 := ht.body
  have nre : o.refs.l.length ≤ 1000 := ht.ok.refs.1
  have ngu : o.guards.l.length ≤ 1000 := ht.ok.guards.1
  have nbx : o.boxes.l.length ≤ 1000 := ht.ok.boxes.1
  have c0 := (hV.cell 0).trans o.c0
  have c1 := (hV.cell 1).trans o.c1
  have c2 := (hV.cell 2).trans o.c2
  have c3 := (hV.cell 3).trans o.c3
  have c4 := (hV.cell 4).trans o.c4
  have HCS := Lib.hid hcs
  show Calls _ _ #[.agg o.cells] w _
  rw [← hcs]
  clear hx ht hL0 hV hb0 hs0 hcs
  go_enter Tryz.func30, Tryz.ntmps30
  go_wp2_with fail
  have HI := Lib.hid (ints5 (o.by_) (o.seq) (o.kind) (o.at_) ((o.past.l.length : Int)) (HK.out.by_) (HK.out.seq) (HK.out.kind) (HK.out.at_) (len_i64 npa (by omega)))
  have HO := Lib.hid (rints_any (w := (w.alloc (.cells cs 35)).alloc (.cells #[.int .i64 o.by_, .int .i64 o.seq, .int .i64 o.kind, .int .i64 o.at_, .int .i64 (o.past.l.length : Int)] 3)) ⟨[o.by_, o.seq, o.kind, o.at_, (o.past.l.length : Int)], some ⟨(w.alloc (.cells cs 35)).heap.size, 0, none⟩, 5⟩ (lz_new (K := kInt) (w.alloc (.cells cs 35)) [o.by_, o.seq, o.kind, o.at_, (o.past.l.length : Int)] #[.int .i64 o.by_, .int .i64 o.seq, .int .i64 o.kind, .int .i64 o.at_, .int .i64 (o.past.l.length : Int)] 5 rfl rfl) (by show 5 ≤ 1000; omega) HI.out.1)
  rw [show (w.alloc (.cells cs 35)).heap.size = w.heap.size + 1 from by simp] at HO
  have hba := (Below.refl (w.alloc (.cells cs 35)).heap.size (w.alloc (.cells cs 35))).alloc (Nat.le_refl _) (.cells #[.int .i64 o.by_, .int .i64 o.seq, .int .i64 o.kind, .int .i64 o.at_, .int .i64 (o.past.l.length : Int)] 3)
  clear c0 c1 c2 c3 c4
  refine (HO.out).mono ?_
  rintro e w0 ⟨z0, rfl, hzl, hgz, hbz⟩
  have hbb := hba.trans (hbz.mono hba.size)
  have HR := Lib.hid (show Rb w.heap.size w w0 o z0 ([o.by_, o.seq, o.kind, o.at_, (o.past.l.length : Int)].flatMap Pk.nInt) 50 from ⟨HV0.out.below hbb (by simp), HL0.out.below hbb, hgz.base (Nat.le_trans HS0.out hba.size), hzl, by rw [hzl]; exact HI.out.2, HB0.out.trans (hbb.mono HB0.out.size), Nat.le_trans HS0.out hbb.size⟩)
  clear hzl hgz hbz hba hbb HO HI HV0 HL0 HB0 HS0
  go_upto_block 0 with (fail)
  go_cut [3] (fun v wx => ∃ z : Ls UInt8, v = z.v ∧ Rb w.heap.size w wx o z (([o.by_, o.seq, o.kind, o.at_, (o.past.l.length : Int)].flatMap Pk.nInt) ++ o.past.l.flatMap Pk.nName) 30050)
  case first =>
    have c4 := (HR.out.vr.cell 4).trans o.c4
    go_wp2
    clear c4
    go_loopw [3, 4] (fun ov iv wr => ∃ (k : Nat) (z : Ls UInt8), ov = z.v ∧ iv = .int .i64 (k : Int) ∧ k ≤ o.past.l.length ∧ Rb w.heap.size w wr o z (([o.by_, o.seq, o.kind, o.at_, (o.past.l.length : Int)].flatMap Pk.nInt) ++ (o.past.l.take k).flatMap Pk.nName) (50 + 30 * k)) (fun _ iv _ => o.past.l.length - (intOf iv).toNat)
    case atStart => exact ⟨0, _, rfl, rfl, Nat.zero_le _, HR.out.le (by omega) (by simp)⟩
    case round =>
      obtain ⟨k, z, rfl, rfl, hk, hrb⟩ := hrel
      clear HR
      have HR := Lib.hid hrb
      clear hrb
      obtain ⟨wo, rfl⟩ : ∃ wo, wo = wr := ⟨_, rfl⟩
      have c4 := (HR.out.vr.cell 4).trans o.c4
      by_cases hlt : k < o.past.l.length
      · obtain ⟨y, hy⟩ : ∃ y, o.past.l[k]? = some y := ⟨_, List.getElem?_eq_getElem hlt⟩
        have HMY := Lib.hid (List.mem_of_getElem? hy)
        have HTK := Lib.hid (flat_snoc Pk.nName hy)
        have HIY := Lib.hid hy
        have q0_ : (0 : Int) ≤ (k : Int) := by omega
        have q1_ : (k : Int) < (o.past.l.length : Int) := by omega
        have qd_ : decide ((k : Int) < (o.past.l.length : Int)) = true := decide_eq_true (by omega)
        obtain ⟨b, off, hA, _, _, e0, e1, e2⟩ := HR.out.lies.past.nm hy
        rw [hA] at c4
        clear hA hy
        go_wp2_with fail
        have HO := Lib.hid (rwname_any y wo (HK.out.past.2 y HMY.out).1.1 (HK.out.past.2 y HMY.out).1.2 (HK.out.past.2 y HMY.out).2.1.1 (HK.out.past.2 y HMY.out).2.1.2 (HK.out.past.2 y HMY.out).2.2)
        have HM := Lib.hid (show (Pk.nName y).length ≤ 30 from nm_len y (HK.out.past.2 y HMY.out))
        refine (HO.out).mono ?_
        rintro e w1 hbys
        obtain ⟨y1, rfl, hyl, hgy, hby⟩ := Bys.byt hbys
        have HRB := Lib.hid (HR.out.below hby)
        have HY := Lib.hid (hgy.lz (F := No) fun _ h => h.elim)
        have HYL := Lib.hid hyl
        clear hyl hgy hby HO HR hbys c4 e0 e1 e2
        go_wp2_with (at_builtin; refine wpList_push_ls ki_u8 rfl _ _ rfl (w.heap.size + 1) _ y1 HRB.out.gr rfl HY.out rfl (by rw [HYL.out]; have h1 := HRB.out.len; have h2 := HM.out; omega) HRB.out.size ?_; intro z1 v1 hz hg _ hgw; have HR := Lib.hid (HRB.out.push hz HYL.out HM.out hg hgw); clear hz hg hgw HRB HY HYL HM)
        have HRF := Lib.hid (HR.out.le (M' := 50 + 30 * (k + 1)) (L' := ([o.by_, o.seq, o.kind, o.at_, (o.past.l.length : Int)].flatMap Pk.nInt) ++ (o.past.l.take (k + 1)).flatMap Pk.nName) (by omega) (by rw [HTK.out, List.append_assoc]))
        go_roundw
        case rel => exact ⟨k + 1, _, rfl, by go_num, hlt, HRF.out⟩
        case measure => simp [intOf]; omega
      · have q1_ : ¬ (k : Int) < (o.past.l.length : Int) := by omega
        have qd_ : decide ((k : Int) < (o.past.l.length : Int)) = false := decide_eq_false (by omega)
        go_wp2
        go_meet
        exact ⟨z, rfl, HR.out.le (by omega) (by rw [flat_whole _ (by omega)])⟩
  case rest =>
    obtain ⟨z, rfl, hrb⟩ := hcut
    clear HR
    have HR := Lib.hid hrb
    clear hrb
    obtain ⟨wq1, rfl⟩ : ∃ wq, wq = wc := ⟨_, rfl⟩
    have c5 := (HR.out.vr.cell 5).trans o.c5
    have c6 := (HR.out.vr.cell 6).trans o.c6
    have c7 := (HR.out.vr.cell 7).trans o.c7
    have c8 := (HR.out.vr.cell 8).trans o.c8
    have c9 := (HR.out.vr.cell 9).trans o.c9
    go_wp2_with fail
    have HI := Lib.hid (ints5 (o.dev) (o.old) (o.mem) (o.role) ((o.path.l.length : Int)) (HK.out.dev) (HK.out.old) (HK.out.mem) (HK.out.role) (len_i64 npt (by omega)))
    have HR' := Lib.hid (HR.out.alloc (.cells #[.int .i64 o.dev, .int .i64 o.old, .int .i64 o.mem, .int .i64 o.role, .int .i64 (o.path.l.length : Int)] 3))
    clear HR
    have HR := HR'
    clear HR'
    have HO := Lib.hid (rints_any (w := wq1.alloc (.cells #[.int .i64 o.dev, .int .i64 o.old, .int .i64 o.mem, .int .i64 o.role, .int .i64 (o.path.l.length : Int)] 3)) ⟨[o.dev, o.old, o.mem, o.role, (o.path.l.length : Int)], some ⟨wq1.heap.size, 0, none⟩, 5⟩ (lz_new (K := kInt) wq1 [o.dev, o.old, o.mem, o.role, (o.path.l.length : Int)] #[.int .i64 o.dev, .int .i64 o.old, .int .i64 o.mem, .int .i64 o.role, .int .i64 (o.path.l.length : Int)] 5 rfl rfl) (by show 5 ≤ 1000; omega) HI.out.1)
    have HM := Lib.hid (show ([o.dev, o.old, o.mem, o.role, (o.path.l.length : Int)].flatMap Pk.nInt).length ≤ 50 from HI.out.2)
    refine (HO.out).mono ?_
    rintro e w2 ⟨y2, rfl, hyl, hgy, hby⟩
    have HRB := Lib.hid (HR.out.below hby)
    have HY := Lib.hid (hgy.lz (F := No) fun _ h => h.elim)
    have HYL := Lib.hid hyl
    clear hyl hgy hby HO HR c5 c6 c7 c8 c9
    go_upto_block 2 with (at_builtin; refine wpList_push_ls ki_u8 rfl _ _ rfl (w.heap.size + 1) _ y2 HRB.out.gr rfl HY.out rfl (by rw [HYL.out]; have h1 := HRB.out.len; have h2 := HM.out; omega) HRB.out.size ?_; intro z2 v2 hz hg _ hgw; have HR := Lib.hid (HRB.out.push hz HYL.out HM.out hg hgw); clear hz hg hgw HRB HY HYL HM)
    clear HI
    go_cut [3] (fun v wx => ∃ z : Ls UInt8, v = z.v ∧ Rb w.heap.size w wx o z (((([o.by_, o.seq, o.kind, o.at_, (o.past.l.length : Int)].flatMap Pk.nInt) ++ o.past.l.flatMap Pk.nName) ++ [o.dev, o.old, o.mem, o.role, (o.path.l.length : Int)].flatMap Pk.nInt) ++ o.path.l.flatMap (fun y => nNd y.er)) 40060100)
    case first =>
      have c9 := (HR.out.vr.cell 9).trans o.c9
      go_wp2
      clear c9
      go_loopw [3, 5] (fun ov iv wr => ∃ (k : Nat) (z : Ls UInt8), ov = z.v ∧ iv = .int .i64 (k : Int) ∧ k ≤ o.path.l.length ∧ Rb w.heap.size w wr o z (((([o.by_, o.seq, o.kind, o.at_, (o.past.l.length : Int)].flatMap Pk.nInt) ++ o.past.l.flatMap Pk.nName) ++ [o.dev, o.old, o.mem, o.role, (o.path.l.length : Int)].flatMap Pk.nInt) ++ (o.path.l.take k).flatMap (fun y => nNd y.er)) (30100 + 40030 * k)) (fun _ iv _ => o.path.l.length - (intOf iv).toNat)
      case atStart => exact ⟨0, _, rfl, rfl, Nat.zero_le _, HR.out.le (by omega) (by simp)⟩
      case round =>
        obtain ⟨k, z, rfl, rfl, hk, hrb⟩ := hrel
        clear HR
        have HR := Lib.hid hrb
        clear hrb
        obtain ⟨wo, rfl⟩ : ∃ wo, wo = wr := ⟨_, rfl⟩
        have c9 := (HR.out.vr.cell 9).trans o.c9
        by_cases hlt : k < o.path.l.length
        · obtain ⟨y, hy⟩ : ∃ y, o.path.l[k]? = some y := ⟨_, List.getElem?_eq_getElem hlt⟩
          have HMY := Lib.hid (List.mem_of_getElem? hy)
          have HTK := Lib.hid (flat_snoc (fun y => nNd y.er) hy)
          have HIY := Lib.hid hy
          have q0_ : (0 : Int) ≤ (k : Int) := by omega
          have q1_ : (k : Int) < (o.path.l.length : Int) := by omega
          have qd_ : decide ((k : Int) < (o.path.l.length : Int)) = true := decide_eq_true (by omega)
          obtain ⟨b, off, hA, _, _, e0, e1⟩ := HR.out.lies.path.nd hy
          rw [hA] at c9
          clear hA hy
          go_wp2_with fail
          have HO := Lib.hid (rwnum_any y.pub wo (HK.out.path.2 y.er (List.mem_map_of_mem HMY.out)).1)
          have HM := Lib.hid (show (Pk.num y.pub).length ≤ 10 from Pk.num_len10 _ (HK.out.path.2 y.er (List.mem_map_of_mem HMY.out)).1)
          refine (HO.out).mono ?_
          rintro e w3 hbys
          obtain ⟨y3, rfl, hyl, hgy, hby⟩ := Bys.byt hbys
          have HRB := Lib.hid (HR.out.below hby)
          have HY := Lib.hid (hgy.lz (F := No) fun _ h => h.elim)
          have HYL := Lib.hid hyl
          clear hyl hgy hby HO HR hbys c9 e0 e1
          go_wp2_with (at_builtin; refine wpList_push_ls ki_u8 rfl _ _ rfl (w.heap.size + 1) _ y3 HRB.out.gr rfl HY.out rfl (by rw [HYL.out]; have h1 := HRB.out.len; have h2 := HM.out; omega) HRB.out.size ?_; intro z3 v3 hz hg _ hgw; have HR := Lib.hid (HRB.out.push hz HYL.out HM.out hg hgw); clear hz hg hgw HRB HY HYL HM; have c9 := (HR.out.vr.cell 9).trans o.c9; obtain ⟨b2, off2, hA2, _, _, e0, e1⟩ := HR.out.lies.path.nd HIY.out; rw [hA2] at c9; clear hA2)
          have HO := Lib.hid (rboxes_ref y.boxes (HR.out.lies.pathB y HMY.out).no ((HK.out.path.2 y.er (List.mem_map_of_mem HMY.out)).2.1) (HK.out.path.2 y.er (List.mem_map_of_mem HMY.out)).2.2)
          have HM := Lib.hid (show (wEach nBx y.boxes.l).length ≤ 40010 from wEach_len (wr := nBx) 40 (fun b hb => bx_len b ((HK.out.path.2 y.er (List.mem_map_of_mem HMY.out)).2.2 b hb)) 1000 ((HK.out.path.2 y.er (List.mem_map_of_mem HMY.out)).2.1) (by omega))
          refine (HO.out).mono ?_
          rintro e w4 ⟨y4, rfl, hyl, hgy, hby⟩
          have HRB := Lib.hid (HR.out.below hby)
          have HY := Lib.hid (hgy.lz (F := No) fun _ h => h.elim)
          have HYL := Lib.hid hyl
          clear hyl hgy hby HO HR c9 e0 e1
          go_wp2_with (at_builtin; refine wpList_push_ls ki_u8 rfl _ _ rfl (w.heap.size + 1) _ y4 HRB.out.gr rfl HY.out rfl (by rw [HYL.out]; have h1 := HRB.out.len; have h2 := HM.out; omega) HRB.out.size ?_; intro z4 v4 hz hg _ hgw; have HR := Lib.hid (HRB.out.push hz HYL.out HM.out hg hgw); clear hz hg hgw HRB HY HYL HM)
          have HRF := Lib.hid (HR.out.le (M' := 30100 + 40030 * (k + 1)) (L' := ((([o.by_, o.seq, o.kind, o.at_, (o.past.l.length : Int)].flatMap Pk.nInt) ++ o.past.l.flatMap Pk.nName) ++ [o.dev, o.old, o.mem, o.role, (o.path.l.length : Int)].flatMap Pk.nInt) ++ (o.path.l.take (k + 1)).flatMap (fun y => nNd y.er)) (by omega) (by rw [HTK.out, List.append_assoc, List.append_assoc]; rfl))
          go_roundw
          case rel => exact ⟨k + 1, _, rfl, by go_num, hlt, HRF.out⟩
          case measure => simp [intOf]; omega
        · have q1_ : ¬ (k : Int) < (o.path.l.length : Int) := by omega
          have qd_ : decide ((k : Int) < (o.path.l.length : Int)) = false := decide_eq_false (by omega)
          go_wp2
          go_meet
          exact ⟨z, rfl, HR.out.le (by omega) (by rw [flat_whole _ (by omega)])⟩
    case rest =>
      obtain ⟨z, rfl, hrb⟩ := hcut
      clear HR
      have HR := Lib.hid hrb
      clear hrb
      obtain ⟨wq2, rfl⟩ : ∃ wq, wq = wc := ⟨_, rfl⟩
      have c10 := (HR.out.vr.cell 10).trans o.c10
      have c11 := (HR.out.vr.cell 11).trans o.c11
      have c12 := (HR.out.vr.cell 12).trans o.c12
      go_wp2_with fail
      have HO := Lib.hid (rwname_any o.epoch wq2 HK.out.epoch.1.1 HK.out.epoch.1.2 HK.out.epoch.2.1.1 HK.out.epoch.2.1.2 HK.out.epoch.2.2)
      have HM := Lib.hid (show (Pk.nName o.epoch).length ≤ 30 from nm_len _ HK.out.epoch)
      refine (HO.out).mono ?_
      rintro e w5 hbys
      obtain ⟨y5, rfl, hyl, hgy, hby⟩ := Bys.byt hbys
      have HRB := Lib.hid (HR.out.below hby)
      have HY := Lib.hid (hgy.lz (F := No) fun _ h => h.elim)
      have HYL := Lib.hid hyl
      clear hyl hgy hby HO HR hbys c10 c11 c12
      go_wp2_with (at_builtin; refine wpList_push_ls ki_u8 rfl _ _ rfl (w.heap.size + 1) _ y5 HRB.out.gr rfl HY.out rfl (by rw [HYL.out]; have h1 := HRB.out.len; have h2 := HM.out; omega) HRB.out.size ?_; intro z5 v5 hz hg _ hgw; have HR := Lib.hid (HRB.out.push hz HYL.out HM.out hg hgw); clear hz hg hgw HRB HY HYL HM; have c13 := (HR.out.vr.cell 13).trans o.c13)
      have HO := Lib.hid (rwint_any o.n v5 HK.out.n.1 HK.out.n.2)
      have HM := Lib.hid (show (Pk.nInt o.n).length ≤ 10 from Pk.nInt_len _ HK.out.n.1 HK.out.n.2)
      refine (HO.out).mono ?_
      rintro e w6 hbys
      obtain ⟨y6, rfl, hyl, hgy, hby⟩ := Bys.byt hbys
      have HRB := Lib.hid (HR.out.below hby)
      have HY := Lib.hid (hgy.lz (F := No) fun _ h => h.elim)
      have HYL := Lib.hid hyl
      clear hyl hgy hby HO HR hbys c13
      go_wp2_with (at_builtin; refine wpList_push_ls ki_u8 rfl _ _ rfl (w.heap.size + 1) _ y6 HRB.out.gr rfl HY.out rfl (by rw [HYL.out]; have h1 := HRB.out.len; have h2 := HM.out; omega) HRB.out.size ?_; intro z6 v6 hz hg _ hgw; have HR := Lib.hid (HRB.out.push hz HYL.out HM.out hg hgw); clear hz hg hgw HRB HY HYL HM; have c14 := (HR.out.vr.cell 14).trans o.c14; have cv := cu_conv_rd o.body.A o.body.l.length o.body.c _ _ o.body.l rfl HR.out.lies.body.rd8)
      have HO := Lib.hid (rwtext_wide ⟨o.body.l.toArray⟩ v6 (by show o.body.l.toArray.size ≤ 40000; simp; omega))
      have HM := Lib.hid (show (Pk.nText o.body.l).length ≤ 40010 from tx_wide _ nbo)
      refine (HO.out).mono ?_
      rintro e w7 hbys
      obtain ⟨y7, rfl, hyl, hgy, hby⟩ := Bys.byt hbys
      have HRB := Lib.hid (HR.out.below hby)
      have HY := Lib.hid (hgy.lz (F := No) fun _ h => h.elim)
      have HYL := Lib.hid hyl
      clear hyl hgy hby HO HR hbys c14 cv
      go_wp2_with (at_builtin; refine wpList_push_ls ki_u8 rfl _ _ rfl (w.heap.size + 1) _ y7 HRB.out.gr rfl HY.out rfl (by rw [HYL.out]; have h1 := HRB.out.len; have h2 := HM.out; omega) HRB.out.size ?_; intro z7 v7 hz hg _ hgw; have HR := Lib.hid (HRB.out.push hz HYL.out HM.out hg hgw); clear hz hg hgw HRB HY HYL HM; have c15 := (HR.out.vr.cell 15).trans o.c15)
      have HO := Lib.hid (rwint_any (o.refs.l.length : Int) v7 (by omega) (by omega))
      have HM := Lib.hid (show (Pk.nInt (o.refs.l.length : Nat)).length ≤ 10 from Pk.nInt_len _ (by omega) (by omega))
      refine (HO.out).mono ?_
      rintro e w8 hbys
      obtain ⟨y8, rfl, hyl, hgy, hby⟩ := Bys.byt hbys
      have HRB := Lib.hid (HR.out.below hby)
      have HY := Lib.hid (hgy.lz (F := No) fun _ h => h.elim)
      have HYL := Lib.hid hyl
      clear hyl hgy hby HO HR hbys c15
      go_wp2_with (at_builtin; refine wpList_push_ls ki_u8 rfl _ _ rfl (w.heap.size + 1) _ y8 HRB.out.gr rfl HY.out rfl (by rw [HYL.out]; have h1 := HRB.out.len; have h2 := HM.out; omega) HRB.out.size ?_; intro z8 v8 hz hg _ hgw; have HR := Lib.hid (HRB.out.push hz HYL.out HM.out hg hgw); clear hz hg hgw HRB HY HYL HM; have c15 := (HR.out.vr.cell 15).trans o.c15)
      have HO := Lib.hid (rnums_any o.refs HR.out.lies.refs.no (by omega) HK.out.refs.2)
      have HM := Lib.hid (show (o.refs.l.flatMap Pk.num).length ≤ 10000 from flat_up 10 1000 _ nre fun y hy => Pk.num_len10 y (HK.out.refs.2 y hy))
      refine (HO.out).mono ?_
      rintro e w9 ⟨y9, rfl, hyl, hgy, hby⟩
      have HRB := Lib.hid (HR.out.below hby)
      have HY := Lib.hid (hgy.lz (F := No) fun _ h => h.elim)
      have HYL := Lib.hid hyl
      clear hyl hgy hby HO HR c15
      go_wp2_with (at_builtin; refine wpList_push_ls ki_u8 rfl _ _ rfl (w.heap.size + 1) _ y9 HRB.out.gr rfl HY.out rfl (by rw [HYL.out]; have h1 := HRB.out.len; have h2 := HM.out; omega) HRB.out.size ?_; intro z9 v9 hz hg _ hgw; have HR := Lib.hid (HRB.out.push hz HYL.out HM.out hg hgw); clear hz hg hgw HRB HY HYL HM; have c16 := (HR.out.vr.cell 16).trans o.c16; have c17 := (HR.out.vr.cell 17).trans o.c17; have c18 := (HR.out.vr.cell 18).trans o.c18)
      have HO := Lib.hid (rwname_any o.of_ v9 HK.out.of_.1.1 HK.out.of_.1.2 HK.out.of_.2.1.1 HK.out.of_.2.1.2 HK.out.of_.2.2)
      have HM := Lib.hid (show (Pk.nName o.of_).length ≤ 30 from nm_len _ HK.out.of_)
      refine (HO.out).mono ?_
      rintro e w10 hbys
      obtain ⟨y10, rfl, hyl, hgy, hby⟩ := Bys.byt hbys
      have HRB := Lib.hid (HR.out.below hby)
      have HY := Lib.hid (hgy.lz (F := No) fun _ h => h.elim)
      have HYL := Lib.hid hyl
      clear hyl hgy hby HO HR hbys c16 c17 c18
      go_wp2_with (at_builtin; refine wpList_push_ls ki_u8 rfl _ _ rfl (w.heap.size + 1) _ y10 HRB.out.gr rfl HY.out rfl (by rw [HYL.out]; have h1 := HRB.out.len; have h2 := HM.out; omega) HRB.out.size ?_; intro z10 v10 hz hg _ hgw; have HR := Lib.hid (HRB.out.push hz HYL.out HM.out hg hgw); clear hz hg hgw HRB HY HYL HM; have c19 := (HR.out.vr.cell 19).trans o.c19)
      have HO := Lib.hid (rwint_any (o.guards.l.length : Int) v10 (by omega) (by omega))
      have HM := Lib.hid (show (Pk.nInt (o.guards.l.length : Nat)).length ≤ 10 from Pk.nInt_len _ (by omega) (by omega))
      refine (HO.out).mono ?_
      rintro e w11 hbys
      obtain ⟨y11, rfl, hyl, hgy, hby⟩ := Bys.byt hbys
      have HRB := Lib.hid (HR.out.below hby)
      have HY := Lib.hid (hgy.lz (F := No) fun _ h => h.elim)
      have HYL := Lib.hid hyl
      clear hyl hgy hby HO HR hbys c19
      go_wp2_with (at_builtin; refine wpList_push_ls ki_u8 rfl _ _ rfl (w.heap.size + 1) _ y11 HRB.out.gr rfl HY.out rfl (by rw [HYL.out]; have h1 := HRB.out.len; have h2 := HM.out; omega) HRB.out.size ?_; intro z11 v11 hz hg _ hgw; have HR := Lib.hid (HRB.out.push hz HYL.out HM.out hg hgw); clear hz hg hgw HRB HY HYL HM; have c19 := (HR.out.vr.cell 19).trans o.c19)
      have HO := Lib.hid (rints_any o.guards HR.out.lies.guards.no (by omega) HK.out.guards.2)
      have HM := Lib.hid (show (o.guards.l.flatMap Pk.nInt).length ≤ 10000 from flat_up 10 1000 _ ngu fun y hy => Pk.nInt_len y (HK.out.guards.2 y hy).1 (HK.out.guards.2 y hy).2)
      refine (HO.out).mono ?_
      rintro e w12 ⟨y12, rfl, hyl, hgy, hby⟩
      have HRB := Lib.hid (HR.out.below hby)
      have HY := Lib.hid (hgy.lz (F := No) fun _ h => h.elim)
      have HYL := Lib.hid hyl
      clear hyl hgy hby HO HR c19
      go_wp2_with (at_builtin; refine wpList_push_ls ki_u8 rfl _ _ rfl (w.heap.size + 1) _ y12 HRB.out.gr rfl HY.out rfl (by rw [HYL.out]; have h1 := HRB.out.len; have h2 := HM.out; omega) HRB.out.size ?_; intro z12 v12 hz hg _ hgw; have HR := Lib.hid (HRB.out.push hz HYL.out HM.out hg hgw); clear hz hg hgw HRB HY HYL HM; have c20 := (HR.out.vr.cell 20).trans o.c20; have c21 := (HR.out.vr.cell 21).trans o.c21)
      have HI := Lib.hid (ints2 (o.need) (o.wait) (HK.out.need) (HK.out.wait))
      have HR' := Lib.hid (HR.out.alloc (.cells #[.int .i64 o.need, .int .i64 o.wait] 3))
      clear HR
      have HR := HR'
      clear HR'
      have HO := Lib.hid (rints_any (w := v12.alloc (.cells #[.int .i64 o.need, .int .i64 o.wait] 3)) ⟨[o.need, o.wait], some ⟨v12.heap.size, 0, none⟩, 2⟩ (lz_new (K := kInt) v12 [o.need, o.wait] #[.int .i64 o.need, .int .i64 o.wait] 2 rfl rfl) (by show 2 ≤ 1000; omega) HI.out.1)
      have HM := Lib.hid (show ([o.need, o.wait].flatMap Pk.nInt).length ≤ 20 from HI.out.2)
      refine (HO.out).mono ?_
      rintro e w13 ⟨y13, rfl, hyl, hgy, hby⟩
      have HRB := Lib.hid (HR.out.below hby)
      have HY := Lib.hid (hgy.lz (F := No) fun _ h => h.elim)
      have HYL := Lib.hid hyl
      clear hyl hgy hby HO HR c20 c21
      go_wp2_with (at_builtin; refine wpList_push_ls ki_u8 rfl _ _ rfl (w.heap.size + 1) _ y13 HRB.out.gr rfl HY.out rfl (by rw [HYL.out]; have h1 := HRB.out.len; have h2 := HM.out; omega) HRB.out.size ?_; intro z13 v13 hz hg _ hgw; have HR := Lib.hid (HRB.out.push hz HYL.out HM.out hg hgw); clear hz hg hgw HRB HY HYL HM; have c22 := (HR.out.vr.cell 22).trans o.c22)
      clear HI
      have HO := Lib.hid (rboxes_ref o.boxes HR.out.lies.boxes.no (by omega) HK.out.boxes.2)
      have HM := Lib.hid (show (wEach nBx o.boxes.l).length ≤ 40010 from wEach_len (wr := nBx) 40 (fun b hb => bx_len b (HK.out.boxes.2 b hb)) 1000 nbx (by omega))
      refine (HO.out).mono ?_
      rintro e w14 ⟨y14, rfl, hyl, hgy, hby⟩
      have HRB := Lib.hid (HR.out.below hby)
      have HY := Lib.hid (hgy.lz (F := No) fun _ h => h.elim)
      have HYL := Lib.hid hyl
      clear hyl hgy hby HO HR c22
      go_wp2_with (at_builtin; refine wpList_push_ls ki_u8 rfl _ _ rfl (w.heap.size + 1) _ y14 HRB.out.gr rfl HY.out rfl (by rw [HYL.out]; have h1 := HRB.out.len; have h2 := HM.out; omega) HRB.out.size ?_; intro z14 v14 hz hg _ hgw; have HR := Lib.hid (HRB.out.push hz HYL.out HM.out hg hgw); clear hz hg hgw HRB HY HYL HM; have c23 := (HR.out.vr.cell 23).trans o.c23)
      have HO := Lib.hid (rwnum_any o.pub v14 HK.out.pub)
      have HM := Lib.hid (show (Pk.num o.pub).length ≤ 10 from Pk.num_len10 _ HK.out.pub)
      refine (HO.out).mono ?_
      rintro e w15 hbys
      obtain ⟨y15, rfl, hyl, hgy, hby⟩ := Bys.byt hbys
      have HRB := Lib.hid (HR.out.below hby)
      have HY := Lib.hid (hgy.lz (F := No) fun _ h => h.elim)
      have HYL := Lib.hid hyl
      clear hyl hgy hby HO HR hbys c23
      go_wp2_with (at_builtin; refine wpList_push_ls ki_u8 rfl _ _ rfl (w.heap.size + 1) _ y15 HRB.out.gr rfl HY.out rfl (by rw [HYL.out]; have h1 := HRB.out.len; have h2 := HM.out; omega) HRB.out.size ?_; intro z15 v15 hz hg _ hgw; have HR := Lib.hid (HRB.out.push hz HYL.out HM.out hg hgw); clear hz hg hgw HRB HY HYL HM; have c24 := (HR.out.vr.cell 24).trans o.c24)
      have HO := Lib.hid (rwint_any (o.hist.l.length : Int) v15 (by omega) (by omega))
      have HM := Lib.hid (show (Pk.nInt (o.hist.l.length : Nat)).length ≤ 10 from Pk.nInt_len _ (by omega) (by omega))
      refine (HO.out).mono ?_
      rintro e w16 hbys
      obtain ⟨y16, rfl, hyl, hgy, hby⟩ := Bys.byt hbys
      have HRB := Lib.hid (HR.out.below hby)
      have HY := Lib.hid (hgy.lz (F := No) fun _ h => h.elim)
      have HYL := Lib.hid hyl
      clear hyl hgy hby HO HR hbys c24
      go_upto_block 4 with (at_builtin; refine wpList_push_ls ki_u8 rfl _ _ rfl (w.heap.size + 1) _ y16 HRB.out.gr rfl HY.out rfl (by rw [HYL.out]; have h1 := HRB.out.len; have h2 := HM.out; omega) HRB.out.size ?_; intro z16 v16 hz hg _ hgw; have HR := Lib.hid (HRB.out.push hz HYL.out HM.out hg hgw); clear hz hg hgw HRB HY HYL HM)
      go_cut [3] (fun v wx => ∃ z : Ls UInt8, v = z.v ∧ Rb w.heap.size w wx o z ((((((((((((((((([o.by_, o.seq, o.kind, o.at_, (o.past.l.length : Int)].flatMap Pk.nInt) ++ o.past.l.flatMap Pk.nName) ++ [o.dev, o.old, o.mem, o.role, (o.path.l.length : Int)].flatMap Pk.nInt) ++ o.path.l.flatMap (fun y => nNd y.er)) ++ Pk.nName o.epoch) ++ Pk.nInt o.n) ++ Pk.nText o.body.l) ++ Pk.nInt (o.refs.l.length : Nat)) ++ o.refs.l.flatMap Pk.num) ++ Pk.nName o.of_) ++ Pk.nInt (o.guards.l.length : Nat)) ++ o.guards.l.flatMap Pk.nInt) ++ [o.need, o.wait].flatMap Pk.nInt) ++ wEach nBx o.boxes.l) ++ Pk.num o.pub) ++ Pk.nInt (o.hist.l.length : Nat)) ++ o.hist.l.flatMap (fun y => nSd y.er)) 80210250)
      case first =>
        have c24 := (HR.out.vr.cell 24).trans o.c24
        go_wp2
        clear c24
        go_loopw [3, 6] (fun ov iv wr => ∃ (k : Nat) (z : Ls UInt8), ov = z.v ∧ iv = .int .i64 (k : Int) ∧ k ≤ o.hist.l.length ∧ Rb w.heap.size w wr o z ((((((((((((((((([o.by_, o.seq, o.kind, o.at_, (o.past.l.length : Int)].flatMap Pk.nInt) ++ o.past.l.flatMap Pk.nName) ++ [o.dev, o.old, o.mem, o.role, (o.path.l.length : Int)].flatMap Pk.nInt) ++ o.path.l.flatMap (fun y => nNd y.er)) ++ Pk.nName o.epoch) ++ Pk.nInt o.n) ++ Pk.nText o.body.l) ++ Pk.nInt (o.refs.l.length : Nat)) ++ o.refs.l.flatMap Pk.num) ++ Pk.nName o.of_) ++ Pk.nInt (o.guards.l.length : Nat)) ++ o.guards.l.flatMap Pk.nInt) ++ [o.need, o.wait].flatMap Pk.nInt) ++ wEach nBx o.boxes.l) ++ Pk.num o.pub) ++ Pk.nInt (o.hist.l.length : Nat)) ++ (o.hist.l.take k).flatMap (fun y => nSd y.er)) (40160250 + 40050 * k)) (fun _ iv _ => o.hist.l.length - (intOf iv).toNat)
        case atStart => exact ⟨0, _, rfl, rfl, Nat.zero_le _, HR.out.le (by omega) (by simp)⟩
        case round =>
          obtain ⟨k, z, rfl, rfl, hk, hrb⟩ := hrel
          clear HR
          have HR := Lib.hid hrb
          clear hrb
          obtain ⟨wo, rfl⟩ : ∃ wo, wo = wr := ⟨_, rfl⟩
          have c24 := (HR.out.vr.cell 24).trans o.c24
          by_cases hlt : k < o.hist.l.length
          · obtain ⟨y, hy⟩ : ∃ y, o.hist.l[k]? = some y := ⟨_, List.getElem?_eq_getElem hlt⟩
            have HMY := Lib.hid (List.mem_of_getElem? hy)
            have HTK := Lib.hid (flat_snoc (fun y => nSd y.er) hy)
            have HIY := Lib.hid hy
            have q0_ : (0 : Int) ≤ (k : Int) := by omega
            have q1_ : (k : Int) < (o.hist.l.length : Int) := by omega
            have qd_ : decide ((k : Int) < (o.hist.l.length : Int)) = true := decide_eq_true (by omega)
            obtain ⟨b, off, hA, _, _, e0, e1, e2, e3⟩ := HR.out.lies.hist.sd hy
            rw [hA] at c24
            clear hA hy
            go_wp2_with fail
            have HO := Lib.hid (rwname_any y.nm wo (HK.out.hist.2 y.er (List.mem_map_of_mem HMY.out)).1.1.1 (HK.out.hist.2 y.er (List.mem_map_of_mem HMY.out)).1.1.2 (HK.out.hist.2 y.er (List.mem_map_of_mem HMY.out)).1.2.1.1 (HK.out.hist.2 y.er (List.mem_map_of_mem HMY.out)).1.2.1.2 (HK.out.hist.2 y.er (List.mem_map_of_mem HMY.out)).1.2.2)
            have HM := Lib.hid (show (Pk.nName y.nm).length ≤ 30 from nm_len _ (HK.out.hist.2 y.er (List.mem_map_of_mem HMY.out)).1)
            refine (HO.out).mono ?_
            rintro e w17 hbys
            obtain ⟨y17, rfl, hyl, hgy, hby⟩ := Bys.byt hbys
            have HRB := Lib.hid (HR.out.below hby)
            have HY := Lib.hid (hgy.lz (F := No) fun _ h => h.elim)
            have HYL := Lib.hid hyl
            clear hyl hgy hby HO HR hbys c24 e0 e1 e2 e3
            go_wp2_with (at_builtin; refine wpList_push_ls ki_u8 rfl _ _ rfl (w.heap.size + 1) _ y17 HRB.out.gr rfl HY.out rfl (by rw [HYL.out]; have h1 := HRB.out.len; have h2 := HM.out; omega) HRB.out.size ?_; intro z17 v17 hz hg _ hgw; have HR := Lib.hid (HRB.out.push hz HYL.out HM.out hg hgw); clear hz hg hgw HRB HY HYL HM; have c24 := (HR.out.vr.cell 24).trans o.c24; obtain ⟨b2, off2, hA2, _, _, e0, e1, e2, e3⟩ := HR.out.lies.hist.sd HIY.out; rw [hA2] at c24; clear hA2; have cv := cu_conv_rd y.body.A y.body.l.length y.body.c _ _ y.body.l rfl (HR.out.lies.histB y HMY.out).rd8)
            have HO := Lib.hid (rwtext_wide ⟨y.body.l.toArray⟩ v17 (by show y.body.l.toArray.size ≤ 40000; have h := HT.out.histB y.er (List.mem_map_of_mem HMY.out); have h : y.body.l.length ≤ 40000 := h; simp; omega))
            have HM := Lib.hid (show (Pk.nText y.body.l).length ≤ 40010 from tx_wide _ (HT.out.histB y.er (List.mem_map_of_mem HMY.out)))
            refine (HO.out).mono ?_
            rintro e w18 hbys
            obtain ⟨y18, rfl, hyl, hgy, hby⟩ := Bys.byt hbys
            have HRB := Lib.hid (HR.out.below hby)
            have HY := Lib.hid (hgy.lz (F := No) fun _ h => h.elim)
            have HYL := Lib.hid hyl
            clear hyl hgy hby HO HR hbys c24 e0 e1 e2 e3 cv
            go_wp2_with (at_builtin; refine wpList_push_ls ki_u8 rfl _ _ rfl (w.heap.size + 1) _ y18 HRB.out.gr rfl HY.out rfl (by rw [HYL.out]; have h1 := HRB.out.len; have h2 := HM.out; omega) HRB.out.size ?_; intro z18 v18 hz hg _ hgw; have HR := Lib.hid (HRB.out.push hz HYL.out HM.out hg hgw); clear hz hg hgw HRB HY HYL HM)
            have HRF := Lib.hid (HR.out.le (M' := 40160250 + 40050 * (k + 1)) (L' := (((((((((((((((([o.by_, o.seq, o.kind, o.at_, (o.past.l.length : Int)].flatMap Pk.nInt) ++ o.past.l.flatMap Pk.nName) ++ [o.dev, o.old, o.mem, o.role, (o.path.l.length : Int)].flatMap Pk.nInt) ++ o.path.l.flatMap (fun y => nNd y.er)) ++ Pk.nName o.epoch) ++ Pk.nInt o.n) ++ Pk.nText o.body.l) ++ Pk.nInt (o.refs.l.length : Nat)) ++ o.refs.l.flatMap Pk.num) ++ Pk.nName o.of_) ++ Pk.nInt (o.guards.l.length : Nat)) ++ o.guards.l.flatMap Pk.nInt) ++ [o.need, o.wait].flatMap Pk.nInt) ++ wEach nBx o.boxes.l) ++ Pk.num o.pub) ++ Pk.nInt (o.hist.l.length : Nat)) ++ (o.hist.l.take (k + 1)).flatMap (fun y => nSd y.er)) (by omega) (by rw [HTK.out, List.append_assoc, List.append_assoc]; rfl))
            go_roundw
            case rel => exact ⟨k + 1, _, rfl, by go_num, hlt, HRF.out⟩
            case measure => simp [intOf]; omega
          · have q1_ : ¬ (k : Int) < (o.hist.l.length : Int) := by omega
            have qd_ : decide ((k : Int) < (o.hist.l.length : Int)) = false := decide_eq_false (by omega)
            go_wp2
            go_meet
            exact ⟨z, rfl, HR.out.le (by omega) (by rw [flat_whole _ (by omega)])⟩
      case rest =>
        obtain ⟨z, rfl, hrb⟩ := hcut
        clear HR
        have HR := Lib.hid hrb
        clear hrb
        obtain ⟨wq3, rfl⟩ : ∃ wq, wq = wc := ⟨_, rfl⟩
        go_wp2
        go_ret
        refine ⟨z, rfl, ?_, HR.out.gr.base (Nat.le_succ _), HR.out.bel⟩
        rw [HR.out.eq]
        unfold con wEach LOp.er
        simp only [List.flatMap_map, List.length_map, List.flatMap_cons, List.flatMap_nil, List.append_assoc, List.append_nil]
end Ot
end Go.Proofs.YtkicjjcangkneaaGreatDoor

/-
  The reference's SameOp: two operations are the same just if their rows of bytes are.
-/
namespace Go.Proofs.YtkicjjcangkneaaGreatDoor
open Go.RowKit
set_option linter.unusedSimpArgs false
set_option linter.unusedVariables false
attribute [local go_sem ↓] Go.wp_at_zero Go.wp_at_succ
set_option maxRecDepth 100000
namespace Ot
/-- What is asked of worlds may be made more on the way. -/
theorem wpAnyH_and' {P : Program} {ops : Array Oper} {Q : Exit → Act → World → Prop} {md : Region.Mode} {S : World → Prop} (T : World → Prop) : ∀ (fuel : Nat) (listed : Array Bool) (a : Act) (w : World), wpAnyH P md ops Q (fun w' => S w' ∧ T w') fuel listed a w → wpAnyH P md ops Q S fuel listed a w
  | 0, _, _, _, h => h
  | fuel + 1, _, _, _, h => ⟨h.1, fun i hi => wpOp_mono (fun a' w' h' => ⟨h'.1.1, wpAnyH_and' T fuel _ a' w' h'.2⟩) (h.2 i hi)⟩

theorem bytes_same (xs ys : List UInt8) : ((⟨xs.toArray⟩ : ByteArray).toList == (⟨ys.toArray⟩ : ByteArray).toList) = decide (xs = ys) := by
  rw [ByteArray.toList_eq, ByteArray.toList_eq]
  by_cases h : xs = ys
  · subst h; simp
  · rw [decide_eq_false h]
    simpa using h

set_option maxHeartbeats 4000000 in
theorem sameop_any {w : World} (a b : LOp) (ha : Lies No w a) (hb : Lies No w b) (hta : Tiny a.er) (htb : Tiny b.er) :
    Calls Tryz.prog 22 #[a.v, b.v] w fun e w' => e = .returned (.bool (decide (put a.er = put b.er))) ∧ Below w.heap.size w w' := by
  obtain ⟨cs, hcs⟩ : ∃ cs, cs = a.cells := ⟨_, rfl⟩
  obtain ⟨ds, hds⟩ : ∃ ds, ds = b.cells := ⟨_, rfl⟩
  have es : (w.alloc (.cells cs 35)).heap.size = w.heap.size + 1 := by simp
  have hV1 : Vr ((w.alloc (.cells cs 35)).alloc (.cells ds 35)) w.heap.size a := by
    unfold Vr
    rw [← hcs]
    exact blk_alloc (blk_new w 35 cs) _
  have hV2 : Vr ((w.alloc (.cells cs 35)).alloc (.cells ds 35)) (w.heap.size + 1) b := by
    unfold Vr
    rw [← hds, ← es]
    exact blk_new _ _ _
  have hbw : Below w.heap.size w ((w.alloc (.cells cs 35)).alloc (.cells ds 35)) := ((Below.refl _ w).alloc (Nat.le_refl _) _).alloc (by simp) _
  have hLa := (ha.alloc (.cells cs 35)).alloc (.cells ds 35)
  have hLb := (hb.alloc (.cells cs 35)).alloc (.cells ds 35)
  obtain ⟨w0, hw0⟩ : ∃ w0, w0 = (w.alloc (.cells cs 35)).alloc (.cells ds 35) := ⟨_, rfl⟩
  rw [← hw0] at hV1 hV2 hbw hLa hLb
  obtain ⟨V1, hV1'⟩ : ∃ V1, V1 = w.heap.size := ⟨_, rfl⟩
  obtain ⟨V2, hV2'⟩ : ∃ V2, V2 = w.heap.size + 1 := ⟨_, rfl⟩
  have HVAd := Lib.hid (show Vr w0.drew V1 a from hV1' ▸ hV1)
  have HVBd := Lib.hid (show Vr w0.drew V2 b from hV2' ▸ hV2)
  have HBd := Lib.hid (show Below w.heap.size w w0.drew from hbw.trans (below_drewN w0 1 w.heap.size))
  have HLAd := Lib.hid (show Lies No w0.drew a from hLa.bf (Bf.drew w0))
  have HLBd := Lib.hid (show Lies No w0.drew b from hLb.bf (Bf.drew w0))
  have HT := Lib.hid hta
  have HTB' := Lib.hid htb
  have HW0 := Lib.hid hw0
  have HE1 := Lib.hid hV1'
  have HE2 := Lib.hid hV2'
  obtain ⟨sa, hsa⟩ : ∃ s : ByteArray, s = ⟨(put a.er).toArray⟩ := ⟨_, rfl⟩
  obtain ⟨sb, hsb⟩ : ∃ s : ByteArray, s = ⟨(put b.er).toArray⟩ := ⟨_, rfl⟩
  have HSA := Lib.hid hsa
  have HSB := Lib.hid hsb
  show Calls _ _ #[.agg a.cells, .agg b.cells] w _
  rw [← hcs, ← hds]
  clear hV1 hV2 es hbw hLa hLb ha hb hta htb hcs hds hw0 hsa hsb hV1' hV2'
  go_enter Tryz.func22, Tryz.ntmps22
  go_wp2
  try rw [← HW0.out]
  rw [← HE2.out, ← HE1.out]
  refine wp_region_held_drew (S := (fun w' : World => Vr w' V1 a ∧ Vr w' V2 b)) (by kernel_rfl) ⟨HVAd.out, HVBd.out⟩ (fun hHeld => ?_)
  try simp only [Act.put, List.getElem_toArray, List.getElem_cons_succ, List.getElem_cons_zero, List.setIfInBounds_toArray, List.set_cons_zero, List.set_cons_succ]
  refine wpAnyH_take (i := 0) (v := ?_) rfl (by kernel_rfl) (by kernel_rfl) (by kernel_rfl) (fun _ _ _ h => h) (Or.inl ⟨by rfl, ?_⟩) (by assumption) ?_
  rotate_left
  · (intro w hSw; (try dsimp only at hSw); refine run_load_op _ (.tmp 2) ?_ ?_ hSw.1 <;> rfl)
  try simp only [Act.put, List.getElem_toArray, List.getElem_cons_zero, List.setIfInBounds_toArray, List.set_cons_zero, List.set_cons_succ]
  refine wpAnyH_take (i := 3) (v := ?_) rfl (by kernel_rfl) (by kernel_rfl) (by kernel_rfl) (fun _ _ _ h => h) (Or.inl ⟨by rfl, ?_⟩) (by assumption) ?_
  rotate_left
  · (intro w hSw; (try dsimp only at hSw); refine run_load_op _ (.tmp 3) ?_ ?_ hSw.2 <;> rfl)
  try simp only [Act.put, List.getElem_toArray, List.getElem_cons_succ, List.getElem_cons_zero, List.setIfInBounds_toArray, List.set_cons_zero, List.set_cons_succ]
  refine wpAnyH_ready (rs := [1]) (by kernel_rfl) (by simp) ?_
  refine AllReadyH.cons rfl (fun K hK => ?_) AllReadyH.nil
  go_simp
  have HC := Lib.hid (rput_any a HLAd.out HT.out)
  refine (HC.out).mono ?_
  rintro e x1 ⟨y1, rfl, hyl, hgy, hb⟩
  have VA1 := Lib.hid (HVAd.out.below hb (Blk.lt HVAd.out))
  have VB1 := Lib.hid (HVBd.out.below hb (Blk.lt HVBd.out))
  have LA1 := Lib.hid (HLAd.out.below hb)
  have LB1 := Lib.hid (HLBd.out.below hb)
  have BB1 := Lib.hid (HBd.out.trans (hb.mono HBd.out.size))
  have TN1 := Lib.hid (hgy.lz (F := No) fun _ h => h.elim)
  have YL1 := Lib.hid hyl
  clear hb HC hyl hgy HVAd HVBd HLAd HLBd HBd
  try go_simp
  refine hK.out _ _ ⟨VA1.out, VB1.out⟩ (fun hHeld1 => ?_)
  clear hK K
  try simp only [Act.put, List.getElem_toArray, List.getElem_cons_succ, List.getElem_cons_zero, List.setIfInBounds_toArray, List.set_cons_zero, List.set_cons_succ]
  refine wpAnyH_and' (fun w' => Lz kU8 No w' y1) _ _ _ _ ?_
  have hHeld : (Vr x1 V1 a ∧ Vr x1 V2 b) ∧ Lz kU8 No x1 y1 := ⟨⟨VA1.out, VB1.out⟩, TN1.out⟩
  refine wpAnyH_take (i := 2) (v := ?_) rfl (by kernel_rfl) (by kernel_rfl) (by kernel_rfl) (fun _ _ _ h => h) (Or.inl ⟨by rfl, ?_⟩) (by assumption) ?_
  rotate_left
  · (intro w hSw; (try dsimp only at hSw); have cv : (convert 28 9 y1.v).run Tryz.prog w = .ok (.string sa) w := (by rw [HSA.out, ← (show y1.l = put a.er from YL1.out)]; exact cu_conv_rd y1.A y1.l.length y1.c _ _ y1.l rfl (hSw.2).rd8); go_simp; try (with_reducible rfl))
  try simp only [Act.put, List.getElem_toArray, List.getElem_cons_succ, List.getElem_cons_zero, List.setIfInBounds_toArray, List.set_cons_zero, List.set_cons_succ]
  refine wpAnyH_ready (rs := [4]) (by kernel_rfl) (by simp) ?_
  refine AllReadyH.cons rfl (fun K hK => ?_) AllReadyH.nil
  go_simp
  have HC := Lib.hid (rput_any b LB1.out HTB'.out)
  refine (HC.out).mono ?_
  rintro e x2 ⟨y2, rfl, hyl, hgy, hb⟩
  have VA2 := Lib.hid (VA1.out.below hb (Blk.lt VA1.out))
  have VB2 := Lib.hid (VB1.out.below hb (Blk.lt VB1.out))
  have LA2 := Lib.hid (LA1.out.below hb)
  have LB2 := Lib.hid (LB1.out.below hb)
  have BB2 := Lib.hid (BB1.out.trans (hb.mono BB1.out.size))
  have T2_0 := Lib.hid (TN1.out.bf (F := No) (Bf.below hb))
  have TN2 := Lib.hid (hgy.lz (F := No) fun _ h => h.elim)
  have YL2 := Lib.hid hyl
  clear hb HC hyl hgy VA1 VB1 LA1 LB1 BB1 TN1
  try go_simp
  refine hK.out _ _ ⟨⟨VA2.out, VB2.out⟩, T2_0.out⟩ (fun hHeld1 => ?_)
  clear hK K
  try simp only [Act.put, List.getElem_toArray, List.getElem_cons_succ, List.getElem_cons_zero, List.setIfInBounds_toArray, List.set_cons_zero, List.set_cons_succ]
  refine wpAnyH_and' (fun w' => Lz kU8 No w' y2) _ _ _ _ ?_
  have hHeld : ((Vr x2 V1 a ∧ Vr x2 V2 b) ∧ Lz kU8 No x2 y1) ∧ Lz kU8 No x2 y2 := ⟨⟨⟨VA2.out, VB2.out⟩, T2_0.out⟩, TN2.out⟩
  refine wpAnyH_take (i := 5) (v := ?_) rfl (by kernel_rfl) (by kernel_rfl) (by kernel_rfl) (fun _ _ _ h => h) (Or.inl ⟨by rfl, ?_⟩) (by assumption) ?_
  rotate_left
  · (intro w hSw; (try dsimp only at hSw); have cv : (convert 28 9 y2.v).run Tryz.prog w = .ok (.string sb) w := (by rw [HSB.out, ← (show y2.l = put b.er from YL2.out)]; exact cu_conv_rd y2.A y2.l.length y2.c _ _ y2.l rfl (hSw.2).rd8); go_simp; try (with_reducible rfl))
  try simp only [Act.put, List.getElem_toArray, List.getElem_cons_succ, List.getElem_cons_zero, List.setIfInBounds_toArray, List.set_cons_zero, List.set_cons_succ]
  refine wpAnyH_take (i := 6) (v := ?_) rfl (by kernel_rfl) (by kernel_rfl) (by kernel_rfl) (fun _ _ _ h => h) (Or.inl ⟨by rfl, ?_⟩) (by assumption) ?_
  rotate_left
  · (intro w hSw; (try dsimp only at hSw); go_simp; try (with_reducible rfl))
  try simp only [Act.put, List.getElem_toArray, List.getElem_cons_succ, List.getElem_cons_zero, List.setIfInBounds_toArray, List.set_cons_zero, List.set_cons_succ]
  refine wpAnyH_take (i := 7) (v := ?_) rfl (by kernel_rfl) (by kernel_rfl) (by kernel_rfl) (fun _ _ _ h => h) (Or.inl ⟨by rfl, ?_⟩) (by assumption) ?_
  rotate_left
  · (intro w hSw; (try dsimp only at hSw); go_simp; try (with_reducible rfl))
  try simp only [Act.put, List.getElem_toArray, List.getElem_cons_succ, List.getElem_cons_zero, List.setIfInBounds_toArray, List.set_cons_zero, List.set_cons_succ]
  refine wpAnyH_done (by kernel_rfl) ?_ _
  go_wp2
  go_ret
  exact ⟨by rw [HSA.out, HSB.out, bytes_same]; rfl, BB2.out⟩

end Ot
end Go.Proofs.YtkicjjcangkneaaGreatDoor

/-
  The reference's Put and SameOp of any operations that were got.
-/
namespace Go.Proofs.YtkicjjcangkneaaGreatDoor
open Go.RowKit
set_option linter.unusedSimpArgs false
set_option linter.unusedVariables false
attribute [local go_sem ↓] Go.wp_at_zero Go.wp_at_succ
set_option maxRecDepth 100000
namespace Ot
theorem nd_lenW (x : Nd) (h : okNd x) : (nNd x).length ≤ 40030 := by
  have h1 := Pk.num_len10 x.pub h.1
  have h3 := wEach_len (wr := nBx) 40 (fun y hy => bx_len y (h.2.2 y hy)) 1000 h.2.1 (by omega)
  unfold nNd
  rw [List.length_append]
  omega
theorem sd_lenW (x : Sd) (h : okSd x) (h2 : x.body.length ≤ 40000) : (nSd x).length ≤ 40050 := by
  have h1 := nm_len x.nm h.1
  have h3 := tx_wide x.body h2
  unfold nSd
  rw [List.length_append]
  omega
theorem put_lenW {o : Er} (h : Wide o) : (put o).length ≤ 90000000 := by
  have k := h.ok
  have a0 := Pk.nInt_len o.by_ k.by_.1 k.by_.2
  have a1 := Pk.nInt_len o.seq k.seq.1 k.seq.2
  have a2 := Pk.nInt_len o.kind k.kind.1 k.kind.2
  have a3 := Pk.nInt_len o.at_ k.at_.1 k.at_.2
  have a4 := wEach_len (wr := Pk.nName) 30 (fun y hy => nm_len y (k.past.2 y hy)) 1000 k.past.1 (by omega)
  have a5 := Pk.nInt_len o.dev k.dev.1 k.dev.2
  have a6 := Pk.nInt_len o.old k.old.1 k.old.2
  have a7 := Pk.nInt_len o.mem k.mem.1 k.mem.2
  have a8 := Pk.nInt_len o.role k.role.1 k.role.2
  have a9 := wEach_len (wr := nNd) 40030 (fun y hy => nd_lenW y (k.path.2 y hy)) 1000 k.path.1 (by omega)
  have b0 := nm_len o.epoch k.epoch
  have b1 := Pk.nInt_len o.n k.n.1 k.n.2
  have b2 := tx_wide o.body h.body
  have b3 := wEach_len (wr := Pk.num) 10 (fun y hy => Pk.num_len10 y (k.refs.2 y hy)) 1000 k.refs.1 (by omega)
  have b4 := nm_len o.of_ k.of_
  have b5 := wEach_len (wr := Pk.nInt) 10 (fun y hy => Pk.nInt_len y (k.guards.2 y hy).1 (k.guards.2 y hy).2) 1000 k.guards.1 (by omega)
  have b6 := Pk.nInt_len o.need k.need.1 k.need.2
  have b7 := Pk.nInt_len o.wait k.wait.1 k.wait.2
  have b8 := wEach_len (wr := nBx) 40 (fun y hy => bx_len y (k.boxes.2 y hy)) 1000 k.boxes.1 (by omega)
  have b9 := Pk.num_len10 o.pub k.pub
  have d0 := wEach_len (wr := nSd) 40050 (fun y hy => sd_lenW y (k.hist.2 y hy) (h.histB y hy)) 1000 k.hist.1 (by omega)
  have d1 := Pk.num_len10 o.r k.r
  have d2 := Pk.num_len10 o.s k.s
  unfold put con
  simp only [List.length_append]
  omega
theorem con_lenW {o : Er} (h : Wide o) : (con o).length ≤ 90000000 := by
  have := put_lenW h
  unfold put at this
  rw [List.length_append] at this
  omega
set_option maxHeartbeats 4000000 in
theorem rput_wide {w : World} (o : LOp) (hx : Lies No w o) (ht : Wide o.er) :
    Calls Tryz.prog 18 #[o.v] w fun e w' => Byt w w' e (put o.er) := by
  obtain ⟨cs, hcs⟩ : ∃ cs, cs = o.cells := ⟨_, rfl⟩
  have hV : Vr (w.alloc (.cells cs 35)) w.heap.size o := by
    unfold Vr
    rw [← hcs]
    exact blk_new w 35 cs
  have hb : Below w.heap.size w (w.alloc (.cells cs 35)) := (Below.refl _ w).alloc (Nat.le_refl _) _
  have hL := hx.alloc (.cells cs 35)
  obtain ⟨w0, hw0⟩ : ∃ w0, w0 = w.alloc (.cells cs 35) := ⟨_, rfl⟩
  rw [← hw0] at hV hb hL
  have HV0 := Lib.hid (show Vr w0.drew w.heap.size o from hV)
  have HB0 := Lib.hid (show Below w.heap.size w w0.drew from hb.trans (below_drewN w0 1 w.heap.size))
  have HC := Lib.hid (rcon_wide (w := w0.drew) o (hL.bf (Bf.drew w0)) ht)
  have HCA := Lib.hid (rcon_wide (w := w0.drew.alloc (.cells #[.int .u64 (o.r : Int), .int .u64 (o.s : Int)] 25)) o ((hL.bf (Bf.drew w0)).alloc _) ht)
  have HN2 := Lib.hid (show ∀ y ∈ [o.r, o.s], u64 y from by intro y hy; simp at hy; rcases hy with rfl | rfl; exact ht.ok.r; exact ht.ok.s)
  have HN20 := Lib.hid (show ([o.r, o.s].flatMap Pk.num).length ≤ 20 ∧ 0 < ([o.r, o.s].flatMap Pk.num).length from by
    have h1 := Pk.num_len10 o.r ht.ok.r
    have h2 := Pk.num_len10 o.s ht.ok.s
    have h3 := Pk.num_pos o.r
    simp only [List.flatMap_cons, List.flatMap_nil, List.append_nil, List.length_append]
    omega)
  have HT := Lib.hid ht
  have HW0 := Lib.hid hw0
  show Calls _ _ #[.agg o.cells] w _
  rw [← hcs]
  clear hV hb hL hx ht hcs hw0
  go_enter Tryz.func18, Tryz.ntmps18
  go_wp2
  rw [← HW0.out]
  refine wp_region_held_drew (S := (fun w' : World => Vr w' w.heap.size o)) (by kernel_rfl) HV0.out (fun hHeld => ?_)
  try simp only [Act.put, List.getElem_toArray, List.getElem_cons_succ, List.getElem_cons_zero, List.setIfInBounds_toArray, List.set_cons_zero, List.set_cons_succ]
  refine wpAnyH_take (i := 0) (v := ?_) rfl (by kernel_rfl) (by kernel_rfl) (by kernel_rfl) (fun _ _ _ h => h) (Or.inl ⟨by rfl, ?_⟩) (by assumption) ?_
  rotate_left
  · (intro w hSw; (try dsimp only at hSw); refine run_load_op _ (.tmp 1) ?_ ?_ hSw <;> rfl)
  try simp only [Act.put, List.getElem_toArray, List.getElem_cons_zero, List.setIfInBounds_toArray, List.set_cons_zero, List.set_cons_succ]
  refine wpAnyH_take (i := 2) (v := ?_) rfl (by kernel_rfl) (by kernel_rfl) (by kernel_rfl) (fun _ _ _ h => h) (Or.inl ⟨by rfl, ?_⟩) (by assumption) ?_
  rotate_left
  · (intro w hSw; (try dsimp only at hSw); go_simp; try (with_reducible rfl))
  try simp only [Act.put, List.getElem_toArray, List.getElem_cons_succ, List.getElem_cons_zero, List.setIfInBounds_toArray, List.set_cons_zero, List.set_cons_succ]
  refine wpAnyH_take (i := 3) (v := ?_) rfl (by kernel_rfl) (by kernel_rfl) (by kernel_rfl) (fun _ _ _ h => h) (Or.inl ⟨by rfl, ?_⟩) (by assumption) ?_
  rotate_left
  · (intro w hSw; (try dsimp only at hSw); go_simp; try (with_reducible rfl))
  try simp only [Act.put, List.getElem_toArray, List.getElem_cons_succ, List.getElem_cons_zero, List.setIfInBounds_toArray, List.set_cons_zero, List.set_cons_succ]
  refine wpAnyH_take (i := 4) (v := ?_) rfl (by kernel_rfl) (by kernel_rfl) (by kernel_rfl) (fun _ _ _ h => h) (Or.inl ⟨by rfl, ?_⟩) (by assumption) ?_
  rotate_left
  · (intro w hSw; (try dsimp only at hSw); have k := (Blk.cell hSw 25).trans (LOp.c25 o); go_simp; try (with_reducible rfl))
  try simp only [Act.put, List.getElem_toArray, List.getElem_cons_succ, List.getElem_cons_zero, List.setIfInBounds_toArray, List.set_cons_zero, List.set_cons_succ]
  refine wpAnyH_take (i := 5) (v := ?_) rfl (by kernel_rfl) (by kernel_rfl) (by kernel_rfl) (fun _ _ _ h => h) (Or.inl ⟨by rfl, ?_⟩) (by assumption) ?_
  rotate_left
  · (intro w hSw; (try dsimp only at hSw); go_simp; try (with_reducible rfl))
  try simp only [Act.put, List.getElem_toArray, List.getElem_cons_succ, List.getElem_cons_zero, List.setIfInBounds_toArray, List.set_cons_zero, List.set_cons_succ]
  refine wpAnyH_take (i := 6) (v := ?_) rfl (by kernel_rfl) (by kernel_rfl) (by kernel_rfl) (fun _ _ _ h => h) (Or.inl ⟨by rfl, ?_⟩) (by assumption) ?_
  rotate_left
  · (intro w hSw; (try dsimp only at hSw); go_simp; try (with_reducible rfl))
  try simp only [Act.put, List.getElem_toArray, List.getElem_cons_succ, List.getElem_cons_zero, List.setIfInBounds_toArray, List.set_cons_zero, List.set_cons_succ]
  refine wpAnyH_take (i := 7) (v := ?_) rfl (by kernel_rfl) (by kernel_rfl) (by kernel_rfl) (fun _ _ _ h => h) (Or.inl ⟨by rfl, ?_⟩) (by assumption) ?_
  rotate_left
  · (intro w hSw; (try dsimp only at hSw); have k := (Blk.cell hSw 26).trans (LOp.c26 o); go_simp; try (with_reducible rfl))
  try simp only [Act.put, List.getElem_toArray, List.getElem_cons_succ, List.getElem_cons_zero, List.setIfInBounds_toArray, List.set_cons_zero, List.set_cons_succ]
  refine wpAnyH_ready (rs := [1, 8]) (by kernel_rfl) (by simp) ?_
  refine AllReadyH.cons rfl (fun K hK => ?_) (AllReadyH.cons rfl (fun K hK => ?_) AllReadyH.nil)
  · go_simp
    refine (HC.out).mono ?_
    rintro e w1 ⟨z1, rfl, hzl, hgz, hb1⟩
    have HZ := Lib.hid hzl
    have HV1 := Lib.hid (HV0.out.below hb1 (Blk.lt HV0.out))
    have HG1 := Lib.hid (hgz.base (Blk.lt HV0.out))
    have HB1 := Lib.hid (HB0.out.trans (hb1.mono HB0.out.size))
    clear hzl hgz hb1 HC HCA
    try go_simp
    refine hK.out _ _ HV1.out (fun hHeld1 => ?_)
    clear hK K
    try simp only [Act.put, List.getElem_toArray, List.getElem_cons_succ, List.getElem_cons_zero, List.setIfInBounds_toArray, List.set_cons_zero, List.set_cons_succ]
    refine wpAnyH_ready (rs := [8]) (by kernel_rfl) (by simp) ?_
    refine AllReadyH.cons rfl (fun K hK => ?_) AllReadyH.nil
    go_simp
    have HNU := Lib.hid (rnums_any (w := w1.alloc (.cells #[.int .u64 (o.r : Int), .int .u64 (o.s : Int)] 25)) ⟨[o.r, o.s], some ⟨w1.heap.size, 0, none⟩, 2⟩ (lz_new (K := kU64) w1 [o.r, o.s] #[.int .u64 (o.r : Int), .int .u64 (o.s : Int)] 2 rfl rfl) (by show 2 ≤ 1000; omega) HN2.out)
    have HV2 := Lib.hid (show Vr (w1.alloc (.cells #[.int .u64 (o.r : Int), .int .u64 (o.s : Int)] 25)) w.heap.size o from blk_alloc HV1.out _)
    have HG2 := Lib.hid (HG1.out.below ((Below.refl _ w1).alloc (Nat.le_refl _) (.cells #[.int .u64 (o.r : Int), .int .u64 (o.s : Int)] 25)))
    have HB2 := Lib.hid (HB1.out.alloc HB1.out.size (.cells #[.int .u64 (o.r : Int), .int .u64 (o.s : Int)] 25))
    clear HV1 HG1 HB1
    refine hK.out _ _ HV2.out (fun hHeld1 => ?_)
    clear hK K
    try simp only [Act.put, List.getElem_toArray, List.getElem_cons_succ, List.getElem_cons_zero, List.setIfInBounds_toArray, List.set_cons_zero, List.set_cons_succ]
    refine wpAnyH_ready (rs := [9]) (by kernel_rfl) (by simp) ?_
    refine AllReadyH.cons rfl (fun K hK => ?_) AllReadyH.nil
    go_simp
    refine (HNU.out).mono ?_
    rintro e w3 ⟨y, rfl, hyl, hgy, hb3⟩
    have HYL := Lib.hid hyl
    have HV3 := Lib.hid (HV2.out.below hb3 (Blk.lt HV2.out))
    have HG3 := Lib.hid (HG2.out.below hb3)
    have HB3 := Lib.hid (HB2.out.trans (hb3.mono HB2.out.size))
    have HSRC := Lib.hid ((hgy.lz (F := No) fun _ h => h.elim).rd)
    clear hyl hgy hb3 HNU HV2 HG2 HB2
    try go_simp
    refine hK.out _ _ HV3.out (fun hHeld1 => ?_)
    clear hK K
    try simp only [Act.put, List.getElem_toArray, List.getElem_cons_succ, List.getElem_cons_zero, List.setIfInBounds_toArray, List.set_cons_zero, List.set_cons_succ]
    have hy20 : y.l.length ≤ 20 := by rw [HYL.out]; exact HN20.out.1
    have hy0 : 0 < y.l.length := by rw [HYL.out]; exact HN20.out.2
    obtain ⟨b1, o1, e1, _, _, hsrc⟩ := HSRC.out hy0
    have HY1 := Lib.hid (show y.v = .slice (some ⟨b1, o1, none⟩) y.l.length y.c by unfold Ls.v; rw [e1])
    have HS1 := Lib.hid (show ∀ j u, (kU8.cells y.l)[j]? = some u → w3.cell? ((⟨b1, o1, none⟩ : Addr).add j) = some u from fun j u hu => by rw [Addr.add_lit]; exact hsrc j u hu)
    clear hsrc e1 HSRC
    refine wpAnyH_ready (rs := [10]) (by kernel_rfl) (by simp) ?_
    refine AllReadyH.cons rfl (fun K hK => ?_) AllReadyH.nil
    refine step_push1 ki_u8 rfl (.tmp 4) (.tmp 12) rfl (w.heap.size + 1) z1 HG3.out rfl ⟨b1, o1, none⟩ y.l.length y.c y.l HY1.out rfl hy0 HS1.out (by rw [HZ.out]; have := con_lenW HT.out; omega) (Blk.lt HV3.out) ?_
    intro z2 w4 hz2 hg2 hgw _
    have HZ2 := Lib.hid hz2
    have HG4 := Lib.hid hg2
    have HB4 := Lib.hid (HB3.out.grown hgw HB3.out.size fun g eg => by have := (HG3.out.lt g eg).1; omega)
    have HV4 := Lib.hid (show Vr w4 w.heap.size o from blk_grown HV3.out hgw fun eg => by have := (HG3.out.lt _ eg.symm).1; omega)
    clear hz2 hg2 hgw HG3 HS1 HB3 HV3
    refine hK.out _ _ HV4.out (fun hHeld1 => ?_)
    clear hK K
    try simp only [Act.put, List.getElem_toArray, List.getElem_cons_succ, List.getElem_cons_zero, List.setIfInBounds_toArray, List.set_cons_zero, List.set_cons_succ]
    refine wpAnyH_take (i := 11) (v := ?_) rfl (by kernel_rfl) (by kernel_rfl) (by kernel_rfl) (fun _ _ _ h => h) (Or.inl ⟨by rfl, ?_⟩) (by assumption) ?_
    rotate_left
    · (intro w hSw; (try dsimp only at hSw); go_simp; try (with_reducible rfl))
    try simp only [Act.put, List.getElem_toArray, List.getElem_cons_succ, List.getElem_cons_zero, List.setIfInBounds_toArray, List.set_cons_zero, List.set_cons_succ]
    refine wpAnyH_done (by kernel_rfl) ?_ _
    go_wp2
    go_ret
    exact ⟨z2, rfl, by rw [HZ2.out, HZ.out, HYL.out]; unfold put; simp [LOp.er], HG4.out.base (Nat.le_succ _), HB4.out⟩
  · go_simp
    refine hK.out _ _ (show Vr (w0.drew.alloc (.cells #[.int .u64 (o.r : Int), .int .u64 (o.s : Int)] 25)) w.heap.size o from blk_alloc HV0.out _) (fun hHeld1 => ?_)
    clear hK K
    try simp only [Act.put, List.getElem_toArray, List.getElem_cons_succ, List.getElem_cons_zero, List.setIfInBounds_toArray, List.set_cons_zero, List.set_cons_succ]
    refine wpAnyH_ready (rs := [1]) (by kernel_rfl) (by simp) ?_
    refine AllReadyH.cons rfl (fun K hK => ?_) AllReadyH.nil
    go_simp
    refine (HCA.out).mono ?_
    rintro e w1 ⟨z1, rfl, hzl, hgz, hb1⟩
    have HZ := Lib.hid hzl
    have HV2 := Lib.hid (show Vr w1 w.heap.size o from (show Vr (w0.drew.alloc (.cells #[.int .u64 (o.r : Int), .int .u64 (o.s : Int)] 25)) w.heap.size o from blk_alloc HV0.out _).below hb1 (Nat.lt_of_lt_of_le (Blk.lt HV0.out) (by simp)))
    have HG2 := Lib.hid (hgz.base (Nat.le_trans (Blk.lt HV0.out) (by simp)))
    have HB2 := Lib.hid ((HB0.out.alloc HB0.out.size (.cells #[.int .u64 (o.r : Int), .int .u64 (o.s : Int)] 25)).trans (hb1.mono (Nat.le_trans HB0.out.size (by simp))))
    have HNU := Lib.hid (rnums_any (w := w1) ⟨[o.r, o.s], some ⟨w0.drew.heap.size, 0, none⟩, 2⟩ ((lz_new (K := kU64) w0.drew [o.r, o.s] #[.int .u64 (o.r : Int), .int .u64 (o.s : Int)] 2 rfl rfl).bf (Bf.below hb1)) (by show 2 ≤ 1000; omega) HN2.out)
    clear hzl hgz hb1 HC HCA
    try go_simp
    refine hK.out _ _ HV2.out (fun hHeld1 => ?_)
    clear hK K
    try simp only [Act.put, List.getElem_toArray, List.getElem_cons_succ, List.getElem_cons_zero, List.setIfInBounds_toArray, List.set_cons_zero, List.set_cons_succ]
    refine wpAnyH_ready (rs := [9]) (by kernel_rfl) (by simp) ?_
    refine AllReadyH.cons rfl (fun K hK => ?_) AllReadyH.nil
    go_simp
    refine (HNU.out).mono ?_
    rintro e w3 ⟨y, rfl, hyl, hgy, hb3⟩
    have HYL := Lib.hid hyl
    have HV3 := Lib.hid (HV2.out.below hb3 (Blk.lt HV2.out))
    have HG3 := Lib.hid (HG2.out.below hb3)
    have HB3 := Lib.hid (HB2.out.trans (hb3.mono HB2.out.size))
    have HSRC := Lib.hid ((hgy.lz (F := No) fun _ h => h.elim).rd)
    clear hyl hgy hb3 HNU HV2 HG2 HB2
    try go_simp
    refine hK.out _ _ HV3.out (fun hHeld1 => ?_)
    clear hK K
    try simp only [Act.put, List.getElem_toArray, List.getElem_cons_succ, List.getElem_cons_zero, List.setIfInBounds_toArray, List.set_cons_zero, List.set_cons_succ]
    have hy20 : y.l.length ≤ 20 := by rw [HYL.out]; exact HN20.out.1
    have hy0 : 0 < y.l.length := by rw [HYL.out]; exact HN20.out.2
    obtain ⟨b1, o1, e1, _, _, hsrc⟩ := HSRC.out hy0
    have HY1 := Lib.hid (show y.v = .slice (some ⟨b1, o1, none⟩) y.l.length y.c by unfold Ls.v; rw [e1])
    have HS1 := Lib.hid (show ∀ j u, (kU8.cells y.l)[j]? = some u → w3.cell? ((⟨b1, o1, none⟩ : Addr).add j) = some u from fun j u hu => by rw [Addr.add_lit]; exact hsrc j u hu)
    clear hsrc e1 HSRC
    refine wpAnyH_ready (rs := [10]) (by kernel_rfl) (by simp) ?_
    refine AllReadyH.cons rfl (fun K hK => ?_) AllReadyH.nil
    refine step_push1 ki_u8 rfl (.tmp 4) (.tmp 12) rfl (w.heap.size + 1) z1 HG3.out rfl ⟨b1, o1, none⟩ y.l.length y.c y.l HY1.out rfl hy0 HS1.out (by rw [HZ.out]; have := con_lenW HT.out; omega) (Blk.lt HV3.out) ?_
    intro z2 w4 hz2 hg2 hgw _
    have HZ2 := Lib.hid hz2
    have HG4 := Lib.hid hg2
    have HB4 := Lib.hid (HB3.out.grown hgw HB3.out.size fun g eg => by have := (HG3.out.lt g eg).1; omega)
    have HV4 := Lib.hid (show Vr w4 w.heap.size o from blk_grown HV3.out hgw fun eg => by have := (HG3.out.lt _ eg.symm).1; omega)
    clear hz2 hg2 hgw HG3 HS1 HB3 HV3
    refine hK.out _ _ HV4.out (fun hHeld1 => ?_)
    clear hK K
    try simp only [Act.put, List.getElem_toArray, List.getElem_cons_succ, List.getElem_cons_zero, List.setIfInBounds_toArray, List.set_cons_zero, List.set_cons_succ]
    refine wpAnyH_take (i := 11) (v := ?_) rfl (by kernel_rfl) (by kernel_rfl) (by kernel_rfl) (fun _ _ _ h => h) (Or.inl ⟨by rfl, ?_⟩) (by assumption) ?_
    rotate_left
    · (intro w hSw; (try dsimp only at hSw); go_simp; try (with_reducible rfl))
    try simp only [Act.put, List.getElem_toArray, List.getElem_cons_succ, List.getElem_cons_zero, List.setIfInBounds_toArray, List.set_cons_zero, List.set_cons_succ]
    refine wpAnyH_done (by kernel_rfl) ?_ _
    go_wp2
    go_ret
    exact ⟨z2, rfl, by rw [HZ2.out, HZ.out, HYL.out]; unfold put; simp [LOp.er], HG4.out.base (Nat.le_succ _), HB4.out⟩
set_option maxHeartbeats 4000000 in
theorem sameop_wide {w : World} (a b : LOp) (ha : Lies No w a) (hb : Lies No w b) (hta : Wide a.er) (htb : Wide b.er) :
    Calls Tryz.prog 22 #[a.v, b.v] w fun e w' => e = .returned (.bool (decide (put a.er = put b.er))) ∧ Below w.heap.size w w' := by
  obtain ⟨cs, hcs⟩ : ∃ cs, cs = a.cells := ⟨_, rfl⟩
  obtain ⟨ds, hds⟩ : ∃ ds, ds = b.cells := ⟨_, rfl⟩
  have es : (w.alloc (.cells cs 35)).heap.size = w.heap.size + 1 := by simp
  have hV1 : Vr ((w.alloc (.cells cs 35)).alloc (.cells ds 35)) w.heap.size a := by
    unfold Vr
    rw [← hcs]
    exact blk_alloc (blk_new w 35 cs) _
  have hV2 : Vr ((w.alloc (.cells cs 35)).alloc (.cells ds 35)) (w.heap.size + 1) b := by
    unfold Vr
    rw [← hds, ← es]
    exact blk_new _ _ _
  have hbw : Below w.heap.size w ((w.alloc (.cells cs 35)).alloc (.cells ds 35)) := ((Below.refl _ w).alloc (Nat.le_refl _) _).alloc (by simp) _
  have hLa := (ha.alloc (.cells cs 35)).alloc (.cells ds 35)
  have hLb := (hb.alloc (.cells cs 35)).alloc (.cells ds 35)
  obtain ⟨w0, hw0⟩ : ∃ w0, w0 = (w.alloc (.cells cs 35)).alloc (.cells ds 35) := ⟨_, rfl⟩
  rw [← hw0] at hV1 hV2 hbw hLa hLb
  obtain ⟨V1, hV1'⟩ : ∃ V1, V1 = w.heap.size := ⟨_, rfl⟩
  obtain ⟨V2, hV2'⟩ : ∃ V2, V2 = w.heap.size + 1 := ⟨_, rfl⟩
  have HVAd := Lib.hid (show Vr w0.drew V1 a from hV1' ▸ hV1)
  have HVBd := Lib.hid (show Vr w0.drew V2 b from hV2' ▸ hV2)
  have HBd := Lib.hid (show Below w.heap.size w w0.drew from hbw.trans (below_drewN w0 1 w.heap.size))
  have HLAd := Lib.hid (show Lies No w0.drew a from hLa.bf (Bf.drew w0))
  have HLBd := Lib.hid (show Lies No w0.drew b from hLb.bf (Bf.drew w0))
  have HT := Lib.hid hta
  have HTB' := Lib.hid htb
  have HW0 := Lib.hid hw0
  have HE1 := Lib.hid hV1'
  have HE2 := Lib.hid hV2'
  obtain ⟨sa, hsa⟩ : ∃ s : ByteArray, s = ⟨(put a.er).toArray⟩ := ⟨_, rfl⟩
  obtain ⟨sb, hsb⟩ : ∃ s : ByteArray, s = ⟨(put b.er).toArray⟩ := ⟨_, rfl⟩
  have HSA := Lib.hid hsa
  have HSB := Lib.hid hsb
  show Calls _ _ #[.agg a.cells, .agg b.cells] w _
  rw [← hcs, ← hds]
  clear hV1 hV2 es hbw hLa hLb ha hb hta htb hcs hds hw0 hsa hsb hV1' hV2'
  go_enter Tryz.func22, Tryz.ntmps22
  go_wp2
  try rw [← HW0.out]
  rw [← HE2.out, ← HE1.out]
  refine wp_region_held_drew (S := (fun w' : World => Vr w' V1 a ∧ Vr w' V2 b)) (by kernel_rfl) ⟨HVAd.out, HVBd.out⟩ (fun hHeld => ?_)
  try simp only [Act.put, List.getElem_toArray, List.getElem_cons_succ, List.getElem_cons_zero, List.setIfInBounds_toArray, List.set_cons_zero, List.set_cons_succ]
  refine wpAnyH_take (i := 0) (v := ?_) rfl (by kernel_rfl) (by kernel_rfl) (by kernel_rfl) (fun _ _ _ h => h) (Or.inl ⟨by rfl, ?_⟩) (by assumption) ?_
  rotate_left
  · (intro w hSw; (try dsimp only at hSw); refine run_load_op _ (.tmp 2) ?_ ?_ hSw.1 <;> rfl)
  try simp only [Act.put, List.getElem_toArray, List.getElem_cons_zero, List.setIfInBounds_toArray, List.set_cons_zero, List.set_cons_succ]
  refine wpAnyH_take (i := 3) (v := ?_) rfl (by kernel_rfl) (by kernel_rfl) (by kernel_rfl) (fun _ _ _ h => h) (Or.inl ⟨by rfl, ?_⟩) (by assumption) ?_
  rotate_left
  · (intro w hSw; (try dsimp only at hSw); refine run_load_op _ (.tmp 3) ?_ ?_ hSw.2 <;> rfl)
  try simp only [Act.put, List.getElem_toArray, List.getElem_cons_succ, List.getElem_cons_zero, List.setIfInBounds_toArray, List.set_cons_zero, List.set_cons_succ]
  refine wpAnyH_ready (rs := [1]) (by kernel_rfl) (by simp) ?_
  refine AllReadyH.cons rfl (fun K hK => ?_) AllReadyH.nil
  go_simp
  have HC := Lib.hid (rput_wide a HLAd.out HT.out)
  refine (HC.out).mono ?_
  rintro e x1 ⟨y1, rfl, hyl, hgy, hb⟩
  have VA1 := Lib.hid (HVAd.out.below hb (Blk.lt HVAd.out))
  have VB1 := Lib.hid (HVBd.out.below hb (Blk.lt HVBd.out))
  have LA1 := Lib.hid (HLAd.out.below hb)
  have LB1 := Lib.hid (HLBd.out.below hb)
  have BB1 := Lib.hid (HBd.out.trans (hb.mono HBd.out.size))
  have TN1 := Lib.hid (hgy.lz (F := No) fun _ h => h.elim)
  have YL1 := Lib.hid hyl
  clear hb HC hyl hgy HVAd HVBd HLAd HLBd HBd
  try go_simp
  refine hK.out _ _ ⟨VA1.out, VB1.out⟩ (fun hHeld1 => ?_)
  clear hK K
  try simp only [Act.put, List.getElem_toArray, List.getElem_cons_succ, List.getElem_cons_zero, List.setIfInBounds_toArray, List.set_cons_zero, List.set_cons_succ]
  refine wpAnyH_and' (fun w' => Lz kU8 No w' y1) _ _ _ _ ?_
  have hHeld : (Vr x1 V1 a ∧ Vr x1 V2 b) ∧ Lz kU8 No x1 y1 := ⟨⟨VA1.out, VB1.out⟩, TN1.out⟩
  refine wpAnyH_take (i := 2) (v := ?_) rfl (by kernel_rfl) (by kernel_rfl) (by kernel_rfl) (fun _ _ _ h => h) (Or.inl ⟨by rfl, ?_⟩) (by assumption) ?_
  rotate_left
  · (intro w hSw; (try dsimp only at hSw); have cv : (convert 28 9 y1.v).run Tryz.prog w = .ok (.string sa) w := (by rw [HSA.out, ← (show y1.l = put a.er from YL1.out)]; exact cu_conv_rd y1.A y1.l.length y1.c _ _ y1.l rfl (hSw.2).rd8); go_simp; try (with_reducible rfl))
  try simp only [Act.put, List.getElem_toArray, List.getElem_cons_succ, List.getElem_cons_zero, List.setIfInBounds_toArray, List.set_cons_zero, List.set_cons_succ]
  refine wpAnyH_ready (rs := [4]) (by kernel_rfl) (by simp) ?_
  refine AllReadyH.cons rfl (fun K hK => ?_) AllReadyH.nil
  go_simp
  have HC := Lib.hid (rput_wide b LB1.out HTB'.out)
  refine (HC.out).mono ?_
  rintro e x2 ⟨y2, rfl, hyl, hgy, hb⟩
  have VA2 := Lib.hid (VA1.out.below hb (Blk.lt VA1.out))
  have VB2 := Lib.hid (VB1.out.below hb (Blk.lt VB1.out))
  have LA2 := Lib.hid (LA1.out.below hb)
  have LB2 := Lib.hid (LB1.out.below hb)
  have BB2 := Lib.hid (BB1.out.trans (hb.mono BB1.out.size))
  have T2_0 := Lib.hid (TN1.out.bf (F := No) (Bf.below hb))
  have TN2 := Lib.hid (hgy.lz (F := No) fun _ h => h.elim)
  have YL2 := Lib.hid hyl
  clear hb HC hyl hgy VA1 VB1 LA1 LB1 BB1 TN1
  try go_simp
  refine hK.out _ _ ⟨⟨VA2.out, VB2.out⟩, T2_0.out⟩ (fun hHeld1 => ?_)
  clear hK K
  try simp only [Act.put, List.getElem_toArray, List.getElem_cons_succ, List.getElem_cons_zero, List.setIfInBounds_toArray, List.set_cons_zero, List.set_cons_succ]
  refine wpAnyH_and' (fun w' => Lz kU8 No w' y2) _ _ _ _ ?_
  have hHeld : ((Vr x2 V1 a ∧ Vr x2 V2 b) ∧ Lz kU8 No x2 y1) ∧ Lz kU8 No x2 y2 := ⟨⟨⟨VA2.out, VB2.out⟩, T2_0.out⟩, TN2.out⟩
  refine wpAnyH_take (i := 5) (v := ?_) rfl (by kernel_rfl) (by kernel_rfl) (by kernel_rfl) (fun _ _ _ h => h) (Or.inl ⟨by rfl, ?_⟩) (by assumption) ?_
  rotate_left
  · (intro w hSw; (try dsimp only at hSw); have cv : (convert 28 9 y2.v).run Tryz.prog w = .ok (.string sb) w := (by rw [HSB.out, ← (show y2.l = put b.er from YL2.out)]; exact cu_conv_rd y2.A y2.l.length y2.c _ _ y2.l rfl (hSw.2).rd8); go_simp; try (with_reducible rfl))
  try simp only [Act.put, List.getElem_toArray, List.getElem_cons_succ, List.getElem_cons_zero, List.setIfInBounds_toArray, List.set_cons_zero, List.set_cons_succ]
  refine wpAnyH_take (i := 6) (v := ?_) rfl (by kernel_rfl) (by kernel_rfl) (by kernel_rfl) (fun _ _ _ h => h) (Or.inl ⟨by rfl, ?_⟩) (by assumption) ?_
  rotate_left
  · (intro w hSw; (try dsimp only at hSw); go_simp; try (with_reducible rfl))
  try simp only [Act.put, List.getElem_toArray, List.getElem_cons_succ, List.getElem_cons_zero, List.setIfInBounds_toArray, List.set_cons_zero, List.set_cons_succ]
  refine wpAnyH_take (i := 7) (v := ?_) rfl (by kernel_rfl) (by kernel_rfl) (by kernel_rfl) (fun _ _ _ h => h) (Or.inl ⟨by rfl, ?_⟩) (by assumption) ?_
  rotate_left
  · (intro w hSw; (try dsimp only at hSw); go_simp; try (with_reducible rfl))
  try simp only [Act.put, List.getElem_toArray, List.getElem_cons_succ, List.getElem_cons_zero, List.setIfInBounds_toArray, List.set_cons_zero, List.set_cons_succ]
  refine wpAnyH_done (by kernel_rfl) ?_ _
  go_wp2
  go_ret
  exact ⟨by rw [HSA.out, HSB.out, bytes_same]; rfl, BB2.out⟩

end Ot
end Go.Proofs.YtkicjjcangkneaaGreatDoor

/-
  What is put is got; of bytes that are got, there is no other row (P11.3, P11.5): 'huddlelaw11.OpRound' returns true.
-/
namespace Go.Proofs.YtkicjjcangkneaaGreatDoor
open Go.RowKit
set_option linter.unusedSimpArgs false
set_option linter.unusedVariables false
attribute [local go_sem ↓] Go.wp_at_zero Go.wp_at_succ
set_option maxRecDepth 100000
namespace Ot
theorem mem_flat {α : Type} {f : α → List UInt8} {x : α} : ∀ {l : List α}, x ∈ l → (f x).length ≤ (l.flatMap f).length
  | y :: l, h => by
    rw [List.flatMap_cons, List.length_append]
    rcases List.mem_cons.1 h with rfl | h
    · omega
    · have := mem_flat (f := f) h; omega
theorem wide_of_put {o : Er} (h : Ok o) (hl : (put o).length ≤ 40000) : Wide o := by
  have hc : (Pk.nText o.body).length ≤ (put o).length ∧ (wEach nSd o.hist).length ≤ (put o).length := by
    unfold put con
    simp only [List.length_append]
    omega
  refine ⟨h, ?_, fun s hs => ?_⟩
  · have h1 := hc.1
    unfold Pk.nText at h1
    rw [List.length_append] at h1
    omega
  · have h2 := hc.2
    have h3 := mem_flat (f := nSd) hs
    unfold wEach at h2
    unfold nSd Pk.nText at h3
    simp only [List.length_append] at h2 h3
    have h4 : (nSd s).length = (Pk.nName s.nm).length + ((Pk.nInt (s.body.length : Nat)).length + s.body.length) := by
      unfold nSd Pk.nText
      simp only [List.length_append]
    have h5 := mem_flat (f := nSd) hs
    omega
/-- What was got: the law's two questions. -/
theorem got_wide {l : List UInt8} {o : LOp} (hl : l.length ≤ 40000) (hk : Ok o.er) (h0 : wrong l = 0 → o.er = (pOp l).v) (h1 : wrong l ≠ 0 → o = LOp.zero) :
    Wide o.er ∧ (wrong l = 0 → put o.er = l) ∧ (wrong l ≠ 0 → o = LOp.zero) := by
  by_cases c : wrong l = 0
  · have h2 := (wrong_one l (by omega) c).2
    rw [← h0 c] at h2
    exact ⟨wide_of_put hk (by rw [h2]; exact hl), fun _ => h2, fun h => absurd c h⟩
  · rw [h1 c]
    exact ⟨zero_tiny.wide, fun h => absurd h c, fun _ => rfl⟩

end Ot
end Go.Proofs.YtkicjjcangkneaaGreatDoor

/-
  One item of an own list of bytes is set.
-/
namespace Go.Proofs.YtkicjjcangkneaaGreatDoor
open Go.RowKit
set_option maxRecDepth 100000
namespace Ot
theorem u8s_set (l : List UInt8) (i : Nat) (v : UInt8) : u8s (l.set i v) = (u8s l).set i (.int .u8 (v.toNat : Int)) := by
  unfold u8s
  rw [List.map_set]
theorem take_set {α : Type} (l : List α) (n i : Nat) (v : α) (h : i < n) : (l.set i v).take n = (l.take n).set i v := by
  apply List.ext_getElem?
  intro j
  rw [List.getElem?_take, List.getElem?_set, List.getElem?_set, List.getElem?_take, List.length_take]
  by_cases c1 : j < n
  · rw [if_pos c1, if_pos c1]
    by_cases c2 : i = j
    · subst c2
      rw [if_pos rfl, if_pos rfl]
      by_cases c3 : i < l.length
      · rw [if_pos c3, if_pos (by omega)]
      · rw [if_neg c3, if_neg (by omega)]
    · rw [if_neg c2, if_neg c2]
  · rw [if_neg c1, if_neg c1, if_neg (by omega : ¬ i = j)]
theorem Gr.set8 {B : Nat} {w : World} {x : Ls UInt8} (h : Gr kU8 B w x) {r : Nat} (hr : r < x.l.length) (v : UInt8) :
    ∃ g, x.A = some ⟨g, 0, none⟩ ∧ B ≤ g ∧ g < w.heap.size ∧ (∃ u, w.cell? ⟨g, r, none⟩ = some u) ∧ w.frozen? ⟨g, r, none⟩ = false ∧ Gr kU8 B (w.setCell ⟨g, r, none⟩ (.int .u8 (v.toNat : Int))) ⟨x.l.set r v, x.A, x.c⟩ := by
  have h8 := h.to8
  have hlt := h.lt
  obtain ⟨l, A, c⟩ := x
  have hr : r < l.length := hr
  obtain ⟨h1, h2⟩ := h8
  rcases h2 with ⟨_, h0⟩ | ⟨g, cap, cur, e, hg, hh, hn, hm, hsz, htk⟩
  · have h0 : l.length = 0 := h0; omega
  · have hn : l.length ≤ cap := hn
    have e' : Value.slice A l.length c = .slice (some ⟨g, 0, none⟩) l.length cap := e
    injection e' with e1 _ e3
    subst e1 e3
    have hgs := (hlt g rfl).2
    have htk : cur.toList.take (l.length * 1) = u8s l := htk
    rw [Nat.mul_one] at htk hsz
    refine ⟨g, rfl, hg, hgs, ?_, ?_, ?_⟩
    · have hb : Blk w g 5 cur := hh
      exact ⟨_, (hb.cell r).trans (Array.getElem?_eq_getElem (by rw [hsz]; omega))⟩
    · have hb : Blk w g 5 cur := hh
      exact hb.frozen r
    · refine (Gr.of8 (n := l.length) ⟨by rw [u8s_len, List.length_set, Nat.mul_one], .inr ⟨g, c, cur.setIfInBounds r (.int .u8 (v.toNat : Int)), rfl, hg, ?_, hn, hm, ?_, ?_⟩⟩).2
      · exact heap_setCell_same w g r cur _ _ hh
      · rw [Array.size_setIfInBounds, Nat.mul_one]; exact hsz
      · rw [Nat.mul_one, u8s_set, ← htk, ← take_set _ _ _ _ hr, Array.toList_setIfInBounds]
end Ot
end Go.Proofs.YtkicjjcangkneaaGreatDoor

/-
  What is put is got; of bytes that are got, there is no other row (P11.3, P11.5): 'huddlelaw11.OpRound' returns true.
-/
namespace Go.Proofs.YtkicjjcangkneaaGreatDoor
open Go.RowKit
set_option linter.unusedSimpArgs false
set_option linter.unusedVariables false
attribute [local go_sem ↓] Go.wp_at_zero Go.wp_at_succ
set_option maxRecDepth 100000
namespace Ot
/-- A new list without an item. -/
theorem gr_empty {α : Type} (K : Kd α) {B : Nat} (w : World) (hB : B ≤ w.heap.size) : Gr K B (w.alloc (.cells #[] K.ty)) ⟨[], some ⟨w.heap.size, 0, none⟩, 0⟩ :=
  ⟨by rw [K.cells_len], .inr ⟨w.heap.size, 0, #[], rfl, hB, heap_alloc_new w _, Nat.le_refl _, by unfold maxLen; omega, by simp, by simp [K.cells_nil]⟩⟩
theorem Lz.beyond {α : Type} {K : Kd α} {F : Nat → Prop} {w : World} {x : Ls α} (h : Lz K F w x) {n : Nat} (hn : w.heap.size ≤ n) : Lz K (fun k => n ≤ k) w x := h.no.weak fun k hk hf => by have hf : n ≤ k := hf; omega
theorem put_head (o : Er) : ∃ R, put o = Pk.nInt o.by_ ++ (Pk.nInt o.seq ++ R) := ⟨_, by unfold put con; rw [List.append_assoc, List.append_assoc]⟩
theorem put_pos (o : Er) : 0 < (put o).length := by
  obtain ⟨R, h⟩ := put_head o
  have := Pk.num_pos (Pk.zig o.by_)
  rw [h, List.length_append]
  unfold Pk.nInt
  omega

theorem Lz.src {α : Type} {K : Kd α} {F : Nat → Prop} {w : World} {l : List α} {ad : Addr} {c : Nat} (h : Lz K F w ⟨l, some ad, c⟩) : ∀ j u, (K.cells l)[j]? = some u → w.cell? (ad.add j) = some u := by
  intro j u hu
  have hp : 0 < l.length := by
    have := (List.getElem?_eq_some_iff.1 hu).1
    rw [K.cells_len] at this
    rcases Nat.eq_zero_or_pos l.length with h0 | h0
    · rw [h0, Nat.zero_mul] at this; omega
    · exact h0
  obtain ⟨b, off, e, _, _, hc⟩ := h.rd hp
  have e : some ad = some ⟨b, off, none⟩ := e
  injection e with e
  subst e
  rw [Addr.add_lit]
  exact hc j u hu
theorem one_new {F : Nat → Prop} (w : World) (c : UInt8) (hF : ¬ F w.heap.size) : Lz kU8 F (w.alloc (.cells #[.int .u8 (c.toNat : Int)] 5)) ⟨[c], some ⟨w.heap.size, 0, none⟩, 1⟩ :=
  ⟨fun _ => ⟨w.heap.size, 0, rfl, by simp, hF, fun i u hu => by
    have := cell_new w #[.int .u8 (c.toNat : Int)] 5 i u hu
    rw [Addr.add_lit] at this
    exact this⟩, Nat.le_refl 1, fun h => nomatch h⟩
theorem wpList_build_zero_on {ops : Array Oper} {rest : List Oper} {op : Oper} {a : Act} {w : World} {Q : Exit → Act → World → Prop} (hw : Region.wanted op (yielded ops a.tmps) = true) (ho : op.op = .build 35 #[])
    (h : wpList Tryz.prog ops Q rest (a.put op.dst LOp.zero.v) w) : wpList Tryz.prog ops Q (op :: rest) a w :=
  wpList_step fun K hK => by
    rw [if_pos hw]
    have e := build_zero w a.eval ho
    unfold Oper.wp
    rw [e]
    exact hK _ _ h
theorem few_ls {w : World} (x : Ls UInt8) (hx : Lz kU8 No w x) :
    Calls Tryz.prog 23 #[x.v, .int .i64 40] w fun e w' => ∃ z : Ls UInt8, e = .returned (.slice z.A z.l.length z.c) ∧ z.l = x.l.take 40 ∧ Gr kU8 w.heap.size w' z ∧ Below w.heap.size w w' := by
  obtain ⟨l, A, c⟩ := x
  refine (few_any l A l.length c 40 w rfl hx.cap (by omega) hx.rd8 hx.nil).mono ?_
  rintro e w' ⟨A', c', rfl, hg, hb⟩
  obtain ⟨h1, h2⟩ := Gr.of8 hg
  exact ⟨⟨l.take 40, A', c'⟩, by rw [h1], rfl, h2, hb⟩
def pick4 (a b c d : Ls UInt8) : Nat → Ls UInt8
  | 0 => a
  | 1 => b
  | 2 => c
  | _ => d
/-- The four rows of bytes. -/
def All4 (lo : Nat) (w0 w : World) (t : Value) : Prop := ∃ (G : Nat) (y : Nat → Ls UInt8), t = .slice (some ⟨G, 0, none⟩) 4 4 ∧ Blk w G 28 #[(y 0).v, (y 1).v, (y 2).v, (y 3).v] ∧ (∀ i, i < 4 → Lz kU8 No w (y i)) ∧ (∀ i, i < 4 → (y i).l.length ≤ 40000) ∧ Below lo w0 w
theorem all4 {w0 w : World} {a b c d : Ls UInt8} {va vb vc vd : Value} (ea : va = a.v) (eb : vb = b.v) (ec : vc = c.v) (ed : vd = d.v) (ha : Lz kU8 No w a) (hb : Lz kU8 No w b) (hc : Lz kU8 No w c) (hd : Lz kU8 No w d)
    (la : a.l.length ≤ 40000) (lb : b.l.length ≤ 40000) (lc : c.l.length ≤ 40000) (ld : d.l.length ≤ 40000) (h : Below w0.heap.size w0 w) : All4 w0.heap.size w0 (w.alloc (.cells #[va, vb, vc, vd] 28)) (.slice (some ⟨w.heap.size, 0, none⟩) 4 4) := by
  subst ea eb ec ed
  have e := Bf.alloc (F := No) w (.cells #[a.v, b.v, c.v, d.v] 28)
  refine ⟨w.heap.size, pick4 a b c d, rfl, blk_new w _ _, fun i hi => ?_, fun i hi => ?_, h.alloc h.size _⟩
  · rcases (by omega : i = 0 ∨ i = 1 ∨ i = 2 ∨ i = 3) with rfl | rfl | rfl | rfl
    · exact ha.bf e
    · exact hb.bf e
    · exact hc.bf e
    · exact hd.bf e
  · rcases (by omega : i = 0 ∨ i = 1 ∨ i = 2 ∨ i = 3) with rfl | rfl | rfl | rfl
    · exact la
    · exact lb
    · exact lc
    · exact ld
theorem cell4 {w : World} {G : Nat} {y : Nat → Ls UInt8} (h : Blk w G 28 #[(y 0).v, (y 1).v, (y 2).v, (y 3).v]) {k : Nat} (hk : k < 4) : w.cell? ⟨G, k, none⟩ = some (y k).v := by
  rcases (by omega : k = 0 ∨ k = 1 ∨ k = 2 ∨ k = 3) with rfl | rfl | rfl | rfl
  · exact h.cell 0
  · exact h.cell 1
  · exact h.cell 2
  · exact h.cell 3

set_option maxHeartbeats 8000000 in
theorem round_any {w : World} (l : Ls Int) (how n at_ : Int) (c : UInt8) (x : Ls UInt8) (hl : Lz kInt No w l) (hok : ∀ y ∈ l.l, i64 y) (hln : l.l.length ≤ 9223372036854775807) (hhow : i64 how) (hn : i64 n) (hat : i64 at_) (hx : Lz kU8 No w x) (hxn : x.l.length ≤ 9223372036854775807) (hk : Kds w) :
    Calls Tryz.prog 5 #[l.v, .int .i64 how, .int .i64 n, .int .i64 at_, .int .u8 (c.toNat : Int), x.v] w fun e w' => e = .returned (.bool true) ∧ Below w.heap.size w w' := by
  obtain ⟨uz, huz⟩ : ∃ u : Nat, (u : Int) = IntKind.u64.wrap n := ⟨(IntKind.u64.wrap n).toNat, Int.toNat_of_nonneg (by rw [IntKind.wrap_u64]; omega)⟩
  have hu : u64 uz := by have := huz; rw [IntKind.wrap_u64] at this; show uz < _; omega
  have HOP := Lib.hid (op_any l hl hok hln)
  have HX := Lib.hid hx
  have HXN := Lib.hid hxn
  have HK := Lib.hid hk
  have HHN := Lib.hid (And.intro hhow hn)
  have HAT := Lib.hid hat
  have HU := Lib.hid hu
  have HUZ := Lib.hid huz
  clear hl hok hln hhow hn hat hx hxn hk hu huz
  go_enter Tryz.func5, Tryz.ntmps5
  go_upto_region 1 with fail
  go_wp2_with fail
  refine (HOP.out).mono ?_
  rintro e w1 ⟨o, rfl, hg, hlo, hb1⟩
  have HBT := Lib.hid (bent_any o hlo hg.tiny 7 (by omega) hg.roomy how n HHN.out.1 HHN.out.2)
  have HB1 := Lib.hid hb1
  clear hg hlo hb1 HOP
  go_wp2_with fail
  refine (HBT.out).mono ?_
  rintro e w2 ⟨a0, rfl, hla, hta, -, hb2⟩
  have HB2 := Lib.hid (HB1.out.trans (hb2.mono HB1.out.size))
  have HVZ := Lib.hid (Vr.new w2 LOp.zero)
  have HVN := Lib.hid (var_new w2 a0)
  have HLA := Lib.hid (var_lies (F := fun k => w2.heap.size ≤ k) (hla.weak fun k hk hf => by have hf : w2.heap.size ≤ k := hf; omega) LOp.zero a0)
  have HS2 := Lib.hid HB2.out.size
  have HB3 := Lib.hid (HB2.out.trans (var_below w2 LOp.zero a0 HB2.out.size))
  have HT0 := Lib.hid (hta.sig (r := 5) (by show (5 : Nat) < _; omega) HU.out)
  clear hla hta hb2 HBT HB1 HB2
  go_upto_region 2 with (refine wpList_store_op (o' := a0) rfl _ _ rfl rfl rfl HVZ.out ?_)
  rw [zc]
  obtain ⟨V1, hV1⟩ : ∃ V1, V1 = w2.heap.size := ⟨_, rfl⟩
  obtain ⟨w3, hw3⟩ : ∃ w3, w3 = (w2.alloc (.cells LOp.zero.cells 35)).setRow w2.heap.size a0.cells := ⟨_, rfl⟩
  rw [← hw3] at HVN HLA HB3 ⊢
  rw [← hV1] at HVN HLA HS2 ⊢
  clear hw3 hV1 HVZ
  have HBB := Lib.hid (show ∃ b : LOp, b = { a0 with r := 5, s := uz } from ⟨_, rfl⟩)
  have hz := HUZ.out.symm
  go_upto_region 3 with (refine wpList_store_sig rfl (.tmp 31) (.tmp 30) rfl (r := 5) (s := uz) rfl rfl HVN.out ?_; intro w4 hv4 hg4; have HV4 := Lib.hid hv4; have HL4 := Lib.hid (HLA.out.bf (Bf.grown hg4 fun g eg => by injection eg with eg; exact Nat.le_of_eq eg)).no; have HB4 := Lib.hid (HB3.out.grown hg4 HB3.out.size fun g eg => by injection eg with eg; rw [← eg]; exact HS2.out); clear hv4 hg4)
  obtain ⟨a, ha⟩ := HBB.out
  rw [← ha] at HV4
  have HTA := Lib.hid (show Tiny a.er from ha ▸ HT0.out)
  have HLA4 := Lib.hid (show Lies No w4 a from ha ▸ (HL4.out.sig 5 uz))
  clear ha HBB HT0 HL4 HVN HLA HB3 hz HUZ HU
  have HP := Lib.hid (put_any a HLA4.out HTA.out.small HTA.out.put9)
  go_upto_region 3 with (refine wpList_load_op rfl _ rfl rfl HV4.out ?_)
  go_wp2_with (refine wpList_load_op rfl _ rfl rfl HV4.out ?_)
  refine (HP.out).mono ?_
  rintro e w5 ⟨b, rfl, hbl, hgr, hb5⟩
  have HV5 := Lib.hid (HV4.out.below hb5 (Blk.lt HV4.out))
  have HL5 := Lib.hid (HLA4.out.below hb5)
  have HB5 := Lib.hid (HB4.out.trans (hb5.mono HB4.out.size))
  have HBL := Lib.hid hbl
  have HBR := Lib.hid (hgr.lz (F := No) fun _ h => h.elim)
  have HPOS := Lib.hid (show 0 < b.l.length by rw [hbl]; exact put_pos a.er)
  have HLEN := Lib.hid (show b.l.length ≤ 30000 by rw [hbl]; exact put_len HTA.out)
  have HG := Lib.hid (get_any b HBR.out (Nat.le_trans HLEN.out (by omega)))
  have HW0 := Lib.hid (show wrong b.l = 0 from hbl ▸ (wrong_put a.er HTA.out.ok).1)
  have HPO := Lib.hid (show (pOp b.l).v = a.er from hbl ▸ (wrong_put a.er HTA.out.ok).2)
  clear hbl hgr hb5 HV4 HLA4 HB4 HP
  go_wp2_with fail
  refine (HG.out).mono ?_
  rintro e w6 ⟨y, rfl, hly, -, h0, -, hb6⟩
  rw [HW0.out]
  have HVZ6 := Lib.hid (Vr.new w6 LOp.zero)
  have HVN6 := Lib.hid (var_new w6 y)
  have HV6 := Lib.hid (HV5.out.below hb6 (Blk.lt HV5.out))
  have HVA := Lib.hid (var_far HV6.out LOp.zero y)
  have HLTA := Lib.hid (Blk.lt HV6.out)
  have HLY := Lib.hid (var_lies (F := fun k => w6.heap.size ≤ k) (hly.weak fun k hk hf => by have hf : w6.heap.size ≤ k := hf; omega) LOp.zero y)
  have HLA7 := Lib.hid (var_lies (F := fun k => w6.heap.size ≤ k) ((HL5.out.below hb6).weak fun k hk hf => by have hf : w6.heap.size ≤ k := hf; omega) LOp.zero y)
  have hB6 := HB5.out.trans (hb6.mono HB5.out.size)
  have HB7 := Lib.hid (hB6.trans (var_below w6 LOp.zero y hB6.size))
  have HB67 := Lib.hid (hb6.trans (var_below w6 LOp.zero y hb6.size))
  have HYA := Lib.hid (show y.er = a.er from (h0 HW0.out).trans HPO.out)
  clear hly h0 hb6 HG HV5 HL5 HB5 HPO hB6 HW0
  go_upto_region 5 with (refine wpList_store_op (o' := y) rfl _ _ rfl rfl rfl HVZ6.out ?_)
  rw [zc]
  obtain ⟨V2, hV2⟩ : ∃ V2, V2 = w6.heap.size := ⟨_, rfl⟩
  obtain ⟨w7, hw7⟩ : ∃ w7, w7 = (w6.alloc (.cells LOp.zero.cells 35)).setRow w6.heap.size y.cells := ⟨_, rfl⟩
  rw [← hw7] at HVN6 HVA HLY HLA7 HB7 HB67 ⊢
  rw [← hV2] at HVN6 HLY HLA7 HLTA ⊢
  clear hw7 HVZ6 HV6
  have HBR7 := Lib.hid (HBR.out.bf (F := No) (Bf.below HB67.out))
  have HSM := Lib.hid (sameop_any y a HLY.out.no HLA7.out.no (HYA.out ▸ HTA.out) HTA.out)
  clear HB67 HBR hV2
  have hne : ((b.l.length : Int) == 0) = false := by rw [beq_eq_false_iff_ne]; have := HPOS.out; omega
  go_wp2_with (first | (refine wpList_load_op_on rfl _ rfl rfl HVN6.out ?_) | (refine wpList_load_op_on rfl _ rfl rfl HVA.out ?_))
  refine (HSM.out).mono ?_
  rintro e w8 ⟨rfl, hb8⟩
  rw [HYA.out, decide_eq_true rfl]
  go_wp2_with fail
  have HB8 := Lib.hid (HB7.out.trans (hb8.mono HB7.out.size))
  have HBR8 := Lib.hid (HBR7.out.bf (F := No) (Bf.below hb8))
  clear hb8 HSM HBR7 HB7 HVN6 HVA HLY HLA7 HLTA HYA HS2 hne
  obtain ⟨bl, bA, bc⟩ := b
  obtain ⟨bb, boff, hbA, -⟩ := HBR8.out.rd HPOS.out
  have hbA : bA = some ⟨bb, boff, none⟩ := hbA
  subst hbA
  obtain ⟨m, hm⟩ : ∃ m, m = bl.length := ⟨_, rfl⟩
  have hbv : (Ls.v ⟨bl, some ⟨bb, boff, none⟩, bc⟩ : Value) = .slice (some ⟨bb, boff, none⟩) m bc := by rw [hm]; rfl
  rw [hbv]
  try rw [show (Ls.mk bl (some ⟨bb, boff, none⟩) bc).l.length = m from hm.symm]
  have hpos : 0 < m := by have h := HPOS.out; rw [hm]; exact h
  have hlen : m ≤ 30000 := by have h := HLEN.out; rw [hm]; exact h
  have HN := Lib.hid hm
  have hr := aro_lt at_ hpos
  obtain ⟨r, hre⟩ : ∃ r, r = aro at_ m := ⟨_, rfl⟩
  rw [← hre] at hr
  have HAR := Lib.hid (fun W => aro_any at_ m W HAT.out hpos (by omega))
  rw [← hre] at HAR
  clear hm hbv hre HPOS HLEN
  go_wp2_with fail
  refine (HAR.out _).mono ?_
  rintro e w9 ⟨rfl, rfl⟩
  have HEM := Lib.hid (gr_empty kU8 (B := w8.heap.size) w8 (Nat.le_refl _))
  have HBV := Lib.hid (show Value.slice (some ⟨bb, boff, none⟩) m bc = Ls.v ⟨bl, some ⟨bb, boff, none⟩, bc⟩ by rw [HN.out]; rfl)
  have HBRE := Lib.hid (HBR8.out.bf (Bf.alloc w8 (.cells #[] 5)))
  clear HAR
  go_upto_region 9 with (at_builtin; refine wpList_push_ls ki_u8 rfl _ _ rfl w8.heap.size ⟨[], some ⟨w8.heap.size, 0, none⟩, 0⟩ ⟨bl, some ⟨bb, boff, none⟩, bc⟩ HEM.out rfl HBRE.out HBV.out (by show 0 + bl.length ≤ _; rw [← HN.out]; omega) (by simp) ?_; intro od w10 hod hgod hb10 _; have HOD := Lib.hid hod; have HGO := Lib.hid hgod; have HB10 := Lib.hid hb10; clear hod hgod hb10)
  have hodl : od.l = bl := HOD.out
  have hrl : r < od.l.length := by rw [hodl, ← HN.out]; exact hr
  obtain ⟨g, hgA, hgB, hgs, ⟨u, hgu⟩, hgf, hset⟩ := HGO.out.set8 hrl c
  have HSET := Lib.hid hset
  have HGB := Lib.hid (And.intro hgB hgs)
  have hodv : od.v = .slice (some ⟨g, 0, none⟩) m od.c := by
    show Value.slice od.A od.l.length od.c = _
    rw [hgA, hodl, HN.out]
  have HODL := Lib.hid hodl
  have HODV := Lib.hid hodv
  rw [hodv]
  clear hset hgB hgs hgA hodl hodv hrl HEM HBRE
  have q0_ : (0 : Int) ≤ (r : Int) := by omega
  have q1_ : (r : Int) < (m : Int) := by omega
  have hb11 : Below w8.heap.size w8 (w10.setCell ⟨g, r, none⟩ (.int .u8 (c.toNat : Int))) := ((((Below.refl _ w8).alloc (Nat.le_refl _) (.cells #[] 5)).trans HB10.out).setCell HGB.out.1 _)
  obtain ⟨y0, hy0⟩ : ∃ y0 : Ls UInt8, y0 = ⟨od.l.set r c, od.A, od.c⟩ := ⟨_, rfl⟩
  have HY0V := Lib.hid (show (Value.slice (some ⟨g, 0, none⟩) m od.c) = y0.v from by rw [hy0, ← HODV.out]; show Value.slice od.A od.l.length od.c = .slice od.A (od.l.set r c).length od.c; rw [List.length_set])
  have HY0L := Lib.hid (show y0.l.length ≤ 40000 from by rw [hy0]; show (od.l.set r c).length ≤ 40000; rw [List.length_set, HODL.out, ← HN.out]; omega)
  have hy0g : Gr kU8 w8.heap.size (w10.setCell ⟨g, r, none⟩ (.int .u8 (c.toNat : Int))) y0 := hy0 ▸ HSET.out
  clear hy0
  have hbr := HBR8.out.bf (F := No) (Bf.below hb11)
  obtain ⟨y1, hy1⟩ : ∃ y1 : Ls UInt8, y1 = ⟨bl.take r, some ⟨bb, boff, none⟩, bc⟩ := ⟨_, rfl⟩
  have HY1V := Lib.hid (show (Value.slice (some ⟨bb, boff, none⟩) r bc) = y1.v from by rw [hy1]; show _ = Value.slice _ (bl.take r).length _; rw [List.length_take, ← HN.out, Nat.min_eq_left (by omega)])
  have HY1L := Lib.hid (show y1.l.length ≤ 40000 from by rw [hy1]; show (bl.take r).length ≤ 40000; rw [List.length_take, ← HN.out]; omega)
  have hy1z : Lz kU8 No (w10.setCell ⟨g, r, none⟩ (.int .u8 (c.toNat : Int))) y1 := hy1 ▸ hbr.take r
  clear hy1
  have hcap : m ≤ bc := by have h := hbr.cap; rw [HN.out]; exact h
  have hsl := fun W => slice_head 28 (by kernel_rfl) (fun W => by kernel_rfl) (some ⟨bb, boff, none⟩) m bc r (by omega) W
  have hbel11 : Below w.heap.size w (w10.setCell ⟨g, r, none⟩ (.int .u8 (c.toNat : Int))) := HB8.out.trans (hb11.mono HB8.out.size)
  have HX11 := Lib.hid (HX.out.bf (F := No) (Bf.below hbel11))
  go_upto_region 10 with fail
  obtain ⟨w11, hw11⟩ : ∃ w11, w11 = w10.setCell ⟨g, r, none⟩ (.int .u8 (c.toNat : Int)) := ⟨_, rfl⟩
  rw [← hw11] at hy0g hbr hy1z hbel11 HX11 ⊢
  have HY0G := Lib.hid hy0g
  have HBR11 := Lib.hid hbr
  have HY1Z := Lib.hid hy1z
  have HB11 := Lib.hid hbel11
  clear hw11 hy0g hbr hy1z hbel11 hb11 HSET HBR8 HGO HOD HODL HODV HB10 HBV HX hgu hgf HGB
  go_cut [19] (fun t wx => All4 w.heap.size w wx t)
  case first =>
    refine wp_region_held_drew (S := fun _ => True) (by kernel_rfl) trivial (fun hHeld => ?_)
    try simp only [Act.put, List.getElem_toArray, List.getElem_cons_succ, List.getElem_cons_zero, List.setIfInBounds_toArray, List.set_cons_zero, List.set_cons_succ]
    obtain ⟨wd, hwd⟩ : ∃ wd, wd = w11.drew := ⟨_, rfl⟩
    rw [← hwd]
    obtain ⟨N, hN⟩ : ∃ N, N = wd.heap.size := ⟨_, rfl⟩
    have hsz : w11.heap.size ≤ N := by rw [hN, hwd]; exact Nat.le_refl _
    have hdr : Bf No w11 wd := hwd ▸ Bf.drew w11
    have HY0a := Lib.hid (((HY0G.out.lz (F := No) (fun _ h => h.elim)).bf (F := No) hdr).beyond (n := N) (by omega))
    have HY1a := Lib.hid ((HY1Z.out.bf (F := No) hdr).beyond (n := N) (by omega))
    have HBRa := Lib.hid ((HBR11.out.bf (F := No) hdr).beyond (n := N) (by omega))
    have HXa := Lib.hid ((HX11.out.bf (F := No) hdr).beyond (n := N) (by omega))
    have HBa := Lib.hid (show Below w.heap.size w wd from hwd ▸ HB11.out.trans (below_drewN w11 1 w.heap.size))
    have HNa := Lib.hid (show N ≤ wd.heap.size from by omega)
    have HWN := Lib.hid (show w.heap.size ≤ N from by rw [hN]; exact HBa.out.size)
    clear hwd hN hsz hdr HY0G HY1Z HBR11 HX11 HB11
    refine wpAnyH_take (i := 0) (v := ?_) rfl (by kernel_rfl) (by kernel_rfl) (by kernel_rfl) (fun _ _ _ h => h) (Or.inl ⟨by rfl, ?_⟩) (by trivial) ?_
    rotate_left
    · (intro w hSw; clear hSw; go_simp; try (with_reducible rfl))
    try simp only [Act.put, List.getElem_toArray, List.getElem_cons_zero, List.setIfInBounds_toArray, List.set_cons_zero, List.set_cons_succ]
    refine wpAnyH_take (i := 1) (v := ?_) rfl (by kernel_rfl) (by kernel_rfl) (by kernel_rfl) (fun _ _ _ h => h) (Or.inl ⟨by rfl, ?_⟩) (by trivial) ?_
    rotate_left
    · (intro w hSw; clear hSw; go_simp; try (with_reducible rfl))
    try simp only [Act.put, List.getElem_toArray, List.getElem_cons_succ, List.getElem_cons_zero, List.setIfInBounds_toArray, List.set_cons_zero, List.set_cons_succ]
    refine wpAnyH_take (i := 2) (v := ?_) rfl (by kernel_rfl) (by kernel_rfl) (by kernel_rfl) (fun _ _ _ h => h) (Or.inl ⟨by rfl, ?_⟩) (by trivial) ?_
    rotate_left
    · (intro w hSw; clear hSw; go_simp; try (with_reducible rfl))
    try simp only [Act.put, List.getElem_toArray, List.getElem_cons_succ, List.getElem_cons_zero, List.setIfInBounds_toArray, List.set_cons_zero, List.set_cons_succ]
    refine wpAnyH_take (i := 3) (v := ?_) rfl (by kernel_rfl) (by kernel_rfl) (by kernel_rfl) (fun _ _ _ h => h) (Or.inl ⟨by rfl, ?_⟩) (by trivial) ?_
    rotate_left
    · (intro w hSw; clear hSw; go_simp; try (with_reducible rfl))
    try simp only [Act.put, List.getElem_toArray, List.getElem_cons_succ, List.getElem_cons_zero, List.setIfInBounds_toArray, List.set_cons_zero, List.set_cons_succ]
    refine wpAnyH_take (i := 4) (v := ?_) rfl (by kernel_rfl) (by kernel_rfl) (by kernel_rfl) (fun _ _ _ h => h) (Or.inl ⟨by rfl, ?_⟩) (by trivial) ?_
    rotate_left
    · (intro w hSw; clear hSw; go_simp; try (with_reducible rfl))
    try simp only [Act.put, List.getElem_toArray, List.getElem_cons_succ, List.getElem_cons_zero, List.setIfInBounds_toArray, List.set_cons_zero, List.set_cons_succ]
    refine wpAnyH_take (i := 7) (v := ?_) rfl (by kernel_rfl) (by kernel_rfl) (by kernel_rfl) (fun _ _ _ h => h) (Or.inl ⟨by rfl, ?_⟩) (by trivial) ?_
    rotate_left
    · (intro w hSw; clear hSw; go_simp; try (with_reducible rfl))
    try simp only [Act.put, List.getElem_toArray, List.getElem_cons_succ, List.getElem_cons_zero, List.setIfInBounds_toArray, List.set_cons_zero, List.set_cons_succ]
    refine wpAnyH_take (i := 9) (v := ?_) rfl (by kernel_rfl) (by kernel_rfl) (by kernel_rfl) (fun _ _ _ h => h) (Or.inl ⟨by rfl, ?_⟩) (by trivial) ?_
    rotate_left
    · (intro w hSw; clear hSw; go_simp; try (with_reducible rfl))
    try simp only [Act.put, List.getElem_toArray, List.getElem_cons_succ, List.getElem_cons_zero, List.setIfInBounds_toArray, List.set_cons_zero, List.set_cons_succ]
    refine wpAnyH_ready (rs := [5, 6, 10]) (by kernel_rfl) (by simp) ?_
    refine AllReadyH.cons rfl (fun K hK => ?_) (AllReadyH.cons rfl (fun K hK => ?_) (AllReadyH.cons rfl (fun K hK => ?_) AllReadyH.nil))
    · skip
      go_simp
      have HC := Lib.hid (few_ls (w := wd) x (HXa.out.no))
      refine (HC.out).mono ?_
      rintro e x1 ⟨y2, rfl, hy2l, hgy, hb⟩
      have HY2L := Lib.hid (show y2.l.length ≤ 40000 from by rw [hy2l, List.length_take]; omega)
      have HY2n := Lib.hid (hgy.lz (F := No) (fun _ h => h.elim))
      have KY02 := Lib.hid (HY0a.out.bf (F := fun k => N ≤ k) (Bf.below hb))
      have KY13 := Lib.hid (HY1a.out.bf (F := fun k => N ≤ k) (Bf.below hb))
      have KBR4 := Lib.hid (HBRa.out.bf (F := fun k => N ≤ k) (Bf.below hb))
      have KB5 := Lib.hid (HBa.out.trans (hb.mono HBa.out.size))
      have KN6 := Lib.hid (Nat.le_trans HNa.out hb.size)
      clear HY0a HY1a HBRa HBa HNa
      clear hb hy2l hgy HC HXa
      try go_simp
      refine hK.out _ _ trivial (fun _ => ?_)
      clear hK K
      try simp only [Act.put, List.getElem_toArray, List.getElem_cons_succ, List.getElem_cons_zero, List.setIfInBounds_toArray, List.set_cons_zero, List.set_cons_succ]
      refine wpAnyH_ready (rs := [6, 10]) (by kernel_rfl) (by simp) ?_
      refine AllReadyH.cons rfl (fun K hK => ?_) (AllReadyH.cons rfl (fun K hK => ?_) AllReadyH.nil)
      · skip
        go_simp
        have hb := (Below.refl _ x1).alloc (Nat.le_refl _) (.cells #[] 5)
        have hem : Gr kU8 x1.heap.size (x1.alloc (.cells #[] 5)) ⟨[], some ⟨x1.heap.size, 0, none⟩, 0⟩ := gr_empty kU8 (B := x1.heap.size) x1 (Nat.le_refl _)
        refine hK.out _ _ trivial (fun _ => ?_)
        clear hK K
        try simp only [Act.put, List.getElem_toArray, List.getElem_cons_succ, List.getElem_cons_zero, List.setIfInBounds_toArray, List.set_cons_zero, List.set_cons_succ]
        obtain ⟨gE, hgE⟩ : ∃ gE, gE = x1.heap.size := ⟨_, rfl⟩
        have PY28 := Lib.hid ((HY2n.out.beyond (n := x1.heap.size) (Nat.le_refl _)).weak (G := fun k => k = gE) (fun k _ h => by have h : k = gE := h; show x1.heap.size ≤ k; omega))
        clear HY2n
        obtain ⟨x7, hw2⟩ : ∃ u, u = x1.alloc (.cells #[] 5) := ⟨_, rfl⟩
        rw [← hw2] at hb hem ⊢
        have HNG := Lib.hid (show N ≤ gE from hgE ▸ KN6.out)
        have HGL0 := Lib.hid (show gE < x7.heap.size from by rw [hgE, hw2]; first | (simp; done) | exact Nat.lt_succ_self _)
        rw [← hgE] at hem ⊢
        have HEM0 := Lib.hid hem
        clear hw2 hem
        have KY09 := Lib.hid (KY02.out.bf (F := fun k => N ≤ k) (Bf.below hb))
        have KY110 := Lib.hid (KY13.out.bf (F := fun k => N ≤ k) (Bf.below hb))
        have KBR11 := Lib.hid (KBR4.out.bf (F := fun k => N ≤ k) (Bf.below hb))
        have KB12 := Lib.hid (KB5.out.trans (hb.mono KB5.out.size))
        have KN13 := Lib.hid (Nat.le_trans KN6.out hb.size)
        have KY214 := Lib.hid (PY28.out.bf (F := fun k => k = gE) (Bf.below hb))
        clear KY02 KY13 KBR4 KB5 KN6 PY28
        clear hb hgE
        refine wpAnyH_ready (rs := [8, 10]) (by kernel_rfl) (by simp) ?_
        refine AllReadyH.cons rfl (fun K hK => ?_) (AllReadyH.cons rfl (fun K hK => ?_) AllReadyH.nil)
        · skip
          refine step_push1 ki_u8 rfl (.tmp 69) (.tmp 70) rfl gE ⟨[], some ⟨gE, 0, none⟩, 0⟩ HEM0.out rfl ⟨bb, boff, none⟩ m bc bl rfl HN.out hpos KBR11.out.src (by show 0 + bl.length ≤ _; rw [← HN.out]; omega) (Nat.le_of_lt HGL0.out) ?_
          intro z8 x15 hz8 hgz8 hgw hloc
          have HZL := Lib.hid (show z8.l = bl from hz8)
          have HZ0 := Lib.hid hgz8
          obtain ⟨n8, hn8⟩ : ∃ n8, n8 = x7.heap.size := ⟨_, rfl⟩
          have HLOC := Lib.hid (show ∀ k, z8.v.ownBlock = some k → k = gE ∨ n8 ≤ k from fun k e => by rcases hloc k e with h | h; exact .inl (by have h : some gE = some k := h; injection h with h; exact h.symm); exact .inr (hn8 ▸ h))
          have hgg : ∀ g, (Ls.v (⟨[], some ⟨gE, 0, none⟩, 0⟩ : Ls UInt8)).ownBlock = some g → g = gE := fun g e => by have e : some gE = some g := e; injection e with e; exact e.symm
          have HY2b := Lib.hid (((KY214.out).weak (G := fun k => k = gE ∨ n8 ≤ k) (fun k hk h => by have h : k = gE ∨ n8 ≤ k := h; show k = gE; omega)).bf (F := fun k => k = gE ∨ n8 ≤ k) (Bf.grown hgw fun g e => .inl (hgg g e)))
          clear KY214
          have KY016 := Lib.hid (KY09.out.bf (F := fun k => N ≤ k) (Bf.grown hgw fun g e => (by have := hgg g e; have := HNG.out; show N ≤ g; omega)))
          have KY117 := Lib.hid (KY110.out.bf (F := fun k => N ≤ k) (Bf.grown hgw fun g e => (by have := hgg g e; have := HNG.out; show N ≤ g; omega)))
          have KBR18 := Lib.hid (KBR11.out.bf (F := fun k => N ≤ k) (Bf.grown hgw fun g e => (by have := hgg g e; have := HNG.out; show N ≤ g; omega)))
          have KB19 := Lib.hid (KB12.out.grown hgw KB12.out.size fun g e => Nat.le_trans HWN.out ((by have := hgg g e; have := HNG.out; show N ≤ g; omega)))
          have KN20 := Lib.hid (Nat.le_trans KN13.out hgw.size)
          have KG21 := Lib.hid (Nat.lt_of_lt_of_le HGL0.out hgw.size)
          clear KY09 KY110 KBR11 KB12 KN13 HGL0
          clear hz8 hgz8 hgw hloc hn8 hgg HEM0
          rw [show z8.v = .slice z8.A z8.l.length z8.c from rfl]
          refine hK.out _ _ trivial (fun _ => ?_)
          clear hK K
          try simp only [Act.put, List.getElem_toArray, List.getElem_cons_succ, List.getElem_cons_zero, List.setIfInBounds_toArray, List.set_cons_zero, List.set_cons_succ]
          refine wpAnyH_ready (rs := [10]) (by kernel_rfl) (by simp) ?_
          refine AllReadyH.cons rfl (fun K hK => ?_) AllReadyH.nil
          go_simp
          have hb := (Below.refl _ x15).alloc (Nat.le_refl _) (.cells #[.int .u8 (c.toNat : Int)] 5)
          have hone : Lz kU8 (No) (x15.alloc (.cells #[.int .u8 (c.toNat : Int)] 5)) ⟨[c], some ⟨x15.heap.size, 0, none⟩, 1⟩ := one_new x15 c (fun h => h.elim)
          refine hK.out _ _ trivial (fun _ => ?_)
          clear hK K
          try simp only [Act.put, List.getElem_toArray, List.getElem_cons_succ, List.getElem_cons_zero, List.setIfInBounds_toArray, List.set_cons_zero, List.set_cons_succ]
          obtain ⟨n10, hn10⟩ : ∃ n10, n10 = x15.heap.size := ⟨_, rfl⟩
          obtain ⟨x22, hw2⟩ : ∃ u, u = x15.alloc (.cells #[.int .u8 (c.toNat : Int)] 5) := ⟨_, rfl⟩
          rw [← hw2] at hb hone ⊢
          rw [← hn10] at hone ⊢
          have HONE0 := Lib.hid hone
          clear hw2 hone hn10
          have KY023 := Lib.hid (KY016.out.bf (F := fun k => N ≤ k) (Bf.below hb))
          have KY124 := Lib.hid (KY117.out.bf (F := fun k => N ≤ k) (Bf.below hb))
          have KBR25 := Lib.hid (KBR18.out.bf (F := fun k => N ≤ k) (Bf.below hb))
          have KB26 := Lib.hid (KB19.out.trans (hb.mono KB19.out.size))
          have KN27 := Lib.hid (Nat.le_trans KN20.out hb.size)
          have KG28 := Lib.hid (Nat.lt_of_lt_of_le KG21.out hb.size)
          have KZ29 := Lib.hid (HZ0.out.below hb)
          have KY230 := Lib.hid (HY2b.out.bf (F := fun k => k = gE ∨ n8 ≤ k) (Bf.below hb))
          clear KY016 KY117 KBR18 KB19 KN20 KG21 HZ0 HY2b
          clear hb
          refine wpAnyH_ready (rs := [11]) (by kernel_rfl) (by simp) ?_
          refine AllReadyH.cons rfl (fun K hK => ?_) AllReadyH.nil
          refine step_push_ls ki_u8 rfl (.tmp 71) (.tmp 73) rfl gE z8 ⟨[c], some ⟨n10, 0, none⟩, 1⟩ KZ29.out rfl HONE0.out rfl (by rw [HZL.out, ← HN.out]; show m + 1 ≤ _; omega) (Nat.le_of_lt KG28.out) ?_
          intro y3 xl hy3 hgy3 hgw
          have hzN : ∀ g, z8.v.ownBlock = some g → N ≤ g := fun g e => Nat.le_trans HNG.out (KZ29.out.lt g e).1
          have h0 := KY023.out.bf (F := fun k => N ≤ k) (Bf.grown hgw hzN)
          have h1 := KY124.out.bf (F := fun k => N ≤ k) (Bf.grown hgw hzN)
          have h2 := KY230.out.bf (F := fun k => k = gE ∨ n8 ≤ k) (Bf.grown hgw HLOC.out)
          have h3 := hgy3.lz (F := No) (fun _ h => h.elim)
          have hl3 : y3.l.length ≤ 40000 := by rw [hy3, HZL.out, List.length_append, ← HN.out]; show m + 1 ≤ _; omega
          have hbl := KB26.out.grown hgw KB26.out.size fun g e => Nat.le_trans HWN.out (hzN g e)
          have HA := Lib.hid (all4 HY0V.out HY1V.out rfl rfl h0.no h1.no h2.no h3 HY0L.out HY1L.out HY2L.out hl3 hbl)
          clear h0 h1 h2 h3 hl3 hbl hzN hy3 hgy3 hgw
          rw [show y3.v = .slice y3.A y3.l.length y3.c from rfl]
          refine hK.out _ _ trivial (fun _ => ?_)
          clear hK K
          try simp only [Act.put, List.getElem_toArray, List.getElem_cons_succ, List.getElem_cons_zero, List.setIfInBounds_toArray, List.set_cons_zero, List.set_cons_succ]
          refine wpAnyH_ready (rs := [12]) (by kernel_rfl) (by simp) ?_
          refine AllReadyH.cons rfl (fun K hK => ?_) AllReadyH.nil
          go_simp
          refine hK.out _ _ trivial (fun _ => ?_)
          clear hK K
          try simp only [Act.put, List.getElem_toArray, List.getElem_cons_succ, List.getElem_cons_zero, List.setIfInBounds_toArray, List.set_cons_zero, List.set_cons_succ]
          refine wpAnyH_take (i := 13) (v := ?_) rfl (by kernel_rfl) (by kernel_rfl) (by kernel_rfl) (fun _ _ _ h => h) (Or.inl ⟨by rfl, ?_⟩) (by trivial) ?_
          rotate_left
          · (intro w hSw; clear hSw; go_simp; try (with_reducible rfl))
          try simp only [Act.put, List.getElem_toArray, List.getElem_cons_succ, List.getElem_cons_zero, List.setIfInBounds_toArray, List.set_cons_zero, List.set_cons_succ]
          refine wpAnyH_done (by kernel_rfl) ?_ _
          go_wp2_with fail
          go_meet
          exact HA.out
        · skip
          go_simp
          have hb := (Below.refl _ x7).alloc (Nat.le_refl _) (.cells #[.int .u8 (c.toNat : Int)] 5)
          have hone : Lz kU8 (fun k => k = gE) (x7.alloc (.cells #[.int .u8 (c.toNat : Int)] 5)) ⟨[c], some ⟨x7.heap.size, 0, none⟩, 1⟩ := one_new x7 c (fun h => by have h : x7.heap.size = gE := h; have := HGL0.out; omega)
          refine hK.out _ _ trivial (fun _ => ?_)
          clear hK K
          try simp only [Act.put, List.getElem_toArray, List.getElem_cons_succ, List.getElem_cons_zero, List.setIfInBounds_toArray, List.set_cons_zero, List.set_cons_succ]
          obtain ⟨n10, hn10⟩ : ∃ n10, n10 = x7.heap.size := ⟨_, rfl⟩
          obtain ⟨x31, hw2⟩ : ∃ u, u = x7.alloc (.cells #[.int .u8 (c.toNat : Int)] 5) := ⟨_, rfl⟩
          rw [← hw2] at hb hone ⊢
          rw [← hn10] at hone ⊢
          have HONE0 := Lib.hid hone
          clear hw2 hone hn10
          have KY032 := Lib.hid (KY09.out.bf (F := fun k => N ≤ k) (Bf.below hb))
          have KY133 := Lib.hid (KY110.out.bf (F := fun k => N ≤ k) (Bf.below hb))
          have KBR34 := Lib.hid (KBR11.out.bf (F := fun k => N ≤ k) (Bf.below hb))
          have KB35 := Lib.hid (KB12.out.trans (hb.mono KB12.out.size))
          have KN36 := Lib.hid (Nat.le_trans KN13.out hb.size)
          have KG37 := Lib.hid (Nat.lt_of_lt_of_le HGL0.out hb.size)
          have KE38 := Lib.hid (HEM0.out.below hb)
          have KY239 := Lib.hid (KY214.out.bf (F := fun k => k = gE) (Bf.below hb))
          clear KY09 KY110 KBR11 KB12 KN13 HGL0 HEM0 KY214
          clear hb
          refine wpAnyH_ready (rs := [8]) (by kernel_rfl) (by simp) ?_
          refine AllReadyH.cons rfl (fun K hK => ?_) AllReadyH.nil
          refine step_push1 ki_u8 rfl (.tmp 69) (.tmp 70) rfl gE ⟨[], some ⟨gE, 0, none⟩, 0⟩ KE38.out rfl ⟨bb, boff, none⟩ m bc bl rfl HN.out hpos KBR34.out.src (by show 0 + bl.length ≤ _; rw [← HN.out]; omega) (Nat.le_of_lt KG37.out) ?_
          intro z8 x40 hz8 hgz8 hgw hloc
          have HZL := Lib.hid (show z8.l = bl from hz8)
          have HZ0 := Lib.hid hgz8
          obtain ⟨n8, hn8⟩ : ∃ n8, n8 = x31.heap.size := ⟨_, rfl⟩
          have HLOC := Lib.hid (show ∀ k, z8.v.ownBlock = some k → k = gE ∨ n8 ≤ k from fun k e => by rcases hloc k e with h | h; exact .inl (by have h : some gE = some k := h; injection h with h; exact h.symm); exact .inr (hn8 ▸ h))
          have hgg : ∀ g, (Ls.v (⟨[], some ⟨gE, 0, none⟩, 0⟩ : Ls UInt8)).ownBlock = some g → g = gE := fun g e => by have e : some gE = some g := e; injection e with e; exact e.symm
          have HY2b := Lib.hid (((KY239.out).weak (G := fun k => k = gE ∨ n8 ≤ k) (fun k hk h => by have h : k = gE ∨ n8 ≤ k := h; show k = gE; omega)).bf (F := fun k => k = gE ∨ n8 ≤ k) (Bf.grown hgw fun g e => .inl (hgg g e)))
          clear KY239
          have HONEb := Lib.hid (HONE0.out.bf (F := fun k => k = gE) (Bf.grown hgw fun g e => hgg g e))
          clear HONE0
          have KY041 := Lib.hid (KY032.out.bf (F := fun k => N ≤ k) (Bf.grown hgw fun g e => (by have := hgg g e; have := HNG.out; show N ≤ g; omega)))
          have KY142 := Lib.hid (KY133.out.bf (F := fun k => N ≤ k) (Bf.grown hgw fun g e => (by have := hgg g e; have := HNG.out; show N ≤ g; omega)))
          have KBR43 := Lib.hid (KBR34.out.bf (F := fun k => N ≤ k) (Bf.grown hgw fun g e => (by have := hgg g e; have := HNG.out; show N ≤ g; omega)))
          have KB44 := Lib.hid (KB35.out.grown hgw KB35.out.size fun g e => Nat.le_trans HWN.out ((by have := hgg g e; have := HNG.out; show N ≤ g; omega)))
          have KN45 := Lib.hid (Nat.le_trans KN36.out hgw.size)
          have KG46 := Lib.hid (Nat.lt_of_lt_of_le KG37.out hgw.size)
          clear KY032 KY133 KBR34 KB35 KN36 KG37
          clear hz8 hgz8 hgw hloc hn8 hgg KE38
          rw [show z8.v = .slice z8.A z8.l.length z8.c from rfl]
          refine hK.out _ _ trivial (fun _ => ?_)
          clear hK K
          try simp only [Act.put, List.getElem_toArray, List.getElem_cons_succ, List.getElem_cons_zero, List.setIfInBounds_toArray, List.set_cons_zero, List.set_cons_succ]
          refine wpAnyH_ready (rs := [11]) (by kernel_rfl) (by simp) ?_
          refine AllReadyH.cons rfl (fun K hK => ?_) AllReadyH.nil
          refine step_push_ls ki_u8 rfl (.tmp 71) (.tmp 73) rfl gE z8 ⟨[c], some ⟨n10, 0, none⟩, 1⟩ HZ0.out rfl HONEb.out rfl (by rw [HZL.out, ← HN.out]; show m + 1 ≤ _; omega) (Nat.le_of_lt KG46.out) ?_
          intro y3 xl hy3 hgy3 hgw
          have hzN : ∀ g, z8.v.ownBlock = some g → N ≤ g := fun g e => Nat.le_trans HNG.out (HZ0.out.lt g e).1
          have h0 := KY041.out.bf (F := fun k => N ≤ k) (Bf.grown hgw hzN)
          have h1 := KY142.out.bf (F := fun k => N ≤ k) (Bf.grown hgw hzN)
          have h2 := HY2b.out.bf (F := fun k => k = gE ∨ n8 ≤ k) (Bf.grown hgw HLOC.out)
          have h3 := hgy3.lz (F := No) (fun _ h => h.elim)
          have hl3 : y3.l.length ≤ 40000 := by rw [hy3, HZL.out, List.length_append, ← HN.out]; show m + 1 ≤ _; omega
          have hbl := KB44.out.grown hgw KB44.out.size fun g e => Nat.le_trans HWN.out (hzN g e)
          have HA := Lib.hid (all4 HY0V.out HY1V.out rfl rfl h0.no h1.no h2.no h3 HY0L.out HY1L.out HY2L.out hl3 hbl)
          clear h0 h1 h2 h3 hl3 hbl hzN hy3 hgy3 hgw
          rw [show y3.v = .slice y3.A y3.l.length y3.c from rfl]
          refine hK.out _ _ trivial (fun _ => ?_)
          clear hK K
          try simp only [Act.put, List.getElem_toArray, List.getElem_cons_succ, List.getElem_cons_zero, List.setIfInBounds_toArray, List.set_cons_zero, List.set_cons_succ]
          refine wpAnyH_ready (rs := [12]) (by kernel_rfl) (by simp) ?_
          refine AllReadyH.cons rfl (fun K hK => ?_) AllReadyH.nil
          go_simp
          refine hK.out _ _ trivial (fun _ => ?_)
          clear hK K
          try simp only [Act.put, List.getElem_toArray, List.getElem_cons_succ, List.getElem_cons_zero, List.setIfInBounds_toArray, List.set_cons_zero, List.set_cons_succ]
          refine wpAnyH_take (i := 13) (v := ?_) rfl (by kernel_rfl) (by kernel_rfl) (by kernel_rfl) (fun _ _ _ h => h) (Or.inl ⟨by rfl, ?_⟩) (by trivial) ?_
          rotate_left
          · (intro w hSw; clear hSw; go_simp; try (with_reducible rfl))
          try simp only [Act.put, List.getElem_toArray, List.getElem_cons_succ, List.getElem_cons_zero, List.setIfInBounds_toArray, List.set_cons_zero, List.set_cons_succ]
          refine wpAnyH_done (by kernel_rfl) ?_ _
          go_wp2_with fail
          go_meet
          exact HA.out
      · skip
        go_simp
        have hb := (Below.refl _ x1).alloc (Nat.le_refl _) (.cells #[.int .u8 (c.toNat : Int)] 5)
        have hone : Lz kU8 (No) (x1.alloc (.cells #[.int .u8 (c.toNat : Int)] 5)) ⟨[c], some ⟨x1.heap.size, 0, none⟩, 1⟩ := one_new x1 c (fun h => h.elim)
        refine hK.out _ _ trivial (fun _ => ?_)
        clear hK K
        try simp only [Act.put, List.getElem_toArray, List.getElem_cons_succ, List.getElem_cons_zero, List.setIfInBounds_toArray, List.set_cons_zero, List.set_cons_succ]
        obtain ⟨n10, hn10⟩ : ∃ n10, n10 = x1.heap.size := ⟨_, rfl⟩
        obtain ⟨x47, hw2⟩ : ∃ u, u = x1.alloc (.cells #[.int .u8 (c.toNat : Int)] 5) := ⟨_, rfl⟩
        rw [← hw2] at hb hone ⊢
        rw [← hn10] at hone ⊢
        have HONE0 := Lib.hid hone
        clear hw2 hone hn10
        have KY048 := Lib.hid (KY02.out.bf (F := fun k => N ≤ k) (Bf.below hb))
        have KY149 := Lib.hid (KY13.out.bf (F := fun k => N ≤ k) (Bf.below hb))
        have KBR50 := Lib.hid (KBR4.out.bf (F := fun k => N ≤ k) (Bf.below hb))
        have KB51 := Lib.hid (KB5.out.trans (hb.mono KB5.out.size))
        have KN52 := Lib.hid (Nat.le_trans KN6.out hb.size)
        have KY253 := Lib.hid (HY2n.out.bf (F := No) (Bf.below hb))
        clear KY02 KY13 KBR4 KB5 KN6 HY2n
        clear hb
        refine wpAnyH_ready (rs := [6]) (by kernel_rfl) (by simp) ?_
        refine AllReadyH.cons rfl (fun K hK => ?_) AllReadyH.nil
        go_simp
        have hb := (Below.refl _ x47).alloc (Nat.le_refl _) (.cells #[] 5)
        have hem : Gr kU8 x47.heap.size (x47.alloc (.cells #[] 5)) ⟨[], some ⟨x47.heap.size, 0, none⟩, 0⟩ := gr_empty kU8 (B := x47.heap.size) x47 (Nat.le_refl _)
        refine hK.out _ _ trivial (fun _ => ?_)
        clear hK K
        try simp only [Act.put, List.getElem_toArray, List.getElem_cons_succ, List.getElem_cons_zero, List.setIfInBounds_toArray, List.set_cons_zero, List.set_cons_succ]
        obtain ⟨gE, hgE⟩ : ∃ gE, gE = x47.heap.size := ⟨_, rfl⟩
        have PY255 := Lib.hid ((KY253.out.beyond (n := x47.heap.size) (Nat.le_refl _)).weak (G := fun k => k = gE) (fun k _ h => by have h : k = gE := h; show x47.heap.size ≤ k; omega))
        clear KY253
        have PONE56 := Lib.hid ((HONE0.out.beyond (n := x47.heap.size) (Nat.le_refl _)).weak (G := fun k => k = gE) (fun k _ h => by have h : k = gE := h; show x47.heap.size ≤ k; omega))
        clear HONE0
        obtain ⟨x54, hw2⟩ : ∃ u, u = x47.alloc (.cells #[] 5) := ⟨_, rfl⟩
        rw [← hw2] at hb hem ⊢
        have HNG := Lib.hid (show N ≤ gE from hgE ▸ KN52.out)
        have HGL0 := Lib.hid (show gE < x54.heap.size from by rw [hgE, hw2]; first | (simp; done) | exact Nat.lt_succ_self _)
        rw [← hgE] at hem ⊢
        have HEM0 := Lib.hid hem
        clear hw2 hem
        have KY057 := Lib.hid (KY048.out.bf (F := fun k => N ≤ k) (Bf.below hb))
        have KY158 := Lib.hid (KY149.out.bf (F := fun k => N ≤ k) (Bf.below hb))
        have KBR59 := Lib.hid (KBR50.out.bf (F := fun k => N ≤ k) (Bf.below hb))
        have KB60 := Lib.hid (KB51.out.trans (hb.mono KB51.out.size))
        have KN61 := Lib.hid (Nat.le_trans KN52.out hb.size)
        have KY262 := Lib.hid (PY255.out.bf (F := fun k => k = gE) (Bf.below hb))
        have KONE63 := Lib.hid (PONE56.out.bf (F := fun k => k = gE) (Bf.below hb))
        clear KY048 KY149 KBR50 KB51 KN52 PY255 PONE56
        clear hb hgE
        refine wpAnyH_ready (rs := [8]) (by kernel_rfl) (by simp) ?_
        refine AllReadyH.cons rfl (fun K hK => ?_) AllReadyH.nil
        refine step_push1 ki_u8 rfl (.tmp 69) (.tmp 70) rfl gE ⟨[], some ⟨gE, 0, none⟩, 0⟩ HEM0.out rfl ⟨bb, boff, none⟩ m bc bl rfl HN.out hpos KBR59.out.src (by show 0 + bl.length ≤ _; rw [← HN.out]; omega) (Nat.le_of_lt HGL0.out) ?_
        intro z8 x64 hz8 hgz8 hgw hloc
        have HZL := Lib.hid (show z8.l = bl from hz8)
        have HZ0 := Lib.hid hgz8
        obtain ⟨n8, hn8⟩ : ∃ n8, n8 = x54.heap.size := ⟨_, rfl⟩
        have HLOC := Lib.hid (show ∀ k, z8.v.ownBlock = some k → k = gE ∨ n8 ≤ k from fun k e => by rcases hloc k e with h | h; exact .inl (by have h : some gE = some k := h; injection h with h; exact h.symm); exact .inr (hn8 ▸ h))
        have hgg : ∀ g, (Ls.v (⟨[], some ⟨gE, 0, none⟩, 0⟩ : Ls UInt8)).ownBlock = some g → g = gE := fun g e => by have e : some gE = some g := e; injection e with e; exact e.symm
        have HY2b := Lib.hid (((KY262.out).weak (G := fun k => k = gE ∨ n8 ≤ k) (fun k hk h => by have h : k = gE ∨ n8 ≤ k := h; show k = gE; omega)).bf (F := fun k => k = gE ∨ n8 ≤ k) (Bf.grown hgw fun g e => .inl (hgg g e)))
        clear KY262
        have HONEb := Lib.hid (KONE63.out.bf (F := fun k => k = gE) (Bf.grown hgw fun g e => hgg g e))
        clear KONE63
        have KY065 := Lib.hid (KY057.out.bf (F := fun k => N ≤ k) (Bf.grown hgw fun g e => (by have := hgg g e; have := HNG.out; show N ≤ g; omega)))
        have KY166 := Lib.hid (KY158.out.bf (F := fun k => N ≤ k) (Bf.grown hgw fun g e => (by have := hgg g e; have := HNG.out; show N ≤ g; omega)))
        have KBR67 := Lib.hid (KBR59.out.bf (F := fun k => N ≤ k) (Bf.grown hgw fun g e => (by have := hgg g e; have := HNG.out; show N ≤ g; omega)))
        have KB68 := Lib.hid (KB60.out.grown hgw KB60.out.size fun g e => Nat.le_trans HWN.out ((by have := hgg g e; have := HNG.out; show N ≤ g; omega)))
        have KN69 := Lib.hid (Nat.le_trans KN61.out hgw.size)
        have KG70 := Lib.hid (Nat.lt_of_lt_of_le HGL0.out hgw.size)
        clear KY057 KY158 KBR59 KB60 KN61 HGL0
        clear hz8 hgz8 hgw hloc hn8 hgg HEM0
        rw [show z8.v = .slice z8.A z8.l.length z8.c from rfl]
        refine hK.out _ _ trivial (fun _ => ?_)
        clear hK K
        try simp only [Act.put, List.getElem_toArray, List.getElem_cons_succ, List.getElem_cons_zero, List.setIfInBounds_toArray, List.set_cons_zero, List.set_cons_succ]
        refine wpAnyH_ready (rs := [11]) (by kernel_rfl) (by simp) ?_
        refine AllReadyH.cons rfl (fun K hK => ?_) AllReadyH.nil
        refine step_push_ls ki_u8 rfl (.tmp 71) (.tmp 73) rfl gE z8 ⟨[c], some ⟨n10, 0, none⟩, 1⟩ HZ0.out rfl HONEb.out rfl (by rw [HZL.out, ← HN.out]; show m + 1 ≤ _; omega) (Nat.le_of_lt KG70.out) ?_
        intro y3 xl hy3 hgy3 hgw
        have hzN : ∀ g, z8.v.ownBlock = some g → N ≤ g := fun g e => Nat.le_trans HNG.out (HZ0.out.lt g e).1
        have h0 := KY065.out.bf (F := fun k => N ≤ k) (Bf.grown hgw hzN)
        have h1 := KY166.out.bf (F := fun k => N ≤ k) (Bf.grown hgw hzN)
        have h2 := HY2b.out.bf (F := fun k => k = gE ∨ n8 ≤ k) (Bf.grown hgw HLOC.out)
        have h3 := hgy3.lz (F := No) (fun _ h => h.elim)
        have hl3 : y3.l.length ≤ 40000 := by rw [hy3, HZL.out, List.length_append, ← HN.out]; show m + 1 ≤ _; omega
        have hbl := KB68.out.grown hgw KB68.out.size fun g e => Nat.le_trans HWN.out (hzN g e)
        have HA := Lib.hid (all4 HY0V.out HY1V.out rfl rfl h0.no h1.no h2.no h3 HY0L.out HY1L.out HY2L.out hl3 hbl)
        clear h0 h1 h2 h3 hl3 hbl hzN hy3 hgy3 hgw
        rw [show y3.v = .slice y3.A y3.l.length y3.c from rfl]
        refine hK.out _ _ trivial (fun _ => ?_)
        clear hK K
        try simp only [Act.put, List.getElem_toArray, List.getElem_cons_succ, List.getElem_cons_zero, List.setIfInBounds_toArray, List.set_cons_zero, List.set_cons_succ]
        refine wpAnyH_ready (rs := [12]) (by kernel_rfl) (by simp) ?_
        refine AllReadyH.cons rfl (fun K hK => ?_) AllReadyH.nil
        go_simp
        refine hK.out _ _ trivial (fun _ => ?_)
        clear hK K
        try simp only [Act.put, List.getElem_toArray, List.getElem_cons_succ, List.getElem_cons_zero, List.setIfInBounds_toArray, List.set_cons_zero, List.set_cons_succ]
        refine wpAnyH_take (i := 13) (v := ?_) rfl (by kernel_rfl) (by kernel_rfl) (by kernel_rfl) (fun _ _ _ h => h) (Or.inl ⟨by rfl, ?_⟩) (by trivial) ?_
        rotate_left
        · (intro w hSw; clear hSw; go_simp; try (with_reducible rfl))
        try simp only [Act.put, List.getElem_toArray, List.getElem_cons_succ, List.getElem_cons_zero, List.setIfInBounds_toArray, List.set_cons_zero, List.set_cons_succ]
        refine wpAnyH_done (by kernel_rfl) ?_ _
        go_wp2_with fail
        go_meet
        exact HA.out
    · skip
      go_simp
      have hb := (Below.refl _ wd).alloc (Nat.le_refl _) (.cells #[] 5)
      have hem : Gr kU8 wd.heap.size (wd.alloc (.cells #[] 5)) ⟨[], some ⟨wd.heap.size, 0, none⟩, 0⟩ := gr_empty kU8 (B := wd.heap.size) wd (Nat.le_refl _)
      refine hK.out _ _ trivial (fun _ => ?_)
      clear hK K
      try simp only [Act.put, List.getElem_toArray, List.getElem_cons_succ, List.getElem_cons_zero, List.setIfInBounds_toArray, List.set_cons_zero, List.set_cons_succ]
      obtain ⟨gE, hgE⟩ : ∃ gE, gE = wd.heap.size := ⟨_, rfl⟩
      obtain ⟨x71, hw2⟩ : ∃ u, u = wd.alloc (.cells #[] 5) := ⟨_, rfl⟩
      rw [← hw2] at hb hem ⊢
      have HNG := Lib.hid (show N ≤ gE from hgE ▸ HNa.out)
      have HGL0 := Lib.hid (show gE < x71.heap.size from by rw [hgE, hw2]; first | (simp; done) | exact Nat.lt_succ_self _)
      rw [← hgE] at hem ⊢
      have HEM0 := Lib.hid hem
      clear hw2 hem
      have KY072 := Lib.hid (HY0a.out.bf (F := fun k => N ≤ k) (Bf.below hb))
      have KY173 := Lib.hid (HY1a.out.bf (F := fun k => N ≤ k) (Bf.below hb))
      have KBR74 := Lib.hid (HBRa.out.bf (F := fun k => N ≤ k) (Bf.below hb))
      have KX75 := Lib.hid (HXa.out.bf (F := fun k => N ≤ k) (Bf.below hb))
      have KB76 := Lib.hid (HBa.out.trans (hb.mono HBa.out.size))
      have KN77 := Lib.hid (Nat.le_trans HNa.out hb.size)
      clear HY0a HY1a HBRa HXa HBa HNa
      clear hb hgE
      refine wpAnyH_ready (rs := [5, 10]) (by kernel_rfl) (by simp) ?_
      refine AllReadyH.cons rfl (fun K hK => ?_) (AllReadyH.cons rfl (fun K hK => ?_) AllReadyH.nil)
      · skip
        go_simp
        have HC := Lib.hid (few_ls (w := x71) x (KX75.out.no))
        refine (HC.out).mono ?_
        rintro e x78 ⟨y2, rfl, hy2l, hgy, hb⟩
        have HY2L := Lib.hid (show y2.l.length ≤ 40000 from by rw [hy2l, List.length_take]; omega)
        have HY2n := Lib.hid (hgy.lz (F := fun k => k = gE) (fun k hk => by have hk : k = gE := hk; have := HGL0.out; omega))
        have KY079 := Lib.hid (KY072.out.bf (F := fun k => N ≤ k) (Bf.below hb))
        have KY180 := Lib.hid (KY173.out.bf (F := fun k => N ≤ k) (Bf.below hb))
        have KBR81 := Lib.hid (KBR74.out.bf (F := fun k => N ≤ k) (Bf.below hb))
        have KB82 := Lib.hid (KB76.out.trans (hb.mono KB76.out.size))
        have KN83 := Lib.hid (Nat.le_trans KN77.out hb.size)
        have KG84 := Lib.hid (Nat.lt_of_lt_of_le HGL0.out hb.size)
        have KE85 := Lib.hid (HEM0.out.below hb)
        clear KY072 KY173 KBR74 KB76 KN77 HGL0 HEM0
        clear hb hy2l hgy HC KX75
        try go_simp
        refine hK.out _ _ trivial (fun _ => ?_)
        clear hK K
        try simp only [Act.put, List.getElem_toArray, List.getElem_cons_succ, List.getElem_cons_zero, List.setIfInBounds_toArray, List.set_cons_zero, List.set_cons_succ]
        refine wpAnyH_ready (rs := [8, 10]) (by kernel_rfl) (by simp) ?_
        refine AllReadyH.cons rfl (fun K hK => ?_) (AllReadyH.cons rfl (fun K hK => ?_) AllReadyH.nil)
        · skip
          refine step_push1 ki_u8 rfl (.tmp 69) (.tmp 70) rfl gE ⟨[], some ⟨gE, 0, none⟩, 0⟩ KE85.out rfl ⟨bb, boff, none⟩ m bc bl rfl HN.out hpos KBR81.out.src (by show 0 + bl.length ≤ _; rw [← HN.out]; omega) (Nat.le_of_lt KG84.out) ?_
          intro z8 x86 hz8 hgz8 hgw hloc
          have HZL := Lib.hid (show z8.l = bl from hz8)
          have HZ0 := Lib.hid hgz8
          obtain ⟨n8, hn8⟩ : ∃ n8, n8 = x78.heap.size := ⟨_, rfl⟩
          have HLOC := Lib.hid (show ∀ k, z8.v.ownBlock = some k → k = gE ∨ n8 ≤ k from fun k e => by rcases hloc k e with h | h; exact .inl (by have h : some gE = some k := h; injection h with h; exact h.symm); exact .inr (hn8 ▸ h))
          have hgg : ∀ g, (Ls.v (⟨[], some ⟨gE, 0, none⟩, 0⟩ : Ls UInt8)).ownBlock = some g → g = gE := fun g e => by have e : some gE = some g := e; injection e with e; exact e.symm
          have HY2b := Lib.hid (((HY2n.out).weak (G := fun k => k = gE ∨ n8 ≤ k) (fun k hk h => by have h : k = gE ∨ n8 ≤ k := h; show k = gE; omega)).bf (F := fun k => k = gE ∨ n8 ≤ k) (Bf.grown hgw fun g e => .inl (hgg g e)))
          clear HY2n
          have KY087 := Lib.hid (KY079.out.bf (F := fun k => N ≤ k) (Bf.grown hgw fun g e => (by have := hgg g e; have := HNG.out; show N ≤ g; omega)))
          have KY188 := Lib.hid (KY180.out.bf (F := fun k => N ≤ k) (Bf.grown hgw fun g e => (by have := hgg g e; have := HNG.out; show N ≤ g; omega)))
          have KBR89 := Lib.hid (KBR81.out.bf (F := fun k => N ≤ k) (Bf.grown hgw fun g e => (by have := hgg g e; have := HNG.out; show N ≤ g; omega)))
          have KB90 := Lib.hid (KB82.out.grown hgw KB82.out.size fun g e => Nat.le_trans HWN.out ((by have := hgg g e; have := HNG.out; show N ≤ g; omega)))
          have KN91 := Lib.hid (Nat.le_trans KN83.out hgw.size)
          have KG92 := Lib.hid (Nat.lt_of_lt_of_le KG84.out hgw.size)
          clear KY079 KY180 KBR81 KB82 KN83 KG84
          clear hz8 hgz8 hgw hloc hn8 hgg KE85
          rw [show z8.v = .slice z8.A z8.l.length z8.c from rfl]
          refine hK.out _ _ trivial (fun _ => ?_)
          clear hK K
          try simp only [Act.put, List.getElem_toArray, List.getElem_cons_succ, List.getElem_cons_zero, List.setIfInBounds_toArray, List.set_cons_zero, List.set_cons_succ]
          refine wpAnyH_ready (rs := [10]) (by kernel_rfl) (by simp) ?_
          refine AllReadyH.cons rfl (fun K hK => ?_) AllReadyH.nil
          go_simp
          have hb := (Below.refl _ x86).alloc (Nat.le_refl _) (.cells #[.int .u8 (c.toNat : Int)] 5)
          have hone : Lz kU8 (No) (x86.alloc (.cells #[.int .u8 (c.toNat : Int)] 5)) ⟨[c], some ⟨x86.heap.size, 0, none⟩, 1⟩ := one_new x86 c (fun h => h.elim)
          refine hK.out _ _ trivial (fun _ => ?_)
          clear hK K
          try simp only [Act.put, List.getElem_toArray, List.getElem_cons_succ, List.getElem_cons_zero, List.setIfInBounds_toArray, List.set_cons_zero, List.set_cons_succ]
          obtain ⟨n10, hn10⟩ : ∃ n10, n10 = x86.heap.size := ⟨_, rfl⟩
          obtain ⟨x93, hw2⟩ : ∃ u, u = x86.alloc (.cells #[.int .u8 (c.toNat : Int)] 5) := ⟨_, rfl⟩
          rw [← hw2] at hb hone ⊢
          rw [← hn10] at hone ⊢
          have HONE0 := Lib.hid hone
          clear hw2 hone hn10
          have KY094 := Lib.hid (KY087.out.bf (F := fun k => N ≤ k) (Bf.below hb))
          have KY195 := Lib.hid (KY188.out.bf (F := fun k => N ≤ k) (Bf.below hb))
          have KBR96 := Lib.hid (KBR89.out.bf (F := fun k => N ≤ k) (Bf.below hb))
          have KB97 := Lib.hid (KB90.out.trans (hb.mono KB90.out.size))
          have KN98 := Lib.hid (Nat.le_trans KN91.out hb.size)
          have KG99 := Lib.hid (Nat.lt_of_lt_of_le KG92.out hb.size)
          have KZ100 := Lib.hid (HZ0.out.below hb)
          have KY2101 := Lib.hid (HY2b.out.bf (F := fun k => k = gE ∨ n8 ≤ k) (Bf.below hb))
          clear KY087 KY188 KBR89 KB90 KN91 KG92 HZ0 HY2b
          clear hb
          refine wpAnyH_ready (rs := [11]) (by kernel_rfl) (by simp) ?_
          refine AllReadyH.cons rfl (fun K hK => ?_) AllReadyH.nil
          refine step_push_ls ki_u8 rfl (.tmp 71) (.tmp 73) rfl gE z8 ⟨[c], some ⟨n10, 0, none⟩, 1⟩ KZ100.out rfl HONE0.out rfl (by rw [HZL.out, ← HN.out]; show m + 1 ≤ _; omega) (Nat.le_of_lt KG99.out) ?_
          intro y3 xl hy3 hgy3 hgw
          have hzN : ∀ g, z8.v.ownBlock = some g → N ≤ g := fun g e => Nat.le_trans HNG.out (KZ100.out.lt g e).1
          have h0 := KY094.out.bf (F := fun k => N ≤ k) (Bf.grown hgw hzN)
          have h1 := KY195.out.bf (F := fun k => N ≤ k) (Bf.grown hgw hzN)
          have h2 := KY2101.out.bf (F := fun k => k = gE ∨ n8 ≤ k) (Bf.grown hgw HLOC.out)
          have h3 := hgy3.lz (F := No) (fun _ h => h.elim)
          have hl3 : y3.l.length ≤ 40000 := by rw [hy3, HZL.out, List.length_append, ← HN.out]; show m + 1 ≤ _; omega
          have hbl := KB97.out.grown hgw KB97.out.size fun g e => Nat.le_trans HWN.out (hzN g e)
          have HA := Lib.hid (all4 HY0V.out HY1V.out rfl rfl h0.no h1.no h2.no h3 HY0L.out HY1L.out HY2L.out hl3 hbl)
          clear h0 h1 h2 h3 hl3 hbl hzN hy3 hgy3 hgw
          rw [show y3.v = .slice y3.A y3.l.length y3.c from rfl]
          refine hK.out _ _ trivial (fun _ => ?_)
          clear hK K
          try simp only [Act.put, List.getElem_toArray, List.getElem_cons_succ, List.getElem_cons_zero, List.setIfInBounds_toArray, List.set_cons_zero, List.set_cons_succ]
          refine wpAnyH_ready (rs := [12]) (by kernel_rfl) (by simp) ?_
          refine AllReadyH.cons rfl (fun K hK => ?_) AllReadyH.nil
          go_simp
          refine hK.out _ _ trivial (fun _ => ?_)
          clear hK K
          try simp only [Act.put, List.getElem_toArray, List.getElem_cons_succ, List.getElem_cons_zero, List.setIfInBounds_toArray, List.set_cons_zero, List.set_cons_succ]
          refine wpAnyH_take (i := 13) (v := ?_) rfl (by kernel_rfl) (by kernel_rfl) (by kernel_rfl) (fun _ _ _ h => h) (Or.inl ⟨by rfl, ?_⟩) (by trivial) ?_
          rotate_left
          · (intro w hSw; clear hSw; go_simp; try (with_reducible rfl))
          try simp only [Act.put, List.getElem_toArray, List.getElem_cons_succ, List.getElem_cons_zero, List.setIfInBounds_toArray, List.set_cons_zero, List.set_cons_succ]
          refine wpAnyH_done (by kernel_rfl) ?_ _
          go_wp2_with fail
          go_meet
          exact HA.out
        · skip
          go_simp
          have hb := (Below.refl _ x78).alloc (Nat.le_refl _) (.cells #[.int .u8 (c.toNat : Int)] 5)
          have hone : Lz kU8 (fun k => k = gE) (x78.alloc (.cells #[.int .u8 (c.toNat : Int)] 5)) ⟨[c], some ⟨x78.heap.size, 0, none⟩, 1⟩ := one_new x78 c (fun h => by have h : x78.heap.size = gE := h; have := KG84.out; omega)
          refine hK.out _ _ trivial (fun _ => ?_)
          clear hK K
          try simp only [Act.put, List.getElem_toArray, List.getElem_cons_succ, List.getElem_cons_zero, List.setIfInBounds_toArray, List.set_cons_zero, List.set_cons_succ]
          obtain ⟨n10, hn10⟩ : ∃ n10, n10 = x78.heap.size := ⟨_, rfl⟩
          obtain ⟨x102, hw2⟩ : ∃ u, u = x78.alloc (.cells #[.int .u8 (c.toNat : Int)] 5) := ⟨_, rfl⟩
          rw [← hw2] at hb hone ⊢
          rw [← hn10] at hone ⊢
          have HONE0 := Lib.hid hone
          clear hw2 hone hn10
          have KY0103 := Lib.hid (KY079.out.bf (F := fun k => N ≤ k) (Bf.below hb))
          have KY1104 := Lib.hid (KY180.out.bf (F := fun k => N ≤ k) (Bf.below hb))
          have KBR105 := Lib.hid (KBR81.out.bf (F := fun k => N ≤ k) (Bf.below hb))
          have KB106 := Lib.hid (KB82.out.trans (hb.mono KB82.out.size))
          have KN107 := Lib.hid (Nat.le_trans KN83.out hb.size)
          have KG108 := Lib.hid (Nat.lt_of_lt_of_le KG84.out hb.size)
          have KE109 := Lib.hid (KE85.out.below hb)
          have KY2110 := Lib.hid (HY2n.out.bf (F := fun k => k = gE) (Bf.below hb))
          clear KY079 KY180 KBR81 KB82 KN83 KG84 KE85 HY2n
          clear hb
          refine wpAnyH_ready (rs := [8]) (by kernel_rfl) (by simp) ?_
          refine AllReadyH.cons rfl (fun K hK => ?_) AllReadyH.nil
          refine step_push1 ki_u8 rfl (.tmp 69) (.tmp 70) rfl gE ⟨[], some ⟨gE, 0, none⟩, 0⟩ KE109.out rfl ⟨bb, boff, none⟩ m bc bl rfl HN.out hpos KBR105.out.src (by show 0 + bl.length ≤ _; rw [← HN.out]; omega) (Nat.le_of_lt KG108.out) ?_
          intro z8 x111 hz8 hgz8 hgw hloc
          have HZL := Lib.hid (show z8.l = bl from hz8)
          have HZ0 := Lib.hid hgz8
          obtain ⟨n8, hn8⟩ : ∃ n8, n8 = x102.heap.size := ⟨_, rfl⟩
          have HLOC := Lib.hid (show ∀ k, z8.v.ownBlock = some k → k = gE ∨ n8 ≤ k from fun k e => by rcases hloc k e with h | h; exact .inl (by have h : some gE = some k := h; injection h with h; exact h.symm); exact .inr (hn8 ▸ h))
          have hgg : ∀ g, (Ls.v (⟨[], some ⟨gE, 0, none⟩, 0⟩ : Ls UInt8)).ownBlock = some g → g = gE := fun g e => by have e : some gE = some g := e; injection e with e; exact e.symm
          have HY2b := Lib.hid (((KY2110.out).weak (G := fun k => k = gE ∨ n8 ≤ k) (fun k hk h => by have h : k = gE ∨ n8 ≤ k := h; show k = gE; omega)).bf (F := fun k => k = gE ∨ n8 ≤ k) (Bf.grown hgw fun g e => .inl (hgg g e)))
          clear KY2110
          have HONEb := Lib.hid (HONE0.out.bf (F := fun k => k = gE) (Bf.grown hgw fun g e => hgg g e))
          clear HONE0
          have KY0112 := Lib.hid (KY0103.out.bf (F := fun k => N ≤ k) (Bf.grown hgw fun g e => (by have := hgg g e; have := HNG.out; show N ≤ g; omega)))
          have KY1113 := Lib.hid (KY1104.out.bf (F := fun k => N ≤ k) (Bf.grown hgw fun g e => (by have := hgg g e; have := HNG.out; show N ≤ g; omega)))
          have KBR114 := Lib.hid (KBR105.out.bf (F := fun k => N ≤ k) (Bf.grown hgw fun g e => (by have := hgg g e; have := HNG.out; show N ≤ g; omega)))
          have KB115 := Lib.hid (KB106.out.grown hgw KB106.out.size fun g e => Nat.le_trans HWN.out ((by have := hgg g e; have := HNG.out; show N ≤ g; omega)))
          have KN116 := Lib.hid (Nat.le_trans KN107.out hgw.size)
          have KG117 := Lib.hid (Nat.lt_of_lt_of_le KG108.out hgw.size)
          clear KY0103 KY1104 KBR105 KB106 KN107 KG108
          clear hz8 hgz8 hgw hloc hn8 hgg KE109
          rw [show z8.v = .slice z8.A z8.l.length z8.c from rfl]
          refine hK.out _ _ trivial (fun _ => ?_)
          clear hK K
          try simp only [Act.put, List.getElem_toArray, List.getElem_cons_succ, List.getElem_cons_zero, List.setIfInBounds_toArray, List.set_cons_zero, List.set_cons_succ]
          refine wpAnyH_ready (rs := [11]) (by kernel_rfl) (by simp) ?_
          refine AllReadyH.cons rfl (fun K hK => ?_) AllReadyH.nil
          refine step_push_ls ki_u8 rfl (.tmp 71) (.tmp 73) rfl gE z8 ⟨[c], some ⟨n10, 0, none⟩, 1⟩ HZ0.out rfl HONEb.out rfl (by rw [HZL.out, ← HN.out]; show m + 1 ≤ _; omega) (Nat.le_of_lt KG117.out) ?_
          intro y3 xl hy3 hgy3 hgw
          have hzN : ∀ g, z8.v.ownBlock = some g → N ≤ g := fun g e => Nat.le_trans HNG.out (HZ0.out.lt g e).1
          have h0 := KY0112.out.bf (F := fun k => N ≤ k) (Bf.grown hgw hzN)
          have h1 := KY1113.out.bf (F := fun k => N ≤ k) (Bf.grown hgw hzN)
          have h2 := HY2b.out.bf (F := fun k => k = gE ∨ n8 ≤ k) (Bf.grown hgw HLOC.out)
          have h3 := hgy3.lz (F := No) (fun _ h => h.elim)
          have hl3 : y3.l.length ≤ 40000 := by rw [hy3, HZL.out, List.length_append, ← HN.out]; show m + 1 ≤ _; omega
          have hbl := KB115.out.grown hgw KB115.out.size fun g e => Nat.le_trans HWN.out (hzN g e)
          have HA := Lib.hid (all4 HY0V.out HY1V.out rfl rfl h0.no h1.no h2.no h3 HY0L.out HY1L.out HY2L.out hl3 hbl)
          clear h0 h1 h2 h3 hl3 hbl hzN hy3 hgy3 hgw
          rw [show y3.v = .slice y3.A y3.l.length y3.c from rfl]
          refine hK.out _ _ trivial (fun _ => ?_)
          clear hK K
          try simp only [Act.put, List.getElem_toArray, List.getElem_cons_succ, List.getElem_cons_zero, List.setIfInBounds_toArray, List.set_cons_zero, List.set_cons_succ]
          refine wpAnyH_ready (rs := [12]) (by kernel_rfl) (by simp) ?_
          refine AllReadyH.cons rfl (fun K hK => ?_) AllReadyH.nil
          go_simp
          refine hK.out _ _ trivial (fun _ => ?_)
          clear hK K
          try simp only [Act.put, List.getElem_toArray, List.getElem_cons_succ, List.getElem_cons_zero, List.setIfInBounds_toArray, List.set_cons_zero, List.set_cons_succ]
          refine wpAnyH_take (i := 13) (v := ?_) rfl (by kernel_rfl) (by kernel_rfl) (by kernel_rfl) (fun _ _ _ h => h) (Or.inl ⟨by rfl, ?_⟩) (by trivial) ?_
          rotate_left
          · (intro w hSw; clear hSw; go_simp; try (with_reducible rfl))
          try simp only [Act.put, List.getElem_toArray, List.getElem_cons_succ, List.getElem_cons_zero, List.setIfInBounds_toArray, List.set_cons_zero, List.set_cons_succ]
          refine wpAnyH_done (by kernel_rfl) ?_ _
          go_wp2_with fail
          go_meet
          exact HA.out
      · skip
        go_simp
        have hb := (Below.refl _ x71).alloc (Nat.le_refl _) (.cells #[.int .u8 (c.toNat : Int)] 5)
        have hone : Lz kU8 (fun k => k = gE) (x71.alloc (.cells #[.int .u8 (c.toNat : Int)] 5)) ⟨[c], some ⟨x71.heap.size, 0, none⟩, 1⟩ := one_new x71 c (fun h => by have h : x71.heap.size = gE := h; have := HGL0.out; omega)
        refine hK.out _ _ trivial (fun _ => ?_)
        clear hK K
        try simp only [Act.put, List.getElem_toArray, List.getElem_cons_succ, List.getElem_cons_zero, List.setIfInBounds_toArray, List.set_cons_zero, List.set_cons_succ]
        obtain ⟨n10, hn10⟩ : ∃ n10, n10 = x71.heap.size := ⟨_, rfl⟩
        obtain ⟨x118, hw2⟩ : ∃ u, u = x71.alloc (.cells #[.int .u8 (c.toNat : Int)] 5) := ⟨_, rfl⟩
        rw [← hw2] at hb hone ⊢
        rw [← hn10] at hone ⊢
        have HONE0 := Lib.hid hone
        clear hw2 hone hn10
        have KY0119 := Lib.hid (KY072.out.bf (F := fun k => N ≤ k) (Bf.below hb))
        have KY1120 := Lib.hid (KY173.out.bf (F := fun k => N ≤ k) (Bf.below hb))
        have KBR121 := Lib.hid (KBR74.out.bf (F := fun k => N ≤ k) (Bf.below hb))
        have KX122 := Lib.hid (KX75.out.bf (F := fun k => N ≤ k) (Bf.below hb))
        have KB123 := Lib.hid (KB76.out.trans (hb.mono KB76.out.size))
        have KN124 := Lib.hid (Nat.le_trans KN77.out hb.size)
        have KG125 := Lib.hid (Nat.lt_of_lt_of_le HGL0.out hb.size)
        have KE126 := Lib.hid (HEM0.out.below hb)
        clear KY072 KY173 KBR74 KX75 KB76 KN77 HGL0 HEM0
        clear hb
        refine wpAnyH_ready (rs := [5]) (by kernel_rfl) (by simp) ?_
        refine AllReadyH.cons rfl (fun K hK => ?_) AllReadyH.nil
        go_simp
        have HC := Lib.hid (few_ls (w := x118) x (KX122.out.no))
        refine (HC.out).mono ?_
        rintro e x127 ⟨y2, rfl, hy2l, hgy, hb⟩
        have HY2L := Lib.hid (show y2.l.length ≤ 40000 from by rw [hy2l, List.length_take]; omega)
        have HY2n := Lib.hid (hgy.lz (F := fun k => k = gE) (fun k hk => by have hk : k = gE := hk; have := KG125.out; omega))
        have KY0128 := Lib.hid (KY0119.out.bf (F := fun k => N ≤ k) (Bf.below hb))
        have KY1129 := Lib.hid (KY1120.out.bf (F := fun k => N ≤ k) (Bf.below hb))
        have KBR130 := Lib.hid (KBR121.out.bf (F := fun k => N ≤ k) (Bf.below hb))
        have KB131 := Lib.hid (KB123.out.trans (hb.mono KB123.out.size))
        have KN132 := Lib.hid (Nat.le_trans KN124.out hb.size)
        have KG133 := Lib.hid (Nat.lt_of_lt_of_le KG125.out hb.size)
        have KE134 := Lib.hid (KE126.out.below hb)
        have KONE135 := Lib.hid (HONE0.out.bf (F := fun k => k = gE) (Bf.below hb))
        clear KY0119 KY1120 KBR121 KB123 KN124 KG125 KE126 HONE0
        clear hb hy2l hgy HC KX122
        try go_simp
        refine hK.out _ _ trivial (fun _ => ?_)
        clear hK K
        try simp only [Act.put, List.getElem_toArray, List.getElem_cons_succ, List.getElem_cons_zero, List.setIfInBounds_toArray, List.set_cons_zero, List.set_cons_succ]
        refine wpAnyH_ready (rs := [8]) (by kernel_rfl) (by simp) ?_
        refine AllReadyH.cons rfl (fun K hK => ?_) AllReadyH.nil
        refine step_push1 ki_u8 rfl (.tmp 69) (.tmp 70) rfl gE ⟨[], some ⟨gE, 0, none⟩, 0⟩ KE134.out rfl ⟨bb, boff, none⟩ m bc bl rfl HN.out hpos KBR130.out.src (by show 0 + bl.length ≤ _; rw [← HN.out]; omega) (Nat.le_of_lt KG133.out) ?_
        intro z8 x136 hz8 hgz8 hgw hloc
        have HZL := Lib.hid (show z8.l = bl from hz8)
        have HZ0 := Lib.hid hgz8
        obtain ⟨n8, hn8⟩ : ∃ n8, n8 = x127.heap.size := ⟨_, rfl⟩
        have HLOC := Lib.hid (show ∀ k, z8.v.ownBlock = some k → k = gE ∨ n8 ≤ k from fun k e => by rcases hloc k e with h | h; exact .inl (by have h : some gE = some k := h; injection h with h; exact h.symm); exact .inr (hn8 ▸ h))
        have hgg : ∀ g, (Ls.v (⟨[], some ⟨gE, 0, none⟩, 0⟩ : Ls UInt8)).ownBlock = some g → g = gE := fun g e => by have e : some gE = some g := e; injection e with e; exact e.symm
        have HY2b := Lib.hid (((HY2n.out).weak (G := fun k => k = gE ∨ n8 ≤ k) (fun k hk h => by have h : k = gE ∨ n8 ≤ k := h; show k = gE; omega)).bf (F := fun k => k = gE ∨ n8 ≤ k) (Bf.grown hgw fun g e => .inl (hgg g e)))
        clear HY2n
        have HONEb := Lib.hid (KONE135.out.bf (F := fun k => k = gE) (Bf.grown hgw fun g e => hgg g e))
        clear KONE135
        have KY0137 := Lib.hid (KY0128.out.bf (F := fun k => N ≤ k) (Bf.grown hgw fun g e => (by have := hgg g e; have := HNG.out; show N ≤ g; omega)))
        have KY1138 := Lib.hid (KY1129.out.bf (F := fun k => N ≤ k) (Bf.grown hgw fun g e => (by have := hgg g e; have := HNG.out; show N ≤ g; omega)))
        have KBR139 := Lib.hid (KBR130.out.bf (F := fun k => N ≤ k) (Bf.grown hgw fun g e => (by have := hgg g e; have := HNG.out; show N ≤ g; omega)))
        have KB140 := Lib.hid (KB131.out.grown hgw KB131.out.size fun g e => Nat.le_trans HWN.out ((by have := hgg g e; have := HNG.out; show N ≤ g; omega)))
        have KN141 := Lib.hid (Nat.le_trans KN132.out hgw.size)
        have KG142 := Lib.hid (Nat.lt_of_lt_of_le KG133.out hgw.size)
        clear KY0128 KY1129 KBR130 KB131 KN132 KG133
        clear hz8 hgz8 hgw hloc hn8 hgg KE134
        rw [show z8.v = .slice z8.A z8.l.length z8.c from rfl]
        refine hK.out _ _ trivial (fun _ => ?_)
        clear hK K
        try simp only [Act.put, List.getElem_toArray, List.getElem_cons_succ, List.getElem_cons_zero, List.setIfInBounds_toArray, List.set_cons_zero, List.set_cons_succ]
        refine wpAnyH_ready (rs := [11]) (by kernel_rfl) (by simp) ?_
        refine AllReadyH.cons rfl (fun K hK => ?_) AllReadyH.nil
        refine step_push_ls ki_u8 rfl (.tmp 71) (.tmp 73) rfl gE z8 ⟨[c], some ⟨n10, 0, none⟩, 1⟩ HZ0.out rfl HONEb.out rfl (by rw [HZL.out, ← HN.out]; show m + 1 ≤ _; omega) (Nat.le_of_lt KG142.out) ?_
        intro y3 xl hy3 hgy3 hgw
        have hzN : ∀ g, z8.v.ownBlock = some g → N ≤ g := fun g e => Nat.le_trans HNG.out (HZ0.out.lt g e).1
        have h0 := KY0137.out.bf (F := fun k => N ≤ k) (Bf.grown hgw hzN)
        have h1 := KY1138.out.bf (F := fun k => N ≤ k) (Bf.grown hgw hzN)
        have h2 := HY2b.out.bf (F := fun k => k = gE ∨ n8 ≤ k) (Bf.grown hgw HLOC.out)
        have h3 := hgy3.lz (F := No) (fun _ h => h.elim)
        have hl3 : y3.l.length ≤ 40000 := by rw [hy3, HZL.out, List.length_append, ← HN.out]; show m + 1 ≤ _; omega
        have hbl := KB140.out.grown hgw KB140.out.size fun g e => Nat.le_trans HWN.out (hzN g e)
        have HA := Lib.hid (all4 HY0V.out HY1V.out rfl rfl h0.no h1.no h2.no h3 HY0L.out HY1L.out HY2L.out hl3 hbl)
        clear h0 h1 h2 h3 hl3 hbl hzN hy3 hgy3 hgw
        rw [show y3.v = .slice y3.A y3.l.length y3.c from rfl]
        refine hK.out _ _ trivial (fun _ => ?_)
        clear hK K
        try simp only [Act.put, List.getElem_toArray, List.getElem_cons_succ, List.getElem_cons_zero, List.setIfInBounds_toArray, List.set_cons_zero, List.set_cons_succ]
        refine wpAnyH_ready (rs := [12]) (by kernel_rfl) (by simp) ?_
        refine AllReadyH.cons rfl (fun K hK => ?_) AllReadyH.nil
        go_simp
        refine hK.out _ _ trivial (fun _ => ?_)
        clear hK K
        try simp only [Act.put, List.getElem_toArray, List.getElem_cons_succ, List.getElem_cons_zero, List.setIfInBounds_toArray, List.set_cons_zero, List.set_cons_succ]
        refine wpAnyH_take (i := 13) (v := ?_) rfl (by kernel_rfl) (by kernel_rfl) (by kernel_rfl) (fun _ _ _ h => h) (Or.inl ⟨by rfl, ?_⟩) (by trivial) ?_
        rotate_left
        · (intro w hSw; clear hSw; go_simp; try (with_reducible rfl))
        try simp only [Act.put, List.getElem_toArray, List.getElem_cons_succ, List.getElem_cons_zero, List.setIfInBounds_toArray, List.set_cons_zero, List.set_cons_succ]
        refine wpAnyH_done (by kernel_rfl) ?_ _
        go_wp2_with fail
        go_meet
        exact HA.out
    · skip
      go_simp
      have hb := (Below.refl _ wd).alloc (Nat.le_refl _) (.cells #[.int .u8 (c.toNat : Int)] 5)
      have hone : Lz kU8 (No) (wd.alloc (.cells #[.int .u8 (c.toNat : Int)] 5)) ⟨[c], some ⟨wd.heap.size, 0, none⟩, 1⟩ := one_new wd c (fun h => h.elim)
      refine hK.out _ _ trivial (fun _ => ?_)
      clear hK K
      try simp only [Act.put, List.getElem_toArray, List.getElem_cons_succ, List.getElem_cons_zero, List.setIfInBounds_toArray, List.set_cons_zero, List.set_cons_succ]
      obtain ⟨n10, hn10⟩ : ∃ n10, n10 = wd.heap.size := ⟨_, rfl⟩
      obtain ⟨x143, hw2⟩ : ∃ u, u = wd.alloc (.cells #[.int .u8 (c.toNat : Int)] 5) := ⟨_, rfl⟩
      rw [← hw2] at hb hone ⊢
      rw [← hn10] at hone ⊢
      have HONE0 := Lib.hid hone
      clear hw2 hone hn10
      have KY0144 := Lib.hid (HY0a.out.bf (F := fun k => N ≤ k) (Bf.below hb))
      have KY1145 := Lib.hid (HY1a.out.bf (F := fun k => N ≤ k) (Bf.below hb))
      have KBR146 := Lib.hid (HBRa.out.bf (F := fun k => N ≤ k) (Bf.below hb))
      have KX147 := Lib.hid (HXa.out.bf (F := fun k => N ≤ k) (Bf.below hb))
      have KB148 := Lib.hid (HBa.out.trans (hb.mono HBa.out.size))
      have KN149 := Lib.hid (Nat.le_trans HNa.out hb.size)
      clear HY0a HY1a HBRa HXa HBa HNa
      clear hb
      refine wpAnyH_ready (rs := [5, 6]) (by kernel_rfl) (by simp) ?_
      refine AllReadyH.cons rfl (fun K hK => ?_) (AllReadyH.cons rfl (fun K hK => ?_) AllReadyH.nil)
      · skip
        go_simp
        have HC := Lib.hid (few_ls (w := x143) x (KX147.out.no))
        refine (HC.out).mono ?_
        rintro e x150 ⟨y2, rfl, hy2l, hgy, hb⟩
        have HY2L := Lib.hid (show y2.l.length ≤ 40000 from by rw [hy2l, List.length_take]; omega)
        have HY2n := Lib.hid (hgy.lz (F := No) (fun _ h => h.elim))
        have KY0151 := Lib.hid (KY0144.out.bf (F := fun k => N ≤ k) (Bf.below hb))
        have KY1152 := Lib.hid (KY1145.out.bf (F := fun k => N ≤ k) (Bf.below hb))
        have KBR153 := Lib.hid (KBR146.out.bf (F := fun k => N ≤ k) (Bf.below hb))
        have KB154 := Lib.hid (KB148.out.trans (hb.mono KB148.out.size))
        have KN155 := Lib.hid (Nat.le_trans KN149.out hb.size)
        have KONE156 := Lib.hid (HONE0.out.bf (F := No) (Bf.below hb))
        clear KY0144 KY1145 KBR146 KB148 KN149 HONE0
        clear hb hy2l hgy HC KX147
        try go_simp
        refine hK.out _ _ trivial (fun _ => ?_)
        clear hK K
        try simp only [Act.put, List.getElem_toArray, List.getElem_cons_succ, List.getElem_cons_zero, List.setIfInBounds_toArray, List.set_cons_zero, List.set_cons_succ]
        refine wpAnyH_ready (rs := [6]) (by kernel_rfl) (by simp) ?_
        refine AllReadyH.cons rfl (fun K hK => ?_) AllReadyH.nil
        go_simp
        have hb := (Below.refl _ x150).alloc (Nat.le_refl _) (.cells #[] 5)
        have hem : Gr kU8 x150.heap.size (x150.alloc (.cells #[] 5)) ⟨[], some ⟨x150.heap.size, 0, none⟩, 0⟩ := gr_empty kU8 (B := x150.heap.size) x150 (Nat.le_refl _)
        refine hK.out _ _ trivial (fun _ => ?_)
        clear hK K
        try simp only [Act.put, List.getElem_toArray, List.getElem_cons_succ, List.getElem_cons_zero, List.setIfInBounds_toArray, List.set_cons_zero, List.set_cons_succ]
        obtain ⟨gE, hgE⟩ : ∃ gE, gE = x150.heap.size := ⟨_, rfl⟩
        have PY2158 := Lib.hid ((HY2n.out.beyond (n := x150.heap.size) (Nat.le_refl _)).weak (G := fun k => k = gE) (fun k _ h => by have h : k = gE := h; show x150.heap.size ≤ k; omega))
        clear HY2n
        have PONE159 := Lib.hid ((KONE156.out.beyond (n := x150.heap.size) (Nat.le_refl _)).weak (G := fun k => k = gE) (fun k _ h => by have h : k = gE := h; show x150.heap.size ≤ k; omega))
        clear KONE156
        obtain ⟨x157, hw2⟩ : ∃ u, u = x150.alloc (.cells #[] 5) := ⟨_, rfl⟩
        rw [← hw2] at hb hem ⊢
        have HNG := Lib.hid (show N ≤ gE from hgE ▸ KN155.out)
        have HGL0 := Lib.hid (show gE < x157.heap.size from by rw [hgE, hw2]; first | (simp; done) | exact Nat.lt_succ_self _)
        rw [← hgE] at hem ⊢
        have HEM0 := Lib.hid hem
        clear hw2 hem
        have KY0160 := Lib.hid (KY0151.out.bf (F := fun k => N ≤ k) (Bf.below hb))
        have KY1161 := Lib.hid (KY1152.out.bf (F := fun k => N ≤ k) (Bf.below hb))
        have KBR162 := Lib.hid (KBR153.out.bf (F := fun k => N ≤ k) (Bf.below hb))
        have KB163 := Lib.hid (KB154.out.trans (hb.mono KB154.out.size))
        have KN164 := Lib.hid (Nat.le_trans KN155.out hb.size)
        have KY2165 := Lib.hid (PY2158.out.bf (F := fun k => k = gE) (Bf.below hb))
        have KONE166 := Lib.hid (PONE159.out.bf (F := fun k => k = gE) (Bf.below hb))
        clear KY0151 KY1152 KBR153 KB154 KN155 PY2158 PONE159
        clear hb hgE
        refine wpAnyH_ready (rs := [8]) (by kernel_rfl) (by simp) ?_
        refine AllReadyH.cons rfl (fun K hK => ?_) AllReadyH.nil
        refine step_push1 ki_u8 rfl (.tmp 69) (.tmp 70) rfl gE ⟨[], some ⟨gE, 0, none⟩, 0⟩ HEM0.out rfl ⟨bb, boff, none⟩ m bc bl rfl HN.out hpos KBR162.out.src (by show 0 + bl.length ≤ _; rw [← HN.out]; omega) (Nat.le_of_lt HGL0.out) ?_
        intro z8 x167 hz8 hgz8 hgw hloc
        have HZL := Lib.hid (show z8.l = bl from hz8)
        have HZ0 := Lib.hid hgz8
        obtain ⟨n8, hn8⟩ : ∃ n8, n8 = x157.heap.size := ⟨_, rfl⟩
        have HLOC := Lib.hid (show ∀ k, z8.v.ownBlock = some k → k = gE ∨ n8 ≤ k from fun k e => by rcases hloc k e with h | h; exact .inl (by have h : some gE = some k := h; injection h with h; exact h.symm); exact .inr (hn8 ▸ h))
        have hgg : ∀ g, (Ls.v (⟨[], some ⟨gE, 0, none⟩, 0⟩ : Ls UInt8)).ownBlock = some g → g = gE := fun g e => by have e : some gE = some g := e; injection e with e; exact e.symm
        have HY2b := Lib.hid (((KY2165.out).weak (G := fun k => k = gE ∨ n8 ≤ k) (fun k hk h => by have h : k = gE ∨ n8 ≤ k := h; show k = gE; omega)).bf (F := fun k => k = gE ∨ n8 ≤ k) (Bf.grown hgw fun g e => .inl (hgg g e)))
        clear KY2165
        have HONEb := Lib.hid (KONE166.out.bf (F := fun k => k = gE) (Bf.grown hgw fun g e => hgg g e))
        clear KONE166
        have KY0168 := Lib.hid (KY0160.out.bf (F := fun k => N ≤ k) (Bf.grown hgw fun g e => (by have := hgg g e; have := HNG.out; show N ≤ g; omega)))
        have KY1169 := Lib.hid (KY1161.out.bf (F := fun k => N ≤ k) (Bf.grown hgw fun g e => (by have := hgg g e; have := HNG.out; show N ≤ g; omega)))
        have KBR170 := Lib.hid (KBR162.out.bf (F := fun k => N ≤ k) (Bf.grown hgw fun g e => (by have := hgg g e; have := HNG.out; show N ≤ g; omega)))
        have KB171 := Lib.hid (KB163.out.grown hgw KB163.out.size fun g e => Nat.le_trans HWN.out ((by have := hgg g e; have := HNG.out; show N ≤ g; omega)))
        have KN172 := Lib.hid (Nat.le_trans KN164.out hgw.size)
        have KG173 := Lib.hid (Nat.lt_of_lt_of_le HGL0.out hgw.size)
        clear KY0160 KY1161 KBR162 KB163 KN164 HGL0
        clear hz8 hgz8 hgw hloc hn8 hgg HEM0
        rw [show z8.v = .slice z8.A z8.l.length z8.c from rfl]
        refine hK.out _ _ trivial (fun _ => ?_)
        clear hK K
        try simp only [Act.put, List.getElem_toArray, List.getElem_cons_succ, List.getElem_cons_zero, List.setIfInBounds_toArray, List.set_cons_zero, List.set_cons_succ]
        refine wpAnyH_ready (rs := [11]) (by kernel_rfl) (by simp) ?_
        refine AllReadyH.cons rfl (fun K hK => ?_) AllReadyH.nil
        refine step_push_ls ki_u8 rfl (.tmp 71) (.tmp 73) rfl gE z8 ⟨[c], some ⟨n10, 0, none⟩, 1⟩ HZ0.out rfl HONEb.out rfl (by rw [HZL.out, ← HN.out]; show m + 1 ≤ _; omega) (Nat.le_of_lt KG173.out) ?_
        intro y3 xl hy3 hgy3 hgw
        have hzN : ∀ g, z8.v.ownBlock = some g → N ≤ g := fun g e => Nat.le_trans HNG.out (HZ0.out.lt g e).1
        have h0 := KY0168.out.bf (F := fun k => N ≤ k) (Bf.grown hgw hzN)
        have h1 := KY1169.out.bf (F := fun k => N ≤ k) (Bf.grown hgw hzN)
        have h2 := HY2b.out.bf (F := fun k => k = gE ∨ n8 ≤ k) (Bf.grown hgw HLOC.out)
        have h3 := hgy3.lz (F := No) (fun _ h => h.elim)
        have hl3 : y3.l.length ≤ 40000 := by rw [hy3, HZL.out, List.length_append, ← HN.out]; show m + 1 ≤ _; omega
        have hbl := KB171.out.grown hgw KB171.out.size fun g e => Nat.le_trans HWN.out (hzN g e)
        have HA := Lib.hid (all4 HY0V.out HY1V.out rfl rfl h0.no h1.no h2.no h3 HY0L.out HY1L.out HY2L.out hl3 hbl)
        clear h0 h1 h2 h3 hl3 hbl hzN hy3 hgy3 hgw
        rw [show y3.v = .slice y3.A y3.l.length y3.c from rfl]
        refine hK.out _ _ trivial (fun _ => ?_)
        clear hK K
        try simp only [Act.put, List.getElem_toArray, List.getElem_cons_succ, List.getElem_cons_zero, List.setIfInBounds_toArray, List.set_cons_zero, List.set_cons_succ]
        refine wpAnyH_ready (rs := [12]) (by kernel_rfl) (by simp) ?_
        refine AllReadyH.cons rfl (fun K hK => ?_) AllReadyH.nil
        go_simp
        refine hK.out _ _ trivial (fun _ => ?_)
        clear hK K
        try simp only [Act.put, List.getElem_toArray, List.getElem_cons_succ, List.getElem_cons_zero, List.setIfInBounds_toArray, List.set_cons_zero, List.set_cons_succ]
        refine wpAnyH_take (i := 13) (v := ?_) rfl (by kernel_rfl) (by kernel_rfl) (by kernel_rfl) (fun _ _ _ h => h) (Or.inl ⟨by rfl, ?_⟩) (by trivial) ?_
        rotate_left
        · (intro w hSw; clear hSw; go_simp; try (with_reducible rfl))
        try simp only [Act.put, List.getElem_toArray, List.getElem_cons_succ, List.getElem_cons_zero, List.setIfInBounds_toArray, List.set_cons_zero, List.set_cons_succ]
        refine wpAnyH_done (by kernel_rfl) ?_ _
        go_wp2_with fail
        go_meet
        exact HA.out
      · skip
        go_simp
        have hb := (Below.refl _ x143).alloc (Nat.le_refl _) (.cells #[] 5)
        have hem : Gr kU8 x143.heap.size (x143.alloc (.cells #[] 5)) ⟨[], some ⟨x143.heap.size, 0, none⟩, 0⟩ := gr_empty kU8 (B := x143.heap.size) x143 (Nat.le_refl _)
        refine hK.out _ _ trivial (fun _ => ?_)
        clear hK K
        try simp only [Act.put, List.getElem_toArray, List.getElem_cons_succ, List.getElem_cons_zero, List.setIfInBounds_toArray, List.set_cons_zero, List.set_cons_succ]
        obtain ⟨gE, hgE⟩ : ∃ gE, gE = x143.heap.size := ⟨_, rfl⟩
        have PONE175 := Lib.hid ((HONE0.out.beyond (n := x143.heap.size) (Nat.le_refl _)).weak (G := fun k => k = gE) (fun k _ h => by have h : k = gE := h; show x143.heap.size ≤ k; omega))
        clear HONE0
        obtain ⟨x174, hw2⟩ : ∃ u, u = x143.alloc (.cells #[] 5) := ⟨_, rfl⟩
        rw [← hw2] at hb hem ⊢
        have HNG := Lib.hid (show N ≤ gE from hgE ▸ KN149.out)
        have HGL0 := Lib.hid (show gE < x174.heap.size from by rw [hgE, hw2]; first | (simp; done) | exact Nat.lt_succ_self _)
        rw [← hgE] at hem ⊢
        have HEM0 := Lib.hid hem
        clear hw2 hem
        have KY0176 := Lib.hid (KY0144.out.bf (F := fun k => N ≤ k) (Bf.below hb))
        have KY1177 := Lib.hid (KY1145.out.bf (F := fun k => N ≤ k) (Bf.below hb))
        have KBR178 := Lib.hid (KBR146.out.bf (F := fun k => N ≤ k) (Bf.below hb))
        have KX179 := Lib.hid (KX147.out.bf (F := fun k => N ≤ k) (Bf.below hb))
        have KB180 := Lib.hid (KB148.out.trans (hb.mono KB148.out.size))
        have KN181 := Lib.hid (Nat.le_trans KN149.out hb.size)
        have KONE182 := Lib.hid (PONE175.out.bf (F := fun k => k = gE) (Bf.below hb))
        clear KY0144 KY1145 KBR146 KX147 KB148 KN149 PONE175
        clear hb hgE
        refine wpAnyH_ready (rs := [5]) (by kernel_rfl) (by simp) ?_
        refine AllReadyH.cons rfl (fun K hK => ?_) AllReadyH.nil
        go_simp
        have HC := Lib.hid (few_ls (w := x174) x (KX179.out.no))
        refine (HC.out).mono ?_
        rintro e x183 ⟨y2, rfl, hy2l, hgy, hb⟩
        have HY2L := Lib.hid (show y2.l.length ≤ 40000 from by rw [hy2l, List.length_take]; omega)
        have HY2n := Lib.hid (hgy.lz (F := fun k => k = gE) (fun k hk => by have hk : k = gE := hk; have := HGL0.out; omega))
        have KY0184 := Lib.hid (KY0176.out.bf (F := fun k => N ≤ k) (Bf.below hb))
        have KY1185 := Lib.hid (KY1177.out.bf (F := fun k => N ≤ k) (Bf.below hb))
        have KBR186 := Lib.hid (KBR178.out.bf (F := fun k => N ≤ k) (Bf.below hb))
        have KB187 := Lib.hid (KB180.out.trans (hb.mono KB180.out.size))
        have KN188 := Lib.hid (Nat.le_trans KN181.out hb.size)
        have KG189 := Lib.hid (Nat.lt_of_lt_of_le HGL0.out hb.size)
        have KE190 := Lib.hid (HEM0.out.below hb)
        have KONE191 := Lib.hid (KONE182.out.bf (F := fun k => k = gE) (Bf.below hb))
        clear KY0176 KY1177 KBR178 KB180 KN181 HGL0 HEM0 KONE182
        clear hb hy2l hgy HC KX179
        try go_simp
        refine hK.out _ _ trivial (fun _ => ?_)
        clear hK K
        try simp only [Act.put, List.getElem_toArray, List.getElem_cons_succ, List.getElem_cons_zero, List.setIfInBounds_toArray, List.set_cons_zero, List.set_cons_succ]
        refine wpAnyH_ready (rs := [8]) (by kernel_rfl) (by simp) ?_
        refine AllReadyH.cons rfl (fun K hK => ?_) AllReadyH.nil
        refine step_push1 ki_u8 rfl (.tmp 69) (.tmp 70) rfl gE ⟨[], some ⟨gE, 0, none⟩, 0⟩ KE190.out rfl ⟨bb, boff, none⟩ m bc bl rfl HN.out hpos KBR186.out.src (by show 0 + bl.length ≤ _; rw [← HN.out]; omega) (Nat.le_of_lt KG189.out) ?_
        intro z8 x192 hz8 hgz8 hgw hloc
        have HZL := Lib.hid (show z8.l = bl from hz8)
        have HZ0 := Lib.hid hgz8
        obtain ⟨n8, hn8⟩ : ∃ n8, n8 = x183.heap.size := ⟨_, rfl⟩
        have HLOC := Lib.hid (show ∀ k, z8.v.ownBlock = some k → k = gE ∨ n8 ≤ k from fun k e => by rcases hloc k e with h | h; exact .inl (by have h : some gE = some k := h; injection h with h; exact h.symm); exact .inr (hn8 ▸ h))
        have hgg : ∀ g, (Ls.v (⟨[], some ⟨gE, 0, none⟩, 0⟩ : Ls UInt8)).ownBlock = some g → g = gE := fun g e => by have e : some gE = some g := e; injection e with e; exact e.symm
        have HY2b := Lib.hid (((HY2n.out).weak (G := fun k => k = gE ∨ n8 ≤ k) (fun k hk h => by have h : k = gE ∨ n8 ≤ k := h; show k = gE; omega)).bf (F := fun k => k = gE ∨ n8 ≤ k) (Bf.grown hgw fun g e => .inl (hgg g e)))
        clear HY2n
        have HONEb := Lib.hid (KONE191.out.bf (F := fun k => k = gE) (Bf.grown hgw fun g e => hgg g e))
        clear KONE191
        have KY0193 := Lib.hid (KY0184.out.bf (F := fun k => N ≤ k) (Bf.grown hgw fun g e => (by have := hgg g e; have := HNG.out; show N ≤ g; omega)))
        have KY1194 := Lib.hid (KY1185.out.bf (F := fun k => N ≤ k) (Bf.grown hgw fun g e => (by have := hgg g e; have := HNG.out; show N ≤ g; omega)))
        have KBR195 := Lib.hid (KBR186.out.bf (F := fun k => N ≤ k) (Bf.grown hgw fun g e => (by have := hgg g e; have := HNG.out; show N ≤ g; omega)))
        have KB196 := Lib.hid (KB187.out.grown hgw KB187.out.size fun g e => Nat.le_trans HWN.out ((by have := hgg g e; have := HNG.out; show N ≤ g; omega)))
        have KN197 := Lib.hid (Nat.le_trans KN188.out hgw.size)
        have KG198 := Lib.hid (Nat.lt_of_lt_of_le KG189.out hgw.size)
        clear KY0184 KY1185 KBR186 KB187 KN188 KG189
        clear hz8 hgz8 hgw hloc hn8 hgg KE190
        rw [show z8.v = .slice z8.A z8.l.length z8.c from rfl]
        refine hK.out _ _ trivial (fun _ => ?_)
        clear hK K
        try simp only [Act.put, List.getElem_toArray, List.getElem_cons_succ, List.getElem_cons_zero, List.setIfInBounds_toArray, List.set_cons_zero, List.set_cons_succ]
        refine wpAnyH_ready (rs := [11]) (by kernel_rfl) (by simp) ?_
        refine AllReadyH.cons rfl (fun K hK => ?_) AllReadyH.nil
        refine step_push_ls ki_u8 rfl (.tmp 71) (.tmp 73) rfl gE z8 ⟨[c], some ⟨n10, 0, none⟩, 1⟩ HZ0.out rfl HONEb.out rfl (by rw [HZL.out, ← HN.out]; show m + 1 ≤ _; omega) (Nat.le_of_lt KG198.out) ?_
        intro y3 xl hy3 hgy3 hgw
        have hzN : ∀ g, z8.v.ownBlock = some g → N ≤ g := fun g e => Nat.le_trans HNG.out (HZ0.out.lt g e).1
        have h0 := KY0193.out.bf (F := fun k => N ≤ k) (Bf.grown hgw hzN)
        have h1 := KY1194.out.bf (F := fun k => N ≤ k) (Bf.grown hgw hzN)
        have h2 := HY2b.out.bf (F := fun k => k = gE ∨ n8 ≤ k) (Bf.grown hgw HLOC.out)
        have h3 := hgy3.lz (F := No) (fun _ h => h.elim)
        have hl3 : y3.l.length ≤ 40000 := by rw [hy3, HZL.out, List.length_append, ← HN.out]; show m + 1 ≤ _; omega
        have hbl := KB196.out.grown hgw KB196.out.size fun g e => Nat.le_trans HWN.out (hzN g e)
        have HA := Lib.hid (all4 HY0V.out HY1V.out rfl rfl h0.no h1.no h2.no h3 HY0L.out HY1L.out HY2L.out hl3 hbl)
        clear h0 h1 h2 h3 hl3 hbl hzN hy3 hgy3 hgw
        rw [show y3.v = .slice y3.A y3.l.length y3.c from rfl]
        refine hK.out _ _ trivial (fun _ => ?_)
        clear hK K
        try simp only [Act.put, List.getElem_toArray, List.getElem_cons_succ, List.getElem_cons_zero, List.setIfInBounds_toArray, List.set_cons_zero, List.set_cons_succ]
        refine wpAnyH_ready (rs := [12]) (by kernel_rfl) (by simp) ?_
        refine AllReadyH.cons rfl (fun K hK => ?_) AllReadyH.nil
        go_simp
        refine hK.out _ _ trivial (fun _ => ?_)
        clear hK K
        try simp only [Act.put, List.getElem_toArray, List.getElem_cons_succ, List.getElem_cons_zero, List.setIfInBounds_toArray, List.set_cons_zero, List.set_cons_succ]
        refine wpAnyH_take (i := 13) (v := ?_) rfl (by kernel_rfl) (by kernel_rfl) (by kernel_rfl) (fun _ _ _ h => h) (Or.inl ⟨by rfl, ?_⟩) (by trivial) ?_
        rotate_left
        · (intro w hSw; clear hSw; go_simp; try (with_reducible rfl))
        try simp only [Act.put, List.getElem_toArray, List.getElem_cons_succ, List.getElem_cons_zero, List.setIfInBounds_toArray, List.set_cons_zero, List.set_cons_succ]
        refine wpAnyH_done (by kernel_rfl) ?_ _
        go_wp2_with fail
        go_meet
        exact HA.out
  case rest =>
    obtain ⟨G, y, rfl, hG, hy, hyl, hb⟩ := hcut
    obtain ⟨w13, rfl⟩ : ∃ w13, w13 = wc := ⟨_, rfl⟩
    have HG := Lib.hid hG
    have HY := Lib.hid hy
    have HYL := Lib.hid hyl
    have HB := Lib.hid hb
    clear hG hy hyl hb hsl q0_ q1_ hcap HAT HX11 HB11 HY0G HY0V HY0L HBR11 HY1Z HY1V HY1L HN HXN HHN HTA hpos hlen hr
    try clear HB8
    go_wp2_with fail
    go_loopw [20] (fun i wr => ∃ k : Nat, k ≤ 4 ∧ i = .int .i64 (k : Int) ∧ Blk wr G 28 #[(y 0).v, (y 1).v, (y 2).v, (y 3).v] ∧ (∀ i, i < 4 → Lz kU8 No wr (y i)) ∧ Below w.heap.size w wr) (fun i _ => 4 - (intOf i).toNat)
    case atStart => exact ⟨0, Nat.zero_le _, rfl, HG.out, HY.out, HB.out⟩
    case round =>
      obtain ⟨k, hk4, rfl, hG, hy, hb⟩ := hrel
      have HK4 := Lib.hid hk4
      clear HG HY HB
      by_cases hlt : k < 4
      · have hck := cell4 hG hlt
        obtain ⟨yk, hyk⟩ : ∃ z, z = y k := ⟨_, rfl⟩
        have hyz := hy k hlt
        have hyn := HYL.out k hlt
        rw [← hyk] at hck hyz hyn
        have HYK := Lib.hid hyk
        clear hyk
        obtain ⟨wo, rfl⟩ : ∃ wo, wo = wr := ⟨_, rfl⟩
        obtain ⟨lk, Ak, ck⟩ := yk
        obtain ⟨nk, hnk⟩ : ∃ n, n = lk.length := ⟨_, rfl⟩
        have hyn : lk.length ≤ 40000 := hyn
        have hck2 : wo.cell? ⟨G, k, none⟩ = some (.slice Ak nk ck) := by rw [hnk]; exact hck
        clear hck
        have HGT := Lib.hid (show Calls Tryz.prog 21 #[.slice Ak nk ck] wo (Got wo lk) from by rw [hnk]; exact get_any ⟨lk, Ak, ck⟩ hyz (by show lk.length ≤ 1000000; omega))
        have HG := Lib.hid hG
        have HY := Lib.hid hy
        have HB := Lib.hid hb
        have HYZ := Lib.hid hyz
        have HYN := Lib.hid hyn
        have HNK := Lib.hid hnk
        have q0 : (0 : Int) ≤ (k : Int) := by omega
        have q1 : (k : Int) < 4 := by omega
        clear hG hy hb hyz hyn hnk
        go_wp2_with fail
        refine (HGT.out).mono ?_
        rintro e w14 ⟨u, rfl, hlu, hku, h0, h1, hb14⟩
        have HGW := Lib.hid (got_wide HYN.out hku h0 h1)
        obtain ⟨wg, hwg⟩ : ∃ wg, wg = wrong lk := ⟨_, rfl⟩
        rw [← hwg] at HGW ⊢
        have HVZ := Lib.hid (Vr.new w14 LOp.zero)
        have HVN := Lib.hid (var_new w14 u)
        have HLU := Lib.hid (var_lies (F := No) hlu LOp.zero u)
        have hb15 := hb14.trans (var_below w14 LOp.zero u hb14.size)
        have HG5 := Lib.hid (HG.out.below hb15 HG.out.lt)
        have HY5 := Lib.hid (show ∀ i, i < 4 → Lz kU8 No _ (y i) from fun i hi => (HY.out i hi).bf (F := No) (Bf.below hb15))
        have HYZ5 := Lib.hid (HYZ.out.bf (F := No) (Bf.below hb15))
        have hB5 := HB.out.trans (hb15.mono HB.out.size)
        have HB5 := Lib.hid hB5
        have HKK := Lib.hid (show ∀ W : World, Blk W G 28 #[(y 0).v, (y 1).v, (y 2).v, (y 3).v] → W.cell? ⟨G, k, none⟩ = some (.slice Ak nk ck) from fun W h => by rw [HNK.out]; exact (cell4 h hlt).trans (congrArg (fun z => some (Ls.v z)) HYK.out.symm))
        clear hlu hku h0 h1 hb14 hb15 HGT HG HY HB HYZ hwg hB5 hck2
        go_upto_region 15 with (refine wpList_store_op (o' := u) rfl _ _ rfl rfl rfl HVZ.out ?_)
        rw [zc]
        obtain ⟨V, hV⟩ : ∃ V, V = w14.heap.size := ⟨_, rfl⟩
        obtain ⟨w15, hw15⟩ : ∃ w15, w15 = (w14.alloc (.cells LOp.zero.cells 35)).setRow w14.heap.size u.cells := ⟨_, rfl⟩
        rw [← hw15] at HVN HLU HG5 HY5 HYZ5 HB5 ⊢
        rw [← hV] at HVN ⊢
        clear hw15 hV HVZ
        by_cases hw0 : wg = 0
        · subst hw0
          have HPUT := Lib.hid (HGW.out.2.1 rfl)
          have HWIDE := Lib.hid HGW.out.1
          obtain ⟨sa, hsa⟩ : ∃ s : ByteArray, s = ⟨lk.toArray⟩ := ⟨_, rfl⟩
          have HSA := Lib.hid hsa
          have HVd := Lib.hid (show Vr w15.drew V u from HVN.out)
          have HLd := Lib.hid (show Lies No w15.drew u from HLU.out.bf (Bf.drew w15))
          have HGd := Lib.hid (show Blk w15.drew G 28 #[(y 0).v, (y 1).v, (y 2).v, (y 3).v] from HG5.out.below (below_drewN w15 1 w15.heap.size) HG5.out.lt)
          have HYd := Lib.hid (show ∀ i, i < 4 → Lz kU8 No w15.drew (y i) from fun i hi => (HY5.out i hi).bf (Bf.drew w15))
          have HYZd := Lib.hid (show Lz kU8 No w15.drew ⟨lk, Ak, ck⟩ from HYZ5.out.bf (Bf.drew w15))
          have HBd := Lib.hid (show Below w.heap.size w w15.drew from HB5.out.trans (below_drewN w15 1 w.heap.size))
          have HLT4 := Lib.hid hlt
          have HCK := Lib.hid HKK.out
          have hckd := HKK.out _ HGd.out
          clear hsa HKK HGW HVN HLU HG5 HY5 HYZ5 HB5
          refine wp_region_held_drew (S := (fun w' : World => Vr w' V u ∧ w'.cell? ⟨G, k, none⟩ = some (.slice Ak nk ck) ∧ Lz kU8 No w' ⟨lk, Ak, ck⟩)) (by kernel_rfl) ⟨HVd.out, hckd, HYZd.out⟩ (fun hHeld => ?_)
          try simp only [Act.put, List.getElem_toArray, List.getElem_cons_succ, List.getElem_cons_zero, List.setIfInBounds_toArray, List.set_cons_zero, List.set_cons_succ]
          refine wpAnyH_take (i := 0) (v := ?_) rfl (by kernel_rfl) (by kernel_rfl) (by kernel_rfl) (fun _ _ _ h => h) (Or.inl ⟨by rfl, ?_⟩) (by assumption) ?_
          rotate_left
          · (intro w hSw; (try dsimp only at hSw); go_simp; try (with_reducible rfl))
          try simp only [Act.put, List.getElem_toArray, List.getElem_cons_zero, List.setIfInBounds_toArray, List.set_cons_zero, List.set_cons_succ]
          refine wpAnyH_take (i := 1) (v := ?_) rfl (by kernel_rfl) (by kernel_rfl) (by kernel_rfl) (fun _ _ _ h => h) (Or.inl ⟨by rfl, ?_⟩) (by assumption) ?_
          rotate_left
          · (intro w hSw; (try dsimp only at hSw); go_simp; try (with_reducible rfl))
          try simp only [Act.put, List.getElem_toArray, List.getElem_cons_succ, List.getElem_cons_zero, List.setIfInBounds_toArray, List.set_cons_zero, List.set_cons_succ]
          refine wpAnyH_take (i := 2) (v := ?_) rfl (by kernel_rfl) (by kernel_rfl) (by kernel_rfl) (fun _ _ _ h => h) (Or.inl ⟨by rfl, ?_⟩) (by assumption) ?_
          rotate_left
          · (intro w hSw; (try dsimp only at hSw); go_simp; try (with_reducible rfl))
          try simp only [Act.put, List.getElem_toArray, List.getElem_cons_succ, List.getElem_cons_zero, List.setIfInBounds_toArray, List.set_cons_zero, List.set_cons_succ]
          refine wpAnyH_take (i := 3) (v := ?_) rfl (by kernel_rfl) (by kernel_rfl) (by kernel_rfl) (fun _ _ _ h => h) (Or.inl ⟨by rfl, ?_⟩) (by assumption) ?_
          rotate_left
          · (intro w hSw; (try dsimp only at hSw); refine run_load_op _ (.tmp 21) ?_ ?_ hSw.1 <;> rfl)
          try simp only [Act.put, List.getElem_toArray, List.getElem_cons_succ, List.getElem_cons_zero, List.setIfInBounds_toArray, List.set_cons_zero, List.set_cons_succ]
          refine wpAnyH_take (i := 6) (v := ?_) rfl (by kernel_rfl) (by kernel_rfl) (by kernel_rfl) (fun _ _ _ h => h) (Or.inl ⟨by rfl, ?_⟩) (by assumption) ?_
          rotate_left
          · (intro w hSw; (try dsimp only at hSw); go_simp; try (with_reducible rfl))
          try simp only [Act.put, List.getElem_toArray, List.getElem_cons_succ, List.getElem_cons_zero, List.setIfInBounds_toArray, List.set_cons_zero, List.set_cons_succ]
          refine wpAnyH_take (i := 7) (v := ?_) rfl (by kernel_rfl) (by kernel_rfl) (by kernel_rfl) (fun _ _ _ h => h) (Or.inl ⟨by rfl, ?_⟩) (by assumption) ?_
          rotate_left
          · (intro w hSw; (try dsimp only at hSw); go_simp; try (with_reducible rfl))
          try simp only [Act.put, List.getElem_toArray, List.getElem_cons_succ, List.getElem_cons_zero, List.setIfInBounds_toArray, List.set_cons_zero, List.set_cons_succ]
          refine wpAnyH_take (i := 8) (v := ?_) rfl (by kernel_rfl) (by kernel_rfl) (by kernel_rfl) (fun _ _ _ h => h) (Or.inl ⟨by rfl, ?_⟩) (by assumption) ?_
          rotate_left
          · (intro w hSw; (try dsimp only at hSw); go_simp; try (with_reducible rfl))
          try simp only [Act.put, List.getElem_toArray, List.getElem_cons_succ, List.getElem_cons_zero, List.setIfInBounds_toArray, List.set_cons_zero, List.set_cons_succ]
          refine wpAnyH_take (i := 9) (v := ?_) rfl (by kernel_rfl) (by kernel_rfl) (by kernel_rfl) (fun _ _ _ h => h) (Or.inl ⟨by rfl, ?_⟩) (by assumption) ?_
          rotate_left
          · (intro w hSw; (try dsimp only at hSw); have cc := hSw.2.1; clear hSw; go_simp; try (with_reducible rfl))
          try simp only [Act.put, List.getElem_toArray, List.getElem_cons_succ, List.getElem_cons_zero, List.setIfInBounds_toArray, List.set_cons_zero, List.set_cons_succ]
          refine wpAnyH_take (i := 10) (v := ?_) rfl (by kernel_rfl) (by kernel_rfl) (by kernel_rfl) (fun _ _ _ h => h) (Or.inl ⟨by rfl, ?_⟩) (by assumption) ?_
          rotate_left
          · (intro w hSw; (try dsimp only at hSw); have cv : (convert 28 9 (.slice Ak nk ck)).run Tryz.prog w = .ok (.string sa) w := (by rw [HSA.out]; exact cu_conv_rd Ak nk ck _ _ lk HNK.out hSw.2.2.rd8); clear hSw; go_simp; try (with_reducible rfl))
          try simp only [Act.put, List.getElem_toArray, List.getElem_cons_succ, List.getElem_cons_zero, List.setIfInBounds_toArray, List.set_cons_zero, List.set_cons_succ]
          refine wpAnyH_ready (rs := [4]) (by kernel_rfl) (by simp) ?_
          refine AllReadyH.cons rfl (fun K hK => ?_) AllReadyH.nil
          go_simp
          have HC := Lib.hid (rput_wide u HLd.out HWIDE.out)
          refine (HC.out).mono ?_
          rintro e w16 ⟨yp, rfl, hyl, hgy, hb⟩
          have HV6 := Lib.hid (HVd.out.below hb (Blk.lt HVd.out))
          have HG6 := Lib.hid (HGd.out.below hb HGd.out.lt)
          have HY6 := Lib.hid (show ∀ i, i < 4 → Lz kU8 No w16 (y i) from fun i hi => (HYd.out i hi).bf (Bf.below hb))
          have HYZ6 := Lib.hid (HYZd.out.bf (F := No) (Bf.below hb))
          have HB6 := Lib.hid (HBd.out.trans (hb.mono HBd.out.size))
          have HYP := Lib.hid (hgy.lz (F := No) fun _ h => h.elim)
          have HYPL := Lib.hid (hyl.trans HPUT.out)
          have hck6 := HCK.out _ HG6.out
          clear hb HC hyl hgy hckd HVd HLd HGd HYd HYZd HBd
          try go_simp
          refine hK.out _ _ ⟨HV6.out, hck6, HYZ6.out⟩ (fun hHeld1 => ?_)
          clear hK K
          try simp only [Act.put, List.getElem_toArray, List.getElem_cons_succ, List.getElem_cons_zero, List.setIfInBounds_toArray, List.set_cons_zero, List.set_cons_succ]
          refine wpAnyH_and (fun w' => Lz kU8 No w' yp) _ _ _ _ ?_
          have hHeld : (Vr w16 V u ∧ w16.cell? ⟨G, k, none⟩ = some (.slice Ak nk ck) ∧ Lz kU8 No w16 ⟨lk, Ak, ck⟩) ∧ Lz kU8 No w16 yp := ⟨⟨HV6.out, hck6, HYZ6.out⟩, HYP.out⟩
          refine wpAnyH_take (i := 5) (v := ?_) rfl (by kernel_rfl) (by kernel_rfl) (by kernel_rfl) (fun _ _ _ h => h) (Or.inl ⟨by rfl, ?_⟩) (by assumption) ?_
          rotate_left
          · (intro w hSw; (try dsimp only at hSw); have cv : (convert 28 9 yp.v).run Tryz.prog w = .ok (.string sa) w := (by rw [HSA.out, ← HYPL.out]; exact cu_conv_rd yp.A yp.l.length yp.c _ _ yp.l rfl hSw.2.rd8); clear hSw; go_simp; try (with_reducible rfl))
          try simp only [Act.put, List.getElem_toArray, List.getElem_cons_succ, List.getElem_cons_zero, List.setIfInBounds_toArray, List.set_cons_zero, List.set_cons_succ]
          refine wpAnyH_take (i := 11) (v := ?_) rfl (by kernel_rfl) (by kernel_rfl) (by kernel_rfl) (fun _ _ _ h => h) (Or.inl ⟨by rfl, ?_⟩) (by assumption) ?_
          rotate_left
          · (intro w hSw; (try dsimp only at hSw); clear hSw; go_simp; try (with_reducible rfl))
          try simp only [Act.put, List.getElem_toArray, List.getElem_cons_succ, List.getElem_cons_zero, List.setIfInBounds_toArray, List.set_cons_zero, List.set_cons_succ]
          refine wpAnyH_take (i := 12) (v := ?_) rfl (by kernel_rfl) (by kernel_rfl) (by kernel_rfl) (fun _ _ _ h => h) (Or.inl ⟨by rfl, ?_⟩) (by assumption) ?_
          rotate_left
          · (intro w hSw; (try dsimp only at hSw); clear hSw; go_simp; try (with_reducible rfl))
          try simp only [Act.put, List.getElem_toArray, List.getElem_cons_succ, List.getElem_cons_zero, List.setIfInBounds_toArray, List.set_cons_zero, List.set_cons_succ]
          refine wpAnyH_done (by kernel_rfl) ?_ _
          clear hck6 hHeld hHeld1
          go_wp2
          go_roundw
          case rel => exact ⟨k + 1, by have := HLT4.out; omega, by go_num, HG6.out, HY6.out, HB6.out⟩
          case measure => simp [intOf]; omega
        · skip
          have hwb : ((wg : Int) == 0) = false := by rw [beq_eq_false_iff_ne]; omega
          have hwb2 : ((wg : Int) != 0) = true := by rw [bne_iff_ne]; omega
          have hu := HGW.out.2.2 hw0
          subst hu
          have HVd := Lib.hid (show Vr w15.drew V LOp.zero from HVN.out)
          have HLd := Lib.hid (show Lies No w15.drew LOp.zero from HLU.out.bf (Bf.drew w15))
          have HGd := Lib.hid (show Blk w15.drew G 28 #[(y 0).v, (y 1).v, (y 2).v, (y 3).v] from HG5.out.below (below_drewN w15 1 w15.heap.size) HG5.out.lt)
          have HYd := Lib.hid (show ∀ i, i < 4 → Lz kU8 No w15.drew (y i) from fun i hi => (HY5.out i hi).bf (Bf.drew w15))
          have HBd := Lib.hid (show Below w.heap.size w w15.drew from HB5.out.trans (below_drewN w15 1 w.heap.size))
          have HLT4 := Lib.hid hlt
          clear HKK HGW HVN HLU HG5 HY5 HYZ5 HB5 hw0
          refine wp_region_held_drew (S := fun _ : World => True) (by kernel_rfl) trivial (fun hHeld => ?_)
          try simp only [Act.put, List.getElem_toArray, List.getElem_cons_succ, List.getElem_cons_zero, List.setIfInBounds_toArray, List.set_cons_zero, List.set_cons_succ]
          refine wpAnyH_take (i := 0) (v := ?_) rfl (by kernel_rfl) (by kernel_rfl) (by kernel_rfl) (fun _ _ _ h => h) (Or.inl ⟨by rfl, ?_⟩) (by assumption) ?_
          rotate_left
          · (intro w hSw; (try dsimp only at hSw); go_simp; try (with_reducible rfl))
          try simp only [Act.put, List.getElem_toArray, List.getElem_cons_zero, List.setIfInBounds_toArray, List.set_cons_zero, List.set_cons_succ]
          refine wpAnyH_take (i := 1) (v := ?_) rfl (by kernel_rfl) (by kernel_rfl) (by kernel_rfl) (fun _ _ _ h => h) (Or.inl ⟨by rfl, ?_⟩) (by assumption) ?_
          rotate_left
          · (intro w hSw; (try dsimp only at hSw); go_simp; try (with_reducible rfl))
          try simp only [Act.put, List.getElem_toArray, List.getElem_cons_succ, List.getElem_cons_zero, List.setIfInBounds_toArray, List.set_cons_zero, List.set_cons_succ]
          refine wpAnyH_take (i := 2) (v := ?_) rfl (by kernel_rfl) (by kernel_rfl) (by kernel_rfl) (fun _ _ _ h => h) (Or.inl ⟨by rfl, ?_⟩) (by assumption) ?_
          rotate_left
          · (intro w hSw; (try dsimp only at hSw); go_simp; try (with_reducible rfl))
          try simp only [Act.put, List.getElem_toArray, List.getElem_cons_succ, List.getElem_cons_zero, List.setIfInBounds_toArray, List.set_cons_zero, List.set_cons_succ]
          refine wpAnyH_take (i := 3) (v := undef) rfl (by kernel_rfl) (by kernel_rfl) (by kernel_rfl) (fun _ _ _ h => h) (Or.inr ⟨by rfl, rfl⟩) (by assumption) ?_
          try simp only [Act.put, List.getElem_toArray, List.getElem_cons_succ, List.getElem_cons_zero, List.setIfInBounds_toArray, List.set_cons_zero, List.set_cons_succ]
          refine wpAnyH_take (i := 4) (v := undef) rfl (by kernel_rfl) (by kernel_rfl) (by kernel_rfl) (fun _ _ _ h => h) (Or.inr ⟨by rfl, rfl⟩) (by assumption) ?_
          try simp only [Act.put, List.getElem_toArray, List.getElem_cons_succ, List.getElem_cons_zero, List.setIfInBounds_toArray, List.set_cons_zero, List.set_cons_succ]
          refine wpAnyH_take (i := 5) (v := undef) rfl (by kernel_rfl) (by kernel_rfl) (by kernel_rfl) (fun _ _ _ h => h) (Or.inr ⟨by rfl, rfl⟩) (by assumption) ?_
          try simp only [Act.put, List.getElem_toArray, List.getElem_cons_succ, List.getElem_cons_zero, List.setIfInBounds_toArray, List.set_cons_zero, List.set_cons_succ]
          refine wpAnyH_take (i := 6) (v := undef) rfl (by kernel_rfl) (by kernel_rfl) (by kernel_rfl) (fun _ _ _ h => h) (Or.inr ⟨by rfl, rfl⟩) (by assumption) ?_
          try simp only [Act.put, List.getElem_toArray, List.getElem_cons_succ, List.getElem_cons_zero, List.setIfInBounds_toArray, List.set_cons_zero, List.set_cons_succ]
          refine wpAnyH_take (i := 7) (v := undef) rfl (by kernel_rfl) (by kernel_rfl) (by kernel_rfl) (fun _ _ _ h => h) (Or.inr ⟨by rfl, rfl⟩) (by assumption) ?_
          try simp only [Act.put, List.getElem_toArray, List.getElem_cons_succ, List.getElem_cons_zero, List.setIfInBounds_toArray, List.set_cons_zero, List.set_cons_succ]
          refine wpAnyH_take (i := 8) (v := undef) rfl (by kernel_rfl) (by kernel_rfl) (by kernel_rfl) (fun _ _ _ h => h) (Or.inr ⟨by rfl, rfl⟩) (by assumption) ?_
          try simp only [Act.put, List.getElem_toArray, List.getElem_cons_succ, List.getElem_cons_zero, List.setIfInBounds_toArray, List.set_cons_zero, List.set_cons_succ]
          refine wpAnyH_take (i := 9) (v := undef) rfl (by kernel_rfl) (by kernel_rfl) (by kernel_rfl) (fun _ _ _ h => h) (Or.inr ⟨by rfl, rfl⟩) (by assumption) ?_
          try simp only [Act.put, List.getElem_toArray, List.getElem_cons_succ, List.getElem_cons_zero, List.setIfInBounds_toArray, List.set_cons_zero, List.set_cons_succ]
          refine wpAnyH_take (i := 10) (v := undef) rfl (by kernel_rfl) (by kernel_rfl) (by kernel_rfl) (fun _ _ _ h => h) (Or.inr ⟨by rfl, rfl⟩) (by assumption) ?_
          try simp only [Act.put, List.getElem_toArray, List.getElem_cons_succ, List.getElem_cons_zero, List.setIfInBounds_toArray, List.set_cons_zero, List.set_cons_succ]
          refine wpAnyH_take (i := 11) (v := undef) rfl (by kernel_rfl) (by kernel_rfl) (by kernel_rfl) (fun _ _ _ h => h) (Or.inr ⟨by rfl, rfl⟩) (by assumption) ?_
          try simp only [Act.put, List.getElem_toArray, List.getElem_cons_succ, List.getElem_cons_zero, List.setIfInBounds_toArray, List.set_cons_zero, List.set_cons_succ]
          refine wpAnyH_take (i := 12) (v := ?_) rfl (by kernel_rfl) (by kernel_rfl) (by kernel_rfl) (fun _ _ _ h => h) (Or.inl ⟨by rfl, ?_⟩) (by assumption) ?_
          rotate_left
          · (intro w hSw; (try dsimp only at hSw); go_simp; try (with_reducible rfl))
          try simp only [Act.put, List.getElem_toArray, List.getElem_cons_succ, List.getElem_cons_zero, List.setIfInBounds_toArray, List.set_cons_zero, List.set_cons_succ]
          refine wpAnyH_done (by kernel_rfl) ?_ _
          clear hHeld
          obtain ⟨w16, hw16⟩ : ∃ w16, w16 = w15.drew := ⟨_, rfl⟩
          rw [← hw16] at HVd HLd HGd HYd HBd ⊢
          have HC := Lib.hid (sameop_wide LOp.zero LOp.zero HLd.out HLd.out zero_tiny.wide zero_tiny.wide)
          clear hw16
          go_wp2_with (first | (refine wpList_load_op_on rfl _ rfl rfl HVd.out ?_) | (refine wpList_build_zero_on rfl rfl ?_))
          refine (HC.out).mono ?_
          rintro e w17 ⟨rfl, hb⟩
          first | rw [show decide True = true from rfl] | rw [decide_eq_true rfl]
          have HG6 := Lib.hid (HGd.out.below hb HGd.out.lt)
          have HY6 := Lib.hid (show ∀ i, i < 4 → Lz kU8 No w17 (y i) from fun i hi => (HYd.out i hi).bf (Bf.below hb))
          have HB6 := Lib.hid (HBd.out.trans (hb.mono HBd.out.size))
          clear hb HC HVd HLd HGd HYd HBd
          go_wp2
          go_roundw
          case rel => exact ⟨k + 1, by have := HLT4.out; omega, by go_num, HG6.out, HY6.out, HB6.out⟩
          case measure => simp [intOf]; omega
      · have hk : k = 4 := by omega
        subst hk
        have HL := Lib.hid (lives_any (HK.out.below hb))
        have HB := Lib.hid hb
        clear hG hy hb
        go_wp2_with fail
        refine (HL.out).mono ?_
        rintro e w20 ⟨rfl, hbl⟩
        go_wp2
        go_ret
        exact ⟨rfl, HB.out.trans (hbl.mono HB.out.size)⟩
end Ot
end Go.Proofs.YtkicjjcangkneaaGreatDoor
