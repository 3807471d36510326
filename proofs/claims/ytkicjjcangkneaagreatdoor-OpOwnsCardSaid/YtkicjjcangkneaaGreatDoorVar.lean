/-
  Joined texts: Gta Otw.
-/
import Derived.Test.YtkicjjcangkneaaGreatDoorOtk
import Derived.Test.YtkicjjcangkneaaGreatDoorOtu
import Derived.Test.YtkicjjcangkneaaGreatDoorOtv
import Derived.Test.YtkicjjcangkneaaGreatDoorOtm
import Derived.Test.YtkicjjcangkneaaGreatDoorOto
import Derived.Test.YtkicjjcangkneaaGreatDoorOtn

/-
  Package op's Get (apart, for the seat where the filling of Otk left it out). For up to a million bytes.
-/
namespace Go.Proofs.YtkicjjcangkneaaGreatDoor
open Go.RowKit
attribute [local go_sem ↓] Go.wp_at_zero Go.wp_at_succ
set_option maxRecDepth 100000
namespace Ot
set_option maxHeartbeats 4000000 in
theorem get_any {w : World} (b : Ls UInt8) (hb : Lz kU8 No w b) (hl : b.l.length ≤ 1000000) :
    Calls Tryz.prog 21 #[b.v] w (Got w b.l) := by
  obtain ⟨l, A, c⟩ := b
  obtain ⟨m, hm⟩ : ∃ m, m = l.length := ⟨_, rfl⟩
  have hb1 := hb.bf (Bf.alloc w (.cells LOp.zero.cells 35))
  have hop := open_any A l m c (w.alloc (.cells LOp.zero.cells 35)) hm (by rw [hm]; exact hl) hb1.rd8 (fun e => by
    obtain ⟨h1, h2⟩ := hb.none_ e
    exact ⟨by rw [hm]; exact h1, h2⟩)
  have HOP := Lib.hid hop
  have HR := Lib.hid (Vr.new w LOp.zero)
  have HB0 := Lib.hid ((Below.refl w.heap.size w).alloc (Nat.le_refl _) (.cells LOp.zero.cells 35))
  have hs0 : (w.alloc (.cells LOp.zero.cells 35)).heap.size = w.heap.size + 1 := by simp
  obtain ⟨w0, hw0⟩ : ∃ w0, w0 = w.alloc (.cells LOp.zero.cells 35) := ⟨_, rfl⟩
  rw [← hw0] at HOP HR HB0 hs0
  show Calls _ _ #[.slice A l.length c] w (Got w l)
  rw [← hm]
  have HW0 := Lib.hid hw0
  have HM := Lib.hid hm
  have HS0 := Lib.hid hs0
  clear hb hl hb1 hop hw0 hm hs0
  go_enter Tryz.func21, Tryz.ntmps21
  go_wp2_with fail
  rw [zc, ← HW0.out]
  refine (HOP.out).mono ?_
  rintro x w1 ⟨C, rfl, hC, hcu1, hb1⟩
  have HRD := Lib.hid (read_any hcu1)
  have HR1 := Lib.hid (Vr.below HR.out hb1 (by have := HS0.out; omega))
  have HB1 := Lib.hid (HB0.out.trans (hb1.mono (by have := HS0.out; omega)))
  have HC := Lib.hid (show w.heap.size < C by have := HS0.out; omega)
  have HL := Lib.hid (show C < w1.heap.size from hcu1.lt)
  clear hcu1 hb1 hC HOP HR HB0
  go_wp2_with fail
  refine (HRD.out).mono ?_
  rintro x w2 ⟨o, rfl, hlies, hok, hr0, hs0, k1, e1, hcu2, hrok, hg2⟩
  have HLI := Lib.hid hlies
  have HOK := Lib.hid hok
  have HRO := Lib.hid hrok
  have HR2 := Lib.hid (show Vr w2 w.heap.size LOp.zero from blk_grown HR1.out hg2 (fun eg => by injection eg with eg; have := HC.out; omega))
  have HB2 := Lib.hid (HB1.out.grown hg2 (by have := HB1.out.size; omega) (fun j ej => by injection ej with ej; have := HC.out; omega))
  have HS2 := Lib.hid (show w1.heap.size ≤ w2.heap.size from hg2.size)
  have HCU2 := Lib.hid hcu2
  obtain ⟨ov, hov⟩ : ∃ ov, ov = o.v := ⟨_, rfl⟩
  rw [← hov]
  have HOV := Lib.hid hov
  have HV5 := Lib.hid (Vr.new w2 LOp.zero)
  clear hlies hok hrok hg2 hcu2 HRD HR1 HB1 hov hr0 hs0
  go_wp2_with (refine wpList_store_op rfl _ _ rfl rfl HOV.out HV5.out ?_)
  obtain ⟨w3, hw3⟩ : ∃ w3, w3 = (w2.alloc (.cells LOp.zero.cells 35)).setRow w2.heap.size o.cells := ⟨_, rfl⟩
  have hv3 : Vr w3 w2.heap.size o := hw3 ▸ HV5.out.setRow o
  have hbf : Bf (fun k => k = w2.heap.size) w2 w3 := by
    rw [hw3]
    exact (Bf.alloc w2 _).trans (Bf.setRow _ rfl)
  have hg3 : w2.grownBy w3 none := by
    rw [hw3]
    exact (World.grownBy_alloc w2 _ none).andThen (grown_setRow _ _ _) fun j ej => by injection ej with ej; exact .inl (by omega)
  have hcu3 : Cu C 165 w3 C l k1 e1 := HCU2.out.grown hg3 fun g eg => by cases eg
  have hr3 : Vr w3 w.heap.size LOp.zero := blk_grown HR2.out hg3 (fun eg => by cases eg)
  have HLI3 := Lib.hid ((HLI.out.weak (G := Oth w1.heap.size w2.heap.size) fun k hk h => h.elim id fun h => by omega).bf (Bf.grown hg3 fun g eg => by cases eg))
  have HB3 := Lib.hid (HB2.out.grown hg3 (by have := HB2.out.size; omega) (fun j ej => by cases ej))
  have HS3 := Lib.hid (show w2.heap.size < w3.heap.size from Blk.lt hv3)
  rw [zc, ← hw3]
  have HRD := Lib.hid (rd_num hcu3)
  have HV3 := Lib.hid hv3
  have HR3 := Lib.hid hr3
  have hCV : C ≠ w2.heap.size := by have := HL.out; have := HS2.out; omega
  have hRV : w.heap.size ≠ w2.heap.size := by have := HL.out; have := HS2.out; have := HC.out; omega
  have hRC : w.heap.size ≠ C := by have := HC.out; omega
  have HLT := Lib.hid (show C < w1.heap.size ∧ w1.heap.size ≤ w2.heap.size ∧ w.heap.size < C from ⟨HL.out, HS2.out, HC.out⟩)
  clear hw3 hv3 hbf hg3 hcu3 hr3 HV5 HCU2 HR2 HLI HB2 HL HS2 HC
  go_wp2_with fail
  refine (HRD.out).mono ?_
  rintro x w4 ⟨r, rfl, hr, k2, e2, hcu4, hrok2, hg4⟩
  have HRR := Lib.hid hr
  have HRO2 := Lib.hid hrok2
  have HV4 := Lib.hid (show Vr w4 w2.heap.size o from blk_grown HV3.out hg4 (fun eg => by injection eg with eg; exact hCV eg.symm))
  have HR4 := Lib.hid (show Vr w4 w.heap.size LOp.zero from blk_grown HR3.out hg4 (fun eg => by injection eg with eg; exact hRC eg))
  have HLI4 := Lib.hid (HLI3.out.bf (Bf.grown hg4 fun g eg => by injection eg with eg; exact .inl (eg ▸ HLT.out.1)))
  have HB4 := Lib.hid (HB3.out.grown hg4 (by have := HB3.out.size; omega) (fun j ej => by injection ej with ej; have := HLT.out.2.2; omega))
  have HRD2 := Lib.hid (rd_num hcu4)
  clear hr hcu4 hrok2 hg4 HV3 HR3 HLI3 HB3 HRD
  go_wp2_with fail
  refine (HRD2.out).mono ?_
  rintro x w5 ⟨s, rfl, hs, k3, e3, hcu5, hrok3, hg5⟩
  have HSS := Lib.hid hs
  have HRO3 := Lib.hid hrok3
  have HV5 := Lib.hid (show Vr w5 w2.heap.size o from blk_grown HV4.out hg5 (fun eg => by injection eg with eg; exact hCV eg.symm))
  have HR5 := Lib.hid (show Vr w5 w.heap.size LOp.zero from blk_grown HR4.out hg5 (fun eg => by injection eg with eg; exact hRC eg))
  have HLI5 := Lib.hid (HLI4.out.bf (Bf.grown hg5 fun g eg => by injection eg with eg; exact .inl (eg ▸ HLT.out.1)))
  have HB5 := Lib.hid (HB4.out.grown hg5 (by have := HB4.out.size; omega) (fun j ej => by injection ej with ej; have := HLT.out.2.2; omega))
  have HCU5 := Lib.hid hcu5
  clear hs hcu5 hrok3 hg5 HV4 HR4 HLI4 HB4 HRD2
  go_wp2_with (refine wpList_store_sig rfl _ _ rfl rfl rfl HV5.out ?_; intro w6 hv6 hg6; have HV6 := Lib.hid hv6; have HG6 := Lib.hid hg6; clear hv6 hg6)
  have hcu6 := HCU5.out.grown HG6.out fun g eg => by injection eg with eg; have := HLT.out; omega
  have HR6 := Lib.hid (show Vr w6 w.heap.size LOp.zero from blk_grown HR5.out HG6.out (fun eg => by injection eg with eg; exact hRV eg))
  have HLI6 := Lib.hid (HLI5.out.bf (Bf.grown HG6.out fun g eg => by injection eg with eg; exact .inr (Nat.le_of_eq eg)))
  have HB6 := Lib.hid (HB5.out.grown HG6.out (by have := HB5.out.size; omega) (fun j ej => by injection ej with ej; have := HLT.out; omega))
  have HEN := Lib.hid (in_end hcu6)
  have hew := endd_wrong HRO.out HRO2.out HRO3.out
  have HEW := Lib.hid hew
  clear hew hcu6 HCU5 HLI5 HR5 HV5 HB5
  obtain ⟨z, hz⟩ : ∃ z, z = wrong l := ⟨_, rfl⟩
  rw [HEW.out.1, ← hz] at HEN
  have HZ := Lib.hid hz
  clear hz
  go_wp2_with fail
  refine (HEN.out).mono ?_
  rintro x w7 ⟨rfl, n, rfl⟩
  have HR7 := Lib.hid (show Vr (w6.drewN n) w.heap.size LOp.zero from HR6.out)
  have HV7 := Lib.hid (show Vr (w6.drewN n) w2.heap.size { o with r := r, s := s } from HV6.out)
  have HLI7 := Lib.hid (show Lies (Oth w1.heap.size w2.heap.size) (w6.drewN n) o from HLI6.out.bf ⟨rfl, rfl, rfl, Nat.le_refl _, fun _ _ _ => rfl⟩)
  have HB7 := Lib.hid (show Below w.heap.size w (w6.drewN n) from ⟨HB6.out.os, HB6.out.tape, HB6.out.output, HB6.out.size, HB6.out.block⟩)
  obtain ⟨w7, hw7⟩ : ∃ w7, w7 = w6.drewN n := ⟨_, rfl⟩
  rw [← hw7] at HR7 HV7 HLI7 HB7 ⊢
  obtain ⟨o2, ho2⟩ : ∃ o2 : LOp, o2 = { o with r := r, s := s } := ⟨_, rfl⟩
  rw [← ho2] at HV7
  have HO2 := Lib.hid ho2
  clear HEN HR6 HV6 HLI6 HB6 hw7 ho2
  by_cases hq0 : z = 0
  · have hq : (z != 0) = false := by rw [hq0]; rfl
    have hq1 : (z == 0) = true := by rw [hq0]; rfl
    have HQ := Lib.hid hq0
    clear hq0
    go_wp2_with (first | refine wpList_load_op rfl _ rfl rfl HV7.out ?_ | (refine wpList_store_op rfl _ _ rfl rfl rfl HR7.out ?_))
    have hvr := HR7.out.setRow o2
    have hbr : Below w.heap.size w (w7.setRow w.heap.size o2.cells) := HB7.out.grown (grown_setRow _ _ _) (by have := HB7.out.size; omega) (fun j ej => by injection ej with ej; omega)
    have hlr := (HLI7.out.bf (Bf.grown (grown_setRow w7 w.heap.size o2.cells) fun g eg => by injection eg with eg; have := HLT.out; exact .inl (by omega))).no
    refine bodyPost_ret (v := .tuple #[o2.v, .int .i64 0]) (results_op_tmp rfl rfl _ _ rfl rfl hvr) rfl ?_
    have hz := HZ.out
    have hz0 := HQ.out
    rw [hz] at hz0
    refine ⟨o2, by rw [hz0], ?_, ?_, fun h => ?_, fun h => absurd hz0 h, hbr⟩
    · rw [HO2.out]; exact (HO2.out ▸ hlr).sig r s
    · rw [HO2.out]; exact HOK.out.sig HRR.out HSS.out
    · rw [HO2.out, er_sig]; exact HEW.out.2 h
  · have hq : (z != 0) = true := by rw [bne_iff_ne]; exact hq0
    have hq1 : (z == 0) = false := by rw [beq_eq_false_iff_ne]; exact hq0
    have HQ := Lib.hid hq0
    clear hq0
    go_wp2_with (first | refine wpList_build_zero rfl rfl ?_ | (refine wpList_store_op rfl _ _ rfl rfl rfl HR7.out ?_))
    have hvr := HR7.out.setRow LOp.zero
    have hbr : Below w.heap.size w (w7.setRow w.heap.size LOp.zero.cells) := HB7.out.grown (grown_setRow _ _ _) (by have := HB7.out.size; omega) (fun j ej => by injection ej with ej; omega)
    refine bodyPost_ret (v := .tuple #[LOp.zero.v, .int .i64 z]) (results_op_tmp rfl rfl _ _ rfl rfl hvr) rfl ?_
    have hz := HZ.out
    exact ⟨LOp.zero, by rw [hz], Lies.zero No _, zero_ok, fun h => absurd (hz.trans h) HQ.out, fun _ => rfl, hbr⟩
end Ot
end Go.Proofs.YtkicjjcangkneaaGreatDoor

/-
  The laws' own example: an operation is put and got; names in their order; commits. The table of kinds reads as it was laid.
-/
namespace Go.Proofs.YtkicjjcangkneaaGreatDoor
open Go.RowKit
attribute [local go_sem ↓] Go.wp_at_zero Go.wp_at_succ
set_option maxRecDepth 100000
namespace Ot
/-- A load of the whole behind '&&'. -/
theorem wpList_load_op_on {ops : Array Oper} {rest : List Oper} {op : Oper} {a : Act} {w : World} {Q : Exit → Act → World → Prop} (hw : Region.wanted op (yielded ops a.tmps) = true) (x : Operand) (ho : op.op = .load 35 x)
    {V : Nat} {o : LOp} (hx : a.eval x = .pointer (some ⟨V, 0, none⟩)) (hV : Vr w V o) (h : wpList Tryz.prog ops Q rest (a.put op.dst o.v) w) : wpList Tryz.prog ops Q (op :: rest) a w :=
  wpList_step fun K hK => by
    rw [if_pos hw]
    exact wp_load_row 35 x ho V hx 35 o.cells (0, 0) _ hV op_under rfl (by rw [o.size]; exact op_info) (hK _ _ h)
/-- A new variable for an operation. -/
theorem var_new (w : World) (o : LOp) : Vr ((w.alloc (.cells LOp.zero.cells 35)).setRow w.heap.size o.cells) w.heap.size o := (Vr.new w LOp.zero).setRow o
theorem var_lies {F : Nat → Prop} {w : World} {o : LOp} (h : Lies F w o) (z : LOp) (u : LOp) : Lies F ((w.alloc (.cells z.cells 35)).setRow w.heap.size u.cells) o := by
  have h1 : Lies (fun k => F k ∨ k = w.heap.size) w o := h.weak fun k hk hf => by
    rcases hf with hf | hf
    · exact hf
    · omega
  exact ((h1.alloc (.cells z.cells 35)).bf (Bf.setRow (F := fun k => F k ∨ k = w.heap.size) _ (.inr rfl))).weak fun _ _ hf => .inl hf
theorem var_below {n : Nat} (w : World) (z u : LOp) (hn : n ≤ w.heap.size) : Below n w ((w.alloc (.cells z.cells 35)).setRow w.heap.size u.cells) :=
  ((Below.refl n w).alloc hn (.cells z.cells 35)).grown (grown_setRow _ w.heap.size u.cells) (by simp; omega) fun g eg => by injection eg with eg; omega
theorem var_far {w : World} {V : Nat} {o : LOp} (h : Vr w V o) (z u : LOp) : Vr ((w.alloc (.cells z.cells 35)).setRow w.heap.size u.cells) V o := by
  have h1 : Vr (w.alloc (.cells z.cells 35)) V o := blk_alloc h _
  exact h1.bf (F := fun k => k = w.heap.size) (Bf.setRow _ rfl) fun e => by have := Blk.lt h; omega

set_option maxHeartbeats 4000000 in
theorem lives_any {w : World} (hk : Kds w) : Calls Tryz.prog 16 #[] w fun e w' => e = .returned (.bool true) ∧ Below w.heap.size w w' := by
  have hl : Lz kInt No (w.alloc (.cells #[.int .i64 7, .int .i64 1, .int .i64 2, .int .i64 3] 3)) ⟨[7, 1, 2, 3], some ⟨w.heap.size, 0, none⟩, 4⟩ := by
    refine ⟨fun _ => ⟨w.heap.size, 0, rfl, by simp, fun h => h, fun i u hu => ?_⟩, Nat.le_refl 4, fun h => nomatch h⟩
    have := cell_new w #[.int .i64 7, .int .i64 1, .int .i64 2, .int .i64 3] 3 i u hu
    rw [Addr.add_lit] at this
    exact this
  have HOP := Lib.hid (op_any ⟨[7, 1, 2, 3], some ⟨w.heap.size, 0, none⟩, 4⟩ hl (by intro x hx; simp at hx; rcases hx with rfl | rfl | rfl | rfl <;> exact ⟨by decide, by decide⟩) (by show 4 ≤ 9223372036854775807; omega))
  have HB0 := Lib.hid ((Below.refl w.heap.size w).alloc (Nat.le_refl _) (.cells #[.int .i64 7, .int .i64 1, .int .i64 2, .int .i64 3] 3))
  have HK := Lib.hid hk
  clear hl hk
  go_enter Tryz.func16, Tryz.ntmps16
  go_wp2_with fail
  refine (HOP.out).mono ?_
  rintro e w1 ⟨o, rfl, hg, hlo, hb1⟩
  have HT := Lib.hid hg.tiny
  have HLO := Lib.hid hlo
  have HB1 := Lib.hid (HB0.out.trans (hb1.mono (by simp)))
  have HV := Lib.hid (Vr.new w1 LOp.zero)
  have HV1 := Lib.hid (var_new w1 o)
  clear hg hlo hb1 HOP HB0
  go_wp2_with (first | (refine wpList_store_op (o' := o) rfl _ _ rfl rfl rfl HV.out ?_) | (refine wpList_load_op rfl _ rfl rfl HV1.out ?_))
  rw [zc]
  have HL2 := Lib.hid (var_lies HLO.out LOp.zero o)
  have HB2 := Lib.hid (HB1.out.trans (var_below w1 LOp.zero o HB1.out.size))
  obtain ⟨V1, hV1⟩ : ∃ V1, V1 = w1.heap.size := ⟨_, rfl⟩
  obtain ⟨w2, hw2⟩ : ∃ w2, w2 = (w1.alloc (.cells LOp.zero.cells 35)).setRow w1.heap.size o.cells := ⟨_, rfl⟩
  rw [← hw2] at HL2 HB2 HV1
  rw [← hw2]
  rw [← hV1] at HV1 ⊢
  have HP := Lib.hid (put_any o HL2.out HT.out.small HT.out.put9)
  clear hw2 hV1 HV HLO HB1
  refine (HP.out).mono ?_
  rintro e w3 ⟨b, rfl, hbl, hgr, hb3⟩
  have HV3 := Lib.hid (HV1.out.below hb3 (Blk.lt HV1.out))
  have HL3 := Lib.hid (HL2.out.below hb3)
  have HB3 := Lib.hid (HB2.out.trans (hb3.mono HB2.out.size))
  have hwr := wrong_put o.er HT.out.ok
  rw [← hbl] at hwr
  have hlen : b.l.length ≤ 1000000 := by rw [hbl]; exact Nat.le_trans (put_len HT.out) (by omega)
  have HG := Lib.hid (get_any b (hgr.lz (F := No) fun _ h => h.elim) hlen)
  have HW := Lib.hid hwr
  clear hbl hgr hb3 hwr hlen HP HV1 HL2 HB2
  go_wp2_with fail
  refine (HG.out).mono ?_
  rintro e w4 ⟨o', rfl, hlo', hok', hv', _, hb4⟩
  have HE := Lib.hid (show o'.er = o.er from (hv' HW.out.1).trans HW.out.2)
  rw [HW.out.1]
  have HV4 := Lib.hid (HV3.out.below hb4 (Blk.lt HV3.out))
  have HL4 := Lib.hid (HL3.out.below hb4)
  have HB4 := Lib.hid (HB3.out.trans (hb4.mono HB3.out.size))
  have HLO' := Lib.hid hlo'
  have HOK' := Lib.hid hok'
  have HVZ := Lib.hid (Vr.new w4 LOp.zero)
  clear hlo' hok' hv' hb4 HG HV3 HL3 HB3 HW
  go_upto_region 3 with (refine wpList_store_op (o' := o') rfl _ _ rfl rfl rfl HVZ.out ?_)
  rw [zc]
  have HV2 := Lib.hid (var_new w4 o')
  have HV5 := Lib.hid (var_far HV4.out LOp.zero o')
  have HL5 := Lib.hid (var_lies HL4.out LOp.zero o')
  have HLP := Lib.hid (var_lies HLO'.out LOp.zero o')
  have HB5 := Lib.hid (HB4.out.trans (var_below w4 LOp.zero o' HB4.out.size))
  obtain ⟨V2, hV2⟩ : ∃ V2, V2 = w4.heap.size := ⟨_, rfl⟩
  obtain ⟨w5, hw5⟩ : ∃ w5, w5 = (w4.alloc (.cells LOp.zero.cells 35)).setRow w4.heap.size o'.cells := ⟨_, rfl⟩
  rw [← hw5] at HV2 HV5 HL5 HLP HB5
  rw [← hw5]
  rw [← hV2] at HV2 ⊢
  clear hw5 hV2 HVZ HV4 HL4 HLO' HB4
  have HA1 := Lib.hid (show Vr (w5.alloc (.cells #[.int .i64 1, .int .i64 5, .int .u64 9] 27)) V1 o from blk_alloc HV5.out _)
  have HA2 := Lib.hid (show Vr (w5.alloc (.cells #[.int .i64 1, .int .i64 5, .int .u64 9] 27)) V2 o' from blk_alloc HV2.out _)
  have HAI := Lib.hid (blk_new w5 27 #[.int .i64 1, .int .i64 5, .int .u64 9])
  have HS := Lib.hid (same_true o' o (HLP.out.alloc (.cells #[.int .i64 1, .int .i64 5, .int .u64 9] 27)) (HL5.out.alloc (.cells #[.int .i64 1, .int .i64 5, .int .u64 9] 27)) HOK'.out HT.out.ok HE.out)
  have HB6 := Lib.hid (HB5.out.alloc HB5.out.size (.cells #[.int .i64 1, .int .i64 5, .int .u64 9] 27))
  clear HV5 HV2 HL5 HLP HB5
  go_wp2_with (first | (refine wpList_load_op_on rfl _ rfl rfl HA2.out ?_) | (refine wpList_load_op_on rfl _ rfl rfl HA1.out ?_))
  refine (HS.out).mono ?_
  rintro e w6 ⟨rfl, hb6⟩
  have HAI6 := Lib.hid (HAI.out.below hb6 HAI.out.lt)
  have HB7 := Lib.hid (HB6.out.trans (hb6.mono HB6.out.size))
  have i0 := HAI6.out.cell 0
  have i1 := HAI6.out.cell 1
  have i2 := HAI6.out.cell 2
  have HL1 := Lib.hid (less_any ⟨1, 5, 9⟩ ⟨2, 1, 1⟩ w6)
  clear hb6 HS HAI HB6 HA1 HA2
  go_wp2_with fail
  refine (HL1.out).mono ?_
  rintro e w7 ⟨rfl, hb7⟩
  rw [show nmLess ⟨1, 5, 9⟩ ⟨2, 1, 1⟩ = true by decide]
  have HAI7 := Lib.hid (HAI6.out.below hb7 HAI6.out.lt)
  have HB8 := Lib.hid (HB7.out.trans (hb7.mono HB7.out.size))
  clear i0 i1 i2
  have i0 := HAI7.out.cell 0
  have i1 := HAI7.out.cell 1
  have i2 := HAI7.out.cell 2
  have HL2 := Lib.hid (less_any ⟨1, 5, 9⟩ ⟨1, 5, 10⟩ w7)
  clear hb7 HL1 HAI6 HB7
  go_wp2_with fail
  refine (HL2.out).mono ?_
  rintro e w8 ⟨rfl, hb8⟩
  rw [show nmLess ⟨1, 5, 9⟩ ⟨1, 5, 10⟩ = true by decide]
  have HB9 := Lib.hid (HB8.out.trans (hb8.mono HB8.out.size))
  clear i0 i1 i2
  have HK8 := Lib.hid (HK.out.below HB9.out)
  have HC1 := Lib.hid (commit_any 4 w8 HK8.out)
  clear hb8 HL2 HAI7 HB8
  go_wp2_with fail
  refine (HC1.out).mono ?_
  rintro e w9 ⟨rfl, rfl⟩
  rw [show isCommit 4 = true by decide]
  have HC2 := Lib.hid (commit_any 6 w8 HK8.out)
  clear HC1
  go_wp2_with fail
  refine (HC2.out).mono ?_
  rintro e w9 ⟨rfl, rfl⟩
  rw [show isCommit 6 = false by decide]
  go_wp2
  go_ret
  exact ⟨rfl, HB9.out⟩
end Ot
end Go.Proofs.YtkicjjcangkneaaGreatDoor
