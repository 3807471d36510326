/-
  The laws' own example: an operation is put and got; names in their order; commits. The table of kinds reads as it was laid.
-/
import Derived.Test.YtkicjjcangkneaaDoorOtu
import Derived.Test.YtkicjjcangkneaaDoorOtv
import Derived.Test.YtkicjjcangkneaaDoorOtm
namespace Go.Proofs.YtkicjjcangkneaaDoor
open Go.RowKit
attribute [local go_sem ↓] Go.wp_at_zero Go.wp_at_succ
set_option maxRecDepth 100000
namespace Ot
/-- A load of the whole behind '&&'. -/
theorem wpList_load_op_on {ops : Array Oper} {rest : List Oper} {op : Oper} {a : Act} {w : World} {Q : Exit → Act → World → Prop} (hw : Region.wanted op (yielded ops a.tmps) = true) (x : Operand) (ho : op.op = .load 36 x)
    {V : Nat} {o : LOp} (hx : a.eval x = .pointer (some ⟨V, 0, none⟩)) (hV : Vr w V o) (h : wpList Tryd.prog ops Q rest (a.put op.dst o.v) w) : wpList Tryd.prog ops Q (op :: rest) a w :=
  wpList_step fun K hK => by
    rw [if_pos hw]
    exact wp_load_row 36 x ho V hx 36 o.cells (0, 0) _ hV op_under rfl (by rw [o.size]; exact op_info) (hK _ _ h)
/-- A new variable for an operation. -/
theorem var_new (w : World) (o : LOp) : Vr ((w.alloc (.cells LOp.zero.cells 36)).setRow w.heap.size o.cells) w.heap.size o := (Vr.new w LOp.zero).setRow o
theorem var_lies {F : Nat → Prop} {w : World} {o : LOp} (h : Lies F w o) (z : LOp) (u : LOp) : Lies F ((w.alloc (.cells z.cells 36)).setRow w.heap.size u.cells) o := by
  have h1 : Lies (fun k => F k ∨ k = w.heap.size) w o := h.weak fun k hk hf => by
    rcases hf with hf | hf
    · exact hf
    · omega
  exact ((h1.alloc (.cells z.cells 36)).bf (Bf.setRow (F := fun k => F k ∨ k = w.heap.size) _ (.inr rfl))).weak fun _ _ hf => .inl hf
theorem var_below {n : Nat} (w : World) (z u : LOp) (hn : n ≤ w.heap.size) : Below n w ((w.alloc (.cells z.cells 36)).setRow w.heap.size u.cells) :=
  ((Below.refl n w).alloc hn (.cells z.cells 36)).grown (grown_setRow _ w.heap.size u.cells) (by simp; omega) fun g eg => by injection eg with eg; omega
theorem var_far {w : World} {V : Nat} {o : LOp} (h : Vr w V o) (z u : LOp) : Vr ((w.alloc (.cells z.cells 36)).setRow w.heap.size u.cells) V o := by
  have h1 : Vr (w.alloc (.cells z.cells 36)) V o := blk_alloc h _
  exact h1.bf (F := fun k => k = w.heap.size) (Bf.setRow _ rfl) fun e => by have := Blk.lt h; omega

set_option maxHeartbeats 4000000 in
theorem lives_any {w : World} (hk : Kds w) : Calls Tryd.prog 12 #[] w fun e w' => e = .returned (.bool true) ∧ Below w.heap.size w w' := by
  have hl : Lz kInt No (w.alloc (.cells #[.int .i64 7, .int .i64 1, .int .i64 2, .int .i64 3] 3)) ⟨[7, 1, 2, 3], some ⟨w.heap.size, 0, none⟩, 4⟩ := by
    refine ⟨fun _ => ⟨w.heap.size, 0, rfl, by simp, fun h => h, fun i u hu => ?_⟩, Nat.le_refl 4, fun h => nomatch h⟩
    have := cell_new w #[.int .i64 7, .int .i64 1, .int .i64 2, .int .i64 3] 3 i u hu
    rw [Addr.add_lit] at this
    exact this
  have HOP := Lib.hid (op_any ⟨[7, 1, 2, 3], some ⟨w.heap.size, 0, none⟩, 4⟩ hl (by intro x hx; simp at hx; rcases hx with rfl | rfl | rfl | rfl <;> exact ⟨by decide, by decide⟩) (by show 4 ≤ 9223372036854775807; omega))
  have HB0 := Lib.hid ((Below.refl w.heap.size w).alloc (Nat.le_refl _) (.cells #[.int .i64 7, .int .i64 1, .int .i64 2, .int .i64 3] 3))
  have HK := Lib.hid hk
  clear hl hk
  go_enter Tryd.func12, Tryd.ntmps12
  go_wp2_with fail
  refine (HOP.out).mono ?_
  rintro e w1 ⟨o, rfl, hg, hlo, hb1⟩
  have HT := Lib.hid hg.tiny
  have HLO := Lib.hid hlo
  have HB1 := Lib.hid (HB0.out.trans (hb1.mono (by simp)))
  have HV := Lib.hid (Vr.new w1 LOp.zero)
  have HV1 := Lib.hid (var_new w1 o)
  clear hg hlo hb1 HOP HB0
  go_wp2_with (first | (refine wpList_store_op (o' := o) rfl _ _ rfl rfl rfl HV.out ?_) | (refine wpList_load_op rfl _ rfl rfl HV1.out ?_))
  rw [zc]
  have HL2 := Lib.hid (var_lies HLO.out LOp.zero o)
  have HB2 := Lib.hid (HB1.out.trans (var_below w1 LOp.zero o HB1.out.size))
  obtain ⟨V1, hV1⟩ : ∃ V1, V1 = w1.heap.size := ⟨_, rfl⟩
  obtain ⟨w2, hw2⟩ : ∃ w2, w2 = (w1.alloc (.cells LOp.zero.cells 36)).setRow w1.heap.size o.cells := ⟨_, rfl⟩
  rw [← hw2] at HL2 HB2 HV1
  rw [← hw2]
  rw [← hV1] at HV1 ⊢
  have HP := Lib.hid (put_any o HL2.out HT.out.small HT.out.put9)
  clear hw2 hV1 HV HLO HB1
  refine (HP.out).mono ?_
  rintro e w3 ⟨b, rfl, hbl, hgr, hb3⟩
  have HV3 := Lib.hid (HV1.out.below hb3 (Blk.lt HV1.out))
  have HL3 := Lib.hid (HL2.out.below hb3)
  have HB3 := Lib.hid (HB2.out.trans (hb3.mono HB2.out.size))
  have hwr := wrong_put o.er HT.out.ok
  rw [← hbl] at hwr
  have hlen : b.l.length ≤ 1000000 := by rw [hbl]; exact Nat.le_trans (put_len HT.out) (by omega)
  have HG := Lib.hid (get_any b (hgr.lz (F := No) fun _ h => h.elim) hlen)
  have HW := Lib.hid hwr
  clear hbl hgr hb3 hwr hlen HP HV1 HL2 HB2
  go_wp2_with fail
  refine (HG.out).mono ?_
  rintro e w4 ⟨o', rfl, hlo', hok', hv', _, hb4⟩
  have HE := Lib.hid (show o'.er = o.er from (hv' HW.out.1).trans HW.out.2)
  rw [HW.out.1]
  have HV4 := Lib.hid (HV3.out.below hb4 (Blk.lt HV3.out))
  have HL4 := Lib.hid (HL3.out.below hb4)
  have HB4 := Lib.hid (HB3.out.trans (hb4.mono HB3.out.size))
  have HLO' := Lib.hid hlo'
  have HOK' := Lib.hid hok'
  have HVZ := Lib.hid (Vr.new w4 LOp.zero)
  clear hlo' hok' hv' hb4 HG HV3 HL3 HB3 HW
  go_upto_region 3 with (refine wpList_store_op (o' := o') rfl _ _ rfl rfl rfl HVZ.out ?_)
  rw [zc]
  have HV2 := Lib.hid (var_new w4 o')
  have HV5 := Lib.hid (var_far HV4.out LOp.zero o')
  have HL5 := Lib.hid (var_lies HL4.out LOp.zero o')
  have HLP := Lib.hid (var_lies HLO'.out LOp.zero o')
  have HB5 := Lib.hid (HB4.out.trans (var_below w4 LOp.zero o' HB4.out.size))
  obtain ⟨V2, hV2⟩ : ∃ V2, V2 = w4.heap.size := ⟨_, rfl⟩
  obtain ⟨w5, hw5⟩ : ∃ w5, w5 = (w4.alloc (.cells LOp.zero.cells 36)).setRow w4.heap.size o'.cells := ⟨_, rfl⟩
  rw [← hw5] at HV2 HV5 HL5 HLP HB5
  rw [← hw5]
  rw [← hV2] at HV2 ⊢
  clear hw5 hV2 HVZ HV4 HL4 HLO' HB4
  have HA1 := Lib.hid (show Vr (w5.alloc (.cells #[.int .i64 1, .int .i64 5, .int .u64 9] 29)) V1 o from blk_alloc HV5.out _)
  have HA2 := Lib.hid (show Vr (w5.alloc (.cells #[.int .i64 1, .int .i64 5, .int .u64 9] 29)) V2 o' from blk_alloc HV2.out _)
  have HAI := Lib.hid (blk_new w5 29 #[.int .i64 1, .int .i64 5, .int .u64 9])
  have HS := Lib.hid (same_true o' o (HLP.out.alloc (.cells #[.int .i64 1, .int .i64 5, .int .u64 9] 29)) (HL5.out.alloc (.cells #[.int .i64 1, .int .i64 5, .int .u64 9] 29)) HOK'.out HT.out.ok HE.out)
  have HB6 := Lib.hid (HB5.out.alloc HB5.out.size (.cells #[.int .i64 1, .int .i64 5, .int .u64 9] 29))
  clear HV5 HV2 HL5 HLP HB5
  go_wp2_with (first | (refine wpList_load_op_on rfl _ rfl rfl HA2.out ?_) | (refine wpList_load_op_on rfl _ rfl rfl HA1.out ?_))
  refine (HS.out).mono ?_
  rintro e w6 ⟨rfl, hb6⟩
  have HAI6 := Lib.hid (HAI.out.below hb6 HAI.out.lt)
  have HB7 := Lib.hid (HB6.out.trans (hb6.mono HB6.out.size))
  have i0 := HAI6.out.cell 0
  have i1 := HAI6.out.cell 1
  have i2 := HAI6.out.cell 2
  have HL1 := Lib.hid (less_any ⟨1, 5, 9⟩ ⟨2, 1, 1⟩ w6)
  clear hb6 HS HAI HB6 HA1 HA2
  go_wp2_with fail
  refine (HL1.out).mono ?_
  rintro e w7 ⟨rfl, hb7⟩
  rw [show nmLess ⟨1, 5, 9⟩ ⟨2, 1, 1⟩ = true by decide]
  have HAI7 := Lib.hid (HAI6.out.below hb7 HAI6.out.lt)
  have HB8 := Lib.hid (HB7.out.trans (hb7.mono HB7.out.size))
  clear i0 i1 i2
  have i0 := HAI7.out.cell 0
  have i1 := HAI7.out.cell 1
  have i2 := HAI7.out.cell 2
  have HL2 := Lib.hid (less_any ⟨1, 5, 9⟩ ⟨1, 5, 10⟩ w7)
  clear hb7 HL1 HAI6 HB7
  go_wp2_with fail
  refine (HL2.out).mono ?_
  rintro e w8 ⟨rfl, hb8⟩
  rw [show nmLess ⟨1, 5, 9⟩ ⟨1, 5, 10⟩ = true by decide]
  have HB9 := Lib.hid (HB8.out.trans (hb8.mono HB8.out.size))
  clear i0 i1 i2
  have HK8 := Lib.hid (HK.out.below HB9.out)
  have HC1 := Lib.hid (commit_any 4 w8 HK8.out)
  clear hb8 HL2 HAI7 HB8
  go_wp2_with fail
  refine (HC1.out).mono ?_
  rintro e w9 ⟨rfl, rfl⟩
  rw [show isCommit 4 = true by decide]
  have HC2 := Lib.hid (commit_any 6 w8 HK8.out)
  clear HC1
  go_wp2_with fail
  refine (HC2.out).mono ?_
  rintro e w9 ⟨rfl, rfl⟩
  rw [show isCommit 6 = false by decide]
  go_wp2
  go_ret
  exact ⟨rfl, HB9.out⟩
end Ot
end Go.Proofs.YtkicjjcangkneaaDoor
