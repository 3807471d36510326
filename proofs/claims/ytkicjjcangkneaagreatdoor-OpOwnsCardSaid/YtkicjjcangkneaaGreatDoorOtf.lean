/-
  An operation written: its content's bytes, and its own. For bodies of up to 1000 bytes, 900000 in all.
-/
import Derived.Test.YtkicjjcangkneaaGreatDoorOte
namespace Go.Proofs.YtkicjjcangkneaaGreatDoor
open Go.RowKit
attribute [local go_sem ↓] Go.wp_at_zero Go.wp_at_succ
set_option maxRecDepth 100000
namespace Ot
def Pre (a L : List UInt8) : Prop := ∃ R, L = a ++ R
theorem Pre.len {a L : List UInt8} (h : Pre a L) (hL : L.length ≤ 900000) : a.length ≤ 900000 := by
  obtain ⟨R, e⟩ := h
  rw [e, List.length_append] at hL
  omega
theorem Pre.len6 {a L : List UInt8} (h : Pre a L) (hL : L.length ≤ 900000) : a.length ≤ 1000000 := Nat.le_trans (h.len hL) (by decide)
theorem Pre.next {a b R L : List UInt8} (h : L = a ++ (b ++ R)) : Pre (a ++ b) L ∧ L = (a ++ b) ++ R := ⟨⟨R, by rw [h, List.append_assoc]⟩, by rw [h, List.append_assoc]⟩
theorem Pre.last {a b L : List UInt8} (h : L = a ++ b) : Pre (a ++ b) L ∧ L = (a ++ b) ++ [] := ⟨⟨[], by rw [h, List.append_nil]⟩, by rw [h, List.append_nil]⟩
theorem wEach_map {α β : Type} (f : β → List UInt8) (g : α → β) (l : List α) : wEach f (l.map g) = wEach (fun x => f (g x)) l := by
  unfold wEach
  rw [List.length_map, List.flatMap_map]
structure Small (o : LOp) : Prop where
  ok : Ok o.er
  body : o.body.l.length ≤ 1000
  hist : ∀ s ∈ o.hist.l, s.body.l.length ≤ 1000
theorem Small.nd {o : LOp} (h : Small o) : ∀ y ∈ o.path.l, okNd y.er := fun _ hy => h.ok.path.2 _ (List.mem_map_of_mem hy)
theorem Small.sd {o : LOp} (h : Small o) : ∀ y ∈ o.hist.l, okSd y.er := fun _ hy => h.ok.hist.2 _ (List.mem_map_of_mem hy)
theorem Small.ndn {o : LOp} (h : Small o) : o.path.l.length ≤ 1000 := by have := h.ok.path.1; unfold LOp.er at this; rw [List.length_map] at this; exact this
theorem Small.sdn {o : LOp} (h : Small o) : o.hist.l.length ≤ 1000 := by have := h.ok.hist.1; unfold LOp.er at this; rw [List.length_map] at this; exact this

set_option maxHeartbeats 4000000 in
theorem write_any {lo hi O : Nat} {l : List UInt8} {w : World} (o : LOp) (hx : Lies (From lo) w o) (hs : Small o) (hl : (l ++ con o.er).length ≤ 900000) (h : Ou lo hi w O l) :
    Calls Tryz.prog 53 #[.pointer (some ⟨O, 0, none⟩), o.v] w fun e w' => (∃ r, e = .returned r) ∧ Wr lo w w' O (l ++ con o.er) := by
  have hlow := h.lt
  have hlow : lo ≤ w.heap.size := by omega
  obtain ⟨hw1, hbk1⟩ := Wr.new h (.cells #[.pointer (some ⟨O, 0, none⟩)] 95)
  obtain ⟨hw, hbk2⟩ := Wr.new hw1.1 (.cells o.cells 35)
  have hD := blk_alloc (blk_new w 95 #[.pointer (some ⟨O, 0, none⟩)]) (.cells o.cells 35)
  have hP := blk_new (w.alloc (.cells #[.pointer (some ⟨O, 0, none⟩)] 95)) 35 o.cells
  rw [show (w.alloc (.cells #[.pointer (some ⟨O, 0, none⟩)] 95)).heap.size = w.heap.size + 1 from by simp] at hP
  obtain ⟨L, hL⟩ : ∃ L, L = l ++ con o.er := ⟨_, rfl⟩
  rw [← hL] at hl ⊢
  unfold con at hL
  simp only [LOp.er, wEach_map] at hL
  have HW := Lib.hid hw
  have HBK := Lib.hid (And.intro (hbk1.1.trans hbk2.1) (hbk1.2.trans hbk2.2))
  have HP := Lib.hid hP
  have HD := Lib.hid hD
  have HL := Lib.hid hL
  have HLL := Lib.hid hl
  have HS := Lib.hid hs
  have HX := Lib.hid hx
  show Calls _ _ #[_, .agg o.cells] w _
  obtain ⟨cs, hcs⟩ : ∃ cs, cs = o.cells := ⟨_, rfl⟩
  rw [← hcs] at HP HD HBK HW ⊢
  have HCS := Lib.hid hcs
  clear hw hw1 hbk1 hbk2 hP hD hL hl hs hx h hlow hcs
  go_enter Tryz.func53, Tryz.ntmps53
  have d0 := (HW.out.2.2 (w.heap.size) 95 _ (by decide) (by decide) HD.out).cell 0
  have c0 := ((HW.out.2.2 (w.heap.size + 1) 35 _ (by decide) (by decide) HP.out).cell 0).trans (at_cs HCS.out o.c0)
  have hpre0 : Pre _ L := ⟨_, HL.out⟩
  have hnx := Pre.next HL.out
  have HN := Lib.hid hnx.2
  have HO := Lib.hid (oint_any o.by_ HS.out.ok.by_.1 HS.out.ok.by_.2 (hpre0.len6 HLL.out) HW.out.1)
  go_wp2_with fail
  refine (HO.out).mono ?_
  rintro e w1 ⟨⟨_, rfl⟩, hou⟩
  have HW' := Lib.hid (Wr.after HW.out.2 hou)
  clear hou HO HW d0 c0 hpre0 hnx HL
  have HW := HW'
  clear HW'
  have HL := HN
  clear HN
  have d0 := (HW.out.2.2 (w.heap.size) 95 _ (by decide) (by decide) HD.out).cell 0
  have c1 := ((HW.out.2.2 (w.heap.size + 1) 35 _ (by decide) (by decide) HP.out).cell 1).trans (at_cs HCS.out o.c1)
  have hpre0 : Pre _ L := ⟨_, HL.out⟩
  have hnx := Pre.next HL.out
  have HN := Lib.hid hnx.2
  have HO := Lib.hid (oint_any o.seq HS.out.ok.seq.1 HS.out.ok.seq.2 (hpre0.len6 HLL.out) HW.out.1)
  go_wp2_with fail
  refine (HO.out).mono ?_
  rintro e w2 ⟨⟨_, rfl⟩, hou⟩
  have HW' := Lib.hid (Wr.after HW.out.2 hou)
  clear hou HO HW d0 c1 hpre0 hnx HL
  have HW := HW'
  clear HW'
  have HL := HN
  clear HN
  have d0 := (HW.out.2.2 (w.heap.size) 95 _ (by decide) (by decide) HD.out).cell 0
  have c2 := ((HW.out.2.2 (w.heap.size + 1) 35 _ (by decide) (by decide) HP.out).cell 2).trans (at_cs HCS.out o.c2)
  have hpre0 : Pre _ L := ⟨_, HL.out⟩
  have hnx := Pre.next HL.out
  have HN := Lib.hid hnx.2
  have HO := Lib.hid (oint_any o.kind HS.out.ok.kind.1 HS.out.ok.kind.2 (hpre0.len6 HLL.out) HW.out.1)
  go_wp2_with fail
  refine (HO.out).mono ?_
  rintro e w3 ⟨⟨_, rfl⟩, hou⟩
  have HW' := Lib.hid (Wr.after HW.out.2 hou)
  clear hou HO HW d0 c2 hpre0 hnx HL
  have HW := HW'
  clear HW'
  have HL := HN
  clear HN
  have d0 := (HW.out.2.2 (w.heap.size) 95 _ (by decide) (by decide) HD.out).cell 0
  have c3 := ((HW.out.2.2 (w.heap.size + 1) 35 _ (by decide) (by decide) HP.out).cell 3).trans (at_cs HCS.out o.c3)
  have hpre0 : Pre _ L := ⟨_, HL.out⟩
  have hnx := Pre.next HL.out
  have HN := Lib.hid hnx.2
  have HO := Lib.hid (oint_any o.at_ HS.out.ok.at_.1 HS.out.ok.at_.2 (hpre0.len6 HLL.out) HW.out.1)
  go_wp2_with fail
  refine (HO.out).mono ?_
  rintro e w4 ⟨⟨_, rfl⟩, hou⟩
  have HW' := Lib.hid (Wr.after HW.out.2 hou)
  clear hou HO HW d0 c3 hpre0 hnx HL
  have HW := HW'
  clear HW'
  have HL := HN
  clear HN
  have d0 := (HW.out.2.2 (w.heap.size) 95 _ (by decide) (by decide) HD.out).cell 0
  have c4 := ((HW.out.2.2 (w.heap.size + 1) 35 _ (by decide) (by decide) HP.out).cell 4).trans (at_cs HCS.out o.c4)
  have hpre0 : Pre _ L := ⟨_, HL.out⟩
  have hnx := Pre.next HL.out
  have HN := Lib.hid hnx.2
  have HO := Lib.hid (weach_nm o.past (HX.out.past.bf (from_below (HBK.out.1.trans HW.out.2.1))) HS.out.ok.past.2 HS.out.ok.past.1 (hnx.1.len HLL.out) HW.out.1)
  go_wp2_with fail
  refine (HO.out).mono ?_
  rintro e w5 ⟨⟨_, rfl⟩, hou⟩
  have HW' := Lib.hid (Wr.after HW.out.2 hou)
  clear hou HO HW d0 c4 hpre0 hnx HL
  have HW := HW'
  clear HW'
  have HL := HN
  clear HN
  have d0 := (HW.out.2.2 (w.heap.size) 95 _ (by decide) (by decide) HD.out).cell 0
  have c5 := ((HW.out.2.2 (w.heap.size + 1) 35 _ (by decide) (by decide) HP.out).cell 5).trans (at_cs HCS.out o.c5)
  have hpre0 : Pre _ L := ⟨_, HL.out⟩
  have hnx := Pre.next HL.out
  have HN := Lib.hid hnx.2
  have HO := Lib.hid (oint_any o.dev HS.out.ok.dev.1 HS.out.ok.dev.2 (hpre0.len6 HLL.out) HW.out.1)
  go_wp2_with fail
  refine (HO.out).mono ?_
  rintro e w6 ⟨⟨_, rfl⟩, hou⟩
  have HW' := Lib.hid (Wr.after HW.out.2 hou)
  clear hou HO HW d0 c5 hpre0 hnx HL
  have HW := HW'
  clear HW'
  have HL := HN
  clear HN
  have d0 := (HW.out.2.2 (w.heap.size) 95 _ (by decide) (by decide) HD.out).cell 0
  have c6 := ((HW.out.2.2 (w.heap.size + 1) 35 _ (by decide) (by decide) HP.out).cell 6).trans (at_cs HCS.out o.c6)
  have hpre0 : Pre _ L := ⟨_, HL.out⟩
  have hnx := Pre.next HL.out
  have HN := Lib.hid hnx.2
  have HO := Lib.hid (oint_any o.old HS.out.ok.old.1 HS.out.ok.old.2 (hpre0.len6 HLL.out) HW.out.1)
  go_wp2_with fail
  refine (HO.out).mono ?_
  rintro e w7 ⟨⟨_, rfl⟩, hou⟩
  have HW' := Lib.hid (Wr.after HW.out.2 hou)
  clear hou HO HW d0 c6 hpre0 hnx HL
  have HW := HW'
  clear HW'
  have HL := HN
  clear HN
  have d0 := (HW.out.2.2 (w.heap.size) 95 _ (by decide) (by decide) HD.out).cell 0
  have c7 := ((HW.out.2.2 (w.heap.size + 1) 35 _ (by decide) (by decide) HP.out).cell 7).trans (at_cs HCS.out o.c7)
  have hpre0 : Pre _ L := ⟨_, HL.out⟩
  have hnx := Pre.next HL.out
  have HN := Lib.hid hnx.2
  have HO := Lib.hid (oint_any o.mem HS.out.ok.mem.1 HS.out.ok.mem.2 (hpre0.len6 HLL.out) HW.out.1)
  go_wp2_with fail
  refine (HO.out).mono ?_
  rintro e w8 ⟨⟨_, rfl⟩, hou⟩
  have HW' := Lib.hid (Wr.after HW.out.2 hou)
  clear hou HO HW d0 c7 hpre0 hnx HL
  have HW := HW'
  clear HW'
  have HL := HN
  clear HN
  have d0 := (HW.out.2.2 (w.heap.size) 95 _ (by decide) (by decide) HD.out).cell 0
  have c8 := ((HW.out.2.2 (w.heap.size + 1) 35 _ (by decide) (by decide) HP.out).cell 8).trans (at_cs HCS.out o.c8)
  have hpre0 : Pre _ L := ⟨_, HL.out⟩
  have hnx := Pre.next HL.out
  have HN := Lib.hid hnx.2
  have HO := Lib.hid (oint_any o.role HS.out.ok.role.1 HS.out.ok.role.2 (hpre0.len6 HLL.out) HW.out.1)
  go_wp2_with fail
  refine (HO.out).mono ?_
  rintro e w9 ⟨⟨_, rfl⟩, hou⟩
  have HW' := Lib.hid (Wr.after HW.out.2 hou)
  clear hou HO HW d0 c8 hpre0 hnx HL
  have HW := HW'
  clear HW'
  have HL := HN
  clear HN
  have d0 := (HW.out.2.2 (w.heap.size) 95 _ (by decide) (by decide) HD.out).cell 0
  have c9 := ((HW.out.2.2 (w.heap.size + 1) 35 _ (by decide) (by decide) HP.out).cell 9).trans (at_cs HCS.out o.c9)
  have hpre0 : Pre _ L := ⟨_, HL.out⟩
  have hnx := Pre.next HL.out
  have HN := Lib.hid hnx.2
  have HO := Lib.hid (weach_nd o.path (HX.out.path.bf (from_below (HBK.out.1.trans HW.out.2.1))) HS.out.nd HS.out.ndn (hnx.1.len HLL.out) ((HW.out.2.2 (w.heap.size) 95 _ (by decide) (by decide) HD.out)) (fun y hy => (HX.out.pathB y hy).bf (from_below (HBK.out.1.trans HW.out.2.1))) HW.out.1)
  go_wp2_with fail
  refine (HO.out).mono ?_
  rintro e w10 ⟨⟨_, rfl⟩, hou⟩
  have HW' := Lib.hid (Wr.after HW.out.2 hou)
  clear hou HO HW d0 c9 hpre0 hnx HL
  have HW := HW'
  clear HW'
  have HL := HN
  clear HN
  have d0 := (HW.out.2.2 (w.heap.size) 95 _ (by decide) (by decide) HD.out).cell 0
  have c10 := ((HW.out.2.2 (w.heap.size + 1) 35 _ (by decide) (by decide) HP.out).cell 10).trans (at_cs HCS.out o.c10)
  have c11 := ((HW.out.2.2 (w.heap.size + 1) 35 _ (by decide) (by decide) HP.out).cell 11).trans (at_cs HCS.out o.c11)
  have c12 := ((HW.out.2.2 (w.heap.size + 1) 35 _ (by decide) (by decide) HP.out).cell 12).trans (at_cs HCS.out o.c12)
  have hpre0 : Pre _ L := ⟨_, HL.out⟩
  have hnx := Pre.next HL.out
  have HN := Lib.hid hnx.2
  have HO := Lib.hid (oname_any o.epoch HS.out.ok.epoch.1.1 HS.out.ok.epoch.1.2 HS.out.ok.epoch.2.1.1 HS.out.ok.epoch.2.1.2 HS.out.ok.epoch.2.2 (hpre0.len HLL.out) HW.out.1)
  go_wp2_with fail
  refine (HO.out).mono ?_
  rintro e w11 ⟨⟨_, rfl⟩, hou⟩
  have HW' := Lib.hid (Wr.after HW.out.2 hou)
  clear hou HO HW d0 c10 c11 c12 hpre0 hnx HL
  have HW := HW'
  clear HW'
  have HL := HN
  clear HN
  have d0 := (HW.out.2.2 (w.heap.size) 95 _ (by decide) (by decide) HD.out).cell 0
  have c13 := ((HW.out.2.2 (w.heap.size + 1) 35 _ (by decide) (by decide) HP.out).cell 13).trans (at_cs HCS.out o.c13)
  have hpre0 : Pre _ L := ⟨_, HL.out⟩
  have hnx := Pre.next HL.out
  have HN := Lib.hid hnx.2
  have HO := Lib.hid (oint_any o.n HS.out.ok.n.1 HS.out.ok.n.2 (hpre0.len6 HLL.out) HW.out.1)
  go_wp2_with fail
  refine (HO.out).mono ?_
  rintro e w12 ⟨⟨_, rfl⟩, hou⟩
  have HW' := Lib.hid (Wr.after HW.out.2 hou)
  clear hou HO HW d0 c13 hpre0 hnx HL
  have HW := HW'
  clear HW'
  have HL := HN
  clear HN
  have d0 := (HW.out.2.2 (w.heap.size) 95 _ (by decide) (by decide) HD.out).cell 0
  have c14 := ((HW.out.2.2 (w.heap.size + 1) 35 _ (by decide) (by decide) HP.out).cell 14).trans (at_cs HCS.out o.c14)
  have hpre0 : Pre _ L := ⟨_, HL.out⟩
  have hnx := Pre.next HL.out
  have HN := Lib.hid hnx.2
  have hcv := cu_conv_rd o.body.A o.body.l.length o.body.c _ _ o.body.l rfl (HX.out.body.bf (from_below (HBK.out.1.trans HW.out.2.1))).rd8
  have HO := Lib.hid (otext_any ⟨o.body.l.toArray⟩ HS.out.body (hpre0.len HLL.out) HW.out.1)
  go_wp2_with fail
  refine (HO.out).mono ?_
  rintro e w13 ⟨⟨_, rfl⟩, hou⟩
  have HW' := Lib.hid (Wr.after HW.out.2 hou)
  clear hou HO HW d0 c14 hpre0 hnx HL hcv
  have HW := HW'
  clear HW'
  have HL := HN
  clear HN
  have d0 := (HW.out.2.2 (w.heap.size) 95 _ (by decide) (by decide) HD.out).cell 0
  have c15 := ((HW.out.2.2 (w.heap.size + 1) 35 _ (by decide) (by decide) HP.out).cell 15).trans (at_cs HCS.out o.c15)
  have hpre0 : Pre _ L := ⟨_, HL.out⟩
  have hnx := Pre.next HL.out
  have HN := Lib.hid hnx.2
  have HO := Lib.hid (weach_u64 o.refs (HX.out.refs.bf (from_below (HBK.out.1.trans HW.out.2.1))) HS.out.ok.refs.2 HS.out.ok.refs.1 (hnx.1.len HLL.out) HW.out.1)
  go_wp2_with fail
  refine (HO.out).mono ?_
  rintro e w14 ⟨⟨_, rfl⟩, hou⟩
  have HW' := Lib.hid (Wr.after HW.out.2 hou)
  clear hou HO HW d0 c15 hpre0 hnx HL
  have HW := HW'
  clear HW'
  have HL := HN
  clear HN
  have d0 := (HW.out.2.2 (w.heap.size) 95 _ (by decide) (by decide) HD.out).cell 0
  have c16 := ((HW.out.2.2 (w.heap.size + 1) 35 _ (by decide) (by decide) HP.out).cell 16).trans (at_cs HCS.out o.c16)
  have c17 := ((HW.out.2.2 (w.heap.size + 1) 35 _ (by decide) (by decide) HP.out).cell 17).trans (at_cs HCS.out o.c17)
  have c18 := ((HW.out.2.2 (w.heap.size + 1) 35 _ (by decide) (by decide) HP.out).cell 18).trans (at_cs HCS.out o.c18)
  have hpre0 : Pre _ L := ⟨_, HL.out⟩
  have hnx := Pre.next HL.out
  have HN := Lib.hid hnx.2
  have HO := Lib.hid (oname_any o.of_ HS.out.ok.of_.1.1 HS.out.ok.of_.1.2 HS.out.ok.of_.2.1.1 HS.out.ok.of_.2.1.2 HS.out.ok.of_.2.2 (hpre0.len HLL.out) HW.out.1)
  go_wp2_with fail
  refine (HO.out).mono ?_
  rintro e w15 ⟨⟨_, rfl⟩, hou⟩
  have HW' := Lib.hid (Wr.after HW.out.2 hou)
  clear hou HO HW d0 c16 c17 c18 hpre0 hnx HL
  have HW := HW'
  clear HW'
  have HL := HN
  clear HN
  have d0 := (HW.out.2.2 (w.heap.size) 95 _ (by decide) (by decide) HD.out).cell 0
  have c19 := ((HW.out.2.2 (w.heap.size + 1) 35 _ (by decide) (by decide) HP.out).cell 19).trans (at_cs HCS.out o.c19)
  have hpre0 : Pre _ L := ⟨_, HL.out⟩
  have hnx := Pre.next HL.out
  have HN := Lib.hid hnx.2
  have HO := Lib.hid (weach_int o.guards (HX.out.guards.bf (from_below (HBK.out.1.trans HW.out.2.1))) HS.out.ok.guards.2 HS.out.ok.guards.1 (hnx.1.len HLL.out) HW.out.1)
  go_wp2_with fail
  refine (HO.out).mono ?_
  rintro e w16 ⟨⟨_, rfl⟩, hou⟩
  have HW' := Lib.hid (Wr.after HW.out.2 hou)
  clear hou HO HW d0 c19 hpre0 hnx HL
  have HW := HW'
  clear HW'
  have HL := HN
  clear HN
  have d0 := (HW.out.2.2 (w.heap.size) 95 _ (by decide) (by decide) HD.out).cell 0
  have c20 := ((HW.out.2.2 (w.heap.size + 1) 35 _ (by decide) (by decide) HP.out).cell 20).trans (at_cs HCS.out o.c20)
  have hpre0 : Pre _ L := ⟨_, HL.out⟩
  have hnx := Pre.next HL.out
  have HN := Lib.hid hnx.2
  have HO := Lib.hid (oint_any o.need HS.out.ok.need.1 HS.out.ok.need.2 (hpre0.len6 HLL.out) HW.out.1)
  go_wp2_with fail
  refine (HO.out).mono ?_
  rintro e w17 ⟨⟨_, rfl⟩, hou⟩
  have HW' := Lib.hid (Wr.after HW.out.2 hou)
  clear hou HO HW d0 c20 hpre0 hnx HL
  have HW := HW'
  clear HW'
  have HL := HN
  clear HN
  have d0 := (HW.out.2.2 (w.heap.size) 95 _ (by decide) (by decide) HD.out).cell 0
  have c21 := ((HW.out.2.2 (w.heap.size + 1) 35 _ (by decide) (by decide) HP.out).cell 21).trans (at_cs HCS.out o.c21)
  have hpre0 : Pre _ L := ⟨_, HL.out⟩
  have hnx := Pre.next HL.out
  have HN := Lib.hid hnx.2
  have HO := Lib.hid (oint_any o.wait HS.out.ok.wait.1 HS.out.ok.wait.2 (hpre0.len6 HLL.out) HW.out.1)
  go_wp2_with fail
  refine (HO.out).mono ?_
  rintro e w18 ⟨⟨_, rfl⟩, hou⟩
  have HW' := Lib.hid (Wr.after HW.out.2 hou)
  clear hou HO HW d0 c21 hpre0 hnx HL
  have HW := HW'
  clear HW'
  have HL := HN
  clear HN
  have d0 := (HW.out.2.2 (w.heap.size) 95 _ (by decide) (by decide) HD.out).cell 0
  have c22 := ((HW.out.2.2 (w.heap.size + 1) 35 _ (by decide) (by decide) HP.out).cell 22).trans (at_cs HCS.out o.c22)
  have hpre0 : Pre _ L := ⟨_, HL.out⟩
  have hnx := Pre.next HL.out
  have HN := Lib.hid hnx.2
  have HO := Lib.hid (wboxes o.boxes (HX.out.boxes.bf (from_below (HBK.out.1.trans HW.out.2.1))) HS.out.ok.boxes (hnx.1.len HLL.out) HW.out.1)
  go_wp2_with fail
  refine (HO.out).mono ?_
  rintro e w19 ⟨⟨_, rfl⟩, hou⟩
  have HW' := Lib.hid (Wr.after HW.out.2 hou)
  clear hou HO HW d0 c22 hpre0 hnx HL
  have HW := HW'
  clear HW'
  have HL := HN
  clear HN
  have d0 := (HW.out.2.2 (w.heap.size) 95 _ (by decide) (by decide) HD.out).cell 0
  have c23 := ((HW.out.2.2 (w.heap.size + 1) 35 _ (by decide) (by decide) HP.out).cell 23).trans (at_cs HCS.out o.c23)
  have hpre0 : Pre _ L := ⟨_, HL.out⟩
  have hnx := Pre.next HL.out
  have HN := Lib.hid hnx.2
  have HO := Lib.hid (onum_any o.pub HS.out.ok.pub (hpre0.len6 HLL.out) HW.out.1)
  go_wp2_with fail
  refine (HO.out).mono ?_
  rintro e w20 ⟨⟨_, rfl⟩, hou⟩
  have HW' := Lib.hid (Wr.after HW.out.2 hou)
  clear hou HO HW d0 c23 hpre0 hnx HL
  have HW := HW'
  clear HW'
  have HL := HN
  clear HN
  have d0 := (HW.out.2.2 (w.heap.size) 95 _ (by decide) (by decide) HD.out).cell 0
  have c24 := ((HW.out.2.2 (w.heap.size + 1) 35 _ (by decide) (by decide) HP.out).cell 24).trans (at_cs HCS.out o.c24)
  have hpre0 : Pre _ L := ⟨_, HL.out⟩
  have hnx := Pre.last HL.out
  have HN := Lib.hid hnx.2
  have HO := Lib.hid (weach_sd o.hist (HX.out.hist.bf (from_below (HBK.out.1.trans HW.out.2.1))) HS.out.sd HS.out.sdn (hnx.1.len HLL.out) ((HW.out.2.2 (w.heap.size) 95 _ (by decide) (by decide) HD.out)) (fun y hy => ⟨HS.out.hist y hy, (HX.out.histB y hy).bf (from_below (HBK.out.1.trans HW.out.2.1))⟩) HW.out.1)
  go_wp2_with fail
  refine (HO.out).mono ?_
  rintro e w21 ⟨⟨_, rfl⟩, hou⟩
  have HW' := Lib.hid (Wr.after HW.out.2 hou)
  clear hou HO HW d0 c24 hpre0 hnx HL
  have HW := HW'
  clear HW'
  have HL := HN
  clear HN
  go_wp2
  go_end0
  have hf := HL.out
  rw [List.append_nil] at hf
  exact ⟨⟨_, rfl⟩, hf ▸ Wr.after HBK.out HW.out⟩

end Ot
end Go.Proofs.YtkicjjcangkneaaGreatDoor
