/-
  An operation's content and bytes, by the program. For bodies of up to 1000 bytes, 900000 in all.
-/
import Derived.Test.YtkicjjcangkneaaGreatDoorOtf
namespace Go.Proofs.YtkicjjcangkneaaGreatDoor
open Go.RowKit
attribute [local go_sem ↓] Go.wp_at_zero Go.wp_at_succ
set_option maxRecDepth 100000
namespace Ot
/-- Bytes of one's own. -/
def Byt (w w' : World) (e : Ending) (l : List UInt8) : Prop := ∃ x : Ls UInt8, e = .returned x.v ∧ x.l = l ∧ Gr kU8 w.heap.size w' x ∧ Below w.heap.size w w'
theorem Lies.front {w : World} {o : LOp} (h : Lies No w o) {n : Nat} (hn : w.heap.size ≤ n) : Lies (From n) w o := h.weak fun k hk hf => by have : n ≤ k := hf; omega

set_option maxHeartbeats 1000000 in
theorem content_any {w : World} (o : LOp) (hx : Lies No w o) (hs : Small o) (hl : (con o.er).length ≤ 900000) :
    Calls Tryz.prog 58 #[o.v] w fun e w' => Byt w w' e (con o.er) := by
  obtain ⟨cs, hcs⟩ : ∃ cs, cs = o.cells := ⟨_, rfl⟩
  have hV : Vr ((w.alloc (.cells cs 35)).alloc (.cells #[.slice none 0 0] 93)) w.heap.size o := by
    unfold Vr
    rw [← hcs]
    exact blk_alloc (blk_new w 35 cs) _
  have hO := Ou.new (w.alloc (.cells cs 35))
  have hL := ((hx.front (n := w.heap.size + 1) (by omega)).alloc (.cells cs 35)).alloc (.cells #[.slice none 0 0] 93)
  have hb : Below w.heap.size w ((w.alloc (.cells cs 35)).alloc (.cells #[.slice none 0 0] 93)) := ((Below.refl _ w).alloc (Nat.le_refl _) _).alloc (by simp) _
  have es : (w.alloc (.cells cs 35)).heap.size = w.heap.size + 1 := by simp
  rw [es] at hO
  have HC := Lib.hid (write_any o hL hs (by rw [List.nil_append]; exact hl) hO)
  obtain ⟨L, hLe⟩ : ∃ L, L = con o.er := ⟨_, rfl⟩
  rw [← hLe] at HC hl ⊢
  have HV := Lib.hid hV
  have HB := Lib.hid hb
  have HL := Lib.hid hl
  show Calls _ _ #[.agg o.cells] w _
  rw [← hcs]
  clear hV hO hL hb hx hs hl hcs hLe
  go_enter Tryz.func58, Tryz.ntmps58
  go_wp2_with (refine wpList_load_op rfl _ rfl rfl HV.out ?_)
  refine (HC.out).mono ?_
  rintro e w1 ⟨⟨_, rfl⟩, hou⟩
  rw [List.nil_append] at hou
  have HY := Lib.hid (obytes_any (Nat.le_trans HL.out (by decide)) hou.1)
  have HB1 := Lib.hid (HB.out.trans (hou.2.1.mono (by omega)))
  clear hou HC HV HB
  go_wp2_with fail
  refine (HY.out).mono ?_
  rintro e w2 ⟨A, c, rfl, hown, hb2⟩
  have HZ := Lib.hid (And.intro hown hb2)
  clear hown hb2 HY
  go_wp2
  go_ret
  have hz := HZ.out
  obtain ⟨_, hg⟩ := Gr.of8 hz.1
  have hsz := HB1.out.size
  exact ⟨⟨L, A, c⟩, rfl, rfl, hg.base hsz, HB1.out.trans (hz.2.mono hsz)⟩

set_option maxHeartbeats 1000000 in
theorem put_any {w : World} (o : LOp) (hx : Lies No w o) (hs : Small o) (hl : (put o.er).length ≤ 900000) :
    Calls Tryz.prog 17 #[o.v] w fun e w' => Byt w w' e (put o.er) := by
  obtain ⟨cs, hcs⟩ : ∃ cs, cs = o.cells := ⟨_, rfl⟩
  have hV : Vr ((w.alloc (.cells cs 35)).alloc (.cells #[.slice none 0 0] 93)) w.heap.size o := by
    unfold Vr
    rw [← hcs]
    exact blk_alloc (blk_new w 35 cs) _
  have hO := Ou.new (w.alloc (.cells cs 35))
  have hL := ((hx.front (n := w.heap.size + 1) (by omega)).alloc (.cells cs 35)).alloc (.cells #[.slice none 0 0] 93)
  have hb : Below w.heap.size w ((w.alloc (.cells cs 35)).alloc (.cells #[.slice none 0 0] 93)) := ((Below.refl _ w).alloc (Nat.le_refl _) _).alloc (by simp) _
  have es : (w.alloc (.cells cs 35)).heap.size = w.heap.size + 1 := by simp
  rw [es] at hO
  have hlen : (con o.er).length + ((Pk.num o.r).length + (Pk.num o.s).length) ≤ 900000 := by
    unfold put at hl
    rw [List.length_append, List.length_append] at hl
    exact hl
  have HC := Lib.hid (write_any o hL hs (by rw [List.nil_append]; omega) hO)
  obtain ⟨L, hLe⟩ : ∃ L, L = con o.er := ⟨_, rfl⟩
  have hput : put o.er = (L ++ Pk.num o.r) ++ Pk.num o.s := by rw [hLe, List.append_assoc]; rfl
  rw [← hLe] at HC hlen
  rw [hput] at hl ⊢
  obtain ⟨F, hF⟩ : ∃ F, F = (L ++ Pk.num o.r) ++ Pk.num o.s := ⟨_, rfl⟩
  rw [← hF] at hl ⊢
  have HF := Lib.hid hF
  have HFL := Lib.hid hl
  have HV := Lib.hid hV
  have HB := Lib.hid hb
  have HL := Lib.hid hlen
  have HCS := Lib.hid hcs
  have HR := Lib.hid (And.intro hs.ok.r hs.ok.s)
  show Calls _ _ #[.agg o.cells] w _
  rw [← hcs]
  clear hV hO hL hb hx hs hl hcs hLe hlen hput hF
  go_enter Tryz.func17, Tryz.ntmps17
  go_wp2_with (refine wpList_load_op rfl _ rfl rfl HV.out ?_)
  refine (HC.out).mono ?_
  rintro e w1 ⟨⟨_, rfl⟩, hou⟩
  rw [List.nil_append] at hou
  have hV1 := hou.2.2 _ 35 _ (by decide) (by decide) HV.out
  have c25 := (hV1.cell 25).trans o.c25
  have HN := Lib.hid (onum_any o.r HR.out.1 (by have := HL.out; omega) hou.1)
  have HV1 := Lib.hid hV1
  have HB1 := Lib.hid (HB.out.trans (hou.2.1.mono (by omega)))
  clear hou HC HV HB hV1
  go_wp2_with fail
  refine (HN.out).mono ?_
  rintro e w2 ⟨⟨_, rfl⟩, hou, hb, hk⟩
  have hV2 := hk _ 35 _ (by decide) (by decide) HV1.out
  have c26 := (hV2.cell 26).trans o.c26
  have HM := Lib.hid (onum_any o.s HR.out.2 (by rw [List.length_append]; have := HL.out; omega) hou)
  have HB2 := Lib.hid (HB1.out.trans (hb.mono (by omega)))
  clear hou HN HV1 HB1 hV2 c25 hb hk
  go_wp2_with fail
  refine (HM.out).mono ?_
  rintro e w3 ⟨⟨_, rfl⟩, hou, hb, hk⟩
  rw [← HF.out] at hou
  have HY := Lib.hid (obytes_any (Nat.le_trans HFL.out (by decide)) hou)
  have HB3 := Lib.hid (HB2.out.trans (hb.mono (by omega)))
  clear hou HM HB2 c26 hb hk
  go_wp2_with fail
  refine (HY.out).mono ?_
  rintro e w4 ⟨A, c, rfl, hown, hb2⟩
  have HZ := Lib.hid (And.intro hown hb2)
  clear hown hb2 HY
  go_wp2
  go_ret
  have hz := HZ.out
  obtain ⟨_, hg⟩ := Gr.of8 hz.1
  have hsz := HB3.out.size
  exact ⟨⟨_, A, c⟩, rfl, rfl, hg.base hsz, HB3.out.trans (hz.2.mono hsz)⟩
end Ot
end Go.Proofs.YtkicjjcangkneaaGreatDoor
