/-
  Package op's bytes and names (P11.3): 'huddlelaw11.OpPuts' returns true. The table of kinds reads as it was laid.
-/
import Derived.Test.YtkicjjcangkneaaGreatDoorOuf
import Derived.Test.YtkicjjcangkneaaGreatDoorVar
namespace Go.Proofs.YtkicjjcangkneaaGreatDoor
open Go.RowKit
set_option linter.unusedSimpArgs false
attribute [local go_sem ↓] Go.wp_at_zero Go.wp_at_succ
set_option maxRecDepth 100000
namespace Ot
/-- What is asked of worlds may be made more on the way. -/
theorem wpAnyH_and {P : Program} {ops : Array Oper} {Q : Exit → Act → World → Prop} {md : Region.Mode} {S : World → Prop} (T : World → Prop) : ∀ (fuel : Nat) (listed : Array Bool) (a : Act) (w : World), wpAnyH P md ops Q (fun w' => S w' ∧ T w') fuel listed a w → wpAnyH P md ops Q S fuel listed a w
  | 0, _, _, _, h => h
  | fuel + 1, _, _, _, h => ⟨h.1, fun i hi => wpOp_mono (fun a' w' h' => ⟨h'.1.1, wpAnyH_and T fuel _ a' w' h'.2⟩) (h.2 i hi)⟩
theorem GOp.roomy {xs : List Int} {o : LOp} (h : GOp xs o) : Roomy 7 o := by
  obtain ⟨r0, r3, o1, o2, o3, h0, h3, p1, p2, p3, p4⟩ := h
  have a1 := p1.few
  have a2 := p2.few
  have a3 := p4.few
  have e4 := p4.eq
  have hp : o2.past = o1.past := by rw [p2.eq]
  have hg : o2.guards.l = [] := by rw [p2.eq, p1.eq]; rfl
  have hb : o2.boxes.l = [] := by rw [p2.eq, p1.eq]; rfl
  have key : o3.past.l.length ≤ 7 ∧ o3.path.l.length ≤ 7 ∧ o3.guards.l.length ≤ 7 ∧ o3.boxes.l.length ≤ 7 := by
    have b1 : o2.past.l.length ≤ 7 := by rw [hp]; omega
    have b2 : o2.path.l.length ≤ 7 := by omega
    have b3 : o2.guards.l.length ≤ 7 := by rw [hg]; exact Nat.zero_le _
    have b4 : o2.boxes.l.length ≤ 7 := by rw [hb]; exact Nat.zero_le _
    cases p3 with
    | guard g n t p b hk h0 h1 h2 h3 h4 h5 h6 h7 => exact ⟨b1, b2, by show g.l.length ≤ 7; omega, by show b.l.length ≤ 7; omega⟩
    | refresh e b hk h0 h1 h2 => exact ⟨b1, b2, b3, by show b.l.length ≤ 7; omega⟩
    | vouch e d b hk h0 h3 h1 h2 => exact ⟨b1, b2, b3, by show b.l.length ≤ 7; omega⟩
    | _ => exact ⟨b1, b2, b3, b4⟩
  refine ⟨?_, ?_, ?_, ?_, by omega⟩
  · rw [e4]; exact key.1
  · rw [e4]; exact key.2.1
  · rw [e4]; exact key.2.2.1
  · rw [e4]; exact key.2.2.2
theorem Tiny.sig {o : LOp} (h : Tiny o.er) {r s : Nat} (hr : u64 r) (hs : u64 s) : Tiny { o with r := r, s := s }.er :=
  ⟨Ok.sig h.ok hr hs, h.past, h.path, h.pathB, h.body, h.refs, h.guards, h.boxes, h.hist, h.histB⟩

set_option maxHeartbeats 8000000 in
theorem puts_any {w : World} (l : Ls Int) (how n : Int) (sr ss : Nat) (hl : Lz kInt No w l) (hok : ∀ y ∈ l.l, i64 y) (hln : l.l.length ≤ 9223372036854775807) (hhow : i64 how) (hn : i64 n) (hr : u64 sr) (hs : u64 ss) (hk : Kds w) :
    Calls Tryz.prog 4 #[l.v, .int .i64 how, .int .i64 n, .agg #[.int .u64 (sr : Int), .int .u64 (ss : Int)]] w fun e w' => e = .returned (.bool true) ∧ Below w.heap.size w w' := by
  have HOP := Lib.hid (op_any (w := w.alloc (.cells #[.int .u64 (sr : Int), .int .u64 (ss : Int)] 33)) l (hl.bf (Bf.alloc w _)) hok hln)
  have HB0 := Lib.hid ((Below.refl w.heap.size w).alloc (Nat.le_refl _) (.cells #[.int .u64 (sr : Int), .int .u64 (ss : Int)] 33))
  have HSG := Lib.hid (blk_new w 33 #[.int .u64 (sr : Int), .int .u64 (ss : Int)])
  have HK := Lib.hid hk
  have HHN := Lib.hid (And.intro hhow hn)
  have HRS := Lib.hid (And.intro hr hs)
  obtain ⟨G, hG⟩ : ∃ G, G = w.heap.size := ⟨_, rfl⟩
  have HG := Lib.hid hG
  rw [← hG] at HSG
  clear hl hok hln hhow hn hr hs hk
  go_enter Tryz.func4, Tryz.ntmps4
  go_wp2_with fail
  rw [← hG]
  clear hG
  refine (HOP.out).mono ?_
  rintro e w1 ⟨o, rfl, hg, hlo, hb1⟩
  have HT := Lib.hid hg.tiny
  have HRO := Lib.hid hg.roomy
  have HV := Lib.hid (Vr.new w1 LOp.zero)
  have HVN := Lib.hid (var_new w1 o)
  have HL1 := Lib.hid (var_lies hlo LOp.zero o)
  have HB1 := Lib.hid (HB0.out.trans (hb1.mono (by simp)))
  have HB2 := Lib.hid (HB1.out.trans (var_below w1 LOp.zero o HB1.out.size))
  have hsg1 := HSG.out.below hb1 HSG.out.lt
  have HSG2 := Lib.hid (hsg1.below (var_below w1 LOp.zero o (Nat.le_refl _)) hsg1.lt)
  clear hg hlo hb1 hsg1 HOP HB0 HSG
  go_upto_region 2 with (refine wpList_store_op (o' := o) rfl _ _ rfl rfl rfl HV.out ?_)
  rw [zc]
  obtain ⟨V1, hV1⟩ : ∃ V1, V1 = w1.heap.size := ⟨_, rfl⟩
  obtain ⟨w2, hw2⟩ : ∃ w2, w2 = (w1.alloc (.cells LOp.zero.cells 35)).setRow w1.heap.size o.cells := ⟨_, rfl⟩
  rw [← hw2] at HVN HL1 HB2 HSG2 ⊢
  rw [← hV1] at HVN ⊢
  have HBT := Lib.hid (bent_any o HL1.out HT.out 7 (by omega) HRO.out how n HHN.out.1 HHN.out.2)
  clear hw2 hV1 HV HB1
  go_wp2_with (refine wpList_load_op rfl _ rfl rfl HVN.out ?_)
  refine (HBT.out).mono ?_
  rintro e w3 ⟨b0, rfl, hlb, htb, -, hb3⟩
  have HVZ := Lib.hid (Vr.new w3 LOp.zero)
  have HV2 := Lib.hid (var_new w3 b0)
  have HVA := Lib.hid (var_far (HVN.out.below hb3 (Blk.lt HVN.out)) LOp.zero b0)
  have HLT := Lib.hid (Blk.lt (HVN.out.below hb3 (Blk.lt HVN.out)))
  have HLA := Lib.hid (var_lies (F := fun k => w3.heap.size ≤ k) ((HL1.out.below hb3).weak fun k hk hf => by have hf : w3.heap.size ≤ k := hf; omega) LOp.zero b0)
  have HLB := Lib.hid (var_lies (F := fun k => w3.heap.size ≤ k) (hlb.weak fun k hk hf => by have hf : w3.heap.size ≤ k := hf; omega) LOp.zero b0)
  have HV2B := Lib.hid (show w.heap.size ≤ w3.heap.size from Nat.le_trans HB2.out.size hb3.size)
  have HTB := Lib.hid (htb.sig HRS.out.1 HRS.out.2)
  have hb3' := HB2.out.trans (hb3.mono HB2.out.size)
  have HB4 := Lib.hid (hb3'.trans (var_below w3 LOp.zero b0 hb3'.size))
  have hsg3 := HSG2.out.below hb3 HSG2.out.lt
  have HSG4 := Lib.hid (hsg3.below (var_below w3 LOp.zero b0 (Nat.le_refl _)) hsg3.lt)
  clear hlb htb hb3 hb3' hsg3 HBT HVN HL1 HB2 HSG2
  go_upto_region 3 with (refine wpList_store_op (o' := b0) rfl _ _ rfl rfl rfl HVZ.out ?_)
  rw [zc]
  obtain ⟨V2, hV2⟩ : ∃ V2, V2 = w3.heap.size := ⟨_, rfl⟩
  obtain ⟨w4, hw4⟩ : ∃ w4, w4 = (w3.alloc (.cells LOp.zero.cells 35)).setRow w3.heap.size b0.cells := ⟨_, rfl⟩
  rw [← hw4] at HV2 HVA HLA HLB HB4 HSG4 ⊢
  have HNE := Lib.hid (show V1 ≠ V2 from by have := HLT.out; omega)
  rw [← hV2] at HV2 HLA HLB HV2B ⊢
  have g0 := HSG4.out.cell 0
  have g1 := HSG4.out.cell 1
  have HBB := Lib.hid (show ∃ b : LOp, b = { b0 with r := sr, s := ss } from ⟨_, rfl⟩)
  clear hw4 hV2 HVZ HLT
  go_upto_region 4 with (refine wpList_store_sig rfl (.tmp 18) (.tmp 17) rfl (r := sr) (s := ss) rfl rfl HV2.out ?_; intro w5 hv5 hg5; have HV5 := Lib.hid hv5; have HA5 := Lib.hid (show Vr w5 V1 o from blk_grown HVA.out hg5 fun eg => by injection eg with eg; exact HNE.out eg); have HLA5 := Lib.hid (HLA.out.bf (Bf.grown hg5 fun g eg => by injection eg with eg; exact Nat.le_of_eq eg)).no; have HLB5 := Lib.hid (HLB.out.bf (Bf.grown hg5 fun g eg => by injection eg with eg; exact Nat.le_of_eq eg)).no; have HB5 := Lib.hid (HB4.out.grown hg5 HB4.out.size fun g eg => by injection eg with eg; rw [← eg]; exact HV2B.out); clear hv5 hg5)
  obtain ⟨b, hb⟩ := HBB.out
  rw [← hb] at HV5
  have HTB' := Lib.hid (show Tiny b.er from hb ▸ HTB.out)
  have HLBd := Lib.hid (show Lies No w5.drew b from hb ▸ ((HLB5.out.sig sr ss).bf (Bf.drew w5)))
  have HLAd := Lib.hid (show Lies No w5.drew o from HLA5.out.bf (Bf.drew w5))
  have HVAd := Lib.hid (show Vr w5.drew V1 o from HA5.out)
  have HVBd := Lib.hid (show Vr w5.drew V2 b from HV5.out)
  have HBd := Lib.hid (show Below w.heap.size w w5.drew from HB5.out.trans (below_drewN w5 1 w.heap.size))
  obtain ⟨sa, hsa⟩ : ∃ s : ByteArray, s = ⟨(put o.er).toArray⟩ := ⟨_, rfl⟩
  obtain ⟨sb, hsb⟩ : ∃ s : ByteArray, s = ⟨(put b.er).toArray⟩ := ⟨_, rfl⟩
  have HSA := Lib.hid hsa
  have HSB := Lib.hid hsb
  have hq1 := fun W => idn_eql ⟨o.by_, o.seq, sumOf o.er⟩ ⟨o.by_, o.seq, sumOf o.er⟩ W
  have hq2 := fun W => idn_eql ⟨b.by_, b.seq, sumOf b.er⟩ ⟨b.by_, b.seq, sumOf b.er⟩ W
  rw [(nmAlike_iff _ _).2 rfl] at hq1 hq2
  unfold nmv at hq1 hq2
  have hfr := fun op a b xs ys W => idn_free op a b xs ys W
  clear hb hsa hsb HV5 HA5 HLA5 HLB5 HB5 HBB HTB HV2 HVA HLA HLB HB4 HSG4 g0 g1
  refine wp_region_held_drew (S := (fun w' : World => Vr w' V1 o ∧ Vr w' V2 b)) (by kernel_rfl) ⟨HVAd.out, HVBd.out⟩ (fun hHeld => ?_)
  try simp only [Act.put, List.getElem_toArray, List.getElem_cons_succ, List.getElem_cons_zero, List.setIfInBounds_toArray, List.set_cons_zero, List.set_cons_succ]
  refine wpAnyH_take (i := 0) (v := ?_) rfl (by kernel_rfl) (by kernel_rfl) (by kernel_rfl) (fun _ _ _ h => h) (Or.inl ⟨by rfl, ?_⟩) (by assumption) ?_
  rotate_left
  · (intro w hSw; (try dsimp only at hSw); refine run_load_op _ (.tmp 9) ?_ ?_ hSw.1 <;> rfl)
  try simp only [Act.put, List.getElem_toArray, List.getElem_cons_zero, List.setIfInBounds_toArray, List.set_cons_zero, List.set_cons_succ]
  refine wpAnyH_take (i := 3) (v := ?_) rfl (by kernel_rfl) (by kernel_rfl) (by kernel_rfl) (fun _ _ _ h => h) (Or.inl ⟨by rfl, ?_⟩) (by assumption) ?_
  rotate_left
  · (intro w hSw; (try dsimp only at hSw); refine run_load_op _ (.tmp 9) ?_ ?_ hSw.1 <;> rfl)
  try simp only [Act.put, List.getElem_toArray, List.getElem_cons_succ, List.getElem_cons_zero, List.setIfInBounds_toArray, List.set_cons_zero, List.set_cons_succ]
  refine wpAnyH_ready (rs := [1]) (by kernel_rfl) (by simp) ?_
  refine AllReadyH.cons rfl (fun K hK => ?_) AllReadyH.nil
  go_simp
  have HC := Lib.hid (put_any o HLAd.out HT.out.small HT.out.put9)
  refine (HC.out).mono ?_
  rintro e x1 ⟨y1, rfl, hyl, hgy, hb⟩
  have VA1 := Lib.hid (HVAd.out.below hb (Blk.lt HVAd.out))
  have VB1 := Lib.hid (HVBd.out.below hb (Blk.lt HVBd.out))
  have LA1 := Lib.hid (HLAd.out.below hb)
  have LB1 := Lib.hid (HLBd.out.below hb)
  have BB1 := Lib.hid (HBd.out.trans (hb.mono HBd.out.size))
  have TN1 := Lib.hid (hgy.lz (F := No) fun _ h => h.elim)
  have YL1 := Lib.hid hyl
  clear hb HC hyl hgy HVAd HVBd HLAd HLBd HBd
  try go_simp
  refine hK.out _ _ ⟨VA1.out, VB1.out⟩ (fun hHeld1 => ?_)
  clear hK K
  try simp only [Act.put, List.getElem_toArray, List.getElem_cons_succ, List.getElem_cons_zero, List.setIfInBounds_toArray, List.set_cons_zero, List.set_cons_succ]
  refine wpAnyH_and (fun w' => Lz kU8 No w' y1) _ _ _ _ ?_
  have hHeld : (Vr x1 V1 o ∧ Vr x1 V2 b) ∧ Lz kU8 No x1 y1 := ⟨⟨VA1.out, VB1.out⟩, TN1.out⟩
  refine wpAnyH_take (i := 2) (v := ?_) rfl (by kernel_rfl) (by kernel_rfl) (by kernel_rfl) (fun _ _ _ h => h) (Or.inl ⟨by rfl, ?_⟩) (by assumption) ?_
  rotate_left
  · (intro w hSw; (try dsimp only at hSw); have cv : (convert 28 9 y1.v).run Tryz.prog w = .ok (.string sa) w := (by rw [HSA.out, ← (show y1.l = put o.er from YL1.out)]; exact cu_conv_rd y1.A y1.l.length y1.c _ _ y1.l rfl (hSw.2).rd8); go_simp; try (with_reducible rfl))
  try simp only [Act.put, List.getElem_toArray, List.getElem_cons_succ, List.getElem_cons_zero, List.setIfInBounds_toArray, List.set_cons_zero, List.set_cons_succ]
  refine wpAnyH_ready (rs := [4]) (by kernel_rfl) (by simp) ?_
  refine AllReadyH.cons rfl (fun K hK => ?_) AllReadyH.nil
  go_simp
  have HC := Lib.hid (rput_any o LA1.out HT.out)
  refine (HC.out).mono ?_
  rintro e x2 ⟨y2, rfl, hyl, hgy, hb⟩
  have VA2 := Lib.hid (VA1.out.below hb (Blk.lt VA1.out))
  have VB2 := Lib.hid (VB1.out.below hb (Blk.lt VB1.out))
  have LA2 := Lib.hid (LA1.out.below hb)
  have LB2 := Lib.hid (LB1.out.below hb)
  have BB2 := Lib.hid (BB1.out.trans (hb.mono BB1.out.size))
  have T2_0 := Lib.hid (TN1.out.bf (F := No) (Bf.below hb))
  have TN2 := Lib.hid (hgy.lz (F := No) fun _ h => h.elim)
  have YL2 := Lib.hid hyl
  clear hb HC hyl hgy VA1 VB1 LA1 LB1 BB1 TN1
  try go_simp
  refine hK.out _ _ ⟨⟨VA2.out, VB2.out⟩, T2_0.out⟩ (fun hHeld1 => ?_)
  clear hK K
  try simp only [Act.put, List.getElem_toArray, List.getElem_cons_succ, List.getElem_cons_zero, List.setIfInBounds_toArray, List.set_cons_zero, List.set_cons_succ]
  refine wpAnyH_and (fun w' => Lz kU8 No w' y2) _ _ _ _ ?_
  have hHeld : ((Vr x2 V1 o ∧ Vr x2 V2 b) ∧ Lz kU8 No x2 y1) ∧ Lz kU8 No x2 y2 := ⟨⟨⟨VA2.out, VB2.out⟩, T2_0.out⟩, TN2.out⟩
  refine wpAnyH_take (i := 5) (v := ?_) rfl (by kernel_rfl) (by kernel_rfl) (by kernel_rfl) (fun _ _ _ h => h) (Or.inl ⟨by rfl, ?_⟩) (by assumption) ?_
  rotate_left
  · (intro w hSw; (try dsimp only at hSw); have cv : (convert 28 9 y2.v).run Tryz.prog w = .ok (.string sa) w := (by rw [HSA.out, ← (show y2.l = put o.er from YL2.out)]; exact cu_conv_rd y2.A y2.l.length y2.c _ _ y2.l rfl (hSw.2).rd8); go_simp; try (with_reducible rfl))
  try simp only [Act.put, List.getElem_toArray, List.getElem_cons_succ, List.getElem_cons_zero, List.setIfInBounds_toArray, List.set_cons_zero, List.set_cons_succ]
  refine wpAnyH_take (i := 6) (v := ?_) rfl (by kernel_rfl) (by kernel_rfl) (by kernel_rfl) (fun _ _ _ h => h) (Or.inl ⟨by rfl, ?_⟩) (by assumption) ?_
  rotate_left
  · (intro w hSw; (try dsimp only at hSw); go_simp; try (with_reducible rfl))
  try simp only [Act.put, List.getElem_toArray, List.getElem_cons_succ, List.getElem_cons_zero, List.setIfInBounds_toArray, List.set_cons_zero, List.set_cons_succ]
  refine wpAnyH_take (i := 7) (v := ?_) rfl (by kernel_rfl) (by kernel_rfl) (by kernel_rfl) (fun _ _ _ h => h) (Or.inl ⟨by rfl, ?_⟩) (by assumption) ?_
  rotate_left
  · (intro w hSw; (try dsimp only at hSw); go_simp; try (with_reducible rfl))
  try simp only [Act.put, List.getElem_toArray, List.getElem_cons_succ, List.getElem_cons_zero, List.setIfInBounds_toArray, List.set_cons_zero, List.set_cons_succ]
  refine wpAnyH_take (i := 8) (v := ?_) rfl (by kernel_rfl) (by kernel_rfl) (by kernel_rfl) (fun _ _ _ h => h) (Or.inl ⟨by rfl, ?_⟩) (by assumption) ?_
  rotate_left
  · (intro w hSw; (try dsimp only at hSw); refine run_load_op _ (.tmp 10) ?_ ?_ hSw.1.1.2 <;> rfl)
  try simp only [Act.put, List.getElem_toArray, List.getElem_cons_succ, List.getElem_cons_zero, List.setIfInBounds_toArray, List.set_cons_zero, List.set_cons_succ]
  refine wpAnyH_take (i := 11) (v := ?_) rfl (by kernel_rfl) (by kernel_rfl) (by kernel_rfl) (fun _ _ _ h => h) (Or.inl ⟨by rfl, ?_⟩) (by assumption) ?_
  rotate_left
  · (intro w hSw; (try dsimp only at hSw); refine run_load_op _ (.tmp 10) ?_ ?_ hSw.1.1.2 <;> rfl)
  try simp only [Act.put, List.getElem_toArray, List.getElem_cons_succ, List.getElem_cons_zero, List.setIfInBounds_toArray, List.set_cons_zero, List.set_cons_succ]
  refine wpAnyH_ready (rs := [9]) (by kernel_rfl) (by simp) ?_
  refine AllReadyH.cons rfl (fun K hK => ?_) AllReadyH.nil
  go_simp
  have HC := Lib.hid (put_any b LB2.out HTB'.out.small HTB'.out.put9)
  refine (HC.out).mono ?_
  rintro e x3 ⟨y3, rfl, hyl, hgy, hb⟩
  have VA3 := Lib.hid (VA2.out.below hb (Blk.lt VA2.out))
  have VB3 := Lib.hid (VB2.out.below hb (Blk.lt VB2.out))
  have LA3 := Lib.hid (LA2.out.below hb)
  have LB3 := Lib.hid (LB2.out.below hb)
  have BB3 := Lib.hid (BB2.out.trans (hb.mono BB2.out.size))
  have T3_0 := Lib.hid (T2_0.out.bf (F := No) (Bf.below hb))
  have T3_1 := Lib.hid (TN2.out.bf (F := No) (Bf.below hb))
  have TN3 := Lib.hid (hgy.lz (F := No) fun _ h => h.elim)
  have YL3 := Lib.hid hyl
  clear hb HC hyl hgy VA2 VB2 LA2 LB2 BB2 T2_0 TN2
  try go_simp
  refine hK.out _ _ ⟨⟨⟨VA3.out, VB3.out⟩, T3_0.out⟩, T3_1.out⟩ (fun hHeld1 => ?_)
  clear hK K
  try simp only [Act.put, List.getElem_toArray, List.getElem_cons_succ, List.getElem_cons_zero, List.setIfInBounds_toArray, List.set_cons_zero, List.set_cons_succ]
  refine wpAnyH_and (fun w' => Lz kU8 No w' y3) _ _ _ _ ?_
  have hHeld : (((Vr x3 V1 o ∧ Vr x3 V2 b) ∧ Lz kU8 No x3 y1) ∧ Lz kU8 No x3 y2) ∧ Lz kU8 No x3 y3 := ⟨⟨⟨⟨VA3.out, VB3.out⟩, T3_0.out⟩, T3_1.out⟩, TN3.out⟩
  refine wpAnyH_take (i := 10) (v := ?_) rfl (by kernel_rfl) (by kernel_rfl) (by kernel_rfl) (fun _ _ _ h => h) (Or.inl ⟨by rfl, ?_⟩) (by assumption) ?_
  rotate_left
  · (intro w hSw; (try dsimp only at hSw); have cv : (convert 28 9 y3.v).run Tryz.prog w = .ok (.string sb) w := (by rw [HSB.out, ← (show y3.l = put b.er from YL3.out)]; exact cu_conv_rd y3.A y3.l.length y3.c _ _ y3.l rfl (hSw.2).rd8); go_simp; try (with_reducible rfl))
  try simp only [Act.put, List.getElem_toArray, List.getElem_cons_succ, List.getElem_cons_zero, List.setIfInBounds_toArray, List.set_cons_zero, List.set_cons_succ]
  refine wpAnyH_ready (rs := [12]) (by kernel_rfl) (by simp) ?_
  refine AllReadyH.cons rfl (fun K hK => ?_) AllReadyH.nil
  go_simp
  have HC := Lib.hid (rput_any b LB3.out HTB'.out)
  refine (HC.out).mono ?_
  rintro e x4 ⟨y4, rfl, hyl, hgy, hb⟩
  have VA4 := Lib.hid (VA3.out.below hb (Blk.lt VA3.out))
  have VB4 := Lib.hid (VB3.out.below hb (Blk.lt VB3.out))
  have LA4 := Lib.hid (LA3.out.below hb)
  have LB4 := Lib.hid (LB3.out.below hb)
  have BB4 := Lib.hid (BB3.out.trans (hb.mono BB3.out.size))
  have T4_0 := Lib.hid (T3_0.out.bf (F := No) (Bf.below hb))
  have T4_1 := Lib.hid (T3_1.out.bf (F := No) (Bf.below hb))
  have T4_2 := Lib.hid (TN3.out.bf (F := No) (Bf.below hb))
  have TN4 := Lib.hid (hgy.lz (F := No) fun _ h => h.elim)
  have YL4 := Lib.hid hyl
  clear hb HC hyl hgy VA3 VB3 LA3 LB3 BB3 T3_0 T3_1 TN3
  try go_simp
  refine hK.out _ _ ⟨⟨⟨⟨VA4.out, VB4.out⟩, T4_0.out⟩, T4_1.out⟩, T4_2.out⟩ (fun hHeld1 => ?_)
  clear hK K
  try simp only [Act.put, List.getElem_toArray, List.getElem_cons_succ, List.getElem_cons_zero, List.setIfInBounds_toArray, List.set_cons_zero, List.set_cons_succ]
  refine wpAnyH_and (fun w' => Lz kU8 No w' y4) _ _ _ _ ?_
  have hHeld : ((((Vr x4 V1 o ∧ Vr x4 V2 b) ∧ Lz kU8 No x4 y1) ∧ Lz kU8 No x4 y2) ∧ Lz kU8 No x4 y3) ∧ Lz kU8 No x4 y4 := ⟨⟨⟨⟨⟨VA4.out, VB4.out⟩, T4_0.out⟩, T4_1.out⟩, T4_2.out⟩, TN4.out⟩
  refine wpAnyH_take (i := 13) (v := ?_) rfl (by kernel_rfl) (by kernel_rfl) (by kernel_rfl) (fun _ _ _ h => h) (Or.inl ⟨by rfl, ?_⟩) (by assumption) ?_
  rotate_left
  · (intro w hSw; (try dsimp only at hSw); have cv : (convert 28 9 y4.v).run Tryz.prog w = .ok (.string sb) w := (by rw [HSB.out, ← (show y4.l = put b.er from YL4.out)]; exact cu_conv_rd y4.A y4.l.length y4.c _ _ y4.l rfl (hSw.2).rd8); go_simp; try (with_reducible rfl))
  try simp only [Act.put, List.getElem_toArray, List.getElem_cons_succ, List.getElem_cons_zero, List.setIfInBounds_toArray, List.set_cons_zero, List.set_cons_succ]
  refine wpAnyH_take (i := 14) (v := ?_) rfl (by kernel_rfl) (by kernel_rfl) (by kernel_rfl) (fun _ _ _ h => h) (Or.inl ⟨by rfl, ?_⟩) (by assumption) ?_
  rotate_left
  · (intro w hSw; (try dsimp only at hSw); go_simp; try (with_reducible rfl))
  try simp only [Act.put, List.getElem_toArray, List.getElem_cons_succ, List.getElem_cons_zero, List.setIfInBounds_toArray, List.set_cons_zero, List.set_cons_succ]
  refine wpAnyH_take (i := 15) (v := ?_) rfl (by kernel_rfl) (by kernel_rfl) (by kernel_rfl) (fun _ _ _ h => h) (Or.inl ⟨by rfl, ?_⟩) (by assumption) ?_
  rotate_left
  · (intro w hSw; (try dsimp only at hSw); go_simp; try (with_reducible rfl))
  try simp only [Act.put, List.getElem_toArray, List.getElem_cons_succ, List.getElem_cons_zero, List.setIfInBounds_toArray, List.set_cons_zero, List.set_cons_succ]
  refine wpAnyH_take (i := 16) (v := ?_) rfl (by kernel_rfl) (by kernel_rfl) (by kernel_rfl) (fun _ _ _ h => h) (Or.inl ⟨by rfl, ?_⟩) (by assumption) ?_
  rotate_left
  · (intro w hSw; (try dsimp only at hSw); go_simp; try (with_reducible rfl))
  try simp only [Act.put, List.getElem_toArray, List.getElem_cons_succ, List.getElem_cons_zero, List.setIfInBounds_toArray, List.set_cons_zero, List.set_cons_succ]
  refine wpAnyH_take (i := 17) (v := ?_) rfl (by kernel_rfl) (by kernel_rfl) (by kernel_rfl) (fun _ _ _ h => h) (Or.inl ⟨by rfl, ?_⟩) (by assumption) ?_
  rotate_left
  · (intro w hSw; (try dsimp only at hSw); refine run_load_op _ (.tmp 9) ?_ ?_ hSw.1.1.1.1.1 <;> rfl)
  try simp only [Act.put, List.getElem_toArray, List.getElem_cons_succ, List.getElem_cons_zero, List.setIfInBounds_toArray, List.set_cons_zero, List.set_cons_succ]
  refine wpAnyH_take (i := 19) (v := ?_) rfl (by kernel_rfl) (by kernel_rfl) (by kernel_rfl) (fun _ _ _ h => h) (Or.inl ⟨by rfl, ?_⟩) (by assumption) ?_
  rotate_left
  · (intro w hSw; (try dsimp only at hSw); refine run_load_op _ (.tmp 9) ?_ ?_ hSw.1.1.1.1.1 <;> rfl)
  try simp only [Act.put, List.getElem_toArray, List.getElem_cons_succ, List.getElem_cons_zero, List.setIfInBounds_toArray, List.set_cons_zero, List.set_cons_succ]
  refine wpAnyH_ready (rs := [18]) (by kernel_rfl) (by simp) ?_
  refine AllReadyH.cons rfl (fun K hK => ?_) AllReadyH.nil
  go_simp
  have HC := Lib.hid (id_any o LA4.out HT.out)
  refine (HC.out).mono ?_
  rintro e x5 ⟨rfl, hb⟩
  have VA5 := Lib.hid (VA4.out.below hb (Blk.lt VA4.out))
  have VB5 := Lib.hid (VB4.out.below hb (Blk.lt VB4.out))
  have LA5 := Lib.hid (LA4.out.below hb)
  have LB5 := Lib.hid (LB4.out.below hb)
  have BB5 := Lib.hid (BB4.out.trans (hb.mono BB4.out.size))
  have T5_0 := Lib.hid (T4_0.out.bf (F := No) (Bf.below hb))
  have T5_1 := Lib.hid (T4_1.out.bf (F := No) (Bf.below hb))
  have T5_2 := Lib.hid (T4_2.out.bf (F := No) (Bf.below hb))
  have T5_3 := Lib.hid (TN4.out.bf (F := No) (Bf.below hb))
  clear hb HC VA4 VB4 LA4 LB4 BB4 T4_0 T4_1 T4_2 TN4
  try go_simp
  refine hK.out _ _ ⟨⟨⟨⟨⟨VA5.out, VB5.out⟩, T5_0.out⟩, T5_1.out⟩, T5_2.out⟩, T5_3.out⟩ (fun hHeld1 => ?_)
  clear hK K
  try simp only [Act.put, List.getElem_toArray, List.getElem_cons_succ, List.getElem_cons_zero, List.setIfInBounds_toArray, List.set_cons_zero, List.set_cons_succ]
  refine wpAnyH_ready (rs := [20]) (by kernel_rfl) (by simp) ?_
  refine AllReadyH.cons rfl (fun K hK => ?_) AllReadyH.nil
  go_simp
  have HC := Lib.hid (rid_any o LA5.out HT.out)
  refine (HC.out).mono ?_
  rintro e x6 ⟨rfl, hb⟩
  have VA6 := Lib.hid (VA5.out.below hb (Blk.lt VA5.out))
  have VB6 := Lib.hid (VB5.out.below hb (Blk.lt VB5.out))
  have LA6 := Lib.hid (LA5.out.below hb)
  have LB6 := Lib.hid (LB5.out.below hb)
  have BB6 := Lib.hid (BB5.out.trans (hb.mono BB5.out.size))
  have T6_0 := Lib.hid (T5_0.out.bf (F := No) (Bf.below hb))
  have T6_1 := Lib.hid (T5_1.out.bf (F := No) (Bf.below hb))
  have T6_2 := Lib.hid (T5_2.out.bf (F := No) (Bf.below hb))
  have T6_3 := Lib.hid (T5_3.out.bf (F := No) (Bf.below hb))
  clear hb HC VA5 VB5 LA5 LB5 BB5 T5_0 T5_1 T5_2 T5_3
  try go_simp
  refine hK.out _ _ ⟨⟨⟨⟨⟨VA6.out, VB6.out⟩, T6_0.out⟩, T6_1.out⟩, T6_2.out⟩, T6_3.out⟩ (fun hHeld1 => ?_)
  clear hK K
  try simp only [Act.put, List.getElem_toArray, List.getElem_cons_succ, List.getElem_cons_zero, List.setIfInBounds_toArray, List.set_cons_zero, List.set_cons_succ]
  refine wpAnyH_take (i := 21) (v := ?_) rfl (by kernel_rfl) (by kernel_rfl) (by kernel_rfl) (fun _ _ _ h => h) (Or.inl ⟨by rfl, ?_⟩) (by assumption) ?_
  rotate_left
  · (intro w hSw; (try dsimp only at hSw); go_simp; try (with_reducible rfl))
  try simp only [Act.put, List.getElem_toArray, List.getElem_cons_succ, List.getElem_cons_zero, List.setIfInBounds_toArray, List.set_cons_zero, List.set_cons_succ]
  refine wpAnyH_take (i := 22) (v := ?_) rfl (by kernel_rfl) (by kernel_rfl) (by kernel_rfl) (fun _ _ _ h => h) (Or.inl ⟨by rfl, ?_⟩) (by assumption) ?_
  rotate_left
  · (intro w hSw; (try dsimp only at hSw); go_simp; try (with_reducible rfl))
  try simp only [Act.put, List.getElem_toArray, List.getElem_cons_succ, List.getElem_cons_zero, List.setIfInBounds_toArray, List.set_cons_zero, List.set_cons_succ]
  refine wpAnyH_take (i := 23) (v := ?_) rfl (by kernel_rfl) (by kernel_rfl) (by kernel_rfl) (fun _ _ _ h => h) (Or.inl ⟨by rfl, ?_⟩) (by assumption) ?_
  rotate_left
  · (intro w hSw; (try dsimp only at hSw); go_simp; try (with_reducible rfl))
  try simp only [Act.put, List.getElem_toArray, List.getElem_cons_succ, List.getElem_cons_zero, List.setIfInBounds_toArray, List.set_cons_zero, List.set_cons_succ]
  refine wpAnyH_take (i := 24) (v := ?_) rfl (by kernel_rfl) (by kernel_rfl) (by kernel_rfl) (fun _ _ _ h => h) (Or.inl ⟨by rfl, ?_⟩) (by assumption) ?_
  rotate_left
  · (intro w hSw; (try dsimp only at hSw); refine run_load_op _ (.tmp 10) ?_ ?_ hSw.1.1.1.1.2 <;> rfl)
  try simp only [Act.put, List.getElem_toArray, List.getElem_cons_succ, List.getElem_cons_zero, List.setIfInBounds_toArray, List.set_cons_zero, List.set_cons_succ]
  refine wpAnyH_take (i := 26) (v := ?_) rfl (by kernel_rfl) (by kernel_rfl) (by kernel_rfl) (fun _ _ _ h => h) (Or.inl ⟨by rfl, ?_⟩) (by assumption) ?_
  rotate_left
  · (intro w hSw; (try dsimp only at hSw); refine run_load_op _ (.tmp 10) ?_ ?_ hSw.1.1.1.1.2 <;> rfl)
  try simp only [Act.put, List.getElem_toArray, List.getElem_cons_succ, List.getElem_cons_zero, List.setIfInBounds_toArray, List.set_cons_zero, List.set_cons_succ]
  refine wpAnyH_ready (rs := [25]) (by kernel_rfl) (by simp) ?_
  refine AllReadyH.cons rfl (fun K hK => ?_) AllReadyH.nil
  go_simp
  have HC := Lib.hid (id_any b LB6.out HTB'.out)
  refine (HC.out).mono ?_
  rintro e x7 ⟨rfl, hb⟩
  have VA7 := Lib.hid (VA6.out.below hb (Blk.lt VA6.out))
  have VB7 := Lib.hid (VB6.out.below hb (Blk.lt VB6.out))
  have LA7 := Lib.hid (LA6.out.below hb)
  have LB7 := Lib.hid (LB6.out.below hb)
  have BB7 := Lib.hid (BB6.out.trans (hb.mono BB6.out.size))
  have T7_0 := Lib.hid (T6_0.out.bf (F := No) (Bf.below hb))
  have T7_1 := Lib.hid (T6_1.out.bf (F := No) (Bf.below hb))
  have T7_2 := Lib.hid (T6_2.out.bf (F := No) (Bf.below hb))
  have T7_3 := Lib.hid (T6_3.out.bf (F := No) (Bf.below hb))
  clear hb HC VA6 VB6 LA6 LB6 BB6 T6_0 T6_1 T6_2 T6_3
  try go_simp
  refine hK.out _ _ ⟨⟨⟨⟨⟨VA7.out, VB7.out⟩, T7_0.out⟩, T7_1.out⟩, T7_2.out⟩, T7_3.out⟩ (fun hHeld1 => ?_)
  clear hK K
  try simp only [Act.put, List.getElem_toArray, List.getElem_cons_succ, List.getElem_cons_zero, List.setIfInBounds_toArray, List.set_cons_zero, List.set_cons_succ]
  refine wpAnyH_ready (rs := [27]) (by kernel_rfl) (by simp) ?_
  refine AllReadyH.cons rfl (fun K hK => ?_) AllReadyH.nil
  go_simp
  have HC := Lib.hid (rid_any b LB7.out HTB'.out)
  refine (HC.out).mono ?_
  rintro e x8 ⟨rfl, hb⟩
  have VA8 := Lib.hid (VA7.out.below hb (Blk.lt VA7.out))
  have VB8 := Lib.hid (VB7.out.below hb (Blk.lt VB7.out))
  have LA8 := Lib.hid (LA7.out.below hb)
  have LB8 := Lib.hid (LB7.out.below hb)
  have BB8 := Lib.hid (BB7.out.trans (hb.mono BB7.out.size))
  have T8_0 := Lib.hid (T7_0.out.bf (F := No) (Bf.below hb))
  have T8_1 := Lib.hid (T7_1.out.bf (F := No) (Bf.below hb))
  have T8_2 := Lib.hid (T7_2.out.bf (F := No) (Bf.below hb))
  have T8_3 := Lib.hid (T7_3.out.bf (F := No) (Bf.below hb))
  clear hb HC VA7 VB7 LA7 LB7 BB7 T7_0 T7_1 T7_2 T7_3
  try go_simp
  refine hK.out _ _ ⟨⟨⟨⟨⟨VA8.out, VB8.out⟩, T8_0.out⟩, T8_1.out⟩, T8_2.out⟩, T8_3.out⟩ (fun hHeld1 => ?_)
  clear hK K
  try simp only [Act.put, List.getElem_toArray, List.getElem_cons_succ, List.getElem_cons_zero, List.setIfInBounds_toArray, List.set_cons_zero, List.set_cons_succ]
  refine wpAnyH_take (i := 28) (v := ?_) rfl (by kernel_rfl) (by kernel_rfl) (by kernel_rfl) (fun _ _ _ h => h) (Or.inl ⟨by rfl, ?_⟩) (by assumption) ?_
  rotate_left
  · (intro w hSw; (try dsimp only at hSw); go_simp; try (with_reducible rfl))
  try simp only [Act.put, List.getElem_toArray, List.getElem_cons_succ, List.getElem_cons_zero, List.setIfInBounds_toArray, List.set_cons_zero, List.set_cons_succ]
  refine wpAnyH_take (i := 29) (v := ?_) rfl (by kernel_rfl) (by kernel_rfl) (by kernel_rfl) (fun _ _ _ h => h) (Or.inl ⟨by rfl, ?_⟩) (by assumption) ?_
  rotate_left
  · (intro w hSw; (try dsimp only at hSw); go_simp; try (with_reducible rfl))
  try simp only [Act.put, List.getElem_toArray, List.getElem_cons_succ, List.getElem_cons_zero, List.setIfInBounds_toArray, List.set_cons_zero, List.set_cons_succ]
  refine wpAnyH_take (i := 30) (v := ?_) rfl (by kernel_rfl) (by kernel_rfl) (by kernel_rfl) (fun _ _ _ h => h) (Or.inl ⟨by rfl, ?_⟩) (by assumption) ?_
  rotate_left
  · (intro w hSw; (try dsimp only at hSw); go_simp; try (with_reducible rfl))
  try simp only [Act.put, List.getElem_toArray, List.getElem_cons_succ, List.getElem_cons_zero, List.setIfInBounds_toArray, List.set_cons_zero, List.set_cons_succ]
  refine wpAnyH_ready (rs := [31]) (by kernel_rfl) (by simp) ?_
  refine AllReadyH.cons rfl (fun K hK => ?_) AllReadyH.nil
  go_simp
  have HC := Lib.hid (lives_any (HK.out.below BB8.out))
  refine (HC.out).mono ?_
  rintro e x9 ⟨rfl, hb⟩
  have VA9 := Lib.hid (VA8.out.below hb (Blk.lt VA8.out))
  have VB9 := Lib.hid (VB8.out.below hb (Blk.lt VB8.out))
  have LA9 := Lib.hid (LA8.out.below hb)
  have LB9 := Lib.hid (LB8.out.below hb)
  have BB9 := Lib.hid (BB8.out.trans (hb.mono BB8.out.size))
  have T9_0 := Lib.hid (T8_0.out.bf (F := No) (Bf.below hb))
  have T9_1 := Lib.hid (T8_1.out.bf (F := No) (Bf.below hb))
  have T9_2 := Lib.hid (T8_2.out.bf (F := No) (Bf.below hb))
  have T9_3 := Lib.hid (T8_3.out.bf (F := No) (Bf.below hb))
  clear hb HC VA8 VB8 LA8 LB8 BB8 T8_0 T8_1 T8_2 T8_3
  try go_simp
  refine hK.out _ _ ⟨⟨⟨⟨⟨VA9.out, VB9.out⟩, T9_0.out⟩, T9_1.out⟩, T9_2.out⟩, T9_3.out⟩ (fun hHeld1 => ?_)
  clear hK K
  try simp only [Act.put, List.getElem_toArray, List.getElem_cons_succ, List.getElem_cons_zero, List.setIfInBounds_toArray, List.set_cons_zero, List.set_cons_succ]
  refine wpAnyH_take (i := 32) (v := ?_) rfl (by kernel_rfl) (by kernel_rfl) (by kernel_rfl) (fun _ _ _ h => h) (Or.inl ⟨by rfl, ?_⟩) (by assumption) ?_
  rotate_left
  · (intro w hSw; (try dsimp only at hSw); go_simp; try (with_reducible rfl))
  try simp only [Act.put, List.getElem_toArray, List.getElem_cons_succ, List.getElem_cons_zero, List.setIfInBounds_toArray, List.set_cons_zero, List.set_cons_succ]
  refine wpAnyH_take (i := 33) (v := ?_) rfl (by kernel_rfl) (by kernel_rfl) (by kernel_rfl) (fun _ _ _ h => h) (Or.inl ⟨by rfl, ?_⟩) (by assumption) ?_
  rotate_left
  · (intro w hSw; (try dsimp only at hSw); go_simp; try (with_reducible rfl))
  try simp only [Act.put, List.getElem_toArray, List.getElem_cons_succ, List.getElem_cons_zero, List.setIfInBounds_toArray, List.set_cons_zero, List.set_cons_succ]
  refine wpAnyH_done (by kernel_rfl) ?_ _
  go_wp2
  go_ret
  exact ⟨rfl, BB9.out⟩

end Ot
end Go.Proofs.YtkicjjcangkneaaGreatDoor
