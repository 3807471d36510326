/-
  Package op's Get of bytes that are cut off, or have some more behind them (P11.3): 'huddlelaw11.OpShort' returns true. The table of kinds reads as it was laid.
-/
import Derived.Test.YtkicjjcangkneaaDoorOtw
import Derived.Test.YtkicjjcangkneaaDoorInn
import Derived.Test.YtkicjjcangkneaaDoorOth
import Derived.Deep.DeepCutAuto
namespace Go.Proofs.YtkicjjcangkneaaDoor
open Go.RowKit
attribute [local go_sem ↓] Go.wp_at_zero Go.wp_at_succ
set_option maxRecDepth 100000
namespace Ot
/-- A new list without an item. -/
theorem gr_empty {α : Type} (K : Kd α) {B : Nat} (w : World) (hB : B ≤ w.heap.size) : Gr K B (w.alloc (.cells #[] K.ty)) ⟨[], some ⟨w.heap.size, 0, none⟩, 0⟩ :=
  ⟨by rw [K.cells_len], .inr ⟨w.heap.size, 0, #[], rfl, hB, heap_alloc_new w _, Nat.le_refl _, by unfold maxLen; omega, by simp, by simp [K.cells_nil]⟩⟩
theorem Lz.beyond {α : Type} {K : Kd α} {F : Nat → Prop} {w : World} {x : Ls α} (h : Lz K F w x) {n : Nat} (hn : w.heap.size ≤ n) : Lz K (fun k => n ≤ k) w x := h.no.weak fun k hk hf => by have hf : n ≤ k := hf; omega
theorem put_head (o : Er) : ∃ R, put o = Pk.nInt o.by_ ++ (Pk.nInt o.seq ++ R) := ⟨_, by unfold put con; rw [List.append_assoc, List.append_assoc]⟩
theorem put_pos (o : Er) : 0 < (put o).length := by
  obtain ⟨R, h⟩ := put_head o
  have := Pk.num_pos (Pk.zig o.by_)
  rw [h, List.length_append]
  unfold Pk.nInt
  omega
theorem rok_head {n : Int} (hn : i64 n) {l R : List UInt8} {k k' : Nat} {e' y : Int} (h : Rok Pk.pInt l k k' 0 e' y) (hl : l.drop k = Pk.nInt n ++ R) : e' = 0 ∧ k' = k + (Pk.nInt n).length ∧ y = n := by
  have h1 := h.2 rfl
  rw [hl, Pk.rnd_int n R hn.1 hn.2] at h1
  exact ⟨h1.1, (h1.2 h1.1).1, (h1.2 h1.1).2⟩

set_option maxHeartbeats 4000000 in
theorem short_any {w : World} (l : Ls Int) (at_ : Int) (x : Ls UInt8) (hl : Lz kInt No w l) (hok : ∀ y ∈ l.l, i64 y) (hln : l.l.length ≤ 9223372036854775807) (hat : i64 at_) (hx : Lz kU8 No w x) (hxn : x.l.length ≤ 9223372036854775807) (hk : Kds w) :
    Calls Tryd.prog 3 #[l.v, .int .i64 at_, x.v] w fun e w' => e = .returned (.bool true) ∧ Below w.heap.size w w' := by
  have HOP := Lib.hid (op_any l hl hok hln)
  have HL := Lib.hid hl
  have HOK := Lib.hid hok
  have HLN := Lib.hid hln
  have HX := Lib.hid hx
  have HXN := Lib.hid hxn
  have HK := Lib.hid hk
  have HAT := Lib.hid hat
  clear hl hok hln hx hxn hk hat
  go_enter Tryd.func3, Tryd.ntmps3
  go_wp2_with fail
  refine (HOP.out).mono ?_
  rintro e w1 ⟨o, rfl, hg, hlo, hb1⟩
  have HG := Lib.hid hg
  have HT := Lib.hid hg.tiny
  have HB1 := Lib.hid hb1
  have HP := Lib.hid (put_any o hlo HT.out.small HT.out.put9)
  clear hg hlo hb1 HOP
  go_wp2_with fail
  refine (HP.out).mono ?_
  rintro e w2 ⟨b, rfl, hbl, hgr, hb2⟩
  have HB2 := Lib.hid (HB1.out.trans (hb2.mono HB1.out.size))
  have HBL := Lib.hid hbl
  have HBR := Lib.hid (hgr.lz (F := No) fun _ h => h.elim)
  have hpos : 0 < b.l.length := by rw [hbl]; exact put_pos o.er
  have hlen : b.l.length ≤ 30000 := by rw [hbl]; exact put_len HT.out
  obtain ⟨bl, bA, bc⟩ := b
  obtain ⟨n, hn⟩ : ∃ n, n = bl.length := ⟨_, rfl⟩
  have hpos : 0 < n := by rw [hn]; exact hpos
  have hlen : n ≤ 30000 := by rw [hn]; exact hlen
  have HN := Lib.hid hn
  have hq := (show ((n : Int) == 0) = false by rw [beq_eq_false_iff_ne]; omega)
  have hr := aro_lt at_ hpos
  obtain ⟨r, hre⟩ : ∃ r, r = aro at_ n := ⟨_, rfl⟩
  rw [← hre] at hr
  have HAR := Lib.hid (fun W => aro_any at_ n W HAT.out hpos (by omega))
  rw [← hre] at HAR
  have hcap : n ≤ bc := by rw [hn]; exact HBR.out.cap
  have hsl := slice_head 23 (by kernel_rfl) (fun W => by kernel_rfl) bA n bc r (by omega)
  have hbv : (Ls.v ⟨bl, bA, bc⟩ : Value) = .slice bA n bc := by rw [hn]; rfl
  rw [hbv]
  clear hbl hgr hb2 HP hn hre hbv HB1
  go_wp2_with fail
  refine (HAR.out _).mono ?_
  rintro e w3 ⟨rfl, rfl⟩
  have HGC := Lib.hid (get_any ⟨bl.take r, bA, bc⟩ (HBR.out.take r) (by show (bl.take r).length ≤ _; rw [List.length_take]; omega))
  have hrl : (Ls.v ⟨bl.take r, bA, bc⟩ : Value) = .slice bA r bc := by
    show Value.slice bA (bl.take r).length bc = _
    rw [List.length_take, ← HN.out, show min r n = r by omega]
  rw [hrl] at HGC
  have HWC := Lib.hid (show wrong (bl.take r) = 9 from by
    have h : bl = put o.er := HBL.out
    rw [h]
    exact wrong_cut o.er r HT.out.ok (by rw [← h, ← HN.out]; exact hr))
  clear HAR hrl
  go_wp2_with fail
  refine (HGC.out).mono ?_
  rintro e w4 ⟨oc, rfl, -, -, -, -, hb4⟩
  have hw9 : wrong (Ls.mk (bl.take r) bA bc).l = 9 := HWC.out
  rw [hw9]
  have HVZ := Lib.hid (Vr.new w4 LOp.zero)
  have HB4 := Lib.hid (HB2.out.trans (hb4.mono HB2.out.size))
  have HBR4 := Lib.hid (HBR.out.bf (F := No) (Bf.below hb4))
  clear hb4 HGC hw9 HWC HBR hq hsl
  go_wp2_with (refine wpList_store_op (o' := oc) rfl _ _ rfl rfl rfl HVZ.out ?_)
  rw [zc]
  have hb5 := var_below w4 LOp.zero oc (Nat.le_refl _)
  obtain ⟨w5, hw5⟩ : ∃ w5, w5 = (w4.alloc (.cells LOp.zero.cells 36)).setRow w4.heap.size oc.cells := ⟨_, rfl⟩
  rw [← hw5] at hb5 ⊢
  have HB5 := Lib.hid (HB4.out.trans (hb5.mono HB4.out.size))
  have HBR5 := Lib.hid ((HBR4.out.bf (F := No) (Bf.below hb5)).beyond (Nat.le_refl _))
  have HS5 := Lib.hid HB5.out.size
  have hx5 := HX.out.bf (F := No) (Bf.belowN HB5.out fun k hk hn => absurd hn (by omega))
  have HX5 := Lib.hid hx5
  have HF := Lib.hid (few_any x.l x.A x.l.length x.c 9 w5 rfl hx5.cap (by omega) hx5.rd8 hx5.nil)
  clear hb5 hw5 HVZ HB4 HBR4 hx5
  refine (HF.out).mono ?_
  rintro e w6 ⟨fA, fc, rfl, hown, hb6⟩
  obtain ⟨hml, hgf⟩ := Gr.of8 hown
  obtain ⟨m, hm⟩ : ∃ m, m = min x.l.length 9 := ⟨_, rfl⟩
  rw [← hm] at hml ⊢
  have HFV := Lib.hid (show Value.slice fA m fc = Ls.v ⟨x.l.take 9, fA, fc⟩ by rw [hml]; rfl)
  have HML := Lib.hid hml
  have hm9 : m ≤ 9 := by omega
  have HB6 := Lib.hid (HB5.out.trans (hb6.mono HB5.out.size))
  have HBR6 := Lib.hid (HBR5.out.bf (Bf.below hb6))
  have HGF := Lib.hid (hgf.below ((Below.refl _ w6).alloc (Nat.le_refl _) (.cells #[.int .u8 0] 5)))
  have HSRC := Lib.hid (show ∀ j u, (kU8.cells [(0 : UInt8)])[j]? = some u → (w6.alloc (.cells #[.int .u8 0] 5)).cell? ((⟨w6.heap.size, 0, none⟩ : Addr).add j) = some u from fun j u hu => by rw [kU8.cells_one] at hu; exact cell_new w6 #[.int .u8 0] 5 j u hu)
  have HS6 := Lib.hid (show w5.heap.size ≤ (w6.alloc (.cells #[.int .u8 0] 5)).heap.size by have := hb6.size; simp; omega)
  have HBV := Lib.hid (show Value.slice bA n bc = Ls.v ⟨bl, bA, bc⟩ by rw [HN.out]; rfl)
  clear hown hml hgf hm hb6 HF HBR5 HB5
  go_wp2_with (first
    | (at_builtin; refine wpList_push1 ki_u8 rfl _ _ rfl w5.heap.size ⟨x.l.take 9, fA, fc⟩ HGF.out HFV.out _ 1 1 [0] rfl rfl (by omega) HSRC.out (by show (x.l.take 9).length + 1 ≤ _; rw [← HML.out]; omega) HS6.out ?_; intro z w7 hz hgz hgw _; have HZ := Lib.hid hz; have HGZ := Lib.hid hgz; have HGW := Lib.hid hgw; have HEM := Lib.hid (gr_empty kU8 (B := w7.heap.size) w7 (Nat.le_refl _)); have HB7 := Lib.hid ((HB6.out.alloc HB6.out.size (.cells #[.int .u8 0] 5)).grown hgw (by have := HB6.out.size; simp; omega) fun g eg => Nat.le_trans HS5.out (HGF.out.lt g eg).1); have HBR7 := Lib.hid ((HBR6.out.bf (Bf.alloc w6 (.cells #[.int .u8 0] 5))).bf (Bf.grown hgw fun g eg => (HGF.out.lt g eg).1)); have HBRE := Lib.hid (HBR7.out.bf (Bf.alloc w7 (.cells #[] 5))); clear hz hgz hgw HBR6 HB6)
    | (at_builtin; refine wpList_push_ls ki_u8 rfl _ _ rfl w7.heap.size ⟨[], some ⟨w7.heap.size, 0, none⟩, 0⟩ ⟨bl, bA, bc⟩ HEM.out rfl HBRE.out HBV.out (by show 0 + bl.length ≤ _; rw [← HN.out]; omega) (by simp) ?_; intro z8 w8 hz8 hg8 hb8 _; have HZ8 := Lib.hid hz8; have HG8 := Lib.hid hg8; have HB78 := Lib.hid hb8; have HB8 := Lib.hid ((HB7.out.alloc HB7.out.size (.cells #[] 5)).trans (hb8.mono HB7.out.size)); have HTL := Lib.hid ((((HGZ.out.lz (F := No) fun _ h => h.elim).beyond (Nat.le_refl _)).bf (Bf.alloc w7 (.cells #[] 5))).bf (Bf.belowN hb8 fun k _ hk => hk)); have HBR8 := Lib.hid ((((HBR7.out.beyond (Nat.le_refl _)).bf (Bf.alloc w7 (.cells #[] 5))).bf (Bf.belowN hb8 fun k _ hk => hk))); clear hz8 hg8 hb8 HEM HBRE HBR7)
    | (at_builtin; refine wpList_push_ls ki_u8 rfl _ _ rfl w7.heap.size z8 z HG8.out rfl HTL.out rfl (by rw [HZ8.out, HZ.out]; simp only [List.length_append, List.length_nil, List.length_singleton]; show 0 + bl.length + ((x.l.take 9).length + 1) ≤ _; rw [← HN.out, ← HML.out]; omega) (Nat.le_trans (by simp) HB78.out.size) ?_; intro z9 w9 hz9 hg9 hb9 _; have HZ9 := Lib.hid hz9; have HG9 := Lib.hid hg9; have HB9 := Lib.hid (HB8.out.trans (hb9.mono HB7.out.size)); have HBR9 := Lib.hid (HBR8.out.bf (Bf.belowN hb9 fun k _ hk => hk)); clear hz9 hg9 hb9 HB8 HBR8))
  have hz9l : z9.l = put o.er ++ (x.l.take 9 ++ [0]) := by
    have h : bl = put o.er := HBL.out
    rw [HZ9.out, HZ8.out, HZ.out, ← h]
    rfl
  have HG := Lib.hid (get_any z9 (HG9.out.lz (F := No) fun _ h => h.elim) (by
    rw [hz9l, List.length_append, List.length_append, List.length_singleton]
    have h : bl = put o.er := HBL.out
    rw [← h, ← HN.out, ← HML.out]
    omega))
  have hw2 : wrong z9.l = 2 := by rw [hz9l]; exact wrong_long o.er _ HT.out.ok (by rw [List.length_append, List.length_singleton]; omega)
  have HW2 := Lib.hid hw2
  clear hz9l hw2
  refine (HG.out).mono ?_
  rintro e w10 ⟨od, rfl, -, -, -, -, hb10⟩
  rw [HW2.out]
  have HVY := Lib.hid (Vr.new w10 LOp.zero)
  have HB10 := Lib.hid (HB9.out.trans (hb10.mono HB9.out.size))
  have HBR10 := Lib.hid (HBR9.out.bf (Bf.below hb10))
  clear hb10 HG HB9 HBR9
  go_wp2_with (refine wpList_store_op (o' := od) rfl _ _ rfl rfl rfl HVY.out ?_)
  rw [zc]
  have hb11 := var_below w10 LOp.zero od (Nat.le_refl _)
  obtain ⟨w11, hw11⟩ : ∃ w11, w11 = (w10.alloc (.cells LOp.zero.cells 36)).setRow w10.heap.size od.cells := ⟨_, rfl⟩
  rw [← hw11] at hb11 ⊢
  have HB11 := Lib.hid (HB10.out.trans (hb11.mono HB10.out.size))
  have hbr := HBR10.out.bf (Bf.below hb11)
  have HOPN := Lib.hid (open_any bA bl n bc w11 HN.out (by omega) hbr.rd8 (fun e => by
    obtain ⟨h1, h2⟩ := hbr.none_ e
    exact ⟨HN.out.trans h1, h2⟩))
  clear hb11 hw11 hbr HVY HB10 HBR10
  refine (HOPN.out).mono ?_
  rintro e w12 ⟨C, rfl, hC, hcu, hb12⟩
  have HCC := Lib.hid (show w.heap.size ≤ C from Nat.le_trans HB11.out.size hC)
  have HB12 := Lib.hid (HB11.out.trans (hb12.mono HB11.out.size))
  have HI1 := Lib.hid (rd_int hcu)
  clear hcu hb12 hC HOPN HB11
  go_wp2_with fail
  refine (HI1.out).mono ?_
  rintro e w13 ⟨y1, rfl, hi1, k1, e1, hcu1, hrok, hg13⟩
  obtain ⟨R, hR⟩ := put_head o.er
  have hb0 : bl = put o.er := HBL.out
  obtain ⟨rfl, rfl, rfl⟩ := rok_head HT.out.ok.by_ hrok (by rw [List.drop_zero, hb0, hR])
  have HB13 := Lib.hid (HB12.out.grown hg13 HB12.out.size fun g eg => by injection eg with eg; rw [← eg]; exact HCC.out)
  have HI2 := Lib.hid (rd_int hcu1)
  have HR := Lib.hid hR
  clear hcu1 hrok hg13 HI1 hb0 hR HB12
  go_wp2_with fail
  refine (HI2.out).mono ?_
  rintro e w14 ⟨y2, rfl, hi2, k2, e2, -, hrok, hg14⟩
  have hb0 : bl = put o.er := HBL.out
  obtain ⟨rfl, rfl, rfl⟩ := rok_head (R := R) HT.out.ok.seq hrok (by rw [hb0, HR.out, Nat.zero_add, List.drop_left])
  have HB14 := Lib.hid (HB13.out.grown hg14 HB13.out.size fun g eg => by injection eg with eg; rw [← eg]; exact HCC.out)
  have HO2 := Lib.hid (op_any l (HL.out.bf (F := No) (Bf.belowN HB14.out fun k hk hn => absurd hn (by omega))) HOK.out HLN.out)
  clear hrok hg14 HI2 hb0 HB13
  go_wp2_with fail
  refine (HO2.out).mono ?_
  rintro e w15 ⟨o2, rfl, hg2, -, hb15⟩
  have HB15 := Lib.hid (HB14.out.trans (hb15.mono HB14.out.size))
  have HV := Lib.hid (Vr.new w15 LOp.zero)
  have hby : o2.by_ = o.er.by_ := hg2.head.1.trans HG.out.head.1.symm
  have hsq : o2.seq = o.er.seq := hg2.head.2.trans HG.out.head.2.symm
  have HBY := Lib.hid hby
  have HSQ := Lib.hid hsq
  have HVN := Lib.hid (var_new w15 o2)
  have HB16 := Lib.hid (HB15.out.trans (var_below w15 LOp.zero o2 HB15.out.size))
  clear hg2 hb15 HO2 hby hsq HB14
  go_upto_region 13 with (refine wpList_store_op (o' := o2) rfl _ _ rfl rfl rfl HV.out ?_)
  rw [zc]
  obtain ⟨V3, hV3⟩ : ∃ V3, V3 = w15.heap.size := ⟨_, rfl⟩
  obtain ⟨w16, hw16⟩ : ∃ w16, w16 = (w15.alloc (.cells LOp.zero.cells 36)).setRow w15.heap.size o2.cells := ⟨_, rfl⟩
  rw [← hw16] at HVN HB16 ⊢
  rw [← hV3] at HVN ⊢
  have k0 := (HVN.out.cell 0).trans (LOp.c0 o2)
  have k1 := (HVN.out.cell 1).trans (LOp.c1 o2)
  rw [HBY.out] at k0
  rw [HSQ.out] at k1
  have HLV := Lib.hid (lives_any (HK.out.below HB16.out))
  clear hw16 hV3 HV HB15
  go_wp2_with fail
  refine (HLV.out).mono ?_
  rintro e w17 ⟨rfl, hb17⟩
  have HF := Lib.hid (HB16.out.trans (hb17.mono HB16.out.size))
  clear hb17 HLV
  go_wp2
  go_ret
  exact ⟨rfl, HF.out⟩
end Ot
end Go.Proofs.YtkicjjcangkneaaDoor
