/-
  The statement PackOwns: the walk. No condition but what fits memory.
-/
import Derived.Test.YtjpdlnemkhofmaaPkF
namespace Go.Proofs.Ytjpdlnemkhofmaa
open Go.RowKit
attribute [local go_sem ↓] Go.wp_at_zero Go.wp_at_succ
set_option linter.unusedVariables false
set_option linter.unusedSimpArgs false

set_option maxHeartbeats 800000 in
/-- What Open answers reads its own bytes: no block but those that it laid need stay. -/
theorem open_own (A : Option Addr) (l : List UInt8) (m c : Nat) (w : World) (hm : m = l.length) (hmb : m ≤ 1000000) (hA : Rd w.heap.size w A (u8s l)) (hnil : A = none → m = 0 ∧ c = 0) :
    Calls Try.prog 18 #[.slice A m c] w fun e w' => ∃ C, e = .returned (.pointer (some ⟨C, 0, none⟩)) ∧ w.heap.size ≤ C ∧ (∀ W : World, (∀ j, w.heap.size ≤ j → j ≤ C → W.heap[j]? = w'.heap[j]?) → Cu C 75 W C l 0 0) ∧ Below w.heap.size w w' ∧ C < w'.heap.size := by
  have HC := Lib.hid (clone8_any A l m c w hm hmb hA hnil)
  have HM := Lib.hid (And.intro hm hmb)
  clear hm hmb hA hnil
  go_enter Try.func18, Try.ntmps18
  go_wp2_with fail
  refine (HC.out).mono ?_
  rintro e w1 ⟨A', c', rfl, ho, hb⟩
  have HO := Lib.hid ho
  have HB := Lib.hid hb
  clear ho hb HC
  go_wp2
  go_ret
  obtain ⟨A2, c2, e, h1, h2, h3, _⟩ := own8 HO.out
  injection e with e1 e2 e3
  subst e1 e3
  have hm := HM.out.1
  have hlt := HB.out.size
  have hX := blk_new w1 75 #[.slice A' m c', .int .i64 0, .int .i64 0]
  refine ⟨w1.heap.size, rfl, hlt, fun W hW => ⟨A', c', ?_, fun hp => ?_, Nat.le_refl _, Nat.zero_le _, by omega, by have := HM.out.2; omega⟩, HB.out.alloc hlt _, hX.lt⟩
  · rw [← hm]
    exact (hW w1.heap.size hlt (Nat.le_refl _)).trans hX
  · obtain ⟨b, off, e, hb, hc⟩ := h3 hp
    subst e
    have hb1 := (HO.out.lt b rfl).1
    exact ⟨b, off, rfl, hb, fun i u hu => (World.cell?_of_block (hW b hb1 (Nat.le_of_lt hb))).trans (Lib.cell?_alloc_some _ (hc i u hu))⟩

theorem Sl.blk {D g n c : Nat} {w W : World} {l : List UInt8} (h : Sl D w (some ⟨g, 0, none⟩) n c l) (he : W.heap[g]? = w.heap[g]?) : Sl D W (some ⟨g, 0, none⟩) n c l := by
  refine ⟨h.1, h.2.1, fun hp => ?_, h.2.2.2⟩
  obtain ⟨b, off, e, hlt, hc⟩ := h.2.2.1 hp
  injection e with e
  injection e with e1 e2
  subst e1 e2
  exact ⟨_, _, rfl, hlt, fun i u hu => (World.cell?_of_block he).trans (hc i u hu)⟩
theorem below_at {D X : Nat} {a w w2 : World} (h : Below D a w) (hg : w.grownBy w2 (some X)) (hD : D ≤ X) (hs : D ≤ a.heap.size) : Below D a w2 :=
  h.grown hg (Nat.le_trans hs h.size) (fun k e => by injection e with e; omega)
theorem grown_undrew2 {w w' : World} {row : Option Nat} (h : w.drew.grownBy w' row) : w.grownBy w' row := ⟨h.os, h.tape, h.output, h.size, h.block⟩
theorem first_byte {l : List UInt8} (h : 0 < l.length) : ∃ x : Nat, x < 256 ∧ (u8s l)[0]? = some (.int .u8 (x : Int)) := by
  match l, h with
  | a :: t, _ => exact ⟨a.toNat, a.toNat_lt, rfl⟩
theorem own_conv {B fl c2 : Nat} {A2 : Option Addr} {F : List UInt8} {V : ByteArray} {w2 : World} (hfl : fl = F.length) (hV : V = ⟨F.toArray⟩) (hown : w2.ownsRow B 5 1 (.slice A2 fl c2) fl (u8s F)) :
    ∀ W, Below w2.heap.size w2 W → (convert 23 9 (.slice A2 fl c2)).run Try.prog W = .ok (.string V) W := fun W hW => by
  rw [hV]
  exact conv_rd A2 fl c2 w2.heap.size W F hfl ((own8_rd hown).below hW)

set_option maxRecDepth 100000 in
set_option maxHeartbeats 16000000 in
theorem owns_walk (xs : List UInt8) (A : Option Addr) (m c ub : Nat) (w : World) (hm : m = xs.length) (hmc : m ≤ c) (hA : Rd w.heap.size w A (u8s xs)) (hnil : A = none → c = 0) (hub : ub < 256) :
    Calls Try.prog 11 #[.slice A m c, .int .u8 (ub : Int)] w fun e w' => e = .returned (.bool true) ∧ Below w.heap.size w w' := by
  obtain ⟨i0, hi0, hz0, hz1, hz2⟩ := info_parts info_u8
  obtain ⟨B, hBe⟩ : ∃ B, B = w.heap.size := ⟨_, rfl⟩
  have hfew := few_any xs A m c 20 w hm hmc (by omega) hA hnil
  obtain ⟨n, hn⟩ : ∃ n, n = min m 20 := ⟨_, rfl⟩
  obtain ⟨F0, hF0⟩ : ∃ F0, F0 = xs.take 20 := ⟨_, rfl⟩
  have hn20 : n ≤ 20 := by omega
  rw [← hn, ← hF0, ← hBe, show ((20 : Nat) : Int) = 20 from rfl] at hfew
  rw [← hBe]
  have HFEW := Lib.hid hfew
  have HBS := Lib.hid hBe
  have HI := Lib.hid hi0
  have HZ0 := Lib.hid hz0
  have HZ1 := Lib.hid hz1
  have HZ2 := Lib.hid hz2
  have e0 : w.heap.size = B := hBe.symm
  clear hi0 hz0 hz1 hz2 hBe hfew hn hF0 hm hmc hA hnil
  go_enter Try.func11, Try.ntmps11
  go_wp2_with fail
  refine (HFEW.out).mono ?_
  rintro e w1 ⟨A1, c1, rfl, hown, hb1⟩
  have HROW := Lib.hid hown
  have HB1 := Lib.hid hb1
  have hBw1 : B ≤ w1.heap.size := by have := hb1.size; omega
  obtain ⟨L, hL⟩ : ∃ L, L = n + 1 := ⟨_, rfl⟩
  obtain ⟨F1, hF1⟩ : ∃ F1, F1 = F0 ++ [UInt8.ofNat 2] := ⟨_, rfl⟩
  have hF1u : u8s F0 ++ [Value.int .u8 2] = u8s F1 := by rw [hF1, u8s_app]; rfl
  have HLL := Lib.hid (And.intro hL hF1u)
  have hL21 : L ≤ 21 := by omega
  have hL0 : 0 < L := by omega
  clear hown hb1 HFEW hL hF1 hF1u
  go_wp2_with (at_builtin; refine wpList_append_own _ rfl _ _ 23 rfl B 5 i0 (.int .u8 0) 1 1 Try.underlying23 HI.out HZ0.out HZ1.out HZ2.out rfl (by decide) _ _ _ rfl (HROW.out.alloc _) ⟨w1.heap.size, 0, none⟩ 1 1 [.int .u8 2] rfl rfl (cell_one_new _ _ _) (by simp [Value.oneCell']) (by unfold maxLen; omega) (by omega) (by simp; omega) ?_; intro v' w2 hown' hgrow _; obtain ⟨g', cap', rfl⟩ := ownsRow_succ hown'; have H2 := Lib.hid (show w2.ownsRow B 5 1 (.slice (some ⟨g', 0, none⟩) L cap') L (u8s F1) ∧ Below B w w2 from ⟨by rw [HLL.out.1, ← HLL.out.2]; exact hown', HB1.out.trans (((Below.refl B w1).alloc hBw1 _).grown hgrow (by simp; omega) (fun j e => (HROW.out.lt j e).1))⟩); rw [← HLL.out.1]; clear hown' hgrow)
  have hs2 := Sl.own H2.out.1
  have hfw := few_any F1 (some ⟨g', 0, none⟩) L cap' 30 w2 hs2.1 hs2.2.1 (by omega) hs2.2.2.1 (fun e => by cases e)
  rw [show ((30 : Nat) : Int) = 30 from rfl, show min L 30 = L by omega, List.take_of_length_le (by rw [← hs2.1]; omega)] at hfw
  have HF1L := Lib.hid hs2.1
  refine hfw.mono ?_
  clear hfw hs2 HROW HB1 HLL
  rintro e w3 ⟨A3, c3, rfl, hown3, hb3⟩
  obtain ⟨gw, cz, ew, hgw1, hgw2⟩ := hown3.form hL0
  injection ew with ew1 ew2 ew3
  subst ew1 ew3
  have hfew3 := own_below H2.out.1 hb3
  have hs3 := Sl.own hfew3
  have HO := Lib.hid (open_own (some ⟨g', 0, none⟩) F1 L cap' w3 hs3.1 (by omega) hs3.2.2.1 (fun e => by cases e))
  have hwas3 := Sl.own hown3
  have hg'2 := (H2.out.1.lt g' rfl)
  have HB3 := Lib.hid (H2.out.2.trans (hb3.mono (by have := H2.out.2.size; have := HBS.out; omega)))
  obtain ⟨D, hD⟩ : ∃ D, D = w3.heap.size := ⟨_, rfl⟩
  have hBD : B ≤ D := by have := HB3.out.size; have := HBS.out; omega
  have hg'gw : g' < gw := by omega
  have hgwD : gw < D := by omega
  have hBg' : B ≤ g' := hg'2.1
  rw [← hD] at HO hwas3
  have HFEW3 := Lib.hid hfew3
  have HWAS3 := Lib.hid hwas3
  have HDE := Lib.hid hD
  clear hown3 hb3 hfew3 hs3 hwas3 hg'2 hgw1 hgw2 hD H2
  go_wp2_with fail
  refine (HO.out).mono ?_
  rintro e w4 ⟨C, rfl, hDC, hst, hb4, hC4⟩
  have hfew4 := own_below HFEW3.out (by rw [← HDE.out]; exact hb4)
  obtain ⟨x0, hx0, hF10⟩ := first_byte (l := F1) (by rw [← HF1L.out]; exact hL0)
  have hcell : w4.cell? ⟨g', 0, none⟩ = some (.int .u8 (x0 : Int)) := (hfew4.cellAt 0 (by omega)).trans hF10
  have hfr : w4.frozen? ⟨g', 0, none⟩ = false := hfew4.frozenAt 0
  obtain ⟨z, hz, hxor⟩ := xor_byte x0 ub hx0 hub
  obtain ⟨_, hgr⟩ := hfew4.stored 0 (.int .u8 (z : Int))
  obtain ⟨I, hI⟩ : ∃ I, I = w4.heap.size := ⟨_, rfl⟩
  obtain ⟨w5, hw5⟩ : ∃ w5, w5 = w4.setCell ⟨g', 0, none⟩ (.int .u8 (z : Int)) := ⟨_, rfl⟩
  have eS : (w4.setCell ⟨g', 0, none⟩ (.int .u8 (z : Int))).heap.size = I := by rw [hI]; simp [World.setCell]
  rw [← hw5] at hgr
  have hs5 : w5.heap.size = I := by rw [hw5]; exact eS
  have ha6 := World.grownBy_alloc w5 (.cells #[.slice (some ⟨gw, 0, none⟩) L c3, .int .i64 0, .int .i64 0] 42) none
  have hX6 := blk_new w5 42 #[.slice (some ⟨gw, 0, none⟩) L c3, .int .i64 0, .int .i64 0]
  obtain ⟨w6, hw6⟩ : ∃ w6, w6 = w5.alloc (.cells #[.slice (some ⟨gw, 0, none⟩) L c3, .int .i64 0, .int .i64 0] 42) := ⟨_, rfl⟩
  rw [← hw6] at ha6 hX6
  rw [hs5] at hX6
  have hblk : ∀ j, j < I → j ≠ g' → w6.heap[j]? = w4.heap[j]? := fun j h1 h2 => (ha6.block j (by omega) (by simp)).trans (hgr.block j (by omega) (fun e => by injection e with e; omega))
  have hCI : C < I := by omega
  have hcu6 : Cu C 75 w6 C F1 0 0 := hst w6 fun j h1 h2 => hblk j (by omega) (by omega)
  have hwas6 : Sl D w6 (some ⟨gw, 0, none⟩) L c3 F1 := HWAS3.out.blk ((hblk gw (by omega) (by omega)).trans (hb4.block gw hgwD))
  have hI6 : Cu C 42 w6 I F1 0 0 := ⟨some ⟨gw, 0, none⟩, c3, by rw [← HF1L.out]; exact hX6, (hwas6.more hDC).2.2.1, Nat.le_of_lt hCI, Nat.zero_le _, by rw [← HF1L.out]; exact hwas6.2.1, by rw [← HF1L.out]; omega⟩
  have hb6 : Below B w w6 := (below_at (HB3.out.trans (hb4.mono hBD)) hgr hBg' (by have := HBS.out; omega)).grown ha6 (by omega) (fun k e => by cases e)
  have HW6 := Lib.hid hw6
  have HW5 := Lib.hid hw5
  have HC6 := Lib.hid hcu6
  have HI6 := Lib.hid hI6
  have HWAS6 := Lib.hid hwas6
  have HB6 := Lib.hid hb6
  have hs6 : w6.heap.size = I + 1 := by rw [hw6]; show (w5.heap.push _).size = _; rw [Array.size_push, hs5]
  have HS6 := Lib.hid hs6
  have e4 : w4.heap.size = I := hI.symm
  have hin := in_int (show Cu C 75 w6.drew C F1 0 0 from hcu6)
  have hrf := fun (W : World) (h : Cu C 42 W I F1 0 0) => rint_any h
  rw [List.drop_zero, Pk.stp_ok] at hin hrf
  obtain ⟨q, hq⟩ : ∃ q, q = Pk.pInt F1 := ⟨_, rfl⟩
  rw [← hq] at hin hrf
  obtain ⟨v, hv⟩ : ∃ v, v = q.v := ⟨_, rfl⟩
  rw [← hv] at hin hrf
  obtain ⟨k2, hk2⟩ : ∃ k2, k2 = 0 + q.n := ⟨_, rfl⟩
  rw [← hk2] at hin hrf
  obtain ⟨qe, hqe⟩ : ∃ qe, qe = q.e := ⟨_, rfl⟩
  rw [← hqe] at hin hrf
  have HIN := Lib.hid hin
  have HRF := Lib.hid hrf
  clear hin hrf hq hv hk2 hqe hb4 hst hfew4 hgr hs5 ha6 hX6 hblk hcu6 hwas6 hI6 hb6 hI hw5 hw6 hF10 hC4 HO HFEW3 HWAS3 hs6
  go_wp2
  rw [← HW5.out, ← HW6.out]
  clear hcell hfr hxor eS e4
  go_region_with (first
    | (go_at_call 27; ((with_reducible refine (HIN.out).mono ?_); rintro x w7 ⟨rfl, hcu, hg⟩; have H7 := Lib.hid (And.intro hcu (And.intro (HI6.out.grown (grown_undrew2 hg) (fun j e => by injection e with e; omega)) (grown_undrew2 hg))); clear hcu hg; unfold i64v))
    | (go_at_call 37; ((with_reducible refine (HRF.out _ H7.out.2.1).mono ?_); rintro x w8 ⟨rfl, hcu, hg⟩; obtain ⟨Ax, cx, i0', i1', i2', _⟩ := hcu.all; have H8 := Lib.hid (And.intro (below_at (below_at HB6.out H7.out.2.2 (by omega) (by have := HBS.out; omega)) hg (by omega) (by have := HBS.out; omega)) (HWAS6.out.below (below_at (below_at (Below.refl D w6) H7.out.2.2 (by omega) (by have := HS6.out; omega)) hg (by omega) (by have := HS6.out; omega)))); have HSZ8 := Lib.hid (Nat.le_trans H7.out.2.2.size hg.size); have HER := Lib.hid (in_err (H7.out.1.grown hg (fun j e => by injection e with e; omega))); clear hcu hg; unfold i64v))
    | (go_at_call 29; ((with_reducible refine (HER.out).mono ?_); rintro x w9 ⟨rfl, rfl⟩)))
  all_goals
    have hDO : D ≤ w8.heap.size := by have := HSZ8.out; have := HS6.out; omega
    obtain ⟨O, hO⟩ : ∃ O, O = w8.heap.size := ⟨_, rfl⟩
    obtain ⟨V1, hV1⟩ : ∃ V1 : ByteArray, V1 = ⟨F1.toArray⟩ := ⟨_, rfl⟩
    obtain ⟨F2, hF2⟩ : ∃ F2, F2 = Pk.nText F1 := ⟨_, rfl⟩
    have hV1l : V1.data.toList = F1 := by rw [hV1]
    have hou9 := Ou.new w8
    have hot := otext_any V1 (by rw [hV1]; show F1.toArray.size ≤ 1000; rw [List.size_toArray, ← HF1L.out]; omega) (by simp) hou9
    rw [List.nil_append, hV1l, ← hF2, ← hO] at hot
    have hF2b : F2.length ≤ 1000 := by rw [hF2]; have := Pk.nText_len F1 (by rw [← HF1L.out]; omega); rw [← HF1L.out] at this; omega
    have hF2p : 0 < F2.length := by rw [hF2]; unfold Pk.nText; rw [List.length_append, ← HF1L.out]; omega
    have hwas9 : Sl D (w8.alloc (.cells #[.slice none 0 0] 25)) (some ⟨gw, 0, none⟩) L c3 F1 := H8.out.2.below ((Below.refl D w8).alloc hDO _)
    have hcv : (convert 23 9 (.slice (some ⟨gw, 0, none⟩) L c3)).run Try.prog (w8.alloc (.cells #[.slice none 0 0] 25)) = .ok (.string V1) (w8.alloc (.cells #[.slice none 0 0] 25)) := by
      rw [hV1]; exact conv_rd _ L c3 D _ F1 HF1L.out hwas9.2.2.1
    have hb9 : Below B w (w8.alloc (.cells #[.slice none 0 0] 25)) := H8.out.1.alloc (by omega) _
    have HTX := Lib.hid (fun W : World => rwtext_any V1 W (by rw [hV1]; show F1.toArray.size ≤ 1000; rw [List.size_toArray, ← HF1L.out]; omega))
    rw [hV1l, ← hF2] at HTX
    unfold Bys at HTX
    obtain ⟨f2, hf2⟩ : ∃ f2, f2 = F2.length := ⟨_, rfl⟩
    rw [← hf2] at HTX hF2b hF2p
    obtain ⟨V2, hV2⟩ : ∃ V2 : ByteArray, V2 = ⟨F2.toArray⟩ := ⟨_, rfl⟩
    have HV := Lib.hid (And.intro hV1 (And.intro hV2 hf2))
    have HFL := Lib.hid (show F2.length ≤ 900000 by omega)
    have HOT := Lib.hid hot
    have HWAS9 := Lib.hid hwas9
    have HB9 := Lib.hid hb9
    have e8 : w8.heap.size = O := hO.symm
    have hBO : B ≤ O := by omega
    have hDO' : D ≤ O := by omega
    clear hot hwas9 hb9 hou9 hV1 hV1l hF2 hV2 hO hf2 H8 H7 HSZ8 HER HIN HRF HB6 HI6 HC6 HWAS6 hDO i0' i1' i2' HS6 HW5 HW6
    go_wp2_with fail
    refine (HOT.out).mono ?_
    rintro x w10 ⟨⟨_, rfl⟩, hou10, hb10, _⟩
    have HOU10 := Lib.hid hou10
    have HWAS10 := Lib.hid (HWAS9.out.below (hb10.mono hDO'))
    have HB10 := Lib.hid (HB9.out.trans (hb10.mono hBO))
    have hO10 : O ≤ w10.heap.size := by have := hou10.lt; omega
    have hob := obytes_any (by have := HFL.out; omega) hou10
    rw [← HV.out.2.2] at hob
    have HOB := Lib.hid hob
    clear hou10 hb10 hob HOT HWAS9 HB9 hcv
    go_wp2_with fail
    refine (HOB.out).mono ?_
    rintro x w11 ⟨A5, c5, rfl, hown5, hb11⟩
    obtain ⟨g5, c5', ew, hg5, hg5'⟩ := hown5.form hF2p
    injection ew with ew1 ew2 ew3
    subst ew1 ew3
    have HOU11 := Lib.hid (HOU10.out.below hb11 (Nat.le_refl _))
    have HWAS11 := Lib.hid (HWAS10.out.below (hb11.mono (by omega)))
    have HB11 := Lib.hid (HB10.out.trans (hb11.mono (by omega)))
    have HOWN5 := Lib.hid hown5
    have hW11 := hb11.size
    have hob := obytes_any (by have := HFL.out; omega) HOU11.out
    rw [← HV.out.2.2] at hob
    have HOB := Lib.hid hob
    clear hown5 hb11 hob HOU10 HWAS10 HB10
    go_wp2_with fail
    refine (HOB.out).mono ?_
    rintro x w12 ⟨A6, c6, rfl, hown6, hb12⟩
    obtain ⟨g6, c6', ew, hg6, hg6'⟩ := hown6.form hF2p
    injection ew with ew1 ew2 ew3
    subst ew1 ew3
    have hown5b := own_below HOWN5.out hb12
    obtain ⟨y0, hy0, hF20⟩ := first_byte (l := F2) (by rw [← HV.out.2.2]; exact hF2p)
    have hcell : w12.cell? ⟨g5, 0, none⟩ = some (.int .u8 (y0 : Int)) := (hown5b.cellAt 0 (by omega)).trans hF20
    have hfr : w12.frozen? ⟨g5, 0, none⟩ = false := hown5b.frozenAt 0
    obtain ⟨z1, hz1, hxor1⟩ := xor_byte y0 ub hy0 hub
    obtain ⟨z2, hz2, hxor2⟩ := xor_byte z1 1 hz1 (by omega)
    have hxor2 : bits .xor .u8 (z1 : Int) 1 = (z2 : Int) := hxor2
    obtain ⟨_, hgr⟩ := hown5b.stored 0 (.int .u8 (z2 : Int))
    have hou12 := HOU11.out.below hb12 hW11
    have hs12 := hb12.size
    obtain ⟨w13, hw13⟩ : ∃ w13, w13 = w12.setCell ⟨g5, 0, none⟩ (.int .u8 (z2 : Int)) := ⟨_, rfl⟩
    rw [← hw13] at hgr
    have hou13 := hou12.below (below_at (Below.refl w10.heap.size w12) hgr hg5 (by omega)) (Nat.le_refl _)
    have hy13 := own_grown hown6 hg5' hgr
    have hwas13 := HWAS11.out.below (below_at (hb12.mono (by omega : D ≤ w11.heap.size)) hgr (by omega) (by omega))
    have hb13 := HB11.out.trans (below_at (hb12.mono (by omega : B ≤ w11.heap.size)) hgr (by omega) (by omega))
    have hs13 : w12.heap.size ≤ w13.heap.size := hgr.size
    have HCY := Lib.hid (own_conv HV.out.2.2 HV.out.2.1 hy13)
    have HCW := Lib.hid (fun (W : World) (h : Below w13.heap.size w13 W) => show (convert 23 9 (.slice (some ⟨gw, 0, none⟩) L c3)).run Try.prog W = .ok (.string V1) W by rw [HV.out.1]; exact conv_rd _ L c3 D W F1 HF1L.out (hwas13.below (h.mono (by omega))).2.2.1)
    have HOB := Lib.hid (fun (W : World) (h : Below w13.heap.size w13 W) => obytes_any (by have := HFL.out; omega) (hou13.below h (by omega)))
    rw [← HV.out.2.2] at HOB
    have HB13 := Lib.hid hb13
    have HW13 := Lib.hid hw13
    have hBs13 : B ≤ w13.heap.size := by omega
    clear hown6 hb12 hown5b hF20 hou12 hou13 hy13 hwas13 hb13 hgr hw13 HOU11 HWAS11 HB11 HOWN5 hs12 hs13 hg6 hg6'
    go_wp2
    rw [← HW13.out]
    clear hcell hfr hxor1 hxor2 hg5 hg5' hW11
    have cy0 := HCY.out w13.drew (below_to_drew (Below.refl _ _))
    have cw0 := HCW.out w13.drew (below_to_drew (Below.refl _ _))
    go_region_with (first
      | (go_at_call 40; ((with_reducible refine (HTX.out _).mono ?_); rintro e w14 ⟨A7, c7, rfl, hown7, hb7⟩; have H14 := Lib.hid (show Below w13.heap.size w13 w14 from below_of_drew hb7); have cy1 := HCY.out w14 H14.out; have cw1 := HCW.out w14 H14.out; have ct1 := own_conv HV.out.2.2 HV.out.2.1 hown7 w14 (Below.refl _ _); clear hown7 hb7))
      | (go_at_call 13; ((with_reducible refine (HOB.out _ H14.out).mono ?_); rintro e w15 ⟨A8, c8, rfl, hown8, hb8⟩; have H15 := Lib.hid (show Below w13.heap.size w13 w15 from H14.out.trans (hb8.mono H14.out.size)); have cy2 := HCY.out w15 H15.out; have cb2 := own_conv HV.out.2.2 HV.out.2.1 hown8 w15 (Below.refl _ _); clear hown8 hb8))
      | (go_at_call 15; ((with_reducible refine (plives_any _).mono ?_); rintro e w16 ⟨rfl, hb16⟩; have H16 := Lib.hid (HB13.out.trans ((H15.out.trans (hb16.mono H15.out.size)).mono hBs13)); clear hb16)))
    all_goals
      have hfin := H16.out
      clear H16
      go_wp2
      go_ret
      exact ⟨rfl, hfin⟩

end Go.Proofs.Ytjpdlnemkhofmaa
