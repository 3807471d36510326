/-
  Boxes, nodes and sealed keys read by closures; lists of them. No condition but what fits memory.
-/
import Derived.Test.YtkicjjcangkneaaGreatDoorOth
namespace Go.Proofs.YtkicjjcangkneaaGreatDoor
open Go.RowKit
open Pk (pInt pNum pName pText pMany nInt)
attribute [local go_sem ↓] Go.wp_at_zero Go.wp_at_succ
set_option maxRecDepth 100000
namespace Ot
theorem grown_drew {w w' : World} {row : Option Nat} (h : w.drew.grownBy w' row) : w.grownBy w' row := ⟨h.os, h.tape, h.output, h.size, h.block⟩
theorem grown_setRow (w : World) (B : Nat) (cs : Array Value) : w.grownBy (w.setRow B cs) (some B) := by
  have h := Bf.setRow (F := fun k => k = B) w (V := B) (cs := cs) rfl
  exact ⟨h.os, h.tape, h.output, h.size, fun i hi hne => h.block i hi fun e => hne (by rw [e])⟩
theorem blk_setRow {w : World} {B t : Nat} {cs : Array Value} (h : Blk w B t cs) (cs' : Array Value) : Blk (w.setRow B cs') B t cs' := by
  unfold Blk at h ⊢
  show (Array.modify w.heap B _)[B]? = _
  rw [Array.getElem?_modify, if_pos rfl, h]
  rfl
theorem bx_info : (Tryz.prog.info? 68).map (·.size) = some 4 := by kernel_rfl
theorem bx_under : Tryz.prog.underlying 68 = some (.struct (Tryz.prog.fieldsOf 68)) := by kernel_rfl
theorem nd_info : (Tryz.prog.info? 66).map (·.size) = some 2 := by kernel_rfl
theorem nd_under : Tryz.prog.underlying 66 = some (.struct (Tryz.prog.fieldsOf 66)) := by kernel_rfl
theorem sd_info : (Tryz.prog.info? 81).map (·.size) = some 4 := by kernel_rfl
theorem sd_under : Tryz.prog.underlying 81 = some (.struct (Tryz.prog.fieldsOf 81)) := by kernel_rfl
theorem stored_lz {α : Type} {J : Kd α} {y : Ls α} {B s0 n : Nat} {w1 w2 : World} {cs : Array Value} (h : Lz J (Til w1.heap.size) w2 y) (hs : s0 = B + 1) (h1 : s0 ≤ w1.heap.size) (hB : B = n) : Lz J (Til n) (w2.setRow B cs) y := by
  have h2 : Lz J (Til (B + 1)) w2 y := h.weak fun k _ hk => by have hk : k < B + 1 := hk; show k < _; omega
  exact (h2.bf (Bf.grown (grown_setRow w2 B cs) fun g eg => by injection eg with eg; show g < B + 1; omega)).weak fun k _ hk => by have hk : k < n := hk; show k < _; omega
/-- Behind a store of what was read into a block that was new. -/
theorem stored_read {lo C B k : Nat} {l : List UInt8} {e : Int} {w w4 : World} {cs : Array Value} (hcu : Cu lo 165 w4 C l k e) (hg : w.grownBy w4 (some C)) (hB : w.heap.size ≤ B) (hC : C < w.heap.size) : Cu lo 165 (w4.setRow B cs) C l k e ∧ w.grownBy (w4.setRow B cs) (some C) := by
  have hlo := hcu.lo_le
  exact ⟨hcu.grown (grown_setRow w4 B cs) fun g eg => by injection eg with eg; omega, hg.andThen (grown_setRow w4 B cs) fun j ej => by injection ej with ej; exact .inl (by omega)⟩

set_option maxHeartbeats 4000000 in
theorem clo_rbx {lo C D : Nat} {l : List UInt8} {k : Nat} {e : Int} {w : World} (h : Cu lo 165 w C l k e) (hD : Blk w D 100 #[.pointer (some ⟨C, 0, none⟩)]) :
    Calls Tryz.prog 197 #[.pointer (some ⟨D, 0, none⟩)] w fun x w' => ∃ y : Bx, x = .returned (.agg #[.int .u64 (y.dst : Int), .int .u64 (y.eph : Int), .int .u64 (y.body : Int), .int .u64 (y.tag : Int)]) ∧ okBx y ∧ Rdd pBx lo C l k e w w' y := by
  have hDC := hD_ne hD h
  have hCl := h.lt
  have hDl := hD.lt
  have h0 := h.alloc (.cells #[.int .u64 0, .int .u64 0, .int .u64 0, .int .u64 0] 68)
  have hD0 := blk_alloc hD (.cells #[.int .u64 0, .int .u64 0, .int .u64 0, .int .u64 0] 68)
  have hR0 := blk_new w 68 #[.int .u64 0, .int .u64 0, .int .u64 0, .int .u64 0]
  have hg0 := World.grownBy_alloc w (.cells #[.int .u64 0, .int .u64 0, .int .u64 0, .int .u64 0] 68) (some C)
  obtain ⟨B, hB⟩ : ∃ B, B = w.heap.size := ⟨_, rfl⟩
  rw [← hB] at hR0 hCl hDl
  have HB := Lib.hid hB
  have HCL := Lib.hid hCl
  have hz : ((w.alloc (.cells #[.int .u64 0, .int .u64 0, .int .u64 0, .int .u64 0] 68)).drew).cell? ⟨D, 0, none⟩ = some (.pointer (some ⟨C, 0, none⟩)) := hD0.cell 0
  have HD0 := Lib.hid hD0
  have HR0 := Lib.hid hR0
  have HG0 := Lib.hid hg0
  have hs0 : (w.alloc (.cells #[.int .u64 0, .int .u64 0, .int .u64 0, .int .u64 0] 68)).heap.size = B + 1 := by rw [hB]; simp
  have HS0 := Lib.hid hs0
  have e0 : w.heap.size = B := hB.symm
  have hcu : Cu lo 165 (w.alloc (.cells #[.int .u64 0, .int .u64 0, .int .u64 0, .int .u64 0] 68)).drew C l k e := h0
  have HRD0 := Lib.hid (rd_num hcu)
  clear h h0 hD hD0 hR0 hg0 hB hs0 hcu
  go_enter Tryz.func197, Tryz.ntmps197
  go_wp2
  refine wp_region_held_drew (S := (fun w' : World => w'.cell? ⟨D, 0, none⟩ = some (.pointer (some ⟨C, 0, none⟩)))) (by kernel_rfl) hz (fun hHeld => ?_)
  try simp only [Act.put, List.getElem_toArray, List.getElem_cons_succ, List.getElem_cons_zero, List.setIfInBounds_toArray, List.set_cons_zero, List.set_cons_succ]
  refine wpAnyH_take (i := 0) (v := ?_) rfl (by kernel_rfl) (by kernel_rfl) (by kernel_rfl) (fun _ _ _ h => h) (Or.inl ⟨by rfl, ?_⟩) (by assumption) ?_
  rotate_left
  · (intro w hSw; (try dsimp only at hSw); go_simp; try (with_reducible rfl))
  try simp only [Act.put, List.getElem_toArray, List.getElem_cons_zero, List.setIfInBounds_toArray, List.set_cons_zero, List.set_cons_succ]
  refine wpAnyH_take (i := 2) (v := ?_) rfl (by kernel_rfl) (by kernel_rfl) (by kernel_rfl) (fun _ _ _ h => h) (Or.inl ⟨by rfl, ?_⟩) (by assumption) ?_
  rotate_left
  · (intro w hSw; (try dsimp only at hSw); go_simp; try (with_reducible rfl))
  try simp only [Act.put, List.getElem_toArray, List.getElem_cons_succ, List.getElem_cons_zero, List.setIfInBounds_toArray, List.set_cons_zero, List.set_cons_succ]
  refine wpAnyH_take (i := 4) (v := ?_) rfl (by kernel_rfl) (by kernel_rfl) (by kernel_rfl) (fun _ _ _ h => h) (Or.inl ⟨by rfl, ?_⟩) (by assumption) ?_
  rotate_left
  · (intro w hSw; (try dsimp only at hSw); go_simp; try (with_reducible rfl))
  try simp only [Act.put, List.getElem_toArray, List.getElem_cons_succ, List.getElem_cons_zero, List.setIfInBounds_toArray, List.set_cons_zero, List.set_cons_succ]
  refine wpAnyH_take (i := 6) (v := ?_) rfl (by kernel_rfl) (by kernel_rfl) (by kernel_rfl) (fun _ _ _ h => h) (Or.inl ⟨by rfl, ?_⟩) (by assumption) ?_
  rotate_left
  · (intro w hSw; (try dsimp only at hSw); go_simp; try (with_reducible rfl))
  try simp only [Act.put, List.getElem_toArray, List.getElem_cons_succ, List.getElem_cons_zero, List.setIfInBounds_toArray, List.set_cons_zero, List.set_cons_succ]
  refine wpAnyH_ready (rs := [1]) (by kernel_rfl) (by simp) ?_
  refine AllReadyH.cons rfl (fun K hK => ?_) AllReadyH.nil
  go_simp
  refine (HRD0.out).mono ?_
  rintro x w1 ⟨y0, rfl, hy0, k0, e0, hcu, hrok0, hg0'⟩
  have hg0 : World.grownBy _ w1 (some C) := grown_drew hg0'
  have HY0 := Lib.hid hy0
  clear hy0
  have HRO0 := Lib.hid hrok0
  have HSZ1 := Lib.hid hg0.size
  have HG1 := Lib.hid (HG0.out.trans hg0)
  have HD1 := Lib.hid (blk_grown HD0.out hg0 (fun eg => by injection eg with eg; exact hDC eg))
  have HR1 := Lib.hid (blk_grown HR0.out hg0 (fun eg => by injection eg with eg; omega))
  have g0 := HD1.out.cell 0
  have HRD1 := Lib.hid (rd_num hcu)
  clear hrok0 hg0 hg0' hcu
  try go_simp
  refine hK.out _ _ g0 (fun hHeld1 => ?_)
  clear hK K
  try simp only [Act.put, List.getElem_toArray, List.getElem_cons_succ, List.getElem_cons_zero, List.setIfInBounds_toArray, List.set_cons_zero, List.set_cons_succ]
  refine wpAnyH_ready (rs := [3]) (by kernel_rfl) (by simp) ?_
  refine AllReadyH.cons rfl (fun K hK => ?_) AllReadyH.nil
  go_simp
  refine (HRD1.out).mono ?_
  rintro x w2 ⟨y1, rfl, hy1, k1, e1, hcu, hrok1, hg1'⟩
  have hg1 : World.grownBy _ w2 (some C) := hg1'
  have HY1 := Lib.hid hy1
  clear hy1
  have HRO1 := Lib.hid hrok1
  have HSZ2 := Lib.hid hg1.size
  have HG2 := Lib.hid (HG1.out.trans hg1)
  have HD2 := Lib.hid (blk_grown HD1.out hg1 (fun eg => by injection eg with eg; exact hDC eg))
  have HR2 := Lib.hid (blk_grown HR1.out hg1 (fun eg => by injection eg with eg; omega))
  have g1 := HD2.out.cell 0
  have HRD2 := Lib.hid (rd_num hcu)
  clear hrok1 hg1 hg1' hcu
  try go_simp
  refine hK.out _ _ g1 (fun hHeld2 => ?_)
  clear hK K
  try simp only [Act.put, List.getElem_toArray, List.getElem_cons_succ, List.getElem_cons_zero, List.setIfInBounds_toArray, List.set_cons_zero, List.set_cons_succ]
  refine wpAnyH_ready (rs := [5]) (by kernel_rfl) (by simp) ?_
  refine AllReadyH.cons rfl (fun K hK => ?_) AllReadyH.nil
  go_simp
  refine (HRD2.out).mono ?_
  rintro x w3 ⟨y2, rfl, hy2, k2, e2, hcu, hrok2, hg2'⟩
  have hg2 : World.grownBy _ w3 (some C) := hg2'
  have HY2 := Lib.hid hy2
  clear hy2
  have HRO2 := Lib.hid hrok2
  have HSZ3 := Lib.hid hg2.size
  have HG3 := Lib.hid (HG2.out.trans hg2)
  have HD3 := Lib.hid (blk_grown HD2.out hg2 (fun eg => by injection eg with eg; exact hDC eg))
  have HR3 := Lib.hid (blk_grown HR2.out hg2 (fun eg => by injection eg with eg; omega))
  have g2 := HD3.out.cell 0
  have HRD3 := Lib.hid (rd_num hcu)
  clear hrok2 hg2 hg2' hcu
  try go_simp
  refine hK.out _ _ g2 (fun hHeld3 => ?_)
  clear hK K
  try simp only [Act.put, List.getElem_toArray, List.getElem_cons_succ, List.getElem_cons_zero, List.setIfInBounds_toArray, List.set_cons_zero, List.set_cons_succ]
  refine wpAnyH_ready (rs := [7]) (by kernel_rfl) (by simp) ?_
  refine AllReadyH.cons rfl (fun K hK => ?_) AllReadyH.nil
  go_simp
  refine (HRD3.out).mono ?_
  rintro x w4 ⟨y3, rfl, hy3, k3, e3, hcu, hrok3, hg3'⟩
  have hg3 : World.grownBy _ w4 (some C) := hg3'
  have HY3 := Lib.hid hy3
  clear hy3
  have HRO3 := Lib.hid hrok3
  have HSZ4 := Lib.hid hg3.size
  have HG4 := Lib.hid (HG3.out.trans hg3)
  have HD4 := Lib.hid (blk_grown HD3.out hg3 (fun eg => by injection eg with eg; exact hDC eg))
  have HR4 := Lib.hid (blk_grown HR3.out hg3 (fun eg => by injection eg with eg; omega))
  have g3 := HD4.out.cell 0
  have HCU := Lib.hid hcu
  clear hrok3 hg3 hg3' hcu
  try go_simp
  refine hK.out _ _ g3 (fun hHeld4 => ?_)
  clear hK K
  try simp only [Act.put, List.getElem_toArray, List.getElem_cons_succ, List.getElem_cons_zero, List.setIfInBounds_toArray, List.set_cons_zero, List.set_cons_succ]
  refine wpAnyH_take (i := 8) (v := ?_) rfl (by kernel_rfl) (by kernel_rfl) (by kernel_rfl) (fun _ _ _ h => h) (Or.inl ⟨by rfl, ?_⟩) (by assumption) ?_
  rotate_left
  · (intro w hSw; (try dsimp only at hSw); go_simp; try (with_reducible rfl))
  try simp only [Act.put, List.getElem_toArray, List.getElem_cons_succ, List.getElem_cons_zero, List.setIfInBounds_toArray, List.set_cons_zero, List.set_cons_succ]
  refine wpAnyH_ready (rs := [9]) (by kernel_rfl) (by simp) ?_
  refine AllReadyH.cons rfl (fun K hK => ?_) AllReadyH.nil
  refine wp_store_row 68 _ _ rfl B #[.int .u64 (y0 : Int), .int .u64 (y1 : Int), .int .u64 (y2 : Int), .int .u64 (y3 : Int)] rfl rfl 68 _ HR4.out bx_info rfl (by simp [Value.oneCell']) ?_
  have HST := Lib.hid (stored_read (cs := #[.int .u64 (y0 : Int), .int .u64 (y1 : Int), .int .u64 (y2 : Int), .int .u64 (y3 : Int)]) HCU.out HG4.out (B := B) (by omega) (by have := HCL.out; omega))
  have HRR := Lib.hid (blk_setRow HR4.out #[.int .u64 (y0 : Int), .int .u64 (y1 : Int), .int .u64 (y2 : Int), .int .u64 (y3 : Int)])
  have g9 : (w4.setRow B #[.int .u64 (y0 : Int), .int .u64 (y1 : Int), .int .u64 (y2 : Int), .int .u64 (y3 : Int)]).cell? ⟨D, 0, none⟩ = some (.pointer (some ⟨C, 0, none⟩)) := (blk_grown HD4.out (grown_setRow w4 B _) (fun eg => by injection eg with eg; omega)).cell 0
  refine hK.out _ _ g9 (fun hHeld9 => ?_)
  clear hK K
  try simp only [Act.put, List.getElem_toArray, List.getElem_cons_succ, List.getElem_cons_zero]
  refine wpAnyH_done (by kernel_rfl) ?_ _
  go_wp2
  refine bodyPost_ret (v := .agg #[.int .u64 (y0 : Int), .int .u64 (y1 : Int), .int .u64 (y2 : Int), .int .u64 (y3 : Int)]) (results_cell_row rfl _ _ B 68 #[.int .u64 (y0 : Int), .int .u64 (y1 : Int), .int .u64 (y2 : Int), .int .u64 (y3 : Int)] (0, 0) _ rfl HRR.out bx_under rfl bx_info) rfl ?_
  exact ⟨⟨y0, y1, y2, y3⟩, rfl, ⟨HY0.out, HY1.out, HY2.out, HY3.out⟩, _, _, HST.out.1, (HRO0.out.sq (HRO1.out.sq (HRO2.out.sq HRO3.out))).mp _, HST.out.2⟩

set_option maxHeartbeats 2000000 in
theorem reach_bx {lo C D : Nat} {l : List UInt8} {k : Nat} {e : Int} {w : World} (h : Cu lo 165 w C l k e) (hD : Blk w D 100 #[.pointer (some ⟨C, 0, none⟩)]) :
    Calls Tryz.prog 196 #[.pointer (some ⟨C, 0, none⟩), .func (.func 197) #[] #[.pointer (some ⟨D, 0, none⟩)]] w fun x w' => ∃ v : Ls Bx, x = .returned (.slice v.A v.l.length v.c) ∧ Lz kBx (Til w.heap.size) w' v ∧ okEach okBx v.l ∧ Rdd (each pBx) lo C l k e w w' (v.l) := by
  have hm := in_many 1000 (by omega) (by omega) h
  obtain ⟨n, hn, hn1, hn0⟩ := many_n e (l.drop k)
  obtain ⟨e1, he1⟩ : ∃ e1, e1 = (Pk.stp 0 e (pMany 1000 (l.drop k))).e := ⟨_, rfl⟩
  obtain ⟨k0, hk0⟩ : ∃ k0, k0 = k + (Pk.stp 0 e (pMany 1000 (l.drop k))).n := ⟨_, rfl⟩
  rw [← he1, ← hk0, show i64v (Pk.stp 0 e (pMany 1000 (l.drop k))).v = .int .i64 (n : Int) from by rw [hn]; rfl] at hm
  rw [← he1] at hn0
  obtain ⟨B, hBe⟩ : ∃ B, B = w.heap.size := ⟨_, rfl⟩
  have hCB : C < B := by rw [hBe]; exact h.lt
  have HD := Lib.hid hD
  have hDB : D < B := by rw [hBe]; exact hD.lt
  have hDC : D ≠ C := hD_ne hD h
  rw [← hBe]
  have HM := Lib.hid hm
  have HN := Lib.hid hn
  have HE1 := Lib.hid he1
  have HK0 := Lib.hid hk0
  have HN0 := Lib.hid hn0
  have HBE := Lib.hid hBe
  clear hm hn he1 hk0 hn0 h hBe hD
  go_enter Tryz.func196, Tryz.ntmps196
  go_wp2_with fail
  refine (HM.out).mono ?_
  rintro x w1 ⟨rfl, hcu1, hg1⟩
  have HC1 := Lib.hid hcu1
  have HG1 := Lib.hid hg1
  clear hcu1 hg1 HM
  go_wp2
  go_loopw [5, 6, 9] (fun lv _ i wr => ∃ (x : Ls Bx) (k1 : Nat), lv = x.v ∧ i = .int .i64 (x.l.length : Int) ∧ x.l.length ≤ n ∧ Gr kBx B wr x ∧ (∀ y ∈ x.l, okBx y) ∧ Cu lo 165 wr C l k1 e1 ∧ (e1 = 0 → Rep pBx l k0 n (x.l) k1 0) ∧ w.grownBy wr (some C)) (fun _ _ i _ => n - (intOf i).toNat)
  case atStart => exact ⟨Ls.nil, k0, rfl, rfl, Nat.zero_le _, Gr.nil B w1, (fun _ hy => nomatch hy), HC1.out, fun _ => Rep.zero _ l k0 n 0, HG1.out⟩
  case round =>
    obtain ⟨x, k1, rfl, rfl, hxn, hgr, hok, hcu, hrep, hg⟩ := hrel
    have hBw : B ≤ wr.heap.size := by have := hg.size; have := HBE.out; omega
    by_cases hc : x.l.length < n
    · have he0 : e1 = 0 := by
        by_cases c : e1 = 0
        · exact c
        · have := HN0.out c; omega
      subst he0
      have HREP := Lib.hid (hrep rfl)
      have HGR := Lib.hid hgr
      have HOK := Lib.hid hok
      have HG := Lib.hid hg
      have hDr : Blk wr D 100 #[.pointer (some ⟨C, 0, none⟩)] := blk_grown HD.out hg (fun eg => by injection eg with eg; exact hDC eg)
      have HRD := Lib.hid (clo_rbx hcu hDr)
      obtain ⟨L, hL⟩ : ∃ L, L = x.l.length := ⟨_, rfl⟩
      have HL := Lib.hid hL
      obtain ⟨xv, hxv⟩ : ∃ xv, xv = x.v := ⟨_, rfl⟩
      have HXV := Lib.hid hxv
      rw [← hL] at hc hxn ⊢
      rw [← hxv]
      clear hrep hgr hok hcu hg hL hxv HC1 HG1
      go_wp2_with (go_at_call 197; refine (HRD.out).mono ?_; rintro x2 w2 ⟨y, rfl, hyo, k2, e2, hcu2, hrok, hg2⟩; have HYO := Lib.hid hyo; have HCU2 := Lib.hid hcu2; have HROK := Lib.hid hrok; have HG2 := Lib.hid hg2; clear hyo hcu2 hrok hg2 HRD)
      have HCU3 := Lib.hid (HCU2.out.alloc (.cells #[.int .u64 (y.dst : Int), .int .u64 (y.eph : Int), .int .u64 (y.body : Int), .int .u64 (y.tag : Int)] 68))
      have HG3 := Lib.hid ((HG.out.trans HG2.out).trans (World.grownBy_alloc w2 (.cells #[.int .u64 (y.dst : Int), .int .u64 (y.eph : Int), .int .u64 (y.body : Int), .int .u64 (y.tag : Int)] 68) (some C)))
      have HGRN := Lib.hid (fun (o : Obj) => Gr.below (((HGR.out.grown HG2.out (fun g eg => by injection eg with eg; omega)).below ((Below.refl _ w2).alloc (Nat.le_refl _) (.cells #[.int .u64 (y.dst : Int), .int .u64 (y.eph : Int), .int .u64 (y.body : Int), .int .u64 (y.tag : Int)] 68)))) ((Below.refl _ (w2.alloc (.cells #[.int .u64 (y.dst : Int), .int .u64 (y.eph : Int), .int .u64 (y.body : Int), .int .u64 (y.tag : Int)] 68))).alloc (Nat.le_refl _) o))
      have HSZ := Lib.hid (show B ≤ w2.heap.size by have := HG2.out.size; omega)
      have HFAR := Lib.hid (fun (w4 : World) (hg4 : ((w2.alloc (.cells #[.int .u64 (y.dst : Int), .int .u64 (y.eph : Int), .int .u64 (y.body : Int), .int .u64 (y.tag : Int)] 68)).alloc (.cells #[.int .u64 (y.dst : Int), .int .u64 (y.eph : Int), .int .u64 (y.body : Int), .int .u64 (y.tag : Int)] 68)).grownBy w4 x.v.ownBlock) => far_read (o := (.cells #[.int .u64 (y.dst : Int), .int .u64 (y.eph : Int), .int .u64 (y.body : Int), .int .u64 (y.tag : Int)] 68)) (by have := h_lo HCU3.out; exact this) hCB HGR.out HG.out HG2.out HCU2.out HBE.out hg4)
      have HSRC := Lib.hid (show ∀ j u, (kBx.cells [y])[j]? = some u → ((w2.alloc (.cells #[.int .u64 (y.dst : Int), .int .u64 (y.eph : Int), .int .u64 (y.body : Int), .int .u64 (y.tag : Int)] 68)).alloc (.cells #[.int .u64 (y.dst : Int), .int .u64 (y.eph : Int), .int .u64 (y.body : Int), .int .u64 (y.tag : Int)] 68)).cell? ((⟨w2.heap.size + 1, 0, none⟩ : Addr).add j) = some u from fun j u hu => by
        rw [kBx.cells_one] at hu
        have h5 := cell_new (w2.alloc (.cells #[.int .u64 (y.dst : Int), .int .u64 (y.eph : Int), .int .u64 (y.body : Int), .int .u64 (y.tag : Int)] 68)) #[.int .u64 (y.dst : Int), .int .u64 (y.eph : Int), .int .u64 (y.body : Int), .int .u64 (y.tag : Int)] 68 j u hu
        rwa [show (w2.alloc (.cells #[.int .u64 (y.dst : Int), .int .u64 (y.eph : Int), .int .u64 (y.body : Int), .int .u64 (y.tag : Int)] 68)).heap.size = w2.heap.size + 1 from by simp] at h5)
      have hEr := Lib.hid (in_err HCU3.out)
      go_wp2_with fail
      refine (hEr.out).mono ?_
      rintro x3 w3 ⟨rfl, rfl⟩
      clear hEr
      by_cases hq0 : e2 = 0
      · have HE2 := Lib.hid hq0
        have hq : (e2 != 0) = false := by rw [hq0]; rfl
        have hq1 : (e2 == 0) = true := by rw [hq0]; rfl
        clear hq0
        go_wp2_with (at_builtin; go_loud (refine wpList_push1 ki_bx rfl _ _ rfl B x (HGRN.out _) HXV.out _ 1 1 [y] rfl rfl (by omega) HSRC.out (by have := HL.out; simp only [List.length_singleton]; omega) (by have := HSZ.out; simp; omega) ?_; intro z w4 hz hgr4 hgw4 hown4; have HZ := Lib.hid hz; have HGR4 := Lib.hid hgr4; have HGW4 := Lib.hid hgw4; have HOW4 := Lib.hid hown4; clear hz hgr4 hgw4 hown4))
        have hsz4 : z.l.length = L + 1 := by rw [HZ.out, List.length_append, ← HL.out]; rfl
        go_roundw
        case rel =>
          have hfar := HFAR.out _ HGW4.out
          refine ⟨z, k2, by go_num, by rw [hsz4]; go_num, by rw [hsz4]; exact hc, HGR4.out, ?_, ?_, fun _ => ?_, ?_⟩
          · intro y' hy'
            rw [HZ.out] at hy'
            rcases List.mem_append.1 hy' with h1 | h1
            · exact HOK.out y' h1
            · rw [List.mem_singleton.1 h1]; exact HYO.out
          · have h6 := hfar.1; rw [HE2.out] at h6; exact h6
          · have h5 := HREP.out.step (by skip; rw [← HL.out]; exact hc) (HE2.out ▸ HROK.out)
            rw [HZ.out]
            exact h5
          · exact hfar.2
        case measure => simp [intOf]; omega
      · have HE2 := Lib.hid hq0
        have hq : (e2 != 0) = true := by rw [bne_iff_ne]; exact hq0
        have hq1 : (e2 == 0) = false := by rw [beq_eq_false_iff_ne]; exact hq0
        clear hq0
        go_wp2
        go_ret
        exact ⟨Ls.nil, rfl, Lz.empty _ _, ⟨Nat.zero_le _, fun _ hy => nomatch hy⟩, k2, e2, HCU3.out, each_bad HN.out HE1.out HK0.out HREP.out (by skip; rw [← HL.out]; exact hc) HE2.out HROK.out, HG3.out⟩
    · have hxe : x.l.length = n := by omega
      have HGR := Lib.hid hgr
      have HOK := Lib.hid hok
      have HG := Lib.hid hg
      have HREP := Lib.hid hrep
      have HCU := Lib.hid hcu
      have HXE := Lib.hid hxe
      obtain ⟨xv, hxv⟩ : ∃ xv, xv = x.v := ⟨_, rfl⟩
      have HXV := Lib.hid hxv
      rw [hxe, ← hxv]
      clear hgr hok hg hrep hcu hxe hxv hc HC1 HG1
      go_wp2
      go_ret
      exact ⟨x, congrArg Ending.returned HXV.out, HGR.out.lz (fun k hk => hk), ⟨by have := HXE.out; omega, HOK.out⟩, k1, e1, HCU.out, each_done HN.out (fun c => HN0.out (by rw [HE1.out]; exact c)) HE1.out HK0.out HREP.out (by skip; exact HXE.out), HG.out⟩

set_option maxHeartbeats 1000000 in
theorem rboxes {lo C : Nat} {l : List UInt8} {k : Nat} {e : Int} {w : World} (h : Cu lo 165 w C l k e) :
    Calls Tryz.prog 140 #[.pointer (some ⟨C, 0, none⟩)] w fun x w' => ∃ v : Ls Bx, x = .returned (.slice v.A v.l.length v.c) ∧ Lz kBx (Til w.heap.size) w' v ∧ okEach okBx v.l ∧ Rdd (each pBx) lo C l k e w w' v.l := by
  have h0 := h.alloc (.cells #[.pointer (some ⟨C, 0, none⟩)] 100)
  have hD := blk_new w 100 #[.pointer (some ⟨C, 0, none⟩)]
  have HG := Lib.hid (World.grownBy_alloc w (.cells #[.pointer (some ⟨C, 0, none⟩)] 100) (some C))
  have HS := Lib.hid (show (w.alloc (.cells #[.pointer (some ⟨C, 0, none⟩)] 100)).heap.size = w.heap.size + 1 by simp)
  have HRD := Lib.hid (reach_bx h0 hD)
  clear h h0 hD
  go_enter Tryz.func140, Tryz.ntmps140
  go_wp2_with fail
  refine (HRD.out).mono ?_
  rintro x w1 ⟨v, rfl, hlz, hok, hrd⟩
  have HZ := Lib.hid (And.intro hlz (And.intro hok hrd))
  clear hlz hok hrd HRD
  go_wp2
  go_ret
  exact ⟨v, rfl, HZ.out.1.weak fun k _ hk => by have hk : k < w.heap.size := hk; show k < _; rw [HS.out]; omega, HZ.out.2.1, HZ.out.2.2.grown HG.out⟩
set_option maxHeartbeats 1000000 in
theorem rbytes {lo C : Nat} {l : List UInt8} {k : Nat} {e : Int} {w : World} (h : Cu lo 165 w C l k e) :
    Calls Tryz.prog 141 #[.pointer (some ⟨C, 0, none⟩)] w fun x w' => ∃ v : Ls UInt8, x = .returned (.slice v.A v.l.length v.c) ∧ Lz kU8 (Til w.heap.size) w' v ∧ v.l.length ≤ l.length ∧ Rdd pText lo C l k e w w' v.l := by
  obtain ⟨i0, hi0, hz0, hz1, hz2⟩ := info_parts info_u8
  have HI := Lib.hid hi0
  have HZ0 := Lib.hid hz0
  have HZ1 := Lib.hid hz1
  have HZ2 := Lib.hid hz2
  have HRD := Lib.hid (rd_text h)
  have HP := Lib.hid h.place.2
  have HC := Lib.hid h.lt
  obtain ⟨B, hB⟩ : ∃ B, B = w.heap.size := ⟨_, rfl⟩
  have HB := Lib.hid hB
  rw [← hB]
  clear h hi0 hz0 hz1 hz2 hB
  go_enter Tryz.func141, Tryz.ntmps141
  go_wp2_with fail
  refine (HRD.out).mono ?_
  rintro x w1 ⟨y, rfl, hy, hrd⟩
  have HY := Lib.hid hy
  obtain ⟨k', e', hcu, hrok, hg⟩ := hrd
  have HCU := Lib.hid hcu
  have HRO := Lib.hid hrok
  have HG := Lib.hid hg
  obtain ⟨s, hs⟩ : ∃ s : ByteArray, s = ⟨y.toArray⟩ := ⟨_, rfl⟩
  have hsz : s.size ≤ 1000000 := by rw [hs]; show y.toArray.size ≤ _; rw [List.size_toArray]; exact Nat.le_trans hy HP.out
  have HSS := Lib.hid hs
  rw [← hs]
  clear hy hcu hrok hg hs HRD
  go_wp2_with (at_builtin; refine Lib.wpList_append_own_string _ rfl _ _ 28 9 rfl B 5 i0 Tryz.underlying28 Tryz.underlying9 HI.out HZ0.out HZ1.out HZ2.out _ 0 [] rfl (World.ownsRow_nil _ _ _ _) s rfl (by unfold maxLen; omega) (by omega) (by have := HG.out.size; have := HB.out; omega) ?_; intro v' w2 hown' hgrow _; obtain ⟨A2, c2, rfl⟩ := own_slice hown'; have HO := Lib.hid hown'; have HGR := Lib.hid hgrow; clear hown' hgrow)
  go_ret
  have ho := HO.out
  rw [List.nil_append, Nat.zero_add, str_cells, HSS.out] at ho
  obtain ⟨hn, hgr⟩ := Gr.of8 (l := y) ho
  have hg2 : w1.grownBy w2 none := HGR.out
  refine ⟨⟨y, A2, c2⟩, ?_, hgr.lz (fun k hk => hk), HY.out, k', e', ?_, HRO.out, ?_⟩
  · show Ending.returned (.slice A2 s.size c2) = .returned (.slice A2 y.length c2)
    rw [HSS.out, hn]
  · exact HCU.out.grown hg2 fun g eg => by cases eg
  · exact HG.out.andThen hg2 fun j ej => by cases ej
set_option maxHeartbeats 4000000 in
theorem clo_rnd {lo C D : Nat} {l : List UInt8} {k : Nat} {e : Int} {w : World} (h : Cu lo 165 w C l k e) (hD : Blk w D 100 #[.pointer (some ⟨C, 0, none⟩)]) :
    Calls Tryz.prog 139 #[.pointer (some ⟨D, 0, none⟩)] w fun x w' => ∃ y : LNd, x = .returned (.agg #[.int .u64 (y.pub : Int), .slice y.boxes.A y.boxes.l.length y.boxes.c]) ∧ (fun y : LNd => okNd y.er) y ∧ Lz kBx (Til w.heap.size) w' y.boxes ∧ Rdd pNd lo C l k e w w' y.er := by
  have hDC := hD_ne hD h
  have hCl := h.lt
  have hDl := hD.lt
  have h0 := h.alloc (.cells #[.int .u64 0, .slice none 0 0] 66)
  have hD0 := blk_alloc hD (.cells #[.int .u64 0, .slice none 0 0] 66)
  have hR0 := blk_new w 66 #[.int .u64 0, .slice none 0 0]
  have hg0 := World.grownBy_alloc w (.cells #[.int .u64 0, .slice none 0 0] 66) (some C)
  obtain ⟨B, hB⟩ : ∃ B, B = w.heap.size := ⟨_, rfl⟩
  rw [← hB] at hR0 hCl hDl
  have HB := Lib.hid hB
  have HCL := Lib.hid hCl
  have hz : ((w.alloc (.cells #[.int .u64 0, .slice none 0 0] 66)).drew).cell? ⟨D, 0, none⟩ = some (.pointer (some ⟨C, 0, none⟩)) := hD0.cell 0
  have HD0 := Lib.hid hD0
  have HR0 := Lib.hid hR0
  have HG0 := Lib.hid hg0
  have hs0 : (w.alloc (.cells #[.int .u64 0, .slice none 0 0] 66)).heap.size = B + 1 := by rw [hB]; simp
  have HS0 := Lib.hid hs0
  have e0 : w.heap.size = B := hB.symm
  have hcu : Cu lo 165 (w.alloc (.cells #[.int .u64 0, .slice none 0 0] 66)).drew C l k e := h0
  have HRD0 := Lib.hid (rd_num hcu)
  clear h h0 hD hD0 hR0 hg0 hB hs0 hcu
  go_enter Tryz.func139, Tryz.ntmps139
  go_wp2
  refine wp_region_held_drew (S := (fun w' : World => w'.cell? ⟨D, 0, none⟩ = some (.pointer (some ⟨C, 0, none⟩)))) (by kernel_rfl) hz (fun hHeld => ?_)
  try simp only [Act.put, List.getElem_toArray, List.getElem_cons_succ, List.getElem_cons_zero, List.setIfInBounds_toArray, List.set_cons_zero, List.set_cons_succ]
  refine wpAnyH_take (i := 0) (v := ?_) rfl (by kernel_rfl) (by kernel_rfl) (by kernel_rfl) (fun _ _ _ h => h) (Or.inl ⟨by rfl, ?_⟩) (by assumption) ?_
  rotate_left
  · (intro w hSw; (try dsimp only at hSw); go_simp; try (with_reducible rfl))
  try simp only [Act.put, List.getElem_toArray, List.getElem_cons_zero, List.setIfInBounds_toArray, List.set_cons_zero, List.set_cons_succ]
  refine wpAnyH_take (i := 2) (v := ?_) rfl (by kernel_rfl) (by kernel_rfl) (by kernel_rfl) (fun _ _ _ h => h) (Or.inl ⟨by rfl, ?_⟩) (by assumption) ?_
  rotate_left
  · (intro w hSw; (try dsimp only at hSw); go_simp; try (with_reducible rfl))
  try simp only [Act.put, List.getElem_toArray, List.getElem_cons_succ, List.getElem_cons_zero, List.setIfInBounds_toArray, List.set_cons_zero, List.set_cons_succ]
  refine wpAnyH_ready (rs := [1]) (by kernel_rfl) (by simp) ?_
  refine AllReadyH.cons rfl (fun K hK => ?_) AllReadyH.nil
  go_simp
  refine (HRD0.out).mono ?_
  rintro x w1 ⟨y0, rfl, hy0, k0, e0, hcu, hrok0, hg0'⟩
  have hg0 : World.grownBy _ w1 (some C) := grown_drew hg0'
  have HY0 := Lib.hid hy0
  clear hy0
  have HRO0 := Lib.hid hrok0
  have HSZ1 := Lib.hid hg0.size
  have HG1 := Lib.hid (HG0.out.trans hg0)
  have HD1 := Lib.hid (blk_grown HD0.out hg0 (fun eg => by injection eg with eg; exact hDC eg))
  have HR1 := Lib.hid (blk_grown HR0.out hg0 (fun eg => by injection eg with eg; omega))
  have g0 := HD1.out.cell 0
  have HRD1 := Lib.hid (rboxes hcu)
  clear hrok0 hg0 hg0' hcu
  try go_simp
  refine hK.out _ _ g0 (fun hHeld1 => ?_)
  clear hK K
  try simp only [Act.put, List.getElem_toArray, List.getElem_cons_succ, List.getElem_cons_zero, List.setIfInBounds_toArray, List.set_cons_zero, List.set_cons_succ]
  refine wpAnyH_ready (rs := [3]) (by kernel_rfl) (by simp) ?_
  refine AllReadyH.cons rfl (fun K hK => ?_) AllReadyH.nil
  go_simp
  refine (HRD1.out).mono ?_
  rintro x w2 ⟨y1, rfl, hz1, hy1, k1, e1, hcu, hrok1, hg1'⟩
  have hg1 : World.grownBy _ w2 (some C) := hg1'
  have HY1 := Lib.hid hy1
  have HZ1 := Lib.hid hz1
  clear hy1 hz1
  have HRO1 := Lib.hid hrok1
  have HSZ2 := Lib.hid hg1.size
  have HG2 := Lib.hid (HG1.out.trans hg1)
  have HD2 := Lib.hid (blk_grown HD1.out hg1 (fun eg => by injection eg with eg; exact hDC eg))
  have HR2 := Lib.hid (blk_grown HR1.out hg1 (fun eg => by injection eg with eg; omega))
  have g1 := HD2.out.cell 0
  have HCU := Lib.hid hcu
  clear hrok1 hg1 hg1' hcu
  try go_simp
  refine hK.out _ _ g1 (fun hHeld2 => ?_)
  clear hK K
  try simp only [Act.put, List.getElem_toArray, List.getElem_cons_succ, List.getElem_cons_zero, List.setIfInBounds_toArray, List.set_cons_zero, List.set_cons_succ]
  refine wpAnyH_take (i := 4) (v := ?_) rfl (by kernel_rfl) (by kernel_rfl) (by kernel_rfl) (fun _ _ _ h => h) (Or.inl ⟨by rfl, ?_⟩) (by assumption) ?_
  rotate_left
  · (intro w hSw; (try dsimp only at hSw); go_simp; try (with_reducible rfl))
  try simp only [Act.put, List.getElem_toArray, List.getElem_cons_succ, List.getElem_cons_zero, List.setIfInBounds_toArray, List.set_cons_zero, List.set_cons_succ]
  refine wpAnyH_ready (rs := [5]) (by kernel_rfl) (by simp) ?_
  refine AllReadyH.cons rfl (fun K hK => ?_) AllReadyH.nil
  refine wp_store_row 66 _ _ rfl B #[.int .u64 (y0 : Int), .slice y1.A y1.l.length y1.c] rfl rfl 66 _ HR2.out nd_info rfl (by simp [Value.oneCell']) ?_
  have HST := Lib.hid (stored_read (cs := #[.int .u64 (y0 : Int), .slice y1.A y1.l.length y1.c]) HCU.out HG2.out (B := B) (by omega) (by have := HCL.out; omega))
  have HRR := Lib.hid (blk_setRow HR2.out #[.int .u64 (y0 : Int), .slice y1.A y1.l.length y1.c])
  have g9 : (w2.setRow B #[.int .u64 (y0 : Int), .slice y1.A y1.l.length y1.c]).cell? ⟨D, 0, none⟩ = some (.pointer (some ⟨C, 0, none⟩)) := (blk_grown HD2.out (grown_setRow w2 B _) (fun eg => by injection eg with eg; omega)).cell 0
  refine hK.out _ _ g9 (fun hHeld9 => ?_)
  clear hK K
  try simp only [Act.put, List.getElem_toArray, List.getElem_cons_succ, List.getElem_cons_zero]
  refine wpAnyH_done (by kernel_rfl) ?_ _
  go_wp2
  refine bodyPost_ret (v := .agg #[.int .u64 (y0 : Int), .slice y1.A y1.l.length y1.c]) (results_cell_row rfl _ _ B 66 #[.int .u64 (y0 : Int), .slice y1.A y1.l.length y1.c] (0, 0) _ rfl HRR.out nd_under rfl nd_info) rfl ?_
  exact ⟨⟨y0, y1⟩, rfl, ⟨HY0.out, HY1.out⟩, stored_lz HZ1.out HS0.out HSZ1.out HB.out, _, _, HST.out.1, (HRO0.out.sq HRO1.out).mp _, HST.out.2⟩

set_option maxHeartbeats 2000000 in
theorem reach_nd {lo C D : Nat} {l : List UInt8} {k : Nat} {e : Int} {w : World} (h : Cu lo 165 w C l k e) (hD : Blk w D 100 #[.pointer (some ⟨C, 0, none⟩)]) :
    Calls Tryz.prog 138 #[.pointer (some ⟨C, 0, none⟩), .func (.func 139) #[] #[.pointer (some ⟨D, 0, none⟩)]] w fun x w' => ∃ v : Ls LNd, x = .returned (.slice v.A v.l.length v.c) ∧ Lz kNd (Til w.heap.size) w' v ∧ (∀ y ∈ v.l, Lz kBx (Til w.heap.size) w' y.boxes) ∧ okEach (fun y : LNd => okNd y.er) v.l ∧ Rdd (each pNd) lo C l k e w w' (v.l.map LNd.er) := by
  have hm := in_many 1000 (by omega) (by omega) h
  obtain ⟨n, hn, hn1, hn0⟩ := many_n e (l.drop k)
  obtain ⟨e1, he1⟩ : ∃ e1, e1 = (Pk.stp 0 e (pMany 1000 (l.drop k))).e := ⟨_, rfl⟩
  obtain ⟨k0, hk0⟩ : ∃ k0, k0 = k + (Pk.stp 0 e (pMany 1000 (l.drop k))).n := ⟨_, rfl⟩
  rw [← he1, ← hk0, show i64v (Pk.stp 0 e (pMany 1000 (l.drop k))).v = .int .i64 (n : Int) from by rw [hn]; rfl] at hm
  rw [← he1] at hn0
  obtain ⟨B, hBe⟩ : ∃ B, B = w.heap.size := ⟨_, rfl⟩
  have hCB : C < B := by rw [hBe]; exact h.lt
  have HD := Lib.hid hD
  have hDB : D < B := by rw [hBe]; exact hD.lt
  have hDC : D ≠ C := hD_ne hD h
  rw [← hBe]
  have HM := Lib.hid hm
  have HN := Lib.hid hn
  have HE1 := Lib.hid he1
  have HK0 := Lib.hid hk0
  have HN0 := Lib.hid hn0
  have HBE := Lib.hid hBe
  clear hm hn he1 hk0 hn0 h hBe hD
  go_enter Tryz.func138, Tryz.ntmps138
  go_wp2_with fail
  refine (HM.out).mono ?_
  rintro x w1 ⟨rfl, hcu1, hg1⟩
  have HC1 := Lib.hid hcu1
  have HG1 := Lib.hid hg1
  clear hcu1 hg1 HM
  go_wp2
  go_loopw [5, 6, 9] (fun lv _ i wr => ∃ (x : Ls LNd) (k1 : Nat), lv = x.v ∧ i = .int .i64 (x.l.length : Int) ∧ x.l.length ≤ n ∧ Gr kNd B wr x ∧ (∀ y ∈ x.l, (fun y : LNd => okNd y.er) y) ∧ (∀ y ∈ x.l, Lz kBx (fun k => k < B ∨ x.v.ownBlock = some k) wr y.boxes) ∧ Cu lo 165 wr C l k1 e1 ∧ (e1 = 0 → Rep pNd l k0 n (x.l.map LNd.er) k1 0) ∧ w.grownBy wr (some C)) (fun _ _ i _ => n - (intOf i).toNat)
  case atStart => exact ⟨Ls.nil, k0, rfl, rfl, Nat.zero_le _, Gr.nil B w1, (fun _ hy => nomatch hy), (fun _ hy => nomatch hy), HC1.out, fun _ => Rep.zero _ l k0 n 0, HG1.out⟩
  case round =>
    obtain ⟨x, k1, rfl, rfl, hxn, hgr, hok, hnest, hcu, hrep, hg⟩ := hrel
    have hBw : B ≤ wr.heap.size := by have := hg.size; have := HBE.out; omega
    by_cases hc : x.l.length < n
    · have he0 : e1 = 0 := by
        by_cases c : e1 = 0
        · exact c
        · have := HN0.out c; omega
      subst he0
      have HREP := Lib.hid (hrep rfl)
      have HGR := Lib.hid hgr
      have HOK := Lib.hid hok
      have HG := Lib.hid hg
      have HNEST := Lib.hid hnest
      have hDr : Blk wr D 100 #[.pointer (some ⟨C, 0, none⟩)] := blk_grown HD.out hg (fun eg => by injection eg with eg; exact hDC eg)
      have HRD := Lib.hid (clo_rnd hcu hDr)
      obtain ⟨L, hL⟩ : ∃ L, L = x.l.length := ⟨_, rfl⟩
      have HL := Lib.hid hL
      obtain ⟨xv, hxv⟩ : ∃ xv, xv = x.v := ⟨_, rfl⟩
      have HXV := Lib.hid hxv
      rw [← hL] at hc hxn ⊢
      rw [← hxv]
      clear hrep hgr hok hcu hg hL hxv hnest HC1 HG1
      go_wp2_with (go_at_call 139; refine (HRD.out).mono ?_; rintro x2 w2 ⟨y, rfl, hyo, hyn, k2, e2, hcu2, hrok, hg2⟩; have HYO := Lib.hid hyo; have HCU2 := Lib.hid hcu2; have HROK := Lib.hid hrok; have HG2 := Lib.hid hg2; have HYN := Lib.hid hyn; clear hyo hcu2 hrok hg2 hyn HRD)
      have HCU3 := Lib.hid (HCU2.out.alloc (.cells #[.int .u64 (y.pub : Int), .slice y.boxes.A y.boxes.l.length y.boxes.c] 66))
      have HG3 := Lib.hid ((HG.out.trans HG2.out).trans (World.grownBy_alloc w2 (.cells #[.int .u64 (y.pub : Int), .slice y.boxes.A y.boxes.l.length y.boxes.c] 66) (some C)))
      have HGRN := Lib.hid (fun (o : Obj) => Gr.below (((HGR.out.grown HG2.out (fun g eg => by injection eg with eg; omega)).below ((Below.refl _ w2).alloc (Nat.le_refl _) (.cells #[.int .u64 (y.pub : Int), .slice y.boxes.A y.boxes.l.length y.boxes.c] 66)))) ((Below.refl _ (w2.alloc (.cells #[.int .u64 (y.pub : Int), .slice y.boxes.A y.boxes.l.length y.boxes.c] 66))).alloc (Nat.le_refl _) o))
      have HSZ := Lib.hid (show B ≤ w2.heap.size by have := HG2.out.size; omega)
      have HFAR := Lib.hid (fun (w4 : World) (hg4 : ((w2.alloc (.cells #[.int .u64 (y.pub : Int), .slice y.boxes.A y.boxes.l.length y.boxes.c] 66)).alloc (.cells #[.int .u64 (y.pub : Int), .slice y.boxes.A y.boxes.l.length y.boxes.c] 66)).grownBy w4 x.v.ownBlock) => far_read (o := (.cells #[.int .u64 (y.pub : Int), .slice y.boxes.A y.boxes.l.length y.boxes.c] 66)) (by have := h_lo HCU3.out; exact this) hCB HGR.out HG.out HG2.out HCU2.out HBE.out hg4)
      have HSRC := Lib.hid (show ∀ j u, (kNd.cells [y])[j]? = some u → ((w2.alloc (.cells #[.int .u64 (y.pub : Int), .slice y.boxes.A y.boxes.l.length y.boxes.c] 66)).alloc (.cells #[.int .u64 (y.pub : Int), .slice y.boxes.A y.boxes.l.length y.boxes.c] 66)).cell? ((⟨w2.heap.size + 1, 0, none⟩ : Addr).add j) = some u from fun j u hu => by
        rw [kNd.cells_one] at hu
        have h5 := cell_new (w2.alloc (.cells #[.int .u64 (y.pub : Int), .slice y.boxes.A y.boxes.l.length y.boxes.c] 66)) #[.int .u64 (y.pub : Int), .slice y.boxes.A y.boxes.l.length y.boxes.c] 66 j u hu
        rwa [show (w2.alloc (.cells #[.int .u64 (y.pub : Int), .slice y.boxes.A y.boxes.l.length y.boxes.c] 66)).heap.size = w2.heap.size + 1 from by simp] at h5)
      have hEr := Lib.hid (in_err HCU3.out)
      go_wp2_with fail
      refine (hEr.out).mono ?_
      rintro x3 w3 ⟨rfl, rfl⟩
      clear hEr
      by_cases hq0 : e2 = 0
      · have HE2 := Lib.hid hq0
        have hq : (e2 != 0) = false := by rw [hq0]; rfl
        have hq1 : (e2 == 0) = true := by rw [hq0]; rfl
        clear hq0
        go_wp2_with (at_builtin; go_loud (refine wpList_push1 ki_nd rfl _ _ rfl B x (HGRN.out _) HXV.out _ 1 1 [y] rfl rfl (by omega) HSRC.out (by have := HL.out; simp only [List.length_singleton]; omega) (by have := HSZ.out; simp; omega) ?_; intro z w4 hz hgr4 hgw4 hown4; have HZ := Lib.hid hz; have HGR4 := Lib.hid hgr4; have HGW4 := Lib.hid hgw4; have HOW4 := Lib.hid hown4; clear hz hgr4 hgw4 hown4))
        have hsz4 : z.l.length = L + 1 := by rw [HZ.out, List.length_append, ← HL.out]; rfl
        go_roundw
        case rel =>
          have hfar := HFAR.out _ HGW4.out
          refine ⟨z, k2, by go_num, by rw [hsz4]; go_num, by rw [hsz4]; exact hc, HGR4.out, ?_, ?_, ?_, fun _ => ?_, ?_⟩
          · intro y' hy'
            rw [HZ.out] at hy'
            rcases List.mem_append.1 hy' with h1 | h1
            · exact HOK.out y' h1
            · rw [List.mem_singleton.1 h1]; exact HYO.out
          · intro y' hy'
            rw [HZ.out] at hy'
            exact nest_read (o := (.cells #[.int .u64 (y.pub : Int), .slice y.boxes.A y.boxes.l.length y.boxes.c] 66)) HOW4.out HG2.out hCB HBE.out HG.out HGW4.out (by
              rcases List.mem_append.1 hy' with h1 | h1
              · exact .inl (HNEST.out y' h1)
              · rw [List.mem_singleton.1 h1]; exact .inr HYN.out) HGR.out
          · have h6 := hfar.1; rw [HE2.out] at h6; exact h6
          · have h5 := HREP.out.step (by rw [List.length_map]; rw [← HL.out]; exact hc) (HE2.out ▸ HROK.out)
            rw [HZ.out]
            rw [List.map_append]; exact h5
          · exact hfar.2
        case measure => simp [intOf]; omega
      · have HE2 := Lib.hid hq0
        have hq : (e2 != 0) = true := by rw [bne_iff_ne]; exact hq0
        have hq1 : (e2 == 0) = false := by rw [beq_eq_false_iff_ne]; exact hq0
        clear hq0
        go_wp2
        go_ret
        exact ⟨Ls.nil, rfl, Lz.empty _ _, (fun _ hy => nomatch hy), ⟨Nat.zero_le _, fun _ hy => nomatch hy⟩, k2, e2, HCU3.out, each_bad HN.out HE1.out HK0.out HREP.out (by rw [List.length_map]; rw [← HL.out]; exact hc) HE2.out HROK.out, HG3.out⟩
    · have hxe : x.l.length = n := by omega
      have HGR := Lib.hid hgr
      have HOK := Lib.hid hok
      have HG := Lib.hid hg
      have HREP := Lib.hid hrep
      have HCU := Lib.hid hcu
      have HXE := Lib.hid hxe
      have HNEST := Lib.hid hnest
      obtain ⟨xv, hxv⟩ : ∃ xv, xv = x.v := ⟨_, rfl⟩
      have HXV := Lib.hid hxv
      rw [hxe, ← hxv]
      clear hgr hok hg hrep hcu hxe hxv hc hnest HC1 HG1
      go_wp2
      go_ret
      exact ⟨x, congrArg Ending.returned HXV.out, HGR.out.lz (fun k hk => hk), (fun y hy => (HNEST.out y hy).weak fun k _ hk => .inl hk), ⟨by have := HXE.out; omega, HOK.out⟩, k1, e1, HCU.out, each_done HN.out (fun c => HN0.out (by rw [HE1.out]; exact c)) HE1.out HK0.out HREP.out (by rw [List.length_map]; exact HXE.out), HG.out⟩

set_option maxHeartbeats 4000000 in
theorem clo_rsd {lo C D : Nat} {l : List UInt8} {k : Nat} {e : Int} {w : World} (h : Cu lo 165 w C l k e) (hD : Blk w D 100 #[.pointer (some ⟨C, 0, none⟩)]) :
    Calls Tryz.prog 145 #[.pointer (some ⟨D, 0, none⟩)] w fun x w' => ∃ y : LSd, x = .returned (.agg #[.int .i64 y.nm.a, .int .i64 y.nm.b, .int .u64 (y.nm.c : Int), .slice y.body.A y.body.l.length y.body.c]) ∧ (fun y : LSd => okSd y.er) y ∧ Lz kU8 (Til w.heap.size) w' y.body ∧ Rdd pSd lo C l k e w w' y.er := by
  have hDC := hD_ne hD h
  have hCl := h.lt
  have hDl := hD.lt
  have h0 := h.alloc (.cells #[.int .i64 0, .int .i64 0, .int .u64 0, .slice none 0 0] 81)
  have hD0 := blk_alloc hD (.cells #[.int .i64 0, .int .i64 0, .int .u64 0, .slice none 0 0] 81)
  have hR0 := blk_new w 81 #[.int .i64 0, .int .i64 0, .int .u64 0, .slice none 0 0]
  have hg0 := World.grownBy_alloc w (.cells #[.int .i64 0, .int .i64 0, .int .u64 0, .slice none 0 0] 81) (some C)
  obtain ⟨B, hB⟩ : ∃ B, B = w.heap.size := ⟨_, rfl⟩
  rw [← hB] at hR0 hCl hDl
  have HB := Lib.hid hB
  have HCL := Lib.hid hCl
  have hz : ((w.alloc (.cells #[.int .i64 0, .int .i64 0, .int .u64 0, .slice none 0 0] 81)).drew).cell? ⟨D, 0, none⟩ = some (.pointer (some ⟨C, 0, none⟩)) := hD0.cell 0
  have HD0 := Lib.hid hD0
  have HR0 := Lib.hid hR0
  have HG0 := Lib.hid hg0
  have hs0 : (w.alloc (.cells #[.int .i64 0, .int .i64 0, .int .u64 0, .slice none 0 0] 81)).heap.size = B + 1 := by rw [hB]; simp
  have HS0 := Lib.hid hs0
  have e0 : w.heap.size = B := hB.symm
  have hcu : Cu lo 165 (w.alloc (.cells #[.int .i64 0, .int .i64 0, .int .u64 0, .slice none 0 0] 81)).drew C l k e := h0
  have HRD0 := Lib.hid (rd_name hcu)
  clear h h0 hD hD0 hR0 hg0 hB hs0 hcu
  go_enter Tryz.func145, Tryz.ntmps145
  go_wp2
  refine wp_region_held_drew (S := (fun w' : World => w'.cell? ⟨D, 0, none⟩ = some (.pointer (some ⟨C, 0, none⟩)))) (by kernel_rfl) hz (fun hHeld => ?_)
  try simp only [Act.put, List.getElem_toArray, List.getElem_cons_succ, List.getElem_cons_zero, List.setIfInBounds_toArray, List.set_cons_zero, List.set_cons_succ]
  refine wpAnyH_take (i := 0) (v := ?_) rfl (by kernel_rfl) (by kernel_rfl) (by kernel_rfl) (fun _ _ _ h => h) (Or.inl ⟨by rfl, ?_⟩) (by assumption) ?_
  rotate_left
  · (intro w hSw; (try dsimp only at hSw); go_simp; try (with_reducible rfl))
  try simp only [Act.put, List.getElem_toArray, List.getElem_cons_zero, List.setIfInBounds_toArray, List.set_cons_zero, List.set_cons_succ]
  refine wpAnyH_take (i := 2) (v := ?_) rfl (by kernel_rfl) (by kernel_rfl) (by kernel_rfl) (fun _ _ _ h => h) (Or.inl ⟨by rfl, ?_⟩) (by assumption) ?_
  rotate_left
  · (intro w hSw; (try dsimp only at hSw); go_simp; try (with_reducible rfl))
  try simp only [Act.put, List.getElem_toArray, List.getElem_cons_succ, List.getElem_cons_zero, List.setIfInBounds_toArray, List.set_cons_zero, List.set_cons_succ]
  refine wpAnyH_ready (rs := [1]) (by kernel_rfl) (by simp) ?_
  refine AllReadyH.cons rfl (fun K hK => ?_) AllReadyH.nil
  go_simp
  refine (HRD0.out).mono ?_
  rintro x w1 ⟨y0, rfl, hy0, k0, e0, hcu, hrok0, hg0'⟩
  have hg0 : World.grownBy _ w1 (some C) := grown_drew hg0'
  have HY0 := Lib.hid hy0
  clear hy0
  have HPL := Lib.hid hcu.place.2
  have HRO0 := Lib.hid hrok0
  have HSZ1 := Lib.hid hg0.size
  have HG1 := Lib.hid (HG0.out.trans hg0)
  have HD1 := Lib.hid (blk_grown HD0.out hg0 (fun eg => by injection eg with eg; exact hDC eg))
  have HR1 := Lib.hid (blk_grown HR0.out hg0 (fun eg => by injection eg with eg; omega))
  have g0 := HD1.out.cell 0
  have HRD1 := Lib.hid (rbytes hcu)
  clear hrok0 hg0 hg0' hcu
  try go_simp
  refine hK.out _ _ g0 (fun hHeld1 => ?_)
  clear hK K
  try simp only [Act.put, List.getElem_toArray, List.getElem_cons_succ, List.getElem_cons_zero, List.setIfInBounds_toArray, List.set_cons_zero, List.set_cons_succ]
  refine wpAnyH_ready (rs := [3]) (by kernel_rfl) (by simp) ?_
  refine AllReadyH.cons rfl (fun K hK => ?_) AllReadyH.nil
  go_simp
  refine (HRD1.out).mono ?_
  rintro x w2 ⟨y1, rfl, hz1, hy1, k1, e1, hcu, hrok1, hg1'⟩
  have hg1 : World.grownBy _ w2 (some C) := hg1'
  have HY1 := Lib.hid hy1
  have HZ1 := Lib.hid hz1
  clear hy1 hz1
  have HRO1 := Lib.hid hrok1
  have HSZ2 := Lib.hid hg1.size
  have HG2 := Lib.hid (HG1.out.trans hg1)
  have HD2 := Lib.hid (blk_grown HD1.out hg1 (fun eg => by injection eg with eg; exact hDC eg))
  have HR2 := Lib.hid (blk_grown HR1.out hg1 (fun eg => by injection eg with eg; omega))
  have g1 := HD2.out.cell 0
  have HCU := Lib.hid hcu
  clear hrok1 hg1 hg1' hcu
  try go_simp
  refine hK.out _ _ g1 (fun hHeld2 => ?_)
  clear hK K
  try simp only [Act.put, List.getElem_toArray, List.getElem_cons_succ, List.getElem_cons_zero, List.setIfInBounds_toArray, List.set_cons_zero, List.set_cons_succ]
  refine wpAnyH_take (i := 4) (v := ?_) rfl (by kernel_rfl) (by kernel_rfl) (by kernel_rfl) (fun _ _ _ h => h) (Or.inl ⟨by rfl, ?_⟩) (by assumption) ?_
  rotate_left
  · (intro w hSw; (try dsimp only at hSw); go_simp; try (with_reducible rfl))
  try simp only [Act.put, List.getElem_toArray, List.getElem_cons_succ, List.getElem_cons_zero, List.setIfInBounds_toArray, List.set_cons_zero, List.set_cons_succ]
  refine wpAnyH_ready (rs := [5]) (by kernel_rfl) (by simp) ?_
  refine AllReadyH.cons rfl (fun K hK => ?_) AllReadyH.nil
  refine wp_store_row 81 _ _ rfl B #[.int .i64 y0.a, .int .i64 y0.b, .int .u64 (y0.c : Int), .slice y1.A y1.l.length y1.c] rfl rfl 81 _ HR2.out sd_info rfl (by simp [Value.oneCell']) ?_
  have HST := Lib.hid (stored_read (cs := #[.int .i64 y0.a, .int .i64 y0.b, .int .u64 (y0.c : Int), .slice y1.A y1.l.length y1.c]) HCU.out HG2.out (B := B) (by omega) (by have := HCL.out; omega))
  have HRR := Lib.hid (blk_setRow HR2.out #[.int .i64 y0.a, .int .i64 y0.b, .int .u64 (y0.c : Int), .slice y1.A y1.l.length y1.c])
  have g9 : (w2.setRow B #[.int .i64 y0.a, .int .i64 y0.b, .int .u64 (y0.c : Int), .slice y1.A y1.l.length y1.c]).cell? ⟨D, 0, none⟩ = some (.pointer (some ⟨C, 0, none⟩)) := (blk_grown HD2.out (grown_setRow w2 B _) (fun eg => by injection eg with eg; omega)).cell 0
  refine hK.out _ _ g9 (fun hHeld9 => ?_)
  clear hK K
  try simp only [Act.put, List.getElem_toArray, List.getElem_cons_succ, List.getElem_cons_zero]
  refine wpAnyH_done (by kernel_rfl) ?_ _
  go_wp2
  refine bodyPost_ret (v := .agg #[.int .i64 y0.a, .int .i64 y0.b, .int .u64 (y0.c : Int), .slice y1.A y1.l.length y1.c]) (results_cell_row rfl _ _ B 81 #[.int .i64 y0.a, .int .i64 y0.b, .int .u64 (y0.c : Int), .slice y1.A y1.l.length y1.c] (0, 0) _ rfl HRR.out sd_under rfl sd_info) rfl ?_
  exact ⟨⟨y0, y1⟩, rfl, ⟨HY0.out, Nat.le_trans HY1.out HPL.out⟩, stored_lz HZ1.out HS0.out HSZ1.out HB.out, _, _, HST.out.1, (HRO0.out.sq HRO1.out).mp _, HST.out.2⟩

set_option maxHeartbeats 2000000 in
theorem reach_sd {lo C D : Nat} {l : List UInt8} {k : Nat} {e : Int} {w : World} (h : Cu lo 165 w C l k e) (hD : Blk w D 100 #[.pointer (some ⟨C, 0, none⟩)]) :
    Calls Tryz.prog 144 #[.pointer (some ⟨C, 0, none⟩), .func (.func 145) #[] #[.pointer (some ⟨D, 0, none⟩)]] w fun x w' => ∃ v : Ls LSd, x = .returned (.slice v.A v.l.length v.c) ∧ Lz kSd (Til w.heap.size) w' v ∧ (∀ y ∈ v.l, Lz kU8 (Til w.heap.size) w' y.body) ∧ okEach (fun y : LSd => okSd y.er) v.l ∧ Rdd (each pSd) lo C l k e w w' (v.l.map LSd.er) := by
  have hm := in_many 1000 (by omega) (by omega) h
  obtain ⟨n, hn, hn1, hn0⟩ := many_n e (l.drop k)
  obtain ⟨e1, he1⟩ : ∃ e1, e1 = (Pk.stp 0 e (pMany 1000 (l.drop k))).e := ⟨_, rfl⟩
  obtain ⟨k0, hk0⟩ : ∃ k0, k0 = k + (Pk.stp 0 e (pMany 1000 (l.drop k))).n := ⟨_, rfl⟩
  rw [← he1, ← hk0, show i64v (Pk.stp 0 e (pMany 1000 (l.drop k))).v = .int .i64 (n : Int) from by rw [hn]; rfl] at hm
  rw [← he1] at hn0
  obtain ⟨B, hBe⟩ : ∃ B, B = w.heap.size := ⟨_, rfl⟩
  have hCB : C < B := by rw [hBe]; exact h.lt
  have HD := Lib.hid hD
  have hDB : D < B := by rw [hBe]; exact hD.lt
  have hDC : D ≠ C := hD_ne hD h
  rw [← hBe]
  have HM := Lib.hid hm
  have HN := Lib.hid hn
  have HE1 := Lib.hid he1
  have HK0 := Lib.hid hk0
  have HN0 := Lib.hid hn0
  have HBE := Lib.hid hBe
  clear hm hn he1 hk0 hn0 h hBe hD
  go_enter Tryz.func144, Tryz.ntmps144
  go_wp2_with fail
  refine (HM.out).mono ?_
  rintro x w1 ⟨rfl, hcu1, hg1⟩
  have HC1 := Lib.hid hcu1
  have HG1 := Lib.hid hg1
  clear hcu1 hg1 HM
  go_wp2
  go_loopw [5, 6, 9] (fun lv _ i wr => ∃ (x : Ls LSd) (k1 : Nat), lv = x.v ∧ i = .int .i64 (x.l.length : Int) ∧ x.l.length ≤ n ∧ Gr kSd B wr x ∧ (∀ y ∈ x.l, (fun y : LSd => okSd y.er) y) ∧ (∀ y ∈ x.l, Lz kU8 (fun k => k < B ∨ x.v.ownBlock = some k) wr y.body) ∧ Cu lo 165 wr C l k1 e1 ∧ (e1 = 0 → Rep pSd l k0 n (x.l.map LSd.er) k1 0) ∧ w.grownBy wr (some C)) (fun _ _ i _ => n - (intOf i).toNat)
  case atStart => exact ⟨Ls.nil, k0, rfl, rfl, Nat.zero_le _, Gr.nil B w1, (fun _ hy => nomatch hy), (fun _ hy => nomatch hy), HC1.out, fun _ => Rep.zero _ l k0 n 0, HG1.out⟩
  case round =>
    obtain ⟨x, k1, rfl, rfl, hxn, hgr, hok, hnest, hcu, hrep, hg⟩ := hrel
    have hBw : B ≤ wr.heap.size := by have := hg.size; have := HBE.out; omega
    by_cases hc : x.l.length < n
    · have he0 : e1 = 0 := by
        by_cases c : e1 = 0
        · exact c
        · have := HN0.out c; omega
      subst he0
      have HREP := Lib.hid (hrep rfl)
      have HGR := Lib.hid hgr
      have HOK := Lib.hid hok
      have HG := Lib.hid hg
      have HNEST := Lib.hid hnest
      have hDr : Blk wr D 100 #[.pointer (some ⟨C, 0, none⟩)] := blk_grown HD.out hg (fun eg => by injection eg with eg; exact hDC eg)
      have HRD := Lib.hid (clo_rsd hcu hDr)
      obtain ⟨L, hL⟩ : ∃ L, L = x.l.length := ⟨_, rfl⟩
      have HL := Lib.hid hL
      obtain ⟨xv, hxv⟩ : ∃ xv, xv = x.v := ⟨_, rfl⟩
      have HXV := Lib.hid hxv
      rw [← hL] at hc hxn ⊢
      rw [← hxv]
      clear hrep hgr hok hcu hg hL hxv hnest HC1 HG1
      go_wp2_with (go_at_call 145; refine (HRD.out).mono ?_; rintro x2 w2 ⟨y, rfl, hyo, hyn, k2, e2, hcu2, hrok, hg2⟩; have HYO := Lib.hid hyo; have HCU2 := Lib.hid hcu2; have HROK := Lib.hid hrok; have HG2 := Lib.hid hg2; have HYN := Lib.hid hyn; clear hyo hcu2 hrok hg2 hyn HRD)
      have HCU3 := Lib.hid (HCU2.out.alloc (.cells #[.int .i64 y.nm.a, .int .i64 y.nm.b, .int .u64 (y.nm.c : Int), .slice y.body.A y.body.l.length y.body.c] 81))
      have HG3 := Lib.hid ((HG.out.trans HG2.out).trans (World.grownBy_alloc w2 (.cells #[.int .i64 y.nm.a, .int .i64 y.nm.b, .int .u64 (y.nm.c : Int), .slice y.body.A y.body.l.length y.body.c] 81) (some C)))
      have HGRN := Lib.hid (fun (o : Obj) => Gr.below (((HGR.out.grown HG2.out (fun g eg => by injection eg with eg; omega)).below ((Below.refl _ w2).alloc (Nat.le_refl _) (.cells #[.int .i64 y.nm.a, .int .i64 y.nm.b, .int .u64 (y.nm.c : Int), .slice y.body.A y.body.l.length y.body.c] 81)))) ((Below.refl _ (w2.alloc (.cells #[.int .i64 y.nm.a, .int .i64 y.nm.b, .int .u64 (y.nm.c : Int), .slice y.body.A y.body.l.length y.body.c] 81))).alloc (Nat.le_refl _) o))
      have HSZ := Lib.hid (show B ≤ w2.heap.size by have := HG2.out.size; omega)
      have HFAR := Lib.hid (fun (w4 : World) (hg4 : ((w2.alloc (.cells #[.int .i64 y.nm.a, .int .i64 y.nm.b, .int .u64 (y.nm.c : Int), .slice y.body.A y.body.l.length y.body.c] 81)).alloc (.cells #[.int .i64 y.nm.a, .int .i64 y.nm.b, .int .u64 (y.nm.c : Int), .slice y.body.A y.body.l.length y.body.c] 81)).grownBy w4 x.v.ownBlock) => far_read (o := (.cells #[.int .i64 y.nm.a, .int .i64 y.nm.b, .int .u64 (y.nm.c : Int), .slice y.body.A y.body.l.length y.body.c] 81)) (by have := h_lo HCU3.out; exact this) hCB HGR.out HG.out HG2.out HCU2.out HBE.out hg4)
      have HSRC := Lib.hid (show ∀ j u, (kSd.cells [y])[j]? = some u → ((w2.alloc (.cells #[.int .i64 y.nm.a, .int .i64 y.nm.b, .int .u64 (y.nm.c : Int), .slice y.body.A y.body.l.length y.body.c] 81)).alloc (.cells #[.int .i64 y.nm.a, .int .i64 y.nm.b, .int .u64 (y.nm.c : Int), .slice y.body.A y.body.l.length y.body.c] 81)).cell? ((⟨w2.heap.size + 1, 0, none⟩ : Addr).add j) = some u from fun j u hu => by
        rw [kSd.cells_one] at hu
        have h5 := cell_new (w2.alloc (.cells #[.int .i64 y.nm.a, .int .i64 y.nm.b, .int .u64 (y.nm.c : Int), .slice y.body.A y.body.l.length y.body.c] 81)) #[.int .i64 y.nm.a, .int .i64 y.nm.b, .int .u64 (y.nm.c : Int), .slice y.body.A y.body.l.length y.body.c] 81 j u hu
        rwa [show (w2.alloc (.cells #[.int .i64 y.nm.a, .int .i64 y.nm.b, .int .u64 (y.nm.c : Int), .slice y.body.A y.body.l.length y.body.c] 81)).heap.size = w2.heap.size + 1 from by simp] at h5)
      have hEr := Lib.hid (in_err HCU3.out)
      go_wp2_with fail
      refine (hEr.out).mono ?_
      rintro x3 w3 ⟨rfl, rfl⟩
      clear hEr
      by_cases hq0 : e2 = 0
      · have HE2 := Lib.hid hq0
        have hq : (e2 != 0) = false := by rw [hq0]; rfl
        have hq1 : (e2 == 0) = true := by rw [hq0]; rfl
        clear hq0
        go_wp2_with (at_builtin; go_loud (refine wpList_push1 ki_sd rfl _ _ rfl B x (HGRN.out _) HXV.out _ 1 1 [y] rfl rfl (by omega) HSRC.out (by have := HL.out; simp only [List.length_singleton]; omega) (by have := HSZ.out; simp; omega) ?_; intro z w4 hz hgr4 hgw4 hown4; have HZ := Lib.hid hz; have HGR4 := Lib.hid hgr4; have HGW4 := Lib.hid hgw4; have HOW4 := Lib.hid hown4; clear hz hgr4 hgw4 hown4))
        have hsz4 : z.l.length = L + 1 := by rw [HZ.out, List.length_append, ← HL.out]; rfl
        go_roundw
        case rel =>
          have hfar := HFAR.out _ HGW4.out
          refine ⟨z, k2, by go_num, by rw [hsz4]; go_num, by rw [hsz4]; exact hc, HGR4.out, ?_, ?_, ?_, fun _ => ?_, ?_⟩
          · intro y' hy'
            rw [HZ.out] at hy'
            rcases List.mem_append.1 hy' with h1 | h1
            · exact HOK.out y' h1
            · rw [List.mem_singleton.1 h1]; exact HYO.out
          · intro y' hy'
            rw [HZ.out] at hy'
            exact nest_read (o := (.cells #[.int .i64 y.nm.a, .int .i64 y.nm.b, .int .u64 (y.nm.c : Int), .slice y.body.A y.body.l.length y.body.c] 81)) HOW4.out HG2.out hCB HBE.out HG.out HGW4.out (by
              rcases List.mem_append.1 hy' with h1 | h1
              · exact .inl (HNEST.out y' h1)
              · rw [List.mem_singleton.1 h1]; exact .inr HYN.out) HGR.out
          · have h6 := hfar.1; rw [HE2.out] at h6; exact h6
          · have h5 := HREP.out.step (by rw [List.length_map]; rw [← HL.out]; exact hc) (HE2.out ▸ HROK.out)
            rw [HZ.out]
            rw [List.map_append]; exact h5
          · exact hfar.2
        case measure => simp [intOf]; omega
      · have HE2 := Lib.hid hq0
        have hq : (e2 != 0) = true := by rw [bne_iff_ne]; exact hq0
        have hq1 : (e2 == 0) = false := by rw [beq_eq_false_iff_ne]; exact hq0
        clear hq0
        go_wp2
        go_ret
        exact ⟨Ls.nil, rfl, Lz.empty _ _, (fun _ hy => nomatch hy), ⟨Nat.zero_le _, fun _ hy => nomatch hy⟩, k2, e2, HCU3.out, each_bad HN.out HE1.out HK0.out HREP.out (by rw [List.length_map]; rw [← HL.out]; exact hc) HE2.out HROK.out, HG3.out⟩
    · have hxe : x.l.length = n := by omega
      have HGR := Lib.hid hgr
      have HOK := Lib.hid hok
      have HG := Lib.hid hg
      have HREP := Lib.hid hrep
      have HCU := Lib.hid hcu
      have HXE := Lib.hid hxe
      have HNEST := Lib.hid hnest
      obtain ⟨xv, hxv⟩ : ∃ xv, xv = x.v := ⟨_, rfl⟩
      have HXV := Lib.hid hxv
      rw [hxe, ← hxv]
      clear hgr hok hg hrep hcu hxe hxv hc hnest HC1 HG1
      go_wp2
      go_ret
      exact ⟨x, congrArg Ending.returned HXV.out, HGR.out.lz (fun k hk => hk), (fun y hy => (HNEST.out y hy).weak fun k _ hk => .inl hk), ⟨by have := HXE.out; omega, HOK.out⟩, k1, e1, HCU.out, each_done HN.out (fun c => HN0.out (by rw [HE1.out]; exact c)) HE1.out HK0.out HREP.out (by rw [List.length_map]; exact HXE.out), HG.out⟩

end Ot
end Go.Proofs.YtkicjjcangkneaaGreatDoor
