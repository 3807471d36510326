/-
  Package sketch's equations: a row for each point, each in memory of its own; what was there is left as it was. For sketches of up to 1000 values.
-/
import Derived.Test.YtcbcmnbfflaicaaSkg
import Derived.Deep.RegionHeld3
namespace Go.Proofs.Ytcbcmnbfflaicaa
open Go.RowKit
open Sk (pt pwr eqn upd)

/-- Rows laid, the first k of them. -/
structure Eqs (lo R n u k : Nat) (E : Nat → List Nat) (gs cs : Nat → Nat) (Ds : Nat → List Value) (w : World) : Prop where
  blk : Blk w R 25 ((List.range n).map fun i => tv gs cs u (if i < k then some i else none)).toArray
  row : ∀ i, i < k → Ax w (gs i) (E i) (Ds i)
  ne : ∀ i, i < k → lo ≤ gs i ∧ gs i ≠ R ∧ u + 1 ≤ cs i
  inj : ∀ i j, i < k → j < k → gs i = gs j → i = j
theorem Eqs.below {lo R n u k : Nat} {E : Nat → List Nat} {gs cs : Nat → Nat} {Ds : Nat → List Value} {w w' : World} (h : Eqs lo R n u k E gs cs Ds w) (hb : Below w.heap.size w w') : Eqs lo R n u k E gs cs Ds w' :=
  ⟨h.blk.below hb h.blk.lt, fun i hi => Blk.below (h.row i hi) hb (Blk.lt (h.row i hi)), h.ne, h.inj⟩
theorem Eqs.step {lo R n u k g c : Nat} {E : Nat → List Nat} {gs cs : Nat → Nat} {Ds : Nat → List Value} {D : List Value} {w w' : World} (h : Eqs lo R n u k E gs cs Ds w) (hb : Below w.heap.size w w') (hg : w.heap.size ≤ g) (hlo : lo ≤ g) (hc : u + 1 ≤ c) (hr : Ax w' g (E k) D) :
    Eqs lo R n u (k + 1) E (upd gs k g) (upd cs k c) (upd Ds k D) (w'.setCell ⟨R, k, none⟩ (.slice (some ⟨g, 0, none⟩) (u + 1) c)) := by
  have hR := h.blk.lt
  have hgs : ∀ i, i < k → gs i < w.heap.size := fun i hi => Blk.lt (h.row i hi)
  refine ⟨?_, fun i hi => ?_, fun i hi => ?_, fun i j hi hj e => ?_⟩
  · have h1 := (h.blk.below hb hR).set_ k (.slice (some ⟨g, 0, none⟩) (u + 1) c)
    have e : ((List.range n).map fun i => tv gs cs u (if i < k then some i else none)).toArray.setIfInBounds k (.slice (some ⟨g, 0, none⟩) (u + 1) c) = ((List.range n).map fun i => tv (upd gs k g) (upd cs k c) u (if i < k + 1 then some i else none)).toArray := by
      rw [List.setIfInBounds_toArray]
      congr 1
      apply List.ext_getElem?
      intro a
      by_cases e : a = k
      · subst e
        by_cases hu : a < n
        · rw [List.getElem?_set_self (by simpa using hu), List.getElem?_map, List.getElem?_range hu]
          simp [Sk.upd_same, tv]
        · rw [List.getElem?_eq_none (by simp; omega), List.getElem?_eq_none (by simp; omega)]
      · rw [List.getElem?_set_ne (by omega), List.getElem?_map, List.getElem?_map]
        by_cases hu : a < n
        · rw [List.getElem?_range hu]
          by_cases hk : a < k
          · simp [hk, show a < k + 1 by omega, tv, Sk.upd_ne _ _ e]
          · simp [hk, show ¬ a < k + 1 by omega, tv]
        · rw [List.getElem?_eq_none (by simp; omega)]; rfl
    rw [e] at h1
    exact h1
  · by_cases e : i = k
    · rw [e, Sk.upd_same, Sk.upd_same]
      exact (Below.heap_setCell w' ⟨R, k, none⟩ _ g (by show g ≠ R; omega)).trans hr
    · rw [Sk.upd_ne _ _ e, Sk.upd_ne _ _ e]
      have hik : i < k := by omega
      exact (Below.heap_setCell w' ⟨R, k, none⟩ _ (gs i) (h.ne i hik).2.1).trans (Blk.below (h.row i hik) hb (hgs i hik))
  · by_cases e : i = k
    · rw [e, Sk.upd_same, Sk.upd_same]; exact ⟨hlo, by omega, hc⟩
    · rw [Sk.upd_ne _ _ e, Sk.upd_ne _ _ e]; exact h.ne i (by omega)
  · by_cases e1 : i = k
    · by_cases e2 : j = k
      · omega
      · rw [e1, Sk.upd_same, Sk.upd_ne _ _ e2] at e
        have := hgs j (by omega)
        omega
    · by_cases e2 : j = k
      · rw [e2, Sk.upd_same, Sk.upd_ne _ _ e1] at e
        have := hgs i (by omega)
        omega
      · rw [Sk.upd_ne _ _ e1, Sk.upd_ne _ _ e2] at e
        exact h.inj i j (by omega) (by omega) e

theorem pwr_lt' {x t : Nat} (h : t < 2305843009213693951) (n : Nat) : pwr x t n < 2305843009213693951 := Sk.pwr_lt h n
theorem tab_take (f : Nat → Nat) {n m : Nat} (h : m ≤ n) : (Pl.tab f n).take m = Pl.tab f m := by
  unfold Pl.tab
  rw [← List.map_take, List.take_range, Nat.min_eq_left h]
/-- What equations tells. -/
def Eqd (lo n u : Nat) (E : Nat → List Nat) (w : World) (e : Ending) (w' : World) : Prop :=
  (∃ (R : Nat) (gs cs : Nat → Nat) (Ds : Nat → List Value), e = .returned (.slice (some ⟨R, 0, none⟩) n n) ∧ lo ≤ R ∧ R < w'.heap.size ∧ (∀ k, k < n → w'.cell? ⟨R, k, none⟩ = some (.slice (some ⟨gs k, 0, none⟩) (u + 1) (cs k))) ∧ (∀ k, k < n → Ax w' (gs k) (E k) (Ds k)) ∧
    (∀ k, k < n → lo ≤ gs k ∧ gs k ≠ R ∧ u + 1 ≤ cs k) ∧ ∀ k k', k < n → k' < n → gs k = gs k' → k = k') ∧ Below lo w w'

set_option maxRecDepth 100000 in
set_option maxHeartbeats 4000000 in
theorem equations_any (na nb n c n' c' dF dG : Nat) (A A' : Option Addr) (a b : List Nat) (w : World) (hA : Pt w A n c a) (hA' : Pt w A' n' c' b) (hnn : n' = n) (ha : Pl.Sm a) (hb : Pl.Sm b) (hn : n ≤ 1000) (hdF : dF ≤ 1000) (hdG : dG ≤ 1000) :
    Calls Try.prog 48 #[skv na A n c, skv nb A' n' c', .int .i64 (dF : Int), .int .i64 (dG : Int)] w (Eqd w.heap.size n (dF + dG) (fun k => eqn (a[k]?.getD 0) (b[k]?.getD 0) (pt k) dF dG) w) := by
  subst hnn
  unfold skv
  obtain ⟨B, hB⟩ : ∃ B, B = w.heap.size := ⟨_, rfl⟩
  obtain ⟨w2, hw2⟩ : ∃ w2, w2 = ((w.alloc (.cells #[.int .i64 (na : Int), .slice A n' c] 29)).alloc (.cells #[.int .i64 (nb : Int), .slice A' n' c'] 29)) := ⟨_, rfl⟩
  have hk1 := (blk_new w 29 #[.int .i64 (na : Int), .slice A n' c])
  have hk2 := (blk_new (w.alloc (.cells #[.int .i64 (na : Int), .slice A n' c] 29)) 29 #[.int .i64 (nb : Int), .slice A' n' c'])
  rw [World.size_alloc] at hk2
  have hk3 := blk_alloc hk1 (.cells #[.int .i64 (nb : Int), .slice A' n' c'] 29)
  have hb0 : Below w.heap.size w ((w.alloc (.cells #[.int .i64 (na : Int), .slice A n' c] 29)).alloc (.cells #[.int .i64 (nb : Int), .slice A' n' c'] 29)) := ((Below.refl _ w).alloc (Nat.le_refl _) _).alloc (by simp) _
  have c1 : ((w.alloc (.cells #[.int .i64 (na : Int), .slice A n' c] 29)).alloc (.cells #[.int .i64 (nb : Int), .slice A' n' c'] 29)).cell? ⟨w.heap.size, 1, none⟩ = some (.slice A n' c) := hk3.cell 1
  have hs2 : w2.heap.size = B + 2 := by rw [hw2, hB]; simp
  rw [← hw2, ← hB] at hk2 hk3
  rw [← hw2] at hb0
  have hmk := mkrows n' (by omega)
  have he0 : Eqs B (B + 2) n' (dF + dG) 0 (fun k => eqn (a[k]?.getD 0) (b[k]?.getD 0) (pt k) dF dG) (fun _ => 0) (fun _ => 0) (fun _ => []) (w2.alloc (.cells (List.replicate n' (Value.slice none 0 0)).toArray 25)) := by
    refine ⟨?_, fun i hi => by omega, fun i hi => by omega, fun i j hi => by omega⟩
    have h := blk_new w2 25 (List.replicate n' (Value.slice none 0 0)).toArray
    rw [hs2] at h
    have e : ((List.range n').map fun i => tv (fun _ => 0) (fun _ => 0) (dF + dG) (if i < 0 then some i else none)) = List.replicate n' (.slice none 0 0) := by
      apply List.ext_getElem?
      intro i
      by_cases h : i < n'
      · rw [List.getElem?_map, List.getElem?_range h, List.getElem?_replicate, if_pos h]; rfl
      · rw [List.getElem?_eq_none (by simp; omega), List.getElem?_eq_none (by simp; omega)]
    rw [e]
    exact h
  have hb2 : Below (B + 2) w2 (w2.alloc (.cells (List.replicate n' (Value.slice none 0 0)).toArray 25)) := (Below.refl _ w2).alloc (by omega) _
  have HA := Lib.hid (hA.below hb0)
  have HA' := Lib.hid (hA'.below hb0)
  have HSA := Lib.hid ha
  have HSB := Lib.hid hb
  have HK2 := Lib.hid hk2
  have HK3 := Lib.hid hk3
  have HE0 := Lib.hid he0
  have HB2 := Lib.hid hb2
  have HB0 := Lib.hid hb0
  have HS2 := Lib.hid hs2
  have HW2 := Lib.hid hw2
  have HBE := Lib.hid hB
  clear hA hA' ha hb hk1 hk2 hk3 he0 hb2 hb0 hs2 hw2 hB
  go_enter Try.func48, Try.ntmps48
  go_wp2
  rw [← HW2.out]
  rw [← HBE.out]
  have e2 : B + 1 + 1 = B + 2 := rfl
  rw [e2]
  clear e2 c1 hmk
  go_loopw [21] (fun i wr => ∃ (k : Nat) (gs cs : Nat → Nat) (Ds : Nat → List Value), k ≤ n' ∧ i = .int .i64 (k : Int) ∧ Eqs B (B + 2) n' (dF + dG) k (fun k => eqn (a[k]?.getD 0) (b[k]?.getD 0) (pt k) dF dG) gs cs Ds wr ∧ Below (B + 2) w2 wr) (fun i _ => n' - (intOf i).toNat)
  case atStart => exact ⟨0, _, _, _, Nat.zero_le _, rfl, by first | exact HE0.out | (have h := HE0.out; rw [List.toArray_replicate] at h; exact h), by first | exact HB2.out | (have h := HB2.out; rw [List.toArray_replicate] at h; exact h)⟩
  case round =>
    obtain ⟨k, gs, cs, Ds, hk, rfl, heq, hbr⟩ := hrel
    by_cases hlt : k < n'
    · have hbw : Below w2.heap.size w2 wr := by rw [HS2.out]; exact hbr
      have hszr : B + 2 ≤ wr.heap.size := by have := hbr.size; have := HS2.out; omega
      have hPa := (HA.out.below hbw)
      have hPb := (HA'.out.below hbw)
      have k3 : wr.cell? ⟨B, 1, none⟩ = some (.slice A n' c) := by rw [HBE.out]; exact (hbr.cell (p := ⟨w.heap.size, 1, none⟩) (by show w.heap.size < B + 2; have := HBE.out; omega)).trans (by rw [← HBE.out]; exact HK3.out.cell 1)
      have k2 : wr.cell? ⟨B + 1, 1, none⟩ = some (.slice A' n' c') := (hbr.cell (p := ⟨B + 1, 1, none⟩) (by show B + 1 < B + 2; omega)).trans (HK2.out.cell 1)
      obtain ⟨oa, fa, rfl, hoa, hca⟩ := hPa.at_ hlt
      obtain ⟨ob, fb, rfl, hob, hcb⟩ := hPb.at_ hlt
      have hal := HSA.out.get k
      have hbl := HSB.out.get k
      obtain ⟨ak, hak⟩ : ∃ ak, ak = a[k]?.getD 0 := ⟨_, rfl⟩
      obtain ⟨bk, hbk⟩ : ∃ bk, bk = b[k]?.getD 0 := ⟨_, rfl⟩
      rw [← hak] at hca hal
      rw [← hbk] at hcb hbl
      have hpt := point_any k (by omega) wr
      obtain ⟨x, hx⟩ : ∃ x, x = pt k := ⟨_, rfl⟩
      rw [← hx] at hpt
      have hxl : x < 18446744073709551616 := by rw [hx]; unfold pt; omega
      obtain ⟨F1, hF1⟩ : ∃ F1, F1 = dF + 1 := ⟨_, rfl⟩
      obtain ⟨G1, hG1⟩ : ∃ G1, G1 = dG + 1 := ⟨_, rfl⟩
      have s1 : (dF : Int) + 1 = (F1 : Int) := by omega
      have s2 : (dG : Int) + 1 = (G1 : Int) := by omega
      have q0 : (0 : Int) ≤ (k : Int) := by omega
      have q1 : (k : Int) < (n' : Int) := by omega
      have hpw := powers_any x bk F1 wr (by omega) hxl (by omega)
      have HPT := Lib.hid hpt
      have HPW := Lib.hid hpw
      have HEQ := Lib.hid heq
      have HBR := Lib.hid hbr
      have HX := Lib.hid hx
      have HAK := Lib.hid hak
      have HBK := Lib.hid hbk
      have HF1 := Lib.hid hF1
      have HG1 := Lib.hid hG1
      have HCA := Lib.hid hca
      have HK3' := Lib.hid k3
      clear hpt hpw heq hbr hx hak hbk hF1 hG1 hPa hPb hbw
      go_wp2_with fail
      refine HPT.out.mono ?_
      rintro e w3 ⟨rfl, rfl⟩
      go_wp2_with fail
      refine HPW.out.mono ?_
      rintro e w3 ⟨rfl, hf3, hb3⟩
      have k3' := (hb3.cell (p := ⟨B, 1, none⟩) (by show B < wr.heap.size; omega)).trans HK3'.out
      have hca' := (hb3.cell (p := ⟨oa, fa + k, none⟩) hoa).trans HCA.out
      obtain ⟨ng, hng⟩ : ∃ ng, ng = Fld.sub 0 ak := ⟨_, rfl⟩
      have hngl : ng < 18446744073709551616 := by rw [hng]; have := Fld.sub_lt 0 ak; omega
      have hneg := neg_any ak w3 (by omega)
      rw [← hng] at hneg
      have hpw2 := powers_any x ng G1 w3 (by have := HG1.out; omega) hxl hngl
      have HNEG := Lib.hid hneg
      have HPW2 := Lib.hid hpw2
      have HNG := Lib.hid hng
      have HF3 := Lib.hid hf3
      have HB3 := Lib.hid hb3
      clear hneg hpw2 hng hf3 k3 k2 hcb
      go_wp2_with fail
      refine HNEG.out.mono ?_
      rintro e w4 ⟨rfl, rfl⟩
      go_wp2_with fail
      refine HPW2.out.mono ?_
      rintro e w4 ⟨rfl, hg4, hb4⟩
      have hf4 := HF3.out.below hb4 (by have := HB3.out.size; have h := HF3.out.lt; exact h)
      have HB4 := Lib.hid (HB3.out.trans (hb4.mono HB3.out.size))
      have cF := hf4.cell (i := dF) (by rw [Pl.tab_len]; have := HF1.out; omega)
      have cG := hg4.cell (i := dG) (by rw [Pl.tab_len]; have := HG1.out; omega)
      rw [Pl.tab_get, if_pos (by have := HF1.out; omega)] at cF
      rw [Pl.tab_get, if_pos (by have := HG1.out; omega)] at cG
      replace cF : w4.cell? ⟨wr.heap.size, dF, none⟩ = some (.int .u64 ((pwr x bk dF : Nat) : Int)) := cF
      replace cG : w4.cell? ⟨w3.heap.size, dG, none⟩ = some (.int .u64 ((pwr x ng dG : Nat) : Int)) := cG
      have hvF : pwr x bk dF < 2305843009213693951 := pwr_lt' (by omega) dF
      have hvG : pwr x ng dG < 2305843009213693951 := pwr_lt' (by rw [HNG.out]; exact Fld.sub_lt _ _) dG
      have hadd : ∀ W : World, Calls Try.prog 56 #[.int .u64 ((pwr x bk dF : Nat) : Int), .int .u64 ((pwr x ng dG : Nat) : Int)] W fun e w' => e = .returned (.int .u64 ((Fld.add (pwr x bk dF) (pwr x ng dG) : Nat) : Int)) ∧ w' = W := fun W => (add_any (pwr x bk dF) (pwr x ng dG) W (by omega) (by omega)).mono fun _ _ ⟨a, b⟩ => And.intro a b.symm
      obtain ⟨vF, hvFe⟩ : ∃ vF, vF = pwr x bk dF := ⟨_, rfl⟩
      obtain ⟨vG, hvGe⟩ : ∃ vG, vG = pwr x ng dG := ⟨_, rfl⟩
      rw [← hvFe, ← hvGe] at hadd
      rw [← hvFe] at cF
      rw [← hvGe] at cG
      obtain ⟨kn, hkn⟩ : ∃ kn, kn = Fld.add vF vG := ⟨_, rfl⟩
      simp only [← hkn] at hadd
      have HADD := Lib.hid hadd
      have HVF := Lib.hid hvFe
      have HVG := Lib.hid hvGe
      have HKN := Lib.hid hkn
      have p0 : (0 : Int) ≤ (dF : Int) := by omega
      have p1 : (dF : Int) < (F1 : Int) := by omega
      have p2 : (0 : Int) ≤ (dG : Int) := by omega
      have p3 : (dG : Int) < (G1 : Int) := by omega
      have HF4 := Lib.hid hf4
      have HG4 := Lib.hid hg4
      clear hadd hvFe hvGe hkn hvF hvG hf4 hg4 hb4 hca' k3' hb3
      go_wp2
      go_big_quiet (first | (go_at_call 56; refine Calls.quiet_of_same (HADD.out _)))
      go_wp2
      rename Nat => q
      obtain ⟨W, hW⟩ : ∃ W, W = w4.drewN q := ⟨_, rfl⟩
      have hfW : Ar W wr.heap.size (Pl.tab (pwr x bk) F1) := hW ▸ HF4.out
      have hgW : Ar W w3.heap.size (Pl.tab (pwr x ng) G1) := hW ▸ HG4.out
      have hbW : Below wr.heap.size wr W := hW ▸ below_drewN HB4.out q
      rw [← hW]
      obtain ⟨gF, hgF⟩ : ∃ gF, gF = wr.heap.size := ⟨_, rfl⟩
      obtain ⟨gG, hgG⟩ : ∃ gG, gG = w3.heap.size := ⟨_, rfl⟩
      rw [← hgF] at hfW
      rw [← hgG] at hgW
      rw [← hgF, ← hgG]
      have HFW := Lib.hid hfW
      have HGW := Lib.hid hgW
      have HBW := Lib.hid hbW
      have HGFE := Lib.hid hgF
      clear hW cF cG hfW hgW hbW hgF hgG HF4 HG4 HB4 HF3 HB3 p1 p3
      have r1 := slice_head 25 (by kernel_rfl) (fun W => by kernel_rfl) (some ⟨gF, 0, none⟩) F1 F1 dF (by have := HF1.out; omega)
      have r2 := slice_head 25 (by kernel_rfl) (fun W => by kernel_rfl) (some ⟨gG, 0, none⟩) G1 G1 dG (by have := HG1.out; omega)
      have hw6 : Below W.heap.size W ((W.drew.alloc (.cells #[.int .u64 (kn : Int)] 22)).alloc (.cells #[.slice (some ⟨gF, 0, none⟩) dF F1, .slice (some ⟨gG, 0, none⟩) dG G1, .slice (some ⟨W.heap.size, 0, none⟩) 1 1] 25)) := (((below_to_drew (Below.refl _ W))).alloc (Nat.le_refl _) _).alloc (by show W.heap.size ≤ (W.drew.alloc _).heap.size; rw [World.size_alloc]; exact Nat.le_succ _) _
      have hf6 := HFW.out.below hw6 (by have h := HFW.out.lt; exact h)
      have hg6 := HGW.out.below hw6 (by have h := HGW.out.lt; exact h)
      have hS6 := blk_new (W.drew.alloc (.cells #[.int .u64 (kn : Int)] 22)) 25 #[.slice (some ⟨gF, 0, none⟩) dF F1, .slice (some ⟨gG, 0, none⟩) dG G1, .slice (some ⟨W.heap.size, 0, none⟩) 1 1]
      rw [World.size_alloc] at hS6
      have h16 : Pt ((W.drew.alloc (.cells #[.int .u64 (kn : Int)] 22)).alloc (.cells #[.slice (some ⟨gF, 0, none⟩) dF F1, .slice (some ⟨gG, 0, none⟩) dG G1, .slice (some ⟨W.heap.size, 0, none⟩) 1 1] 25)) (some ⟨W.heap.size, 0, none⟩) 1 1 [kn] := Pt.new (w := W.drew.alloc (.cells #[.int .u64 (kn : Int)] 22)) ⟨rfl, rd_news W.drew [kn], Nat.le_refl _, fun e => by cases e⟩ _
      have hp0 : Pt ((W.drew.alloc (.cells #[.int .u64 (kn : Int)] 22)).alloc (.cells #[.slice (some ⟨gF, 0, none⟩) dF F1, .slice (some ⟨gG, 0, none⟩) dG G1, .slice (some ⟨W.heap.size, 0, none⟩) 1 1] 25)) (some ⟨gF, 0, none⟩) dF F1 (Pl.tab (pwr x bk) dF) := by
        have h := hf6.rd hf6.lt
        have h2 := h.take dF
        rw [tab_take _ (by have := HF1.out; omega)] at h2
        exact ⟨(Pl.tab_len _ _).symm, h2, by have := HF1.out; omega, fun e => by cases e⟩
      have hp1 : Pt ((W.drew.alloc (.cells #[.int .u64 (kn : Int)] 22)).alloc (.cells #[.slice (some ⟨gF, 0, none⟩) dF F1, .slice (some ⟨gG, 0, none⟩) dG G1, .slice (some ⟨W.heap.size, 0, none⟩) 1 1] 25)) (some ⟨gG, 0, none⟩) dG G1 (Pl.tab (pwr x ng) dG) := by
        have h := hg6.rd hg6.lt
        have h2 := h.take dG
        rw [tab_take _ (by have := HG1.out; omega)] at h2
        exact ⟨(Pl.tab_len _ _).symm, h2, by have := HG1.out; omega, fun e => by cases e⟩
      have hcc := concat3_any (W.heap.size + 1) dF dG 1 F1 G1 1 _ _ _ _ _ _ _ hS6 hp0 hp1 h16 (by omega) (by omega) (by omega) (by omega)
      have HCC := Lib.hid hcc
      have HW6 := Lib.hid hw6
      clear hw6 hf6 hg6 hS6 h16 hp0 hp1 hcc
      refine wp_region_held_drew (S := (fun w' : World => (Instr.slice 25 (.slice (some ⟨gF, 0, none⟩) F1 F1) none (some (.int .i64 (dF : Int))) none).run Try.prog w' = .ok (.slice (some ⟨gF, 0, none⟩) dF F1) w' ∧ (Instr.slice 25 (.slice (some ⟨gG, 0, none⟩) G1 G1) none (some (.int .i64 (dG : Int))) none).run Try.prog w' = .ok (.slice (some ⟨gG, 0, none⟩) dG G1) w')) (by kernel_rfl) ⟨r1 _, r2 _⟩ (fun hHeld => ?_)
      try simp only [Act.put, List.getElem_toArray, List.getElem_cons_succ, List.getElem_cons_zero, List.setIfInBounds_toArray, List.set_cons_zero, List.set_cons_succ]
      refine wpAnyH_take (i := 0) (v := ?_) rfl (by kernel_rfl) (by kernel_rfl) (by kernel_rfl) (fun _ _ _ h => h) (Or.inl ⟨by rfl, ?_⟩) (by assumption) ?_
      rotate_left
      · (intro w hSw; (try dsimp only at hSw); obtain ⟨s0, s1⟩ := hSw; go_simp; try (with_reducible rfl))
      try simp only [Act.put, List.getElem_toArray, List.getElem_cons_zero, List.setIfInBounds_toArray, List.set_cons_zero, List.set_cons_succ]
      refine wpAnyH_take (i := 1) (v := ?_) rfl (by kernel_rfl) (by kernel_rfl) (by kernel_rfl) (fun _ _ _ h => h) (Or.inl ⟨by rfl, ?_⟩) (by assumption) ?_
      rotate_left
      · (intro w hSw; (try dsimp only at hSw); obtain ⟨s0, s1⟩ := hSw; go_simp; try (with_reducible rfl))
      try simp only [Act.put, List.getElem_toArray, List.getElem_cons_succ, List.getElem_cons_zero, List.setIfInBounds_toArray, List.set_cons_zero, List.set_cons_succ]
      refine wpAnyH_take (i := 2) (v := ?_) rfl (by kernel_rfl) (by kernel_rfl) (by kernel_rfl) (fun _ _ _ h => h) (Or.inl ⟨by rfl, ?_⟩) (by assumption) ?_
      rotate_left
      · (intro w hSw; (try dsimp only at hSw); obtain ⟨s0, s1⟩ := hSw; go_simp; try (with_reducible rfl))
      try simp only [Act.put, List.getElem_toArray, List.getElem_cons_succ, List.getElem_cons_zero, List.setIfInBounds_toArray, List.set_cons_zero, List.set_cons_succ]
      refine wpAnyH_take (i := 3) (v := ?_) rfl (by kernel_rfl) (by kernel_rfl) (by kernel_rfl) (fun _ _ _ h => h) (Or.inl ⟨by rfl, ?_⟩) (by assumption) ?_
      rotate_left
      · (intro w hSw; (try dsimp only at hSw); obtain ⟨s0, s1⟩ := hSw; go_simp; try (with_reducible rfl))
      try simp only [Act.put, List.getElem_toArray, List.getElem_cons_succ, List.getElem_cons_zero, List.setIfInBounds_toArray, List.set_cons_zero, List.set_cons_succ]
      refine wpAnyH_take (i := 4) (v := ?_) rfl (by kernel_rfl) (by kernel_rfl) (by kernel_rfl) (fun _ _ _ h => h) (Or.inl ⟨by rfl, ?_⟩) (by assumption) ?_
      rotate_left
      · (intro w hSw; (try dsimp only at hSw); obtain ⟨s0, s1⟩ := hSw; go_simp; try (with_reducible rfl))
      try simp only [Act.put, List.getElem_toArray, List.getElem_cons_succ, List.getElem_cons_zero, List.setIfInBounds_toArray, List.set_cons_zero, List.set_cons_succ]
      refine wpAnyH_take (i := 5) (v := ?_) rfl (by kernel_rfl) (by kernel_rfl) (by kernel_rfl) (fun _ _ _ h => h) (Or.inl ⟨by rfl, ?_⟩) (by assumption) ?_
      rotate_left
      · (intro w hSw; (try dsimp only at hSw); obtain ⟨s0, s1⟩ := hSw; go_simp; try (with_reducible rfl))
      try simp only [Act.put, List.getElem_toArray, List.getElem_cons_succ, List.getElem_cons_zero, List.setIfInBounds_toArray, List.set_cons_zero, List.set_cons_succ]
      refine wpAnyH_take (i := 6) (v := ?_) rfl (by kernel_rfl) (by kernel_rfl) (by kernel_rfl) (fun _ _ _ h => h) (Or.inl ⟨by rfl, ?_⟩) (by assumption) ?_
      rotate_left
      · (intro w hSw; (try dsimp only at hSw); obtain ⟨s0, s1⟩ := hSw; go_simp; try (with_reducible rfl))
      try simp only [Act.put, List.getElem_toArray, List.getElem_cons_succ, List.getElem_cons_zero, List.setIfInBounds_toArray, List.set_cons_zero, List.set_cons_succ]
      refine wpAnyH_take (i := 7) (v := ?_) rfl (by kernel_rfl) (by kernel_rfl) (by kernel_rfl) (fun _ _ _ h => h) (Or.inl ⟨by rfl, ?_⟩) (by assumption) ?_
      rotate_left
      · (intro w hSw; (try dsimp only at hSw); obtain ⟨s0, s1⟩ := hSw; go_simp; try (with_reducible rfl))
      try simp only [Act.put, List.getElem_toArray, List.getElem_cons_succ, List.getElem_cons_zero, List.setIfInBounds_toArray, List.set_cons_zero, List.set_cons_succ]
      refine wpAnyH_take (i := 8) (v := ?_) rfl (by kernel_rfl) (by kernel_rfl) (by kernel_rfl) (fun _ _ _ h => h) (Or.inl ⟨by rfl, ?_⟩) (by assumption) ?_
      rotate_left
      · (intro w hSw; (try dsimp only at hSw); obtain ⟨s0, s1⟩ := hSw; go_simp; try (with_reducible rfl))
      try simp only [Act.put, List.getElem_toArray, List.getElem_cons_succ, List.getElem_cons_zero, List.setIfInBounds_toArray, List.set_cons_zero, List.set_cons_succ]
      refine wpAnyH_ready (rs := [9]) (by kernel_rfl) (by simp) ?_
      refine AllReadyH.cons rfl (fun K hK => ?_) AllReadyH.nil
      go_simp
      refine hK.out _ _ ⟨r1 _, r2 _⟩ (fun hHeld1 => ?_)
      clear hK K
      try simp only [Act.put, List.getElem_toArray, List.getElem_cons_succ, List.getElem_cons_zero, List.setIfInBounds_toArray, List.set_cons_zero, List.set_cons_succ]
      refine wpAnyH_ready (rs := [10]) (by kernel_rfl) (by simp) ?_
      refine AllReadyH.cons rfl (fun K hK => ?_) AllReadyH.nil
      go_simp
      refine hK.out _ _ ⟨r1 _, r2 _⟩ (fun hHeld2 => ?_)
      clear hK K
      try simp only [Act.put, List.getElem_toArray, List.getElem_cons_succ, List.getElem_cons_zero, List.setIfInBounds_toArray, List.set_cons_zero, List.set_cons_succ]
      refine wpAnyH_ready (rs := [11]) (by kernel_rfl) (by simp) ?_
      refine AllReadyH.cons rfl (fun K hK => ?_) AllReadyH.nil
      go_simp
      refine HCC.out.mono ?_
      rintro e w7 ⟨⟨z, rfl, hz⟩, hb7⟩
      have hlz : (Pl.tab (pwr x bk) dF ++ Pl.tab (pwr x ng) dG ++ [kn]).length = dF + dG + 1 := by rw [List.length_append, List.length_append, Pl.tab_len, Pl.tab_len]; rfl
      obtain ⟨g, cz, Dz, rfl, hgz, hcz, hax⟩ := hz.ax (by omega)
      rw [hlz] at hcz ⊢
      have hez : Pl.tab (pwr x bk) dF ++ Pl.tab (pwr x ng) dG ++ [kn] = eqn (a[k]?.getD 0) (b[k]?.getD 0) (pt k) dF dG := by
        unfold eqn
        rw [← HAK.out, ← HBK.out, ← HX.out, ← HNG.out, ← HVF.out, ← HVG.out, HKN.out]
      rw [hez] at hax
      have hb8 : Below wr.heap.size wr w7 := (HBW.out.trans (HW6.out.mono HBW.out.size)).trans (hb7.mono (by have h1 := HBW.out.size; have h2 := HW6.out.size; omega))
      have hgw : wr.heap.size ≤ g := by have h1 := HBW.out.size; have h2 := HW6.out.size; omega
      have hE7 := HEQ.out.below hb8
      have hst7 := HEQ.out.step hb8 hgw (by omega) hcz hax
      have hbs7 : Below (B + 2) w2 (w7.setCell ⟨B + 2, k, none⟩ (.slice (some ⟨g, 0, none⟩) (dF + dG + 1) cz)) := (HBR.out.trans (hb8.mono hszr)).setCell (p := ⟨B + 2, k, none⟩) (Nat.le_refl _) _
      have HE7 := Lib.hid hE7
      have HST7 := Lib.hid hst7
      have HBS7 := Lib.hid hbs7
      clear hz hb7 hlz hez hb8 hgw hE7 hst7 hbs7 hax hgz hcz
      try go_simp
      refine hK.out _ _ ⟨r1 _, r2 _⟩ (fun hHeld3 => ?_)
      clear hK K
      try simp only [Act.put, List.getElem_toArray, List.getElem_cons_succ, List.getElem_cons_zero, List.setIfInBounds_toArray, List.set_cons_zero, List.set_cons_succ]
      refine wpAnyH_take (i := 12) (v := ?_) rfl (by kernel_rfl) (by kernel_rfl) (by kernel_rfl) (fun _ _ _ h => h) (Or.inl ⟨by rfl, ?_⟩) (by assumption) ?_
      rotate_left
      · (intro w hSw; (try dsimp only at hSw); obtain ⟨s0, s1⟩ := hSw; go_simp; try (with_reducible rfl))
      try simp only [Act.put, List.getElem_toArray, List.getElem_cons_succ, List.getElem_cons_zero, List.setIfInBounds_toArray, List.set_cons_zero, List.set_cons_succ]
      have hcell7 : w7.cell? ⟨B + 2, k, none⟩ = some (.slice none 0 0) := by
        have h := HE7.out.blk.cell k
        simpa [hlt, tv] using h
      have hfz7 := HE7.out.blk.frozen k
      refine wpAnyH_ready (rs := [13]) (by kernel_rfl) (by simp) ?_
      refine AllReadyH.cons rfl (fun K hK => ?_) AllReadyH.nil
      go_simp
      refine hK.out _ _ ⟨r1 _, r2 _⟩ (fun hHeld4 => ?_)
      clear hK K
      try simp only [Act.put, List.getElem_toArray, List.getElem_cons_succ, List.getElem_cons_zero, List.setIfInBounds_toArray, List.set_cons_zero, List.set_cons_succ]
      refine wpAnyH_done (by kernel_rfl) ?_ _
      clear hHeld hHeld1 hHeld2 hHeld3 hHeld4 hcell7 hfz7
      go_wp2
      go_roundw
      case rel => exact ⟨k + 1, _, _, _, hlt, by go_num, HST7.out, HBS7.out⟩
      case measure => simp [intOf]; omega
    · have e : k = n' := by omega
      subst e
      have HE := Lib.hid heq
      have HBR := Lib.hid hbr
      clear heq hbr
      go_wp2
      go_ret
      have hb3 : Below w.heap.size w wr := by
        have h1 := HB0.out
        have h2 := HBR.out
        exact h1.trans (h2.mono (by have := HBE.out; omega))
      refine ⟨⟨B + 2, gs, cs, Ds, rfl, by have := HBE.out; omega, HE.out.blk.lt, fun i hi => ?_, HE.out.row, fun i hi => by have h := HE.out.ne i hi; rw [HBE.out] at h; exact ⟨h.1, by have := HBE.out; omega, h.2.2⟩, HE.out.inj⟩, hb3⟩
      have h := HE.out.blk.cell i
      simpa [hi, tv] using h
end Go.Proofs.Ytcbcmnbfflaicaa
