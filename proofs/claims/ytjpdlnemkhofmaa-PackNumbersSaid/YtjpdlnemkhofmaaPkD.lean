/-
  The statement PackNumbers: the walk. No condition but what fits memory.
-/
import Derived.Test.YtjpdlnemkhofmaaPkF
import Derived.Deep.RegionHeld
namespace Go.Proofs.Ytjpdlnemkhofmaa
open Go.RowKit
set_option linter.unusedVariables false
set_option linter.unusedSimpArgs false
attribute [local go_sem ↓] Go.wp_at_zero Go.wp_at_succ

theorem Cu.heap {lo t : Nat} {w w' : World} {C : Nat} {l : List UInt8} {k : Nat} {e : Int} (h : Cu lo t w C l k e) (hw : w'.heap = w.heap) : Cu lo t w' C l k e := by
  obtain ⟨A, c, hB, hA, h1, h2⟩ := h
  refine ⟨A, c, by unfold Blk at hB ⊢; rw [hw]; exact hB, fun hp => ?_, h1, h2⟩
  obtain ⟨b, off, e, hlt, hc⟩ := hA hp
  exact ⟨b, off, e, hlt, fun i u hu => (World.cell?_of_block (by rw [hw])).trans (hc i u hu)⟩
theorem below_heap {B : Nat} {a w w' : World} (h : Below B a w) (hw : w'.heap = w.heap) (ho : w'.os = w.os) (ht : w'.tape = w.tape) (hp : w'.output = w.output) : Below B a w' :=
  ⟨ho.trans h.os, ht.trans h.tape, hp.trans h.output, by rw [hw]; exact h.size, fun j hj => by rw [hw]; exact h.block j hj⟩

theorem numbers_step {B S y k g' cap' c1 c2 : Nat} {A1 A2 : Option Addr} {L : List UInt8} {xs : List Value} {w w1 w2 : World} {row : Option Nat} (hgrow : (w1.alloc (.cells #[.int .u8 (y : Int)] 5)).grownBy w2 row) (hown : w2.ownsRow B 5 1 (.slice (some ⟨g', 0, none⟩) (k + 1) cap') (k + 1) (u8s L ++ xs))
    (ho1 : w1.ownsRow S 5 1 (.slice A2 k c2) k (u8s L)) (hlt : ∀ j, row = some j → j < S) (hx : xs = u8s [UInt8.ofNat y]) (hlo : ∀ j, (Value.slice A1 k c1).ownBlock = some j → B ≤ j ∧ j < w1.heap.size) (hB : B ≤ w1.heap.size) (hb : Below B w w1) (hr : row = (Value.slice A1 k c1).ownBlock := by rfl) :
    Sl w2.heap.size w2 A2 k c2 L ∧ Sl w2.heap.size w2 (some ⟨g', 0, none⟩) (k + 1) cap' (L ++ [UInt8.ofNat y]) ∧ Below B w w2 := by
  have hk : w2.ownsRow S 5 1 (.slice A2 k c2) k (u8s L) := by
    refine (ho1.alloc _).kept hgrow ?_
    by_cases hn : (Value.slice A2 k c2).ownBlock = none
    · exact .inl hn
    · refine .inr fun e => ?_
      rcases hj : (Value.slice A2 k c2).ownBlock with _ | j
      · exact hn hj
      · have h1 := (ho1.lt j hj).1
        have h2 := hlt j (e.symm.trans hj)
        omega
  refine ⟨Sl.own hk, ?_, ?_⟩
  · rw [hx, ← u8s_app] at hown
    exact Sl.own hown
  · exact (hb.alloc hB _).grown hgrow (by simp; omega) (fun j e => (hlo j (hr ▸ e)).1)

theorem grown_undrew {w w' : World} {row : Option Nat} (h : w.drew.grownBy w' row) : w.grownBy w' row := ⟨h.os, h.tape, h.output, h.size, h.block⟩
theorem below_set {D X : Nat} {a w w2 : World} (h : Below D a w) (hg : w.grownBy w2 (some X)) (hD : D ≤ X) (hs : D ≤ a.heap.size) : Below D a w2 :=
  h.grown hg (Nat.le_trans hs h.size) (fun k e => by injection e with e; omega)

theorem numbers_left {lo C k2 n rr : Nat} {M : List UInt8} {e : Int} {w : World} (hM : n = M.length) (hr : rr = n - k2) (h : Cu lo 75 w C M k2 e) :
    Calls Try.prog 28 #[.pointer (some ⟨C, 0, none⟩)] w fun x w' => x = .returned (.int .i64 (rr : Int)) ∧ ∃ n, w' = w.drewN n := by
  have h1 := in_left h
  rw [← hM, ← hr] at h1
  exact h1

namespace Pk
/-- The first fourteen of some bytes, each with 128 more. -/
def hi (l : List UInt8) : List UInt8 := l.map fun b => UInt8.ofNat (b.toNat % 128 + 128)
end Pk

set_option maxRecDepth 100000 in
set_option maxHeartbeats 8000000 in
theorem numbers_walk (xs : List UInt8) (A : Option Addr) (m c : Nat) (last : Nat) (w : World) (hm : m = xs.length) (hmb : m ≤ 9223372036854775807) (hA : Rd w.heap.size w A (u8s xs)) (hlast : last < 256) :
    Calls Try.prog 9 #[.slice A m c, .int .u8 (last : Int)] w fun e w' => e = .returned (.bool true) ∧ Below w.heap.size w w' := by
  obtain ⟨i0, hi0, hz0, hz1, hz2⟩ := info_parts info_u8
  obtain ⟨B, hBe⟩ : ∃ B, B = w.heap.size := ⟨_, rfl⟩
  rw [← hBe] at hA ⊢
  have hnil := World.ownsRow_nil w B 5 1
  have HBS := Lib.hid hBe
  have HI := Lib.hid hi0
  have HZ0 := Lib.hid hz0
  have HZ1 := Lib.hid hz1
  have HZ2 := Lib.hid hz2
  have HNIL := Lib.hid hnil
  have HM := Lib.hid hm
  have HA := Lib.hid hA
  have e0 : w.heap.size = B := hBe.symm
  clear hi0 hz0 hz1 hz2 hnil hBe hm hA
  go_enter Try.func9, Try.ntmps9
  go_wp2
  go_loopw [5, 6] (fun o i wr => ∃ k : Nat, i = .int .i64 k ∧ k ≤ m ∧ k ≤ 14 ∧ (∃ A' c', o = .slice A' k c') ∧ wr.ownsRow B 5 1 o k (u8s (Pk.hi (xs.take k))) ∧ Below B w wr) (fun _ i _ => m - (intOf i).toNat)
  case atStart => exact ⟨0, rfl, Nat.zero_le _, by omega, ⟨_, _, rfl⟩, HNIL.out, Below.refl _ _⟩
  case round =>
    obtain ⟨k, rfl, hk, hk14, ⟨A1, c1, rfl⟩, hrow, hb⟩ := hrel
    have hsz := hb.size
    have hBw : B ≤ wr.heap.size := by have := HBS.out; omega
    by_cases hc : k < m ∧ k < 14
    · obtain ⟨h1, h2⟩ := hc
      have hkl : k < xs.length := by rw [← HM.out]; exact h1
      obtain ⟨b, off, hAe, hcl⟩ := rd_at (HA.out.below hb) k hkl
      subst hAe
      have hsn : Pk.hi (xs.take (k + 1)) = Pk.hi (xs.take k) ++ [UInt8.ofNat ((xs[k]).toNat % 128 + 128)] := by
        unfold Pk.hi
        rw [Pk.take_snoc xs k hkl, List.map_append]
        rfl
      have hxb := (xs[k]).toNat_lt
      obtain ⟨x, hx⟩ : ∃ x, x = (xs[k]).toNat := ⟨_, rfl⟩
      rw [← hx] at hcl hsn hxb
      obtain ⟨y, hy⟩ : ∃ y, y = x % 128 := ⟨_, rfl⟩
      obtain ⟨z, hz⟩ : ∃ z, z = y + 128 := ⟨_, rfl⟩
      have hyi : (x : Int) % 128 = (y : Int) := by omega
      have hzi : (y : Int) + 128 = (z : Int) := by omega
      rw [← hy, ← hz] at hsn
      have HSN := Lib.hid hsn
      have HZB := Lib.hid (show z < 256 by omega)
      have hyb : y < 128 := by omega
      have HROW := Lib.hid hrow
      have HBEL := Lib.hid hb
      clear hx hy hz hsn hrow hb hsz hkl
      go_wp2_with (at_builtin; refine wpList_append_own _ rfl _ _ 23 rfl B 5 i0 (.int .u8 0) 1 1 Try.underlying23 HI.out HZ0.out HZ1.out HZ2.out rfl (by decide) _ _ _ rfl (HROW.out.alloc _) ⟨wr.heap.size, 0, none⟩ 1 1 [.int .u8 (z : Int)] rfl rfl (cell_one_new _ _ _) (by simp [Value.oneCell']) (by unfold maxLen; omega) (by omega) (by simp; omega) ?_; intro v' w1 hown' hgrow _; obtain ⟨g', cap', rfl⟩ := ownsRow_succ hown'; have HO := Lib.hid (And.intro hown' (HBEL.out.trans (((Below.refl B wr).alloc hBw _).grown hgrow (by simp; omega) (fun j e => (HROW.out.lt j e).1)))); clear hown' hgrow)
      go_roundw
      case rel =>
        refine ⟨k + 1, by go_num, h1, h2, ⟨_, _, rfl⟩, ?_, HO.out.2⟩
        rw [HSN.out, u8s_app, ← u8s_one z HZB.out]
        exact HO.out.1
      case measure => simp [intOf]; omega
    · have hc2 : ∃ b1 b2 : Bool, decide (k < m) = b1 ∧ decide ((k : Int) < 14) = b2 ∧ (b1 = false ∨ (b1 = true ∧ b2 = false)) := by
        refine ⟨_, _, rfl, rfl, ?_⟩
        simp only [decide_eq_false_iff_not, decide_eq_true_eq]
        omega
      obtain ⟨b1, b2, B1, B2, hc2⟩ := hc2
      obtain ⟨L, hL⟩ : ∃ L, L = Pk.hi (xs.take k) := ⟨_, rfl⟩
      rw [← hL] at hrow
      have hs1 := Sl.own hrow
      have HF := Lib.hid (few_any L A1 k c1 14 wr hs1.1 hs1.2.1 (by omega) hs1.2.2.1 (fun e => (hs1.2.2.2 e).2))
      rw [show ((14 : Nat) : Int) = 14 from rfl, show min k 14 = k by omega, List.take_of_length_le (by rw [← hs1.1]; exact hk14)] at HF
      have HROW := Lib.hid hrow
      have HBEL := Lib.hid hb
      have HL := Lib.hid hs1.1
      have HLT1 := Lib.hid (fun j e => (hrow.lt j e).2)
      obtain ⟨y, hy⟩ : ∃ y, y = last % 128 := ⟨_, rfl⟩
      have hyi : (last : Int) % 128 = (y : Int) := by omega
      have HYB := Lib.hid (show y < 256 by omega)
      clear hc hrow hb hsz hL hs1 hy
      rcases hc2 with rfl | ⟨rfl, rfl⟩
      all_goals
        go_wp2_with fail
        refine (HF.out).mono ?_
        rintro e w1 ⟨A2, c2, rfl, hown, hb1⟩
        have HO1 := Lib.hid hown
        have HB1 := Lib.hid hb1
        have hwB : B ≤ w1.heap.size := Nat.le_trans hBw hb1.size
        have HROW1 := Lib.hid (own_below HROW.out hb1)
        clear hown hb1 HF HROW
        go_wp2_with (at_builtin; refine wpList_append_own _ rfl _ _ 23 rfl B 5 i0 (.int .u8 0) 1 1 Try.underlying23 HI.out HZ0.out HZ1.out HZ2.out rfl (by decide) _ _ _ rfl (HROW1.out.alloc _) ⟨w1.heap.size, 0, none⟩ 1 1 [.int .u8 (y : Int)] rfl rfl (cell_one_new _ _ _) (by simp [Value.oneCell']) (by unfold maxLen; omega) (by omega) (by simp; omega) ?_; intro v' w2 hown' hgrow _; obtain ⟨g', cap', rfl⟩ := ownsRow_succ hown'; have HS2 := Lib.hid (numbers_step hgrow hown' HO1.out HLT1.out (u8s_one y HYB.out) HROW1.out.lt hwB (HBEL.out.trans (HB1.out.mono hBw))); clear hown' hgrow)
        clear HROW1 HO1 HB1 HBEL hwB
        have hX := blk_new w2 23 #[.slice A2 k c2, .slice (some ⟨g', 0, none⟩) (k + 1) cap']
        have hbx : Below w2.heap.size w2 (w2.alloc (.cells #[.slice A2 k c2, .slice (some ⟨g', 0, none⟩) (k + 1) cap'] 23)) := (Below.refl _ w2).alloc (Nat.le_refl _) _
        have t1 := HS2.out.1.below hbx
        have t2 := HS2.out.2.1.below hbx
        have hbD := HS2.out.2.2.trans (hbx.mono (by have := HS2.out.2.2.size; have := HBS.out; omega))
        obtain ⟨X, hXe⟩ : ∃ X, X = w2.heap.size := ⟨_, rfl⟩
        obtain ⟨wD, hwD⟩ : ∃ wD, wD = w2.alloc (.cells #[.slice A2 k c2, .slice (some ⟨g', 0, none⟩) (k + 1) cap'] 23) := ⟨_, rfl⟩
        rw [← hwD] at hX hbD t1 t2
        rw [← hXe] at hX t1 t2 ⊢
        rw [← hwD]
        have HSL2 := Lib.hid (And.intro t1 t2)
        have HX := Lib.hid hX
        have HBD := Lib.hid hbD
        have HXD := Lib.hid hX.lt
        clear hX hbx hbD t1 t2 hwD hXe HS2 HLT1
        go_loopw [9, 10, 11] (fun i _ _ wr => ∃ j : Nat, i = .int .i64 j ∧ j ≤ 2 ∧ Below wD.heap.size wD wr) (fun i _ _ _ => 2 - (intOf i).toNat)
        case atStart => exact ⟨0, rfl, by omega, Below.refl _ _⟩
        case round =>
          obtain ⟨j, rfl, hj, hbr⟩ := hrel
          by_cases hj2 : j < 2
          · obtain ⟨AM, nM, cM, M, hcell, hM, hMb⟩ : ∃ AM nM cM M, (∀ W : World, Blk W X 23 #[.slice A2 k c2, .slice (some ⟨g', 0, none⟩) (k + 1) cap'] → W.cell? ⟨X, j, none⟩ = some (.slice AM nM cM)) ∧ Sl X wD AM nM cM M ∧ nM ≤ 1000 := by
              obtain ⟨t1, t2⟩ := HSL2.out
              have h3 : j = 0 ∨ j = 1 := by omega
              rcases h3 with rfl | rfl
              · exact ⟨A2, k, c2, _, fun W h => h.cell 0, t1, by omega⟩
              · exact ⟨some ⟨g', 0, none⟩, k + 1, cap', _, fun W h => h.cell 1, t2, by omega⟩
            have hXr := HX.out.below hbr HXD.out
            have hc0 := hcell wr hXr
            have HCELL := Lib.hid hcell
            have hMr := (hM.below (hbr.mono (Nat.le_of_lt HXD.out))).more (show X ≤ wr.heap.size from Nat.le_of_lt hXr.lt)
            have HO := Lib.hid (open_any AM M nM cM wr hMr.1 (by omega) hMr.2.2.1 hMr.2.2.2)
            have HMR := Lib.hid hMr
            have HBR := Lib.hid hbr
            have HXR := Lib.hid hXr
            clear hbr hXr hMr hcell hM
            go_wp2_with fail
            refine (HO.out).mono ?_
            rintro e w5 ⟨C, rfl, hCl, hcu, hb5⟩
            have hX5 := HXR.out.below hb5 HXR.out.lt
            have hc5 := HCELL.out w5 hX5
            have hclt := hcu.lt
            have hM5 := (HMR.out.below hb5).more hCl
            have hI : Cu C 42 (w5.alloc (.cells #[.slice AM nM cM, .int .i64 0, .int .i64 0] 42)) w5.heap.size M 0 0 := by
              refine ⟨AM, cM, ?_, fun hp => ?_, by omega, Nat.zero_le _, by rw [← hM5.1]; exact hM5.2.1, by rw [← hM5.1]; omega⟩
              · rw [← hM5.1]; exact blk_new w5 42 #[.slice AM nM cM, .int .i64 0, .int .i64 0]
              · obtain ⟨b, off, e, hb, hc⟩ := hM5.2.2.1 hp
                exact ⟨b, off, e, hb, fun i u hu => Lib.cell?_alloc_some _ (hc i u hu)⟩
            have hC6 := hcu.alloc (.cells #[.slice AM nM cM, .int .i64 0, .int .i64 0] 42)
            have hDC : wD.heap.size ≤ C := Nat.le_trans HBR.out.size hCl
            have hbD5 : Below wD.heap.size wD w5 := HBR.out.trans (hb5.mono HBR.out.size)
            have hbD6 : Below wD.heap.size wD (w5.alloc (.cells #[.slice AM nM cM, .int .i64 0, .int .i64 0] 42)) := hbD5.alloc hbD5.size _
            obtain ⟨I, hIe⟩ : ∃ I, I = w5.heap.size := ⟨_, rfl⟩
            have hCI : C ≠ I := by omega
            rw [← hIe] at hI
            obtain ⟨w6, hw6⟩ : ∃ w6, w6 = w5.alloc (.cells #[.slice AM nM cM, .int .i64 0, .int .i64 0] 42) := ⟨_, rfl⟩
            rw [← hw6] at hI hC6 hbD6
            have HML := Lib.hid hM5.1
            have HC6 := Lib.hid hC6
            have HI6 := Lib.hid hI
            have HB6 := Lib.hid hbD6
            have HDC := Lib.hid (And.intro hDC (And.intro hCI hI.lo_le))
            have HW6 := Lib.hid hw6
            have e5 : w5.heap.size = I := hIe.symm
            clear hcu hb5 hX5 hclt hM5 hI hC6 hDC hbD5 hbD6 hw6 hIe HO HMR HXR HBR hCI
            go_wp2
            rw [← HW6.out]
            have hin := in_int (show Cu C 75 w6.drew C M 0 0 from HC6.out.heap rfl)
            have hrf := fun (W : World) (h : Cu C 42 W I M 0 0) => rint_any h
            rw [List.drop_zero, Pk.stp_ok] at hin hrf
            obtain ⟨q, hq⟩ : ∃ q, q = Pk.pInt M := ⟨_, rfl⟩
            rw [← hq] at hin hrf
            obtain ⟨v, hv⟩ : ∃ v, v = q.v := ⟨_, rfl⟩
            rw [← hv] at hin hrf
            obtain ⟨k2, hk2⟩ : ∃ k2, k2 = 0 + q.n := ⟨_, rfl⟩
            rw [← hk2] at hin hrf
            obtain ⟨qe, hqe⟩ : ∃ qe, qe = q.e := ⟨_, rfl⟩
            rw [← hqe] at hin hrf
            have hk2n : k2 ≤ nM := by
              have := Pk.int_len M
              rw [← hq] at this
              have := HML.out
              omega
            have HIN := Lib.hid hin
            have HRF := Lib.hid hrf
            obtain ⟨rr, hrr⟩ : ∃ rr, rr = nM - k2 := ⟨_, rfl⟩
            have hsub : (nM : Int) - (k2 : Int) = (rr : Int) := by omega
            have HRR := Lib.hid hrr
            have hrrb : rr ≤ 1000 := by omega
            have hrrw : IntKind.i64.wrap (rr : Int) = (rr : Int) := by rw [IntKind.wrap_i64]; omega
            have hk2b : k2 ≤ 1000 := by omega
            clear hin hrf hq hv hk2 hqe hrr hk2n
            refine wp_region_any (by kernel_rfl) ?_
            (try (change wpAny _ _ _ _ _ _ _ (World.drew _)))
            refine wpAny_take (i := 0) (v := ?_) rfl (by kernel_rfl) (by kernel_rfl) (by kernel_rfl) (fun _ _ _ h => h) (Or.inl ⟨by rfl, ?_⟩) ?_
            rotate_left
            · (intro w; go_simp; try (with_reducible rfl))
            try simp only [Act.put, List.getElem_toArray, List.getElem_cons_succ, List.getElem_cons_zero, List.setIfInBounds_toArray, List.set_cons_zero, List.set_cons_succ]
            refine wpAny_take (i := 2) (v := ?_) rfl (by kernel_rfl) (by kernel_rfl) (by kernel_rfl) (fun _ _ _ h => h) (Or.inl ⟨by rfl, ?_⟩) ?_
            rotate_left
            · (intro w; go_simp; try (with_reducible rfl))
            try simp only [Act.put, List.getElem_toArray, List.getElem_cons_succ, List.getElem_cons_zero, List.setIfInBounds_toArray, List.set_cons_zero, List.set_cons_succ]
            refine wpAny_ready (rs := [1]) (by kernel_rfl) (by simp) ?_
            refine AllReady.cons rfl (fun K hK => ?_) AllReady.nil
            go_simp
            go_wp2_with (go_at_call 27; ((with_reducible refine (HIN.out).mono ?_); rintro x w7 ⟨rfl, hcu, hg⟩; have H7 := Lib.hid (And.intro hcu (And.intro (HI6.out.other (grown_undrew hg) (Nat.le_refl C) HDC.out.2.1) (below_set HB6.out (grown_undrew hg) HDC.out.1 (Nat.le_refl _)))); clear hcu hg; unfold i64v))
            try (refine hK _ _ ?_; clear hK K)
            try simp only [Act.put, List.getElem_toArray, List.getElem_cons_succ, List.getElem_cons_zero, List.setIfInBounds_toArray, List.set_cons_zero, List.set_cons_succ]
            refine wpAny_ready (rs := [3]) (by kernel_rfl) (by simp) ?_
            refine AllReady.cons rfl (fun K hK => ?_) AllReady.nil
            go_simp
            go_wp2_with (go_at_call 37; ((with_reducible refine (HRF.out _ H7.out.2.1).mono ?_); rintro x w8 ⟨rfl, hcu, hg⟩; obtain ⟨Ax, cx, i0', i1', i2', _⟩ := hcu.all; have hl0 := HML.out; have H8 := Lib.hid (And.intro (H7.out.1.other hg HDC.out.2.2 (fun h => HDC.out.2.1 h.symm)) (below_set H7.out.2.2 hg (Nat.le_trans HDC.out.1 HDC.out.2.2) (Nat.le_refl _))); rw [← hl0] at i0'; clear hl0; have HLF := Lib.hid (numbers_left HML.out HRR.out H8.out.1); have HER := Lib.hid (in_err H8.out.1); clear hcu hg; unfold i64v))
            try (refine hK _ _ ?_; clear hK K)
            try simp only [Act.put, List.getElem_toArray, List.getElem_cons_succ, List.getElem_cons_zero, List.setIfInBounds_toArray, List.set_cons_zero, List.set_cons_succ]
            refine wpAny_take (i := 4) (v := ?_) rfl (by kernel_rfl) (by kernel_rfl) (by kernel_rfl) (fun _ _ _ h => h) (Or.inl ⟨by rfl, ?_⟩) ?_
            rotate_left
            · (intro w; go_simp; try (with_reducible rfl))
            try simp only [Act.put, List.getElem_toArray, List.getElem_cons_succ, List.getElem_cons_zero, List.setIfInBounds_toArray, List.set_cons_zero, List.set_cons_succ]
            refine wpAny_take (i := 5) (v := ?_) rfl (by kernel_rfl) (by kernel_rfl) (by kernel_rfl) (fun _ _ _ h => h) (Or.inl ⟨by rfl, ?_⟩) ?_
            rotate_left
            · (intro w; go_simp; try (with_reducible rfl))
            try simp only [Act.put, List.getElem_toArray, List.getElem_cons_succ, List.getElem_cons_zero, List.setIfInBounds_toArray, List.set_cons_zero, List.set_cons_succ]
            refine wpAny_take (i := 6) (v := ?_) rfl (by kernel_rfl) (by kernel_rfl) (by kernel_rfl) (fun _ _ _ h => h) (Or.inl ⟨by rfl, ?_⟩) ?_
            rotate_left
            · (intro w; go_simp; try (with_reducible rfl))
            try simp only [Act.put, List.getElem_toArray, List.getElem_cons_succ, List.getElem_cons_zero, List.setIfInBounds_toArray, List.set_cons_zero, List.set_cons_succ]
            have hcell8 : w8.cell? ⟨I, 0, none⟩ = some (.slice Ax nM cx) ∧ w8.cell? ⟨I, 1, none⟩ = some (.int .i64 (k2 : Int)) ∧ w8.cell? ⟨I, 2, none⟩ = some (.int .i64 qe) := ⟨i0', i1', i2'⟩
            refine wpAny_of_held (S := fun W => W.cell? ⟨I, 0, none⟩ = some (.slice Ax nM cx) ∧ W.cell? ⟨I, 1, none⟩ = some (.int .i64 (k2 : Int)) ∧ W.cell? ⟨I, 2, none⟩ = some (.int .i64 qe)) _ _ _ _ ?_
            refine wpAnyH_take (i := 8) (v := ?_) rfl (by kernel_rfl) (by kernel_rfl) (by kernel_rfl) (fun _ _ _ h => h) (Or.inl ⟨by rfl, ?_⟩) (by assumption) ?_
            rotate_left
            · (intro w hSw; (try dsimp only at hSw); obtain ⟨s0, s1, s2⟩ := hSw; go_simp; try (with_reducible rfl))
            try simp only [Act.put, List.getElem_toArray, List.getElem_cons_succ, List.getElem_cons_zero, List.setIfInBounds_toArray, List.set_cons_zero, List.set_cons_succ]
            refine wpAnyH_take (i := 9) (v := ?_) rfl (by kernel_rfl) (by kernel_rfl) (by kernel_rfl) (fun _ _ _ h => h) (Or.inl ⟨by rfl, ?_⟩) (by assumption) ?_
            rotate_left
            · (intro w hSw; (try dsimp only at hSw); obtain ⟨s0, s1, s2⟩ := hSw; go_simp; try (with_reducible rfl))
            try simp only [Act.put, List.getElem_toArray, List.getElem_cons_succ, List.getElem_cons_zero, List.setIfInBounds_toArray, List.set_cons_zero, List.set_cons_succ]
            refine wpAnyH_take (i := 10) (v := ?_) rfl (by kernel_rfl) (by kernel_rfl) (by kernel_rfl) (fun _ _ _ h => h) (Or.inl ⟨by rfl, ?_⟩) (by assumption) ?_
            rotate_left
            · (intro w hSw; (try dsimp only at hSw); obtain ⟨s0, s1, s2⟩ := hSw; go_simp; try (with_reducible rfl))
            try simp only [Act.put, List.getElem_toArray, List.getElem_cons_succ, List.getElem_cons_zero, List.setIfInBounds_toArray, List.set_cons_zero, List.set_cons_succ]
            refine wpAnyH_take (i := 11) (v := ?_) rfl (by kernel_rfl) (by kernel_rfl) (by kernel_rfl) (fun _ _ _ h => h) (Or.inl ⟨by rfl, ?_⟩) (by assumption) ?_
            rotate_left
            · (intro w hSw; (try dsimp only at hSw); obtain ⟨s0, s1, s2⟩ := hSw; go_simp; try (with_reducible rfl))
            try simp only [Act.put, List.getElem_toArray, List.getElem_cons_succ, List.getElem_cons_zero, List.setIfInBounds_toArray, List.set_cons_zero, List.set_cons_succ]
            refine wpAnyH_ready (rs := [7]) (by kernel_rfl) (by simp) ?_
            refine AllReadyH.cons rfl (fun K hK => ?_) AllReadyH.nil
            go_simp
            go_wp2_with (go_at_call 29; ((with_reducible refine (HER.out).mono ?_); rintro x w9 ⟨rfl, rfl⟩))
            refine hK.out _ _ (hcell8) (fun hHeld => ?_)
            clear hK K
            try simp only [Act.put, List.getElem_toArray, List.getElem_cons_succ, List.getElem_cons_zero, List.setIfInBounds_toArray, List.set_cons_zero, List.set_cons_succ]
            refine wpAnyH_take (i := 12) (v := ?_) rfl (by kernel_rfl) (by kernel_rfl) (by kernel_rfl) (fun _ _ _ h => h) (Or.inl ⟨by rfl, ?_⟩) (by assumption) ?_
            rotate_left
            · (intro w hSw; (try dsimp only at hSw); obtain ⟨s0, s1, s2⟩ := hSw; go_simp; try (with_reducible rfl))
            try simp only [Act.put, List.getElem_toArray, List.getElem_cons_succ, List.getElem_cons_zero, List.setIfInBounds_toArray, List.set_cons_zero, List.set_cons_succ]
            refine wpAnyH_take (i := 13) (v := ?_) rfl (by kernel_rfl) (by kernel_rfl) (by kernel_rfl) (fun _ _ _ h => h) (Or.inl ⟨by rfl, ?_⟩) (by assumption) ?_
            rotate_left
            · (intro w hSw; (try dsimp only at hSw); obtain ⟨s0, s1, s2⟩ := hSw; go_simp; try (with_reducible rfl))
            try simp only [Act.put, List.getElem_toArray, List.getElem_cons_succ, List.getElem_cons_zero, List.setIfInBounds_toArray, List.set_cons_zero, List.set_cons_succ]
            refine wpAnyH_take (i := 14) (v := ?_) rfl (by kernel_rfl) (by kernel_rfl) (by kernel_rfl) (fun _ _ _ h => h) (Or.inl ⟨by rfl, ?_⟩) (by assumption) ?_
            rotate_left
            · (intro w hSw; (try dsimp only at hSw); obtain ⟨s0, s1, s2⟩ := hSw; go_simp; try (with_reducible rfl))
            try simp only [Act.put, List.getElem_toArray, List.getElem_cons_succ, List.getElem_cons_zero, List.setIfInBounds_toArray, List.set_cons_zero, List.set_cons_succ]
            refine wpAnyH_take (i := 15) (v := ?_) rfl (by kernel_rfl) (by kernel_rfl) (by kernel_rfl) (fun _ _ _ h => h) (Or.inl ⟨by rfl, ?_⟩) (by assumption) ?_
            rotate_left
            · (intro w hSw; (try dsimp only at hSw); obtain ⟨s0, s1, s2⟩ := hSw; go_simp; try (with_reducible rfl))
            try simp only [Act.put, List.getElem_toArray, List.getElem_cons_succ, List.getElem_cons_zero, List.setIfInBounds_toArray, List.set_cons_zero, List.set_cons_succ]
            refine wpAnyH_take (i := 17) (v := ?_) rfl (by kernel_rfl) (by kernel_rfl) (by kernel_rfl) (fun _ _ _ h => h) (Or.inl ⟨by rfl, ?_⟩) (by assumption) ?_
            rotate_left
            · (intro w hSw; (try dsimp only at hSw); obtain ⟨s0, s1, s2⟩ := hSw; go_simp; try (with_reducible rfl))
            try simp only [Act.put, List.getElem_toArray, List.getElem_cons_succ, List.getElem_cons_zero, List.setIfInBounds_toArray, List.set_cons_zero, List.set_cons_succ]
            refine wpAnyH_take (i := 18) (v := ?_) rfl (by kernel_rfl) (by kernel_rfl) (by kernel_rfl) (fun _ _ _ h => h) (Or.inl ⟨by rfl, ?_⟩) (by assumption) ?_
            rotate_left
            · (intro w hSw; (try dsimp only at hSw); obtain ⟨s0, s1, s2⟩ := hSw; go_simp; try (with_reducible rfl))
            try simp only [Act.put, List.getElem_toArray, List.getElem_cons_succ, List.getElem_cons_zero, List.setIfInBounds_toArray, List.set_cons_zero, List.set_cons_succ]
            refine wpAnyH_take (i := 19) (v := ?_) rfl (by kernel_rfl) (by kernel_rfl) (by kernel_rfl) (fun _ _ _ h => h) (Or.inl ⟨by rfl, ?_⟩) (by assumption) ?_
            rotate_left
            · (intro w hSw; (try dsimp only at hSw); obtain ⟨s0, s1, s2⟩ := hSw; go_simp; try (with_reducible rfl))
            try simp only [Act.put, List.getElem_toArray, List.getElem_cons_succ, List.getElem_cons_zero, List.setIfInBounds_toArray, List.set_cons_zero, List.set_cons_succ]
            refine wpAnyH_take (i := 20) (v := ?_) rfl (by kernel_rfl) (by kernel_rfl) (by kernel_rfl) (fun _ _ _ h => h) (Or.inl ⟨by rfl, ?_⟩) (by assumption) ?_
            rotate_left
            · (intro w hSw; (try dsimp only at hSw); obtain ⟨s0, s1, s2⟩ := hSw; go_simp; try (with_reducible rfl))
            try simp only [Act.put, List.getElem_toArray, List.getElem_cons_succ, List.getElem_cons_zero, List.setIfInBounds_toArray, List.set_cons_zero, List.set_cons_succ]
            refine wpAnyH_take (i := 21) (v := ?_) rfl (by kernel_rfl) (by kernel_rfl) (by kernel_rfl) (fun _ _ _ h => h) (Or.inl ⟨by rfl, ?_⟩) (by assumption) ?_
            rotate_left
            · (intro w hSw; (try dsimp only at hSw); obtain ⟨s0, s1, s2⟩ := hSw; go_simp; try (with_reducible rfl))
            try simp only [Act.put, List.getElem_toArray, List.getElem_cons_succ, List.getElem_cons_zero, List.setIfInBounds_toArray, List.set_cons_zero, List.set_cons_succ]
            refine wpAnyH_take (i := 22) (v := ?_) rfl (by kernel_rfl) (by kernel_rfl) (by kernel_rfl) (fun _ _ _ h => h) (Or.inl ⟨by rfl, ?_⟩) (by assumption) ?_
            rotate_left
            · (intro w hSw; (try dsimp only at hSw); obtain ⟨s0, s1, s2⟩ := hSw; go_simp; try (with_reducible rfl))
            try simp only [Act.put, List.getElem_toArray, List.getElem_cons_succ, List.getElem_cons_zero, List.setIfInBounds_toArray, List.set_cons_zero, List.set_cons_succ]
            refine wpAnyH_take (i := 23) (v := ?_) rfl (by kernel_rfl) (by kernel_rfl) (by kernel_rfl) (fun _ _ _ h => h) (Or.inl ⟨by rfl, ?_⟩) (by assumption) ?_
            rotate_left
            · (intro w hSw; (try dsimp only at hSw); obtain ⟨s0, s1, s2⟩ := hSw; go_simp; try (with_reducible rfl))
            try simp only [Act.put, List.getElem_toArray, List.getElem_cons_succ, List.getElem_cons_zero, List.setIfInBounds_toArray, List.set_cons_zero, List.set_cons_succ]
            refine wpAnyH_take (i := 24) (v := ?_) rfl (by kernel_rfl) (by kernel_rfl) (by kernel_rfl) (fun _ _ _ h => h) (Or.inl ⟨by rfl, ?_⟩) (by assumption) ?_
            rotate_left
            · (intro w hSw; (try dsimp only at hSw); obtain ⟨s0, s1, s2⟩ := hSw; go_simp; try (with_reducible rfl))
            try simp only [Act.put, List.getElem_toArray, List.getElem_cons_succ, List.getElem_cons_zero, List.setIfInBounds_toArray, List.set_cons_zero, List.set_cons_succ]
            refine wpAnyH_take (i := 25) (v := ?_) rfl (by kernel_rfl) (by kernel_rfl) (by kernel_rfl) (fun _ _ _ h => h) (Or.inl ⟨by rfl, ?_⟩) (by assumption) ?_
            rotate_left
            · (intro w hSw; (try dsimp only at hSw); obtain ⟨s0, s1, s2⟩ := hSw; go_simp; try (with_reducible rfl))
            try simp only [Act.put, List.getElem_toArray, List.getElem_cons_succ, List.getElem_cons_zero, List.setIfInBounds_toArray, List.set_cons_zero, List.set_cons_succ]
            refine wpAnyH_take (i := 26) (v := ?_) rfl (by kernel_rfl) (by kernel_rfl) (by kernel_rfl) (fun _ _ _ h => h) (Or.inl ⟨by rfl, ?_⟩) (by assumption) ?_
            rotate_left
            · (intro w hSw; (try dsimp only at hSw); obtain ⟨s0, s1, s2⟩ := hSw; go_simp; try (with_reducible rfl))
            try simp only [Act.put, List.getElem_toArray, List.getElem_cons_succ, List.getElem_cons_zero, List.setIfInBounds_toArray, List.set_cons_zero, List.set_cons_succ]
            refine wpAnyH_ready (rs := [16]) (by kernel_rfl) (by simp) ?_
            refine AllReadyH.cons rfl (fun K hK => ?_) AllReadyH.nil
            go_simp
            go_wp2_with (go_at_call 28; ((with_reducible refine (HLF.out).mono ?_); rintro x w9 ⟨rfl, nn, rfl⟩))
            refine hK.out _ _ (hcell8) (fun hHeld => ?_)
            clear hK K
            try simp only [Act.put, List.getElem_toArray, List.getElem_cons_succ, List.getElem_cons_zero, List.setIfInBounds_toArray, List.set_cons_zero, List.set_cons_succ]
            refine wpAnyH_take (i := 27) (v := ?_) rfl (by kernel_rfl) (by kernel_rfl) (by kernel_rfl) (fun _ _ _ h => h) (Or.inl ⟨by rfl, ?_⟩) (by assumption) ?_
            rotate_left
            · (intro w hSw; (try dsimp only at hSw); obtain ⟨s0, s1, s2⟩ := hSw; go_simp; try (with_reducible rfl))
            try simp only [Act.put, List.getElem_toArray, List.getElem_cons_succ, List.getElem_cons_zero, List.setIfInBounds_toArray, List.set_cons_zero, List.set_cons_succ]
            refine wpAnyH_take (i := 28) (v := ?_) rfl (by kernel_rfl) (by kernel_rfl) (by kernel_rfl) (fun _ _ _ h => h) (Or.inl ⟨by rfl, ?_⟩) (by assumption) ?_
            rotate_left
            · (intro w hSw; (try dsimp only at hSw); obtain ⟨s0, s1, s2⟩ := hSw; go_simp; try (with_reducible rfl))
            try simp only [Act.put, List.getElem_toArray, List.getElem_cons_succ, List.getElem_cons_zero, List.setIfInBounds_toArray, List.set_cons_zero, List.set_cons_succ]
            refine wpAnyH_done (by kernel_rfl) ?_ _
            all_goals
              have HFN := Lib.hid (below_to_drewN' H8.out.2 nn)
              clear HLF HER H8 H7 HIN HRF HB6 HI6 HC6
              go_wp2
              go_roundw
              case rel => exact ⟨j + 1, by go_num, by omega, HFN.out⟩
              case measure => simp [intOf]; omega
          · have hj : j = 2 := by omega
            subst hj
            have HFB := Lib.hid (HBD.out.trans (hbr.mono (by have := HBD.out.size; have := HBS.out; omega)))
            clear hbr
            go_wp2_with fail
            refine (plives_any _).mono ?_
            rintro e w9 ⟨rfl, hb9⟩
            have hfin : Below B w w9 := HFB.out.trans (hb9.mono (by have := HFB.out.size; have := HBS.out; omega))
            clear hb9
            go_wp2
            go_ret
            exact ⟨rfl, hfin⟩

end Go.Proofs.Ytjpdlnemkhofmaa
