/-
  Package sketch's fit: whether two lists fit at all points. What was there is left as it was.
-/
import Derived.Test.YtcbcmnbfflaicaaSki
import Derived.Deep.RegionHeld3
namespace Go.Proofs.Ytcbcmnbfflaicaa
open Go.RowKit
open Sk (pt Fit)

theorem mul_to {a b x y : Nat} : Fld.mul a x = Fld.mul b y ↔ Fld.to a * Fld.to x = Fld.to b * Fld.to y := by
  rw [← Fld.to_mulF, ← Fld.to_mulF]
  exact ⟨fun h => by rw [h], fun h => Fld.to_inj (Fld.mul_lt _ _) (Fld.mul_lt _ _) h⟩
/-- At all points each one's value times the other one's list's is the same. -/
def Vals (a b p q : List Nat) (n : Nat) : Prop := ∀ k, k < n → Fld.mul (a[k]?.getD 0) (sv q (pt k)) = Fld.mul (b[k]?.getD 0) (sv p (pt k))
theorem vals_iff {a b p q : List Nat} {n : Nat} : Vals a b p q n ↔ ∀ k, k < n → Pl.co a k * Pl.val (Pl.prodR q) (Fld.to (pt k)) = Pl.co b k * Pl.val (Pl.prodR p) (Fld.to (pt k)) := by
  unfold Vals
  constructor
  · intro h k hk
    have := mul_to.1 (h k hk)
    rw [sv, sv, to_vl, to_vl] at this
    exact this
  · intro h k hk
    refine mul_to.2 ?_
    rw [sv, sv, to_vl, to_vl]
    exact h k hk

set_option maxRecDepth 100000 in
set_option maxHeartbeats 4000000 in
theorem fit_any (na nb n c n' c' np cp nq cq : Nat) (A A' P Q : Option Addr) (a b p q : List Nat) (w : World) (hA : Pt w A n c a) (hA' : Pt w A' n' c' b) (hnn : n' = n) (ha : Pl.Sm a) (hb : Pl.Sm b) (hn : n ≤ 1000) (hP : Pt w P np cp p) (hQ : Pt w Q nq cq q) (hp : ∀ y ∈ p, y < 18446744073709551616) (hq : ∀ y ∈ q, y < 18446744073709551616) (hnp : np ≤ 1000) (hnq : nq ≤ 1000) :
    Calls Try.prog 35 #[skv na A n c, skv nb A' n' c', .slice P np cp, .slice Q nq cq] w fun e w' => ((e = .returned (.bool true) ∧ Vals a b p q n) ∨ (e = .returned (.bool false) ∧ ¬ Vals a b p q n)) ∧ Below w.heap.size w w' := by
  subst hnn
  unfold skv
  obtain ⟨w2, hw2⟩ : ∃ w2, w2 = ((w.alloc (.cells #[.int .i64 (na : Int), .slice A n' c] 29)).alloc (.cells #[.int .i64 (nb : Int), .slice A' n' c'] 29)) := ⟨_, rfl⟩
  have hk1 := (blk_new w 29 #[.int .i64 (na : Int), .slice A n' c])
  have hk2 := (blk_new (w.alloc (.cells #[.int .i64 (na : Int), .slice A n' c] 29)) 29 #[.int .i64 (nb : Int), .slice A' n' c'])
  rw [World.size_alloc] at hk2
  have hk3 := blk_alloc hk1 (.cells #[.int .i64 (nb : Int), .slice A' n' c'] 29)
  have hb0 : Below w.heap.size w ((w.alloc (.cells #[.int .i64 (na : Int), .slice A n' c] 29)).alloc (.cells #[.int .i64 (nb : Int), .slice A' n' c'] 29)) := ((Below.refl _ w).alloc (Nat.le_refl _) _).alloc (by simp) _
  have c1 : ((w.alloc (.cells #[.int .i64 (na : Int), .slice A n' c] 29)).alloc (.cells #[.int .i64 (nb : Int), .slice A' n' c'] 29)).cell? ⟨w.heap.size, 1, none⟩ = some (.slice A n' c) := hk3.cell 1
  rw [← hw2] at hk2 hk3 hb0
  have g1 : w2.cell? ⟨w.heap.size, 1, none⟩ = some (.slice A n' c) := hk3.cell 1
  have g2 : w2.cell? ⟨w.heap.size + 1, 1, none⟩ = some (.slice A' n' c') := hk2.cell 1
  have HA := Lib.hid (hA.below hb0)
  have HA' := Lib.hid (hA'.below hb0)
  have HP := Lib.hid (hP.below hb0)
  have HQ := Lib.hid (hQ.below hb0)
  have HSA := Lib.hid ha
  have HSB := Lib.hid hb
  have HPB := Lib.hid hp
  have HQB := Lib.hid hq
  have HB0 := Lib.hid hb0
  have HW2 := Lib.hid hw2
  clear hA hA' hP hQ ha hb hp hq hk1 hk2 hk3 hb0 hw2
  have G1 := Lib.hid g1
  have G2 := Lib.hid g2
  clear g1 g2
  go_enter Try.func35, Try.ntmps35
  go_wp2
  rw [← HW2.out]
  clear c1
  go_loopw [14] (fun i wr => ∃ (k m : Nat), k ≤ n' ∧ i = .int .i64 (k : Int) ∧ Vals a b p q k ∧ wr = w2.drewN m) (fun i _ => n' - (intOf i).toNat)
  case atStart => exact ⟨0, 0, Nat.zero_le _, rfl, fun k hk => by omega, rfl⟩
  case round =>
    obtain ⟨k, m, hk, rfl, hvs, hwr⟩ := hrel
    have HVS := Lib.hid hvs
    clear hvs
    have HWR := Lib.hid hwr
    by_cases hlt : k < n'
    · have g1 : wr.cell? ⟨w.heap.size, 1, none⟩ = some (.slice A n' c) := hwr ▸ G1.out
      have g2 : wr.cell? ⟨w.heap.size + 1, 1, none⟩ = some (.slice A' n' c') := hwr ▸ G2.out
      have hPa : Pt wr A n' c a := hwr ▸ HA.out
      have hPb : Pt wr A' n' c' b := hwr ▸ HA'.out
      have hPp0 : Pt wr P np cp p := hwr ▸ HP.out
      have hPq0 : Pt wr Q nq cq q := hwr ▸ HQ.out
      obtain ⟨oa, fa, rfl, hoa, hca⟩ := hPa.at_ hlt
      obtain ⟨ob, fb, rfl, hob, hcb⟩ := hPb.at_ hlt
      have hal := HSA.out.get k
      have hbl := HSB.out.get k
      have hx : (pt k) < 18446744073709551616 := by unfold pt; omega
      obtain ⟨x, hxe⟩ : ∃ x, x = pt k := ⟨_, rfl⟩
      have hpt := point_any k (by omega) wr
      rw [← hxe] at hpt hx
      have hvq : Calls Try.prog 27 #[.slice Q nq cq, .int .u64 (x : Int)] wr.drew fun e w' => e = .returned (.int .u64 ((sv q x : Nat) : Int)) ∧ wr.drew = w' := value_any q Q nq cq x _ hPq0 (by omega) HQB.out hx
      have hvp : Calls Try.prog 27 #[.slice P np cp, .int .u64 (x : Int)] wr.drew fun e w' => e = .returned (.int .u64 ((sv p x : Nat) : Int)) ∧ wr.drew = w' := value_any p P np cp x _ hPp0 (by omega) HPB.out hx
      obtain ⟨ak, hak⟩ : ∃ ak, ak = a[k]?.getD 0 := ⟨_, rfl⟩
      obtain ⟨bk, hbk⟩ : ∃ bk, bk = b[k]?.getD 0 := ⟨_, rfl⟩
      obtain ⟨vq, hvqe⟩ : ∃ vq, vq = sv q x := ⟨_, rfl⟩
      obtain ⟨vp, hvpe⟩ : ∃ vp, vp = sv p x := ⟨_, rfl⟩
      have hvql : vq < 2305843009213693951 := by rw [hvqe]; exact sv_lt _ _
      have hvpl : vp < 2305843009213693951 := by rw [hvpe]; exact sv_lt _ _
      rw [← hak] at hca hal
      rw [← hbk] at hcb hbl
      simp only [← hvqe, ← hvpe] at hvq hvp
      obtain ⟨ma, hma⟩ : ∃ ma, ma = Fld.mul ak vq := ⟨_, rfl⟩
      obtain ⟨mb, hmb⟩ : ∃ mb, mb = Fld.mul bk vp := ⟨_, rfl⟩
      have h1 : ∀ W : World, Calls Try.prog 24 #[.int .u64 (ak : Int), .int .u64 (vq : Int)] W fun e w' => e = .returned (.int .u64 (ma : Int)) ∧ W = w' := fun W => by
        rw [hma]; exact mul_any ak vq W (by omega) (by omega)
      have h2 : ∀ W : World, Calls Try.prog 24 #[.int .u64 (bk : Int), .int .u64 (vp : Int)] W fun e w' => e = .returned (.int .u64 (mb : Int)) ∧ W = w' := fun W => by
        rw [hmb]; exact mul_any bk vp W (by omega) (by omega)
      have q0 : (0 : Int) ≤ (k : Int) := by omega
      have q1 : (k : Int) < (n' : Int) := by omega
      have hnext : Fld.mul (a[k]?.getD 0) (sv q (pt k)) = ma ∧ Fld.mul (b[k]?.getD 0) (sv p (pt k)) = mb := ⟨by rw [← hak, ← hxe, ← hvqe, hma], by rw [← hbk, ← hxe, ← hvpe, hmb]⟩
      have HN := Lib.hid hnext
      have H1 := Lib.hid h1
      have H2 := Lib.hid h2
      have HVQ := Lib.hid hvq
      have HVP := Lib.hid hvp
      have HPT := Lib.hid hpt
      clear hnext h1 h2 hvq hvp hpt hak hbk hvqe hvpe hma hmb hxe hPa hPb hPp0 hPq0 hwr
      go_wp2_with fail
      refine HPT.out.mono ?_
      rintro e w3 ⟨rfl, rfl⟩
      by_cases he : ma = mb
      · subst he
        go_wp2
        have k0 := And.intro g1 (And.intro hca (And.intro g2 hcb))
        have k1 : wr.drew.cell? ⟨w.heap.size, 1, none⟩ = some (.slice (some ⟨oa, fa, none⟩) n' c) ∧ wr.drew.cell? ⟨oa, fa + k, none⟩ = some (.int .u64 (ak : Int)) ∧ wr.drew.cell? ⟨w.heap.size + 1, 1, none⟩ = some (.slice (some ⟨ob, fb, none⟩) n' c') ∧ wr.drew.cell? ⟨ob, fb + k, none⟩ = some (.int .u64 (bk : Int)) := k0
        go_region_held3 (fun w' : World => w'.cell? ⟨w.heap.size, 1, none⟩ = some (.slice (some ⟨oa, fa, none⟩) n' c) ∧ w'.cell? ⟨oa, fa + k, none⟩ = some (.int .u64 (ak : Int)) ∧ w'.cell? ⟨w.heap.size + 1, 1, none⟩ = some (.slice (some ⟨ob, fb, none⟩) n' c') ∧ w'.cell? ⟨ob, fb + k, none⟩ = some (.int .u64 (bk : Int)))
          ((first | with_reducible exact k1 | with_reducible exact k0))
          (first
            | (with_reducible refine (HVQ.out).mono ?_; rintro e w3 ⟨rfl, rfl⟩)
            | (with_reducible refine (HVP.out).mono ?_; rintro e w3 ⟨rfl, rfl⟩)
            | (with_reducible refine (H1.out _).mono ?_; rintro e w3 ⟨rfl, rfl⟩)
            | (with_reducible refine (H2.out _).mono ?_; rintro e w3 ⟨rfl, rfl⟩))
        all_goals go_wp2
        have hwr2 : wr.drew = w2.drewN (m + 1) := by rw [HWR.out]; rfl
        have HWR2 := Lib.hid hwr2
        clear hwr2
        go_roundw
        case rel =>
          refine ⟨k + 1, _, hlt, by go_num, fun i hi => ?_, HWR2.out⟩
          by_cases e : i = k
          · rw [e, HN.out.1, HN.out.2]
          · exact HVS.out i (by omega)
        case measure => simp [intOf]; omega
      · have hne : ((ma : Int) == (mb : Int)) = false := by rw [beq_eq_false_iff_ne]; omega
        have hne2 : ¬ (ma : Int) = (mb : Int) := by omega
        have HE := Lib.hid he
        clear he
        go_wp2
        have k0 := And.intro g1 (And.intro hca (And.intro g2 hcb))
        have k1 : wr.drew.cell? ⟨w.heap.size, 1, none⟩ = some (.slice (some ⟨oa, fa, none⟩) n' c) ∧ wr.drew.cell? ⟨oa, fa + k, none⟩ = some (.int .u64 (ak : Int)) ∧ wr.drew.cell? ⟨w.heap.size + 1, 1, none⟩ = some (.slice (some ⟨ob, fb, none⟩) n' c') ∧ wr.drew.cell? ⟨ob, fb + k, none⟩ = some (.int .u64 (bk : Int)) := k0
        go_region_held3 (fun w' : World => w'.cell? ⟨w.heap.size, 1, none⟩ = some (.slice (some ⟨oa, fa, none⟩) n' c) ∧ w'.cell? ⟨oa, fa + k, none⟩ = some (.int .u64 (ak : Int)) ∧ w'.cell? ⟨w.heap.size + 1, 1, none⟩ = some (.slice (some ⟨ob, fb, none⟩) n' c') ∧ w'.cell? ⟨ob, fb + k, none⟩ = some (.int .u64 (bk : Int)))
          ((first | with_reducible exact k1 | with_reducible exact k0))
          (first
            | (with_reducible refine (HVQ.out).mono ?_; rintro e w3 ⟨rfl, rfl⟩)
            | (with_reducible refine (HVP.out).mono ?_; rintro e w3 ⟨rfl, rfl⟩)
            | (with_reducible refine (H1.out _).mono ?_; rintro e w3 ⟨rfl, rfl⟩)
            | (with_reducible refine (H2.out _).mono ?_; rintro e w3 ⟨rfl, rfl⟩))
        all_goals go_wp2
        go_ret
        refine ⟨.inr ⟨rfl, fun h => HE.out ?_⟩, ?_⟩
        · have h3 := h k hlt
          rw [HN.out.1, HN.out.2] at h3
          exact h3
        · rw [HWR.out]
          exact below_to_drew (below_drewN HB0.out _)
    · have e : k = n' := by omega
      subst e
      have hfin : Below w.heap.size w wr := by rw [hwr]; exact below_drewN HB0.out m
      have HF := Lib.hid hfin
      clear hwr hfin
      go_wp2
      go_ret
      exact ⟨.inl ⟨rfl, HVS.out⟩, HF.out⟩
end Go.Proofs.Ytcbcmnbfflaicaa
