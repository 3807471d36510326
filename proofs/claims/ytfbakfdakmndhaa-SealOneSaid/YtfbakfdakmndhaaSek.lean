/-
  SealOne: the walk, over natural numbers and lists of bytes. No condition.
-/
import Derived.Test.YtfbakfdakmndhaaSej
import Derived.Deep.RegionHeld3
namespace Go.Proofs.Ytfbakfdakmndhaa
open Go.RowKit

theorem seal_o {w : World} {A A' : Option Addr} {n c n' c' : Nat} {a t : List UInt8} (k : Nat) (hA : Bt w A n c a) (hA' : Bt w A' n' c' t) (hk : k < 18446744073709551616) (hb : n ≤ 1000) (hb' : n' ≤ 1000) :
    Calls Try.prog 12 #[.int .u64 k, .slice A n c, .slice A' n' c'] w fun e w' => (∃ g m c', e = .returned (.slice (some ⟨g, 0, none⟩) m c') ∧ w'.ownsRow w.heap.size 5 1 (.slice (some ⟨g, 0, none⟩) m c') m (u8s (Sl.put k a t)) ∧ m = n' + 8) ∧ Below w.heap.size w w' :=
  (seal_any a t A A' n c n' c' k w hk hA hA' (by omega) (by omega)).mono fun _ _ ⟨⟨g, c', h1, h2⟩, h3⟩ => ⟨⟨g, _, c', h1, h2, rfl⟩, h3⟩

/-- What Open told, and what it is sealed to again. -/
theorem opn_again (k : Nat) (a b : List UInt8) : ∃ s q, Sl.opn k a b = (s, q) ∧ ((q = 0 ∧ Sl.put k a s = b) ∨ (q ≠ 0 ∧ s = [])) := by
  refine ⟨(Sl.opn k a b).1, (Sl.opn k a b).2, rfl, ?_⟩
  rcases Sl.opn_err k a b with h | h
  · exact .inl ⟨h, Sl.seal_opn k a b h⟩
  · exact .inr h

set_option maxRecDepth 100000 in
set_option maxHeartbeats 4000000 in
theorem one_walk (k : Nat) (A R T : Option Addr) (n c n' c' n'' c'' : Nat) (at_ : Int) (cc : Nat) (a r t : List UInt8) (w : World) (hk : k < 18446744073709551616) (ha1 : -9223372036854775808 ≤ at_) (ha2 : at_ ≤ 9223372036854775807) (hcc : cc < 256) (hA : Bt w A n c a) (hR : Bt w R n' c' r) (hT : Bt w T n'' c'' t) :
    Calls Try.prog 5 #[.int .u64 k, .slice A n c, .slice R n' c', .slice T n'' c'', .int .i64 at_, .int .u8 cc] w fun e w' => e = .returned (.bool true) ∧ Below w.heap.size w w' := by
  have k0 : Below w.heap.size w w := Below.refl _ _
  have A0 := Lib.hid hA
  have T0 := Lib.hid hT
  have R0 := Lib.hid hR
  clear hA hT hR
  go_enter Try.func5, Try.ntmps5
  go_wp2_with fail
  refine (few_v (A0.out) 20 (by omega)).mono ?_
  rintro e w1 ⟨⟨A1, n1, c1, rfl, h, hm1⟩, hb1⟩
  have k1 := kept_trans k0 hb1
  have T1 := Lib.hid (T0.out.below hb1)
  have R1 := Lib.hid (R0.out.below hb1)
  have B1 := Lib.hid h
  clear hb1 k0 A0 T0 R0 h
  go_wp2_with fail
  refine (few_v (T1.out) 20 (by omega)).mono ?_
  rintro e w2 ⟨⟨A2, n2, c2, rfl, h, hm2⟩, hb2⟩
  have k2 := kept_trans k1 hb2
  have R2 := Lib.hid (R1.out.below hb2)
  have B2 := Lib.hid (B1.out.below hb2)
  have U2 := Lib.hid h
  clear hb2 k1 T1 R1 B1 h
  have hs2 := hm2
  go_wp2_with fail
  refine (seal_o k B2.out U2.out hk (by omega) (by omega)).mono ?_
  rintro e w3 ⟨⟨g3, n3, c3, rfl, hown3, hm3⟩, hb3⟩
  have HO3 := Lib.hid hown3
  have hn3b : n3 ≤ 28 := by omega
  have hn38 : 8 ≤ n3 := by omega
  have hs8 : ¬ ((n3 : Int) < 8) := by omega
  have HM3 := Lib.hid hm3
  clear hown3 hm3 hs2
  go_wp2_with fail
  refine (around_v at_ n3 _ ha1 ha2 (by omega) (by omega)).mono ?_
  rintro e w4 ⟨⟨j, hj, rfl⟩, hb4⟩
  have hown4 := own_below HO3.out hb4
  have hk4 : Below w2.heap.size w2 w4 := kept_trans hb3 hb4
  have hjl : j < (Sl.put k (a.take 20) (t.take 20)).length := by have := hown4.1; rw [u8s_len] at this; omega
  have hcell0 := own_cell hown4 j hjl
  obtain ⟨o, hcell⟩ : ∃ o : Nat, w4.cell? ⟨g3, j, none⟩ = some (.int .u8 (o : Int)) := ⟨_, hcell0⟩
  have hfr := hown4.frozenAt j
  have hset := own_set hown4 j cc hcc
  have hks : Below w2.heap.size w2 (w4.setCell ⟨g3, j, none⟩ (.int .u8 (cc : Int))) := hk4.trans (below_only hset.2 (hown4.lt _ rfl).1 hk4.size)
  have HC := Lib.hid (Bt.of_own hset.1)
  have HKS := Lib.hid hks
  have q0 : (0 : Int) ≤ (j : Int) := by omega
  have q1 : (j : Int) < (n3 : Int) := by omega
  clear hb3 hb4 hown4 hk4 hcell0 hset hks HO3
  go_wp2_with fail
  clear hcell hfr q0 q1
  refine (few_v (R2.out.below HKS.out) 30 (by omega)).mono ?_
  rintro e w5 ⟨⟨A5, n5, c5, rfl, hP, hm5⟩, hb5⟩
  have k5 : Below w2.heap.size w2 w5 := HKS.out.trans (hb5.mono HKS.out.size)
  have hB := (B2.out.below k5)
  have hS := (HC.out.below hb5)
  have hX := blk_new w5 23 #[.slice A5 n5 c5, .slice (some ⟨g3, 0, none⟩) n3 c3]
  have kx : Below w.heap.size w (w5.alloc (.cells #[.slice A5 n5 c5, .slice (some ⟨g3, 0, none⟩) n3 c3] 23)) := kept_trans (kept_trans k2 k5) ((Below.refl _ _).alloc (Nat.le_refl _) _)
  have hB := hB.new (.cells #[.slice A5 n5 c5, .slice (some ⟨g3, 0, none⟩) n3 c3] 23)
  have hS := hS.new (.cells #[.slice A5 n5 c5, .slice (some ⟨g3, 0, none⟩) n3 c3] 23)
  have hP := hP.new (.cells #[.slice A5 n5 c5, .slice (some ⟨g3, 0, none⟩) n3 c3] 23)
  obtain ⟨wx, hwx⟩ : ∃ wx, wx = w5.alloc (.cells #[.slice A5 n5 c5, .slice (some ⟨g3, 0, none⟩) n3 c3] 23) := ⟨_, rfl⟩
  have HWX := Lib.hid hwx
  clear hwx hb5 k5 HC HKS B2 U2 R2 k2
  go_wp2
  rw [← HWX.out] at hX kx hB hS hP ⊢
  obtain ⟨X, hXe⟩ : ∃ X, X = w5.heap.size := ⟨_, rfl⟩
  rw [← hXe] at hX ⊢
  have HX := Lib.hid hX
  have HB := Lib.hid hB
  have HS := Lib.hid hS
  have HP := Lib.hid hP
  have HK := Lib.hid kx
  clear hX hB hS hP kx hXe HWX
  go_loopw [16] (fun i wr => ∃ j : Nat, j ≤ 2 ∧ i = .int .i64 (j : Int) ∧ Below wx.heap.size wx wr) (fun i _ => 2 - (intOf i).toNat)
  case atStart => exact ⟨0, by omega, rfl, Below.refl _ _⟩
  case round =>
    obtain ⟨i, hi, rfl, hbr⟩ := hrel
    have hi4 : i = 0 ∨ i = 1 ∨ i = 2 := by omega
    rcases hi4 with rfl | rfl | rfl
    · have hcell := (HX.out.below hbr HX.out.lt).cell 0
      obtain ⟨s, q, hop, hor⟩ := opn_again k (a.take 20) (r.take 30)
      have HOP := Lib.hid hop
      have HOR := Lib.hid hor
      clear hop hor hi
      go_wp2_with fail
      refine (open_v k (HB.out.below hbr) (HP.out.below hbr) HOP.out hk (by omega) (by omega)).mono ?_
      rintro e wa ⟨⟨Aa, na, ca, rfl, ha⟩, hba⟩
      have hka : Below wx.heap.size wx wa := kept_trans hbr hba
      have hX2 := (HX.out.below hka HX.out.lt)
      clear hcell
      have hcell := hX2.cell 0
      have HAA := Lib.hid ha
      clear hba hbr ha hX2
      rcases HOR.out with ⟨e1, e2⟩ | ⟨e1, e2⟩
      · subst e1
        have hna : na ≤ 28 + 12 := by have h1 := HAA.out.len; have h2 := congrArg List.length e2; rw [Sl.seal_len] at h2; have h3 := HP.out.len; omega
        have HE2 := Lib.hid e2
        clear e2
        have d0 : wa.cell? ⟨X, 0, none⟩ = some (.slice A5 n5 c5) := hcell
        have d1 : wa.drew.cell? ⟨X, 0, none⟩ = some (.slice A5 n5 c5) := hcell
        have hXs : X < wa.heap.size := by have := HX.out.lt; have := hka.size; omega
        have HSE := Lib.hid (fun W (h : Below wa.heap.size wa W) => seal_v k (HB.out.below (kept_trans hka h)) (HAA.out.below h) hk (by omega) (by omega))
        have HSM := Lib.hid (fun W g m c (h : Below wa.heap.size wa W) (hb : Bt W (some ⟨g, 0, none⟩) m c (Sl.put k (a.take 20) s)) (hm : m = na + 8) => same_v hb (HP.out.below (kept_trans hka h)) true (decide_eq_true HE2.out) (by omega) (by omega))
        have hd : Below wa.heap.size wa wa.drew := below_to_drew (Below.refl _ _)
        clear hcell
        go_wp2_with fail
        go_region_held3 (fun w' : World => w'.cell? ⟨X, 0, none⟩ = some (.slice A5 n5 c5))
          ((first | with_reducible exact d0 | with_reducible exact d1 | with_reducible exact d2 | with_reducible exact d3))
          (first
            | (go_at_call 12; have z := HSE.out wa.drew hd; (with_reducible refine z.mono ?_); clear z; rintro e wb ⟨⟨gb, nb, cb, rfl, hb, hmb⟩, hbb'⟩; have hbb : Below wa.heap.size wa wb := below_of_drew hbb'; clear hbb'; have HBB := Lib.hid hb; have HMB := Lib.hid hmb; clear hb hmb; have d2 := (hbb.cell (p := ⟨X, 0, none⟩) hXs).trans d0)
            | (go_at_call 13; have z := HSM.out wb gb nb cb hbb HBB.out HMB.out; (with_reducible refine z.mono ?_); clear z; rintro e wc ⟨rfl, hbc⟩; have d3 := (hbc.cell (p := ⟨X, 0, none⟩) (Nat.lt_of_lt_of_le hXs hbb.size)).trans d2))
        have hkc : Below wx.heap.size wx wc := kept_trans hka (kept_trans hbb hbc)
        clear d0 d1 d2 d3 hbb hbc hka HBB HMB HE2 HAA HSE HSM hd
        go_wp2
        go_roundw
        case rel => exact ⟨1, by omega, by go_num, hkc⟩
        case measure => simp [intOf]
      · subst e2
        have hna := HAA.out.len
        obtain rfl : na = 0 := hna
        have hq0 : ((q : Int) == 0) = false := by rw [beq_eq_false_iff_ne]; omega
        have hq1 : ((q : Int) != 0) = true := by rw [bne_iff_ne]; omega
        have HE1 := Lib.hid e1
        clear e1 hcell HAA
        go_wp2_with fail
        go_region
        all_goals
          go_wp2
          go_roundw
          case rel => exact ⟨1, by omega, by go_num, below_to_drew hka⟩
          case measure => simp [intOf]
    · have hcell := (HX.out.below hbr HX.out.lt).cell 1
      obtain ⟨s, q, hop, hor⟩ := opn_again k (a.take 20) ((Sl.put k (a.take 20) (t.take 20)).set j (UInt8.ofNat cc))
      have HOP := Lib.hid hop
      have HOR := Lib.hid hor
      clear hop hor hi
      go_wp2_with fail
      refine (open_v k (HB.out.below hbr) (HS.out.below hbr) HOP.out hk (by omega) (by omega)).mono ?_
      rintro e wa ⟨⟨Aa, na, ca, rfl, ha⟩, hba⟩
      have hka : Below wx.heap.size wx wa := kept_trans hbr hba
      have hX2 := (HX.out.below hka HX.out.lt)
      clear hcell
      have hcell := hX2.cell 1
      have HAA := Lib.hid ha
      clear hba hbr ha hX2
      rcases HOR.out with ⟨e1, e2⟩ | ⟨e1, e2⟩
      · subst e1
        have hna : na ≤ 28 + 12 := by have h1 := HAA.out.len; have h2 := congrArg List.length e2; rw [Sl.seal_len] at h2; have h3 := HS.out.len; omega
        have HE2 := Lib.hid e2
        clear e2
        have d0 : wa.cell? ⟨X, 1, none⟩ = some (.slice (some ⟨g3, 0, none⟩) n3 c3) := hcell
        have d1 : wa.drew.cell? ⟨X, 1, none⟩ = some (.slice (some ⟨g3, 0, none⟩) n3 c3) := hcell
        have hXs : X < wa.heap.size := by have := HX.out.lt; have := hka.size; omega
        have HSE := Lib.hid (fun W (h : Below wa.heap.size wa W) => seal_v k (HB.out.below (kept_trans hka h)) (HAA.out.below h) hk (by omega) (by omega))
        have HSM := Lib.hid (fun W g m c (h : Below wa.heap.size wa W) (hb : Bt W (some ⟨g, 0, none⟩) m c (Sl.put k (a.take 20) s)) (hm : m = na + 8) => same_v hb (HS.out.below (kept_trans hka h)) true (decide_eq_true HE2.out) (by omega) (by omega))
        have hd : Below wa.heap.size wa wa.drew := below_to_drew (Below.refl _ _)
        clear hcell
        go_wp2_with fail
        go_region_held3 (fun w' : World => w'.cell? ⟨X, 1, none⟩ = some (.slice (some ⟨g3, 0, none⟩) n3 c3))
          ((first | with_reducible exact d0 | with_reducible exact d1 | with_reducible exact d2 | with_reducible exact d3))
          (first
            | (go_at_call 12; have z := HSE.out wa.drew hd; (with_reducible refine z.mono ?_); clear z; rintro e wb ⟨⟨gb, nb, cb, rfl, hb, hmb⟩, hbb'⟩; have hbb : Below wa.heap.size wa wb := below_of_drew hbb'; clear hbb'; have HBB := Lib.hid hb; have HMB := Lib.hid hmb; clear hb hmb; have d2 := (hbb.cell (p := ⟨X, 1, none⟩) hXs).trans d0)
            | (go_at_call 13; have z := HSM.out wb gb nb cb hbb HBB.out HMB.out; (with_reducible refine z.mono ?_); clear z; rintro e wc ⟨rfl, hbc⟩; have d3 := (hbc.cell (p := ⟨X, 1, none⟩) (Nat.lt_of_lt_of_le hXs hbb.size)).trans d2))
        have hkc : Below wx.heap.size wx wc := kept_trans hka (kept_trans hbb hbc)
        clear d0 d1 d2 d3 hbb hbc hka HBB HMB HE2 HAA HSE HSM hd
        go_wp2
        go_roundw
        case rel => exact ⟨2, by omega, by go_num, hkc⟩
        case measure => simp [intOf]
      · subst e2
        have hna := HAA.out.len
        obtain rfl : na = 0 := hna
        have hq0 : ((q : Int) == 0) = false := by rw [beq_eq_false_iff_ne]; omega
        have hq1 : ((q : Int) != 0) = true := by rw [bne_iff_ne]; omega
        have HE1 := Lib.hid e1
        clear e1 hcell HAA
        go_wp2_with fail
        go_region
        all_goals
          go_wp2
          go_roundw
          case rel => exact ⟨2, by omega, by go_num, below_to_drew hka⟩
          case measure => simp [intOf]
    · go_wp2_with fail
      refine (lives7_any _).mono ?_
      rintro e wz ⟨rfl, hbz⟩
      have kz := kept_trans HK.out (kept_trans hbr hbz)
      clear hbz hbr
      go_wp2
      go_ret
      exact ⟨rfl, kz⟩

end Go.Proofs.Ytfbakfdakmndhaa
