/-
  SealPlays: the walk, over natural numbers and lists of bytes. No condition.
-/
import Derived.Test.YtfbakfdakmndhaaSei
namespace Go.Proofs.Ytfbakfdakmndhaa
open Go.RowKit

/-- What both Opens tell, side by side. -/
theorem opn_two (k : Nat) (a b : List UInt8) : ∃ r q, Sl.opn k a b = (r, q) ∧ r.length ≤ b.length := by
  refine ⟨(Sl.opn k a b).1, (Sl.opn k a b).2, rfl, ?_⟩
  unfold Sl.opn
  split
  · exact Nat.zero_le _
  · split
    · show (Sl.mask k (Sl.body b)).length ≤ _
      rw [Sl.mask_len]
      unfold Sl.body
      rw [List.length_take]
      omega
    · exact Nat.zero_le _

set_option maxRecDepth 100000 in
set_option maxHeartbeats 4000000 in
theorem plays_walk (k : Nat) (A T R : Option Addr) (n c n' c' n'' c'' : Nat) (cut : Int) (a t r : List UInt8) (w : World) (hk : k < 18446744073709551616) (hc1 : -9223372036854775808 ≤ cut) (hc2 : cut ≤ 9223372036854775807) (hA : Bt w A n c a) (hT : Bt w T n' c' t) (hR : Bt w R n'' c'' r) :
    Calls Try.prog 3 #[.int .u64 k, .slice A n c, .slice T n' c', .slice R n'' c'', .int .i64 cut] w fun e w' => e = .returned (.bool true) ∧ Below w.heap.size w w' := by
  have k0 : Below w.heap.size w w := Below.refl _ _
  have A0 := Lib.hid hA
  have T0 := Lib.hid hT
  have R0 := Lib.hid hR
  clear hA hT hR
  go_enter Try.func3, Try.ntmps3
  go_wp2_with fail
  refine (few_v (A0.out) 20 (by omega)).mono ?_
  rintro e w1 ⟨⟨A1, n1, c1, rfl, h, hm1⟩, hb1⟩
  have k1 := kept_trans k0 hb1
  have T1 := Lib.hid (T0.out.below hb1)
  have R1 := Lib.hid (R0.out.below hb1)
  have B1 := Lib.hid h
  clear hb1 k0 A0 T0 R0 h
  go_wp2_with fail
  refine (few_v (T1.out) 50 (by omega)).mono ?_
  rintro e w2 ⟨⟨A2, n2, c2, rfl, h, hm2⟩, hb2⟩
  have k2 := kept_trans k1 hb2
  have R2 := Lib.hid (R1.out.below hb2)
  have B2 := Lib.hid (B1.out.below hb2)
  have U2 := Lib.hid h
  clear hb2 k1 T1 R1 B1 h
  go_wp2_with fail
  refine (seal_v k (B2.out) (U2.out) hk (by omega) (by omega)).mono ?_
  rintro e w3 ⟨⟨g3, n3, c3, rfl, h, hm3⟩, hb3⟩
  have k3 := kept_trans k2 hb3
  have R3 := Lib.hid (R2.out.below hb3)
  have B3 := Lib.hid (B2.out.below hb3)
  have U3 := Lib.hid (U2.out.below hb3)
  have S3 := Lib.hid h
  clear hb3 k2 R2 B2 U2 h
  have hs3 : n3 ≤ 1010 := by omega
  have HM3 := Lib.hid hm3
  clear hm3
  go_wp2_with fail
  refine (rseal_v k (B3.out) (U3.out) (by omega) (by omega)).mono ?_
  rintro e w4 ⟨⟨g4, n4, c4, rfl, h, hm4⟩, hb4⟩
  have k4 := kept_trans k3 hb4
  have R4 := Lib.hid (R3.out.below hb4)
  have B4 := Lib.hid (B3.out.below hb4)
  have U4 := Lib.hid (U3.out.below hb4)
  have S4 := Lib.hid (S3.out.below hb4)
  have V4 := Lib.hid h
  clear hb4 k3 R3 B3 U3 S3 h
  have hs4 : n4 ≤ 1010 := by omega
  have HM4 := Lib.hid hm4
  clear hm4
  go_wp2_with fail
  refine (same_v (S4.out) (V4.out) true (decide_eq_true rfl) (by have := HM3.out; omega) (by omega)).mono ?_
  rintro e w5 ⟨rfl, hb5⟩
  have k5 := kept_trans k4 hb5
  have R5 := Lib.hid (R4.out.below hb5)
  have B5 := Lib.hid (B4.out.below hb5)
  have S5 := Lib.hid (S4.out.below hb5)
  clear hb5 k4 R4 B4 U4 S4 V4
  go_wp2_with fail
  refine (few_v (R5.out) 30 (by omega)).mono ?_
  rintro e w6 ⟨⟨A5, n5, c5, rfl, h, hm5⟩, hb6⟩
  have k6 := kept_trans k5 hb6
  have B6 := Lib.hid (B5.out.below hb6)
  have S6 := Lib.hid (S5.out.below hb6)
  have P6 := Lib.hid h
  clear hb6 k5 R5 B5 S5 h
  have hn3b : n3 ≤ 60 := by have := HM3.out; omega
  obtain ⟨N3, hN3⟩ : ∃ N3, N3 = n3 + 1 := ⟨_, rfl⟩
  have hn31 : (n3 : Int) + 1 = (N3 : Int) := by omega
  have HN3 := Lib.hid hN3
  have hN3b : N3 ≤ 61 := by omega
  have hN30 : 0 < N3 := by omega
  clear hN3
  go_wp2_with fail
  refine (around_v cut N3 _ hc1 hc2 hN30 (by omega)).mono ?_
  rintro e w7 ⟨⟨j, hj, rfl⟩, hb7⟩
  have k7 := kept_trans k6 hb7
  have B7 := Lib.hid (B6.out.below hb7)
  have S7 := Lib.hid (S6.out.below hb7)
  have P7 := Lib.hid (P6.out.below hb7)
  clear hb7 k6 B6 S6 P6
  have hjn : j ≤ n3 := by have := HN3.out; omega
  have hcap3 := S7.out.cap
  have hsl := slice_head 23 (by kernel_rfl) (fun W => by kernel_rfl) (some ⟨g3, 0, none⟩) n3 c3 j (by omega)
  have q0 : (0 : Int) ≤ (j : Int) := by omega
  have q3 : (j : Int) ≤ (c3 : Int) := by omega
  have hQ := S7.out.take hjn
  have hX := blk_new w7 23 #[.slice (some ⟨g3, 0, none⟩) n3 c3, .slice A5 n5 c5, .slice (some ⟨g3, 0, none⟩) j c3]
  have k8 : Below w.heap.size w (w7.alloc (.cells #[.slice (some ⟨g3, 0, none⟩) n3 c3, .slice A5 n5 c5, .slice (some ⟨g3, 0, none⟩) j c3] 23)) := kept_trans k7 ((Below.refl _ _).alloc (Nat.le_refl _) _)
  have hB := B7.out.new (.cells #[.slice (some ⟨g3, 0, none⟩) n3 c3, .slice A5 n5 c5, .slice (some ⟨g3, 0, none⟩) j c3] 23)
  have hS := S7.out.new (.cells #[.slice (some ⟨g3, 0, none⟩) n3 c3, .slice A5 n5 c5, .slice (some ⟨g3, 0, none⟩) j c3] 23)
  have hP := P7.out.new (.cells #[.slice (some ⟨g3, 0, none⟩) n3 c3, .slice A5 n5 c5, .slice (some ⟨g3, 0, none⟩) j c3] 23)
  have hQ := hQ.new (.cells #[.slice (some ⟨g3, 0, none⟩) n3 c3, .slice A5 n5 c5, .slice (some ⟨g3, 0, none⟩) j c3] 23)
  obtain ⟨wx, hwx⟩ : ∃ wx, wx = w7.alloc (.cells #[.slice (some ⟨g3, 0, none⟩) n3 c3, .slice A5 n5 c5, .slice (some ⟨g3, 0, none⟩) j c3] 23) := ⟨_, rfl⟩
  have HWX := Lib.hid hwx
  clear hwx
  go_wp2
  rw [← HWX.out] at hX k8 hB hS hP hQ ⊢
  obtain ⟨X, hXe⟩ : ∃ X, X = w7.heap.size := ⟨_, rfl⟩
  rw [← hXe] at hX ⊢
  have HX := Lib.hid hX
  have HB := Lib.hid hB
  have HS := Lib.hid hS
  have HP := Lib.hid hP
  have HQ := Lib.hid hQ
  have HK := Lib.hid k8
  clear hX hB hS hP hQ k7 k8 hXe HWX hsl q0 q3 hjn B7 S7 P7 hn31 hcap3
  go_loopw [15] (fun i wr => ∃ j : Nat, j ≤ 3 ∧ i = .int .i64 (j : Int) ∧ Below wx.heap.size wx wr) (fun i _ => 3 - (intOf i).toNat)
  case atStart => exact ⟨0, by omega, rfl, Below.refl _ _⟩
  case round =>
    obtain ⟨i, hi, rfl, hbr⟩ := hrel
    have hi4 : i = 0 ∨ i = 1 ∨ i = 2 ∨ i = 3 := by omega
    rcases hi4 with rfl | rfl | rfl | rfl
    · have hcell := (HX.out.below hbr HX.out.lt).cell 0
      obtain ⟨s, q, hop, hsl⟩ := opn_two k (a.take 20) (Sl.put k (a.take 20) (t.take 50))
      have hlen := HS.out.len
      have hsb : s.length ≤ 1000 := by omega
      have HOP := Lib.hid hop
      clear hop hsl hlen hi
      have hqq : ((q : Int) != (q : Int)) = false := by simp
      go_wp2_with fail
      refine (open_v k (HB.out.below hbr) (HS.out.below hbr) HOP.out hk (by omega) (by omega)).mono ?_
      rintro e wa ⟨⟨Aa, na, ca, rfl, ha⟩, hba⟩
      have hka : Below wx.heap.size wx wa := kept_trans hbr hba
      have hcell := (HX.out.below hka HX.out.lt).cell 0
      have HAA := Lib.hid ha
      clear hba hbr ha
      go_wp2_with fail
      refine (ropen_v k (HB.out.below hka) (HS.out.below hka) HOP.out (by omega) (by omega)).mono ?_
      rintro e wb ⟨⟨Ab, nb, cb, rfl, hb⟩, hbb⟩
      have hkb : Below wx.heap.size wx wb := kept_trans hka hbb
      have HS2 := Lib.hid (same_v (HAA.out.below hbb) hb true (decide_eq_true rfl) (by have := HAA.out.len; omega) (by have := hb.len; omega))
      clear hbb hka hb HAA hcell
      go_wp2_with fail
      refine (HS2.out).mono ?_
      rintro e wc ⟨rfl, hbc⟩
      have hkc : Below wx.heap.size wx wc := kept_trans hkb hbc
      clear hbc hkb HS2
      go_wp2
      go_roundw
      case rel => exact ⟨1, by omega, by go_num, hkc⟩
      case measure => simp [intOf]
    · have hcell := (HX.out.below hbr HX.out.lt).cell 1
      obtain ⟨s, q, hop, hsl⟩ := opn_two k (a.take 20) (r.take 30)
      have hlen := HP.out.len
      have hsb : s.length ≤ 1000 := by omega
      have HOP := Lib.hid hop
      clear hop hsl hlen hi
      have hqq : ((q : Int) != (q : Int)) = false := by simp
      go_wp2_with fail
      refine (open_v k (HB.out.below hbr) (HP.out.below hbr) HOP.out hk (by omega) (by omega)).mono ?_
      rintro e wa ⟨⟨Aa, na, ca, rfl, ha⟩, hba⟩
      have hka : Below wx.heap.size wx wa := kept_trans hbr hba
      have hcell := (HX.out.below hka HX.out.lt).cell 1
      have HAA := Lib.hid ha
      clear hba hbr ha
      go_wp2_with fail
      refine (ropen_v k (HB.out.below hka) (HP.out.below hka) HOP.out (by omega) (by omega)).mono ?_
      rintro e wb ⟨⟨Ab, nb, cb, rfl, hb⟩, hbb⟩
      have hkb : Below wx.heap.size wx wb := kept_trans hka hbb
      have HS2 := Lib.hid (same_v (HAA.out.below hbb) hb true (decide_eq_true rfl) (by have := HAA.out.len; omega) (by have := hb.len; omega))
      clear hbb hka hb HAA hcell
      go_wp2_with fail
      refine (HS2.out).mono ?_
      rintro e wc ⟨rfl, hbc⟩
      have hkc : Below wx.heap.size wx wc := kept_trans hkb hbc
      clear hbc hkb HS2
      go_wp2
      go_roundw
      case rel => exact ⟨2, by omega, by go_num, hkc⟩
      case measure => simp [intOf]
    · have hcell := (HX.out.below hbr HX.out.lt).cell 2
      obtain ⟨s, q, hop, hsl⟩ := opn_two k (a.take 20) ((Sl.put k (a.take 20) (t.take 50)).take j)
      have hlen := HQ.out.len
      have hsb : s.length ≤ 1000 := by omega
      have HOP := Lib.hid hop
      clear hop hsl hlen hi
      have hqq : ((q : Int) != (q : Int)) = false := by simp
      go_wp2_with fail
      refine (open_v k (HB.out.below hbr) (HQ.out.below hbr) HOP.out hk (by omega) (by omega)).mono ?_
      rintro e wa ⟨⟨Aa, na, ca, rfl, ha⟩, hba⟩
      have hka : Below wx.heap.size wx wa := kept_trans hbr hba
      have hcell := (HX.out.below hka HX.out.lt).cell 2
      have HAA := Lib.hid ha
      clear hba hbr ha
      go_wp2_with fail
      refine (ropen_v k (HB.out.below hka) (HQ.out.below hka) HOP.out (by omega) (by omega)).mono ?_
      rintro e wb ⟨⟨Ab, nb, cb, rfl, hb⟩, hbb⟩
      have hkb : Below wx.heap.size wx wb := kept_trans hka hbb
      have HS2 := Lib.hid (same_v (HAA.out.below hbb) hb true (decide_eq_true rfl) (by have := HAA.out.len; omega) (by have := hb.len; omega))
      clear hbb hka hb HAA hcell
      go_wp2_with fail
      refine (HS2.out).mono ?_
      rintro e wc ⟨rfl, hbc⟩
      have hkc : Below wx.heap.size wx wc := kept_trans hkb hbc
      clear hbc hkb HS2
      go_wp2
      go_roundw
      case rel => exact ⟨3, by omega, by go_num, hkc⟩
      case measure => simp [intOf]
    · go_wp2_with fail
      refine (lives7_any _).mono ?_
      rintro e wz ⟨rfl, hbz⟩
      have kz := kept_trans HK.out (kept_trans hbr hbz)
      clear hbz hbr
      go_wp2
      go_ret
      exact ⟨rfl, kz⟩

end Go.Proofs.Ytfbakfdakmndhaa
