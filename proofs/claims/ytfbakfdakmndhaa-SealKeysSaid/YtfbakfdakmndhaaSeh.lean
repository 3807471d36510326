/-
  SealRound, SealKeys, SealShort, SealBegins: the walks, over natural numbers and lists of bytes. No condition.
-/
import Derived.Test.YtfbakfdakmndhaaSeg
namespace Go.Proofs.Ytfbakfdakmndhaa
open Go.RowKit

theorem Sl.opn_not9 (k : Nat) (a b : List UInt8) (h : 8 ≤ b.length) : (Sl.opn k a b).2 ≠ 9 := by
  unfold Sl.opn
  rw [if_neg (by omega)]
  split
  · show (0 : Nat) ≠ 9; decide
  · show (21 : Nat) ≠ 9; decide
theorem around_v (z : Int) (k : Nat) (w : World) (h1 : -9223372036854775808 ≤ z) (h2 : z ≤ 9223372036854775807) (hk : 0 < k) (hk2 : k ≤ 1000000) :
    Calls Try.prog 15 #[.int .i64 z, .int .i64 (k : Int)] w fun e w' => (∃ r : Nat, r < k ∧ e = .returned (.int .i64 (r : Int))) ∧ Below w.heap.size w w' :=
  (around_any z k w h1 h2 hk hk2).mono fun _ _ ⟨r, hr, h, e⟩ => ⟨⟨r, hr, h⟩, e ▸ Below.refl _ _⟩

set_option maxRecDepth 100000 in
set_option maxHeartbeats 4000000 in
theorem round_walk (k : Nat) (A T : Option Addr) (n c n' c' : Nat) (a t : List UInt8) (w : World) (hk : k < 18446744073709551616) (hA : Bt w A n c a) (hT : Bt w T n' c' t) :
    Calls Try.prog 4 #[.int .u64 k, .slice A n c, .slice T n' c'] w fun e w' => e = .returned (.bool true) ∧ Below w.heap.size w w' := by
  have k0 : Below w.heap.size w w := Below.refl _ _
  have A0 := Lib.hid hA
  have T0 := Lib.hid hT
  clear hA hT
  go_enter Try.func4, Try.ntmps4
  go_wp2_with fail
  refine (few_v (A0.out) 60 (by omega)).mono ?_
  rintro e w1 ⟨⟨A1, n1, c1, rfl, h, hm1⟩, hb1⟩
  have k1 := kept_trans k0 hb1
  have T1 := Lib.hid (T0.out.below hb1)
  have B1 := Lib.hid h
  clear hb1 k0 A0 T0 h
  go_wp2_with fail
  refine (few_v (T1.out) 60 (by omega)).mono ?_
  rintro e w2 ⟨⟨A2, n2, c2, rfl, h, hm2⟩, hb2⟩
  have k2 := kept_trans k1 hb2
  have B2 := Lib.hid (B1.out.below hb2)
  have U2 := Lib.hid h
  clear hb2 k1 T1 B1 h
  go_wp2_with fail
  refine (seal_v k (B2.out) (U2.out) hk (by omega) (by omega)).mono ?_
  rintro e w3 ⟨⟨g, n3, c3, rfl, h, hm3⟩, hb3⟩
  have k3 := kept_trans k2 hb3
  have B3 := Lib.hid (B2.out.below hb3)
  have U3 := Lib.hid (U2.out.below hb3)
  have S3 := Lib.hid h
  clear hb3 k2 B2 U2 h
  have hs3 : n3 ≤ 1010 := by omega
  have HM3 := Lib.hid hm3
  clear hm3
  go_wp2_with fail
  refine (open_v k (B3.out) (S3.out) (Sl.opn_seal _ _ _) hk (by omega) (by omega)).mono ?_
  rintro e w4 ⟨⟨A4, n4, c4, rfl, h⟩, hb4⟩
  have k4 := kept_trans k3 hb4
  have U4 := Lib.hid (U3.out.below hb4)
  have S4 := Lib.hid (S3.out.below hb4)
  have X4 := Lib.hid h
  clear hb4 k3 B3 U3 S3 h
  have hl4 := (X4.out).len
  have hl2 := (U4.out).len
  have hm3 := HM3.out
  have hq3 : (n2 : Int) + 8 = (n3 : Int) := by omega
  have hb4 : n4 ≤ 1000 := by omega
  clear hl4 hl2 hm3
  go_wp2_with fail
  refine (same_v (X4.out) (U4.out) true (decide_eq_true rfl) hb4 (by omega)).mono ?_
  rintro e w5 ⟨rfl, hb5⟩
  have k5 := kept_trans k4 hb5
  clear hb5 k4 U4 S4 X4
  go_wp2_with fail
  refine (lives7_any _).mono ?_
  rintro e w6 ⟨rfl, hb6⟩
  have k6 := kept_trans k5 hb6
  clear hb6 k5
  go_wp2
  go_ret
  exact ⟨rfl, k6⟩

set_option maxRecDepth 100000 in
set_option maxHeartbeats 4000000 in
theorem keys_walk (k k' : Nat) (A T : Option Addr) (n c n' c' : Nat) (a t : List UInt8) (w : World) (hk : k < 18446744073709551616) (hk' : k' < 18446744073709551616) (hA : Bt w A n c a) (hT : Bt w T n' c' t) :
    Calls Try.prog 7 #[.int .u64 k, .int .u64 k', .slice A n c, .slice T n' c'] w fun e w' => e = .returned (.bool true) ∧ Below w.heap.size w w' := by
  have k0 : Below w.heap.size w w := Below.refl _ _
  have A0 := Lib.hid hA
  have T0 := Lib.hid hT
  clear hA hT
  go_enter Try.func7, Try.ntmps7
  go_wp2_with fail
  refine (few_v (A0.out) 40 (by omega)).mono ?_
  rintro e w1 ⟨⟨A1, n1, c1, rfl, h, hm1⟩, hb1⟩
  have k1 := kept_trans k0 hb1
  have T1 := Lib.hid (T0.out.below hb1)
  have B1 := Lib.hid h
  clear hb1 k0 A0 T0 h
  go_wp2_with fail
  refine (few_v (T1.out) 40 (by omega)).mono ?_
  rintro e w2 ⟨⟨A2, n2, c2, rfl, h, hm2⟩, hb2⟩
  have k2 := kept_trans k1 hb2
  have B2 := Lib.hid (B1.out.below hb2)
  have U2 := Lib.hid h
  clear hb2 k1 T1 B1 h
  go_wp2_with fail
  refine (seal_v k (B2.out) (U2.out) hk (by omega) (by omega)).mono ?_
  rintro e w3 ⟨⟨g, n3, c3, rfl, h, hm3⟩, hb3⟩
  have k3 := kept_trans k2 hb3
  have B3 := Lib.hid (B2.out.below hb3)
  have S3 := Lib.hid h
  clear hb3 k2 B2 U2 h
  have hs3 : n3 ≤ 1010 := by omega
  have HM3 := Lib.hid hm3
  clear hm3
  obtain ⟨x, hx⟩ : ∃ x, x = k % 2305843009213693951 := ⟨_, rfl⟩
  obtain ⟨y, hy⟩ : ∃ y, y = k' % 2305843009213693951 := ⟨_, rfl⟩
  have hxi : (k : Int) % 2305843009213693951 = (x : Int) := by omega
  have hyi : (k' : Int) % 2305843009213693951 = (y : Int) := by omega
  by_cases hxy : x = y
  · have hop := (Sl.opn_mod k k' (a.take 40) (Sl.put k (a.take 40) (t.take 40)) (by rw [Fld.P_val]; omega)).symm.trans (Sl.opn_seal _ _ _)
    have hqq : ((x : Int) == (y : Int)) = true := by rw [beq_iff_eq]; omega
    clear hx hy hxy
    go_wp2_with fail
    refine (open_v k' (B3.out) (S3.out) hop hk' (by omega) (by omega)).mono ?_
    rintro e w4 ⟨⟨A4, n4, c4, rfl, h⟩, hb4⟩
    have k4 := kept_trans k3 hb4
    clear hb4 k3 B3 S3
    clear h hop
    go_wp2_with fail
    refine (lives7_any _).mono ?_
    rintro e w5 ⟨rfl, hb5⟩
    have k5 := kept_trans k4 hb5
    clear hb5 k4
    go_wp2
    go_ret
    exact ⟨rfl, k5⟩
  · have hop := Sl.opn_key k k' (a.take 40) (t.take 40) (by rw [Fld.P_val]; omega)
    have hqq : ((x : Int) == (y : Int)) = false := by rw [beq_eq_false_iff_ne]; omega
    clear hx hy hxy
    go_wp2_with fail
    refine (open_v k' (B3.out) (S3.out) hop hk' (by omega) (by omega)).mono ?_
    rintro e w4 ⟨⟨A4, n4, c4, rfl, h⟩, hb4⟩
    have k4 := kept_trans k3 hb4
    clear hb4 k3 B3 S3
    clear h hop
    go_wp2_with fail
    refine (lives7_any _).mono ?_
    rintro e w5 ⟨rfl, hb5⟩
    have k5 := kept_trans k4 hb5
    clear hb5 k4
    go_wp2
    go_ret
    exact ⟨rfl, k5⟩

set_option maxRecDepth 100000 in
set_option maxHeartbeats 4000000 in
theorem short_walk (k : Nat) (A T : Option Addr) (n c n' c' : Nat) (a t : List UInt8) (w : World) (hk : k < 18446744073709551616) (hA : Bt w A n c a) (hT : Bt w T n' c' t) :
    Calls Try.prog 10 #[.int .u64 k, .slice A n c, .slice T n' c'] w fun e w' => e = .returned (.bool true) ∧ Below w.heap.size w w' := by
  have k0 : Below w.heap.size w w := Below.refl _ _
  have A0 := Lib.hid hA
  have T0 := Lib.hid hT
  clear hA hT
  go_enter Try.func10, Try.ntmps10
  go_wp2_with fail
  refine (few_v (T0.out) 12 (by omega)).mono ?_
  rintro e w1 ⟨⟨A1, n1, c1, rfl, h, hm1⟩, hb1⟩
  have k1 := kept_trans k0 hb1
  have A1 := Lib.hid (A0.out.below hb1)
  have R1 := Lib.hid h
  clear hb1 k0 A0 T0 h
  go_wp2_with fail
  refine (few_v (A1.out) 20 (by omega)).mono ?_
  rintro e w2 ⟨⟨A2, n2, c2, rfl, h, hm2⟩, hb2⟩
  have k2 := kept_trans k1 hb2
  have R2 := Lib.hid (R1.out.below hb2)
  have B2 := Lib.hid h
  clear hb2 k1 A1 R1 h
  have hl1 := (R2.out).len
  by_cases hs : n1 < 8
  · have hop := Sl.opn_short k (a.take 20) (t.take 12) (by omega)
    have hsi : (n1 : Int) < 8 := by omega
    clear hl1
    go_wp2_with fail
    refine (open_v k (B2.out) (R2.out) hop hk (by omega) (by omega)).mono ?_
    rintro e w3 ⟨⟨A4, n4, c4, rfl, h⟩, hb3⟩
    have k3 := kept_trans k2 hb3
    clear hb3 k2 R2 B2
    have hl4 := h.len
    obtain rfl : n4 = 0 := hl4
    clear h hop
    go_wp2_with fail
    refine (lives7_any _).mono ?_
    rintro e w4 ⟨rfl, hb4⟩
    have k4 := kept_trans k3 hb4
    clear hb4 k3
    go_wp2
    go_ret
    exact ⟨rfl, k4⟩
  · have hsi : ¬ ((n1 : Int) < 8) := by omega
    have hop9 := Sl.opn_not9 k (a.take 20) (t.take 12) (by omega)
    obtain ⟨q, hq⟩ : ∃ q, q = Sl.opn k (a.take 20) (t.take 12) := ⟨_, rfl⟩
    rw [← hq] at hop9
    obtain ⟨q1, q2⟩ := q
    have hq9 : ((q2 : Int) != 9) = true := by rw [bne_iff_ne]; intro e; exact hop9 (by show q2 = 9; omega)
    have HQ := Lib.hid hq.symm
    clear hl1 hq hop9
    go_wp2_with fail
    refine (open_v k (B2.out) (R2.out) HQ.out hk (by omega) (by omega)).mono ?_
    rintro e w3 ⟨⟨A4, n4, c4, rfl, h⟩, hb3⟩
    have k3 := kept_trans k2 hb3
    clear hb3 k2 R2 B2
    clear h
    go_wp2_with fail
    refine (lives7_any _).mono ?_
    rintro e w4 ⟨rfl, hb4⟩
    have k4 := kept_trans k3 hb4
    clear hb4 k3
    go_wp2
    go_ret
    exact ⟨rfl, k4⟩

set_option maxRecDepth 100000 in
set_option maxHeartbeats 4000000 in
theorem begins_walk (k : Nat) (A T : Option Addr) (n c n' c' : Nat) (cut : Int) (a t : List UInt8) (w : World) (hk : k < 18446744073709551616) (hc1 : -9223372036854775808 ≤ cut) (hc2 : cut ≤ 9223372036854775807) (hA : Bt w A n c a) (hT : Bt w T n' c' t) :
    Calls Try.prog 9 #[.int .u64 k, .slice A n c, .slice T n' c', .int .i64 cut] w fun e w' => e = .returned (.bool true) ∧ Below w.heap.size w w' := by
  have k0 : Below w.heap.size w w := Below.refl _ _
  have A0 := Lib.hid hA
  have T0 := Lib.hid hT
  clear hA hT
  go_enter Try.func9, Try.ntmps9
  go_wp2_with fail
  refine (few_v (A0.out) 20 (by omega)).mono ?_
  rintro e w1 ⟨⟨A1, n1, c1, rfl, h, hm1⟩, hb1⟩
  have k1 := kept_trans k0 hb1
  have T1 := Lib.hid (T0.out.below hb1)
  have B1 := Lib.hid h
  clear hb1 k0 A0 T0 h
  go_wp2_with fail
  refine (few_v (T1.out) 60 (by omega)).mono ?_
  rintro e w2 ⟨⟨A2, n2, c2, rfl, h, hm2⟩, hb2⟩
  have k2 := kept_trans k1 hb2
  have B2 := Lib.hid (B1.out.below hb2)
  have U2 := Lib.hid h
  clear hb2 k1 T1 B1 h
  obtain ⟨N2, hN2⟩ : ∃ N2, N2 = n2 + 1 := ⟨_, rfl⟩
  have hn21 : (n2 : Int) + 1 = (N2 : Int) := by omega
  have HN2 := Lib.hid hN2
  have hN2b : N2 ≤ 61 := by omega
  have hN20 : 0 < N2 := by omega
  clear hN2
  go_wp2_with fail
  refine (around_v cut N2 _ hc1 hc2 (by omega) (by omega)).mono ?_
  rintro e w3 ⟨⟨j, hj, rfl⟩, hb3⟩
  have k3 := kept_trans k2 hb3
  have B3 := Lib.hid (B2.out.below hb3)
  have U3 := Lib.hid (U2.out.below hb3)
  clear hb3 k2 B2 U2
  go_wp2_with fail
  refine (seal_v k (B3.out) (U3.out) hk (by omega) (by omega)).mono ?_
  rintro e w4 ⟨⟨g, n3, c3, rfl, h, hm3⟩, hb4⟩
  have k4 := kept_trans k3 hb4
  have B4 := Lib.hid (B3.out.below hb4)
  have U4 := Lib.hid (U3.out.below hb4)
  have S4 := Lib.hid h
  clear hb4 k3 B3 U3 h
  have hs3 : n3 ≤ 1010 := by omega
  have HM3 := Lib.hid hm3
  clear hm3
  have hcap2 := (U4.out).cap
  have hsl := slice_head 23 (by kernel_rfl) (fun W => by kernel_rfl) A2 n2 c2 j (by omega)
  go_wp2_with fail
  refine (seal_v k (B4.out) ((U4.out).take (k := j) (by omega)) hk (by omega) (by omega)).mono ?_
  rintro e w5 ⟨⟨g5, n5, c5, rfl, h, hm5⟩, hb5⟩
  have k5 := kept_trans k4 hb5
  have U5 := Lib.hid (U4.out.below hb5)
  have S5 := Lib.hid (S4.out.below hb5)
  have Q5 := Lib.hid h
  clear hb5 k4 B4 U4 S4 h
  have hs5 : n5 ≤ 1010 := by omega
  have HM5 := Lib.hid hm5
  clear hm5
  have hl2 := (U5.out).len
  have hcs := (S5.out).cap
  have hcq := (Q5.out).cap
  have hqe := Sl.seal_begins k (a.take 20) (t.take 60) j (by omega)
  have hm3 := HM3.out
  have hm5 := HM5.out
  have hq3 : (n2 : Int) + 8 = (n3 : Int) := by omega
  have hq5 : (j : Int) + 8 = (n5 : Int) := by omega
  have hs3 := slice_head 23 (by kernel_rfl) (fun W => by kernel_rfl) (some ⟨g, 0, none⟩) n3 c3 j (by omega)
  have hs5 := slice_head 23 (by kernel_rfl) (fun W => by kernel_rfl) (some ⟨g5, 0, none⟩) n5 c5 j (by omega)
  have HS := Lib.hid (fun W (hb : Below w5.heap.size w5 W) => same_v ((S5.out.take (k := j) (by omega)).below hb) ((Q5.out.take (k := j) (by omega)).below hb) true (decide_eq_true hqe.symm) (by omega) (by omega))
  have q0 : (0 : Int) ≤ (j : Int) := by omega
  have q3 : (j : Int) ≤ (c3 : Int) := by omega
  have q5 : (j : Int) ≤ (c5 : Int) := by omega
  have hw0 : Below w5.heap.size w5 w5.drew := below_to_drew (Below.refl _ _)
  clear hl2 hcs hcq hqe hm3 hm5 S5 Q5 U5 hsl
  go_wp2_with fail
  go_region_held3 (fun _ : World => True)
    (exact trivial)
    (first
      | (go_at_call 13; have z := HS.out w5.drew hw0; ((with_reducible refine z.mono ?_); clear z; rintro e w6 ⟨rfl, hb6⟩))
      | (go_at_call 18; ((with_reducible refine (lives7_any _).mono ?_); rintro e w7 ⟨rfl, hb7⟩)))
  have k7 := kept_trans (kept_trans k5 (below_of_drew hb6)) hb7
  go_wp2
  go_ret
  exact ⟨rfl, k7⟩

end Go.Proofs.Ytfbakfdakmndhaa
