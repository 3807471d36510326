/-
  ShareSplits: a secret's shares are the document's. The calls told of values.
-/
import Derived.Test.YthnbkbmhlalpaaaShk
namespace Go.Proofs.Ythnbkbmhlalpaaa
open Go.RowKit Go.Maps
attribute [local go_sem ↓] Go.wp_at_zero Go.wp_at_succ

theorem split_v {w : World} {o : Value} {cs f : List Nat} {d s k : Nat} (hf : f = s :: cs) (h : Nv w o cs d) (hd : d ≤ 1000) (hs : s < 18446744073709551616) (hk : k ≤ 1000) :
    Calls Try.prog 13 #[.int .u64 (s : Int), o, .int .i64 (k : Int)] w fun e w' => (∃ B c', e = .returned (.slice B k c') ∧ St w' B k c' (Sr.split f k)) ∧ Below w.heap.size w w' := by
  rcases Nat.eq_zero_or_pos k with h0 | h0
  · subst h0
    refine (split_none s o ((0 : Nat) : Int) w (by omega)).mono ?_
    rintro e w' ⟨rfl, hb⟩
    exact ⟨⟨none, 0, rfl, St.empty w'⟩, hb⟩
  · obtain ⟨A, n, c, rfl, hp, hx, hn⟩ := h
    exact (split_any s k n c A f cs w hf hp hs hx (by omega) hk h0).mono fun e w' ⟨⟨B, h1, h2⟩, hb⟩ => ⟨⟨B, k, h1, h2⟩, hb⟩
theorem rsplit_v {w : World} {o : Value} {cs f : List Nat} {d s k : Nat} (hf : f = s :: cs) (h : Nv w o cs d) (hd : d ≤ 1000) (hk : k ≤ 1000) :
    Calls Try.prog 14 #[.int .u64 (s : Int), o, .int .i64 (k : Int)] w fun e w' => (∃ B c', e = .returned (.slice B k c') ∧ St w' B k c' (Sr.split f k)) ∧ Below w.heap.size w w' := by
  obtain ⟨A, n, c, rfl, hp, hx, hn⟩ := h
  refine (rsplit_any s k n c A f cs w hf hp (by omega) hk).mono ?_
  rintro e w' ⟨⟨z, rfl, hz⟩, hb⟩
  obtain ⟨B, c', rfl, h2⟩ := hz.st (Sr.split_small f (by omega))
  rw [Sr.split_len] at h2
  exact ⟨⟨B, c', by rw [Sr.split_len], h2⟩, hb⟩
theorem around_v (z : Int) (k : Nat) (w : World) (h1 : -9223372036854775808 ≤ z) (h2 : z ≤ 9223372036854775807) (hk : 0 < k) (hk2 : k ≤ 1000000) :
    Calls Try.prog 11 #[.int .i64 z, .int .i64 (k : Int)] w fun e w' => (∃ r : Nat, r < k ∧ e = .returned (.int .i64 (r : Int))) ∧ Below w.heap.size w w' :=
  (around_any z k w h1 h2 hk hk2).mono fun _ _ ⟨r, hr, h, e⟩ => ⟨⟨r, hr, h⟩, e ▸ Below.refl _ _⟩

set_option maxRecDepth 100000 in
set_option maxHeartbeats 4000000 in
theorem splits_walk (s n c : Nat) (z : Int) (A : Option Addr) (l : List Nat) (w : World) (hs : s < 18446744073709551616) (hA : In w A n c l) (hz1 : -9223372036854775808 ≤ z) (hz2 : z ≤ 9223372036854775807) :
    Calls Try.prog 3 #[.int .u64 (s : Int), .slice A n c, .int .i64 z] w fun e w' => e = .returned (.bool true) ∧ Below w.heap.size w w' := by
  have HN := Lib.hid (numsn_v hA 6 (by omega))
  have HAR := Lib.hid (fun W => around_v z 10 W hz1 hz2 (by omega) (by omega))
  obtain ⟨f, hf⟩ : ∃ f, f = s :: l.take 6 := ⟨_, rfl⟩
  have HF := Lib.hid hf
  have HLV := Lib.hid (fun W => lives9_any W)
  clear hA hz1 hz2 hf
  go_enter Try.func3, Try.ntmps3
  go_wp2_with fail
  refine (HN.out).mono ?_
  rintro e w1 ⟨⟨o, rfl, ho⟩, hb1⟩
  have HO1 := Lib.hid ho
  have K1 := Lib.hid hb1
  clear ho hb1 HN
  go_wp2_with fail
  refine (HAR.out _).mono ?_
  rintro e w2 ⟨⟨r, hr, rfl⟩, hb2⟩
  have HO2 := Lib.hid (HO1.out.below hb2)
  have K2 := Lib.hid (kept_trans K1.out hb2)
  clear hb2 HO1 K1 HAR
  go_wp2_with fail
  refine (split_v HF.out HO2.out (by omega) hs (by omega)).mono ?_
  rintro e w3 ⟨⟨B3, c3, rfl, h3⟩, hb3⟩
  have HO3 := Lib.hid (HO2.out.below hb3)
  have HS3 := Lib.hid h3
  have K3 := Lib.hid (kept_trans K2.out hb3)
  clear hb3 h3 HO2 K2
  go_wp2_with fail
  refine (rsplit_v HF.out HO3.out (by omega) (by omega)).mono ?_
  rintro e w4 ⟨⟨B4, c4, rfl, h4⟩, hb4⟩
  have HO4 := Lib.hid (HO3.out.below hb4)
  have HS4 := Lib.hid (HS3.out.below hb4)
  have HR4 := Lib.hid h4
  have K4 := Lib.hid (kept_trans K3.out hb4)
  clear hb4 h4 HO3 HS3 K3
  go_wp2_with fail
  refine (same_any _ _ _ _ _ _ w4 HS4.out HR4.out (by omega)).mono ?_
  rintro e w5 ⟨rfl, hb5⟩
  have HO5 := Lib.hid (HO4.out.below hb5)
  have K5 := Lib.hid (kept_trans K4.out hb5)
  have hneg : IntKind.i64.wrap (-(r : Int)) = -(r : Int) := by rw [IntKind.wrap_i64]; omega
  clear hb5 HO4 HS4 HR4 K4
  go_wp2_with fail
  refine (split_none s o (-(r : Int)) w5 (by omega)).mono ?_
  rintro e w6 ⟨rfl, hb6⟩
  have K6 := Lib.hid (kept_trans K5.out hb6)
  clear hb6 HO5 K5 hneg
  go_wp2_with fail
  refine (HLV.out _).mono ?_
  rintro e w7 ⟨rfl, hb7⟩
  have K7 := Lib.hid (kept_trans K6.out hb7)
  clear hb7 K6
  go_wp2
  go_ret
  exact ⟨rfl, K7.out⟩

end Go.Proofs.Ythnbkbmhlalpaaa
