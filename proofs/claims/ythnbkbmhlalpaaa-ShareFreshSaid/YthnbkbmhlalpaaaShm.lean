/-
  ShareEnough: any as many shares as there are coefficients, and one more, tell the secret, and each other share. ShareRow: the row of shares is nothing, and one more that fits tells nothing else.
-/
import Derived.Test.YthnbkbmhlalpaaaShl
namespace Go.Proofs.Ythnbkbmhlalpaaa
open Go.RowKit Go.Maps
attribute [local go_sem ↓] Go.wp_at_zero Go.wp_at_succ

namespace Sr
/-- Enough of a secret's shares tell all of them. -/
theorem Some.tell {f : List Nat} {n most : Nat} {L : List Shr} (h : Some (split f n) most L) (hn : n ≤ 1000000) (hm : f.length ≤ L.length) (h0 : 0 < f.length) (x : Nat) : Sr.tell L x = (vl (Pl.co f) x, 0) := by
  have h1 : Of (Pl.co f) L := (Row.split f n).some (by rw [split_len]; exact hn) h
  exact h1.tell (Pl.Lt.co f) hm (by intro e; rw [e, List.length_nil] at hm; omega) x
theorem Some.small {f : List Nat} {n most : Nat} {L : List Shr} (h : Some (split f n) most L) (hn : n ≤ 1000000) : Sm64 L := fun s hs => split_small f hn s (h.mem hs)
end Sr
/-- What Some answers, as a slice. -/
theorem some_v {A A2 : Option Addr} {n c m c2 most q : Nat} {f : List Nat} {is : List Int} {w : World} (hA : St w A n c (Sr.split f n)) (hI : Iz w A2 m is) (hn : n ≤ 1000) (hn0 : 0 < n) (hmost : most ≤ n) (hq : q = most) :
    Calls Try.prog 21 #[.slice A n c, .slice A2 m c2, .int .i64 (most : Int)] w fun e w' => (∃ B c' L, e = .returned (.slice B q c') ∧ St w' B q c' L ∧ Sr.Some (Sr.split f n) most L) ∧ Below w.heap.size w w' := by
  refine (some_any A A2 n c m c2 most _ is w hA hI hn hn0 (by omega)).mono ?_
  rintro e w' ⟨⟨z, L, rfl, hz, hL⟩, hb⟩
  obtain ⟨B, c', rfl, hst⟩ := hz.st (hL.small (by omega))
  have hl : L.length = q := by rw [hL.len, Sr.split_len]; omega
  rw [hl] at hst ⊢
  exact ⟨⟨B, c', L, rfl, hst, hL⟩, hb⟩

set_option maxRecDepth 100000 in
set_option maxHeartbeats 4000000 in
theorem enough_walk (s n c m2 c2 : Nat) (z : Int) (A A2 : Option Addr) (l : List Nat) (is : List Int) (w : World) (hs : s < 18446744073709551616) (hA : In w A n c l) (hI : Iz w A2 m2 is) (hz1 : -9223372036854775808 ≤ z) (hz2 : z ≤ 9223372036854775807) :
    Calls Try.prog 6 #[.int .u64 (s : Int), .slice A n c, .slice A2 m2 c2, .int .i64 z] w fun e w' => e = .returned (.bool true) ∧ Below w.heap.size w w' := by
  have HN := Lib.hid (numsn_v hA 5 (by omega))
  have HI := Lib.hid hI
  have HAR := Lib.hid (fun W => around_v z 4 W hz1 hz2 (by omega) (by omega))
  obtain ⟨f, hf⟩ : ∃ f, f = s :: l.take 5 := ⟨_, rfl⟩
  have HF := Lib.hid hf
  have HLV := Lib.hid (fun W => lives9_any W)
  have HNUM := Lib.hid (fun W => num_any s W hs)
  clear hA hI hz1 hz2 hf
  go_enter Try.func6, Try.ntmps6
  go_wp2_with fail
  refine (HN.out).mono ?_
  rintro e w1 ⟨⟨o, rfl, ho⟩, hb1⟩
  obtain ⟨Ac, m, cc, rfl, hp, hx, hm5⟩ := id ho
  have HO1 := Lib.hid ho
  have HI1 := Lib.hid (HI.out.below hb1)
  have K1 := Lib.hid hb1
  obtain ⟨p, hpe⟩ : ∃ p, p = m + 1 := ⟨_, rfl⟩
  have hpm : (m : Int) + 1 = (p : Int) := by omega
  have hfl : f.length = p := by rw [HF.out, List.length_cons, ← hp.1, hpe]
  have HFL := Lib.hid hfl
  have hp6 : p ≤ 6 := by omega
  have hp0 : 0 < p := by omega
  clear ho hb1 HN HI hp hx hpe hfl
  go_wp2_with fail
  refine (split_v HF.out HO1.out (by omega) hs (by omega : 9 ≤ 1000)).mono ?_
  rintro e w2 ⟨⟨B2, c3, rfl, h2⟩, hb2⟩
  have HS2 := Lib.hid h2
  have HI2 := Lib.hid (HI1.out.below hb2)
  have K2 := Lib.hid (kept_trans K1.out hb2)
  clear hb2 h2 HI1 HO1 K1
  go_wp2_with fail
  refine (HAR.out _).mono ?_
  rintro e w3 ⟨⟨r, hr, rfl⟩, hb3⟩
  have HS3 := Lib.hid (HS2.out.below hb3)
  have HI3 := Lib.hid (HI2.out.below hb3)
  have K3 := Lib.hid (kept_trans K2.out hb3)
  obtain ⟨q, hq⟩ : ∃ q, q = p + r := ⟨_, rfl⟩
  have hqi : (p : Int) + (r : Int) = (q : Int) := by omega
  have hq9 : q ≤ 9 := by omega
  have hpq : p ≤ q := by omega
  clear hb3 HS2 HI2 K2 hq
  go_wp2_with fail
  refine (some_v HS3.out HI3.out (by omega) (by omega) hq9 rfl).mono ?_
  rintro e w4 ⟨⟨B4, c4, L, rfl, h4, hL⟩, hb4⟩
  have HS4 := Lib.hid (HS3.out.below hb4)
  have HL4 := Lib.hid h4
  have K4 := Lib.hid (kept_trans K3.out hb4)
  have htell := fun x => hL.tell (by omega) (by rw [HFL.out, ← h4.len]; exact hpq) (by rw [HFL.out]; exact hp0) x
  have ht0 : Sr.tell L 0 = (Fld.num s, 0) := by rw [htell 0, HF.out, Sr.vl_zero_at]
  have HT := Lib.hid htell
  have HT0 := Lib.hid ht0
  clear hb4 h4 hL HS3 HI3 K3 htell ht0
  obtain ⟨y, hy⟩ : ∃ y, y = Fld.num s := ⟨_, rfl⟩
  rw [← hy] at HT0 HNUM
  clear hy
  go_wp2_with fail
  refine (join_any B4 q c4 y 0 L w4 HL4.out (by omega) HT0.out).mono ?_
  rintro e w5 ⟨rfl, hb5⟩
  have HS5 := Lib.hid (HS4.out.below hb5)
  have HL5 := Lib.hid (HL4.out.below hb5)
  have K5 := Lib.hid (kept_trans K4.out hb5)
  clear hb5 HS4 HL4 K4
  go_wp2_with fail
  refine (HNUM.out _).mono ?_
  rintro e w6 ⟨rfl, rfl⟩
  have hk0 : Below w5.heap.size w5 w5 := Below.refl _ _
  go_wp2
  go_loopw [15] (fun i wr => ∃ k : Nat, i = .int .i64 (k : Int) ∧ k ≤ 9 ∧ Below w5.heap.size w5 wr) (fun i _ => 9 - (intOf i).toNat)
  case atStart => exact ⟨0, rfl, Nat.zero_le _, hk0⟩
  case round =>
    obtain ⟨k, rfl, hk, hb⟩ := hrel
    have HB := Lib.hid hb
    clear hk0 hb
    by_cases hlt : k < 9
    · have hsp := Sr.split_at f 9 hlt
      obtain ⟨a, ha⟩ : ∃ a, a = k + 1 := ⟨_, rfl⟩
      obtain ⟨v, hv⟩ : ∃ v, v = Pl.hv (k + 1) f := ⟨_, rfl⟩
      rw [← hv, ← ha] at hsp
      obtain ⟨b, off, rfl, hbb, -, c1, c2⟩ := HS5.out.spot hsp
      have r1 := (HB.out.cell (p := ⟨b, off + k * 2, none⟩) hbb).trans c1
      have HC2 := Lib.hid c2
      have ht : Sr.tell L a = (v, 0) := by rw [HT.out a, ← hv_vl, hv, ha]
      have hat := Lib.hid (at_any B4 q c4 a v 0 L wr (HL5.out.below HB.out) (by omega) (by omega) ht)
      have q1 : (k : Int) < 9 := by omega
      clear c1 c2 hsp ha hv ht
      go_wp2_with fail
      refine (hat.out).mono ?_
      rintro e w7 ⟨rfl, hb7⟩
      have HB7 := Lib.hid (kept_trans HB.out hb7)
      have r2 := (HB7.out.cell (p := ⟨b, off + k * 2 + 1, none⟩) hbb).trans HC2.out
      clear hb7 hat HB r1
      go_wp2
      go_roundw
      case rel => exact ⟨k + 1, by go_num, hlt, HB7.out⟩
      case measure => simp [intOf]; omega
    · obtain rfl : k = 9 := by omega
      go_wp2_with fail
      refine (HLV.out _).mono ?_
      rintro e w7 ⟨rfl, hb7⟩
      have K7 := Lib.hid (kept_trans K5.out (kept_trans HB.out hb7))
      clear hb7
      go_wp2
      go_ret
      exact ⟨rfl, K7.out⟩

end Go.Proofs.Ythnbkbmhlalpaaa
