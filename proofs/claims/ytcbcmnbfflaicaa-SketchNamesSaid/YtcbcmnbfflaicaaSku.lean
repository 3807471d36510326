/-
  SketchDiffs, walked: of two sets that differ in no more elements than there are values, less 2, Diff tells just those that only the one has, and that only the other one has.
-/
import Derived.Test.YtcbcmnbfflaicaaSkt
namespace Go.Proofs.Ytcbcmnbfflaicaa
open Go.RowKit
open Sk (pt Fit)

theorem around_v (z : Int) (k : Nat) (w : World) (h1 : -9223372036854775808 ≤ z) (h2 : z ≤ 9223372036854775807) (hk : 0 < k) (hk2 : k ≤ 1000000) :
    Calls Try.prog 12 #[.int .i64 z, .int .i64 (k : Int)] w fun e w' => (∃ r : Nat, r < k ∧ e = .returned (.int .i64 (r : Int))) ∧ Below w.heap.size w w' :=
  (around_any z k w h1 h2 hk hk2).mono fun _ _ ⟨r, hr, he, hw⟩ => ⟨⟨r, hr, he⟩, hw ▸ Below.refl _ _⟩

set_option maxRecDepth 100000 in
set_option maxHeartbeats 4000000 in
theorem diffs_walk (A B D : Option Addr) (n1 c1 n2 c2 n3 c3 : Nat) (l m b : List Nat) (z : Int) (w : World) (hA : In w A n1 c1 l) (hB : In w B n2 c2 m) (hD : In w D n3 c3 b) (hz1 : -9223372036854775808 ≤ z) (hz2 : z ≤ 9223372036854775807) :
    Calls Try.prog 4 #[.slice A n1 c1, .slice B n2 c2, .slice D n3 c3, .int .i64 z] w fun e w' => e = .returned (.bool true) ∧ Below w.heap.size w w' := by
  have L0 := Lib.hid (hA)
  have M0 := Lib.hid (hB)
  have B0 := Lib.hid (hD)
  have KB0 := Lib.hid (Below.refl w.heap.size w)
  have HZ := Lib.hid (And.intro hz1 hz2)
  clear hA hB hD hz1 hz2
  obtain ⟨a, ha⟩ : ∃ a, a = uni (setf l) (setf b) := ⟨_, rfl⟩
  obtain ⟨bb, hbb⟩ : ∃ bb, bb = uni (setf m) (setf b) := ⟨_, rfl⟩
  have sa : St a := by rw [ha]; exact (st_set l).uni (st_set b)
  have sb : St bb := by rw [hbb]; exact (st_set m).uni (st_set b)
  have la : a.length ≤ 24 := by have h := uni_len (setf l) (setf b); have := setf_len l; have := setf_len b; rw [← ha] at h; omega
  have lb : bb.length ≤ 24 := by have h := uni_len (setf m) (setf b); have := setf_len m; have := setf_len b; rw [← hbb] at h; omega
  have HXL : Hid (∀ x y, Onl a bb a.length x → Onl bb a bb.length y → x.length ≤ 12 ∧ y.length ≤ 12) := Lib.hid fun x y hx hy => by
    refine ⟨Nat.le_trans (sub_len (L := setf l) hx.nodup (fun v hv => ?_) (setf_el l).lt) (setf_len l), Nat.le_trans (sub_len (L := setf m) hy.nodup (fun v hv => ?_) (setf_el m).lt) (setf_len m)⟩
    · obtain ⟨h1, h2⟩ := (hx.mem v).1 hv
      rw [List.take_length, ha, uni_mem] at h1
      rw [hbb, uni_mem] at h2
      exact h1.resolve_right fun h => h2 (.inr h)
    · obtain ⟨h1, h2⟩ := (hy.mem v).1 hv
      rw [List.take_length, hbb, uni_mem] at h1
      rw [ha, uni_mem] at h2
      exact h1.resolve_right fun h => h2 (.inr h)
  have HA := Lib.hid ha
  have HBB := Lib.hid hbb
  have SA := Lib.hid sa
  have SB := Lib.hid sb
  have LA := Lib.hid la
  have LB := Lib.hid lb
  clear ha hbb sa sb la lb
  go_enter Try.func4, Try.ntmps4
  go_wp2_with fail
  refine (set_v L0.out).mono ?_
  rintro e w1 ⟨⟨z1, rfl, hs1⟩, hb1⟩
  have M1 := Lib.hid (M0.out.below hb1)
  have B1 := Lib.hid (B0.out.below hb1)
  have KB1 := Lib.hid (KB0.out.trans (hb1.mono KB0.out.size))
  clear hb1
  have S1 := Lib.hid hs1
  clear hs1
  go_wp2_with fail
  refine (set_v B1.out).mono ?_
  rintro e w2 ⟨⟨z2, rfl, hs2⟩, hb2⟩
  have M2 := Lib.hid (M1.out.below hb2)
  have B2 := Lib.hid (B1.out.below hb2)
  have S2 := Lib.hid (S1.out.below hb2)
  have KB2 := Lib.hid (KB1.out.trans (hb2.mono KB1.out.size))
  clear hb2
  have T2 := Lib.hid hs2
  clear hs2
  go_wp2_with fail
  refine (union_v S2.out T2.out (by omega) (by omega)).mono ?_
  rintro e w3 ⟨⟨z3, rfl, hs3⟩, hb3⟩
  have M3 := Lib.hid (M2.out.below hb3)
  have B3 := Lib.hid (B2.out.below hb3)
  have KB3 := Lib.hid (KB2.out.trans (hb3.mono KB2.out.size))
  clear hb3
  have U3 := Lib.hid hs3
  clear hs3
  rw [← HA.out] at U3
  go_wp2_with fail
  refine (set_v M3.out).mono ?_
  rintro e w4 ⟨⟨z4, rfl, hs4⟩, hb4⟩
  have B4 := Lib.hid (B3.out.below hb4)
  have U4 := Lib.hid (U3.out.below hb4)
  have KB4 := Lib.hid (KB3.out.trans (hb4.mono KB3.out.size))
  clear hb4
  have S4 := Lib.hid hs4
  clear hs4
  go_wp2_with fail
  refine (set_v B4.out).mono ?_
  rintro e w5 ⟨⟨z5, rfl, hs5⟩, hb5⟩
  have U5 := Lib.hid (U4.out.below hb5)
  have S5 := Lib.hid (S4.out.below hb5)
  have KB5 := Lib.hid (KB4.out.trans (hb5.mono KB4.out.size))
  clear hb5
  have T5 := Lib.hid hs5
  clear hs5
  go_wp2_with fail
  refine (union_v S5.out T5.out (by omega) (by omega)).mono ?_
  rintro e w6 ⟨⟨z6, rfl, hs6⟩, hb6⟩
  have U6 := Lib.hid (U5.out.below hb6)
  have KB6 := Lib.hid (KB5.out.trans (hb6.mono KB5.out.size))
  clear hb6
  have V6 := Lib.hid hs6
  clear hs6
  rw [← HBB.out] at V6
  go_wp2_with fail
  refine (only_v U6.out V6.out (by omega) (by omega) SA.out.nd).mono ?_
  rintro e w7 ⟨⟨Ax, x, mx, cx, rfl, hmx, hx, hox⟩, hb7⟩
  have U7 := Lib.hid (U6.out.below hb7)
  have V7 := Lib.hid (V6.out.below hb7)
  have KB7 := Lib.hid (KB6.out.trans (hb7.mono KB6.out.size))
  clear hb7
  have X7 := Lib.hid hx
  clear hx
  have HOX := Lib.hid hox
  have HMX := Lib.hid hmx
  clear hox hmx
  go_wp2_with fail
  refine (only_v V7.out U7.out (by omega) (by omega) SB.out.nd).mono ?_
  rintro e w8 ⟨⟨Ay, y, my, cy, rfl, hmy, hy, hoy⟩, hb8⟩
  have U8 := Lib.hid (U7.out.below hb8)
  have V8 := Lib.hid (V7.out.below hb8)
  have X8 := Lib.hid (X7.out.below hb8)
  have KB8 := Lib.hid (KB7.out.trans (hb8.mono KB7.out.size))
  clear hb8
  have Y8 := Lib.hid hy
  clear hy
  have hl12 := HXL.out x y HOX.out hoy
  have HDF := Lib.hid (Df.of HOX.out hoy)
  have HMY := Lib.hid hmy
  have hmx12 : mx ≤ 12 := by have := HMX.out; omega
  have hmy12 : my ≤ 12 := by omega
  have HL12 := Lib.hid hl12
  clear hoy hmy hl12
  obtain ⟨s, hs⟩ : ∃ s, s = mx + my := ⟨_, rfl⟩
  have s1 : (mx : Int) + (my : Int) = (s : Int) := by omega
  obtain ⟨t, ht⟩ : ∃ t, t = s + 2 := ⟨_, rfl⟩
  have s2 : (s : Int) + 2 = (t : Int) := by omega
  have HSM := Lib.hid (And.intro hs ht)
  have htl : t ≤ 26 := by omega
  clear hs ht
  go_wp2_with fail
  refine (around_v z 7 _ HZ.out.1 HZ.out.2 (by omega) (by omega)).mono ?_
  rintro e w9 ⟨⟨r, hr, rfl⟩, hb9⟩
  have U9 := Lib.hid (U8.out.below hb9)
  have V9 := Lib.hid (V8.out.below hb9)
  have X9 := Lib.hid (X8.out.below hb9)
  have Y9 := Lib.hid (Y8.out.below hb9)
  have KB9 := Lib.hid (KB8.out.trans (hb9.mono KB8.out.size))
  clear hb9
  obtain ⟨n, hn⟩ : ∃ n, n = t + r := ⟨_, rfl⟩
  have s3 : (t : Int) + (r : Int) = (n : Int) := by omega
  have hnl : n ≤ 1000 := by omega
  have HNN := Lib.hid hn
  clear hn
  go_wp2_with fail
  refine (of_v U9.out (by omega) hnl).mono ?_
  rintro e w10 ⟨⟨A10, c10, rfl, hk1⟩, hb10⟩
  have U10 := Lib.hid (U9.out.below hb10)
  have V10 := Lib.hid (V9.out.below hb10)
  have X10 := Lib.hid (X9.out.below hb10)
  have Y10 := Lib.hid (Y9.out.below hb10)
  have KB10 := Lib.hid (KB9.out.trans (hb10.mono KB9.out.size))
  clear hb10
  have K10 := Lib.hid hk1
  clear hk1
  go_wp2_with fail
  refine (of_v V10.out (by omega) hnl).mono ?_
  rintro e w11 ⟨⟨A11, c11, rfl, hk2⟩, hb11⟩
  have U11 := Lib.hid (U10.out.below hb11)
  have V11 := Lib.hid (V10.out.below hb11)
  have X11 := Lib.hid (X10.out.below hb11)
  have Y11 := Lib.hid (Y10.out.below hb11)
  have K11 := Lib.hid (K10.out.below hb11)
  have KB11 := Lib.hid (KB10.out.trans (hb11.mono KB10.out.size))
  clear hb11
  have Q11 := Lib.hid hk2
  clear hk2
  go_wp2_with fail
  refine (diff_v K11.out Q11.out SA.out SB.out rfl rfl (by have := LA.out; omega) (by have := LB.out; omega) hnl HDF.out HL12.out.1 HL12.out.2 (by have := HSM.out; have := HNN.out; have := HMX.out; have := HMY.out; omega)).mono ?_
  rintro e w12 ⟨⟨x1, y1, rfl, hx1, hy1⟩, hb12⟩
  have X12 := Lib.hid (X11.out.below hb12)
  have Y12 := Lib.hid (Y11.out.below hb12)
  have KB12 := Lib.hid (KB11.out.trans (hb12.mono KB11.out.size))
  clear hb12
  have P12 := Lib.hid hx1
  have R12 := Lib.hid hy1
  clear hx1 hy1
  go_wp2_with fail
  refine (same_v P12.out X12.out (by omega) (by omega) rfl).mono ?_
  rintro e w13 ⟨rfl, hb13⟩
  have X13 := Lib.hid (X12.out.below hb13)
  have Y13 := Lib.hid (Y12.out.below hb13)
  have P13 := Lib.hid (P12.out.below hb13)
  have R13 := Lib.hid (R12.out.below hb13)
  have KB13 := Lib.hid (KB12.out.trans (hb13.mono KB12.out.size))
  clear hb13
  go_wp2_with fail
  refine (same_v R13.out Y13.out (by omega) (by omega) rfl).mono ?_
  rintro e w14 ⟨rfl, hb14⟩
  have X14 := Lib.hid (X13.out.below hb14)
  have Y14 := Lib.hid (Y13.out.below hb14)
  have P14 := Lib.hid (P13.out.below hb14)
  have R14 := Lib.hid (R13.out.below hb14)
  have KB14 := Lib.hid (KB13.out.trans (hb14.mono KB13.out.size))
  clear hb14
  go_wp2_with fail
  refine (lives_any _).mono ?_
  rintro e w15 ⟨rfl, hb15⟩
  have X15 := Lib.hid (X14.out.below hb15)
  have Y15 := Lib.hid (Y14.out.below hb15)
  have P15 := Lib.hid (P14.out.below hb15)
  have R15 := Lib.hid (R14.out.below hb15)
  have KB15 := Lib.hid (KB14.out.trans (hb15.mono KB14.out.size))
  clear hb15
  go_wp2
  go_ret
  exact ⟨rfl, KB15.out⟩

end Go.Proofs.Ytcbcmnbfflaicaa
