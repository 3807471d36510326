/-
  What Diff tells of two sets' sketches, as lists; sketches in variables; SketchTurned, walked: turned round Diff tells the same turned round, and of a set and itself nothing.
-/
import Derived.Test.YtcbcmnbfflaicaaSku
namespace Go.Proofs.Ytcbcmnbfflaicaa
open Go.RowKit
open Sk (pt Fit)

open Classical in
/-- What Diff tells of two sets' sketches of so many values. -/
noncomputable def dfn (a b : List Nat) (n : Nat) : List Nat × List Nat × Nat :=
  if h : ∃ pq : List Nat × List Nat, Fit (vls a n) (vls b n) a.length b.length pq.1 pq.2 then (h.choose.1, h.choose.2, 0) else ([], [], 32)
theorem vls_uniq {a b p q p' q' : List Nat} {n : Nat} (ha : El a) (hn : n ≤ 1000000) (h : Fit (vls a n) (vls b n) a.length b.length p q) (h' : Fit (vls a n) (vls b n) a.length b.length p' q') : p = p' ∧ q = q' :=
  fit_uniq (by rw [vls_len]; exact hn) (fun k hk => vls_ne ha hn k (by rw [vls_len] at hk; exact hk)) h h'
theorem dfn_fit {a b p q : List Nat} {n : Nat} (ha : El a) (hn : n ≤ 1000000) (h : Fit (vls a n) (vls b n) a.length b.length p q) : dfn a b n = (p, q, 0) := by
  have hx : ∃ pq : List Nat × List Nat, Fit (vls a n) (vls b n) a.length b.length pq.1 pq.2 := ⟨(p, q), h⟩
  unfold dfn
  rw [dif_pos hx]
  obtain ⟨e1, e2⟩ := vls_uniq ha hn hx.choose_spec h
  rw [e1, e2]
theorem dfn_no {a b : List Nat} {n : Nat} (h : ∀ p q, ¬ Fit (vls a n) (vls b n) a.length b.length p q) : dfn a b n = ([], [], 32) := by
  unfold dfn
  rw [dif_neg (fun ⟨pq, hp⟩ => h _ _ hp)]
theorem dfn_cases {a b : List Nat} (n : Nat) (ha : El a) (hn : n ≤ 1000000) : (∃ p q, dfn a b n = (p, q, 0) ∧ Fit (vls a n) (vls b n) a.length b.length p q) ∨ (dfn a b n = ([], [], 32) ∧ ∀ p q, ¬ Fit (vls a n) (vls b n) a.length b.length p q) := by
  by_cases h : ∃ p q, Fit (vls a n) (vls b n) a.length b.length p q
  · obtain ⟨p, q, h⟩ := h
    exact .inl ⟨p, q, dfn_fit ha hn h, h⟩
  · have h2 : ∀ p q, ¬ Fit (vls a n) (vls b n) a.length b.length p q := fun p q hp => h ⟨p, q, hp⟩
    exact .inr ⟨dfn_no h2, h2⟩
theorem dfn_flip {a b x y : List Nat} {n e : Nat} (ha : El a) (hb : El b) (hn : n ≤ 1000000) (h : dfn a b n = (x, y, e)) : dfn b a n = (y, x, e) := by
  rcases dfn_cases (a := a) (b := b) n ha hn with ⟨p, q, h1, h2⟩ | ⟨h1, h2⟩
  · rw [h1] at h
    injection h with e1 h
    injection h with e2 e3
    subst e1 e2 e3
    exact dfn_fit hb hn (h2.flip (by rw [vls_len, vls_len]))
  · rw [h1] at h
    injection h with e1 h
    injection h with e2 e3
    subst e1 e2 e3
    exact dfn_no fun p q hp => h2 q p (hp.flip (by rw [vls_len, vls_len]))
theorem of_vn {w : World} {o : Value} {l : List Nat} {d n na : Nat} (h : Nv w o l d) (hna : na = l.length) (hd : d ≤ 1000) (hn : n ≤ 1000) :
    Calls Try.prog 13 #[o, .int .i64 (n : Int)] w fun e w' => (∃ A c, e = .returned (.agg #[.int .i64 (na : Int), .slice A n c]) ∧ Kt w' A c l n) ∧ Below w.heap.size w w' := by
  rw [hna]; exact of_v h hd hn
theorem diff_f {w : World} {A A' : Option Addr} {c c' n na nb er : Nat} {a b x y : List Nat} (h : Kt w A c a n) (h' : Kt w A' c' b n) (ha : St a) (hna : na = a.length) (hnb : nb = b.length) (hla : a.length ≤ 1000) (hlb : b.length ≤ 1000) (hn : n ≤ 14) (hd : dfn a b n = (x, y, er)) :
    Calls Try.prog 21 #[.agg #[.int .i64 (na : Int), .slice A n c], .agg #[.int .i64 (nb : Int), .slice A' n c']] w fun e w' => (∃ A1 m1 k1 A2 m2 k2, e = .returned (.tuple #[.slice A1 m1 k1, .slice A2 m2 k2, .int .i64 (er : Int)]) ∧ m1 = x.length ∧ m2 = y.length ∧ Nv w' (.slice A1 m1 k1) x 12 ∧ Nv w' (.slice A2 m2 k2) y 12) ∧ Below w.heap.size w w' := by
  subst hna hnb
  refine (diff14_v h h' ha rfl rfl hla hlb hn).mono ?_
  rintro e w' ⟨⟨A1, p, m, k, A2, q, m', k', rfl, hm, hm', hp, hq, hf⟩ | ⟨rfl, hno⟩, hb⟩
  · rw [dfn_fit ha.el (by omega) hf] at hd
    injection hd with e1 hd
    injection hd with e2 e3
    subst e1 e2 e3
    exact ⟨⟨A1, m, k, A2, m', k', rfl, hm, hm', hp, hq⟩, hb⟩
  · rw [dfn_no hno] at hd
    injection hd with e1 hd
    injection hd with e2 e3
    subst e1 e2 e3
    exact ⟨⟨none, 0, 0, none, 0, 0, rfl, rfl, rfl, ⟨none, 0, 0, rfl, Pt.nil w', by simp, by omega⟩, ⟨none, 0, 0, rfl, Pt.nil w', by simp, by omega⟩⟩, hb⟩
/-- A sketch in a variable. -/
def Bs (w : World) (b : Nat) (na : Nat) (A : Option Addr) (n c : Nat) : Prop := Blk w b 29 #[.int .i64 (na : Int), .slice A n c]
theorem Bs.below {w w' : World} {b na n c : Nat} {A : Option Addr} (h : Bs w b na A n c) (hb : Below w.heap.size w w') : Bs w' b na A n c := (hb.block b (Blk.lt h)).trans h
theorem Bs.new (w : World) (na : Nat) (A : Option Addr) (n c : Nat) : Bs (w.alloc (.cells #[.int .i64 (na : Int), .slice A n c] 29)) w.heap.size na A n c := blk_new w _ _
theorem Bs.c0 {w : World} {b na n c : Nat} {A : Option Addr} (h : Bs w b na A n c) : w.cell? ⟨b, 0, none⟩ = some (.int .i64 (na : Int)) := Blk.cell h 0
theorem Bs.c1 {w : World} {b na n c : Nat} {A : Option Addr} (h : Bs w b na A n c) : w.cell? ⟨b, 1, none⟩ = some (.slice A n c) := Blk.cell h 1
theorem Df.refl (a : List Nat) : Df a a [] [] := ⟨List.Pairwise.nil, List.Pairwise.nil, fun v => by simp, fun v => by simp⟩
theorem dfn_self {a : List Nat} (ha : St a) {n : Nat} (hn : n ≤ 1000000) (h2 : 2 ≤ n) : dfn a a n = ([], [], 0) := dfn_fit ha.el hn ((Df.refl a).fit ha.nd ha.nd ha.el ha.el (by simpa using h2))

set_option maxRecDepth 100000 in
set_option maxHeartbeats 4000000 in
theorem turned_walk (A B : Option Addr) (n1 c1 n2 c2 : Nat) (l m : List Nat) (z : Int) (w : World) (hA : In w A n1 c1 l) (hB : In w B n2 c2 m) (hz1 : -9223372036854775808 ≤ z) (hz2 : z ≤ 9223372036854775807) :
    Calls Try.prog 6 #[.slice A n1 c1, .slice B n2 c2, .int .i64 z] w fun e w' => e = .returned (.bool true) ∧ Below w.heap.size w w' := by
  have L0 := Lib.hid (hA)
  have M0 := Lib.hid (hB)
  have KB0 := Lib.hid (Below.refl w.heap.size w)
  have HZ := Lib.hid (And.intro hz1 hz2)
  clear hA hB hz1 hz2
  obtain ⟨a, ha⟩ : ∃ a, a = setf l := ⟨_, rfl⟩
  obtain ⟨b, hb⟩ : ∃ b, b = setf m := ⟨_, rfl⟩
  have SA := Lib.hid (show St a by rw [ha]; exact st_set l)
  have SB := Lib.hid (show St b by rw [hb]; exact st_set m)
  have LA := Lib.hid (show a.length ≤ 12 by rw [ha]; exact setf_len l)
  have LB := Lib.hid (show b.length ≤ 12 by rw [hb]; exact setf_len m)
  have HAE := Lib.hid ha
  have HBE := Lib.hid hb
  clear ha hb
  obtain ⟨na, hna⟩ : ∃ na, na = a.length := ⟨_, rfl⟩
  obtain ⟨nb, hnb⟩ : ∃ nb, nb = b.length := ⟨_, rfl⟩
  have hna12 : na ≤ 12 := by have := LA.out; omega
  have hnb12 : nb ≤ 12 := by have := LB.out; omega
  have HNA := Lib.hid hna
  have HNB := Lib.hid hnb
  clear hna hnb
  go_enter Try.func6, Try.ntmps6
  go_wp2_with fail
  refine (around_v z 11 _ HZ.out.1 HZ.out.2 (by omega) (by omega)).mono ?_
  rintro e w1 ⟨⟨r, hr, rfl⟩, hb1⟩
  have L1 := Lib.hid (L0.out.below hb1)
  have M1 := Lib.hid (M0.out.below hb1)
  have KB1 := Lib.hid (KB0.out.trans (hb1.mono KB0.out.size))
  clear hb1
  obtain ⟨n, hn⟩ : ∃ n, n = 2 + r := ⟨_, rfl⟩
  have s3 : (2 : Int) + (r : Int) = (n : Int) := by omega
  have hn2 : 2 ≤ n := by omega
  have hnl : n ≤ 12 := by omega
  obtain ⟨x, y, er, hd⟩ : ∃ x y er, dfn a b n = (x, y, er) := ⟨_, _, _, rfl⟩
  have HD := Lib.hid hd
  have HD2 := Lib.hid (dfn_flip SA.out.el SB.out.el (by omega) hd)
  have HD3 := Lib.hid (dfn_self SA.out (n := n) (by omega) hn2)
  clear hn hd
  go_wp2_with fail
  refine (set_v L1.out).mono ?_
  rintro e w2 ⟨⟨z1, rfl, hs1⟩, hb2⟩
  have M2 := Lib.hid (M1.out.below hb2)
  have KB2 := Lib.hid (KB1.out.trans (hb2.mono KB1.out.size))
  clear hb2
  have S2 := Lib.hid hs1
  clear hs1
  rw [← HAE.out] at S2
  go_wp2_with fail
  refine (of_vn S2.out HNA.out (by omega) (by omega)).mono ?_
  rintro e w3 ⟨⟨A1, e1, rfl, hk1⟩, hb3⟩
  have M3 := Lib.hid (M2.out.below hb3)
  have KB3 := Lib.hid (KB2.out.trans (hb3.mono KB2.out.size))
  clear hb3
  have K3 := Lib.hid hk1
  clear hk1
  have hb4 := (Below.refl w3.heap.size w3).alloc (Nat.le_refl _) ((.cells #[.int .i64 (na : Int), .slice A1 n e1] 29))
  have M4 := Lib.hid (M3.out.below hb4)
  have K4 := Lib.hid (K3.out.below hb4)
  have KB4 := Lib.hid (KB3.out.trans (hb4.mono KB3.out.size))
  clear hb4
  have BS4 := Lib.hid (Bs.new w3 na A1 n e1)
  go_wp2_with fail
  refine (set_v M4.out).mono ?_
  rintro e w5 ⟨⟨z2, rfl, hs2⟩, hb5⟩
  have K5 := Lib.hid (K4.out.below hb5)
  have BS5 := Lib.hid (BS4.out.below hb5)
  have KB5 := Lib.hid (KB4.out.trans (hb5.mono KB4.out.size))
  clear hb5
  have S5 := Lib.hid hs2
  clear hs2
  rw [← HBE.out] at S5
  go_wp2_with fail
  refine (of_vn S5.out HNB.out (by omega) (by omega)).mono ?_
  rintro e w6 ⟨⟨A2, e2, rfl, hk2⟩, hb6⟩
  have K6 := Lib.hid (K5.out.below hb6)
  have BS6 := Lib.hid (BS5.out.below hb6)
  have KB6 := Lib.hid (KB5.out.trans (hb6.mono KB5.out.size))
  clear hb6
  have Q6 := Lib.hid hk2
  clear hk2
  have hb7 := (Below.refl w6.heap.size w6).alloc (Nat.le_refl _) ((.cells #[.int .i64 (nb : Int), .slice A2 n e2] 29))
  have K7 := Lib.hid (K6.out.below hb7)
  have BS7 := Lib.hid (BS6.out.below hb7)
  have Q7 := Lib.hid (Q6.out.below hb7)
  have KB7 := Lib.hid (KB6.out.trans (hb7.mono KB6.out.size))
  clear hb7
  have BT7 := Lib.hid (Bs.new w6 nb A2 n e2)
  have qBS0 := BS7.out.c0
  have qBS1 := BS7.out.c1
  have qBT0 := BT7.out.c0
  have qBT1 := BT7.out.c1
  go_wp2_with fail
  refine (diff_f K7.out Q7.out SA.out HNA.out HNB.out (by have := LA.out; omega) (by have := LB.out; omega) (by omega) HD.out).mono ?_
  rintro e w8 ⟨⟨X1, m1, k1, Y1, m2, k2, rfl, hm1, hm2, hx1, hy1⟩, hb8⟩
  have K8 := Lib.hid (K7.out.below hb8)
  have BS8 := Lib.hid (BS7.out.below hb8)
  have Q8 := Lib.hid (Q7.out.below hb8)
  have BT8 := Lib.hid (BT7.out.below hb8)
  have KB8 := Lib.hid (KB7.out.trans (hb8.mono KB7.out.size))
  clear hb8
  have X8 := Lib.hid hx1
  have Y8 := Lib.hid hy1
  clear hx1 hy1
  have HM1 := Lib.hid (And.intro hm1 hm2)
  clear hm1 hm2
  clear qBS0 qBS1 qBT0 qBT1
  have qBS0 := BS8.out.c0
  have qBS1 := BS8.out.c1
  have qBT0 := BT8.out.c0
  have qBT1 := BT8.out.c1
  go_wp2_with fail
  refine (diff_f Q8.out K8.out SB.out HNB.out HNA.out (by have := LB.out; omega) (by have := LA.out; omega) (by omega) HD2.out).mono ?_
  rintro e w9 ⟨⟨P1, m3, k3, R1, m4, k4, rfl, hm3, hm4, hp1, hr1⟩, hb9⟩
  have K9 := Lib.hid (K8.out.below hb9)
  have BS9 := Lib.hid (BS8.out.below hb9)
  have Q9 := Lib.hid (Q8.out.below hb9)
  have BT9 := Lib.hid (BT8.out.below hb9)
  have X9 := Lib.hid (X8.out.below hb9)
  have Y9 := Lib.hid (Y8.out.below hb9)
  have KB9 := Lib.hid (KB8.out.trans (hb9.mono KB8.out.size))
  clear hb9
  have P9 := Lib.hid hp1
  have R9 := Lib.hid hr1
  clear hp1 hr1
  have HM2 := Lib.hid (And.intro hm3 hm4)
  clear hm3 hm4
  clear qBS0 qBS1 qBT0 qBT1
  have qBS0 := BS9.out.c0
  have qBS1 := BS9.out.c1
  go_wp2_with fail
  refine (diff_f K9.out K9.out SA.out HNA.out HNA.out (by have := LA.out; omega) (by have := LA.out; omega) (by omega) HD3.out).mono ?_
  rintro e w10 ⟨⟨U1, m5, k5, V1, m6, k6, rfl, hm5, hm6, hu1, hv1⟩, hb10⟩
  have K10 := Lib.hid (K9.out.below hb10)
  have BS10 := Lib.hid (BS9.out.below hb10)
  have Q10 := Lib.hid (Q9.out.below hb10)
  have BT10 := Lib.hid (BT9.out.below hb10)
  have X10 := Lib.hid (X9.out.below hb10)
  have Y10 := Lib.hid (Y9.out.below hb10)
  have P10 := Lib.hid (P9.out.below hb10)
  have R10 := Lib.hid (R9.out.below hb10)
  have KB10 := Lib.hid (KB9.out.trans (hb10.mono KB9.out.size))
  clear hb10
  obtain rfl : m5 = 0 := hm5
  obtain rfl : m6 = 0 := hm6
  clear hu1 hv1
  clear qBS0 qBS1
  go_wp2_with fail
  refine (same_v X10.out R10.out (by omega) (by omega) rfl).mono ?_
  rintro e w11 ⟨rfl, hb11⟩
  have K11 := Lib.hid (K10.out.below hb11)
  have BS11 := Lib.hid (BS10.out.below hb11)
  have Q11 := Lib.hid (Q10.out.below hb11)
  have BT11 := Lib.hid (BT10.out.below hb11)
  have X11 := Lib.hid (X10.out.below hb11)
  have Y11 := Lib.hid (Y10.out.below hb11)
  have P11 := Lib.hid (P10.out.below hb11)
  have R11 := Lib.hid (R10.out.below hb11)
  have KB11 := Lib.hid (KB10.out.trans (hb11.mono KB10.out.size))
  clear hb11
  go_wp2_with fail
  refine (same_v Y11.out P11.out (by omega) (by omega) rfl).mono ?_
  rintro e w12 ⟨rfl, hb12⟩
  have K12 := Lib.hid (K11.out.below hb12)
  have BS12 := Lib.hid (BS11.out.below hb12)
  have Q12 := Lib.hid (Q11.out.below hb12)
  have BT12 := Lib.hid (BT11.out.below hb12)
  have X12 := Lib.hid (X11.out.below hb12)
  have Y12 := Lib.hid (Y11.out.below hb12)
  have P12 := Lib.hid (P11.out.below hb12)
  have R12 := Lib.hid (R11.out.below hb12)
  have KB12 := Lib.hid (KB11.out.trans (hb12.mono KB11.out.size))
  clear hb12
  go_wp2_with fail
  refine (lives_any _).mono ?_
  rintro e w13 ⟨rfl, hb13⟩
  have K13 := Lib.hid (K12.out.below hb13)
  have BS13 := Lib.hid (BS12.out.below hb13)
  have Q13 := Lib.hid (Q12.out.below hb13)
  have BT13 := Lib.hid (BT12.out.below hb13)
  have X13 := Lib.hid (X12.out.below hb13)
  have Y13 := Lib.hid (Y12.out.below hb13)
  have P13 := Lib.hid (P12.out.below hb13)
  have R13 := Lib.hid (R12.out.below hb13)
  have KB13 := Lib.hid (KB12.out.trans (hb13.mono KB12.out.size))
  clear hb13
  go_wp2
  go_ret
  exact ⟨rfl, KB13.out⟩

end Go.Proofs.Ytcbcmnbfflaicaa
