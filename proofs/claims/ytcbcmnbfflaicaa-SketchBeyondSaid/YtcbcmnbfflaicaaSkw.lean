/-
  SketchBeyond, walked: beyond what values can tell it is ErrDiff, or what is told fits; sketches of unlike numbers of values are ErrArg.
-/
import Derived.Test.YtcbcmnbfflaicaaSkv
import Derived.Deep.RegionHeld3
namespace Go.Proofs.Ytcbcmnbfflaicaa
open Go.RowKit
open Sk (pt Fit)

theorem diff_k {w : World} {A A' : Option Addr} {c c' n k na nb : Nat} (hne : n ≠ k) : Calls Try.prog 21 #[.agg #[.int .i64 (na : Int), .slice A n c], .agg #[.int .i64 (nb : Int), .slice A' k c']] w fun e w' => e = .returned (.tuple #[.slice none 0 0, .slice none 0 0, .int .i64 1]) ∧ Below w.heap.size w w' :=
  diff_arg na nb n c k c' A A' w hne
theorem rises_v {w : World} {o : Value} {l : List Nat} {d : Nat} (h : Nv w o l d) (hd : d ≤ 1000) (hr : l.Pairwise (· < ·)) : Calls Try.prog 22 #[o] w fun e w' => e = .returned (.bool true) ∧ Below w.heap.size w w' := by
  obtain ⟨A, n, c, rfl, hp, hl, hn⟩ := h
  exact rises_any l A n c w hp (by omega) hr
theorem rfit_v {w : World} {o o' : Value} {A A' : Option Addr} {a b p q : List Nat} {n c c' na nb d d' : Nat} (h : Nv w o p d) (h' : Nv w o' q d') (k : Kt w A c a n) (k' : Kt w A' c' b n) (hn : n ≤ 1000) (hna : na = a.length) (hnb : nb = b.length) (hf : Fit (vls a n) (vls b n) a.length b.length p q) :
    Calls Try.prog 23 #[o, o', .int .i64 (na : Int), .slice A n c, .int .i64 (nb : Int), .slice A' n c'] w fun e w' => e = .returned (.bool true) ∧ Below w.heap.size w w' := by
  obtain ⟨P, np, cp, rfl, hp, hl, hnp⟩ := h
  obtain ⟨Q, nq, cq, rfl, hp', hl', hnq⟩ := h'
  subst hna hnb
  exact rfit_any a.length b.length n c c' np cp nq cq A A' P Q (vls a n) (vls b n) p q w k k' hn hp hp' hf

set_option maxRecDepth 100000 in
set_option maxHeartbeats 8000000 in
theorem beyond_walk (A B : Option Addr) (n1 c1 n2 c2 : Nat) (l m : List Nat) (z y : Int) (w : World) (hA : In w A n1 c1 l) (hB : In w B n2 c2 m) (hz1 : -9223372036854775808 ≤ z) (hz2 : z ≤ 9223372036854775807) (hy1 : -9223372036854775808 ≤ y) (hy2 : y ≤ 9223372036854775807) :
    Calls Try.prog 5 #[.slice A n1 c1, .slice B n2 c2, .int .i64 z, .int .i64 y] w fun e w' => e = .returned (.bool true) ∧ Below w.heap.size w w' := by
  have L0 := Lib.hid (hA)
  have M0 := Lib.hid (hB)
  have KB0 := Lib.hid (Below.refl w.heap.size w)
  have HZ := Lib.hid (And.intro hz1 hz2)
  have HY := Lib.hid (And.intro hy1 hy2)
  clear hA hB hz1 hz2 hy1 hy2
  obtain ⟨a, ha⟩ : ∃ a, a = setf l := ⟨_, rfl⟩
  obtain ⟨b, hb⟩ : ∃ b, b = setf m := ⟨_, rfl⟩
  have SA := Lib.hid (show St a by rw [ha]; exact st_set l)
  have SB := Lib.hid (show St b by rw [hb]; exact st_set m)
  have LA := Lib.hid (show a.length ≤ 12 by rw [ha]; exact setf_len l)
  have LB := Lib.hid (show b.length ≤ 12 by rw [hb]; exact setf_len m)
  have HAE := Lib.hid ha
  have HBE := Lib.hid hb
  clear ha hb
  obtain ⟨na, hna⟩ : ∃ na, na = a.length := ⟨_, rfl⟩
  obtain ⟨nb, hnb⟩ : ∃ nb, nb = b.length := ⟨_, rfl⟩
  have hna12 : na ≤ 12 := by have := LA.out; omega
  have hnb12 : nb ≤ 12 := by have := LB.out; omega
  have HNA := Lib.hid hna
  have HNB := Lib.hid hnb
  clear hna hnb
  go_enter Try.func5, Try.ntmps5
  go_wp2_with fail
  refine (set_v L0.out).mono ?_
  rintro e w1 ⟨⟨z1, rfl, hs1⟩, hb1⟩
  have M1 := Lib.hid (M0.out.below hb1)
  have KB1 := Lib.hid (KB0.out.trans (hb1.mono KB0.out.size))
  clear hb1
  have S1 := Lib.hid hs1
  clear hs1
  rw [← HAE.out] at S1
  obtain ⟨As, ms, cs, rfl, hps, hls, hms⟩ := S1.out
  have hmsn : ms = na := by have := hps.1; have := HNA.out; omega
  subst hmsn
  clear hps hls hms
  go_wp2_with fail
  refine (set_v M1.out).mono ?_
  rintro e w2 ⟨⟨z2, rfl, hs2⟩, hb2⟩
  have S2 := Lib.hid (S1.out.below hb2)
  have KB2 := Lib.hid (KB1.out.trans (hb2.mono KB1.out.size))
  clear hb2
  have T2 := Lib.hid hs2
  clear hs2
  rw [← HBE.out] at T2
  obtain ⟨At, mt, ct, rfl, hpt, hlt, hmt⟩ := T2.out
  have hmtn : mt = nb := by have := hpt.1; have := HNB.out; omega
  subst hmtn
  clear hpt hlt hmt
  go_wp2_with fail
  refine (around_v z 13 _ HZ.out.1 HZ.out.2 (by omega) (by omega)).mono ?_
  rintro e w3 ⟨⟨n, hn12, rfl⟩, hb3⟩
  have S3 := Lib.hid (S2.out.below hb3)
  have T3 := Lib.hid (T2.out.below hb3)
  have KB3 := Lib.hid (KB2.out.trans (hb3.mono KB2.out.size))
  clear hb3
  go_wp2_with fail
  refine (around_v y 13 _ HY.out.1 HY.out.2 (by omega) (by omega)).mono ?_
  rintro e w4 ⟨⟨k, hk12, rfl⟩, hb4⟩
  have S4 := Lib.hid (S3.out.below hb4)
  have T4 := Lib.hid (T3.out.below hb4)
  have KB4 := Lib.hid (KB3.out.trans (hb4.mono KB3.out.size))
  clear hb4
  obtain ⟨x, yl, er, hd⟩ : ∃ x y er, dfn a b n = (x, y, er) := ⟨_, _, _, rfl⟩
  have HD := Lib.hid hd
  clear hd
  go_wp2_with fail
  refine (of_vn S4.out HNA.out (by omega) (by omega)).mono ?_
  rintro e w5 ⟨⟨A1, e1, rfl, hk1⟩, hb5⟩
  have S5 := Lib.hid (S4.out.below hb5)
  have T5 := Lib.hid (T4.out.below hb5)
  have KB5 := Lib.hid (KB4.out.trans (hb5.mono KB4.out.size))
  clear hb5
  have K5 := Lib.hid hk1
  clear hk1
  have hb6 := (Below.refl w5.heap.size w5).alloc (Nat.le_refl _) ((.cells #[.int .i64 (ms : Int), .slice A1 n e1] 29))
  have S6 := Lib.hid (S5.out.below hb6)
  have T6 := Lib.hid (T5.out.below hb6)
  have K6 := Lib.hid (K5.out.below hb6)
  have KB6 := Lib.hid (KB5.out.trans (hb6.mono KB5.out.size))
  clear hb6
  have BS6 := Lib.hid (Bs.new w5 ms A1 n e1)
  go_wp2_with fail
  refine (of_vn T6.out HNB.out (by omega) (by omega)).mono ?_
  rintro e w7 ⟨⟨A2, e2, rfl, hk2⟩, hb7⟩
  have S7 := Lib.hid (S6.out.below hb7)
  have T7 := Lib.hid (T6.out.below hb7)
  have K7 := Lib.hid (K6.out.below hb7)
  have BS7 := Lib.hid (BS6.out.below hb7)
  have KB7 := Lib.hid (KB6.out.trans (hb7.mono KB6.out.size))
  clear hb7
  have Q7 := Lib.hid hk2
  clear hk2
  have hb8 := (Below.refl w7.heap.size w7).alloc (Nat.le_refl _) ((.cells #[.int .i64 (mt : Int), .slice A2 n e2] 29))
  have S8 := Lib.hid (S7.out.below hb8)
  have T8 := Lib.hid (T7.out.below hb8)
  have K8 := Lib.hid (K7.out.below hb8)
  have BS8 := Lib.hid (BS7.out.below hb8)
  have Q8 := Lib.hid (Q7.out.below hb8)
  have KB8 := Lib.hid (KB7.out.trans (hb8.mono KB7.out.size))
  clear hb8
  have BT8 := Lib.hid (Bs.new w7 mt A2 n e2)
  have qBS0 := BS8.out.c0
  have qBS1 := BS8.out.c1
  have qBT0 := BT8.out.c0
  have qBT1 := BT8.out.c1
  go_wp2_with fail
  refine (diff_f K8.out Q8.out SA.out HNA.out HNB.out (by have := LA.out; omega) (by have := LB.out; omega) (by omega) HD.out).mono ?_
  rintro e w9 ⟨⟨X1, m1, k1, Y1, m2, k2, rfl, hm1, hm2, hx1, hy1⟩, hb9⟩
  have S9 := Lib.hid (S8.out.below hb9)
  have T9 := Lib.hid (T8.out.below hb9)
  have K9 := Lib.hid (K8.out.below hb9)
  have BS9 := Lib.hid (BS8.out.below hb9)
  have Q9 := Lib.hid (Q8.out.below hb9)
  have BT9 := Lib.hid (BT8.out.below hb9)
  have KB9 := Lib.hid (KB8.out.trans (hb9.mono KB8.out.size))
  clear hb9
  have X9 := Lib.hid hx1
  have Y9 := Lib.hid hy1
  clear hx1 hy1
  have HM1 := Lib.hid (And.intro hm1 hm2)
  clear hm1 hm2
  clear qBS0 qBS1 qBT0 qBT1
  have her : er = 0 ∨ er = 32 := by
    rcases dfn_cases (b := b) n SA.out.el (by omega) with ⟨p, q, h1, _⟩ | ⟨h1, _⟩
    · have h2 := HD.out
      rw [h1] at h2
      injection h2 with _ h2
      injection h2 with _ e3
      exact .inl e3.symm
    · have h2 := HD.out
      rw [h1] at h2
      injection h2 with _ h2
      injection h2 with _ e3
      exact .inr e3.symm
  have her1 : ((er : Int) == 1) = false := by rw [beq_eq_false_iff_ne]; omega
  have HER := Lib.hid her
  clear her
  by_cases hkn : n = k
  · subst hkn
    have q0 := BS9.out.c0
    have q1 := BS9.out.c1
    have hof := of_vn (w := w9.drew) (n := n) (T9.out.below (below_to_drew (Below.refl _ _))) HNB.out (by omega) (by omega)
    have HOF := Lib.hid hof
    clear hof
    go_wp2
    refine wp_region_held_drew (S := (fun w' : World => w'.cell? ⟨w5.heap.size, 0, none⟩ = some (.int .i64 (ms : Int)) ∧ w'.cell? ⟨w5.heap.size, 1, none⟩ = some (.slice A1 n e1))) (by kernel_rfl) ⟨q0, q1⟩ (fun hHeld => ?_)
    try simp only [Act.put, List.getElem_toArray, List.getElem_cons_succ, List.getElem_cons_zero, List.setIfInBounds_toArray, List.set_cons_zero, List.set_cons_succ]
    refine wpAnyH_take (i := 0) (v := ?_) rfl (by kernel_rfl) (by kernel_rfl) (by kernel_rfl) (fun _ _ _ h => h) (Or.inl ⟨by rfl, ?_⟩) (by assumption) ?_
    rotate_left
    · (intro w hSw; (try dsimp only at hSw); obtain ⟨s0, s1⟩ := hSw; go_simp; try (with_reducible rfl))
    try simp only [Act.put, List.getElem_toArray, List.getElem_cons_zero, List.setIfInBounds_toArray, List.set_cons_zero, List.set_cons_succ]
    refine wpAnyH_take (i := 1) (v := ?_) rfl (by kernel_rfl) (by kernel_rfl) (by kernel_rfl) (fun _ _ _ h => h) (Or.inl ⟨by rfl, ?_⟩) (by assumption) ?_
    rotate_left
    · (intro w hSw; (try dsimp only at hSw); obtain ⟨s0, s1⟩ := hSw; go_simp; try (with_reducible rfl))
    try simp only [Act.put, List.getElem_toArray, List.getElem_cons_succ, List.getElem_cons_zero, List.setIfInBounds_toArray, List.set_cons_zero, List.set_cons_succ]
    refine wpAnyH_take (i := 2) (v := ?_) rfl (by kernel_rfl) (by kernel_rfl) (by kernel_rfl) (fun _ _ _ h => h) (Or.inl ⟨by rfl, ?_⟩) (by assumption) ?_
    rotate_left
    · (intro w hSw; (try dsimp only at hSw); obtain ⟨s0, s1⟩ := hSw; go_simp; try (with_reducible rfl))
    try simp only [Act.put, List.getElem_toArray, List.getElem_cons_succ, List.getElem_cons_zero, List.setIfInBounds_toArray, List.set_cons_zero, List.set_cons_succ]
    refine wpAnyH_ready (rs := [3]) (by kernel_rfl) (by simp) ?_
    refine AllReadyH.cons rfl (fun K hK => ?_) AllReadyH.nil
    go_simp
    refine HOF.out.mono ?_
    rintro e w10 ⟨⟨A9, e9, rfl, hk9⟩, hb10'⟩
    have hb10 := below_of_drew hb10'
    clear hb10'
    have S10 := Lib.hid (S9.out.below hb10)
    have T10 := Lib.hid (T9.out.below hb10)
    have K10 := Lib.hid (K9.out.below hb10)
    have BS10 := Lib.hid (BS9.out.below hb10)
    have Q10 := Lib.hid (Q9.out.below hb10)
    have BT10 := Lib.hid (BT9.out.below hb10)
    have X10 := Lib.hid (X9.out.below hb10)
    have Y10 := Lib.hid (Y9.out.below hb10)
    have KB10 := Lib.hid (KB9.out.trans (hb10.mono KB9.out.size))
    clear hb10
    have K910 := Lib.hid hk9
    clear hk9
    try go_simp
    have p0 := BS10.out.c0
    have p1 := BS10.out.c1
    refine hK.out _ _ ⟨p0, p1⟩ (fun hHeld1 => ?_)
    clear hK K
    try simp only [Act.put, List.getElem_toArray, List.getElem_cons_succ, List.getElem_cons_zero, List.setIfInBounds_toArray, List.set_cons_zero, List.set_cons_succ]
    refine wpAnyH_ready (rs := [4]) (by kernel_rfl) (by simp) ?_
    refine AllReadyH.cons rfl (fun K hK => ?_) AllReadyH.nil
    go_simp
    refine (diff_f K10.out K910.out SA.out HNA.out HNB.out (by have := LA.out; omega) (by have := LB.out; omega) (by omega) HD.out).mono ?_
    rintro e w11 ⟨⟨X8, m8, k8, Y8, m9, k9, rfl, -, -, -, -⟩, hb11⟩
    have S11 := Lib.hid (S10.out.below hb11)
    have T11 := Lib.hid (T10.out.below hb11)
    have K11 := Lib.hid (K10.out.below hb11)
    have BS11 := Lib.hid (BS10.out.below hb11)
    have Q11 := Lib.hid (Q10.out.below hb11)
    have BT11 := Lib.hid (BT10.out.below hb11)
    have X11 := Lib.hid (X10.out.below hb11)
    have Y11 := Lib.hid (Y10.out.below hb11)
    have K911 := Lib.hid (K910.out.below hb11)
    have KB11 := Lib.hid (KB10.out.trans (hb11.mono KB10.out.size))
    clear hb11
    try go_simp
    have r0 := BS11.out.c0
    have r1 := BS11.out.c1
    refine hK.out _ _ ⟨r0, r1⟩ (fun hHeld2 => ?_)
    clear hK K
    try simp only [Act.put, List.getElem_toArray, List.getElem_cons_succ, List.getElem_cons_zero, List.setIfInBounds_toArray, List.set_cons_zero, List.set_cons_succ]
    refine wpAnyH_take (i := 5) (v := ?_) rfl (by kernel_rfl) (by kernel_rfl) (by kernel_rfl) (fun _ _ _ h => h) (Or.inl ⟨by rfl, ?_⟩) (by assumption) ?_
    rotate_left
    · (intro w hSw; (try dsimp only at hSw); obtain ⟨s0, s1⟩ := hSw; go_simp; try (with_reducible rfl))
    try simp only [Act.put, List.getElem_toArray, List.getElem_cons_succ, List.getElem_cons_zero, List.setIfInBounds_toArray, List.set_cons_zero, List.set_cons_succ]
    refine wpAnyH_take (i := 6) (v := ?_) rfl (by kernel_rfl) (by kernel_rfl) (by kernel_rfl) (fun _ _ _ h => h) (Or.inl ⟨by rfl, ?_⟩) (by assumption) ?_
    rotate_left
    · (intro w hSw; (try dsimp only at hSw); obtain ⟨s0, s1⟩ := hSw; go_simp; try (with_reducible rfl))
    try simp only [Act.put, List.getElem_toArray, List.getElem_cons_succ, List.getElem_cons_zero, List.setIfInBounds_toArray, List.set_cons_zero, List.set_cons_succ]
    refine wpAnyH_take (i := 7) (v := ?_) rfl (by kernel_rfl) (by kernel_rfl) (by kernel_rfl) (fun _ _ _ h => h) (Or.inl ⟨by rfl, ?_⟩) (by assumption) ?_
    rotate_left
    · (intro w hSw; (try dsimp only at hSw); obtain ⟨s0, s1⟩ := hSw; go_simp; try (with_reducible rfl))
    try simp only [Act.put, List.getElem_toArray, List.getElem_cons_succ, List.getElem_cons_zero, List.setIfInBounds_toArray, List.set_cons_zero, List.set_cons_succ]
    refine wpAnyH_take (i := 8) (v := ?_) rfl (by kernel_rfl) (by kernel_rfl) (by kernel_rfl) (fun _ _ _ h => h) (Or.inl ⟨by rfl, ?_⟩) (by assumption) ?_
    rotate_left
    · (intro w hSw; (try dsimp only at hSw); obtain ⟨s0, s1⟩ := hSw; go_simp; try (with_reducible rfl))
    try simp only [Act.put, List.getElem_toArray, List.getElem_cons_succ, List.getElem_cons_zero, List.setIfInBounds_toArray, List.set_cons_zero, List.set_cons_succ]
    refine wpAnyH_take (i := 9) (v := ?_) rfl (by kernel_rfl) (by kernel_rfl) (by kernel_rfl) (fun _ _ _ h => h) (Or.inl ⟨by rfl, ?_⟩) (by assumption) ?_
    rotate_left
    · (intro w hSw; (try dsimp only at hSw); obtain ⟨s0, s1⟩ := hSw; go_simp; try (with_reducible rfl))
    try simp only [Act.put, List.getElem_toArray, List.getElem_cons_succ, List.getElem_cons_zero, List.setIfInBounds_toArray, List.set_cons_zero, List.set_cons_succ]
    refine wpAnyH_take (i := 10) (v := ?_) rfl (by kernel_rfl) (by kernel_rfl) (by kernel_rfl) (fun _ _ _ h => h) (Or.inl ⟨by rfl, ?_⟩) (by assumption) ?_
    rotate_left
    · (intro w hSw; (try dsimp only at hSw); obtain ⟨s0, s1⟩ := hSw; go_simp; try (with_reducible rfl))
    try simp only [Act.put, List.getElem_toArray, List.getElem_cons_succ, List.getElem_cons_zero, List.setIfInBounds_toArray, List.set_cons_zero, List.set_cons_succ]
    refine wpAnyH_take (i := 11) (v := ?_) rfl (by kernel_rfl) (by kernel_rfl) (by kernel_rfl) (fun _ _ _ h => h) (Or.inl ⟨by rfl, ?_⟩) (by assumption) ?_
    rotate_left
    · (intro w hSw; (try dsimp only at hSw); obtain ⟨s0, s1⟩ := hSw; go_simp; try (with_reducible rfl))
    try simp only [Act.put, List.getElem_toArray, List.getElem_cons_succ, List.getElem_cons_zero, List.setIfInBounds_toArray, List.set_cons_zero, List.set_cons_succ]
    refine wpAnyH_done (by kernel_rfl) ?_ _
    clear hHeld hHeld1 hHeld2 p0 p1 r0 r1 q0 q1
    rcases dfn_cases (b := b) n SA.out.el (by omega) with ⟨p, q, h1, hfit⟩ | ⟨h1, hno⟩
    · have h2 := HD.out
      rw [h1] at h2
      injection h2 with e1 h2
      injection h2 with e2 e3
      subst e1 e2 e3
      have HF := Lib.hid hfit
      clear hfit h1 her1
      rw [show ((0 : Nat) : Int) = 0 from rfl]
      go_wp2_with fail
      refine (rises_v X11.out (by omega) HF.out.up).mono ?_
      rintro e w12 ⟨rfl, hb12⟩
      have S12 := Lib.hid (S11.out.below hb12)
      have T12 := Lib.hid (T11.out.below hb12)
      have K12 := Lib.hid (K11.out.below hb12)
      have BS12 := Lib.hid (BS11.out.below hb12)
      have Q12 := Lib.hid (Q11.out.below hb12)
      have BT12 := Lib.hid (BT11.out.below hb12)
      have X12 := Lib.hid (X11.out.below hb12)
      have Y12 := Lib.hid (Y11.out.below hb12)
      have K912 := Lib.hid (K911.out.below hb12)
      have KB12 := Lib.hid (KB11.out.trans (hb12.mono KB11.out.size))
      clear hb12
      go_wp2_with fail
      refine (rises_v Y12.out (by omega) HF.out.uq).mono ?_
      rintro e w13 ⟨rfl, hb13⟩
      have S13 := Lib.hid (S12.out.below hb13)
      have T13 := Lib.hid (T12.out.below hb13)
      have K13 := Lib.hid (K12.out.below hb13)
      have BS13 := Lib.hid (BS12.out.below hb13)
      have Q13 := Lib.hid (Q12.out.below hb13)
      have BT13 := Lib.hid (BT12.out.below hb13)
      have X13 := Lib.hid (X12.out.below hb13)
      have Y13 := Lib.hid (Y12.out.below hb13)
      have K913 := Lib.hid (K912.out.below hb13)
      have KB13 := Lib.hid (KB12.out.trans (hb13.mono KB12.out.size))
      clear hb13
      go_wp2_with fail
      refine (values_v S13.out (by omega) (by omega)).mono ?_
      rintro e w14 ⟨⟨V1, v1, rfl, hv1⟩, hb14⟩
      have S14 := Lib.hid (S13.out.below hb14)
      have T14 := Lib.hid (T13.out.below hb14)
      have K14 := Lib.hid (K13.out.below hb14)
      have BS14 := Lib.hid (BS13.out.below hb14)
      have Q14 := Lib.hid (Q13.out.below hb14)
      have BT14 := Lib.hid (BT13.out.below hb14)
      have X14 := Lib.hid (X13.out.below hb14)
      have Y14 := Lib.hid (Y13.out.below hb14)
      have K914 := Lib.hid (K913.out.below hb14)
      have KB14 := Lib.hid (KB13.out.trans (hb14.mono KB13.out.size))
      clear hb14
      have VA14 := Lib.hid hv1
      clear hv1
      go_wp2_with fail
      refine (values_v T14.out (by omega) (by omega)).mono ?_
      rintro e w15 ⟨⟨V2, v2, rfl, hv2⟩, hb15⟩
      have S15 := Lib.hid (S14.out.below hb15)
      have T15 := Lib.hid (T14.out.below hb15)
      have K15 := Lib.hid (K14.out.below hb15)
      have BS15 := Lib.hid (BS14.out.below hb15)
      have Q15 := Lib.hid (Q14.out.below hb15)
      have BT15 := Lib.hid (BT14.out.below hb15)
      have X15 := Lib.hid (X14.out.below hb15)
      have Y15 := Lib.hid (Y14.out.below hb15)
      have K915 := Lib.hid (K914.out.below hb15)
      have VA15 := Lib.hid (VA14.out.below hb15)
      have KB15 := Lib.hid (KB14.out.trans (hb15.mono KB14.out.size))
      clear hb15
      have VB15 := Lib.hid hv2
      clear hv2
      go_wp2_with fail
      refine (rfit_v X15.out Y15.out VA15.out VB15.out (by omega) HNA.out HNB.out HF.out).mono ?_
      rintro e w16 ⟨rfl, hb16⟩
      have S16 := Lib.hid (S15.out.below hb16)
      have T16 := Lib.hid (T15.out.below hb16)
      have K16 := Lib.hid (K15.out.below hb16)
      have BS16 := Lib.hid (BS15.out.below hb16)
      have Q16 := Lib.hid (Q15.out.below hb16)
      have BT16 := Lib.hid (BT15.out.below hb16)
      have X16 := Lib.hid (X15.out.below hb16)
      have Y16 := Lib.hid (Y15.out.below hb16)
      have K916 := Lib.hid (K915.out.below hb16)
      have VA16 := Lib.hid (VA15.out.below hb16)
      have VB16 := Lib.hid (VB15.out.below hb16)
      have KB16 := Lib.hid (KB15.out.trans (hb16.mono KB15.out.size))
      clear hb16
      go_wp2_with fail
      refine (lives_any _).mono ?_
      rintro e w17 ⟨rfl, hb17⟩
      have S17 := Lib.hid (S16.out.below hb17)
      have T17 := Lib.hid (T16.out.below hb17)
      have K17 := Lib.hid (K16.out.below hb17)
      have BS17 := Lib.hid (BS16.out.below hb17)
      have Q17 := Lib.hid (Q16.out.below hb17)
      have BT17 := Lib.hid (BT16.out.below hb17)
      have X17 := Lib.hid (X16.out.below hb17)
      have Y17 := Lib.hid (Y16.out.below hb17)
      have K917 := Lib.hid (K916.out.below hb17)
      have VA17 := Lib.hid (VA16.out.below hb17)
      have VB17 := Lib.hid (VB16.out.below hb17)
      have KB17 := Lib.hid (KB16.out.trans (hb17.mono KB16.out.size))
      clear hb17
      go_wp2
      go_ret
      exact ⟨rfl, KB17.out⟩
    · have h2 := HD.out
      rw [h1] at h2
      injection h2 with e1 h2
      injection h2 with e2 e3
      subst e1 e2 e3
      have HNO := Lib.hid hno
      have hm1 : m1 = 0 := HM1.out.1
      have hm2 : m2 = 0 := HM1.out.2
      subst hm1 hm2
      clear hno h1 her1
      rw [show ((32 : Nat) : Int) = 32 from rfl]
      go_wp2_with fail
      refine (only_v S11.out T11.out (by omega) (by omega) SA.out.nd).mono ?_
      rintro e w12 ⟨⟨Ax, x9, mx, cx, rfl, hmx, -, hox⟩, hb12⟩
      have S12 := Lib.hid (S11.out.below hb12)
      have T12 := Lib.hid (T11.out.below hb12)
      have K12 := Lib.hid (K11.out.below hb12)
      have BS12 := Lib.hid (BS11.out.below hb12)
      have Q12 := Lib.hid (Q11.out.below hb12)
      have BT12 := Lib.hid (BT11.out.below hb12)
      have X12 := Lib.hid (X11.out.below hb12)
      have Y12 := Lib.hid (Y11.out.below hb12)
      have K912 := Lib.hid (K911.out.below hb12)
      have KB12 := Lib.hid (KB11.out.trans (hb12.mono KB11.out.size))
      clear hb12
      have HOX := Lib.hid hox
      have HMX := Lib.hid hmx
      clear hox hmx
      go_wp2_with fail
      refine (only_v T12.out S12.out (by omega) (by omega) SB.out.nd).mono ?_
      rintro e w13 ⟨⟨Ay, y9, my, cy, rfl, hmy, -, hoy⟩, hb13⟩
      have S13 := Lib.hid (S12.out.below hb13)
      have T13 := Lib.hid (T12.out.below hb13)
      have K13 := Lib.hid (K12.out.below hb13)
      have BS13 := Lib.hid (BS12.out.below hb13)
      have Q13 := Lib.hid (Q12.out.below hb13)
      have BT13 := Lib.hid (BT12.out.below hb13)
      have X13 := Lib.hid (X12.out.below hb13)
      have Y13 := Lib.hid (Y12.out.below hb13)
      have K913 := Lib.hid (K912.out.below hb13)
      have KB13 := Lib.hid (KB12.out.trans (hb13.mono KB12.out.size))
      clear hb13
      have hbig : ¬ (mx + my + 2 ≤ n) := fun h => HNO.out x9 y9 ((Df.of HOX.out hoy).fit SA.out.nd SB.out.nd SA.out.el SB.out.el (by have := HMX.out; omega))
      have hq : decide ((n : Int) - 2 < (mx : Int) + (my : Int)) = true := decide_eq_true (by omega)
      have hq2 : (n : Int) - 2 < (mx : Int) + (my : Int) := by omega
      have hmx9 : mx ≤ 12 := by have h := sub_len (L := a) HOX.out.nodup (fun v hv => List.mem_of_mem_take ((HOX.out.mem v).1 hv).1) SA.out.el.lt; have := LA.out; have := HMX.out; omega
      have hmy9 : my ≤ 12 := by have h := sub_len (L := b) hoy.nodup (fun v hv => List.mem_of_mem_take ((hoy.mem v).1 hv).1) SB.out.el.lt; have := LB.out; omega
      clear hbig hoy hmy
      go_wp2_with fail
      refine (lives_any _).mono ?_
      rintro e w14 ⟨rfl, hb14⟩
      have S14 := Lib.hid (S13.out.below hb14)
      have T14 := Lib.hid (T13.out.below hb14)
      have K14 := Lib.hid (K13.out.below hb14)
      have BS14 := Lib.hid (BS13.out.below hb14)
      have Q14 := Lib.hid (Q13.out.below hb14)
      have BT14 := Lib.hid (BT13.out.below hb14)
      have X14 := Lib.hid (X13.out.below hb14)
      have Y14 := Lib.hid (Y13.out.below hb14)
      have K914 := Lib.hid (K913.out.below hb14)
      have KB14 := Lib.hid (KB13.out.trans (hb14.mono KB13.out.size))
      clear hb14
      go_wp2
      go_ret
      exact ⟨rfl, KB14.out⟩
  · have hne1 : ((k : Int) == (n : Int)) = false := by rw [beq_eq_false_iff_ne]; omega
    have hne2 : ¬ (k : Int) = (n : Int) := by omega
    have hne3 : ((k : Int) != (n : Int)) = true := by rw [bne_iff_ne]; omega
    have q0 := BS9.out.c0
    have q1 := BS9.out.c1
    have hof := of_vn (w := w9.drew) (n := k) (T9.out.below (below_to_drew (Below.refl _ _))) HNB.out (by omega) (by omega)
    have HOF := Lib.hid hof
    clear hof
    go_wp2
    refine wp_region_held_drew (S := (fun w' : World => w'.cell? ⟨w5.heap.size, 0, none⟩ = some (.int .i64 (ms : Int)) ∧ w'.cell? ⟨w5.heap.size, 1, none⟩ = some (.slice A1 n e1))) (by kernel_rfl) ⟨q0, q1⟩ (fun hHeld => ?_)
    try simp only [Act.put, List.getElem_toArray, List.getElem_cons_succ, List.getElem_cons_zero, List.setIfInBounds_toArray, List.set_cons_zero, List.set_cons_succ]
    refine wpAnyH_take (i := 0) (v := ?_) rfl (by kernel_rfl) (by kernel_rfl) (by kernel_rfl) (fun _ _ _ h => h) (Or.inl ⟨by rfl, ?_⟩) (by assumption) ?_
    rotate_left
    · (intro w hSw; (try dsimp only at hSw); obtain ⟨s0, s1⟩ := hSw; go_simp; try (with_reducible rfl))
    try simp only [Act.put, List.getElem_toArray, List.getElem_cons_zero, List.setIfInBounds_toArray, List.set_cons_zero, List.set_cons_succ]
    refine wpAnyH_take (i := 1) (v := ?_) rfl (by kernel_rfl) (by kernel_rfl) (by kernel_rfl) (fun _ _ _ h => h) (Or.inl ⟨by rfl, ?_⟩) (by assumption) ?_
    rotate_left
    · (intro w hSw; (try dsimp only at hSw); obtain ⟨s0, s1⟩ := hSw; go_simp; try (with_reducible rfl))
    try simp only [Act.put, List.getElem_toArray, List.getElem_cons_succ, List.getElem_cons_zero, List.setIfInBounds_toArray, List.set_cons_zero, List.set_cons_succ]
    refine wpAnyH_take (i := 2) (v := ?_) rfl (by kernel_rfl) (by kernel_rfl) (by kernel_rfl) (fun _ _ _ h => h) (Or.inl ⟨by rfl, ?_⟩) (by assumption) ?_
    rotate_left
    · (intro w hSw; (try dsimp only at hSw); obtain ⟨s0, s1⟩ := hSw; go_simp; try (with_reducible rfl))
    try simp only [Act.put, List.getElem_toArray, List.getElem_cons_succ, List.getElem_cons_zero, List.setIfInBounds_toArray, List.set_cons_zero, List.set_cons_succ]
    refine wpAnyH_ready (rs := [3]) (by kernel_rfl) (by simp) ?_
    refine AllReadyH.cons rfl (fun K hK => ?_) AllReadyH.nil
    go_simp
    refine HOF.out.mono ?_
    rintro e w10 ⟨⟨A9, e9, rfl, hk9⟩, hb10'⟩
    have hb10 := below_of_drew hb10'
    clear hb10'
    have S10 := Lib.hid (S9.out.below hb10)
    have T10 := Lib.hid (T9.out.below hb10)
    have K10 := Lib.hid (K9.out.below hb10)
    have BS10 := Lib.hid (BS9.out.below hb10)
    have Q10 := Lib.hid (Q9.out.below hb10)
    have BT10 := Lib.hid (BT9.out.below hb10)
    have X10 := Lib.hid (X9.out.below hb10)
    have Y10 := Lib.hid (Y9.out.below hb10)
    have KB10 := Lib.hid (KB9.out.trans (hb10.mono KB9.out.size))
    clear hb10
    have K910 := Lib.hid hk9
    clear hk9
    try go_simp
    have p0 := BS10.out.c0
    have p1 := BS10.out.c1
    refine hK.out _ _ ⟨p0, p1⟩ (fun hHeld1 => ?_)
    clear hK K
    try simp only [Act.put, List.getElem_toArray, List.getElem_cons_succ, List.getElem_cons_zero, List.setIfInBounds_toArray, List.set_cons_zero, List.set_cons_succ]
    refine wpAnyH_ready (rs := [4]) (by kernel_rfl) (by simp) ?_
    refine AllReadyH.cons rfl (fun K hK => ?_) AllReadyH.nil
    go_simp
    refine (diff_k hkn).mono ?_
    rintro e w11 ⟨rfl, hb11⟩
    have S11 := Lib.hid (S10.out.below hb11)
    have T11 := Lib.hid (T10.out.below hb11)
    have K11 := Lib.hid (K10.out.below hb11)
    have BS11 := Lib.hid (BS10.out.below hb11)
    have Q11 := Lib.hid (Q10.out.below hb11)
    have BT11 := Lib.hid (BT10.out.below hb11)
    have X11 := Lib.hid (X10.out.below hb11)
    have Y11 := Lib.hid (Y10.out.below hb11)
    have K911 := Lib.hid (K910.out.below hb11)
    have KB11 := Lib.hid (KB10.out.trans (hb11.mono KB10.out.size))
    clear hb11
    try go_simp
    have r0 := BS11.out.c0
    have r1 := BS11.out.c1
    refine hK.out _ _ ⟨r0, r1⟩ (fun hHeld2 => ?_)
    clear hK K
    try simp only [Act.put, List.getElem_toArray, List.getElem_cons_succ, List.getElem_cons_zero, List.setIfInBounds_toArray, List.set_cons_zero, List.set_cons_succ]
    refine wpAnyH_take (i := 5) (v := ?_) rfl (by kernel_rfl) (by kernel_rfl) (by kernel_rfl) (fun _ _ _ h => h) (Or.inl ⟨by rfl, ?_⟩) (by assumption) ?_
    rotate_left
    · (intro w hSw; (try dsimp only at hSw); obtain ⟨s0, s1⟩ := hSw; go_simp; try (with_reducible rfl))
    try simp only [Act.put, List.getElem_toArray, List.getElem_cons_succ, List.getElem_cons_zero, List.setIfInBounds_toArray, List.set_cons_zero, List.set_cons_succ]
    refine wpAnyH_take (i := 6) (v := ?_) rfl (by kernel_rfl) (by kernel_rfl) (by kernel_rfl) (fun _ _ _ h => h) (Or.inl ⟨by rfl, ?_⟩) (by assumption) ?_
    rotate_left
    · (intro w hSw; (try dsimp only at hSw); obtain ⟨s0, s1⟩ := hSw; go_simp; try (with_reducible rfl))
    try simp only [Act.put, List.getElem_toArray, List.getElem_cons_succ, List.getElem_cons_zero, List.setIfInBounds_toArray, List.set_cons_zero, List.set_cons_succ]
    refine wpAnyH_take (i := 7) (v := ?_) rfl (by kernel_rfl) (by kernel_rfl) (by kernel_rfl) (fun _ _ _ h => h) (Or.inl ⟨by rfl, ?_⟩) (by assumption) ?_
    rotate_left
    · (intro w hSw; (try dsimp only at hSw); obtain ⟨s0, s1⟩ := hSw; go_simp; try (with_reducible rfl))
    try simp only [Act.put, List.getElem_toArray, List.getElem_cons_succ, List.getElem_cons_zero, List.setIfInBounds_toArray, List.set_cons_zero, List.set_cons_succ]
    refine wpAnyH_take (i := 8) (v := ?_) rfl (by kernel_rfl) (by kernel_rfl) (by kernel_rfl) (fun _ _ _ h => h) (Or.inl ⟨by rfl, ?_⟩) (by assumption) ?_
    rotate_left
    · (intro w hSw; (try dsimp only at hSw); obtain ⟨s0, s1⟩ := hSw; go_simp; try (with_reducible rfl))
    try simp only [Act.put, List.getElem_toArray, List.getElem_cons_succ, List.getElem_cons_zero, List.setIfInBounds_toArray, List.set_cons_zero, List.set_cons_succ]
    refine wpAnyH_take (i := 9) (v := ?_) rfl (by kernel_rfl) (by kernel_rfl) (by kernel_rfl) (fun _ _ _ h => h) (Or.inl ⟨by rfl, ?_⟩) (by assumption) ?_
    rotate_left
    · (intro w hSw; (try dsimp only at hSw); obtain ⟨s0, s1⟩ := hSw; go_simp; try (with_reducible rfl))
    try simp only [Act.put, List.getElem_toArray, List.getElem_cons_succ, List.getElem_cons_zero, List.setIfInBounds_toArray, List.set_cons_zero, List.set_cons_succ]
    refine wpAnyH_take (i := 10) (v := ?_) rfl (by kernel_rfl) (by kernel_rfl) (by kernel_rfl) (fun _ _ _ h => h) (Or.inl ⟨by rfl, ?_⟩) (by assumption) ?_
    rotate_left
    · (intro w hSw; (try dsimp only at hSw); obtain ⟨s0, s1⟩ := hSw; go_simp; try (with_reducible rfl))
    try simp only [Act.put, List.getElem_toArray, List.getElem_cons_succ, List.getElem_cons_zero, List.setIfInBounds_toArray, List.set_cons_zero, List.set_cons_succ]
    refine wpAnyH_take (i := 11) (v := ?_) rfl (by kernel_rfl) (by kernel_rfl) (by kernel_rfl) (fun _ _ _ h => h) (Or.inl ⟨by rfl, ?_⟩) (by assumption) ?_
    rotate_left
    · (intro w hSw; (try dsimp only at hSw); obtain ⟨s0, s1⟩ := hSw; go_simp; try (with_reducible rfl))
    try simp only [Act.put, List.getElem_toArray, List.getElem_cons_succ, List.getElem_cons_zero, List.setIfInBounds_toArray, List.set_cons_zero, List.set_cons_succ]
    refine wpAnyH_done (by kernel_rfl) ?_ _
    clear hHeld hHeld1 hHeld2 p0 p1 r0 r1 q0 q1
    rcases dfn_cases (b := b) n SA.out.el (by omega) with ⟨p, q, h1, hfit⟩ | ⟨h1, hno⟩
    · have h2 := HD.out
      rw [h1] at h2
      injection h2 with e1 h2
      injection h2 with e2 e3
      subst e1 e2 e3
      have HF := Lib.hid hfit
      clear hfit h1 her1
      rw [show ((0 : Nat) : Int) = 0 from rfl]
      go_wp2_with fail
      refine (rises_v X11.out (by omega) HF.out.up).mono ?_
      rintro e w12 ⟨rfl, hb12⟩
      have S12 := Lib.hid (S11.out.below hb12)
      have T12 := Lib.hid (T11.out.below hb12)
      have K12 := Lib.hid (K11.out.below hb12)
      have BS12 := Lib.hid (BS11.out.below hb12)
      have Q12 := Lib.hid (Q11.out.below hb12)
      have BT12 := Lib.hid (BT11.out.below hb12)
      have X12 := Lib.hid (X11.out.below hb12)
      have Y12 := Lib.hid (Y11.out.below hb12)
      have K912 := Lib.hid (K911.out.below hb12)
      have KB12 := Lib.hid (KB11.out.trans (hb12.mono KB11.out.size))
      clear hb12
      go_wp2_with fail
      refine (rises_v Y12.out (by omega) HF.out.uq).mono ?_
      rintro e w13 ⟨rfl, hb13⟩
      have S13 := Lib.hid (S12.out.below hb13)
      have T13 := Lib.hid (T12.out.below hb13)
      have K13 := Lib.hid (K12.out.below hb13)
      have BS13 := Lib.hid (BS12.out.below hb13)
      have Q13 := Lib.hid (Q12.out.below hb13)
      have BT13 := Lib.hid (BT12.out.below hb13)
      have X13 := Lib.hid (X12.out.below hb13)
      have Y13 := Lib.hid (Y12.out.below hb13)
      have K913 := Lib.hid (K912.out.below hb13)
      have KB13 := Lib.hid (KB12.out.trans (hb13.mono KB12.out.size))
      clear hb13
      go_wp2_with fail
      refine (values_v S13.out (by omega) (by omega)).mono ?_
      rintro e w14 ⟨⟨V1, v1, rfl, hv1⟩, hb14⟩
      have S14 := Lib.hid (S13.out.below hb14)
      have T14 := Lib.hid (T13.out.below hb14)
      have K14 := Lib.hid (K13.out.below hb14)
      have BS14 := Lib.hid (BS13.out.below hb14)
      have Q14 := Lib.hid (Q13.out.below hb14)
      have BT14 := Lib.hid (BT13.out.below hb14)
      have X14 := Lib.hid (X13.out.below hb14)
      have Y14 := Lib.hid (Y13.out.below hb14)
      have K914 := Lib.hid (K913.out.below hb14)
      have KB14 := Lib.hid (KB13.out.trans (hb14.mono KB13.out.size))
      clear hb14
      have VA14 := Lib.hid hv1
      clear hv1
      go_wp2_with fail
      refine (values_v T14.out (by omega) (by omega)).mono ?_
      rintro e w15 ⟨⟨V2, v2, rfl, hv2⟩, hb15⟩
      have S15 := Lib.hid (S14.out.below hb15)
      have T15 := Lib.hid (T14.out.below hb15)
      have K15 := Lib.hid (K14.out.below hb15)
      have BS15 := Lib.hid (BS14.out.below hb15)
      have Q15 := Lib.hid (Q14.out.below hb15)
      have BT15 := Lib.hid (BT14.out.below hb15)
      have X15 := Lib.hid (X14.out.below hb15)
      have Y15 := Lib.hid (Y14.out.below hb15)
      have K915 := Lib.hid (K914.out.below hb15)
      have VA15 := Lib.hid (VA14.out.below hb15)
      have KB15 := Lib.hid (KB14.out.trans (hb15.mono KB14.out.size))
      clear hb15
      have VB15 := Lib.hid hv2
      clear hv2
      go_wp2_with fail
      refine (rfit_v X15.out Y15.out VA15.out VB15.out (by omega) HNA.out HNB.out HF.out).mono ?_
      rintro e w16 ⟨rfl, hb16⟩
      have S16 := Lib.hid (S15.out.below hb16)
      have T16 := Lib.hid (T15.out.below hb16)
      have K16 := Lib.hid (K15.out.below hb16)
      have BS16 := Lib.hid (BS15.out.below hb16)
      have Q16 := Lib.hid (Q15.out.below hb16)
      have BT16 := Lib.hid (BT15.out.below hb16)
      have X16 := Lib.hid (X15.out.below hb16)
      have Y16 := Lib.hid (Y15.out.below hb16)
      have K916 := Lib.hid (K915.out.below hb16)
      have VA16 := Lib.hid (VA15.out.below hb16)
      have VB16 := Lib.hid (VB15.out.below hb16)
      have KB16 := Lib.hid (KB15.out.trans (hb16.mono KB15.out.size))
      clear hb16
      go_wp2_with fail
      refine (lives_any _).mono ?_
      rintro e w17 ⟨rfl, hb17⟩
      have S17 := Lib.hid (S16.out.below hb17)
      have T17 := Lib.hid (T16.out.below hb17)
      have K17 := Lib.hid (K16.out.below hb17)
      have BS17 := Lib.hid (BS16.out.below hb17)
      have Q17 := Lib.hid (Q16.out.below hb17)
      have BT17 := Lib.hid (BT16.out.below hb17)
      have X17 := Lib.hid (X16.out.below hb17)
      have Y17 := Lib.hid (Y16.out.below hb17)
      have K917 := Lib.hid (K916.out.below hb17)
      have VA17 := Lib.hid (VA16.out.below hb17)
      have VB17 := Lib.hid (VB16.out.below hb17)
      have KB17 := Lib.hid (KB16.out.trans (hb17.mono KB16.out.size))
      clear hb17
      go_wp2
      go_ret
      exact ⟨rfl, KB17.out⟩
    · have h2 := HD.out
      rw [h1] at h2
      injection h2 with e1 h2
      injection h2 with e2 e3
      subst e1 e2 e3
      have HNO := Lib.hid hno
      have hm1 : m1 = 0 := HM1.out.1
      have hm2 : m2 = 0 := HM1.out.2
      subst hm1 hm2
      clear hno h1 her1
      rw [show ((32 : Nat) : Int) = 32 from rfl]
      go_wp2_with fail
      refine (only_v S11.out T11.out (by omega) (by omega) SA.out.nd).mono ?_
      rintro e w12 ⟨⟨Ax, x9, mx, cx, rfl, hmx, -, hox⟩, hb12⟩
      have S12 := Lib.hid (S11.out.below hb12)
      have T12 := Lib.hid (T11.out.below hb12)
      have K12 := Lib.hid (K11.out.below hb12)
      have BS12 := Lib.hid (BS11.out.below hb12)
      have Q12 := Lib.hid (Q11.out.below hb12)
      have BT12 := Lib.hid (BT11.out.below hb12)
      have X12 := Lib.hid (X11.out.below hb12)
      have Y12 := Lib.hid (Y11.out.below hb12)
      have K912 := Lib.hid (K911.out.below hb12)
      have KB12 := Lib.hid (KB11.out.trans (hb12.mono KB11.out.size))
      clear hb12
      have HOX := Lib.hid hox
      have HMX := Lib.hid hmx
      clear hox hmx
      go_wp2_with fail
      refine (only_v T12.out S12.out (by omega) (by omega) SB.out.nd).mono ?_
      rintro e w13 ⟨⟨Ay, y9, my, cy, rfl, hmy, -, hoy⟩, hb13⟩
      have S13 := Lib.hid (S12.out.below hb13)
      have T13 := Lib.hid (T12.out.below hb13)
      have K13 := Lib.hid (K12.out.below hb13)
      have BS13 := Lib.hid (BS12.out.below hb13)
      have Q13 := Lib.hid (Q12.out.below hb13)
      have BT13 := Lib.hid (BT12.out.below hb13)
      have X13 := Lib.hid (X12.out.below hb13)
      have Y13 := Lib.hid (Y12.out.below hb13)
      have K913 := Lib.hid (K912.out.below hb13)
      have KB13 := Lib.hid (KB12.out.trans (hb13.mono KB12.out.size))
      clear hb13
      have hbig : ¬ (mx + my + 2 ≤ n) := fun h => HNO.out x9 y9 ((Df.of HOX.out hoy).fit SA.out.nd SB.out.nd SA.out.el SB.out.el (by have := HMX.out; omega))
      have hq : decide ((n : Int) - 2 < (mx : Int) + (my : Int)) = true := decide_eq_true (by omega)
      have hq2 : (n : Int) - 2 < (mx : Int) + (my : Int) := by omega
      have hmx9 : mx ≤ 12 := by have h := sub_len (L := a) HOX.out.nodup (fun v hv => List.mem_of_mem_take ((HOX.out.mem v).1 hv).1) SA.out.el.lt; have := LA.out; have := HMX.out; omega
      have hmy9 : my ≤ 12 := by have h := sub_len (L := b) hoy.nodup (fun v hv => List.mem_of_mem_take ((hoy.mem v).1 hv).1) SB.out.el.lt; have := LB.out; omega
      clear hbig hoy hmy
      go_wp2_with fail
      refine (lives_any _).mono ?_
      rintro e w14 ⟨rfl, hb14⟩
      have S14 := Lib.hid (S13.out.below hb14)
      have T14 := Lib.hid (T13.out.below hb14)
      have K14 := Lib.hid (K13.out.below hb14)
      have BS14 := Lib.hid (BS13.out.below hb14)
      have Q14 := Lib.hid (Q13.out.below hb14)
      have BT14 := Lib.hid (BT13.out.below hb14)
      have X14 := Lib.hid (X13.out.below hb14)
      have Y14 := Lib.hid (Y13.out.below hb14)
      have K914 := Lib.hid (K913.out.below hb14)
      have KB14 := Lib.hid (KB13.out.trans (hb14.mono KB13.out.size))
      clear hb14
      go_wp2
      go_ret
      exact ⟨rfl, KB14.out⟩

end Go.Proofs.Ytcbcmnbfflaicaa
