/-
  PolyEuclid: a dividend is put together again, what is left is less; the Gcd divides both, and what divides both divides it.
-/
import Derived.Test.YtalljoneflepiaaLwc
namespace Go.Proofs.Ytalljoneflepiaa
open Go.RowKit

set_option maxRecDepth 100000 in
set_option maxHeartbeats 8000000 in
theorem euclid_walk (A A2 A3 : Option Addr) (n c m c2 m3 c3 : Nat) (l l2 l3 : List Nat) (w : World) (hA : In w A n c l) (hB : In w A2 m c2 l2) (hC : In w A3 m3 c3 l3) :
    Calls Try.prog 8 #[.slice A n c, .slice A2 m c2, .slice A3 m3 c3] w fun e w' => e = .returned (.bool true) ∧ Below w.heap.size w w' := by
  have A0 := Lib.hid hA
  have B0 := Lib.hid hB
  have C0 := Lib.hid hC
  have hk0 : Below w.heap.size w w := Below.refl _ _
  clear hA hB hC
  go_enter Try.func8, Try.ntmps8
  go_wp2_with fail
  refine (nums_v C0.out 3 (by omega)).mono ?_
  rintro e w1 ⟨⟨z, rfl, h⟩, hb1⟩
  have hk1 := kept_trans hk0 hb1
  have A1 := Lib.hid (A0.out.below hb1)
  have B1 := Lib.hid (B0.out.below hb1)
  have K1 := Lib.hid h
  clear hb1 hk0 A0 B0 C0 h
  go_wp2_with fail
  refine (trim_v K1.out (by omega)).mono ?_
  rintro e w2 ⟨⟨f, rfl, h⟩, hb2⟩
  have hk2 := kept_trans hk1 hb2
  have A2 := Lib.hid (A1.out.below hb2)
  have B2 := Lib.hid (B1.out.below hb2)
  have F2 := Lib.hid h
  clear hb2 hk1 A1 B1 K1 h
  go_wp2_with fail
  refine (nums_v A2.out 6 (by omega)).mono ?_
  rintro e w3 ⟨⟨z, rfl, h⟩, hb3⟩
  have hk3 := kept_trans hk2 hb3
  have B3 := Lib.hid (B2.out.below hb3)
  have F3 := Lib.hid (F2.out.below hb3)
  have X3 := Lib.hid h
  clear hb3 hk2 A2 B2 F2 h
  go_wp2_with fail
  refine (mul_v X3.out F3.out.q (by omega) (by omega)).mono ?_
  rintro e w4 ⟨⟨p, rfl, h⟩, hb4⟩
  obtain ⟨Ap, np, cp, rfl, hp9, hp0, _⟩ := h.open_
  have hk4 := kept_trans hk3 hb4
  have B4 := Lib.hid (B3.out.below hb4)
  have F4 := Lib.hid (F3.out.below hb4)
  have P4 := Lib.hid h
  have PZ := Lib.hid hp0
  clear hb4 hk3 B3 F3 X3 h hp0
  go_wp2_with fail
  refine (nums_v B4.out 6 (by omega)).mono ?_
  rintro e w5 ⟨⟨z, rfl, h⟩, hb5⟩
  have hk5 := kept_trans hk4 hb5
  have F5 := Lib.hid (F4.out.below hb5)
  have P5 := Lib.hid (P4.out.below hb5)
  have X5 := Lib.hid h
  clear hb5 hk4 B4 F4 P4 h
  go_wp2_with fail
  refine (mul_v X5.out F5.out.q (by omega) (by omega)).mono ?_
  rintro e w6 ⟨⟨q, rfl, h⟩, hb6⟩
  obtain ⟨Aq, nq, cq, rfl, hq9, hq0, _⟩ := h.open_
  have hk6 := kept_trans hk5 hb6
  have F6 := Lib.hid (F5.out.below hb6)
  have P6 := Lib.hid (P5.out.below hb6)
  have Q6 := Lib.hid h
  have QZ := Lib.hid hq0
  clear hb6 hk5 F5 P5 X5 h hq0
  rcases (show (np = 0 ∧ nq = 0) ∨ (np = 0 ∧ 0 < nq) ∨ (0 < np ∧ nq = 0) ∨ (0 < np ∧ 0 < nq) from by omega) with ⟨h1, h2⟩ | ⟨h1, h2⟩ | ⟨h1, h2⟩ | ⟨h1, h2⟩
  · have P0 := Lib.hid (PZ.out.1 h1)
    have Q0 := Lib.hid (QZ.out.1 h2)
    subst h1 h2
    go_wp2_with fail
    refine (gcd0_v (P6.out.to P0.out).q (Q6.out.to Q0.out).q (by omega) (by omega)).mono ?_
    rintro e w7 ⟨⟨Ag, cg, rfl⟩, hb7⟩
    have hk7 := kept_trans hk6 hb7
    clear hb7 hk6 F6 P6 Q6
    go_wp2_with fail
    refine (lives_any w7).mono ?_
    rintro e w8 ⟨rfl, hb8⟩
    have hk8 := kept_trans hk7 hb8
    clear hb8 hk7
    go_wp2
    go_ret
    exact ⟨rfl, hk8⟩
  · subst h1
    have t2 : ((nq : Int) == 0) = false := by rw [beq_eq_false_iff_ne]; omega
    have t3 : (0 : Int) < (nq : Int) := by omega
    have HNE := Lib.hid (Or.inr (fun e => by have := QZ.out.2 e; omega) : Pl.co (l.take 6) * Pl.co (l3.take 3) ≠ 0 ∨ Pl.co (l2.take 6) * Pl.co (l3.take 3) ≠ 0)
    go_wp2_with fail
    refine (gcd1_v P6.out.q Q6.out.q (by omega) (by omega) HNE.out).mono ?_
    rintro e w7 ⟨⟨bg, og, ng, jg, cg, g, rfl, hnj, hn9, h, hl, hg, g0⟩, hb7⟩
    have t4 : ((ng : Int) == 0) = false := by rw [beq_eq_false_iff_ne]; omega
    have t5 : (ng : Int) - 1 = (jg : Int) := by omega
    have t6 : (0 : Int) ≤ (jg : Int) := by omega
    have t7 : (jg : Int) < (ng : Int) := by omega
    have t8 : (jg : Int) ≤ 100 := by omega
    clear hnj
    have hk7 := kept_trans hk6 hb7
    have F7 := Lib.hid (F6.out.below hb7)
    have P7 := Lib.hid (P6.out.below hb7)
    have Q7 := Lib.hid (Q6.out.below hb7)
    have G7 := Lib.hid h
    have L7 := Lib.hid hl
    have HG := Lib.hid hg
    have G0 := Lib.hid g0
    clear hb7 hk6 F6 P6 Q6 h hl hg g0
    go_wp2_with fail
    refine (divs_v P7.out.q G7.out.q (by omega) (by omega) G0.out HG.out.left).mono ?_
    rintro e w8 ⟨⟨x, A1, c1, X, rfl, h, e1⟩, hb8⟩
    have hk8 := kept_trans hk7 hb8
    have F8 := Lib.hid (F7.out.below hb8)
    have P8 := Lib.hid (P7.out.below hb8)
    have Q8 := Lib.hid (Q7.out.below hb8)
    have G8 := Lib.hid (G7.out.below hb8)
    have L8 := Lib.hid (L7.out.below hb8)
    have X8 := Lib.hid h
    have EX := Lib.hid e1
    clear hb8 hk7 F7 P7 Q7 G7 L7 h e1
    go_wp2_with fail
    refine (divs_v Q8.out.q G8.out.q (by omega) (by omega) G0.out HG.out.right).mono ?_
    rintro e w9 ⟨⟨y, A2, c2, Y, rfl, h, e1⟩, hb9⟩
    have hk9 := kept_trans hk8 hb9
    have F9 := Lib.hid (F8.out.below hb9)
    have P9 := Lib.hid (P8.out.below hb9)
    have Q9 := Lib.hid (Q8.out.below hb9)
    have G9 := Lib.hid (G8.out.below hb9)
    have L9 := Lib.hid (L8.out.below hb9)
    have X9 := Lib.hid (X8.out.below hb9)
    have Y9 := Lib.hid h
    have EY := Lib.hid e1
    clear hb9 hk8 F8 P8 Q8 G8 L8 X8 h e1
    go_wp2_with fail
    refine (divs_v G9.out.q F9.out.q (by omega) (by omega) (fun e => by rw [e, Pl.mul_zero, Pl.mul_zero] at HNE; exact HNE.out.elim (fun h => h rfl) (fun h => h rfl)) ((HG.out.2.1 _ (Pl.Po.co _)).2 ⟨⟨_, Pl.Po.co _, Pl.mul_comm _ _⟩, ⟨_, Pl.Po.co _, Pl.mul_comm _ _⟩⟩)).mono ?_
    rintro e w10 ⟨⟨t, A3, c3, T, rfl, h, e1⟩, hb10⟩
    clear h e1
    have hk10 := kept_trans hk9 hb10
    have P10 := Lib.hid (P9.out.below hb10)
    have Q10 := Lib.hid (Q9.out.below hb10)
    have G10 := Lib.hid (G9.out.below hb10)
    have L10 := Lib.hid (L9.out.below hb10)
    have X10 := Lib.hid (X9.out.below hb10)
    have Y10 := Lib.hid (Y9.out.below hb10)
    clear hb10 hk9 F9 P9 Q9 G9 L9 X9 Y9
    have hlc : w10.cell? ⟨bg, og + jg, none⟩ = some (.int .u64 1) := L10.out.2
    go_wp2_with fail
    refine (divm_v P10.out.q Q10.out (by omega) (by omega) (fun e => by have := QZ.out.2 e; omega)).mono ?_
    rintro e w11 ⟨⟨u, Av, nv, cv, U, V, rfl, h, h', hlt, hdm⟩, hb11⟩
    clear hlc
    have hk11 := kept_trans hk10 hb11
    have P11 := Lib.hid (P10.out.below hb11)
    have Q11 := Lib.hid (Q10.out.below hb11)
    have G11 := Lib.hid (G10.out.below hb11)
    have X11 := Lib.hid (X10.out.below hb11)
    have Y11 := Lib.hid (Y10.out.below hb11)
    have U11 := Lib.hid h
    have V11 := Lib.hid h'
    have HDM := Lib.hid hdm
    clear hb11 hk10 P10 Q10 G10 L10 X10 Y10 h h' hdm
    go_wp2_with fail
    refine (mul_v U11.out.q Q11.out.q (by omega) (by omega)).mono ?_
    rintro e w12 ⟨⟨z, rfl, h⟩, hb12⟩
    have hk12 := kept_trans hk11 hb12
    have P12 := Lib.hid (P11.out.below hb12)
    have Q12 := Lib.hid (Q11.out.below hb12)
    have G12 := Lib.hid (G11.out.below hb12)
    have X12 := Lib.hid (X11.out.below hb12)
    have Y12 := Lib.hid (Y11.out.below hb12)
    have V12 := Lib.hid (V11.out.below hb12)
    have Z12 := Lib.hid h
    clear hb12 hk11 P11 Q11 G11 X11 Y11 U11 V11 h
    go_wp2_with fail
    refine (add_v Z12.out.q V12.out.q (by omega) (by omega)).mono ?_
    rintro e w13 ⟨⟨z, rfl, h⟩, hb13⟩
    have hk13 := kept_trans hk12 hb13
    have P13 := Lib.hid (P12.out.below hb13)
    have Q13 := Lib.hid (Q12.out.below hb13)
    have G13 := Lib.hid (G12.out.below hb13)
    have X13 := Lib.hid (X12.out.below hb13)
    have Y13 := Lib.hid (Y12.out.below hb13)
    have Z13 := Lib.hid h
    clear hb13 hk12 P12 Q12 G12 X12 Y12 V12 Z12 h
    go_wp2_with fail
    refine (same_v Z13.out (P13.out.to HDM.out.2.2.1) (by omega) (by omega)).mono ?_
    rintro e w14 ⟨rfl, hb14⟩
    have hk14 := kept_trans hk13 hb14
    have P14 := Lib.hid (P13.out.below hb14)
    have Q14 := Lib.hid (Q13.out.below hb14)
    have G14 := Lib.hid (G13.out.below hb14)
    have X14 := Lib.hid (X13.out.below hb14)
    have Y14 := Lib.hid (Y13.out.below hb14)
    clear hb14 hk13 P13 Q13 G13 X13 Y13 Z13
    go_wp2_with fail
    refine (mul_v X14.out.q G14.out.q (by omega) (by omega)).mono ?_
    rintro e w15 ⟨⟨z, rfl, h⟩, hb15⟩
    have hk15 := kept_trans hk14 hb15
    have P15 := Lib.hid (P14.out.below hb15)
    have Q15 := Lib.hid (Q14.out.below hb15)
    have G15 := Lib.hid (G14.out.below hb15)
    have X15 := Lib.hid (X14.out.below hb15)
    have Y15 := Lib.hid (Y14.out.below hb15)
    have Z15 := Lib.hid h
    clear hb15 hk14 P14 Q14 G14 X14 Y14 h
    go_wp2_with fail
    refine (same_v Z15.out (P15.out.to EX.out) (by omega) (by omega)).mono ?_
    rintro e w16 ⟨rfl, hb16⟩
    have hk16 := kept_trans hk15 hb16
    have Q16 := Lib.hid (Q15.out.below hb16)
    have G16 := Lib.hid (G15.out.below hb16)
    have X16 := Lib.hid (X15.out.below hb16)
    have Y16 := Lib.hid (Y15.out.below hb16)
    clear hb16 hk15 P15 Q15 G15 X15 Y15 Z15
    go_wp2_with fail
    refine (mul_v Y16.out.q G16.out.q (by omega) (by omega)).mono ?_
    rintro e w17 ⟨⟨z, rfl, h⟩, hb17⟩
    have hk17 := kept_trans hk16 hb17
    have Q17 := Lib.hid (Q16.out.below hb17)
    have G17 := Lib.hid (G16.out.below hb17)
    have X17 := Lib.hid (X16.out.below hb17)
    have Y17 := Lib.hid (Y16.out.below hb17)
    have Z17 := Lib.hid h
    clear hb17 hk16 Q16 G16 X16 Y16 h
    go_wp2_with fail
    refine (same_v Z17.out (Q17.out.to EY.out) (by omega) (by omega)).mono ?_
    rintro e w18 ⟨rfl, hb18⟩
    have hk18 := kept_trans hk17 hb18
    have G18 := Lib.hid (G17.out.below hb18)
    have X18 := Lib.hid (X17.out.below hb18)
    have Y18 := Lib.hid (Y17.out.below hb18)
    clear hb18 hk17 Q17 G17 X17 Y17 Z17
    go_wp2_with fail
    refine (gcdu_v X18.out.q Y18.out.q (by omega) (by omega) HG.out G0.out EX.out EY.out).mono ?_
    rintro e w19 ⟨⟨Au, cu, rfl⟩, hb19⟩
    have hk19 := kept_trans hk18 hb19
    clear hb19 hk18 G18 X18 Y18
    go_wp2_with fail
    refine (lives_any w19).mono ?_
    rintro e w20 ⟨rfl, hb20⟩
    have hk20 := kept_trans hk19 hb20
    clear hb20 hk19
    go_wp2
    go_ret
    exact ⟨rfl, hk20⟩
  · have t1 : ((np : Int) == 0) = false := by rw [beq_eq_false_iff_ne]; omega
    subst h2
    have HNE := Lib.hid (Or.inl (fun e => by have := PZ.out.2 e; omega) : Pl.co (l.take 6) * Pl.co (l3.take 3) ≠ 0 ∨ Pl.co (l2.take 6) * Pl.co (l3.take 3) ≠ 0)
    go_wp2_with fail
    refine (gcd1_v P6.out.q Q6.out.q (by omega) (by omega) HNE.out).mono ?_
    rintro e w7 ⟨⟨bg, og, ng, jg, cg, g, rfl, hnj, hn9, h, hl, hg, g0⟩, hb7⟩
    have t4 : ((ng : Int) == 0) = false := by rw [beq_eq_false_iff_ne]; omega
    have t5 : (ng : Int) - 1 = (jg : Int) := by omega
    have t6 : (0 : Int) ≤ (jg : Int) := by omega
    have t7 : (jg : Int) < (ng : Int) := by omega
    have t8 : (jg : Int) ≤ 100 := by omega
    clear hnj
    have hk7 := kept_trans hk6 hb7
    have F7 := Lib.hid (F6.out.below hb7)
    have P7 := Lib.hid (P6.out.below hb7)
    have Q7 := Lib.hid (Q6.out.below hb7)
    have G7 := Lib.hid h
    have L7 := Lib.hid hl
    have HG := Lib.hid hg
    have G0 := Lib.hid g0
    clear hb7 hk6 F6 P6 Q6 h hl hg g0
    go_wp2_with fail
    refine (divs_v P7.out.q G7.out.q (by omega) (by omega) G0.out HG.out.left).mono ?_
    rintro e w8 ⟨⟨x, A1, c1, X, rfl, h, e1⟩, hb8⟩
    have hk8 := kept_trans hk7 hb8
    have F8 := Lib.hid (F7.out.below hb8)
    have P8 := Lib.hid (P7.out.below hb8)
    have Q8 := Lib.hid (Q7.out.below hb8)
    have G8 := Lib.hid (G7.out.below hb8)
    have L8 := Lib.hid (L7.out.below hb8)
    have X8 := Lib.hid h
    have EX := Lib.hid e1
    clear hb8 hk7 F7 P7 Q7 G7 L7 h e1
    go_wp2_with fail
    refine (divs_v Q8.out.q G8.out.q (by omega) (by omega) G0.out HG.out.right).mono ?_
    rintro e w9 ⟨⟨y, A2, c2, Y, rfl, h, e1⟩, hb9⟩
    have hk9 := kept_trans hk8 hb9
    have F9 := Lib.hid (F8.out.below hb9)
    have P9 := Lib.hid (P8.out.below hb9)
    have Q9 := Lib.hid (Q8.out.below hb9)
    have G9 := Lib.hid (G8.out.below hb9)
    have L9 := Lib.hid (L8.out.below hb9)
    have X9 := Lib.hid (X8.out.below hb9)
    have Y9 := Lib.hid h
    have EY := Lib.hid e1
    clear hb9 hk8 F8 P8 Q8 G8 L8 X8 h e1
    go_wp2_with fail
    refine (divs_v G9.out.q F9.out.q (by omega) (by omega) (fun e => by rw [e, Pl.mul_zero, Pl.mul_zero] at HNE; exact HNE.out.elim (fun h => h rfl) (fun h => h rfl)) ((HG.out.2.1 _ (Pl.Po.co _)).2 ⟨⟨_, Pl.Po.co _, Pl.mul_comm _ _⟩, ⟨_, Pl.Po.co _, Pl.mul_comm _ _⟩⟩)).mono ?_
    rintro e w10 ⟨⟨t, A3, c3, T, rfl, h, e1⟩, hb10⟩
    clear h e1
    have hk10 := kept_trans hk9 hb10
    have P10 := Lib.hid (P9.out.below hb10)
    have Q10 := Lib.hid (Q9.out.below hb10)
    have G10 := Lib.hid (G9.out.below hb10)
    have L10 := Lib.hid (L9.out.below hb10)
    have X10 := Lib.hid (X9.out.below hb10)
    have Y10 := Lib.hid (Y9.out.below hb10)
    clear hb10 hk9 F9 P9 Q9 G9 L9 X9 Y9
    have hlc : w10.cell? ⟨bg, og + jg, none⟩ = some (.int .u64 1) := L10.out.2
    go_wp2_with fail
    refine (mul_v X10.out.q G10.out.q (by omega) (by omega)).mono ?_
    rintro e w11 ⟨⟨z, rfl, h⟩, hb11⟩
    clear hlc
    have hk11 := kept_trans hk10 hb11
    have P11 := Lib.hid (P10.out.below hb11)
    have Q11 := Lib.hid (Q10.out.below hb11)
    have G11 := Lib.hid (G10.out.below hb11)
    have L11 := Lib.hid (L10.out.below hb11)
    have X11 := Lib.hid (X10.out.below hb11)
    have Y11 := Lib.hid (Y10.out.below hb11)
    have Z11 := Lib.hid h
    clear hb11 hk10 P10 Q10 G10 L10 X10 Y10 h
    go_wp2_with fail
    refine (same_v Z11.out (P11.out.to EX.out) (by omega) (by omega)).mono ?_
    rintro e w12 ⟨rfl, hb12⟩
    have hk12 := kept_trans hk11 hb12
    have Q12 := Lib.hid (Q11.out.below hb12)
    have G12 := Lib.hid (G11.out.below hb12)
    have L12 := Lib.hid (L11.out.below hb12)
    have X12 := Lib.hid (X11.out.below hb12)
    have Y12 := Lib.hid (Y11.out.below hb12)
    clear hb12 hk11 P11 Q11 G11 L11 X11 Y11 Z11
    go_wp2_with fail
    refine (mul_v Y12.out.q G12.out.q (by omega) (by omega)).mono ?_
    rintro e w13 ⟨⟨z, rfl, h⟩, hb13⟩
    have hk13 := kept_trans hk12 hb13
    have Q13 := Lib.hid (Q12.out.below hb13)
    have G13 := Lib.hid (G12.out.below hb13)
    have L13 := Lib.hid (L12.out.below hb13)
    have X13 := Lib.hid (X12.out.below hb13)
    have Y13 := Lib.hid (Y12.out.below hb13)
    have Z13 := Lib.hid h
    clear hb13 hk12 Q12 G12 L12 X12 Y12 h
    go_wp2_with fail
    refine (same_v Z13.out (Q13.out.to EY.out) (by omega) (by omega)).mono ?_
    rintro e w14 ⟨rfl, hb14⟩
    have hk14 := kept_trans hk13 hb14
    have G14 := Lib.hid (G13.out.below hb14)
    have L14 := Lib.hid (L13.out.below hb14)
    have X14 := Lib.hid (X13.out.below hb14)
    have Y14 := Lib.hid (Y13.out.below hb14)
    clear hb14 hk13 Q13 G13 L13 X13 Y13 Z13
    go_wp2_with fail
    refine (gcdu_v X14.out.q Y14.out.q (by omega) (by omega) HG.out G0.out EX.out EY.out).mono ?_
    rintro e w15 ⟨⟨Au, cu, rfl⟩, hb15⟩
    have hk15 := kept_trans hk14 hb15
    have L15 := Lib.hid (L14.out.below hb15)
    clear hb15 hk14 G14 L14 X14 Y14
    go_wp2_with fail
    refine (lives_any w15).mono ?_
    rintro e w16 ⟨rfl, hb16⟩
    have hk16 := kept_trans hk15 hb16
    have L16 := Lib.hid (L15.out.below hb16)
    clear hb16 hk15 L15
    go_wp2
    go_ret
    exact ⟨rfl, hk16⟩
  · have t1 : ((np : Int) == 0) = false := by rw [beq_eq_false_iff_ne]; omega
    have t2 : ((nq : Int) == 0) = false := by rw [beq_eq_false_iff_ne]; omega
    have t3 : (0 : Int) < (nq : Int) := by omega
    have HNE := Lib.hid (Or.inr (fun e => by have := QZ.out.2 e; omega) : Pl.co (l.take 6) * Pl.co (l3.take 3) ≠ 0 ∨ Pl.co (l2.take 6) * Pl.co (l3.take 3) ≠ 0)
    go_wp2_with fail
    refine (gcd1_v P6.out.q Q6.out.q (by omega) (by omega) HNE.out).mono ?_
    rintro e w7 ⟨⟨bg, og, ng, jg, cg, g, rfl, hnj, hn9, h, hl, hg, g0⟩, hb7⟩
    have t4 : ((ng : Int) == 0) = false := by rw [beq_eq_false_iff_ne]; omega
    have t5 : (ng : Int) - 1 = (jg : Int) := by omega
    have t6 : (0 : Int) ≤ (jg : Int) := by omega
    have t7 : (jg : Int) < (ng : Int) := by omega
    have t8 : (jg : Int) ≤ 100 := by omega
    clear hnj
    have hk7 := kept_trans hk6 hb7
    have F7 := Lib.hid (F6.out.below hb7)
    have P7 := Lib.hid (P6.out.below hb7)
    have Q7 := Lib.hid (Q6.out.below hb7)
    have G7 := Lib.hid h
    have L7 := Lib.hid hl
    have HG := Lib.hid hg
    have G0 := Lib.hid g0
    clear hb7 hk6 F6 P6 Q6 h hl hg g0
    go_wp2_with fail
    refine (divs_v P7.out.q G7.out.q (by omega) (by omega) G0.out HG.out.left).mono ?_
    rintro e w8 ⟨⟨x, A1, c1, X, rfl, h, e1⟩, hb8⟩
    have hk8 := kept_trans hk7 hb8
    have F8 := Lib.hid (F7.out.below hb8)
    have P8 := Lib.hid (P7.out.below hb8)
    have Q8 := Lib.hid (Q7.out.below hb8)
    have G8 := Lib.hid (G7.out.below hb8)
    have L8 := Lib.hid (L7.out.below hb8)
    have X8 := Lib.hid h
    have EX := Lib.hid e1
    clear hb8 hk7 F7 P7 Q7 G7 L7 h e1
    go_wp2_with fail
    refine (divs_v Q8.out.q G8.out.q (by omega) (by omega) G0.out HG.out.right).mono ?_
    rintro e w9 ⟨⟨y, A2, c2, Y, rfl, h, e1⟩, hb9⟩
    have hk9 := kept_trans hk8 hb9
    have F9 := Lib.hid (F8.out.below hb9)
    have P9 := Lib.hid (P8.out.below hb9)
    have Q9 := Lib.hid (Q8.out.below hb9)
    have G9 := Lib.hid (G8.out.below hb9)
    have L9 := Lib.hid (L8.out.below hb9)
    have X9 := Lib.hid (X8.out.below hb9)
    have Y9 := Lib.hid h
    have EY := Lib.hid e1
    clear hb9 hk8 F8 P8 Q8 G8 L8 X8 h e1
    go_wp2_with fail
    refine (divs_v G9.out.q F9.out.q (by omega) (by omega) (fun e => by rw [e, Pl.mul_zero, Pl.mul_zero] at HNE; exact HNE.out.elim (fun h => h rfl) (fun h => h rfl)) ((HG.out.2.1 _ (Pl.Po.co _)).2 ⟨⟨_, Pl.Po.co _, Pl.mul_comm _ _⟩, ⟨_, Pl.Po.co _, Pl.mul_comm _ _⟩⟩)).mono ?_
    rintro e w10 ⟨⟨t, A3, c3, T, rfl, h, e1⟩, hb10⟩
    clear h e1
    have hk10 := kept_trans hk9 hb10
    have P10 := Lib.hid (P9.out.below hb10)
    have Q10 := Lib.hid (Q9.out.below hb10)
    have G10 := Lib.hid (G9.out.below hb10)
    have L10 := Lib.hid (L9.out.below hb10)
    have X10 := Lib.hid (X9.out.below hb10)
    have Y10 := Lib.hid (Y9.out.below hb10)
    clear hb10 hk9 F9 P9 Q9 G9 L9 X9 Y9
    have hlc : w10.cell? ⟨bg, og + jg, none⟩ = some (.int .u64 1) := L10.out.2
    go_wp2_with fail
    refine (divm_v P10.out.q Q10.out (by omega) (by omega) (fun e => by have := QZ.out.2 e; omega)).mono ?_
    rintro e w11 ⟨⟨u, Av, nv, cv, U, V, rfl, h, h', hlt, hdm⟩, hb11⟩
    clear hlc
    have hk11 := kept_trans hk10 hb11
    have P11 := Lib.hid (P10.out.below hb11)
    have Q11 := Lib.hid (Q10.out.below hb11)
    have G11 := Lib.hid (G10.out.below hb11)
    have X11 := Lib.hid (X10.out.below hb11)
    have Y11 := Lib.hid (Y10.out.below hb11)
    have U11 := Lib.hid h
    have V11 := Lib.hid h'
    have HDM := Lib.hid hdm
    clear hb11 hk10 P10 Q10 G10 L10 X10 Y10 h h' hdm
    go_wp2_with fail
    refine (mul_v U11.out.q Q11.out.q (by omega) (by omega)).mono ?_
    rintro e w12 ⟨⟨z, rfl, h⟩, hb12⟩
    have hk12 := kept_trans hk11 hb12
    have P12 := Lib.hid (P11.out.below hb12)
    have Q12 := Lib.hid (Q11.out.below hb12)
    have G12 := Lib.hid (G11.out.below hb12)
    have X12 := Lib.hid (X11.out.below hb12)
    have Y12 := Lib.hid (Y11.out.below hb12)
    have V12 := Lib.hid (V11.out.below hb12)
    have Z12 := Lib.hid h
    clear hb12 hk11 P11 Q11 G11 X11 Y11 U11 V11 h
    go_wp2_with fail
    refine (add_v Z12.out.q V12.out.q (by omega) (by omega)).mono ?_
    rintro e w13 ⟨⟨z, rfl, h⟩, hb13⟩
    have hk13 := kept_trans hk12 hb13
    have P13 := Lib.hid (P12.out.below hb13)
    have Q13 := Lib.hid (Q12.out.below hb13)
    have G13 := Lib.hid (G12.out.below hb13)
    have X13 := Lib.hid (X12.out.below hb13)
    have Y13 := Lib.hid (Y12.out.below hb13)
    have Z13 := Lib.hid h
    clear hb13 hk12 P12 Q12 G12 X12 Y12 V12 Z12 h
    go_wp2_with fail
    refine (same_v Z13.out (P13.out.to HDM.out.2.2.1) (by omega) (by omega)).mono ?_
    rintro e w14 ⟨rfl, hb14⟩
    have hk14 := kept_trans hk13 hb14
    have P14 := Lib.hid (P13.out.below hb14)
    have Q14 := Lib.hid (Q13.out.below hb14)
    have G14 := Lib.hid (G13.out.below hb14)
    have X14 := Lib.hid (X13.out.below hb14)
    have Y14 := Lib.hid (Y13.out.below hb14)
    clear hb14 hk13 P13 Q13 G13 X13 Y13 Z13
    go_wp2_with fail
    refine (mul_v X14.out.q G14.out.q (by omega) (by omega)).mono ?_
    rintro e w15 ⟨⟨z, rfl, h⟩, hb15⟩
    have hk15 := kept_trans hk14 hb15
    have P15 := Lib.hid (P14.out.below hb15)
    have Q15 := Lib.hid (Q14.out.below hb15)
    have G15 := Lib.hid (G14.out.below hb15)
    have X15 := Lib.hid (X14.out.below hb15)
    have Y15 := Lib.hid (Y14.out.below hb15)
    have Z15 := Lib.hid h
    clear hb15 hk14 P14 Q14 G14 X14 Y14 h
    go_wp2_with fail
    refine (same_v Z15.out (P15.out.to EX.out) (by omega) (by omega)).mono ?_
    rintro e w16 ⟨rfl, hb16⟩
    have hk16 := kept_trans hk15 hb16
    have Q16 := Lib.hid (Q15.out.below hb16)
    have G16 := Lib.hid (G15.out.below hb16)
    have X16 := Lib.hid (X15.out.below hb16)
    have Y16 := Lib.hid (Y15.out.below hb16)
    clear hb16 hk15 P15 Q15 G15 X15 Y15 Z15
    go_wp2_with fail
    refine (mul_v Y16.out.q G16.out.q (by omega) (by omega)).mono ?_
    rintro e w17 ⟨⟨z, rfl, h⟩, hb17⟩
    have hk17 := kept_trans hk16 hb17
    have Q17 := Lib.hid (Q16.out.below hb17)
    have G17 := Lib.hid (G16.out.below hb17)
    have X17 := Lib.hid (X16.out.below hb17)
    have Y17 := Lib.hid (Y16.out.below hb17)
    have Z17 := Lib.hid h
    clear hb17 hk16 Q16 G16 X16 Y16 h
    go_wp2_with fail
    refine (same_v Z17.out (Q17.out.to EY.out) (by omega) (by omega)).mono ?_
    rintro e w18 ⟨rfl, hb18⟩
    have hk18 := kept_trans hk17 hb18
    have G18 := Lib.hid (G17.out.below hb18)
    have X18 := Lib.hid (X17.out.below hb18)
    have Y18 := Lib.hid (Y17.out.below hb18)
    clear hb18 hk17 Q17 G17 X17 Y17 Z17
    go_wp2_with fail
    refine (gcdu_v X18.out.q Y18.out.q (by omega) (by omega) HG.out G0.out EX.out EY.out).mono ?_
    rintro e w19 ⟨⟨Au, cu, rfl⟩, hb19⟩
    have hk19 := kept_trans hk18 hb19
    clear hb19 hk18 G18 X18 Y18
    go_wp2_with fail
    refine (lives_any w19).mono ?_
    rintro e w20 ⟨rfl, hb20⟩
    have hk20 := kept_trans hk19 hb20
    clear hb20 hk19
    go_wp2
    go_ret
    exact ⟨rfl, hk20⟩

end Go.Proofs.Ytalljoneflepiaa
