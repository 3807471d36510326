/-
  PolyRing: a ring, and its values.
-/
import Derived.Test.YtalljoneflepiaaVls
namespace Go.Proofs.Ytalljoneflepiaa
open Go.RowKit

theorem vl_big (s : Pl) (x : Nat) : vl s x < 18446744073709551616 := Nat.lt_trans (vl_lt s x) (by omega)
theorem vl_add {s t : Pl} (hs : Pl.Po s) (ht : Pl.Po t) (x : Nat) : vl (s + t) x = Fld.add (vl s x) (vl t x) :=
  Fld.to_inj (vl_lt _ _) (Fld.add_lt _ _) (by rw [to_vl, Fld.to_addF, to_vl, to_vl, Pl.val_add hs ht])
theorem vl_mul {s t : Pl} (hs : Pl.Po s) (ht : Pl.Po t) (x : Nat) : vl (s * t) x = Fld.mul (vl s x) (vl t x) :=
  Fld.to_inj (vl_lt _ _) (Fld.mul_lt _ _) (by rw [to_vl, Fld.to_mulF, to_vl, to_vl, Pl.val_mul hs ht])
theorem eval_add_v {w : World} {o : Value} {s t : Pl} {d : Nat} (h : Tv w o (s + t) d) (hs : Pl.Po s) (ht : Pl.Po t) (hd : d ≤ 100000) (x : Nat) (hx : x < 18446744073709551616) :
    Calls Try.prog 20 #[o, .int .u64 (x : Int)] w fun e w' => e = .returned (.int .u64 ((Fld.add (vl s x) (vl t x) : Nat) : Int)) ∧ Below w.heap.size w w' := by
  have h1 := eval_v h.q hd x hx
  rwa [vl_add hs ht] at h1
theorem eval_mul_v {w : World} {o : Value} {s t : Pl} {d : Nat} (h : Tv w o (s * t) d) (hs : Pl.Po s) (ht : Pl.Po t) (hd : d ≤ 100000) (x : Nat) (hx : x < 18446744073709551616) :
    Calls Try.prog 20 #[o, .int .u64 (x : Int)] w fun e w' => e = .returned (.int .u64 ((Fld.mul (vl s x) (vl t x) : Nat) : Int)) ∧ Below w.heap.size w w' := by
  have h1 := eval_v h.q hd x hx
  rwa [vl_mul hs ht] at h1
theorem fadd_v (a b : Nat) (w : World) (ha : a < 18446744073709551616) (hb : b < 18446744073709551616) : Calls Try.prog 38 #[.int .u64 a, .int .u64 b] w fun e w' => e = .returned (.int .u64 (Fld.add a b : Nat)) ∧ Below w.heap.size w w' :=
  (add_any a b w ha hb).mono fun _ _ ⟨h, e⟩ => ⟨h, e ▸ Below.refl _ _⟩
theorem fmul_v (a b : Nat) (w : World) (ha : a < 18446744073709551616) (hb : b < 18446744073709551616) : Calls Try.prog 39 #[.int .u64 a, .int .u64 b] w fun e w' => e = .returned (.int .u64 (Fld.mul a b : Nat)) ∧ Below w.heap.size w w' :=
  (mul_any a b w ha hb).mono fun _ _ ⟨h, e⟩ => ⟨h, e ▸ Below.refl _ _⟩
theorem one_q (w : World) : Qv (w.alloc (.cells #[.int .u64 1] 23)) (.slice (some ⟨w.heap.size, 0, none⟩) 1 1) (Pl.C 1) 1 :=
  ⟨_, 1, 1, [1], rfl, ⟨rfl, rd_news w [1], Nat.le_refl _, fun e => by cases e⟩, by intro y hy; rw [List.mem_singleton.1 hy]; omega, Nat.le_refl _, co_one 1⟩

set_option maxRecDepth 100000 in
set_option maxHeartbeats 8000000 in
theorem ring_walk (A A2 A3 : Option Addr) (n c m c2 m3 c3 x : Nat) (l l2 l3 : List Nat) (w : World) (hA : In w A n c l) (hB : In w A2 m c2 l2) (hC : In w A3 m3 c3 l3) (hx : x < 18446744073709551616) :
    Calls Try.prog 7 #[.slice A n c, .slice A2 m c2, .slice A3 m3 c3, .int .u64 (x : Int)] w fun e w' => e = .returned (.bool true) ∧ Below w.heap.size w w' := by
  have A0 := Lib.hid hA
  have B0 := Lib.hid hB
  have C0 := Lib.hid hC
  have hk0 : Below w.heap.size w w := Below.refl _ _
  clear hA hB hC
  go_enter Try.func7, Try.ntmps7
  go_wp2_with fail
  refine (nums_v A0.out 5 (by omega)).mono ?_
  rintro e w1 ⟨⟨p, rfl, hp⟩, hb1⟩
  have hk1 := kept_trans hk0 hb1
  have B1 := Lib.hid (B0.out.below hb1)
  have C1 := Lib.hid (C0.out.below hb1)
  have P1 := Lib.hid hp
  clear hb1 hk0 A0 B0 C0 hp
  go_wp2_with fail
  refine (nums_v B1.out 5 (by omega)).mono ?_
  rintro e w2 ⟨⟨q, rfl, hq⟩, hb2⟩
  have hk2 := kept_trans hk1 hb2
  have C2 := Lib.hid (C1.out.below hb2)
  have P2 := Lib.hid (P1.out.below hb2)
  have Q2 := Lib.hid hq
  clear hb2 hk1 B1 C1 P1 hq
  go_wp2_with fail
  refine (nums_v C2.out 5 (by omega)).mono ?_
  rintro e w3 ⟨⟨s, rfl, hs⟩, hb3⟩
  have hk3 := kept_trans hk2 hb3
  have P3 := Lib.hid (P2.out.below hb3)
  have Q3 := Lib.hid (Q2.out.below hb3)
  have S3 := Lib.hid hs
  clear hb3 hk2 C2 P2 Q2 hs
  go_wp2_with fail
  refine (add_v P3.out Q3.out (by omega) (by omega)).mono ?_
  rintro e w4 ⟨⟨z1, rfl, h1⟩, hb4⟩
  have hk4 := kept_trans hk3 hb4
  have P4 := Lib.hid (P3.out.below hb4)
  have Q4 := Lib.hid (Q3.out.below hb4)
  have S4 := Lib.hid (S3.out.below hb4)
  have D4 := Lib.hid h1
  clear hb4 hk3 P3 Q3 S3 h1
  go_wp2_with fail
  refine (eval_add_v D4.out P4.out.po Q4.out.po (by omega) x hx).mono ?_
  rintro e w5 ⟨rfl, hb5⟩
  have hk5 := kept_trans hk4 hb5
  have P5 := Lib.hid (P4.out.below hb5)
  have Q5 := Lib.hid (Q4.out.below hb5)
  have S5 := Lib.hid (S4.out.below hb5)
  clear hb5 hk4 P4 Q4 S4 D4
  go_wp2_with fail
  refine (eval_v P5.out (by omega) x hx).mono ?_
  rintro e w6 ⟨rfl, hb6⟩
  have hk6 := kept_trans hk5 hb6
  have P6 := Lib.hid (P5.out.below hb6)
  have Q6 := Lib.hid (Q5.out.below hb6)
  have S6 := Lib.hid (S5.out.below hb6)
  clear hb6 hk5 P5 Q5 S5
  go_wp2_with fail
  refine (eval_v Q6.out (by omega) x hx).mono ?_
  rintro e w7 ⟨rfl, hb7⟩
  have hk7 := kept_trans hk6 hb7
  have P7 := Lib.hid (P6.out.below hb7)
  have Q7 := Lib.hid (Q6.out.below hb7)
  have S7 := Lib.hid (S6.out.below hb7)
  clear hb7 hk6 P6 Q6 S6
  go_wp2_with fail
  refine (fadd_v _ _ w7 (vl_big _ _) (vl_big _ _)).mono ?_
  rintro e w8 ⟨rfl, hb8⟩
  have hk8 := kept_trans hk7 hb8
  have P8 := Lib.hid (P7.out.below hb8)
  have Q8 := Lib.hid (Q7.out.below hb8)
  have S8 := Lib.hid (S7.out.below hb8)
  clear hb8 hk7 P7 Q7 S7
  go_wp2_with fail
  refine (mul_v P8.out Q8.out (by omega) (by omega)).mono ?_
  rintro e w9 ⟨⟨z1, rfl, h1⟩, hb9⟩
  have hk9 := kept_trans hk8 hb9
  have P9 := Lib.hid (P8.out.below hb9)
  have Q9 := Lib.hid (Q8.out.below hb9)
  have S9 := Lib.hid (S8.out.below hb9)
  have D9 := Lib.hid h1
  clear hb9 hk8 P8 Q8 S8 h1
  go_wp2_with fail
  refine (eval_mul_v D9.out P9.out.po Q9.out.po (by omega) x hx).mono ?_
  rintro e w10 ⟨rfl, hb10⟩
  have hk10 := kept_trans hk9 hb10
  have P10 := Lib.hid (P9.out.below hb10)
  have Q10 := Lib.hid (Q9.out.below hb10)
  have S10 := Lib.hid (S9.out.below hb10)
  clear hb10 hk9 P9 Q9 S9 D9
  go_wp2_with fail
  refine (eval_v P10.out (by omega) x hx).mono ?_
  rintro e w11 ⟨rfl, hb11⟩
  have hk11 := kept_trans hk10 hb11
  have P11 := Lib.hid (P10.out.below hb11)
  have Q11 := Lib.hid (Q10.out.below hb11)
  have S11 := Lib.hid (S10.out.below hb11)
  clear hb11 hk10 P10 Q10 S10
  go_wp2_with fail
  refine (eval_v Q11.out (by omega) x hx).mono ?_
  rintro e w12 ⟨rfl, hb12⟩
  have hk12 := kept_trans hk11 hb12
  have P12 := Lib.hid (P11.out.below hb12)
  have Q12 := Lib.hid (Q11.out.below hb12)
  have S12 := Lib.hid (S11.out.below hb12)
  clear hb12 hk11 P11 Q11 S11
  go_wp2_with fail
  refine (fmul_v _ _ w12 (vl_big _ _) (vl_big _ _)).mono ?_
  rintro e w13 ⟨rfl, hb13⟩
  have hk13 := kept_trans hk12 hb13
  have P13 := Lib.hid (P12.out.below hb13)
  have Q13 := Lib.hid (Q12.out.below hb13)
  have S13 := Lib.hid (S12.out.below hb13)
  clear hb13 hk12 P12 Q12 S12
  go_wp2_with fail
  refine (mul_v P13.out Q13.out (by omega) (by omega)).mono ?_
  rintro e w14 ⟨⟨z1, rfl, h1⟩, hb14⟩
  have hk14 := kept_trans hk13 hb14
  have P14 := Lib.hid (P13.out.below hb14)
  have Q14 := Lib.hid (Q13.out.below hb14)
  have S14 := Lib.hid (S13.out.below hb14)
  have D14 := Lib.hid h1
  clear hb14 hk13 P13 Q13 S13 h1
  go_wp2_with fail
  refine (mul_v Q14.out P14.out (by omega) (by omega)).mono ?_
  rintro e w15 ⟨⟨z2, rfl, h2⟩, hb15⟩
  have hk15 := kept_trans hk14 hb15
  have P15 := Lib.hid (P14.out.below hb15)
  have Q15 := Lib.hid (Q14.out.below hb15)
  have S15 := Lib.hid (S14.out.below hb15)
  have D15 := Lib.hid (D14.out.below hb15)
  have E15 := Lib.hid h2
  clear hb15 hk14 P14 Q14 S14 D14 h2
  go_wp2_with fail
  refine (same_v D15.out (E15.out.to (Pl.mul_comm _ _)) (by omega) (by omega)).mono ?_
  rintro e w16 ⟨rfl, hb16⟩
  have hk16 := kept_trans hk15 hb16
  have P16 := Lib.hid (P15.out.below hb16)
  have Q16 := Lib.hid (Q15.out.below hb16)
  have S16 := Lib.hid (S15.out.below hb16)
  clear hb16 hk15 P15 Q15 S15 D15 E15
  go_wp2_with fail
  refine (add_v Q16.out S16.out (by omega) (by omega)).mono ?_
  rintro e w17 ⟨⟨z1, rfl, h1⟩, hb17⟩
  have hk17 := kept_trans hk16 hb17
  have P17 := Lib.hid (P16.out.below hb17)
  have Q17 := Lib.hid (Q16.out.below hb17)
  have S17 := Lib.hid (S16.out.below hb17)
  have D17 := Lib.hid h1
  clear hb17 hk16 P16 Q16 S16 h1
  go_wp2_with fail
  refine (mul_v P17.out D17.out.q (by omega) (by omega)).mono ?_
  rintro e w18 ⟨⟨z2, rfl, h2⟩, hb18⟩
  have hk18 := kept_trans hk17 hb18
  have P18 := Lib.hid (P17.out.below hb18)
  have Q18 := Lib.hid (Q17.out.below hb18)
  have S18 := Lib.hid (S17.out.below hb18)
  have E18 := Lib.hid h2
  clear hb18 hk17 P17 Q17 S17 D17 h2
  go_wp2_with fail
  refine (mul_v P18.out Q18.out (by omega) (by omega)).mono ?_
  rintro e w19 ⟨⟨z3, rfl, h3⟩, hb19⟩
  have hk19 := kept_trans hk18 hb19
  have P19 := Lib.hid (P18.out.below hb19)
  have Q19 := Lib.hid (Q18.out.below hb19)
  have S19 := Lib.hid (S18.out.below hb19)
  have E19 := Lib.hid (E18.out.below hb19)
  have D19 := Lib.hid h3
  clear hb19 hk18 P18 Q18 S18 E18 h3
  go_wp2_with fail
  refine (mul_v P19.out S19.out (by omega) (by omega)).mono ?_
  rintro e w20 ⟨⟨z4, rfl, h4⟩, hb20⟩
  have hk20 := kept_trans hk19 hb20
  have P20 := Lib.hid (P19.out.below hb20)
  have Q20 := Lib.hid (Q19.out.below hb20)
  have S20 := Lib.hid (S19.out.below hb20)
  have E20 := Lib.hid (E19.out.below hb20)
  have D20 := Lib.hid (D19.out.below hb20)
  have F20 := Lib.hid h4
  clear hb20 hk19 P19 Q19 S19 E19 D19 h4
  go_wp2_with fail
  refine (add_v D20.out.q F20.out.q (by omega) (by omega)).mono ?_
  rintro e w21 ⟨⟨z5, rfl, h5⟩, hb21⟩
  have hk21 := kept_trans hk20 hb21
  have P21 := Lib.hid (P20.out.below hb21)
  have Q21 := Lib.hid (Q20.out.below hb21)
  have S21 := Lib.hid (S20.out.below hb21)
  have E21 := Lib.hid (E20.out.below hb21)
  have G21 := Lib.hid h5
  clear hb21 hk20 P20 Q20 S20 E20 D20 F20 h5
  go_wp2_with fail
  refine (same_v (E21.out.to (Pl.mul_add _ _ _)) G21.out (by omega) (by omega)).mono ?_
  rintro e w22 ⟨rfl, hb22⟩
  have hk22 := kept_trans hk21 hb22
  have P22 := Lib.hid (P21.out.below hb22)
  have Q22 := Lib.hid (Q21.out.below hb22)
  have S22 := Lib.hid (S21.out.below hb22)
  clear hb22 hk21 P21 Q21 S21 E21 G21
  go_wp2_with fail
  refine (mul_v (P22.out.new _) (one_q w22) (by omega) (by omega)).mono ?_
  rintro e w23 ⟨⟨z1, rfl, h1⟩, hb23⟩
  have hk23 := kept_trans hk22 (below_new hb23)
  have P23 := Lib.hid (P22.out.below (below_new hb23))
  have Q23 := Lib.hid (Q22.out.below (below_new hb23))
  have S23 := Lib.hid (S22.out.below (below_new hb23))
  have D23 := Lib.hid h1
  clear hb23 hk22 P22 Q22 S22 h1
  go_wp2_with fail
  refine (trim_v P23.out (by omega)).mono ?_
  rintro e w24 ⟨⟨z2, rfl, h2⟩, hb24⟩
  have hk24 := kept_trans hk23 hb24
  have P24 := Lib.hid (P23.out.below hb24)
  have Q24 := Lib.hid (Q23.out.below hb24)
  have S24 := Lib.hid (S23.out.below hb24)
  have D24 := Lib.hid (D23.out.below hb24)
  have E24 := Lib.hid h2
  clear hb24 hk23 P23 Q23 S23 D23 h2
  go_wp2_with fail
  refine (same_v (D24.out.to (Pl.mul_one _)) E24.out (by omega) (by omega)).mono ?_
  rintro e w25 ⟨rfl, hb25⟩
  have hk25 := kept_trans hk24 hb25
  have P25 := Lib.hid (P24.out.below hb25)
  have Q25 := Lib.hid (Q24.out.below hb25)
  have S25 := Lib.hid (S24.out.below hb25)
  clear hb25 hk24 P24 Q24 S24 D24 E24
  go_wp2_with fail
  refine (mul_v P25.out (Qv.nil w25 0) (by omega) (by omega)).mono ?_
  rintro e w26 ⟨⟨z1, rfl, h1⟩, hb26⟩
  obtain ⟨Az, nz, cz, rfl, _, hz0, _⟩ := h1.open_
  obtain rfl : nz = 0 := hz0.2 (Pl.mul_zero _)
  clear h1 hz0
  have hk26 := kept_trans hk25 hb26
  clear hb26 hk25 P25 Q25 S25
  go_wp2_with fail
  refine (lives_any w26).mono ?_
  rintro e w27 ⟨rfl, hb27⟩
  have hk27 := kept_trans hk26 hb27
  clear hb27 hk26
  go_wp2
  go_ret
  exact ⟨rfl, hk27⟩

end Go.Proofs.Ytalljoneflepiaa
