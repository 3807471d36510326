/-
  SignChecks: the walk, over natural numbers and lists of bytes. No condition.
-/
import Derived.Test.YtdiacpadbndncaaSgn
import Derived.Deep.DeepCutAuto
namespace Go.Proofs.Ytdiacpadbndncaa
open Go.RowKit

set_option maxRecDepth 100000 in
set_option maxHeartbeats 4000000 in
theorem checks_walk (n : Nat) (A : Option Addr) (m' c : Nat) (l : List UInt8) (t sr ss : Nat) (which : Int) (w : World) (hA : Bt w A m' c l) (ht : t < 18446744073709551616) (hsr : sr < 18446744073709551616) (hss : ss < 18446744073709551616) (hw1 : -9223372036854775808 ≤ which) (hw2 : which ≤ 9223372036854775807) :
    Calls Try.prog 4 #[.int .u64 n, .slice A m' c, .int .u64 (t : Int), .agg #[.int .u64 (sr : Int), .int .u64 (ss : Int)], .int .i64 which] w fun e w' => e = .returned (.bool true) ∧ Below w.heap.size w w' := by
  have k0 := (Below.refl _ w).alloc (Nat.le_refl w.heap.size) (.cells #[.int .u64 (sr : Int), .int .u64 (ss : Int)] 28)
  have hF0 := hA.new (.cells #[.int .u64 (sr : Int), .int .u64 (ss : Int)] 28)
  have hQ0 := in2_new w sr ss
  have hz0 : w.heap.size ≤ (w.alloc (.cells #[.int .u64 (sr : Int), .int .u64 (ss : Int)] 28)).heap.size := by simp
  obtain ⟨w0, hw0⟩ : ∃ W, W = w.alloc (.cells #[.int .u64 (sr : Int), .int .u64 (ss : Int)] 28) := ⟨_, rfl⟩
  rw [← hw0] at k0 hF0 hQ0 hz0
  have HZ := Lib.hid hz0
  have F0 := Lib.hid hF0
  have Q0 := Lib.hid hQ0
  clear hF0 hQ0 hz0 hA
  go_enter Try.func4, Try.ntmps4
  go_wp2_with fail
  rw [← hw0]
  clear hw0
  refine (few_v (F0.out) 40 (by omega)).mono ?_
  rintro e w1 ⟨⟨A1, n1, c1, rfl, h, hm1⟩, hb1⟩
  have k1 := k0.trans (hb1.mono k0.size)
  have Q1 := Lib.hid (Q0.out.below hb1)
  have G1 := Lib.hid h
  clear hb1 k0 F0 Q0 h
  go_wp2_with fail
  refine (sec8_v n _).mono ?_
  rintro e w2 ⟨⟨a, ha1, ha2, rfl⟩, hb2⟩
  have k2 := k1.trans (hb2.mono k1.size)
  have Q2 := Lib.hid (Q1.out.below hb2)
  have G2 := Lib.hid (G1.out.below hb2)
  clear hb2 k1 Q1 G1
  go_wp2_with fail
  refine (r8pub_any a _ (by omega)).mono ?_
  rintro e w3 ⟨rfl, hb3⟩
  have k3 := k2.trans (hb3.mono k2.size)
  have Q3 := Lib.hid (Q2.out.below hb3)
  have G3 := Lib.hid (G2.out.below hb3)
  clear hb3 k2 Q2 G2
  go_wp2_with fail
  refine (rsign_v a (G3.out) (by omega) ha2).mono ?_
  rintro e w4 ⟨⟨r, x, rfl, hby⟩, hb4⟩
  have k4 := k3.trans (hb4.mono k3.size)
  have Q4 := Lib.hid (Q3.out.below hb4)
  have G4 := Lib.hid (G3.out.below hb4)
  clear hb4 k3 Q3 G3
  have hown := Bx.pub_lt a
  have hr := hby.2.2.1
  have hx := hby.2.2.2
  have hck := hby.chk
  obtain ⟨own, eown⟩ : ∃ p, p = Bx.pub a := ⟨_, rfl⟩
  rw [← eown] at hown hck ⊢
  obtain ⟨m, em⟩ : ∃ y, y = Sg.msg (l.take 40) := ⟨_, rfl⟩
  rw [← em] at hck
  have HCK := Lib.hid hck
  have EM := Lib.hid em
  clear hck em eown hby ha1 ha2
  have lt_Q_U : Hid (w.heap.size < w4.heap.size) := Lib.hid Q4.out.1
  have K0 := Lib.hid k4
  clear k4
  have k4 : Below w4.heap.size w4 w4 := Below.refl _ _
  have GA := G4
  have QA := Q4
  go_upto_region 5 with (fail)
  have l_U := Lib.hid k4.size
  obtain ⟨w5, hw5⟩ : ∃ W, W = w4.alloc (.cells #[.int .u64 (r : Int), .int .u64 (x : Int)] 28) := ⟨_, rfl⟩
  have Q5' := Q4.out.new (.cells #[.int .u64 (r : Int), .int .u64 (x : Int)] 28)
  have G5' := G4.out.new (.cells #[.int .u64 (r : Int), .int .u64 (x : Int)] 28)
  have U5' : In2 (w4.alloc (.cells #[.int .u64 (r : Int), .int .u64 (x : Int)] 28)) w4.heap.size r x := in2_new w4 r x
  have k5' := kept_trans k4 ((Below.refl _ w4).alloc (Nat.le_refl _) (.cells #[.int .u64 (r : Int), .int .u64 (x : Int)] 28))
  rw [← hw5] at Q5' G5' U5' k5'
  have Q5 := Lib.hid Q5'
  have G5 := Lib.hid G5'
  have U5 := Lib.hid U5'
  have k5 := k5'
  rw [← hw5]
  clear hw5 k4 Q5' G5' U5' k5' Q4 G4
  obtain ⟨y_U0, y_U1⟩ := U5.out.cells
  go_upto_region 6 with (fail)
  clear y_U0 y_U1 
  have l_D := Lib.hid k5.size
  have lt_U_D := Lib.hid U5.out.1
  obtain ⟨w6, hw6⟩ : ∃ W, W = w5.alloc (.cells #[.int .u64 (r : Int), .int .u64 (x : Int)] 28) := ⟨_, rfl⟩
  have Q6' := Q5.out.new (.cells #[.int .u64 (r : Int), .int .u64 (x : Int)] 28)
  have G6' := G5.out.new (.cells #[.int .u64 (r : Int), .int .u64 (x : Int)] 28)
  have U6' := U5.out.new (.cells #[.int .u64 (r : Int), .int .u64 (x : Int)] 28)
  have D6' : In2 (w5.alloc (.cells #[.int .u64 (r : Int), .int .u64 (x : Int)] 28)) w5.heap.size r x := in2_new w5 r x
  have k6' := kept_trans k5 ((Below.refl _ w5).alloc (Nat.le_refl _) (.cells #[.int .u64 (r : Int), .int .u64 (x : Int)] 28))
  rw [← hw6] at Q6' G6' U6' D6' k6'
  have Q6 := Lib.hid Q6'
  have G6 := Lib.hid G6'
  have U6 := Lib.hid U6'
  have D6 := Lib.hid D6'
  have k6 := k6'
  rw [← hw6]
  clear hw6 k5 Q6' G6' U6' D6' k6' Q5 G5 U5
  go_wp2_with fail
  refine (around_v which 4 _ hw1 hw2 (by omega) (by omega)).mono ?_
  rintro e w7 ⟨⟨j, hj, rfl⟩, hb7⟩
  have k7 := kept_trans k6 hb7
  have Q7 := Lib.hid (Q6.out.below hb7)
  have G7 := Lib.hid (G6.out.below hb7)
  have U7 := Lib.hid (U6.out.below hb7)
  have D7 := Lib.hid (D6.out.below hb7)
  clear hb7 k6 Q6 G6 U6 D6
  obtain ⟨sr1, esr1⟩ : ∃ y, y = sr % 2305843009213693951 := ⟨_, rfl⟩
  obtain ⟨ss1, ess1⟩ : ∃ y, y = ss % 2305843009213693950 := ⟨_, rfl⟩
  obtain ⟨t1, et1⟩ : ∃ y, y = t % 2305843009213693951 := ⟨_, rfl⟩
  have g1 : (sr : Int) % 2305843009213693951 = (sr1 : Int) := by omega
  have g2 : (ss : Int) % 2305843009213693950 = (ss1 : Int) := by omega
  have g3 : (t : Int) % 2305843009213693951 = (t1 : Int) := by omega
  have g3' : (t : Int).tmod 2305843009213693951 = (t1 : Int) := by rw [Int.tmod_eq_emod_of_nonneg (by omega)]; exact g3
  have b1 : sr1 < 2305843009213693951 := by omega
  have b2 : ss1 < 2305843009213693950 := by omega
  have b3 : t1 < 2305843009213693951 := by omega
  clear esr1 ess1 et1
  have h4 : j = 0 ∨ j = 1 ∨ j = 2 ∨ j = 3 := by omega
  clear hj
  rcases h4 with rfl | rfl | rfl | rfl
  · obtain ⟨y_Q0, y_Q1⟩ := Q7.out.cells
    obtain ⟨y_D0, y_D1⟩ := D7.out.cells
    obtain ⟨f_D0, f_D1⟩ := D7.out.free
    go_upto_region 15 with (fail)
    clear y_Q0 y_Q1
    clear y_D0 y_D1 f_D0 f_D1
    obtain ⟨w8, hw8⟩ : ∃ W, W = w7.setCell ⟨w5.heap.size, 0, none⟩ (.int .u64 (sr : Int)) := ⟨_, rfl⟩
    have k8' := below_setw (i := 0) (u := (.int .u64 (sr : Int))) k7 l_D.out D7.out.1
    have Q8' := QA.out.below k8'
    have G8' := GA.out.below k8'
    have U8' := U7.out.kept (R' := w5.heap.size) (i := 0) (u := (.int .u64 (sr : Int))) (by have := lt_U_D.out; omega)
    have D8' := D7.out.set0 sr
    rw [← hw8] at k8' Q8' G8' U8' D8'
    have Q8 := Lib.hid Q8'
    have G8 := Lib.hid G8'
    have U8 := Lib.hid U8'
    have D8 := Lib.hid D8'
    have k8 := k8'
    rw [← hw8]
    clear hw8 k7 k8' Q8' G8' U8' D8' Q7 G7 U7 D7
    have y0 := Q8.out.cells
    obtain ⟨y_Q0, y_Q1⟩ := y0
    go_upto_region 16 with (fail)
    clear y_Q0 y_Q1
    have l_M := Lib.hid k8.size
    have lt_U_M := Lib.hid U8.out.1
    have lt_D_M := Lib.hid D8.out.1
    obtain ⟨w9, hw9⟩ : ∃ W, W = w8.alloc (.cells #[.int .u64 (sr1 : Int), .int .u64 (ss1 : Int)] 28) := ⟨_, rfl⟩
    have Q9' := Q8.out.new (.cells #[.int .u64 (sr1 : Int), .int .u64 (ss1 : Int)] 28)
    have G9' := G8.out.new (.cells #[.int .u64 (sr1 : Int), .int .u64 (ss1 : Int)] 28)
    have U9' := U8.out.new (.cells #[.int .u64 (sr1 : Int), .int .u64 (ss1 : Int)] 28)
    have D9' := D8.out.new (.cells #[.int .u64 (sr1 : Int), .int .u64 (ss1 : Int)] 28)
    have M9' : In2 (w8.alloc (.cells #[.int .u64 (sr1 : Int), .int .u64 (ss1 : Int)] 28)) w8.heap.size sr1 ss1 := in2_new w8 sr1 ss1
    have k9' := kept_trans k8 ((Below.refl _ w8).alloc (Nat.le_refl _) (.cells #[.int .u64 (sr1 : Int), .int .u64 (ss1 : Int)] 28))
    rw [← hw9] at Q9' G9' U9' D9' M9' k9'
    have Q9 := Lib.hid Q9'
    have G9 := Lib.hid G9'
    have U9 := Lib.hid U9'
    have D9 := Lib.hid D9'
    have M9 := Lib.hid M9'
    have k9 := k9'
    rw [← hw9]
    clear hw9 k8 Q9' G9' U9' D9' M9' k9' Q8 G8 U8 D8
    obtain ⟨v1, ev1⟩ : ∃ b, b = Sg.chk t (Sg.msg (l.take 40)) sr ss := ⟨_, rfl⟩
    have C1 := Lib.hid (fun (W : World) (h : Bt W A1 n1 c1 (l.take 40)) => check_v t sr ss v1 h (by omega) (by omega) (by omega) (by omega) ev1.symm)
    have D1 := Lib.hid (fun (W : World) (h : Bt W A1 n1 c1 (l.take 40)) => rcheck_v t sr ss v1 h (by omega) ev1.symm)
    have e1 : (v1 == v1) = true := beq_self_eq_true _
    obtain ⟨v2, ev2⟩ : ∃ b, b = Sg.chk own (Sg.msg (l.take 40)) sr x := ⟨_, rfl⟩
    have C2 := Lib.hid (fun (W : World) (h : Bt W A1 n1 c1 (l.take 40)) => check_v own sr x v2 h (by omega) (by omega) (by omega) (by omega) ev2.symm)
    have D2 := Lib.hid (fun (W : World) (h : Bt W A1 n1 c1 (l.take 40)) => rcheck_v own sr x v2 h (by omega) ev2.symm)
    have e2 : (v2 == v2) = true := beq_self_eq_true _
    obtain ⟨v3, ev3⟩ : ∃ b, b = Sg.chk t1 (Sg.msg (l.take 40)) sr1 ss1 := ⟨_, rfl⟩
    have C3 := Lib.hid (fun (W : World) (h : Bt W A1 n1 c1 (l.take 40)) => check_v t1 sr1 ss1 v3 h (by omega) (by omega) (by omega) (by omega) ev3.symm)
    have D3 := Lib.hid (fun (W : World) (h : Bt W A1 n1 c1 (l.take 40)) => rcheck_v t1 sr1 ss1 v3 h (by omega) ev3.symm)
    have e3 : (v3 == v3) = true := beq_self_eq_true _
    have C4 := Lib.hid (fun (W : World) (h : Bt W A1 n1 c1 (l.take 40)) => check_v own r x true h (by omega) (by omega) (by omega) (by omega) (by rw [← EM.out]; exact HCK.out))
    have HL := Lib.hid lives8_any
    clear ev1 ev2 ev3 HCK
    go_wp2_with fail
    have q0 : w9.cell? ⟨w.heap.size, 0, none⟩ = some (.int .u64 (sr : Int)) ∧ w9.cell? ⟨w.heap.size, 1, none⟩ = some (.int .u64 (ss : Int)) ∧ w9.cell? ⟨w5.heap.size, 0, none⟩ = some (.int .u64 (sr : Int)) ∧ w9.cell? ⟨w5.heap.size, 1, none⟩ = some (.int .u64 (x : Int)) ∧ w9.cell? ⟨w8.heap.size, 0, none⟩ = some (.int .u64 (sr1 : Int)) ∧ w9.cell? ⟨w8.heap.size, 1, none⟩ = some (.int .u64 (ss1 : Int)) ∧ w9.cell? ⟨w4.heap.size, 0, none⟩ = some (.int .u64 (r : Int)) ∧ w9.cell? ⟨w4.heap.size, 1, none⟩ = some (.int .u64 (x : Int)) := ⟨Q9.out.cells.1, Q9.out.cells.2, D9.out.cells.1, D9.out.cells.2, M9.out.cells.1, M9.out.cells.2, U9.out.cells.1, U9.out.cells.2⟩
    have q0' : w9.drew.cell? ⟨w.heap.size, 0, none⟩ = some (.int .u64 (sr : Int)) ∧ w9.drew.cell? ⟨w.heap.size, 1, none⟩ = some (.int .u64 (ss : Int)) ∧ w9.drew.cell? ⟨w5.heap.size, 0, none⟩ = some (.int .u64 (sr : Int)) ∧ w9.drew.cell? ⟨w5.heap.size, 1, none⟩ = some (.int .u64 (x : Int)) ∧ w9.drew.cell? ⟨w8.heap.size, 0, none⟩ = some (.int .u64 (sr1 : Int)) ∧ w9.drew.cell? ⟨w8.heap.size, 1, none⟩ = some (.int .u64 (ss1 : Int)) ∧ w9.drew.cell? ⟨w4.heap.size, 0, none⟩ = some (.int .u64 (r : Int)) ∧ w9.drew.cell? ⟨w4.heap.size, 1, none⟩ = some (.int .u64 (x : Int)) := q0
    go_region_held3 (fun w' : World => w'.cell? ⟨w.heap.size, 0, none⟩ = some (.int .u64 (sr : Int)) ∧ w'.cell? ⟨w.heap.size, 1, none⟩ = some (.int .u64 (ss : Int)) ∧ w'.cell? ⟨w5.heap.size, 0, none⟩ = some (.int .u64 (sr : Int)) ∧ w'.cell? ⟨w5.heap.size, 1, none⟩ = some (.int .u64 (x : Int)) ∧ w'.cell? ⟨w8.heap.size, 0, none⟩ = some (.int .u64 (sr1 : Int)) ∧ w'.cell? ⟨w8.heap.size, 1, none⟩ = some (.int .u64 (ss1 : Int)) ∧ w'.cell? ⟨w4.heap.size, 0, none⟩ = some (.int .u64 (r : Int)) ∧ w'.cell? ⟨w4.heap.size, 1, none⟩ = some (.int .u64 (x : Int)))
      ((first | with_reducible exact q0 | with_reducible exact q0' | with_reducible exact q1 | with_reducible exact q2 | with_reducible exact q3 | with_reducible exact q4 | with_reducible exact q5 | with_reducible exact q6 | with_reducible exact q7 | with_reducible exact q8))
      (first
        | (go_at_call 18; ((with_reducible refine (C1.out _ (G9.out.below (below_to_drew (Below.refl _ _)))).mono ?_); rintro e w10 ⟨rfl, hb10'⟩; have hb10 := below_of_drew hb10'; clear hb10'; have Q10 := Lib.hid (Q9.out.below hb10); have G10 := Lib.hid (G9.out.below hb10); have U10 := Lib.hid (U9.out.below hb10); have D10 := Lib.hid (D9.out.below hb10); have M10 := Lib.hid (M9.out.below hb10); have q1 : w10.cell? ⟨w.heap.size, 0, none⟩ = some (.int .u64 (sr : Int)) ∧ w10.cell? ⟨w.heap.size, 1, none⟩ = some (.int .u64 (ss : Int)) ∧ w10.cell? ⟨w5.heap.size, 0, none⟩ = some (.int .u64 (sr : Int)) ∧ w10.cell? ⟨w5.heap.size, 1, none⟩ = some (.int .u64 (x : Int)) ∧ w10.cell? ⟨w8.heap.size, 0, none⟩ = some (.int .u64 (sr1 : Int)) ∧ w10.cell? ⟨w8.heap.size, 1, none⟩ = some (.int .u64 (ss1 : Int)) ∧ w10.cell? ⟨w4.heap.size, 0, none⟩ = some (.int .u64 (r : Int)) ∧ w10.cell? ⟨w4.heap.size, 1, none⟩ = some (.int .u64 (x : Int)) := ⟨Q10.out.cells.1, Q10.out.cells.2, D10.out.cells.1, D10.out.cells.2, M10.out.cells.1, M10.out.cells.2, U10.out.cells.1, U10.out.cells.2⟩))
        | (go_at_call 19; ((with_reducible refine (D1.out _ G10.out).mono ?_); rintro e w11 ⟨rfl, hb11⟩; have Q11 := Lib.hid (Q10.out.below hb11); have G11 := Lib.hid (G10.out.below hb11); have U11 := Lib.hid (U10.out.below hb11); have D11 := Lib.hid (D10.out.below hb11); have M11 := Lib.hid (M10.out.below hb11); have q2 : w11.cell? ⟨w.heap.size, 0, none⟩ = some (.int .u64 (sr : Int)) ∧ w11.cell? ⟨w.heap.size, 1, none⟩ = some (.int .u64 (ss : Int)) ∧ w11.cell? ⟨w5.heap.size, 0, none⟩ = some (.int .u64 (sr : Int)) ∧ w11.cell? ⟨w5.heap.size, 1, none⟩ = some (.int .u64 (x : Int)) ∧ w11.cell? ⟨w8.heap.size, 0, none⟩ = some (.int .u64 (sr1 : Int)) ∧ w11.cell? ⟨w8.heap.size, 1, none⟩ = some (.int .u64 (ss1 : Int)) ∧ w11.cell? ⟨w4.heap.size, 0, none⟩ = some (.int .u64 (r : Int)) ∧ w11.cell? ⟨w4.heap.size, 1, none⟩ = some (.int .u64 (x : Int)) := ⟨Q11.out.cells.1, Q11.out.cells.2, D11.out.cells.1, D11.out.cells.2, M11.out.cells.1, M11.out.cells.2, U11.out.cells.1, U11.out.cells.2⟩))
        | (go_at_call 18; ((with_reducible refine (C2.out _ G11.out).mono ?_); rintro e w12 ⟨rfl, hb12⟩; have Q12 := Lib.hid (Q11.out.below hb12); have G12 := Lib.hid (G11.out.below hb12); have U12 := Lib.hid (U11.out.below hb12); have D12 := Lib.hid (D11.out.below hb12); have M12 := Lib.hid (M11.out.below hb12); have q3 : w12.cell? ⟨w.heap.size, 0, none⟩ = some (.int .u64 (sr : Int)) ∧ w12.cell? ⟨w.heap.size, 1, none⟩ = some (.int .u64 (ss : Int)) ∧ w12.cell? ⟨w5.heap.size, 0, none⟩ = some (.int .u64 (sr : Int)) ∧ w12.cell? ⟨w5.heap.size, 1, none⟩ = some (.int .u64 (x : Int)) ∧ w12.cell? ⟨w8.heap.size, 0, none⟩ = some (.int .u64 (sr1 : Int)) ∧ w12.cell? ⟨w8.heap.size, 1, none⟩ = some (.int .u64 (ss1 : Int)) ∧ w12.cell? ⟨w4.heap.size, 0, none⟩ = some (.int .u64 (r : Int)) ∧ w12.cell? ⟨w4.heap.size, 1, none⟩ = some (.int .u64 (x : Int)) := ⟨Q12.out.cells.1, Q12.out.cells.2, D12.out.cells.1, D12.out.cells.2, M12.out.cells.1, M12.out.cells.2, U12.out.cells.1, U12.out.cells.2⟩))
        | (go_at_call 19; ((with_reducible refine (D2.out _ G12.out).mono ?_); rintro e w13 ⟨rfl, hb13⟩; have Q13 := Lib.hid (Q12.out.below hb13); have G13 := Lib.hid (G12.out.below hb13); have U13 := Lib.hid (U12.out.below hb13); have D13 := Lib.hid (D12.out.below hb13); have M13 := Lib.hid (M12.out.below hb13); have q4 : w13.cell? ⟨w.heap.size, 0, none⟩ = some (.int .u64 (sr : Int)) ∧ w13.cell? ⟨w.heap.size, 1, none⟩ = some (.int .u64 (ss : Int)) ∧ w13.cell? ⟨w5.heap.size, 0, none⟩ = some (.int .u64 (sr : Int)) ∧ w13.cell? ⟨w5.heap.size, 1, none⟩ = some (.int .u64 (x : Int)) ∧ w13.cell? ⟨w8.heap.size, 0, none⟩ = some (.int .u64 (sr1 : Int)) ∧ w13.cell? ⟨w8.heap.size, 1, none⟩ = some (.int .u64 (ss1 : Int)) ∧ w13.cell? ⟨w4.heap.size, 0, none⟩ = some (.int .u64 (r : Int)) ∧ w13.cell? ⟨w4.heap.size, 1, none⟩ = some (.int .u64 (x : Int)) := ⟨Q13.out.cells.1, Q13.out.cells.2, D13.out.cells.1, D13.out.cells.2, M13.out.cells.1, M13.out.cells.2, U13.out.cells.1, U13.out.cells.2⟩))
        | (go_at_call 18; ((with_reducible refine (C3.out _ G13.out).mono ?_); rintro e w14 ⟨rfl, hb14⟩; have Q14 := Lib.hid (Q13.out.below hb14); have G14 := Lib.hid (G13.out.below hb14); have U14 := Lib.hid (U13.out.below hb14); have D14 := Lib.hid (D13.out.below hb14); have M14 := Lib.hid (M13.out.below hb14); have q5 : w14.cell? ⟨w.heap.size, 0, none⟩ = some (.int .u64 (sr : Int)) ∧ w14.cell? ⟨w.heap.size, 1, none⟩ = some (.int .u64 (ss : Int)) ∧ w14.cell? ⟨w5.heap.size, 0, none⟩ = some (.int .u64 (sr : Int)) ∧ w14.cell? ⟨w5.heap.size, 1, none⟩ = some (.int .u64 (x : Int)) ∧ w14.cell? ⟨w8.heap.size, 0, none⟩ = some (.int .u64 (sr1 : Int)) ∧ w14.cell? ⟨w8.heap.size, 1, none⟩ = some (.int .u64 (ss1 : Int)) ∧ w14.cell? ⟨w4.heap.size, 0, none⟩ = some (.int .u64 (r : Int)) ∧ w14.cell? ⟨w4.heap.size, 1, none⟩ = some (.int .u64 (x : Int)) := ⟨Q14.out.cells.1, Q14.out.cells.2, D14.out.cells.1, D14.out.cells.2, M14.out.cells.1, M14.out.cells.2, U14.out.cells.1, U14.out.cells.2⟩))
        | (go_at_call 19; ((with_reducible refine (D3.out _ G14.out).mono ?_); rintro e w15 ⟨rfl, hb15⟩; have Q15 := Lib.hid (Q14.out.below hb15); have G15 := Lib.hid (G14.out.below hb15); have U15 := Lib.hid (U14.out.below hb15); have D15 := Lib.hid (D14.out.below hb15); have M15 := Lib.hid (M14.out.below hb15); have q6 : w15.cell? ⟨w.heap.size, 0, none⟩ = some (.int .u64 (sr : Int)) ∧ w15.cell? ⟨w.heap.size, 1, none⟩ = some (.int .u64 (ss : Int)) ∧ w15.cell? ⟨w5.heap.size, 0, none⟩ = some (.int .u64 (sr : Int)) ∧ w15.cell? ⟨w5.heap.size, 1, none⟩ = some (.int .u64 (x : Int)) ∧ w15.cell? ⟨w8.heap.size, 0, none⟩ = some (.int .u64 (sr1 : Int)) ∧ w15.cell? ⟨w8.heap.size, 1, none⟩ = some (.int .u64 (ss1 : Int)) ∧ w15.cell? ⟨w4.heap.size, 0, none⟩ = some (.int .u64 (r : Int)) ∧ w15.cell? ⟨w4.heap.size, 1, none⟩ = some (.int .u64 (x : Int)) := ⟨Q15.out.cells.1, Q15.out.cells.2, D15.out.cells.1, D15.out.cells.2, M15.out.cells.1, M15.out.cells.2, U15.out.cells.1, U15.out.cells.2⟩))
        | (go_at_call 18; ((with_reducible refine (C4.out _ G15.out).mono ?_); rintro e w16 ⟨rfl, hb16⟩; have Q16 := Lib.hid (Q15.out.below hb16); have G16 := Lib.hid (G15.out.below hb16); have U16 := Lib.hid (U15.out.below hb16); have D16 := Lib.hid (D15.out.below hb16); have M16 := Lib.hid (M15.out.below hb16); have q7 : w16.cell? ⟨w.heap.size, 0, none⟩ = some (.int .u64 (sr : Int)) ∧ w16.cell? ⟨w.heap.size, 1, none⟩ = some (.int .u64 (ss : Int)) ∧ w16.cell? ⟨w5.heap.size, 0, none⟩ = some (.int .u64 (sr : Int)) ∧ w16.cell? ⟨w5.heap.size, 1, none⟩ = some (.int .u64 (x : Int)) ∧ w16.cell? ⟨w8.heap.size, 0, none⟩ = some (.int .u64 (sr1 : Int)) ∧ w16.cell? ⟨w8.heap.size, 1, none⟩ = some (.int .u64 (ss1 : Int)) ∧ w16.cell? ⟨w4.heap.size, 0, none⟩ = some (.int .u64 (r : Int)) ∧ w16.cell? ⟨w4.heap.size, 1, none⟩ = some (.int .u64 (x : Int)) := ⟨Q16.out.cells.1, Q16.out.cells.2, D16.out.cells.1, D16.out.cells.2, M16.out.cells.1, M16.out.cells.2, U16.out.cells.1, U16.out.cells.2⟩))
        | (go_at_call 16; ((with_reducible refine (HL.out _).mono ?_); rintro e w17 ⟨rfl, hb17⟩; have Q17 := Lib.hid (Q16.out.below hb17); have G17 := Lib.hid (G16.out.below hb17); have U17 := Lib.hid (U16.out.below hb17); have D17 := Lib.hid (D16.out.below hb17); have M17 := Lib.hid (M16.out.below hb17); have q8 : w17.cell? ⟨w.heap.size, 0, none⟩ = some (.int .u64 (sr : Int)) ∧ w17.cell? ⟨w.heap.size, 1, none⟩ = some (.int .u64 (ss : Int)) ∧ w17.cell? ⟨w5.heap.size, 0, none⟩ = some (.int .u64 (sr : Int)) ∧ w17.cell? ⟨w5.heap.size, 1, none⟩ = some (.int .u64 (x : Int)) ∧ w17.cell? ⟨w8.heap.size, 0, none⟩ = some (.int .u64 (sr1 : Int)) ∧ w17.cell? ⟨w8.heap.size, 1, none⟩ = some (.int .u64 (ss1 : Int)) ∧ w17.cell? ⟨w4.heap.size, 0, none⟩ = some (.int .u64 (r : Int)) ∧ w17.cell? ⟨w4.heap.size, 1, none⟩ = some (.int .u64 (x : Int)) := ⟨Q17.out.cells.1, Q17.out.cells.2, D17.out.cells.1, D17.out.cells.2, M17.out.cells.1, M17.out.cells.2, U17.out.cells.1, U17.out.cells.2⟩)))
    have k17 := (kept_trans (kept_trans (kept_trans (kept_trans (kept_trans (kept_trans (kept_trans (kept_trans k9 hb10) hb11) hb12) hb13) hb14) hb15) hb16) hb17)
    go_wp2
    go_ret
    exact ⟨rfl, K0.out.trans (k17.mono K0.out.size)⟩
  · obtain ⟨y_Q0, y_Q1⟩ := Q7.out.cells
    obtain ⟨y_D0, y_D1⟩ := D7.out.cells
    obtain ⟨f_D0, f_D1⟩ := D7.out.free
    go_upto_region 15 with (fail)
    clear y_Q0 y_Q1
    clear y_D0 y_D1 f_D0 f_D1
    obtain ⟨w8, hw8⟩ : ∃ W, W = w7.setCell ⟨w5.heap.size, 1, none⟩ (.int .u64 (ss : Int)) := ⟨_, rfl⟩
    have k8' := below_setw (i := 1) (u := (.int .u64 (ss : Int))) k7 l_D.out D7.out.1
    have Q8' := QA.out.below k8'
    have G8' := GA.out.below k8'
    have U8' := U7.out.kept (R' := w5.heap.size) (i := 1) (u := (.int .u64 (ss : Int))) (by have := lt_U_D.out; omega)
    have D8' := D7.out.set1 ss
    rw [← hw8] at k8' Q8' G8' U8' D8'
    have Q8 := Lib.hid Q8'
    have G8 := Lib.hid G8'
    have U8 := Lib.hid U8'
    have D8 := Lib.hid D8'
    have k8 := k8'
    rw [← hw8]
    clear hw8 k7 k8' Q8' G8' U8' D8' Q7 G7 U7 D7
    have y0 := Q8.out.cells
    obtain ⟨y_Q0, y_Q1⟩ := y0
    go_upto_region 16 with (fail)
    clear y_Q0 y_Q1
    have l_M := Lib.hid k8.size
    have lt_U_M := Lib.hid U8.out.1
    have lt_D_M := Lib.hid D8.out.1
    obtain ⟨w9, hw9⟩ : ∃ W, W = w8.alloc (.cells #[.int .u64 (sr1 : Int), .int .u64 (ss1 : Int)] 28) := ⟨_, rfl⟩
    have Q9' := Q8.out.new (.cells #[.int .u64 (sr1 : Int), .int .u64 (ss1 : Int)] 28)
    have G9' := G8.out.new (.cells #[.int .u64 (sr1 : Int), .int .u64 (ss1 : Int)] 28)
    have U9' := U8.out.new (.cells #[.int .u64 (sr1 : Int), .int .u64 (ss1 : Int)] 28)
    have D9' := D8.out.new (.cells #[.int .u64 (sr1 : Int), .int .u64 (ss1 : Int)] 28)
    have M9' : In2 (w8.alloc (.cells #[.int .u64 (sr1 : Int), .int .u64 (ss1 : Int)] 28)) w8.heap.size sr1 ss1 := in2_new w8 sr1 ss1
    have k9' := kept_trans k8 ((Below.refl _ w8).alloc (Nat.le_refl _) (.cells #[.int .u64 (sr1 : Int), .int .u64 (ss1 : Int)] 28))
    rw [← hw9] at Q9' G9' U9' D9' M9' k9'
    have Q9 := Lib.hid Q9'
    have G9 := Lib.hid G9'
    have U9 := Lib.hid U9'
    have D9 := Lib.hid D9'
    have M9 := Lib.hid M9'
    have k9 := k9'
    rw [← hw9]
    clear hw9 k8 Q9' G9' U9' D9' M9' k9' Q8 G8 U8 D8
    obtain ⟨v1, ev1⟩ : ∃ b, b = Sg.chk t (Sg.msg (l.take 40)) sr ss := ⟨_, rfl⟩
    have C1 := Lib.hid (fun (W : World) (h : Bt W A1 n1 c1 (l.take 40)) => check_v t sr ss v1 h (by omega) (by omega) (by omega) (by omega) ev1.symm)
    have D1 := Lib.hid (fun (W : World) (h : Bt W A1 n1 c1 (l.take 40)) => rcheck_v t sr ss v1 h (by omega) ev1.symm)
    have e1 : (v1 == v1) = true := beq_self_eq_true _
    obtain ⟨v2, ev2⟩ : ∃ b, b = Sg.chk own (Sg.msg (l.take 40)) r ss := ⟨_, rfl⟩
    have C2 := Lib.hid (fun (W : World) (h : Bt W A1 n1 c1 (l.take 40)) => check_v own r ss v2 h (by omega) (by omega) (by omega) (by omega) ev2.symm)
    have D2 := Lib.hid (fun (W : World) (h : Bt W A1 n1 c1 (l.take 40)) => rcheck_v own r ss v2 h (by omega) ev2.symm)
    have e2 : (v2 == v2) = true := beq_self_eq_true _
    obtain ⟨v3, ev3⟩ : ∃ b, b = Sg.chk t1 (Sg.msg (l.take 40)) sr1 ss1 := ⟨_, rfl⟩
    have C3 := Lib.hid (fun (W : World) (h : Bt W A1 n1 c1 (l.take 40)) => check_v t1 sr1 ss1 v3 h (by omega) (by omega) (by omega) (by omega) ev3.symm)
    have D3 := Lib.hid (fun (W : World) (h : Bt W A1 n1 c1 (l.take 40)) => rcheck_v t1 sr1 ss1 v3 h (by omega) ev3.symm)
    have e3 : (v3 == v3) = true := beq_self_eq_true _
    have C4 := Lib.hid (fun (W : World) (h : Bt W A1 n1 c1 (l.take 40)) => check_v own r x true h (by omega) (by omega) (by omega) (by omega) (by rw [← EM.out]; exact HCK.out))
    have HL := Lib.hid lives8_any
    clear ev1 ev2 ev3 HCK
    go_wp2_with fail
    have q0 : w9.cell? ⟨w.heap.size, 0, none⟩ = some (.int .u64 (sr : Int)) ∧ w9.cell? ⟨w.heap.size, 1, none⟩ = some (.int .u64 (ss : Int)) ∧ w9.cell? ⟨w5.heap.size, 0, none⟩ = some (.int .u64 (r : Int)) ∧ w9.cell? ⟨w5.heap.size, 1, none⟩ = some (.int .u64 (ss : Int)) ∧ w9.cell? ⟨w8.heap.size, 0, none⟩ = some (.int .u64 (sr1 : Int)) ∧ w9.cell? ⟨w8.heap.size, 1, none⟩ = some (.int .u64 (ss1 : Int)) ∧ w9.cell? ⟨w4.heap.size, 0, none⟩ = some (.int .u64 (r : Int)) ∧ w9.cell? ⟨w4.heap.size, 1, none⟩ = some (.int .u64 (x : Int)) := ⟨Q9.out.cells.1, Q9.out.cells.2, D9.out.cells.1, D9.out.cells.2, M9.out.cells.1, M9.out.cells.2, U9.out.cells.1, U9.out.cells.2⟩
    have q0' : w9.drew.cell? ⟨w.heap.size, 0, none⟩ = some (.int .u64 (sr : Int)) ∧ w9.drew.cell? ⟨w.heap.size, 1, none⟩ = some (.int .u64 (ss : Int)) ∧ w9.drew.cell? ⟨w5.heap.size, 0, none⟩ = some (.int .u64 (r : Int)) ∧ w9.drew.cell? ⟨w5.heap.size, 1, none⟩ = some (.int .u64 (ss : Int)) ∧ w9.drew.cell? ⟨w8.heap.size, 0, none⟩ = some (.int .u64 (sr1 : Int)) ∧ w9.drew.cell? ⟨w8.heap.size, 1, none⟩ = some (.int .u64 (ss1 : Int)) ∧ w9.drew.cell? ⟨w4.heap.size, 0, none⟩ = some (.int .u64 (r : Int)) ∧ w9.drew.cell? ⟨w4.heap.size, 1, none⟩ = some (.int .u64 (x : Int)) := q0
    go_region_held3 (fun w' : World => w'.cell? ⟨w.heap.size, 0, none⟩ = some (.int .u64 (sr : Int)) ∧ w'.cell? ⟨w.heap.size, 1, none⟩ = some (.int .u64 (ss : Int)) ∧ w'.cell? ⟨w5.heap.size, 0, none⟩ = some (.int .u64 (r : Int)) ∧ w'.cell? ⟨w5.heap.size, 1, none⟩ = some (.int .u64 (ss : Int)) ∧ w'.cell? ⟨w8.heap.size, 0, none⟩ = some (.int .u64 (sr1 : Int)) ∧ w'.cell? ⟨w8.heap.size, 1, none⟩ = some (.int .u64 (ss1 : Int)) ∧ w'.cell? ⟨w4.heap.size, 0, none⟩ = some (.int .u64 (r : Int)) ∧ w'.cell? ⟨w4.heap.size, 1, none⟩ = some (.int .u64 (x : Int)))
      ((first | with_reducible exact q0 | with_reducible exact q0' | with_reducible exact q1 | with_reducible exact q2 | with_reducible exact q3 | with_reducible exact q4 | with_reducible exact q5 | with_reducible exact q6 | with_reducible exact q7 | with_reducible exact q8))
      (first
        | (go_at_call 18; ((with_reducible refine (C1.out _ (G9.out.below (below_to_drew (Below.refl _ _)))).mono ?_); rintro e w10 ⟨rfl, hb10'⟩; have hb10 := below_of_drew hb10'; clear hb10'; have Q10 := Lib.hid (Q9.out.below hb10); have G10 := Lib.hid (G9.out.below hb10); have U10 := Lib.hid (U9.out.below hb10); have D10 := Lib.hid (D9.out.below hb10); have M10 := Lib.hid (M9.out.below hb10); have q1 : w10.cell? ⟨w.heap.size, 0, none⟩ = some (.int .u64 (sr : Int)) ∧ w10.cell? ⟨w.heap.size, 1, none⟩ = some (.int .u64 (ss : Int)) ∧ w10.cell? ⟨w5.heap.size, 0, none⟩ = some (.int .u64 (r : Int)) ∧ w10.cell? ⟨w5.heap.size, 1, none⟩ = some (.int .u64 (ss : Int)) ∧ w10.cell? ⟨w8.heap.size, 0, none⟩ = some (.int .u64 (sr1 : Int)) ∧ w10.cell? ⟨w8.heap.size, 1, none⟩ = some (.int .u64 (ss1 : Int)) ∧ w10.cell? ⟨w4.heap.size, 0, none⟩ = some (.int .u64 (r : Int)) ∧ w10.cell? ⟨w4.heap.size, 1, none⟩ = some (.int .u64 (x : Int)) := ⟨Q10.out.cells.1, Q10.out.cells.2, D10.out.cells.1, D10.out.cells.2, M10.out.cells.1, M10.out.cells.2, U10.out.cells.1, U10.out.cells.2⟩))
        | (go_at_call 19; ((with_reducible refine (D1.out _ G10.out).mono ?_); rintro e w11 ⟨rfl, hb11⟩; have Q11 := Lib.hid (Q10.out.below hb11); have G11 := Lib.hid (G10.out.below hb11); have U11 := Lib.hid (U10.out.below hb11); have D11 := Lib.hid (D10.out.below hb11); have M11 := Lib.hid (M10.out.below hb11); have q2 : w11.cell? ⟨w.heap.size, 0, none⟩ = some (.int .u64 (sr : Int)) ∧ w11.cell? ⟨w.heap.size, 1, none⟩ = some (.int .u64 (ss : Int)) ∧ w11.cell? ⟨w5.heap.size, 0, none⟩ = some (.int .u64 (r : Int)) ∧ w11.cell? ⟨w5.heap.size, 1, none⟩ = some (.int .u64 (ss : Int)) ∧ w11.cell? ⟨w8.heap.size, 0, none⟩ = some (.int .u64 (sr1 : Int)) ∧ w11.cell? ⟨w8.heap.size, 1, none⟩ = some (.int .u64 (ss1 : Int)) ∧ w11.cell? ⟨w4.heap.size, 0, none⟩ = some (.int .u64 (r : Int)) ∧ w11.cell? ⟨w4.heap.size, 1, none⟩ = some (.int .u64 (x : Int)) := ⟨Q11.out.cells.1, Q11.out.cells.2, D11.out.cells.1, D11.out.cells.2, M11.out.cells.1, M11.out.cells.2, U11.out.cells.1, U11.out.cells.2⟩))
        | (go_at_call 18; ((with_reducible refine (C2.out _ G11.out).mono ?_); rintro e w12 ⟨rfl, hb12⟩; have Q12 := Lib.hid (Q11.out.below hb12); have G12 := Lib.hid (G11.out.below hb12); have U12 := Lib.hid (U11.out.below hb12); have D12 := Lib.hid (D11.out.below hb12); have M12 := Lib.hid (M11.out.below hb12); have q3 : w12.cell? ⟨w.heap.size, 0, none⟩ = some (.int .u64 (sr : Int)) ∧ w12.cell? ⟨w.heap.size, 1, none⟩ = some (.int .u64 (ss : Int)) ∧ w12.cell? ⟨w5.heap.size, 0, none⟩ = some (.int .u64 (r : Int)) ∧ w12.cell? ⟨w5.heap.size, 1, none⟩ = some (.int .u64 (ss : Int)) ∧ w12.cell? ⟨w8.heap.size, 0, none⟩ = some (.int .u64 (sr1 : Int)) ∧ w12.cell? ⟨w8.heap.size, 1, none⟩ = some (.int .u64 (ss1 : Int)) ∧ w12.cell? ⟨w4.heap.size, 0, none⟩ = some (.int .u64 (r : Int)) ∧ w12.cell? ⟨w4.heap.size, 1, none⟩ = some (.int .u64 (x : Int)) := ⟨Q12.out.cells.1, Q12.out.cells.2, D12.out.cells.1, D12.out.cells.2, M12.out.cells.1, M12.out.cells.2, U12.out.cells.1, U12.out.cells.2⟩))
        | (go_at_call 19; ((with_reducible refine (D2.out _ G12.out).mono ?_); rintro e w13 ⟨rfl, hb13⟩; have Q13 := Lib.hid (Q12.out.below hb13); have G13 := Lib.hid (G12.out.below hb13); have U13 := Lib.hid (U12.out.below hb13); have D13 := Lib.hid (D12.out.below hb13); have M13 := Lib.hid (M12.out.below hb13); have q4 : w13.cell? ⟨w.heap.size, 0, none⟩ = some (.int .u64 (sr : Int)) ∧ w13.cell? ⟨w.heap.size, 1, none⟩ = some (.int .u64 (ss : Int)) ∧ w13.cell? ⟨w5.heap.size, 0, none⟩ = some (.int .u64 (r : Int)) ∧ w13.cell? ⟨w5.heap.size, 1, none⟩ = some (.int .u64 (ss : Int)) ∧ w13.cell? ⟨w8.heap.size, 0, none⟩ = some (.int .u64 (sr1 : Int)) ∧ w13.cell? ⟨w8.heap.size, 1, none⟩ = some (.int .u64 (ss1 : Int)) ∧ w13.cell? ⟨w4.heap.size, 0, none⟩ = some (.int .u64 (r : Int)) ∧ w13.cell? ⟨w4.heap.size, 1, none⟩ = some (.int .u64 (x : Int)) := ⟨Q13.out.cells.1, Q13.out.cells.2, D13.out.cells.1, D13.out.cells.2, M13.out.cells.1, M13.out.cells.2, U13.out.cells.1, U13.out.cells.2⟩))
        | (go_at_call 18; ((with_reducible refine (C3.out _ G13.out).mono ?_); rintro e w14 ⟨rfl, hb14⟩; have Q14 := Lib.hid (Q13.out.below hb14); have G14 := Lib.hid (G13.out.below hb14); have U14 := Lib.hid (U13.out.below hb14); have D14 := Lib.hid (D13.out.below hb14); have M14 := Lib.hid (M13.out.below hb14); have q5 : w14.cell? ⟨w.heap.size, 0, none⟩ = some (.int .u64 (sr : Int)) ∧ w14.cell? ⟨w.heap.size, 1, none⟩ = some (.int .u64 (ss : Int)) ∧ w14.cell? ⟨w5.heap.size, 0, none⟩ = some (.int .u64 (r : Int)) ∧ w14.cell? ⟨w5.heap.size, 1, none⟩ = some (.int .u64 (ss : Int)) ∧ w14.cell? ⟨w8.heap.size, 0, none⟩ = some (.int .u64 (sr1 : Int)) ∧ w14.cell? ⟨w8.heap.size, 1, none⟩ = some (.int .u64 (ss1 : Int)) ∧ w14.cell? ⟨w4.heap.size, 0, none⟩ = some (.int .u64 (r : Int)) ∧ w14.cell? ⟨w4.heap.size, 1, none⟩ = some (.int .u64 (x : Int)) := ⟨Q14.out.cells.1, Q14.out.cells.2, D14.out.cells.1, D14.out.cells.2, M14.out.cells.1, M14.out.cells.2, U14.out.cells.1, U14.out.cells.2⟩))
        | (go_at_call 19; ((with_reducible refine (D3.out _ G14.out).mono ?_); rintro e w15 ⟨rfl, hb15⟩; have Q15 := Lib.hid (Q14.out.below hb15); have G15 := Lib.hid (G14.out.below hb15); have U15 := Lib.hid (U14.out.below hb15); have D15 := Lib.hid (D14.out.below hb15); have M15 := Lib.hid (M14.out.below hb15); have q6 : w15.cell? ⟨w.heap.size, 0, none⟩ = some (.int .u64 (sr : Int)) ∧ w15.cell? ⟨w.heap.size, 1, none⟩ = some (.int .u64 (ss : Int)) ∧ w15.cell? ⟨w5.heap.size, 0, none⟩ = some (.int .u64 (r : Int)) ∧ w15.cell? ⟨w5.heap.size, 1, none⟩ = some (.int .u64 (ss : Int)) ∧ w15.cell? ⟨w8.heap.size, 0, none⟩ = some (.int .u64 (sr1 : Int)) ∧ w15.cell? ⟨w8.heap.size, 1, none⟩ = some (.int .u64 (ss1 : Int)) ∧ w15.cell? ⟨w4.heap.size, 0, none⟩ = some (.int .u64 (r : Int)) ∧ w15.cell? ⟨w4.heap.size, 1, none⟩ = some (.int .u64 (x : Int)) := ⟨Q15.out.cells.1, Q15.out.cells.2, D15.out.cells.1, D15.out.cells.2, M15.out.cells.1, M15.out.cells.2, U15.out.cells.1, U15.out.cells.2⟩))
        | (go_at_call 18; ((with_reducible refine (C4.out _ G15.out).mono ?_); rintro e w16 ⟨rfl, hb16⟩; have Q16 := Lib.hid (Q15.out.below hb16); have G16 := Lib.hid (G15.out.below hb16); have U16 := Lib.hid (U15.out.below hb16); have D16 := Lib.hid (D15.out.below hb16); have M16 := Lib.hid (M15.out.below hb16); have q7 : w16.cell? ⟨w.heap.size, 0, none⟩ = some (.int .u64 (sr : Int)) ∧ w16.cell? ⟨w.heap.size, 1, none⟩ = some (.int .u64 (ss : Int)) ∧ w16.cell? ⟨w5.heap.size, 0, none⟩ = some (.int .u64 (r : Int)) ∧ w16.cell? ⟨w5.heap.size, 1, none⟩ = some (.int .u64 (ss : Int)) ∧ w16.cell? ⟨w8.heap.size, 0, none⟩ = some (.int .u64 (sr1 : Int)) ∧ w16.cell? ⟨w8.heap.size, 1, none⟩ = some (.int .u64 (ss1 : Int)) ∧ w16.cell? ⟨w4.heap.size, 0, none⟩ = some (.int .u64 (r : Int)) ∧ w16.cell? ⟨w4.heap.size, 1, none⟩ = some (.int .u64 (x : Int)) := ⟨Q16.out.cells.1, Q16.out.cells.2, D16.out.cells.1, D16.out.cells.2, M16.out.cells.1, M16.out.cells.2, U16.out.cells.1, U16.out.cells.2⟩))
        | (go_at_call 16; ((with_reducible refine (HL.out _).mono ?_); rintro e w17 ⟨rfl, hb17⟩; have Q17 := Lib.hid (Q16.out.below hb17); have G17 := Lib.hid (G16.out.below hb17); have U17 := Lib.hid (U16.out.below hb17); have D17 := Lib.hid (D16.out.below hb17); have M17 := Lib.hid (M16.out.below hb17); have q8 : w17.cell? ⟨w.heap.size, 0, none⟩ = some (.int .u64 (sr : Int)) ∧ w17.cell? ⟨w.heap.size, 1, none⟩ = some (.int .u64 (ss : Int)) ∧ w17.cell? ⟨w5.heap.size, 0, none⟩ = some (.int .u64 (r : Int)) ∧ w17.cell? ⟨w5.heap.size, 1, none⟩ = some (.int .u64 (ss : Int)) ∧ w17.cell? ⟨w8.heap.size, 0, none⟩ = some (.int .u64 (sr1 : Int)) ∧ w17.cell? ⟨w8.heap.size, 1, none⟩ = some (.int .u64 (ss1 : Int)) ∧ w17.cell? ⟨w4.heap.size, 0, none⟩ = some (.int .u64 (r : Int)) ∧ w17.cell? ⟨w4.heap.size, 1, none⟩ = some (.int .u64 (x : Int)) := ⟨Q17.out.cells.1, Q17.out.cells.2, D17.out.cells.1, D17.out.cells.2, M17.out.cells.1, M17.out.cells.2, U17.out.cells.1, U17.out.cells.2⟩)))
    have k17 := (kept_trans (kept_trans (kept_trans (kept_trans (kept_trans (kept_trans (kept_trans (kept_trans k9 hb10) hb11) hb12) hb13) hb14) hb15) hb16) hb17)
    go_wp2
    go_ret
    exact ⟨rfl, K0.out.trans (k17.mono K0.out.size)⟩
  · obtain ⟨y_Q0, y_Q1⟩ := Q7.out.cells
    obtain ⟨y_D0, y_D1⟩ := D7.out.cells
    obtain ⟨f_D0, f_D1⟩ := D7.out.free
    go_upto_region 15 with (fail)
    clear y_Q0 y_Q1
    clear y_D0 y_D1 f_D0 f_D1
    obtain ⟨w8, hw8⟩ : ∃ W, W = w7.setCell ⟨w5.heap.size, 0, none⟩ (.int .u64 (sr1 : Int)) := ⟨_, rfl⟩
    have k8' := below_setw (i := 0) (u := (.int .u64 (sr1 : Int))) k7 l_D.out D7.out.1
    have Q8' := QA.out.below k8'
    have G8' := GA.out.below k8'
    have U8' := U7.out.kept (R' := w5.heap.size) (i := 0) (u := (.int .u64 (sr1 : Int))) (by have := lt_U_D.out; omega)
    have D8' := D7.out.set0 sr1
    rw [← hw8] at k8' Q8' G8' U8' D8'
    have Q8 := Lib.hid Q8'
    have G8 := Lib.hid G8'
    have U8 := Lib.hid U8'
    have D8 := Lib.hid D8'
    have k8 := k8'
    rw [← hw8]
    clear hw8 k7 k8' Q8' G8' U8' D8' Q7 G7 U7 D7
    have y0 := Q8.out.cells
    obtain ⟨y_Q0, y_Q1⟩ := y0
    go_upto_region 16 with (fail)
    clear y_Q0 y_Q1
    have l_M := Lib.hid k8.size
    have lt_U_M := Lib.hid U8.out.1
    have lt_D_M := Lib.hid D8.out.1
    obtain ⟨w9, hw9⟩ : ∃ W, W = w8.alloc (.cells #[.int .u64 (sr1 : Int), .int .u64 (ss1 : Int)] 28) := ⟨_, rfl⟩
    have Q9' := Q8.out.new (.cells #[.int .u64 (sr1 : Int), .int .u64 (ss1 : Int)] 28)
    have G9' := G8.out.new (.cells #[.int .u64 (sr1 : Int), .int .u64 (ss1 : Int)] 28)
    have U9' := U8.out.new (.cells #[.int .u64 (sr1 : Int), .int .u64 (ss1 : Int)] 28)
    have D9' := D8.out.new (.cells #[.int .u64 (sr1 : Int), .int .u64 (ss1 : Int)] 28)
    have M9' : In2 (w8.alloc (.cells #[.int .u64 (sr1 : Int), .int .u64 (ss1 : Int)] 28)) w8.heap.size sr1 ss1 := in2_new w8 sr1 ss1
    have k9' := kept_trans k8 ((Below.refl _ w8).alloc (Nat.le_refl _) (.cells #[.int .u64 (sr1 : Int), .int .u64 (ss1 : Int)] 28))
    rw [← hw9] at Q9' G9' U9' D9' M9' k9'
    have Q9 := Lib.hid Q9'
    have G9 := Lib.hid G9'
    have U9 := Lib.hid U9'
    have D9 := Lib.hid D9'
    have M9 := Lib.hid M9'
    have k9 := k9'
    rw [← hw9]
    clear hw9 k8 Q9' G9' U9' D9' M9' k9' Q8 G8 U8 D8
    obtain ⟨v1, ev1⟩ : ∃ b, b = Sg.chk t (Sg.msg (l.take 40)) sr ss := ⟨_, rfl⟩
    have C1 := Lib.hid (fun (W : World) (h : Bt W A1 n1 c1 (l.take 40)) => check_v t sr ss v1 h (by omega) (by omega) (by omega) (by omega) ev1.symm)
    have D1 := Lib.hid (fun (W : World) (h : Bt W A1 n1 c1 (l.take 40)) => rcheck_v t sr ss v1 h (by omega) ev1.symm)
    have e1 : (v1 == v1) = true := beq_self_eq_true _
    obtain ⟨v2, ev2⟩ : ∃ b, b = Sg.chk own (Sg.msg (l.take 40)) sr1 x := ⟨_, rfl⟩
    have C2 := Lib.hid (fun (W : World) (h : Bt W A1 n1 c1 (l.take 40)) => check_v own sr1 x v2 h (by omega) (by omega) (by omega) (by omega) ev2.symm)
    have D2 := Lib.hid (fun (W : World) (h : Bt W A1 n1 c1 (l.take 40)) => rcheck_v own sr1 x v2 h (by omega) ev2.symm)
    have e2 : (v2 == v2) = true := beq_self_eq_true _
    obtain ⟨v3, ev3⟩ : ∃ b, b = Sg.chk t1 (Sg.msg (l.take 40)) sr1 ss1 := ⟨_, rfl⟩
    have C3 := Lib.hid (fun (W : World) (h : Bt W A1 n1 c1 (l.take 40)) => check_v t1 sr1 ss1 v3 h (by omega) (by omega) (by omega) (by omega) ev3.symm)
    have D3 := Lib.hid (fun (W : World) (h : Bt W A1 n1 c1 (l.take 40)) => rcheck_v t1 sr1 ss1 v3 h (by omega) ev3.symm)
    have e3 : (v3 == v3) = true := beq_self_eq_true _
    have C4 := Lib.hid (fun (W : World) (h : Bt W A1 n1 c1 (l.take 40)) => check_v own r x true h (by omega) (by omega) (by omega) (by omega) (by rw [← EM.out]; exact HCK.out))
    have HL := Lib.hid lives8_any
    clear ev1 ev2 ev3 HCK
    go_wp2_with fail
    have q0 : w9.cell? ⟨w.heap.size, 0, none⟩ = some (.int .u64 (sr : Int)) ∧ w9.cell? ⟨w.heap.size, 1, none⟩ = some (.int .u64 (ss : Int)) ∧ w9.cell? ⟨w5.heap.size, 0, none⟩ = some (.int .u64 (sr1 : Int)) ∧ w9.cell? ⟨w5.heap.size, 1, none⟩ = some (.int .u64 (x : Int)) ∧ w9.cell? ⟨w8.heap.size, 0, none⟩ = some (.int .u64 (sr1 : Int)) ∧ w9.cell? ⟨w8.heap.size, 1, none⟩ = some (.int .u64 (ss1 : Int)) ∧ w9.cell? ⟨w4.heap.size, 0, none⟩ = some (.int .u64 (r : Int)) ∧ w9.cell? ⟨w4.heap.size, 1, none⟩ = some (.int .u64 (x : Int)) := ⟨Q9.out.cells.1, Q9.out.cells.2, D9.out.cells.1, D9.out.cells.2, M9.out.cells.1, M9.out.cells.2, U9.out.cells.1, U9.out.cells.2⟩
    have q0' : w9.drew.cell? ⟨w.heap.size, 0, none⟩ = some (.int .u64 (sr : Int)) ∧ w9.drew.cell? ⟨w.heap.size, 1, none⟩ = some (.int .u64 (ss : Int)) ∧ w9.drew.cell? ⟨w5.heap.size, 0, none⟩ = some (.int .u64 (sr1 : Int)) ∧ w9.drew.cell? ⟨w5.heap.size, 1, none⟩ = some (.int .u64 (x : Int)) ∧ w9.drew.cell? ⟨w8.heap.size, 0, none⟩ = some (.int .u64 (sr1 : Int)) ∧ w9.drew.cell? ⟨w8.heap.size, 1, none⟩ = some (.int .u64 (ss1 : Int)) ∧ w9.drew.cell? ⟨w4.heap.size, 0, none⟩ = some (.int .u64 (r : Int)) ∧ w9.drew.cell? ⟨w4.heap.size, 1, none⟩ = some (.int .u64 (x : Int)) := q0
    go_region_held3 (fun w' : World => w'.cell? ⟨w.heap.size, 0, none⟩ = some (.int .u64 (sr : Int)) ∧ w'.cell? ⟨w.heap.size, 1, none⟩ = some (.int .u64 (ss : Int)) ∧ w'.cell? ⟨w5.heap.size, 0, none⟩ = some (.int .u64 (sr1 : Int)) ∧ w'.cell? ⟨w5.heap.size, 1, none⟩ = some (.int .u64 (x : Int)) ∧ w'.cell? ⟨w8.heap.size, 0, none⟩ = some (.int .u64 (sr1 : Int)) ∧ w'.cell? ⟨w8.heap.size, 1, none⟩ = some (.int .u64 (ss1 : Int)) ∧ w'.cell? ⟨w4.heap.size, 0, none⟩ = some (.int .u64 (r : Int)) ∧ w'.cell? ⟨w4.heap.size, 1, none⟩ = some (.int .u64 (x : Int)))
      ((first | with_reducible exact q0 | with_reducible exact q0' | with_reducible exact q1 | with_reducible exact q2 | with_reducible exact q3 | with_reducible exact q4 | with_reducible exact q5 | with_reducible exact q6 | with_reducible exact q7 | with_reducible exact q8))
      (first
        | (go_at_call 18; ((with_reducible refine (C1.out _ (G9.out.below (below_to_drew (Below.refl _ _)))).mono ?_); rintro e w10 ⟨rfl, hb10'⟩; have hb10 := below_of_drew hb10'; clear hb10'; have Q10 := Lib.hid (Q9.out.below hb10); have G10 := Lib.hid (G9.out.below hb10); have U10 := Lib.hid (U9.out.below hb10); have D10 := Lib.hid (D9.out.below hb10); have M10 := Lib.hid (M9.out.below hb10); have q1 : w10.cell? ⟨w.heap.size, 0, none⟩ = some (.int .u64 (sr : Int)) ∧ w10.cell? ⟨w.heap.size, 1, none⟩ = some (.int .u64 (ss : Int)) ∧ w10.cell? ⟨w5.heap.size, 0, none⟩ = some (.int .u64 (sr1 : Int)) ∧ w10.cell? ⟨w5.heap.size, 1, none⟩ = some (.int .u64 (x : Int)) ∧ w10.cell? ⟨w8.heap.size, 0, none⟩ = some (.int .u64 (sr1 : Int)) ∧ w10.cell? ⟨w8.heap.size, 1, none⟩ = some (.int .u64 (ss1 : Int)) ∧ w10.cell? ⟨w4.heap.size, 0, none⟩ = some (.int .u64 (r : Int)) ∧ w10.cell? ⟨w4.heap.size, 1, none⟩ = some (.int .u64 (x : Int)) := ⟨Q10.out.cells.1, Q10.out.cells.2, D10.out.cells.1, D10.out.cells.2, M10.out.cells.1, M10.out.cells.2, U10.out.cells.1, U10.out.cells.2⟩))
        | (go_at_call 19; ((with_reducible refine (D1.out _ G10.out).mono ?_); rintro e w11 ⟨rfl, hb11⟩; have Q11 := Lib.hid (Q10.out.below hb11); have G11 := Lib.hid (G10.out.below hb11); have U11 := Lib.hid (U10.out.below hb11); have D11 := Lib.hid (D10.out.below hb11); have M11 := Lib.hid (M10.out.below hb11); have q2 : w11.cell? ⟨w.heap.size, 0, none⟩ = some (.int .u64 (sr : Int)) ∧ w11.cell? ⟨w.heap.size, 1, none⟩ = some (.int .u64 (ss : Int)) ∧ w11.cell? ⟨w5.heap.size, 0, none⟩ = some (.int .u64 (sr1 : Int)) ∧ w11.cell? ⟨w5.heap.size, 1, none⟩ = some (.int .u64 (x : Int)) ∧ w11.cell? ⟨w8.heap.size, 0, none⟩ = some (.int .u64 (sr1 : Int)) ∧ w11.cell? ⟨w8.heap.size, 1, none⟩ = some (.int .u64 (ss1 : Int)) ∧ w11.cell? ⟨w4.heap.size, 0, none⟩ = some (.int .u64 (r : Int)) ∧ w11.cell? ⟨w4.heap.size, 1, none⟩ = some (.int .u64 (x : Int)) := ⟨Q11.out.cells.1, Q11.out.cells.2, D11.out.cells.1, D11.out.cells.2, M11.out.cells.1, M11.out.cells.2, U11.out.cells.1, U11.out.cells.2⟩))
        | (go_at_call 18; ((with_reducible refine (C2.out _ G11.out).mono ?_); rintro e w12 ⟨rfl, hb12⟩; have Q12 := Lib.hid (Q11.out.below hb12); have G12 := Lib.hid (G11.out.below hb12); have U12 := Lib.hid (U11.out.below hb12); have D12 := Lib.hid (D11.out.below hb12); have M12 := Lib.hid (M11.out.below hb12); have q3 : w12.cell? ⟨w.heap.size, 0, none⟩ = some (.int .u64 (sr : Int)) ∧ w12.cell? ⟨w.heap.size, 1, none⟩ = some (.int .u64 (ss : Int)) ∧ w12.cell? ⟨w5.heap.size, 0, none⟩ = some (.int .u64 (sr1 : Int)) ∧ w12.cell? ⟨w5.heap.size, 1, none⟩ = some (.int .u64 (x : Int)) ∧ w12.cell? ⟨w8.heap.size, 0, none⟩ = some (.int .u64 (sr1 : Int)) ∧ w12.cell? ⟨w8.heap.size, 1, none⟩ = some (.int .u64 (ss1 : Int)) ∧ w12.cell? ⟨w4.heap.size, 0, none⟩ = some (.int .u64 (r : Int)) ∧ w12.cell? ⟨w4.heap.size, 1, none⟩ = some (.int .u64 (x : Int)) := ⟨Q12.out.cells.1, Q12.out.cells.2, D12.out.cells.1, D12.out.cells.2, M12.out.cells.1, M12.out.cells.2, U12.out.cells.1, U12.out.cells.2⟩))
        | (go_at_call 19; ((with_reducible refine (D2.out _ G12.out).mono ?_); rintro e w13 ⟨rfl, hb13⟩; have Q13 := Lib.hid (Q12.out.below hb13); have G13 := Lib.hid (G12.out.below hb13); have U13 := Lib.hid (U12.out.below hb13); have D13 := Lib.hid (D12.out.below hb13); have M13 := Lib.hid (M12.out.below hb13); have q4 : w13.cell? ⟨w.heap.size, 0, none⟩ = some (.int .u64 (sr : Int)) ∧ w13.cell? ⟨w.heap.size, 1, none⟩ = some (.int .u64 (ss : Int)) ∧ w13.cell? ⟨w5.heap.size, 0, none⟩ = some (.int .u64 (sr1 : Int)) ∧ w13.cell? ⟨w5.heap.size, 1, none⟩ = some (.int .u64 (x : Int)) ∧ w13.cell? ⟨w8.heap.size, 0, none⟩ = some (.int .u64 (sr1 : Int)) ∧ w13.cell? ⟨w8.heap.size, 1, none⟩ = some (.int .u64 (ss1 : Int)) ∧ w13.cell? ⟨w4.heap.size, 0, none⟩ = some (.int .u64 (r : Int)) ∧ w13.cell? ⟨w4.heap.size, 1, none⟩ = some (.int .u64 (x : Int)) := ⟨Q13.out.cells.1, Q13.out.cells.2, D13.out.cells.1, D13.out.cells.2, M13.out.cells.1, M13.out.cells.2, U13.out.cells.1, U13.out.cells.2⟩))
        | (go_at_call 18; ((with_reducible refine (C3.out _ G13.out).mono ?_); rintro e w14 ⟨rfl, hb14⟩; have Q14 := Lib.hid (Q13.out.below hb14); have G14 := Lib.hid (G13.out.below hb14); have U14 := Lib.hid (U13.out.below hb14); have D14 := Lib.hid (D13.out.below hb14); have M14 := Lib.hid (M13.out.below hb14); have q5 : w14.cell? ⟨w.heap.size, 0, none⟩ = some (.int .u64 (sr : Int)) ∧ w14.cell? ⟨w.heap.size, 1, none⟩ = some (.int .u64 (ss : Int)) ∧ w14.cell? ⟨w5.heap.size, 0, none⟩ = some (.int .u64 (sr1 : Int)) ∧ w14.cell? ⟨w5.heap.size, 1, none⟩ = some (.int .u64 (x : Int)) ∧ w14.cell? ⟨w8.heap.size, 0, none⟩ = some (.int .u64 (sr1 : Int)) ∧ w14.cell? ⟨w8.heap.size, 1, none⟩ = some (.int .u64 (ss1 : Int)) ∧ w14.cell? ⟨w4.heap.size, 0, none⟩ = some (.int .u64 (r : Int)) ∧ w14.cell? ⟨w4.heap.size, 1, none⟩ = some (.int .u64 (x : Int)) := ⟨Q14.out.cells.1, Q14.out.cells.2, D14.out.cells.1, D14.out.cells.2, M14.out.cells.1, M14.out.cells.2, U14.out.cells.1, U14.out.cells.2⟩))
        | (go_at_call 19; ((with_reducible refine (D3.out _ G14.out).mono ?_); rintro e w15 ⟨rfl, hb15⟩; have Q15 := Lib.hid (Q14.out.below hb15); have G15 := Lib.hid (G14.out.below hb15); have U15 := Lib.hid (U14.out.below hb15); have D15 := Lib.hid (D14.out.below hb15); have M15 := Lib.hid (M14.out.below hb15); have q6 : w15.cell? ⟨w.heap.size, 0, none⟩ = some (.int .u64 (sr : Int)) ∧ w15.cell? ⟨w.heap.size, 1, none⟩ = some (.int .u64 (ss : Int)) ∧ w15.cell? ⟨w5.heap.size, 0, none⟩ = some (.int .u64 (sr1 : Int)) ∧ w15.cell? ⟨w5.heap.size, 1, none⟩ = some (.int .u64 (x : Int)) ∧ w15.cell? ⟨w8.heap.size, 0, none⟩ = some (.int .u64 (sr1 : Int)) ∧ w15.cell? ⟨w8.heap.size, 1, none⟩ = some (.int .u64 (ss1 : Int)) ∧ w15.cell? ⟨w4.heap.size, 0, none⟩ = some (.int .u64 (r : Int)) ∧ w15.cell? ⟨w4.heap.size, 1, none⟩ = some (.int .u64 (x : Int)) := ⟨Q15.out.cells.1, Q15.out.cells.2, D15.out.cells.1, D15.out.cells.2, M15.out.cells.1, M15.out.cells.2, U15.out.cells.1, U15.out.cells.2⟩))
        | (go_at_call 18; ((with_reducible refine (C4.out _ G15.out).mono ?_); rintro e w16 ⟨rfl, hb16⟩; have Q16 := Lib.hid (Q15.out.below hb16); have G16 := Lib.hid (G15.out.below hb16); have U16 := Lib.hid (U15.out.below hb16); have D16 := Lib.hid (D15.out.below hb16); have M16 := Lib.hid (M15.out.below hb16); have q7 : w16.cell? ⟨w.heap.size, 0, none⟩ = some (.int .u64 (sr : Int)) ∧ w16.cell? ⟨w.heap.size, 1, none⟩ = some (.int .u64 (ss : Int)) ∧ w16.cell? ⟨w5.heap.size, 0, none⟩ = some (.int .u64 (sr1 : Int)) ∧ w16.cell? ⟨w5.heap.size, 1, none⟩ = some (.int .u64 (x : Int)) ∧ w16.cell? ⟨w8.heap.size, 0, none⟩ = some (.int .u64 (sr1 : Int)) ∧ w16.cell? ⟨w8.heap.size, 1, none⟩ = some (.int .u64 (ss1 : Int)) ∧ w16.cell? ⟨w4.heap.size, 0, none⟩ = some (.int .u64 (r : Int)) ∧ w16.cell? ⟨w4.heap.size, 1, none⟩ = some (.int .u64 (x : Int)) := ⟨Q16.out.cells.1, Q16.out.cells.2, D16.out.cells.1, D16.out.cells.2, M16.out.cells.1, M16.out.cells.2, U16.out.cells.1, U16.out.cells.2⟩))
        | (go_at_call 16; ((with_reducible refine (HL.out _).mono ?_); rintro e w17 ⟨rfl, hb17⟩; have Q17 := Lib.hid (Q16.out.below hb17); have G17 := Lib.hid (G16.out.below hb17); have U17 := Lib.hid (U16.out.below hb17); have D17 := Lib.hid (D16.out.below hb17); have M17 := Lib.hid (M16.out.below hb17); have q8 : w17.cell? ⟨w.heap.size, 0, none⟩ = some (.int .u64 (sr : Int)) ∧ w17.cell? ⟨w.heap.size, 1, none⟩ = some (.int .u64 (ss : Int)) ∧ w17.cell? ⟨w5.heap.size, 0, none⟩ = some (.int .u64 (sr1 : Int)) ∧ w17.cell? ⟨w5.heap.size, 1, none⟩ = some (.int .u64 (x : Int)) ∧ w17.cell? ⟨w8.heap.size, 0, none⟩ = some (.int .u64 (sr1 : Int)) ∧ w17.cell? ⟨w8.heap.size, 1, none⟩ = some (.int .u64 (ss1 : Int)) ∧ w17.cell? ⟨w4.heap.size, 0, none⟩ = some (.int .u64 (r : Int)) ∧ w17.cell? ⟨w4.heap.size, 1, none⟩ = some (.int .u64 (x : Int)) := ⟨Q17.out.cells.1, Q17.out.cells.2, D17.out.cells.1, D17.out.cells.2, M17.out.cells.1, M17.out.cells.2, U17.out.cells.1, U17.out.cells.2⟩)))
    have k17 := (kept_trans (kept_trans (kept_trans (kept_trans (kept_trans (kept_trans (kept_trans (kept_trans k9 hb10) hb11) hb12) hb13) hb14) hb15) hb16) hb17)
    go_wp2
    go_ret
    exact ⟨rfl, K0.out.trans (k17.mono K0.out.size)⟩
  · go_upto_region 15 with (fail)
    have y0 := Q7.out.cells
    obtain ⟨y_Q0, y_Q1⟩ := y0
    go_upto_region 16 with (fail)
    clear y_Q0 y_Q1
    have l_M := Lib.hid k7.size
    have lt_U_M := Lib.hid U7.out.1
    have lt_D_M := Lib.hid D7.out.1
    obtain ⟨w8, hw8⟩ : ∃ W, W = w7.alloc (.cells #[.int .u64 (sr1 : Int), .int .u64 (ss1 : Int)] 28) := ⟨_, rfl⟩
    have Q8' := Q7.out.new (.cells #[.int .u64 (sr1 : Int), .int .u64 (ss1 : Int)] 28)
    have G8' := G7.out.new (.cells #[.int .u64 (sr1 : Int), .int .u64 (ss1 : Int)] 28)
    have U8' := U7.out.new (.cells #[.int .u64 (sr1 : Int), .int .u64 (ss1 : Int)] 28)
    have D8' := D7.out.new (.cells #[.int .u64 (sr1 : Int), .int .u64 (ss1 : Int)] 28)
    have M8' : In2 (w7.alloc (.cells #[.int .u64 (sr1 : Int), .int .u64 (ss1 : Int)] 28)) w7.heap.size sr1 ss1 := in2_new w7 sr1 ss1
    have k8' := kept_trans k7 ((Below.refl _ w7).alloc (Nat.le_refl _) (.cells #[.int .u64 (sr1 : Int), .int .u64 (ss1 : Int)] 28))
    rw [← hw8] at Q8' G8' U8' D8' M8' k8'
    have Q8 := Lib.hid Q8'
    have G8 := Lib.hid G8'
    have U8 := Lib.hid U8'
    have D8 := Lib.hid D8'
    have M8 := Lib.hid M8'
    have k8 := k8'
    rw [← hw8]
    clear hw8 k7 Q8' G8' U8' D8' M8' k8' Q7 G7 U7 D7
    obtain ⟨v1, ev1⟩ : ∃ b, b = Sg.chk t (Sg.msg (l.take 40)) sr ss := ⟨_, rfl⟩
    have C1 := Lib.hid (fun (W : World) (h : Bt W A1 n1 c1 (l.take 40)) => check_v t sr ss v1 h (by omega) (by omega) (by omega) (by omega) ev1.symm)
    have D1 := Lib.hid (fun (W : World) (h : Bt W A1 n1 c1 (l.take 40)) => rcheck_v t sr ss v1 h (by omega) ev1.symm)
    have e1 : (v1 == v1) = true := beq_self_eq_true _
    obtain ⟨v2, ev2⟩ : ∃ b, b = Sg.chk t (Sg.msg (l.take 40)) r x := ⟨_, rfl⟩
    have C2 := Lib.hid (fun (W : World) (h : Bt W A1 n1 c1 (l.take 40)) => check_v t r x v2 h (by omega) (by omega) (by omega) (by omega) ev2.symm)
    have D2 := Lib.hid (fun (W : World) (h : Bt W A1 n1 c1 (l.take 40)) => rcheck_v t r x v2 h (by omega) ev2.symm)
    have e2 : (v2 == v2) = true := beq_self_eq_true _
    obtain ⟨v3, ev3⟩ : ∃ b, b = Sg.chk t1 (Sg.msg (l.take 40)) sr1 ss1 := ⟨_, rfl⟩
    have C3 := Lib.hid (fun (W : World) (h : Bt W A1 n1 c1 (l.take 40)) => check_v t1 sr1 ss1 v3 h (by omega) (by omega) (by omega) (by omega) ev3.symm)
    have D3 := Lib.hid (fun (W : World) (h : Bt W A1 n1 c1 (l.take 40)) => rcheck_v t1 sr1 ss1 v3 h (by omega) ev3.symm)
    have e3 : (v3 == v3) = true := beq_self_eq_true _
    have C4 := Lib.hid (fun (W : World) (h : Bt W A1 n1 c1 (l.take 40)) => check_v own r x true h (by omega) (by omega) (by omega) (by omega) (by rw [← EM.out]; exact HCK.out))
    have HL := Lib.hid lives8_any
    clear ev1 ev2 ev3 HCK
    go_wp2_with fail
    have q0 : w8.cell? ⟨w.heap.size, 0, none⟩ = some (.int .u64 (sr : Int)) ∧ w8.cell? ⟨w.heap.size, 1, none⟩ = some (.int .u64 (ss : Int)) ∧ w8.cell? ⟨w5.heap.size, 0, none⟩ = some (.int .u64 (r : Int)) ∧ w8.cell? ⟨w5.heap.size, 1, none⟩ = some (.int .u64 (x : Int)) ∧ w8.cell? ⟨w7.heap.size, 0, none⟩ = some (.int .u64 (sr1 : Int)) ∧ w8.cell? ⟨w7.heap.size, 1, none⟩ = some (.int .u64 (ss1 : Int)) ∧ w8.cell? ⟨w4.heap.size, 0, none⟩ = some (.int .u64 (r : Int)) ∧ w8.cell? ⟨w4.heap.size, 1, none⟩ = some (.int .u64 (x : Int)) := ⟨Q8.out.cells.1, Q8.out.cells.2, D8.out.cells.1, D8.out.cells.2, M8.out.cells.1, M8.out.cells.2, U8.out.cells.1, U8.out.cells.2⟩
    have q0' : w8.drew.cell? ⟨w.heap.size, 0, none⟩ = some (.int .u64 (sr : Int)) ∧ w8.drew.cell? ⟨w.heap.size, 1, none⟩ = some (.int .u64 (ss : Int)) ∧ w8.drew.cell? ⟨w5.heap.size, 0, none⟩ = some (.int .u64 (r : Int)) ∧ w8.drew.cell? ⟨w5.heap.size, 1, none⟩ = some (.int .u64 (x : Int)) ∧ w8.drew.cell? ⟨w7.heap.size, 0, none⟩ = some (.int .u64 (sr1 : Int)) ∧ w8.drew.cell? ⟨w7.heap.size, 1, none⟩ = some (.int .u64 (ss1 : Int)) ∧ w8.drew.cell? ⟨w4.heap.size, 0, none⟩ = some (.int .u64 (r : Int)) ∧ w8.drew.cell? ⟨w4.heap.size, 1, none⟩ = some (.int .u64 (x : Int)) := q0
    go_region_held3 (fun w' : World => w'.cell? ⟨w.heap.size, 0, none⟩ = some (.int .u64 (sr : Int)) ∧ w'.cell? ⟨w.heap.size, 1, none⟩ = some (.int .u64 (ss : Int)) ∧ w'.cell? ⟨w5.heap.size, 0, none⟩ = some (.int .u64 (r : Int)) ∧ w'.cell? ⟨w5.heap.size, 1, none⟩ = some (.int .u64 (x : Int)) ∧ w'.cell? ⟨w7.heap.size, 0, none⟩ = some (.int .u64 (sr1 : Int)) ∧ w'.cell? ⟨w7.heap.size, 1, none⟩ = some (.int .u64 (ss1 : Int)) ∧ w'.cell? ⟨w4.heap.size, 0, none⟩ = some (.int .u64 (r : Int)) ∧ w'.cell? ⟨w4.heap.size, 1, none⟩ = some (.int .u64 (x : Int)))
      ((first | with_reducible exact q0 | with_reducible exact q0' | with_reducible exact q1 | with_reducible exact q2 | with_reducible exact q3 | with_reducible exact q4 | with_reducible exact q5 | with_reducible exact q6 | with_reducible exact q7 | with_reducible exact q8))
      (first
        | (go_at_call 18; ((with_reducible refine (C1.out _ (G8.out.below (below_to_drew (Below.refl _ _)))).mono ?_); rintro e w9 ⟨rfl, hb9'⟩; have hb9 := below_of_drew hb9'; clear hb9'; have Q9 := Lib.hid (Q8.out.below hb9); have G9 := Lib.hid (G8.out.below hb9); have U9 := Lib.hid (U8.out.below hb9); have D9 := Lib.hid (D8.out.below hb9); have M9 := Lib.hid (M8.out.below hb9); have q1 : w9.cell? ⟨w.heap.size, 0, none⟩ = some (.int .u64 (sr : Int)) ∧ w9.cell? ⟨w.heap.size, 1, none⟩ = some (.int .u64 (ss : Int)) ∧ w9.cell? ⟨w5.heap.size, 0, none⟩ = some (.int .u64 (r : Int)) ∧ w9.cell? ⟨w5.heap.size, 1, none⟩ = some (.int .u64 (x : Int)) ∧ w9.cell? ⟨w7.heap.size, 0, none⟩ = some (.int .u64 (sr1 : Int)) ∧ w9.cell? ⟨w7.heap.size, 1, none⟩ = some (.int .u64 (ss1 : Int)) ∧ w9.cell? ⟨w4.heap.size, 0, none⟩ = some (.int .u64 (r : Int)) ∧ w9.cell? ⟨w4.heap.size, 1, none⟩ = some (.int .u64 (x : Int)) := ⟨Q9.out.cells.1, Q9.out.cells.2, D9.out.cells.1, D9.out.cells.2, M9.out.cells.1, M9.out.cells.2, U9.out.cells.1, U9.out.cells.2⟩))
        | (go_at_call 19; ((with_reducible refine (D1.out _ G9.out).mono ?_); rintro e w10 ⟨rfl, hb10⟩; have Q10 := Lib.hid (Q9.out.below hb10); have G10 := Lib.hid (G9.out.below hb10); have U10 := Lib.hid (U9.out.below hb10); have D10 := Lib.hid (D9.out.below hb10); have M10 := Lib.hid (M9.out.below hb10); have q2 : w10.cell? ⟨w.heap.size, 0, none⟩ = some (.int .u64 (sr : Int)) ∧ w10.cell? ⟨w.heap.size, 1, none⟩ = some (.int .u64 (ss : Int)) ∧ w10.cell? ⟨w5.heap.size, 0, none⟩ = some (.int .u64 (r : Int)) ∧ w10.cell? ⟨w5.heap.size, 1, none⟩ = some (.int .u64 (x : Int)) ∧ w10.cell? ⟨w7.heap.size, 0, none⟩ = some (.int .u64 (sr1 : Int)) ∧ w10.cell? ⟨w7.heap.size, 1, none⟩ = some (.int .u64 (ss1 : Int)) ∧ w10.cell? ⟨w4.heap.size, 0, none⟩ = some (.int .u64 (r : Int)) ∧ w10.cell? ⟨w4.heap.size, 1, none⟩ = some (.int .u64 (x : Int)) := ⟨Q10.out.cells.1, Q10.out.cells.2, D10.out.cells.1, D10.out.cells.2, M10.out.cells.1, M10.out.cells.2, U10.out.cells.1, U10.out.cells.2⟩))
        | (go_at_call 18; ((with_reducible refine (C2.out _ G10.out).mono ?_); rintro e w11 ⟨rfl, hb11⟩; have Q11 := Lib.hid (Q10.out.below hb11); have G11 := Lib.hid (G10.out.below hb11); have U11 := Lib.hid (U10.out.below hb11); have D11 := Lib.hid (D10.out.below hb11); have M11 := Lib.hid (M10.out.below hb11); have q3 : w11.cell? ⟨w.heap.size, 0, none⟩ = some (.int .u64 (sr : Int)) ∧ w11.cell? ⟨w.heap.size, 1, none⟩ = some (.int .u64 (ss : Int)) ∧ w11.cell? ⟨w5.heap.size, 0, none⟩ = some (.int .u64 (r : Int)) ∧ w11.cell? ⟨w5.heap.size, 1, none⟩ = some (.int .u64 (x : Int)) ∧ w11.cell? ⟨w7.heap.size, 0, none⟩ = some (.int .u64 (sr1 : Int)) ∧ w11.cell? ⟨w7.heap.size, 1, none⟩ = some (.int .u64 (ss1 : Int)) ∧ w11.cell? ⟨w4.heap.size, 0, none⟩ = some (.int .u64 (r : Int)) ∧ w11.cell? ⟨w4.heap.size, 1, none⟩ = some (.int .u64 (x : Int)) := ⟨Q11.out.cells.1, Q11.out.cells.2, D11.out.cells.1, D11.out.cells.2, M11.out.cells.1, M11.out.cells.2, U11.out.cells.1, U11.out.cells.2⟩))
        | (go_at_call 19; ((with_reducible refine (D2.out _ G11.out).mono ?_); rintro e w12 ⟨rfl, hb12⟩; have Q12 := Lib.hid (Q11.out.below hb12); have G12 := Lib.hid (G11.out.below hb12); have U12 := Lib.hid (U11.out.below hb12); have D12 := Lib.hid (D11.out.below hb12); have M12 := Lib.hid (M11.out.below hb12); have q4 : w12.cell? ⟨w.heap.size, 0, none⟩ = some (.int .u64 (sr : Int)) ∧ w12.cell? ⟨w.heap.size, 1, none⟩ = some (.int .u64 (ss : Int)) ∧ w12.cell? ⟨w5.heap.size, 0, none⟩ = some (.int .u64 (r : Int)) ∧ w12.cell? ⟨w5.heap.size, 1, none⟩ = some (.int .u64 (x : Int)) ∧ w12.cell? ⟨w7.heap.size, 0, none⟩ = some (.int .u64 (sr1 : Int)) ∧ w12.cell? ⟨w7.heap.size, 1, none⟩ = some (.int .u64 (ss1 : Int)) ∧ w12.cell? ⟨w4.heap.size, 0, none⟩ = some (.int .u64 (r : Int)) ∧ w12.cell? ⟨w4.heap.size, 1, none⟩ = some (.int .u64 (x : Int)) := ⟨Q12.out.cells.1, Q12.out.cells.2, D12.out.cells.1, D12.out.cells.2, M12.out.cells.1, M12.out.cells.2, U12.out.cells.1, U12.out.cells.2⟩))
        | (go_at_call 18; ((with_reducible refine (C3.out _ G12.out).mono ?_); rintro e w13 ⟨rfl, hb13⟩; have Q13 := Lib.hid (Q12.out.below hb13); have G13 := Lib.hid (G12.out.below hb13); have U13 := Lib.hid (U12.out.below hb13); have D13 := Lib.hid (D12.out.below hb13); have M13 := Lib.hid (M12.out.below hb13); have q5 : w13.cell? ⟨w.heap.size, 0, none⟩ = some (.int .u64 (sr : Int)) ∧ w13.cell? ⟨w.heap.size, 1, none⟩ = some (.int .u64 (ss : Int)) ∧ w13.cell? ⟨w5.heap.size, 0, none⟩ = some (.int .u64 (r : Int)) ∧ w13.cell? ⟨w5.heap.size, 1, none⟩ = some (.int .u64 (x : Int)) ∧ w13.cell? ⟨w7.heap.size, 0, none⟩ = some (.int .u64 (sr1 : Int)) ∧ w13.cell? ⟨w7.heap.size, 1, none⟩ = some (.int .u64 (ss1 : Int)) ∧ w13.cell? ⟨w4.heap.size, 0, none⟩ = some (.int .u64 (r : Int)) ∧ w13.cell? ⟨w4.heap.size, 1, none⟩ = some (.int .u64 (x : Int)) := ⟨Q13.out.cells.1, Q13.out.cells.2, D13.out.cells.1, D13.out.cells.2, M13.out.cells.1, M13.out.cells.2, U13.out.cells.1, U13.out.cells.2⟩))
        | (go_at_call 19; ((with_reducible refine (D3.out _ G13.out).mono ?_); rintro e w14 ⟨rfl, hb14⟩; have Q14 := Lib.hid (Q13.out.below hb14); have G14 := Lib.hid (G13.out.below hb14); have U14 := Lib.hid (U13.out.below hb14); have D14 := Lib.hid (D13.out.below hb14); have M14 := Lib.hid (M13.out.below hb14); have q6 : w14.cell? ⟨w.heap.size, 0, none⟩ = some (.int .u64 (sr : Int)) ∧ w14.cell? ⟨w.heap.size, 1, none⟩ = some (.int .u64 (ss : Int)) ∧ w14.cell? ⟨w5.heap.size, 0, none⟩ = some (.int .u64 (r : Int)) ∧ w14.cell? ⟨w5.heap.size, 1, none⟩ = some (.int .u64 (x : Int)) ∧ w14.cell? ⟨w7.heap.size, 0, none⟩ = some (.int .u64 (sr1 : Int)) ∧ w14.cell? ⟨w7.heap.size, 1, none⟩ = some (.int .u64 (ss1 : Int)) ∧ w14.cell? ⟨w4.heap.size, 0, none⟩ = some (.int .u64 (r : Int)) ∧ w14.cell? ⟨w4.heap.size, 1, none⟩ = some (.int .u64 (x : Int)) := ⟨Q14.out.cells.1, Q14.out.cells.2, D14.out.cells.1, D14.out.cells.2, M14.out.cells.1, M14.out.cells.2, U14.out.cells.1, U14.out.cells.2⟩))
        | (go_at_call 18; ((with_reducible refine (C4.out _ G14.out).mono ?_); rintro e w15 ⟨rfl, hb15⟩; have Q15 := Lib.hid (Q14.out.below hb15); have G15 := Lib.hid (G14.out.below hb15); have U15 := Lib.hid (U14.out.below hb15); have D15 := Lib.hid (D14.out.below hb15); have M15 := Lib.hid (M14.out.below hb15); have q7 : w15.cell? ⟨w.heap.size, 0, none⟩ = some (.int .u64 (sr : Int)) ∧ w15.cell? ⟨w.heap.size, 1, none⟩ = some (.int .u64 (ss : Int)) ∧ w15.cell? ⟨w5.heap.size, 0, none⟩ = some (.int .u64 (r : Int)) ∧ w15.cell? ⟨w5.heap.size, 1, none⟩ = some (.int .u64 (x : Int)) ∧ w15.cell? ⟨w7.heap.size, 0, none⟩ = some (.int .u64 (sr1 : Int)) ∧ w15.cell? ⟨w7.heap.size, 1, none⟩ = some (.int .u64 (ss1 : Int)) ∧ w15.cell? ⟨w4.heap.size, 0, none⟩ = some (.int .u64 (r : Int)) ∧ w15.cell? ⟨w4.heap.size, 1, none⟩ = some (.int .u64 (x : Int)) := ⟨Q15.out.cells.1, Q15.out.cells.2, D15.out.cells.1, D15.out.cells.2, M15.out.cells.1, M15.out.cells.2, U15.out.cells.1, U15.out.cells.2⟩))
        | (go_at_call 16; ((with_reducible refine (HL.out _).mono ?_); rintro e w16 ⟨rfl, hb16⟩; have Q16 := Lib.hid (Q15.out.below hb16); have G16 := Lib.hid (G15.out.below hb16); have U16 := Lib.hid (U15.out.below hb16); have D16 := Lib.hid (D15.out.below hb16); have M16 := Lib.hid (M15.out.below hb16); have q8 : w16.cell? ⟨w.heap.size, 0, none⟩ = some (.int .u64 (sr : Int)) ∧ w16.cell? ⟨w.heap.size, 1, none⟩ = some (.int .u64 (ss : Int)) ∧ w16.cell? ⟨w5.heap.size, 0, none⟩ = some (.int .u64 (r : Int)) ∧ w16.cell? ⟨w5.heap.size, 1, none⟩ = some (.int .u64 (x : Int)) ∧ w16.cell? ⟨w7.heap.size, 0, none⟩ = some (.int .u64 (sr1 : Int)) ∧ w16.cell? ⟨w7.heap.size, 1, none⟩ = some (.int .u64 (ss1 : Int)) ∧ w16.cell? ⟨w4.heap.size, 0, none⟩ = some (.int .u64 (r : Int)) ∧ w16.cell? ⟨w4.heap.size, 1, none⟩ = some (.int .u64 (x : Int)) := ⟨Q16.out.cells.1, Q16.out.cells.2, D16.out.cells.1, D16.out.cells.2, M16.out.cells.1, M16.out.cells.2, U16.out.cells.1, U16.out.cells.2⟩)))
    have k16 := (kept_trans (kept_trans (kept_trans (kept_trans (kept_trans (kept_trans (kept_trans (kept_trans k8 hb9) hb10) hb11) hb12) hb13) hb14) hb15) hb16)
    go_wp2
    go_ret
    exact ⟨rfl, K0.out.trans (k16.mono K0.out.size)⟩

end Go.Proofs.Ytdiacpadbndncaa
