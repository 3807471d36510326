/-
  SignRange: the walk, over natural numbers and lists of bytes. No condition.
-/
import Derived.Test.YtdiacpadbndncaaSgk
import Derived.Deep.DeepCutAuto
namespace Go.Proofs.Ytdiacpadbndncaa
open Go.RowKit

set_option maxRecDepth 100000 in
set_option maxHeartbeats 4000000 in
theorem range_walk (n : Nat) (A : Option Addr) (m c : Nat) (l : List UInt8) (w : World) (hA : Bt w A m c l) :
    Calls Try.prog 7 #[.int .u64 n, .slice A m c] w fun e w' => e = .returned (.bool true) ∧ Below w.heap.size w w' := by
  have k0 : Below w.heap.size w w := Below.refl _ _
  have F0 := Lib.hid hA
  clear hA
  go_enter Try.func7, Try.ntmps7
  go_wp2_with fail
  refine (few_v (F0.out) 40 (by omega)).mono ?_
  rintro e w1 ⟨⟨A1, n1, c1, rfl, h, hm1⟩, hb1⟩
  have k1 := kept_trans k0 hb1
  have G1 := Lib.hid h
  clear hb1 k0 F0 h
  go_wp2_with fail
  refine (sec8_v n _).mono ?_
  rintro e w2 ⟨⟨a, ha1, ha2, rfl⟩, hb2⟩
  have k2 := kept_trans k1 hb2
  have G2 := Lib.hid (G1.out.below hb2)
  clear hb2 k1 G1
  go_wp2_with fail
  refine (spub_any a _ (by omega)).mono ?_
  rintro e w3 ⟨rfl, hb3⟩
  have k3 := kept_trans k2 hb3
  have G3 := Lib.hid (G2.out.below hb3)
  clear hb3 k2 G2
  go_wp2_with fail
  refine (sign_v a (G3.out) (by omega) ha2).mono ?_
  rintro e w4 ⟨⟨r, x, rfl, hby⟩, hb4⟩
  have k4 := kept_trans k3 hb4
  have G4 := Lib.hid (G3.out.below hb4)
  clear hb4 k3 G3
  have hp := Bx.pub_lt a
  have hr := hby.2.2.1
  have hx := hby.2.2.2
  obtain ⟨p, ep⟩ : ∃ p, p = Bx.pub a := ⟨_, rfl⟩
  rw [← ep] at hp ⊢
  obtain ⟨rp, erp⟩ : ∃ y, y = r + 2305843009213693951 := ⟨_, rfl⟩
  obtain ⟨xm, exm⟩ : ∃ y, y = x + 2305843009213693951 := ⟨_, rfl⟩
  obtain ⟨xt, ext⟩ : ∃ y, y = x + 2305843009213693950 := ⟨_, rfl⟩
  obtain ⟨pp, epp⟩ : ∃ y, y = p + 2305843009213693951 := ⟨_, rfl⟩
  have g1 : (r : Int) + 2305843009213693951 = (rp : Int) := by omega
  have g2 : (x : Int) + 2305843009213693951 = (xm : Int) := by omega
  have g3 : (xm : Int) - 1 = (xt : Int) := by omega
  have g4 : (p : Int) + 2305843009213693951 = (pp : Int) := by omega
  have hxm0 : 0 < xm := by omega
  have hxm1 : xm < 4611686018427387904 := by omega
  have C1 : Hid (∀ W : World, Bt W A1 n1 c1 (l.take 40) → Calls Try.prog 18 #[.int .u64 (p : Int), .slice A1 n1 c1, .agg #[.int .u64 (rp : Int), .int .u64 (x : Int)]] W fun e w' => e = .returned (.bool false) ∧ Below W.heap.size W w') := Lib.hid (fun W h => check_v p rp x false h (by omega) (by omega) (by omega) (by omega) (Sg.chk_off1 p _ rp x (by omega)))
  have C2 : Hid (∀ W : World, Bt W A1 n1 c1 (l.take 40) → Calls Try.prog 18 #[.int .u64 (p : Int), .slice A1 n1 c1, .agg #[.int .u64 (r : Int), .int .u64 (xt : Int)]] W fun e w' => e = .returned (.bool false) ∧ Below W.heap.size W w') := Lib.hid (fun W h => check_v p r xt false h (by omega) (by omega) (by omega) (by omega) (Sg.chk_off2 p _ r xt (by omega)))
  have C3 : Hid (∀ W : World, Bt W A1 n1 c1 (l.take 40) → Calls Try.prog 18 #[.int .u64 (pp : Int), .slice A1 n1 c1, .agg #[.int .u64 (r : Int), .int .u64 (x : Int)]] W fun e w' => e = .returned (.bool false) ∧ Below W.heap.size W w') := Lib.hid (fun W h => check_v pp r x false h (by omega) (by omega) (by omega) (by omega) (Sg.chk_off3 pp _ r x (by omega)))
  have C4 : Hid (∀ W : World, Bt W A1 n1 c1 (l.take 40) → Calls Try.prog 18 #[.int .u64 0, .slice A1 n1 c1, .agg #[.int .u64 (r : Int), .int .u64 (x : Int)]] W fun e w' => e = .returned (.bool false) ∧ Below W.heap.size W w') := Lib.hid (fun W h => check_v 0 r x false h (by omega) (by omega) (by omega) (by omega) (Sg.chk_off4 _ r x))
  have C5 : Hid (∀ W : World, Bt W A1 n1 c1 (l.take 40) → Calls Try.prog 18 #[.int .u64 (p : Int), .slice A1 n1 c1, .agg #[.int .u64 0, .int .u64 (x : Int)]] W fun e w' => e = .returned (.bool false) ∧ Below W.heap.size W w') := Lib.hid (fun W h => check_v p 0 x false h (by omega) (by omega) (by omega) (by omega) (Sg.chk_off5 p _ x))
  clear hby ep erp exm ext epp ha1 ha2
  go_upto_region 5 with (fail)
  have K0 := Lib.hid k4
  clear k4
  have k4 : Below w4.heap.size w4 w4 := Below.refl _ _
  have GA := G4
  have l_V := Lib.hid k4.size
  obtain ⟨w5, hw5⟩ : ∃ W, W = w4.alloc (.cells #[.int .u64 (r : Int), .int .u64 (x : Int)] 28) := ⟨_, rfl⟩
  have G5' := G4.out.new (.cells #[.int .u64 (r : Int), .int .u64 (x : Int)] 28)
  have V5' : In2 (w4.alloc (.cells #[.int .u64 (r : Int), .int .u64 (x : Int)] 28)) w4.heap.size r x := in2_new w4 r x
  have k5' := kept_trans k4 ((Below.refl _ w4).alloc (Nat.le_refl _) (.cells #[.int .u64 (r : Int), .int .u64 (x : Int)] 28))
  rw [← hw5] at G5' V5' k5'
  have G5 := Lib.hid G5'
  have V5 := Lib.hid V5'
  have k5 := k5'
  rw [← hw5]
  clear hw5 k4 G5' V5' k5' G4
  obtain ⟨y_V0, y_V1⟩ := V5.out.cells
  go_upto_region 6 with (fail)
  clear y_V0 y_V1 
  have l_U := Lib.hid k5.size
  have lt_V_U := Lib.hid V5.out.1
  obtain ⟨w6, hw6⟩ : ∃ W, W = w5.alloc (.cells #[.int .u64 (r : Int), .int .u64 (x : Int)] 28) := ⟨_, rfl⟩
  have G6' := G5.out.new (.cells #[.int .u64 (r : Int), .int .u64 (x : Int)] 28)
  have V6' := V5.out.new (.cells #[.int .u64 (r : Int), .int .u64 (x : Int)] 28)
  have U6' : In2 (w5.alloc (.cells #[.int .u64 (r : Int), .int .u64 (x : Int)] 28)) w5.heap.size r x := in2_new w5 r x
  have k6' := kept_trans k5 ((Below.refl _ w5).alloc (Nat.le_refl _) (.cells #[.int .u64 (r : Int), .int .u64 (x : Int)] 28))
  rw [← hw6] at G6' V6' U6' k6'
  have G6 := Lib.hid G6'
  have V6 := Lib.hid V6'
  have U6 := Lib.hid U6'
  have k6 := k6'
  rw [← hw6]
  clear hw6 k5 G6' V6' U6' k6' G5 V5
  obtain ⟨y_V0, y_V1⟩ := V6.out.cells
  obtain ⟨y_U0, y_U1⟩ := U6.out.cells
  obtain ⟨f_U0, f_U1⟩ := U6.out.free
  go_upto_region 7 with (fail)
  clear y_V0 y_V1 y_U0 y_U1 f_U0 f_U1
  obtain ⟨w7, hw7⟩ : ∃ W, W = w6.setCell ⟨w5.heap.size, 0, none⟩ (.int .u64 (rp : Int)) := ⟨_, rfl⟩
  have k7' := below_setw (i := 0) (u := (.int .u64 (rp : Int))) k6 l_U.out U6.out.1
  have G7' := GA.out.below k7'
  have V7' := V6.out.kept (R' := w5.heap.size) (i := 0) (u := (.int .u64 (rp : Int))) (by have := lt_V_U.out; omega)
  have U7' := U6.out.set0 rp
  rw [← hw7] at k7' G7' V7' U7'
  have G7 := Lib.hid G7'
  have V7 := Lib.hid V7'
  have U7 := Lib.hid U7'
  have k7 := k7'
  rw [← hw7]
  clear hw7 k6 k7' G7' V7' U7' G6 V6 U6
  obtain ⟨y_V0, y_V1⟩ := V7.out.cells
  go_upto_region 8 with (fail)
  clear y_V0 y_V1 
  have l_T := Lib.hid k7.size
  have lt_V_T := Lib.hid V7.out.1
  have lt_U_T := Lib.hid U7.out.1
  obtain ⟨w8, hw8⟩ : ∃ W, W = w7.alloc (.cells #[.int .u64 (r : Int), .int .u64 (x : Int)] 28) := ⟨_, rfl⟩
  have G8' := G7.out.new (.cells #[.int .u64 (r : Int), .int .u64 (x : Int)] 28)
  have V8' := V7.out.new (.cells #[.int .u64 (r : Int), .int .u64 (x : Int)] 28)
  have U8' := U7.out.new (.cells #[.int .u64 (r : Int), .int .u64 (x : Int)] 28)
  have T8' : In2 (w7.alloc (.cells #[.int .u64 (r : Int), .int .u64 (x : Int)] 28)) w7.heap.size r x := in2_new w7 r x
  have k8' := kept_trans k7 ((Below.refl _ w7).alloc (Nat.le_refl _) (.cells #[.int .u64 (r : Int), .int .u64 (x : Int)] 28))
  rw [← hw8] at G8' V8' U8' T8' k8'
  have G8 := Lib.hid G8'
  have V8 := Lib.hid V8'
  have U8 := Lib.hid U8'
  have T8 := Lib.hid T8'
  have k8 := k8'
  rw [← hw8]
  clear hw8 k7 G8' V8' U8' T8' k8' G7 V7 U7
  obtain ⟨y_V0, y_V1⟩ := V8.out.cells
  obtain ⟨y_T0, y_T1⟩ := T8.out.cells
  obtain ⟨f_T0, f_T1⟩ := T8.out.free
  go_upto_region 9 with (fail)
  clear y_V0 y_V1 y_T0 y_T1 f_T0 f_T1
  obtain ⟨w9, hw9⟩ : ∃ W, W = w8.setCell ⟨w7.heap.size, 1, none⟩ (.int .u64 (xt : Int)) := ⟨_, rfl⟩
  have k9' := below_setw (i := 1) (u := (.int .u64 (xt : Int))) k8 l_T.out T8.out.1
  have G9' := GA.out.below k9'
  have V9' := V8.out.kept (R' := w7.heap.size) (i := 1) (u := (.int .u64 (xt : Int))) (by have := lt_V_T.out; omega)
  have U9' := U8.out.kept (R' := w7.heap.size) (i := 1) (u := (.int .u64 (xt : Int))) (by have := lt_U_T.out; omega)
  have T9' := T8.out.set1 xt
  rw [← hw9] at k9' G9' V9' U9' T9'
  have G9 := Lib.hid G9'
  have V9 := Lib.hid V9'
  have U9 := Lib.hid U9'
  have T9 := Lib.hid T9'
  have k9 := k9'
  rw [← hw9]
  clear hw9 k8 k9' G9' V9' U9' T9' G8 V8 U8 T8
  obtain ⟨y_V0, y_V1⟩ := V9.out.cells
  go_upto_region 10 with (fail)
  clear y_V0 y_V1 
  have l_Z := Lib.hid k9.size
  have lt_V_Z := Lib.hid V9.out.1
  have lt_U_Z := Lib.hid U9.out.1
  have lt_T_Z := Lib.hid T9.out.1
  obtain ⟨w10, hw10⟩ : ∃ W, W = w9.alloc (.cells #[.int .u64 0, .int .u64 (x : Int)] 28) := ⟨_, rfl⟩
  have G10' := G9.out.new (.cells #[.int .u64 0, .int .u64 (x : Int)] 28)
  have V10' := V9.out.new (.cells #[.int .u64 0, .int .u64 (x : Int)] 28)
  have U10' := U9.out.new (.cells #[.int .u64 0, .int .u64 (x : Int)] 28)
  have T10' := T9.out.new (.cells #[.int .u64 0, .int .u64 (x : Int)] 28)
  have Z10' : In2 (w9.alloc (.cells #[.int .u64 0, .int .u64 (x : Int)] 28)) w9.heap.size 0 x := in2_new w9 0 x
  have k10' := kept_trans k9 ((Below.refl _ w9).alloc (Nat.le_refl _) (.cells #[.int .u64 0, .int .u64 (x : Int)] 28))
  rw [← hw10] at G10' V10' U10' T10' Z10' k10'
  have G10 := Lib.hid G10'
  have V10 := Lib.hid V10'
  have U10 := Lib.hid U10'
  have T10 := Lib.hid T10'
  have Z10 := Lib.hid Z10'
  have k10 := k10'
  rw [← hw10]
  clear hw10 k9 G10' V10' U10' T10' Z10' k10' G9 V9 U9 T9
  obtain ⟨y_U0, y_U1⟩ := U10.out.cells
  go_wp2_with fail
  clear y_U0 y_U1 
  refine (C1.out _ (G10.out)).mono ?_
  rintro e w11 ⟨rfl, hb11⟩
  have k11 := kept_trans k10 hb11
  have G11 := Lib.hid (G10.out.below hb11)
  have V11 := Lib.hid (V10.out.below hb11)
  have U11 := Lib.hid (U10.out.below hb11)
  have T11 := Lib.hid (T10.out.below hb11)
  have Z11 := Lib.hid (Z10.out.below hb11)
  clear hb11 k10 G10 V10 U10 T10 Z10
  obtain ⟨y_T0, y_T1⟩ := T11.out.cells
  go_wp2_with fail
  clear y_T0 y_T1 
  refine (C2.out _ (G11.out)).mono ?_
  rintro e w12 ⟨rfl, hb12⟩
  have k12 := kept_trans k11 hb12
  have G12 := Lib.hid (G11.out.below hb12)
  have V12 := Lib.hid (V11.out.below hb12)
  have U12 := Lib.hid (U11.out.below hb12)
  have T12 := Lib.hid (T11.out.below hb12)
  have Z12 := Lib.hid (Z11.out.below hb12)
  clear hb12 k11 G11 V11 U11 T11 Z11
  obtain ⟨y_V0, y_V1⟩ := V12.out.cells
  go_wp2_with fail
  clear y_V0 y_V1 
  refine (C3.out _ (G12.out)).mono ?_
  rintro e w13 ⟨rfl, hb13⟩
  have k13 := kept_trans k12 hb13
  have G13 := Lib.hid (G12.out.below hb13)
  have V13 := Lib.hid (V12.out.below hb13)
  have U13 := Lib.hid (U12.out.below hb13)
  have T13 := Lib.hid (T12.out.below hb13)
  have Z13 := Lib.hid (Z12.out.below hb13)
  clear hb13 k12 G12 V12 U12 T12 Z12
  obtain ⟨y_V0, y_V1⟩ := V13.out.cells
  go_wp2_with fail
  clear y_V0 y_V1 
  refine (C4.out _ (G13.out)).mono ?_
  rintro e w14 ⟨rfl, hb14⟩
  have k14 := kept_trans k13 hb14
  have G14 := Lib.hid (G13.out.below hb14)
  have V14 := Lib.hid (V13.out.below hb14)
  have U14 := Lib.hid (U13.out.below hb14)
  have T14 := Lib.hid (T13.out.below hb14)
  have Z14 := Lib.hid (Z13.out.below hb14)
  clear hb14 k13 G13 V13 U13 T13 Z13
  have y_Z0 : w14.cell? ⟨w9.heap.size, 0, none⟩ = some (.int .u64 0) := Z14.out.cells.1
  have y_Z1 := Z14.out.cells.2
  go_wp2_with fail
  clear y_Z0 y_Z1 
  refine (C5.out _ (G14.out)).mono ?_
  rintro e w15 ⟨rfl, hb15⟩
  have k15 := kept_trans k14 hb15
  have G15 := Lib.hid (G14.out.below hb15)
  have V15 := Lib.hid (V14.out.below hb15)
  have U15 := Lib.hid (U14.out.below hb15)
  have T15 := Lib.hid (T14.out.below hb15)
  have Z15 := Lib.hid (Z14.out.below hb15)
  clear hb15 k14 G14 V14 U14 T14 Z14
  go_wp2_with fail
  refine (lives8_any _).mono ?_
  rintro e w16 ⟨rfl, hb16⟩
  have k16 := kept_trans k15 hb16
  have G16 := Lib.hid (G15.out.below hb16)
  have V16 := Lib.hid (V15.out.below hb16)
  have U16 := Lib.hid (U15.out.below hb16)
  have T16 := Lib.hid (T15.out.below hb16)
  have Z16 := Lib.hid (Z15.out.below hb16)
  clear hb16 k15 G15 V15 U15 T15 Z15
  go_wp2
  go_ret
  exact ⟨rfl, kept_trans K0.out k16⟩

end Go.Proofs.Ytdiacpadbndncaa
