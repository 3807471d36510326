/-
  SignOne: the walk, over natural numbers and lists of bytes. No condition.
-/
import Derived.Test.YtdiacpadbndncaaSgl
import Derived.Deep.RegionWith
namespace Go.Proofs.Ytdiacpadbndncaa
open Go.RowKit

set_option maxRecDepth 100000 in
set_option maxHeartbeats 4000000 in
theorem one_walk (n other : Nat) (A : Option Addr) (m c : Nat) (l : List UInt8) (w : World) (hA : Bt w A m c l) :
    Calls Try.prog 6 #[.int .u64 n, .slice A m c, .int .u64 other] w fun e w' => e = .returned (.bool true) ∧ Below w.heap.size w w' := by
  have k0 : Below w.heap.size w w := Below.refl _ _
  have F0 := Lib.hid hA
  clear hA
  go_enter Try.func6, Try.ntmps6
  go_wp2_with fail
  refine (few_v (F0.out) 40 (by omega)).mono ?_
  rintro e w1 ⟨⟨A1, n1, c1, rfl, h, hm1⟩, hb1⟩
  have k1 := kept_trans k0 hb1
  have G1 := Lib.hid h
  clear hb1 k0 F0 h
  go_wp2_with fail
  refine (sec8_v n _).mono ?_
  rintro e w2 ⟨⟨a, ha1, ha2, rfl⟩, hb2⟩
  have k2 := kept_trans k1 hb2
  have G2 := Lib.hid (G1.out.below hb2)
  clear hb2 k1 G1
  go_wp2_with fail
  refine (spub_any a _ (by omega)).mono ?_
  rintro e w3 ⟨rfl, hb3⟩
  have k3 := kept_trans k2 hb3
  have G3 := Lib.hid (G2.out.below hb3)
  clear hb3 k2 G2
  go_wp2_with fail
  refine (sign_v a (G3.out) (by omega) ha2).mono ?_
  rintro e w4 ⟨⟨r, x, rfl, hby⟩, hb4⟩
  have k4 := kept_trans k3 hb4
  have G4 := Lib.hid (G3.out.below hb4)
  clear hb4 k3 G3
  have hp := Bx.pub_lt a
  have hr := hby.2.2.1
  have hx := hby.2.2.2
  obtain ⟨xn, exn⟩ : ∃ y, y = (x + 1) % 2305843009213693950 := ⟨_, rfl⟩
  obtain ⟨o2, eo2⟩ : ∃ y, y = other % 2305843009213693950 := ⟨_, rfl⟩
  have hnx := hby.next
  rw [← exn] at hnx
  have hone := fun k => hby.one (y := o2) k
  obtain ⟨p, ep⟩ : ∃ p, p = Bx.pub a := ⟨_, rfl⟩
  rw [← ep] at hp hnx hone ⊢
  have g1 : ((x : Int) + 1) % 2305843009213693950 = (xn : Int) := by omega
  have g2 : (other : Int) % 2305843009213693950 = (o2 : Int) := by omega
  have hxnl : xn < 2305843009213693950 := by omega
  have ho2l : o2 < 2305843009213693950 := by omega
  have C1 := Lib.hid (fun (W : World) (h : Bt W A1 n1 c1 (l.take 40)) => check_v p r xn false h (by omega) (by omega) (by omega) (by omega) hnx)
  obtain ⟨bb, ebb⟩ : ∃ b, b = Sg.chk p (Sg.msg (l.take 40)) r o2 := ⟨_, rfl⟩
  have C2 := Lib.hid (fun (W : World) (h : Bt W A1 n1 c1 (l.take 40)) => check_v p r o2 bb h (by omega) (by omega) (by omega) (by omega) ebb.symm)
  rw [← ebb] at hone
  have HONE := Lib.hid hone
  have HL := Lib.hid lives8_any
  have P1 : Hid (∀ W : World, Calls Try.prog 20 #[.int .u64 37, .int .u64 (o2 : Int)] W fun e w' => e = .returned (.int .u64 (Fld.pow 37 o2 : Nat)) ∧ Below W.heap.size W w') := Lib.hid (fun W => pow_any 37 o2 W (by omega) (by omega))
  have P2 : Hid (∀ W : World, Calls Try.prog 20 #[.int .u64 37, .int .u64 (x : Int)] W fun e w' => e = .returned (.int .u64 (Fld.pow 37 x : Nat)) ∧ Below W.heap.size W w') := Lib.hid (fun W => pow_any 37 x W (by omega) (by omega))
  clear hby ep exn eo2 hnx ebb hone ha1 ha2
  go_upto_region 5 with (fail)
  have K0 := Lib.hid k4
  clear k4
  have k4 : Below w4.heap.size w4 w4 := Below.refl _ _
  have GA := G4
  have l_V := Lib.hid k4.size
  obtain ⟨w5, hw5⟩ : ∃ W, W = w4.alloc (.cells #[.int .u64 (r : Int), .int .u64 (x : Int)] 28) := ⟨_, rfl⟩
  have G5' := G4.out.new (.cells #[.int .u64 (r : Int), .int .u64 (x : Int)] 28)
  have V5' : In2 (w4.alloc (.cells #[.int .u64 (r : Int), .int .u64 (x : Int)] 28)) w4.heap.size r x := in2_new w4 r x
  have k5' := kept_trans k4 ((Below.refl _ w4).alloc (Nat.le_refl _) (.cells #[.int .u64 (r : Int), .int .u64 (x : Int)] 28))
  rw [← hw5] at G5' V5' k5'
  have G5 := Lib.hid G5'
  have V5 := Lib.hid V5'
  have k5 := k5'
  rw [← hw5]
  clear hw5 k4 G5' V5' k5' G4
  obtain ⟨y_V0, y_V1⟩ := V5.out.cells
  go_upto_region 6 with (fail)
  clear y_V0 y_V1 
  have l_T := Lib.hid k5.size
  have lt_V_T := Lib.hid V5.out.1
  obtain ⟨w6, hw6⟩ : ∃ W, W = w5.alloc (.cells #[.int .u64 (r : Int), .int .u64 (x : Int)] 28) := ⟨_, rfl⟩
  have G6' := G5.out.new (.cells #[.int .u64 (r : Int), .int .u64 (x : Int)] 28)
  have V6' := V5.out.new (.cells #[.int .u64 (r : Int), .int .u64 (x : Int)] 28)
  have T6' : In2 (w5.alloc (.cells #[.int .u64 (r : Int), .int .u64 (x : Int)] 28)) w5.heap.size r x := in2_new w5 r x
  have k6' := kept_trans k5 ((Below.refl _ w5).alloc (Nat.le_refl _) (.cells #[.int .u64 (r : Int), .int .u64 (x : Int)] 28))
  rw [← hw6] at G6' V6' T6' k6'
  have G6 := Lib.hid G6'
  have V6 := Lib.hid V6'
  have T6 := Lib.hid T6'
  have k6 := k6'
  rw [← hw6]
  clear hw6 k5 G6' V6' T6' k6' G5 V5
  obtain ⟨y_V0, y_V1⟩ := V6.out.cells
  obtain ⟨y_T0, y_T1⟩ := T6.out.cells
  obtain ⟨f_T0, f_T1⟩ := T6.out.free
  go_upto_region 7 with (fail)
  clear y_V0 y_V1 y_T0 y_T1 f_T0 f_T1
  obtain ⟨w7, hw7⟩ : ∃ W, W = w6.setCell ⟨w5.heap.size, 1, none⟩ (.int .u64 (xn : Int)) := ⟨_, rfl⟩
  have k7' := below_setw (i := 1) (u := (.int .u64 (xn : Int))) k6 l_T.out T6.out.1
  have G7' := GA.out.below k7'
  have V7' := V6.out.kept (R' := w5.heap.size) (i := 1) (u := (.int .u64 (xn : Int))) (by have := lt_V_T.out; omega)
  have T7' := T6.out.set1 xn
  rw [← hw7] at k7' G7' V7' T7'
  have G7 := Lib.hid G7'
  have V7 := Lib.hid V7'
  have T7 := Lib.hid T7'
  have k7 := k7'
  rw [← hw7]
  clear hw7 k6 k7' G7' V7' T7' G6 V6 T6
  obtain ⟨y_V0, y_V1⟩ := V7.out.cells
  go_upto_region 8 with (fail)
  clear y_V0 y_V1 
  have l_U := Lib.hid k7.size
  have lt_V_U := Lib.hid V7.out.1
  have lt_T_U := Lib.hid T7.out.1
  obtain ⟨w8, hw8⟩ : ∃ W, W = w7.alloc (.cells #[.int .u64 (r : Int), .int .u64 (x : Int)] 28) := ⟨_, rfl⟩
  have G8' := G7.out.new (.cells #[.int .u64 (r : Int), .int .u64 (x : Int)] 28)
  have V8' := V7.out.new (.cells #[.int .u64 (r : Int), .int .u64 (x : Int)] 28)
  have T8' := T7.out.new (.cells #[.int .u64 (r : Int), .int .u64 (x : Int)] 28)
  have U8' : In2 (w7.alloc (.cells #[.int .u64 (r : Int), .int .u64 (x : Int)] 28)) w7.heap.size r x := in2_new w7 r x
  have k8' := kept_trans k7 ((Below.refl _ w7).alloc (Nat.le_refl _) (.cells #[.int .u64 (r : Int), .int .u64 (x : Int)] 28))
  rw [← hw8] at G8' V8' T8' U8' k8'
  have G8 := Lib.hid G8'
  have V8 := Lib.hid V8'
  have T8 := Lib.hid T8'
  have U8 := Lib.hid U8'
  have k8 := k8'
  rw [← hw8]
  clear hw8 k7 G8' V8' T8' U8' k8' G7 V7 T7
  obtain ⟨y_U0, y_U1⟩ := U8.out.cells
  obtain ⟨f_U0, f_U1⟩ := U8.out.free
  go_upto_region 9 with (fail)
  clear y_U0 y_U1 f_U0 f_U1
  obtain ⟨w9, hw9⟩ : ∃ W, W = w8.setCell ⟨w7.heap.size, 1, none⟩ (.int .u64 (o2 : Int)) := ⟨_, rfl⟩
  have k9' := below_setw (i := 1) (u := (.int .u64 (o2 : Int))) k8 l_U.out U8.out.1
  have G9' := GA.out.below k9'
  have V9' := V8.out.kept (R' := w7.heap.size) (i := 1) (u := (.int .u64 (o2 : Int))) (by have := lt_V_U.out; omega)
  have T9' := T8.out.kept (R' := w7.heap.size) (i := 1) (u := (.int .u64 (o2 : Int))) (by have := lt_T_U.out; omega)
  have U9' := U8.out.set1 o2
  rw [← hw9] at k9' G9' V9' T9' U9'
  have G9 := Lib.hid G9'
  have V9 := Lib.hid V9'
  have T9 := Lib.hid T9'
  have U9 := Lib.hid U9'
  have k9 := k9'
  rw [← hw9]
  clear hw9 k8 k9' G9' V9' T9' U9' G8 V8 T8 U8
  obtain ⟨y_T0, y_T1⟩ := T9.out.cells
  go_wp2_with fail
  clear y_T0 y_T1 
  refine (C1.out _ (G9.out)).mono ?_
  rintro e w10 ⟨rfl, hb10⟩
  have k10 := kept_trans k9 hb10
  have G10 := Lib.hid (G9.out.below hb10)
  have V10 := Lib.hid (V9.out.below hb10)
  have T10 := Lib.hid (T9.out.below hb10)
  have U10 := Lib.hid (U9.out.below hb10)
  clear hb10 k9 G9 V9 T9 U9
  clear T10
  cases bb
  · clear HONE P1 P2
    go_wp2_with fail
    have q0 : w10.drew.cell? ⟨w7.heap.size, 0, none⟩ = some (.int .u64 (r : Int)) ∧ w10.drew.cell? ⟨w7.heap.size, 1, none⟩ = some (.int .u64 (o2 : Int)) := ⟨U10.out.cells.1, U10.out.cells.2⟩
    refine wp_region_held_drew (S := (fun w' : World => w'.cell? ⟨w7.heap.size, 0, none⟩ = some (.int .u64 (r : Int)) ∧ w'.cell? ⟨w7.heap.size, 1, none⟩ = some (.int .u64 (o2 : Int)))) (by kernel_rfl) q0 (fun hHeld => ?_)
    try simp only [Act.put, List.getElem_toArray, List.getElem_cons_succ, List.getElem_cons_zero, List.setIfInBounds_toArray, List.set_cons_zero, List.set_cons_succ]
    refine wpAnyH_take (i := 0) (v := ?_) rfl (by kernel_rfl) (by kernel_rfl) (by kernel_rfl) (fun _ _ _ h => h) (Or.inl ⟨by rfl, ?_⟩) (by assumption) ?_
    rotate_left
    · (intro w hSw; (try dsimp only at hSw); obtain ⟨s0, s1⟩ := hSw; go_simp; try (with_reducible rfl))
    try simp only [Act.put, List.getElem_toArray, List.getElem_cons_zero, List.setIfInBounds_toArray, List.set_cons_zero, List.set_cons_succ]
    refine wpAnyH_take (i := 1) (v := ?_) rfl (by kernel_rfl) (by kernel_rfl) (by kernel_rfl) (fun _ _ _ h => h) (Or.inl ⟨by rfl, ?_⟩) (by assumption) ?_
    rotate_left
    · (intro w hSw; (try dsimp only at hSw); obtain ⟨s0, s1⟩ := hSw; go_simp; try (with_reducible rfl))
    try simp only [Act.put, List.getElem_toArray, List.getElem_cons_succ, List.getElem_cons_zero, List.setIfInBounds_toArray, List.set_cons_zero, List.set_cons_succ]
    refine wpAnyH_take (i := 2) (v := ?_) rfl (by kernel_rfl) (by kernel_rfl) (by kernel_rfl) (fun _ _ _ h => h) (Or.inl ⟨by rfl, ?_⟩) (by assumption) ?_
    rotate_left
    · (intro w hSw; (try dsimp only at hSw); obtain ⟨s0, s1⟩ := hSw; go_simp; try (with_reducible rfl))
    try simp only [Act.put, List.getElem_toArray, List.getElem_cons_succ, List.getElem_cons_zero, List.setIfInBounds_toArray, List.set_cons_zero, List.set_cons_succ]
    refine wpAnyH_ready (rs := [3]) (by kernel_rfl) (by simp) ?_
    refine AllReadyH.cons rfl (fun K hK => ?_) AllReadyH.nil
    go_simp
    refine (C2.out _ (G10.out.below (below_to_drew (Below.refl _ _)))).mono ?_
    rintro e w11 ⟨rfl, hb11'⟩
    have hb11 := below_of_drew hb11'
    clear hb11'
    have G11 := Lib.hid (G10.out.below hb11)
    have V11 := Lib.hid (V10.out.below hb11)
    have U11 := Lib.hid (U10.out.below hb11)
    try go_simp
    have q1 : w11.cell? ⟨w7.heap.size, 0, none⟩ = some (.int .u64 (r : Int)) ∧ w11.cell? ⟨w7.heap.size, 1, none⟩ = some (.int .u64 (o2 : Int)) := ⟨U11.out.cells.1, U11.out.cells.2⟩
    refine hK.out _ _ q1 (fun hHeld1 => ?_)
    clear hK K
    try simp only [Act.put, List.getElem_toArray, List.getElem_cons_succ, List.getElem_cons_zero, List.setIfInBounds_toArray, List.set_cons_zero, List.set_cons_succ]
    refine wpAnyH_take (i := 4) (v := ?_) rfl (by kernel_rfl) (by kernel_rfl) (by kernel_rfl) (fun _ _ _ h => h) (Or.inl ⟨by rfl, ?_⟩) (by assumption) ?_
    rotate_left
    · (intro w hSw; (try dsimp only at hSw); obtain ⟨s0, s1⟩ := hSw; go_simp; try (with_reducible rfl))
    try simp only [Act.put, List.getElem_toArray, List.getElem_cons_succ, List.getElem_cons_zero, List.setIfInBounds_toArray, List.set_cons_zero, List.set_cons_succ]
    refine wpAnyH_take (i := 5) (v := ?_) rfl (by kernel_rfl) (by kernel_rfl) (by kernel_rfl) (fun _ _ _ h => h) (Or.inl ⟨by rfl, ?_⟩) (by assumption) ?_
    rotate_left
    · (intro w hSw; (try dsimp only at hSw); obtain ⟨s0, s1⟩ := hSw; go_simp; try (with_reducible rfl))
    try simp only [Act.put, List.getElem_toArray, List.getElem_cons_succ, List.getElem_cons_zero, List.setIfInBounds_toArray, List.set_cons_zero, List.set_cons_succ]
    refine wpAnyH_take (i := 6) (v := undef) rfl (by kernel_rfl) (by kernel_rfl) (by kernel_rfl) (fun _ _ _ h => h) (Or.inr ⟨by rfl, rfl⟩) (by assumption) ?_
    try simp only [Act.put, List.getElem_toArray, List.getElem_cons_succ, List.getElem_cons_zero, List.setIfInBounds_toArray, List.set_cons_zero, List.set_cons_succ]
    refine wpAnyH_take (i := 7) (v := undef) rfl (by kernel_rfl) (by kernel_rfl) (by kernel_rfl) (fun _ _ _ h => h) (Or.inr ⟨by rfl, rfl⟩) (by assumption) ?_
    try simp only [Act.put, List.getElem_toArray, List.getElem_cons_succ, List.getElem_cons_zero, List.setIfInBounds_toArray, List.set_cons_zero, List.set_cons_succ]
    refine wpAnyH_take (i := 8) (v := undef) rfl (by kernel_rfl) (by kernel_rfl) (by kernel_rfl) (fun _ _ _ h => h) (Or.inr ⟨by rfl, rfl⟩) (by assumption) ?_
    try simp only [Act.put, List.getElem_toArray, List.getElem_cons_succ, List.getElem_cons_zero, List.setIfInBounds_toArray, List.set_cons_zero, List.set_cons_succ]
    refine wpAnyH_take (i := 9) (v := undef) rfl (by kernel_rfl) (by kernel_rfl) (by kernel_rfl) (fun _ _ _ h => h) (Or.inr ⟨by rfl, rfl⟩) (by assumption) ?_
    try simp only [Act.put, List.getElem_toArray, List.getElem_cons_succ, List.getElem_cons_zero, List.setIfInBounds_toArray, List.set_cons_zero, List.set_cons_succ]
    refine wpAnyH_take (i := 10) (v := undef) rfl (by kernel_rfl) (by kernel_rfl) (by kernel_rfl) (fun _ _ _ h => h) (Or.inr ⟨by rfl, rfl⟩) (by assumption) ?_
    try simp only [Act.put, List.getElem_toArray, List.getElem_cons_succ, List.getElem_cons_zero, List.setIfInBounds_toArray, List.set_cons_zero, List.set_cons_succ]
    refine wpAnyH_take (i := 11) (v := undef) rfl (by kernel_rfl) (by kernel_rfl) (by kernel_rfl) (fun _ _ _ h => h) (Or.inr ⟨by rfl, rfl⟩) (by assumption) ?_
    try simp only [Act.put, List.getElem_toArray, List.getElem_cons_succ, List.getElem_cons_zero, List.setIfInBounds_toArray, List.set_cons_zero, List.set_cons_succ]
    refine wpAnyH_take (i := 12) (v := undef) rfl (by kernel_rfl) (by kernel_rfl) (by kernel_rfl) (fun _ _ _ h => h) (Or.inr ⟨by rfl, rfl⟩) (by assumption) ?_
    try simp only [Act.put, List.getElem_toArray, List.getElem_cons_succ, List.getElem_cons_zero, List.setIfInBounds_toArray, List.set_cons_zero, List.set_cons_succ]
    refine wpAnyH_take (i := 13) (v := ?_) rfl (by kernel_rfl) (by kernel_rfl) (by kernel_rfl) (fun _ _ _ h => h) (Or.inl ⟨by rfl, ?_⟩) (by assumption) ?_
    rotate_left
    · (intro w hSw; (try dsimp only at hSw); obtain ⟨s0, s1⟩ := hSw; go_simp; try (with_reducible rfl))
    try simp only [Act.put, List.getElem_toArray, List.getElem_cons_succ, List.getElem_cons_zero, List.setIfInBounds_toArray, List.set_cons_zero, List.set_cons_succ]
    refine wpAnyH_take (i := 14) (v := ?_) rfl (by kernel_rfl) (by kernel_rfl) (by kernel_rfl) (fun _ _ _ h => h) (Or.inl ⟨by rfl, ?_⟩) (by assumption) ?_
    rotate_left
    · (intro w hSw; (try dsimp only at hSw); obtain ⟨s0, s1⟩ := hSw; go_simp; try (with_reducible rfl))
    try simp only [Act.put, List.getElem_toArray, List.getElem_cons_succ, List.getElem_cons_zero, List.setIfInBounds_toArray, List.set_cons_zero, List.set_cons_succ]
    refine wpAnyH_ready (rs := [15]) (by kernel_rfl) (by simp) ?_
    refine AllReadyH.cons rfl (fun K hK => ?_) AllReadyH.nil
    go_simp
    refine (HL.out _).mono ?_
    rintro e w12 ⟨rfl, hb12⟩
    have G12 := Lib.hid (G11.out.below hb12)
    have V12 := Lib.hid (V11.out.below hb12)
    have U12 := Lib.hid (U11.out.below hb12)
    try go_simp
    have q2 : w12.cell? ⟨w7.heap.size, 0, none⟩ = some (.int .u64 (r : Int)) ∧ w12.cell? ⟨w7.heap.size, 1, none⟩ = some (.int .u64 (o2 : Int)) := ⟨U12.out.cells.1, U12.out.cells.2⟩
    refine hK.out _ _ q2 (fun hHeld2 => ?_)
    clear hK K
    try simp only [Act.put, List.getElem_toArray, List.getElem_cons_succ, List.getElem_cons_zero, List.setIfInBounds_toArray, List.set_cons_zero, List.set_cons_succ]
    refine wpAnyH_take (i := 16) (v := ?_) rfl (by kernel_rfl) (by kernel_rfl) (by kernel_rfl) (fun _ _ _ h => h) (Or.inl ⟨by rfl, ?_⟩) (by assumption) ?_
    rotate_left
    · (intro w hSw; (try dsimp only at hSw); obtain ⟨s0, s1⟩ := hSw; go_simp; try (with_reducible rfl))
    try simp only [Act.put, List.getElem_toArray, List.getElem_cons_succ, List.getElem_cons_zero, List.setIfInBounds_toArray, List.set_cons_zero, List.set_cons_succ]
    refine wpAnyH_take (i := 17) (v := ?_) rfl (by kernel_rfl) (by kernel_rfl) (by kernel_rfl) (fun _ _ _ h => h) (Or.inl ⟨by rfl, ?_⟩) (by assumption) ?_
    rotate_left
    · (intro w hSw; (try dsimp only at hSw); obtain ⟨s0, s1⟩ := hSw; go_simp; try (with_reducible rfl))
    try simp only [Act.put, List.getElem_toArray, List.getElem_cons_succ, List.getElem_cons_zero, List.setIfInBounds_toArray, List.set_cons_zero, List.set_cons_succ]
    refine wpAnyH_done (by kernel_rfl) ?_ _
    have k12 := (kept_trans (kept_trans k10 hb11) hb12)
    go_wp2
    go_ret
    exact ⟨rfl, kept_trans K0.out k12⟩
  · have hpe := HONE.out rfl
    obtain ⟨y, ey⟩ : ∃ y, y = Fld.pow 37 x := ⟨_, rfl⟩
    rw [← ey] at hpe P2
    rw [hpe] at P1
    clear hpe ey HONE
    go_wp2_with fail
    have q0 : w10.cell? ⟨w4.heap.size, 0, none⟩ = some (.int .u64 (r : Int)) ∧ w10.cell? ⟨w4.heap.size, 1, none⟩ = some (.int .u64 (x : Int)) ∧ w10.cell? ⟨w7.heap.size, 0, none⟩ = some (.int .u64 (r : Int)) ∧ w10.cell? ⟨w7.heap.size, 1, none⟩ = some (.int .u64 (o2 : Int)) := ⟨V10.out.cells.1, V10.out.cells.2, U10.out.cells.1, U10.out.cells.2⟩
    have q0' : w10.drew.cell? ⟨w4.heap.size, 0, none⟩ = some (.int .u64 (r : Int)) ∧ w10.drew.cell? ⟨w4.heap.size, 1, none⟩ = some (.int .u64 (x : Int)) ∧ w10.drew.cell? ⟨w7.heap.size, 0, none⟩ = some (.int .u64 (r : Int)) ∧ w10.drew.cell? ⟨w7.heap.size, 1, none⟩ = some (.int .u64 (o2 : Int)) := q0
    go_region_held3 (fun w' : World => w'.cell? ⟨w4.heap.size, 0, none⟩ = some (.int .u64 (r : Int)) ∧ w'.cell? ⟨w4.heap.size, 1, none⟩ = some (.int .u64 (x : Int)) ∧ w'.cell? ⟨w7.heap.size, 0, none⟩ = some (.int .u64 (r : Int)) ∧ w'.cell? ⟨w7.heap.size, 1, none⟩ = some (.int .u64 (o2 : Int)))
      ((first | with_reducible exact q0 | with_reducible exact q0' | with_reducible exact q1 | with_reducible exact q2 | with_reducible exact q3 | with_reducible exact q4))
      (first
        | (go_at_call 18; ((with_reducible refine (C2.out _ (G10.out.below (below_to_drew (Below.refl _ _)))).mono ?_); rintro e w11 ⟨rfl, hb11'⟩; have hb11 := below_of_drew hb11'; clear hb11'; have G11 := Lib.hid (G10.out.below hb11); have V11 := Lib.hid (V10.out.below hb11); have U11 := Lib.hid (U10.out.below hb11); have q1 : w11.cell? ⟨w4.heap.size, 0, none⟩ = some (.int .u64 (r : Int)) ∧ w11.cell? ⟨w4.heap.size, 1, none⟩ = some (.int .u64 (x : Int)) ∧ w11.cell? ⟨w7.heap.size, 0, none⟩ = some (.int .u64 (r : Int)) ∧ w11.cell? ⟨w7.heap.size, 1, none⟩ = some (.int .u64 (o2 : Int)) := ⟨V11.out.cells.1, V11.out.cells.2, U11.out.cells.1, U11.out.cells.2⟩))
        | (go_at_call 20; ((with_reducible refine (P1.out _).mono ?_); rintro e w12 ⟨rfl, hb12⟩; have G12 := Lib.hid (G11.out.below hb12); have V12 := Lib.hid (V11.out.below hb12); have U12 := Lib.hid (U11.out.below hb12); have q2 : w12.cell? ⟨w4.heap.size, 0, none⟩ = some (.int .u64 (r : Int)) ∧ w12.cell? ⟨w4.heap.size, 1, none⟩ = some (.int .u64 (x : Int)) ∧ w12.cell? ⟨w7.heap.size, 0, none⟩ = some (.int .u64 (r : Int)) ∧ w12.cell? ⟨w7.heap.size, 1, none⟩ = some (.int .u64 (o2 : Int)) := ⟨V12.out.cells.1, V12.out.cells.2, U12.out.cells.1, U12.out.cells.2⟩))
        | (go_at_call 20; ((with_reducible refine (P2.out _).mono ?_); rintro e w13 ⟨rfl, hb13⟩; have G13 := Lib.hid (G12.out.below hb13); have V13 := Lib.hid (V12.out.below hb13); have U13 := Lib.hid (U12.out.below hb13); have q3 : w13.cell? ⟨w4.heap.size, 0, none⟩ = some (.int .u64 (r : Int)) ∧ w13.cell? ⟨w4.heap.size, 1, none⟩ = some (.int .u64 (x : Int)) ∧ w13.cell? ⟨w7.heap.size, 0, none⟩ = some (.int .u64 (r : Int)) ∧ w13.cell? ⟨w7.heap.size, 1, none⟩ = some (.int .u64 (o2 : Int)) := ⟨V13.out.cells.1, V13.out.cells.2, U13.out.cells.1, U13.out.cells.2⟩))
        | (go_at_call 16; ((with_reducible refine (HL.out _).mono ?_); rintro e w14 ⟨rfl, hb14⟩; have G14 := Lib.hid (G13.out.below hb14); have V14 := Lib.hid (V13.out.below hb14); have U14 := Lib.hid (U13.out.below hb14); have q4 : w14.cell? ⟨w4.heap.size, 0, none⟩ = some (.int .u64 (r : Int)) ∧ w14.cell? ⟨w4.heap.size, 1, none⟩ = some (.int .u64 (x : Int)) ∧ w14.cell? ⟨w7.heap.size, 0, none⟩ = some (.int .u64 (r : Int)) ∧ w14.cell? ⟨w7.heap.size, 1, none⟩ = some (.int .u64 (o2 : Int)) := ⟨V14.out.cells.1, V14.out.cells.2, U14.out.cells.1, U14.out.cells.2⟩)))
    have k14 := (kept_trans (kept_trans (kept_trans (kept_trans k10 hb11) hb12) hb13) hb14)
    go_wp2
    go_ret
    exact ⟨rfl, kept_trans K0.out k14⟩

end Go.Proofs.Ytdiacpadbndncaa
