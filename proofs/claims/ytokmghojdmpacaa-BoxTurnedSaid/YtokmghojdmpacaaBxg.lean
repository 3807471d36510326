/-
  BoxMakes, BoxOther and BoxBodies: the walks, over natural numbers. No condition.
-/
import Derived.Test.YtokmghojdmpacaaBxf
namespace Go.Proofs.Ytokmghojdmpacaa
open Go.RowKit

set_option maxRecDepth 100000 in
set_option maxHeartbeats 4000000 in
theorem makes_walk (s once to v : Nat) (w : World) (hs : s < 18446744073709551616) (ho : once < 18446744073709551616) :
    Calls Try.prog 3 #[.int .u64 s, .int .u64 once, .int .u64 to, .int .u64 v] w fun e w' => e = .returned (.bool true) ∧ Below w.heap.size w w' := by
  have k0 : Below w.heap.size w w := Below.refl _ _
  go_enter Try.func3, Try.ntmps3
  go_wp2_with fail
  refine (sec_v s _ hs).mono ?_
  rintro r w1 ⟨⟨a, rfl, ha1, ha2⟩, hb1⟩
  have k1 := kept_trans k0 hb1
  clear hb1 k0
  go_wp2_with fail
  refine (sec_v once _ ho).mono ?_
  rintro r w2 ⟨⟨o, rfl, ho1, ho2⟩, hb2⟩
  have k2 := kept_trans k1 hb2
  clear hb2 k1
  go_wp2_with fail
  refine (num_v to _).mono ?_
  rintro r w3 ⟨⟨k, rfl, hk⟩, hb3⟩
  have k3 := kept_trans k2 hb3
  clear hb3 k2
  go_wp2_with fail
  refine (num_v v _).mono ?_
  rintro r w4 ⟨⟨n, rfl, hn⟩, hb4⟩
  have k4 := kept_trans k3 hb4
  clear hb4 k3
  go_wp2_with fail
  refine (pub_v a _ ha2).mono ?_
  rintro r w5 ⟨rfl, hb5⟩
  have k5 := kept_trans k4 hb5
  clear hb5 k4
  go_wp2_with fail
  refine (rpub_any a _ (by omega)).mono ?_
  rintro r w6 ⟨rfl, hb6⟩
  have k6 := kept_trans k5 hb6
  clear hb6 k5
  go_wp2_with fail
  refine (make_v k o n _ (by omega) (by omega) (by omega)).mono ?_
  rintro r w7 ⟨⟨e, b, g, rfl, hm⟩, hb7⟩
  have k7 := kept_trans k6 hb7
  clear hb7 k6
  have HM := Lib.hid hm
  clear hm
  go_wp2_with fail
  refine (rmake_is HM.out _ (by omega)).mono ?_
  rintro r w8 ⟨rfl, hb8⟩
  have k8 := kept_trans k7 hb8
  clear hb8 k7
  clear HM
  have hq1 := fun W => box_is k e b g k e b g true (Bx.alike_self _ _ _ _) W
  have hf1 := fun (W : World) (x y : Operand) => box_free .eql x y #[.int .u64 (k : Nat), .int .u64 (e : Nat), .int .u64 (b : Nat), .int .u64 (g : Nat)] #[.int .u64 (k : Nat), .int .u64 (e : Nat), .int .u64 (b : Nat), .int .u64 (g : Nat)] W
  go_wp2_with fail
  refine (make_v (Bx.pub a) o n _ (Bx.pub_w a) (by omega) (by omega)).mono ?_
  rintro r w9 ⟨⟨e2, b2, g2, rfl, hm⟩, hb9⟩
  have k9 := kept_trans k8 hb9
  clear hb9 k8
  have HM := Lib.hid hm
  clear hm hq1 hf1
  go_wp2_with fail
  refine (rmake_is HM.out _ (by omega)).mono ?_
  rintro r w10 ⟨rfl, hb10⟩
  have k10 := kept_trans k9 hb10
  clear hb10 k9
  clear HM
  have hq2 := fun W => box_is (Bx.pub a) e2 b2 g2 (Bx.pub a) e2 b2 g2 true (Bx.alike_self _ _ _ _) W
  have hf2 := fun (W : World) (x y : Operand) => box_free .eql x y #[.int .u64 (Bx.pub a : Nat), .int .u64 (e2 : Nat), .int .u64 (b2 : Nat), .int .u64 (g2 : Nat)] #[.int .u64 (Bx.pub a : Nat), .int .u64 (e2 : Nat), .int .u64 (b2 : Nat), .int .u64 (g2 : Nat)] W
  go_wp2_with fail
  refine (lives6_any _).mono ?_
  rintro r w11 ⟨rfl, hb11⟩
  have k11 := kept_trans k10 hb11
  clear hb11 k10
  go_wp2
  go_ret
  exact ⟨rfl, k11⟩

set_option maxRecDepth 100000 in
set_option maxHeartbeats 4000000 in
theorem other_walk (s t once v : Nat) (w : World) (hs : s < 18446744073709551616) (ht : t < 18446744073709551616) (ho : once < 18446744073709551616) :
    Calls Try.prog 7 #[.int .u64 s, .int .u64 t, .int .u64 once, .int .u64 v] w fun e w' => e = .returned (.bool true) ∧ Below w.heap.size w w' := by
  have k0 : Below w.heap.size w w := Below.refl _ _
  go_enter Try.func7, Try.ntmps7
  go_wp2_with fail
  refine (sec_v s _ hs).mono ?_
  rintro r w1 ⟨⟨a, rfl, ha1, ha2⟩, hb1⟩
  have k1 := kept_trans k0 hb1
  clear hb1 k0
  go_wp2_with fail
  refine (sec_v t _ ht).mono ?_
  rintro r w2 ⟨⟨c, rfl, hc1, hc2⟩, hb2⟩
  have k2 := kept_trans k1 hb2
  clear hb2 k1
  go_wp2_with fail
  refine (sec_v once _ ho).mono ?_
  rintro r w3 ⟨⟨o, rfl, ho1, ho2⟩, hb3⟩
  have k3 := kept_trans k2 hb3
  clear hb3 k2
  go_wp2_with fail
  refine (num_v v _).mono ?_
  rintro r w4 ⟨⟨n, rfl, hn⟩, hb4⟩
  have k4 := kept_trans k3 hb4
  clear hb4 k3
  go_wp2_with fail
  refine (pub_v a _ ha2).mono ?_
  rintro r w5 ⟨rfl, hb5⟩
  have k5 := kept_trans k4 hb5
  clear hb5 k4
  go_wp2_with fail
  refine (make_v (Bx.pub a) o n _ (Bx.pub_w a) (by omega) (by omega)).mono ?_
  rintro r w6 ⟨⟨e, b, g, rfl, hm⟩, hb6⟩
  have k6 := kept_trans k5 hb6
  clear hb6 k5
  have HM := Lib.hid hm
  clear hm
  have HA := Lib.hid (fun W => pub_v a W ha2)
  have HC := Lib.hid (fun W => pub_v c W hc2)
  have hpa := Bx.pub_w a
  have hpc := Bx.pub_w c
  by_cases heq : Bx.pub a = Bx.pub c
  · have HO := Lib.hid (fun W => open_mk HM.out heq W (by omega : c < 18446744073709551616) hn)
    rw [← heq] at HC
    obtain ⟨p, hp⟩ : ∃ p, p = Bx.pub a := ⟨_, rfl⟩
    rw [← hp] at HC HA HO HM hpa ⊢
    clear hp heq hpc
    go_wp2_with fail
    refine (HO.out _).mono ?_
    rintro r w7 ⟨rfl, hb7⟩
    have X7 := Lib.hid ((in4_new w6 p e b g).below hb7)
    have k7 := kept_trans k6 (Bx.below_new hb7)
    clear hb7 k6
    go_wp2_with fail
    refine (HC.out _).mono ?_
    rintro r w8 ⟨rfl, hb8⟩
    have k8 := kept_trans k7 hb8
    have X8 := Lib.hid (X7.out.below hb8)
    clear hb8 k7 X7
    go_wp2_with fail
    refine (make_is HM.out _ hpa (by omega) (by omega)).mono ?_
    rintro r w9 ⟨rfl, hb9⟩
    have k9 := kept_trans k8 hb9
    have X9 := Lib.hid (X8.out.below hb9)
    clear hb9 k8 X8
    go_wp2_with fail
    refine (HA.out _).mono ?_
    rintro r w10 ⟨rfl, hb10⟩
    have Y10 := Lib.hid ((in4_new w9 p e b g).below hb10)
    have k10 := kept_trans k9 (Bx.below_new hb10)
    have X10 := Lib.hid (X9.out.below (Bx.below_new hb10))
    clear hb10 k9 X9
    go_wp2_with fail
    refine (HC.out _).mono ?_
    rintro r w11 ⟨rfl, hb11⟩
    have k11 := kept_trans k10 hb11
    have X11 := Lib.hid (X10.out.below hb11)
    have Y11 := Lib.hid (Y10.out.below hb11)
    clear hb11 k10 X10 Y10
    obtain ⟨x0, x1, x2, x3⟩ := X11.out.at4
    obtain ⟨y0, y1, y2, y3⟩ := Y11.out.at4
    have hq1 := fun W => box_is p e b g p e b g true (Bx.alike_self _ _ _ _) W
    have hf1 := fun (W : World) (x y : Operand) => box_free .eql x y #[.int .u64 (p : Nat), .int .u64 (e : Nat), .int .u64 (b : Nat), .int .u64 (g : Nat)] #[.int .u64 (p : Nat), .int .u64 (e : Nat), .int .u64 (b : Nat), .int .u64 (g : Nat)] W
    go_wp2_with fail
    refine (lives6_any _).mono ?_
    rintro r w12 ⟨rfl, hb12⟩
    have k12 := kept_trans k11 hb12
    have X12 := Lib.hid (X11.out.below hb12)
    have Y12 := Lib.hid (Y11.out.below hb12)
    clear hb12 k11 X11 Y11 x0 x1 x2 x3 y0 y1 y2 y3
    go_wp2
    go_ret
    exact ⟨rfl, k12⟩
  · have HO := Lib.hid (fun W => open_ne c (Bx.pub a) e b g heq W (by omega))
    obtain ⟨p, hp⟩ : ∃ p, p = Bx.pub a := ⟨_, rfl⟩
    obtain ⟨p2, hp2⟩ : ∃ p2, p2 = Bx.pub c := ⟨_, rfl⟩
    rw [← hp] at HA HO HM hpa heq ⊢
    rw [← hp2] at HC hpc heq
    have hd : ((p : Int) == (p2 : Int)) = false := by rw [beq_eq_false_iff_ne]; omega
    clear hp hp2
    go_wp2_with fail
    refine (HO.out _).mono ?_
    rintro r w7 ⟨rfl, hb7⟩
    have X7 := Lib.hid ((in4_new w6 p e b g).below hb7)
    have k7 := kept_trans k6 (Bx.below_new hb7)
    clear hb7 k6
    go_wp2_with fail
    refine (HC.out _).mono ?_
    rintro r w8 ⟨rfl, hb8⟩
    have k8 := kept_trans k7 hb8
    have X8 := Lib.hid (X7.out.below hb8)
    clear hb8 k7 X7
    go_wp2_with fail
    refine (make_v p2 o n _ hpc (by omega) (by omega)).mono ?_
    rintro r w9 ⟨⟨e2, b2, g2, rfl, hm⟩, hb9⟩
    have k9 := kept_trans k8 hb9
    have X9 := Lib.hid (X8.out.below hb9)
    clear hb9 k8 X8
    have hee : e2 = e := hm.1.trans HM.out.1.symm
    subst hee
    clear hm
    go_wp2_with fail
    refine (HA.out _).mono ?_
    rintro r w10 ⟨rfl, hb10⟩
    have Y10 := Lib.hid ((in4_new w9 p2 e2 b2 g2).below hb10)
    have k10 := kept_trans k9 (Bx.below_new hb10)
    have X10 := Lib.hid (X9.out.below (Bx.below_new hb10))
    clear hb10 k9 X9
    go_wp2_with fail
    refine (HC.out _).mono ?_
    rintro r w11 ⟨rfl, hb11⟩
    have k11 := kept_trans k10 hb11
    have X11 := Lib.hid (X10.out.below hb11)
    have Y11 := Lib.hid (Y10.out.below hb11)
    clear hb11 k10 X10 Y10
    obtain ⟨x0, x1, x2, x3⟩ := X11.out.at4
    obtain ⟨y0, y1, y2, y3⟩ := Y11.out.at4
    have hq1 := fun W => box_isnt p e2 b g p2 e2 b2 g2 true (by unfold Bx.alike; rw [decide_eq_false (fun h => heq h.1)]; rfl) W
    have hf1 := fun (W : World) (x y : Operand) => box_free .neq x y #[.int .u64 (p : Nat), .int .u64 (e2 : Nat), .int .u64 (b : Nat), .int .u64 (g : Nat)] #[.int .u64 (p2 : Nat), .int .u64 (e2 : Nat), .int .u64 (b2 : Nat), .int .u64 (g2 : Nat)] W
    go_wp2_with fail
    refine (lives6_any _).mono ?_
    rintro r w12 ⟨rfl, hb12⟩
    have k12 := kept_trans k11 hb12
    have X12 := Lib.hid (X11.out.below hb12)
    have Y12 := Lib.hid (Y11.out.below hb12)
    clear hb12 k11 X11 Y11 x0 x1 x2 x3 y0 y1 y2 y3
    go_wp2
    go_ret
    exact ⟨rfl, k12⟩

set_option maxRecDepth 100000 in
set_option maxHeartbeats 4000000 in
theorem bodies_walk (s once v v2 : Nat) (w : World) (hs : s < 18446744073709551616) (ho : once < 18446744073709551616) :
    Calls Try.prog 9 #[.int .u64 s, .int .u64 once, .int .u64 v, .int .u64 v2] w fun e w' => e = .returned (.bool true) ∧ Below w.heap.size w w' := by
  have k0 : Below w.heap.size w w := Below.refl _ _
  go_enter Try.func9, Try.ntmps9
  go_wp2_with fail
  refine (sec_v s _ hs).mono ?_
  rintro r w1 ⟨⟨a, rfl, ha1, ha2⟩, hb1⟩
  have k1 := kept_trans k0 hb1
  clear hb1 k0
  go_wp2_with fail
  refine (pub_v a _ ha2).mono ?_
  rintro r w2 ⟨rfl, hb2⟩
  have k2 := kept_trans k1 hb2
  clear hb2 k1
  have hpw := Bx.pub_w a
  obtain ⟨p, hp⟩ : ∃ p, p = Bx.pub a := ⟨_, rfl⟩
  rw [← hp] at hpw ⊢
  clear hp
  go_wp2_with fail
  refine (sec_v once _ ho).mono ?_
  rintro r w3 ⟨⟨o, rfl, ho1, ho2⟩, hb3⟩
  have k3 := kept_trans k2 hb3
  clear hb3 k2
  go_wp2_with fail
  refine (num_v v _).mono ?_
  rintro r w4 ⟨⟨n, rfl, hn⟩, hb4⟩
  have k4 := kept_trans k3 hb4
  clear hb4 k3
  go_wp2_with fail
  refine (num_v v2 _).mono ?_
  rintro r w5 ⟨⟨m, rfl, hm⟩, hb5⟩
  have k5 := kept_trans k4 hb5
  clear hb5 k4
  go_wp2_with fail
  refine (make_v p o n _ hpw (by omega) (by omega)).mono ?_
  rintro r w6 ⟨⟨e, b, g, rfl, hm1⟩, hb6⟩
  have k6 := kept_trans k5 hb6
  clear hb6 k5
  have HM1 := Lib.hid hm1
  clear hm1
  go_wp2_with fail
  refine (make_v p o m _ hpw (by omega) (by omega)).mono ?_
  rintro r w7 ⟨⟨e2, b2, g2, rfl, hm2⟩, hb7⟩
  have X7 := Lib.hid ((in4_new w6 p e b g).below hb7)
  have k7 := kept_trans k6 (Bx.below_new hb7)
  clear hb7 k6
  have hee : e2 = e := hm2.1.trans HM1.out.1.symm
  subst hee
  have hl1 := HM1.out.lt
  have hl2 := hm2.lt
  have hsub : Fld.sub b b2 = Fld.sub n m := by rw [HM1.out.2.1, hm2.2.1]; exact Bx.sub_adds _ _ _
  have hbb : b = b2 ↔ n = m := by rw [HM1.out.2.1, hm2.2.1]; exact Bx.add_inj _ _ _ hn hm
  have hgg : g = g2 ↔ n = m := by rw [← hbb, HM1.out.2.2, hm2.2.2, Bx.tag_body, Bx.small hl1.2.1, Bx.small hl2.2.1]
  have HS1 := Lib.hid (fun W => (sub_any b b2 W (by omega) (by omega)).mono (R' := fun r w' => r = .returned (.int .u64 (Fld.sub n m : Nat)) ∧ Below W.heap.size W w') fun _ _ h => ⟨by rw [h.1, hsub], h.2 ▸ Below.refl _ _⟩)
  have HS2 := Lib.hid (fun W => (sub_any n m W (by omega) (by omega)).mono (R' := fun r w' => r = .returned (.int .u64 (Fld.sub n m : Nat)) ∧ Below W.heap.size W w') fun _ _ h => ⟨h.1, h.2 ▸ Below.refl _ _⟩)
  obtain ⟨z, hz⟩ : ∃ z, z = Fld.sub n m := ⟨_, rfl⟩
  rw [← hz] at HS1 HS2
  clear hm2 hl1 hl2 hsub hz HM1
  obtain ⟨x0, x1, x2, x3⟩ := (X7.out.new (.cells #[.int .u64 (p : Nat), .int .u64 (e2 : Nat), .int .u64 (b2 : Nat), .int .u64 (g2 : Nat)] 25)).at4
  go_wp2_with fail
  refine (HS1.out _).mono ?_
  rintro r w8 ⟨rfl, hb8⟩
  have Y8 := Lib.hid ((in4_new w7 p e2 b2 g2).below hb8)
  have k8 := kept_trans k7 (Bx.below_new hb8)
  have X8 := Lib.hid (X7.out.below (Bx.below_new hb8))
  clear hb8 k7 X7
  clear x0 x1 x2 x3
  obtain ⟨x0, x1, x2, x3⟩ := X8.out.at4
  obtain ⟨y0, y1, y2, y3⟩ := Y8.out.at4
  go_wp2_with fail
  refine (HS2.out _).mono ?_
  rintro r w9 ⟨rfl, hb9⟩
  have k9 := kept_trans k8 hb9
  have X9 := Lib.hid (X8.out.below hb9)
  have Y9 := Lib.hid (Y8.out.below hb9)
  clear hb9 k8 X8 Y8
  clear x0 x1 x2 x3 y0 y1 y2 y3
  by_cases h : n = m
  · obtain rfl := hbb.2 h
    obtain rfl := hgg.2 h
    subst h
    clear hbb hgg
    obtain ⟨x0, x1, x2, x3⟩ := X9.out.at4
    obtain ⟨y0, y1, y2, y3⟩ := Y9.out.at4
    have hq1 := fun W => box_is p e2 b g p e2 b g true (Bx.alike_self _ _ _ _) W
    have hf1 := fun (W : World) (x y : Operand) => box_free .eql x y #[.int .u64 (p : Nat), .int .u64 (e2 : Nat), .int .u64 (b : Nat), .int .u64 (g : Nat)] #[.int .u64 (p : Nat), .int .u64 (e2 : Nat), .int .u64 (b : Nat), .int .u64 (g : Nat)] W
    go_wp2_with fail
    refine (lives6_any _).mono ?_
    rintro r w10 ⟨rfl, hb10⟩
    have k10 := kept_trans k9 hb10
    have X10 := Lib.hid (X9.out.below hb10)
    have Y10 := Lib.hid (Y9.out.below hb10)
    clear hb10 k9 X9 Y9 x0 x1 x2 x3 y0 y1 y2 y3
    go_wp2
    go_ret
    exact ⟨rfl, k10⟩
  · have hg0 : g ≠ g2 := fun q => h (hgg.1 q)
    have d1 : ((g : Int) == (g2 : Int)) = false := by rw [beq_eq_false_iff_ne]; omega
    have d2 : ((n : Int) == (m : Int)) = false := by rw [beq_eq_false_iff_ne]; omega
    clear hbb hgg
    obtain ⟨x0, x1, x2, x3⟩ := X9.out.at4
    obtain ⟨y0, y1, y2, y3⟩ := Y9.out.at4
    have hq1 := fun W => box_is p e2 b g p e2 b2 g2 false (by unfold Bx.alike; exact decide_eq_false (fun q => hg0 q.2.2.2)) W
    have hf1 := fun (W : World) (x y : Operand) => box_free .eql x y #[.int .u64 (p : Nat), .int .u64 (e2 : Nat), .int .u64 (b : Nat), .int .u64 (g : Nat)] #[.int .u64 (p : Nat), .int .u64 (e2 : Nat), .int .u64 (b2 : Nat), .int .u64 (g2 : Nat)] W
    go_wp2_with fail
    refine (lives6_any _).mono ?_
    rintro r w10 ⟨rfl, hb10⟩
    have k10 := kept_trans k9 hb10
    have X10 := Lib.hid (X9.out.below hb10)
    have Y10 := Lib.hid (Y9.out.below hb10)
    clear hb10 k9 X9 Y9 x0 x1 x2 x3 y0 y1 y2 y3
    go_wp2
    go_ret
    exact ⟨rfl, k10⟩

end Go.Proofs.Ytokmghojdmpacaa
