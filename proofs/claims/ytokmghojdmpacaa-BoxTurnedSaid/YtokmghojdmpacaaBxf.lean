/-
  BoxOpens, BoxGroup, BoxOther, BoxBodies and BoxMakes: the walks, over natural numbers. No condition.
-/
import Derived.Test.YtokmghojdmpacaaBxe
namespace Go.Proofs.Ytokmghojdmpacaa
open Go.RowKit

theorem pub_v (s : Nat) (w : World) (hs : s ≤ 2305843009213693949) :
    Calls Try.prog 12 #[.int .u64 s] w fun e w' => e = .returned (.int .u64 (Bx.pub s : Nat)) ∧ Below w.heap.size w w' := pub_any s w (by omega)
theorem Bx.pub_w (s : Nat) : Bx.pub s < 18446744073709551616 := Nat.lt_trans (Bx.pub_lt s) (by omega)

set_option maxRecDepth 100000 in
set_option maxHeartbeats 4000000 in
theorem opens_walk (s once other v : Nat) (w : World) (hs : s < 18446744073709551616) (ho : once < 18446744073709551616) (hq : other < 18446744073709551616) :
    Calls Try.prog 5 #[.int .u64 s, .int .u64 once, .int .u64 other, .int .u64 v] w fun e w' => e = .returned (.bool true) ∧ Below w.heap.size w w' := by
  have k0 : Below w.heap.size w w := Below.refl _ _
  go_enter Try.func5, Try.ntmps5
  go_wp2_with fail
  refine (sec_v s _ hs).mono ?_
  rintro r w1 ⟨⟨a, rfl, ha1, ha2⟩, hb1⟩
  have k1 := kept_trans k0 hb1
  clear hb1 k0
  go_wp2_with fail
  refine (num_v v _).mono ?_
  rintro r w2 ⟨⟨n, rfl, hn⟩, hb2⟩
  have k2 := kept_trans k1 hb2
  clear hb2 k1
  go_wp2_with fail
  refine (pub_v a _ ha2).mono ?_
  rintro r w3 ⟨rfl, hb3⟩
  have k3 := kept_trans k2 hb3
  clear hb3 k2
  go_wp2_with fail
  refine (sec_v once _ ho).mono ?_
  rintro r w4 ⟨⟨o, rfl, ho1, ho2⟩, hb4⟩
  have k4 := kept_trans k3 hb4
  clear hb4 k3
  go_wp2_with fail
  refine (make_v (Bx.pub a) o n _ (Bx.pub_w a) (by omega) (by omega)).mono ?_
  rintro r w5 ⟨⟨e, b, g, rfl, hm⟩, hb5⟩
  have k5 := kept_trans k4 hb5
  clear hb5 k4
  have HM := Lib.hid hm
  clear hm
  go_wp2_with fail
  refine (open_mk HM.out rfl _ (by omega) hn).mono ?_
  rintro r w6 ⟨rfl, hb6⟩
  have k6 := kept_trans k5 hb6
  clear hb6 k5
  go_wp2_with fail
  refine (pub_v a _ ha2).mono ?_
  rintro r w7 ⟨rfl, hb7⟩
  have k7 := kept_trans k6 hb7
  clear hb7 k6
  go_wp2_with fail
  refine (sec_v other _ hq).mono ?_
  rintro r w8 ⟨⟨o2, rfl, hq1, hq2⟩, hb8⟩
  have k8 := kept_trans k7 hb8
  clear hb8 k7
  go_wp2_with fail
  refine (make_v (Bx.pub a) o2 n _ (Bx.pub_w a) (by omega) (by omega)).mono ?_
  rintro r w9 ⟨⟨e2, b2, g2, rfl, hm2⟩, hb9⟩
  have k9 := kept_trans k8 hb9
  clear hb9 k8
  have HM2 := Lib.hid hm2
  clear hm2
  go_wp2_with fail
  refine (open_mk HM2.out rfl _ (by omega) hn).mono ?_
  rintro r w10 ⟨rfl, hb10⟩
  have k10 := kept_trans k9 hb10
  clear hb10 k9
  go_wp2_with fail
  refine (lives6_any _).mono ?_
  rintro r w11 ⟨rfl, hb11⟩
  have k11 := kept_trans k10 hb11
  clear hb11 k10
  go_wp2
  go_ret
  exact ⟨rfl, k11⟩

set_option maxRecDepth 100000 in
set_option maxHeartbeats 4000000 in
theorem group_walk (s t : Nat) (w : World) (hs : s < 18446744073709551616) (ht : t < 18446744073709551616) :
    Calls Try.prog 8 #[.int .u64 s, .int .u64 t] w fun e w' => e = .returned (.bool true) ∧ Below w.heap.size w w' := by
  have k0 : Below w.heap.size w w := Below.refl _ _
  go_enter Try.func8, Try.ntmps8
  go_wp2_with fail
  refine (sec_v s _ hs).mono ?_
  rintro r w1 ⟨⟨a, rfl, ha1, ha2⟩, hb1⟩
  have k1 := kept_trans k0 hb1
  clear hb1 k0
  go_wp2_with fail
  refine (sec_v t _ ht).mono ?_
  rintro r w2 ⟨⟨c, rfl, hc1, hc2⟩, hb2⟩
  have k2 := kept_trans k1 hb2
  clear hb2 k1
  go_wp2_with fail
  refine (pub_v a _ ha2).mono ?_
  rintro r w3 ⟨rfl, hb3⟩
  have k3 := kept_trans k2 hb3
  clear hb3 k2
  go_wp2_with fail
  refine (pub_v c _ hc2).mono ?_
  rintro r w4 ⟨rfl, hb4⟩
  have k4 := kept_trans k3 hb4
  clear hb4 k3
  go_wp2_with fail
  refine ((mul_any (Bx.pub a) (Bx.pub c) _ (Bx.pub_w a) (Bx.pub_w c)).mono (R' := fun r w' => r = .returned (.int .u64 (Fld.pow 37 (a + c) : Nat)) ∧ Below w4.heap.size w4 w') fun _ _ h => ⟨by rw [h.1, Bx.pub_add], h.2 ▸ Below.refl _ _⟩).mono ?_
  rintro r w5 ⟨rfl, hb5⟩
  have k5 := kept_trans k4 hb5
  clear hb5 k4
  obtain ⟨x, hx⟩ : ∃ x, x = (a + c) % 2305843009213693950 := ⟨_, rfl⟩
  have hpm := Bx.pub_mod (a + c)
  rw [← hx] at hpm
  have hpx : Fld.pow 37 x = Bx.pub x := rfl
  rw [hpx] at hpm
  rw [← hpm]
  have hx1 : ((a : Int) + (c : Int)) % 2305843009213693950 = (x : Int) := by omega
  have hxl : x ≤ 2305843009213693949 := by omega
  have hne := Bx.pub_ne x
  have hna := Bx.pub_ne a
  have h1 : Bx.pub 0 = 1 := by unfold Bx.pub Fld.pow; decide +kernel
  have HA := Lib.hid (fun W => pub_v a W ha2)
  have HX := Lib.hid (fun W => pub_v x W hxl)
  obtain ⟨p, hp⟩ : ∃ p, p = Bx.pub a := ⟨_, rfl⟩
  rw [← hp] at hna HA
  clear hpm hx hpx hp
  by_cases h0 : x = 0
  · subst h0
    rw [h1]
    clear hne HX h1
    go_wp2_with fail
    refine (lives6_any _).mono ?_
    rintro r w6 ⟨rfl, hb6⟩
    have k6 := kept_trans k5 hb6
    clear hb6 k5
    go_wp2
    go_ret
    exact ⟨rfl, k6⟩
  · have hx0 : ((x : Int) == 0) = false := by rw [beq_eq_false_iff_ne]; omega
    obtain ⟨y, hy⟩ : ∃ y, y = Bx.pub x := ⟨_, rfl⟩
    rw [← hy] at hne HX ⊢
    have hy0 : ((y : Int) != 0) = true := by rw [bne_iff_ne]; omega
    have hp0 : ((p : Int) != 0) = true := by rw [bne_iff_ne]; omega
    clear h0 h1 hne hna hy
    go_wp2_with fail
    refine (HX.out _).mono ?_
    rintro r w6 ⟨rfl, hb6⟩
    have k6 := kept_trans k5 hb6
    clear hb6 k5
    go_wp2_with fail
    refine (HA.out _).mono ?_
    rintro r w7 ⟨rfl, hb7⟩
    have k7 := kept_trans k6 hb7
    clear hb7 k6
    go_wp2_with fail
    refine (lives6_any _).mono ?_
    rintro r w8 ⟨rfl, hb8⟩
    have k8 := kept_trans k7 hb8
    clear hb8 k7
    go_wp2
    go_ret
    exact ⟨rfl, k8⟩

end Go.Proofs.Ytokmghojdmpacaa
