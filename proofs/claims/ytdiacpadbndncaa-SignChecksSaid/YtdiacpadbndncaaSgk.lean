/-
  SignKeys, SignRange and SignOne: the walks, over natural numbers and lists of bytes. No condition.
-/
import Derived.Test.YtdiacpadbndncaaSgj
namespace Go.Proofs.Ytdiacpadbndncaa
open Go.RowKit

theorem mulb_any (a b : Nat) (w : World) (ha : a < 18446744073709551616) (hb : b < 18446744073709551616) :
    Calls Try.prog 22 #[.int .u64 a, .int .u64 b] w fun e w' => e = .returned (.int .u64 (Fld.mul a b : Nat)) ∧ Below w.heap.size w w' :=
  (mul_any a b w ha hb).mono fun _ _ ⟨h, e⟩ => ⟨h, e ▸ Below.refl _ _⟩
theorem Sg.chk_off1 (t m r s : Nat) (h : 2305843009213693951 ≤ r) : Sg.chk t m r s = false := Sg.chk_not fun k => by have := k.2.2.2.1; omega
theorem Sg.chk_off2 (t m r s : Nat) (h : 2305843009213693950 ≤ s) : Sg.chk t m r s = false := Sg.chk_not fun k => by have := k.2.2.2.2; omega
theorem Sg.chk_off3 (t m r s : Nat) (h : 2305843009213693951 ≤ t) : Sg.chk t m r s = false := Sg.chk_not fun k => by have := k.2.1; omega
theorem Sg.chk_off4 (m r s : Nat) : Sg.chk 0 m r s = false := Sg.chk_not fun k => by have := k.1; omega
theorem Sg.chk_off5 (t m s : Nat) : Sg.chk t m 0 s = false := Sg.chk_not fun k => by have := k.2.2.1; omega
theorem By.next {s m r x : Nat} (h : By s m r x) : Sg.chk (Bx.pub s) m r ((x + 1) % 2305843009213693950) = false := by rw [h.1, h.2.1]; exact Sg.chk_next s m
/-- Another S that is taken is the same power. -/
theorem By.one {s m r x y : Nat} (h : By s m r x) (k : Sg.chk (Bx.pub s) m r y = true) : Fld.pow 37 y = Fld.pow 37 x :=
  Sg.ok_same (of_decide_eq_true k) (of_decide_eq_true h.chk)

set_option maxRecDepth 100000 in
set_option maxHeartbeats 4000000 in
theorem keys_walk (n m : Nat) (w : World) :
    Calls Try.prog 8 #[.int .u64 n, .int .u64 m] w fun e w' => e = .returned (.bool true) ∧ Below w.heap.size w w' := by
  have k0 : Below w.heap.size w w := Below.refl _ _
  go_enter Try.func8, Try.ntmps8
  go_wp2_with fail
  refine (sec8_v n _).mono ?_
  rintro e w1 ⟨⟨a, ha1, ha2, rfl⟩, hb1⟩
  have k1 := kept_trans k0 hb1
  clear hb1 k0
  go_wp2_with fail
  refine (sec8_v m _).mono ?_
  rintro e w2 ⟨⟨b, hc1, hc2, rfl⟩, hb2⟩
  have k2 := kept_trans k1 hb2
  clear hb2 k1
  have HP := Lib.hid (fun W : World => spub_any a W (by omega))
  have HQ := Lib.hid (fun W : World => spub_any b W (by omega))
  have HB := Lib.hid (fun W : World => pub_any a W (by omega))
  have hp := Bx.pub_lt a
  have hq := Bx.pub_lt b
  have hp0 : 0 < Bx.pub a := Nat.pos_of_ne_zero (Bx.pub_ne a)
  have hmul : Fld.mul (Bx.pub a) (Bx.pub b) = Bx.pub ((a + b) % 2305843009213693950) := (Bx.pub_add a b).trans (Bx.pub_mod (a + b)).symm
  have HM := Lib.hid (fun W : World => mulb_any (Bx.pub a) (Bx.pub b) W (by omega) (by omega))
  rw [hmul] at HM
  obtain ⟨z, hz⟩ : ∃ z, z = (a + b) % 2305843009213693950 := ⟨_, rfl⟩
  have hzi : ((a : Int) + (b : Int)) % 2305843009213693950 = (z : Int) := by omega
  have hzl : z < 2305843009213693950 := by omega
  rw [← hz] at HM
  have HZ := Lib.hid (fun W : World => spub_any z W (by omega))
  obtain ⟨p, ep⟩ : ∃ p, p = Bx.pub a := ⟨_, rfl⟩
  obtain ⟨q, eq⟩ : ∃ q, q = Bx.pub b := ⟨_, rfl⟩
  obtain ⟨y, ey⟩ : ∃ y, y = Bx.pub z := ⟨_, rfl⟩
  rw [← ep] at HP HB HM hp hp0
  rw [← eq] at HQ HM hq
  rw [← ey] at HZ HM
  have HL := Lib.hid lives8_any
  clear hz ep eq ey hmul
  go_wp2_with fail
  refine (HP.out _).mono ?_
  rintro e w3 ⟨rfl, hb3⟩
  have k3 := kept_trans k2 hb3
  clear hb3 k2
  go_wp2_with fail
  refine (HB.out _).mono ?_
  rintro e w4 ⟨rfl, hb4⟩
  have k4 := kept_trans k3 hb4
  clear hb4 k3
  go_wp2_with fail
  refine (HP.out _).mono ?_
  rintro e w5 ⟨rfl, hb5⟩
  have k5 := kept_trans k4 hb5
  clear hb5 k4
  by_cases hz0 : z = 0
  · subst hz0
    go_wp2_with fail
    refine (HL.out _).mono ?_
    rintro e w6 ⟨rfl, hb6⟩
    have k6 := kept_trans k5 hb6
    clear hb6 k5
    go_wp2
    go_ret
    exact ⟨rfl, k6⟩
  · have hz1 : 0 < z := by omega
    clear hz0
    go_wp2_with fail
    refine (HZ.out _).mono ?_
    rintro e w6 ⟨rfl, hb6⟩
    have k6 := kept_trans k5 hb6
    clear hb6 k5
    go_wp2_with fail
    refine (HP.out _).mono ?_
    rintro e w7 ⟨rfl, hb7⟩
    have k7 := kept_trans k6 hb7
    clear hb7 k6
    go_wp2_with fail
    refine (HQ.out _).mono ?_
    rintro e w8 ⟨rfl, hb8⟩
    have k8 := kept_trans k7 hb8
    clear hb8 k7
    go_wp2_with fail
    refine (HM.out _).mono ?_
    rintro e w9 ⟨rfl, hb9⟩
    have k9 := kept_trans k8 hb9
    clear hb9 k8
    go_wp2_with fail
    refine (HL.out _).mono ?_
    rintro e w10 ⟨rfl, hb10⟩
    have k10 := kept_trans k9 hb10
    clear hb10 k9
    go_wp2
    go_ret
    exact ⟨rfl, k10⟩

end Go.Proofs.Ytdiacpadbndncaa
