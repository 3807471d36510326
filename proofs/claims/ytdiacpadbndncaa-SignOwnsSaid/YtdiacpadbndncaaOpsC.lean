/-
  The reference's sums, products and powers, and package field's Inv, answer the same natural numbers; the document's examples hold: for all numbers of 64 bits, no other condition.
-/
import Derived.Test.YtdiacpadbndncaaOpsB
import Derived.Deep.QuietTactic
import Derived.BigQuiet
namespace Go.Proofs.Ytdiacpadbndncaa
open Go.RowKit

theorem below_drewN {B : Nat} {a w : World} (h : Below B a w) (n : Nat) : Below B a (w.drewN n) := ⟨h.os, h.tape, h.output, h.size, h.block⟩

/-! ### package huddleref01 -/
theorem Fld.half_join (x y xl xh yl yh : Nat) (hx : xl = x % 4294967296) (hx' : xh = x / 4294967296) (hy : yl = y % 4294967296) (hy' : yh = y / 4294967296) :
    x * y = xl * yl + (xh * yl + xl * yh) * 4294967296 + xh * yh * 18446744073709551616 := by
  have e1 : x = xh * 4294967296 + xl := by omega
  have e2 : y = yh * 4294967296 + yl := by omega
  rw [e1, e2]
  generalize xl = p, xh = q, yl = r, yh = s
  simp only [Nat.add_mul, Nat.mul_add]
  have a1 : q * 4294967296 * (s * 4294967296) = q * s * 18446744073709551616 := by
    rw [Nat.mul_mul_mul_comm]
  have a2 : p * (s * 4294967296) = p * s * 4294967296 := by rw [Nat.mul_assoc]
  have a3 : q * 4294967296 * r = q * r * 4294967296 := by rw [Nat.mul_right_comm]
  omega

theorem Fld.half_mod (z ll mid hh : Nat) (h : z = ll + mid * 4294967296 + hh * 18446744073709551616) :
    (ll % 2305843009213693951 + mid % 536870912 * 4294967296 + mid / 536870912 + 8 * hh) % 2305843009213693951 = z % 2305843009213693951 := by
  omega

theorem Fld.prod_le (a b m n : Nat) (ha : a ≤ m) (hb : b ≤ n) : a * b ≤ m * n := Nat.mul_le_mul ha hb

set_option maxHeartbeats 800000 in
theorem rmul_quiet (a b : Nat) (w : World) :
    Calls Try.prog 35 #[.int .u64 a, .int .u64 b] w fun e w' => e = .returned (.int .u64 (Fld.mul a b : Nat)) ∧ ∃ n, w' = w.drewN n := by
  obtain ⟨x, hx⟩ : ∃ x : Nat, x = Fld.num a := ⟨_, rfl⟩
  obtain ⟨y, hy⟩ : ∃ y : Nat, y = Fld.num b := ⟨_, rfl⟩
  have hx1 : (a : Int) % 2305843009213693951 = (x : Int) := by rw [hx]; rfl
  have hy1 : (b : Int) % 2305843009213693951 = (y : Int) := by rw [hy]; rfl
  have hxl : x < 2305843009213693951 := hx ▸ Fld.num_lt a
  have hyl : y < 2305843009213693951 := hy ▸ Fld.num_lt b
  have HX := Lib.hid hx
  have HY := Lib.hid hy
  clear hx hy
  obtain ⟨xl, e1⟩ : ∃ xl : Nat, xl = x % 4294967296 := ⟨_, rfl⟩
  obtain ⟨xh, e2⟩ : ∃ xh : Nat, xh = x / 4294967296 := ⟨_, rfl⟩
  obtain ⟨yl, e3⟩ : ∃ yl : Nat, yl = y % 4294967296 := ⟨_, rfl⟩
  obtain ⟨yh, e4⟩ : ∃ yh : Nat, yh = y / 4294967296 := ⟨_, rfl⟩
  have m1 : (x : Int) % 4294967296 = (xl : Int) := by omega
  have m2 : (x : Int) / 4294967296 = (xh : Int) := by omega
  have m3 : (y : Int) % 4294967296 = (yl : Int) := by omega
  have m4 : (y : Int) / 4294967296 = (yh : Int) := by omega
  have b1 : xl ≤ 4294967295 := by omega
  have b2 : xh ≤ 536870911 := by omega
  have b3 : yl ≤ 4294967295 := by omega
  have b4 : yh ≤ 536870911 := by omega
  have HJ := Lib.hid (Fld.half_join x y xl xh yl yh e1 e2 e3 e4)
  clear e1 e2 e3 e4
  have p1 := Fld.prod_le _ _ _ _ b1 b3
  have p2 := Fld.prod_le _ _ _ _ b2 b3
  have p3 := Fld.prod_le _ _ _ _ b1 b4
  have p4 := Fld.prod_le _ _ _ _ b2 b4
  obtain ⟨ll, f1⟩ : ∃ ll : Nat, ll = xl * yl := ⟨_, rfl⟩
  obtain ⟨u, f2⟩ : ∃ u : Nat, u = xh * yl := ⟨_, rfl⟩
  obtain ⟨v, f3⟩ : ∃ v : Nat, v = xl * yh := ⟨_, rfl⟩
  obtain ⟨hh, f4⟩ : ∃ hh : Nat, hh = xh * yh := ⟨_, rfl⟩
  have HJ2 : Hid (x * y = ll + (u + v) * 4294967296 + hh * 18446744073709551616) := by rw [f1, f2, f3, f4]; exact HJ
  rw [← f1] at p1
  rw [← f2] at p2
  rw [← f3] at p3
  rw [← f4] at p4
  have g1 : IntKind.u64.wrap ((xl : Int) * (yl : Int)) = (ll : Int) := by rw [← Int.natCast_mul, ← f1, IntKind.wrap_u64]; omega
  have g2 : IntKind.u64.wrap ((xh : Int) * (yl : Int)) = (u : Int) := by rw [← Int.natCast_mul, ← f2, IntKind.wrap_u64]; omega
  have g3 : IntKind.u64.wrap ((xl : Int) * (yh : Int)) = (v : Int) := by rw [← Int.natCast_mul, ← f3, IntKind.wrap_u64]; omega
  have g4 : IntKind.u64.wrap ((xh : Int) * (yh : Int)) = (hh : Int) := by rw [← Int.natCast_mul, ← f4, IntKind.wrap_u64]; omega
  clear f1 f2 f3 f4 HJ b1 b2 b3 b4
  obtain ⟨mid, k1⟩ : ∃ mid : Nat, mid = u + v := ⟨_, rfl⟩
  have g5 : IntKind.u64.wrap ((u : Int) + (v : Int)) = (mid : Int) := by rw [IntKind.wrap_u64]; omega
  have bm : mid < 4611686018427387904 := by omega
  obtain ⟨l0, k2⟩ : ∃ l0 : Nat, l0 = ll % 2305843009213693951 := ⟨_, rfl⟩
  have g6 : (ll : Int) % 2305843009213693951 = (l0 : Int) := by omega
  obtain ⟨c, k3⟩ : ∃ c : Nat, c = mid % 536870912 := ⟨_, rfl⟩
  obtain ⟨d, k4⟩ : ∃ d : Nat, d = mid / 536870912 := ⟨_, rfl⟩
  have g7 : (mid : Int) % 536870912 = (c : Int) := by omega
  have g8 : (mid : Int) / 536870912 = (d : Int) := by omega
  have GD := Lib.hid (show IntKind.u64.wrap (d : Int) = (d : Int) by rw [IntKind.wrap_u64]; omega)
  obtain ⟨s1, k5⟩ : ∃ s1 : Nat, s1 = c * 4294967296 := ⟨_, rfl⟩
  obtain ⟨s2, k6⟩ : ∃ s2 : Nat, s2 = l0 + s1 := ⟨_, rfl⟩
  obtain ⟨s3, k7⟩ : ∃ s3 : Nat, s3 = s2 + d := ⟨_, rfl⟩
  obtain ⟨s4, k8⟩ : ∃ s4 : Nat, s4 = 8 * hh := ⟨_, rfl⟩
  obtain ⟨s5, k9⟩ : ∃ s5 : Nat, s5 = s3 + s4 := ⟨_, rfl⟩
  obtain ⟨s6, k10⟩ : ∃ s6 : Nat, s6 = s5 % 2305843009213693951 := ⟨_, rfl⟩
  have g9 : IntKind.u64.wrap ((c : Int) * 4294967296) = (s1 : Int) := by rw [IntKind.wrap_u64]; omega
  have g10 : IntKind.u64.wrap ((l0 : Int) + (s1 : Int)) = (s2 : Int) := by rw [IntKind.wrap_u64]; omega
  have g11 : IntKind.u64.wrap ((s2 : Int) + (d : Int)) = (s3 : Int) := by rw [IntKind.wrap_u64]; omega
  have g12 : IntKind.u64.wrap (8 * (hh : Int)) = (s4 : Int) := by rw [IntKind.wrap_u64]; omega
  have g13 : IntKind.u64.wrap ((s3 : Int) + (s4 : Int)) = (s5 : Int) := by rw [IntKind.wrap_u64]; omega
  have g14 : (s5 : Int) % 2305843009213693951 = (s6 : Int) := by omega
  have HF : Hid (s6 = Fld.mul a b) := by
    have e := Fld.half_mod (x * y) ll mid hh (by rw [k1]; exact HJ2)
    rw [← Fld.mul_num, ← HX.out, ← HY.out]
    show s6 = x * y % 2305843009213693951
    rw [← e, k10, k9, k8, k7, k6, k5, k4, k3, k2]
  clear HJ2 k1 k2 k3 k4 k5 k6 k7 k8 k9 k10 HX HY
  clear p1 p2 p3 p4 bm hxl hyl
  go_enter Try.func35, Try.ntmps35
  go_wp2
  go_quiet (fail)
  go_wp2
  go_quiet (fail)
  go_wp2
  go_quiet (fail)
  go_wp2
  go_quiet (fail)
  go_wp2
  go_ret
  refine ⟨ret_u64 ?_, ?_⟩
  · rw [← HF.out, GD.out, g11, g13, Int.tmod_eq_emod_of_nonneg (Int.natCast_nonneg _), g14]
  · simp only [World.drewN_drewN]; exact ⟨_, rfl⟩

theorem rmul_any (a b : Nat) (w : World) :
    Calls Try.prog 35 #[.int .u64 a, .int .u64 b] w fun e w' => e = .returned (.int .u64 (Fld.mul a b : Nat)) ∧ Below w.heap.size w w' :=
  (rmul_quiet a b w).mono fun _ _ ⟨he, n, hw⟩ => ⟨he, by rw [hw]; exact below_drewN (Below.refl _ _) n⟩

theorem radd_any (a b : Nat) (w : World) :
    Calls Try.prog 55 #[.int .u64 a, .int .u64 b] w fun e w' => e = .returned (.int .u64 (Fld.add a b : Nat)) ∧ w = w' := by
  have ha := Fld.num_lt a
  have hb := Fld.num_lt b
  have hs := Fld.add_eq a b
  obtain ⟨x, hx⟩ : ∃ x : Nat, x = Fld.num a := ⟨_, rfl⟩
  obtain ⟨y, hy⟩ : ∃ y : Nat, y = Fld.num b := ⟨_, rfl⟩
  have hx1 : (a : Int) % 2305843009213693951 = (x : Int) := by rw [hx]; rfl
  have hy1 : (b : Int) % 2305843009213693951 = (y : Int) := by rw [hy]; rfl
  rw [← hx] at ha hs
  rw [← hy] at hb hs
  rw [← hs]
  clear hx hy hs
  go_enter Try.func55, Try.ntmps55
  go_wp2
  go_ret
  refine ⟨ret_u64 ?_, rfl⟩
  show _ = (((x + y) % 2305843009213693951 : Nat) : Int)
  omega

/-- What the loop of the reference's power keeps: power, base, exponent left. -/
def PowInv (a n o b k : Nat) : Prop := o < 2305843009213693951 ∧ b < 2305843009213693951 ∧ o * b ^ k % Fld.P = Fld.pow a n

theorem PowInv.odd {a n o b k : Nat} (h : PowInv a n o b k) (hk : k % 2 = 1) : PowInv a n (Fld.mul o b) (Fld.mul b b) (k / 2) :=
  ⟨Fld.mul_lt _ _, Fld.mul_lt _ _, (Fld.step_odd o b k hk).trans h.2.2⟩
theorem PowInv.even {a n o b k : Nat} (h : PowInv a n o b k) (hk : k % 2 = 0) : PowInv a n o (Fld.mul b b) (k / 2) :=
  ⟨h.1, Fld.mul_lt _ _, (Fld.step_even o b k hk).trans h.2.2⟩
theorem PowInv.start (a n : Nat) : PowInv a n 1 (Fld.num a) n :=
  ⟨by omega, Fld.num_lt a, by rw [Nat.one_mul]; exact (Nat.pow_mod a n Fld.P).symm⟩
theorem PowInv.done {a n o b : Nat} (h : PowInv a n o b 0) : o = Fld.pow a n := by
  have h1 := h.2.2
  rw [Nat.pow_zero, Nat.mul_one] at h1
  rw [← h1]
  exact (Nat.mod_eq_of_lt h.1).symm

set_option maxHeartbeats 400000 in
theorem rpow_any (a n : Nat) (w : World) (hn : n < 18446744073709551616) :
    Calls Try.prog 24 #[.int .u64 a, .int .u64 n] w fun e w' => e = .returned (.int .u64 (Fld.pow a n : Nat)) ∧ Below w.heap.size w w' := by
  have hst := Lib.hid (PowInv.start a n)
  obtain ⟨x, hx⟩ : ∃ x : Nat, x = Fld.num a := ⟨_, rfl⟩
  have hx1 : (a : Int) % 2305843009213693951 = (x : Int) := by rw [hx]; rfl
  rw [← hx] at hst
  clear hx
  go_enter Try.func24, Try.ntmps24
  go_wp2
  have HX1 := Lib.hid hx1
  clear hx1
  go_loopw [5, 6, 7] (fun o b k wr => ∃ o' b' k' : Nat, o = .int .u64 o' ∧ b = .int .u64 b' ∧ k = .int .u64 k' ∧ k' < 18446744073709551616 ∧ PowInv a n o' b' k' ∧ Below w.heap.size w wr)
    (fun _ _ k _ => (intOf k).toNat)
  case atStart => exact ⟨1, x, n, rfl, by rw [HX1.out], rfl, hn, hst.out, Below.refl _ _⟩
  case round =>
    obtain ⟨o, b, k, rfl, rfl, rfl, hk, hI, hB⟩ := hrel
    by_cases hz : k = 0
    · subst hz
      have HI := Lib.hid hI
      clear hI
      go_wp2
      go_ret
      exact ⟨ret_u64 (by rw [HI.out.done]), hB⟩
    · have hpos : 0 < k := Nat.pos_of_ne_zero hz
      have hdv : (k : Int) / 2 = ((k / 2 : Nat) : Int) := by omega
      by_cases h1 : k % 2 = 1
      · have HI := Lib.hid (hI.odd h1)
        have hb : (((k : Int) % 2) == 1) = true := by rw [beq_iff_eq]; omega
        obtain ⟨k2, hk2⟩ : ∃ k2 : Nat, k2 = k / 2 := ⟨_, rfl⟩
        rw [← hk2] at hdv HI
        have hlt : k2 < k := by omega
        clear hk2 h1 hI hz
        go_wp2_with fail
        refine (rmul_any _ _ _).mono ?_
        rintro e w0 ⟨rfl, hb0⟩
        go_wp2_with fail
        refine (rmul_any _ _ _).mono ?_
        rintro e w' ⟨rfl, hb1⟩
        go_wp2
        go_roundw
        case rel => exact ⟨Fld.mul o b, Fld.mul b b, k2, rfl, rfl, rfl, by omega, HI.out, hB.trans ((hb0.trans (hb1.mono hb0.size)).mono hB.size)⟩
        case measure => simp [intOf]; omega
      · have h2 : k % 2 = 0 := by omega
        have HI := Lib.hid (hI.even h2)
        have hb : (((k : Int) % 2) == 1) = false := by rw [beq_eq_false_iff_ne]; omega
        obtain ⟨k2, hk2⟩ : ∃ k2 : Nat, k2 = k / 2 := ⟨_, rfl⟩
        rw [← hk2] at hdv HI
        have hlt : k2 < k := by omega
        clear hk2 h1 h2 hI hz
        go_wp2_with (go_at_call 35; refine (rmul_any _ _ _).mono ?_; rintro e w' ⟨rfl, hb1⟩)
        go_roundw
        case rel => exact ⟨o, Fld.mul b b, k2, rfl, rfl, rfl, by omega, HI.out, hB.trans (hb1.mono hB.size)⟩
        case measure => simp [intOf]; omega

theorem Fld.pow_pw (a n : Nat) (h : n < 18446744073709551616) : Fld.pow a n = Fld.pw 64 a n := (Fld.pw_eq 64 a n h).symm

end Go.Proofs.Ytdiacpadbndncaa
