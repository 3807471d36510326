/-
  THE SEVEN LAWS OF LAYER 1 (field), WALKED: each returns true for all numbers of 64 bits, and leaves the memory that was there as it was. No condition.
-/
import Derived.Test.YtcnlfhhdcfmpfaaOpsC
namespace Go.Proofs.Ytcnlfhhdcfmpfaa
open Go.RowKit

/-! ### what the laws ask, as natural numbers -/
namespace Fld
theorem add_lt_w (a b : Nat) : add a b < 18446744073709551616 := by have := add_lt a b; omega
theorem sub_lt_w (a b : Nat) : sub a b < 18446744073709551616 := by have := sub_lt a b; omega
theorem mul_lt_w (a b : Nat) : mul a b < 18446744073709551616 := by have := mul_lt a b; omega
theorem pow_lt_w (a b : Nat) : pow a b < 18446744073709551616 := by have := pow_lt a b; omega
theorem add_comm (a b : Nat) : add a b = add b a := by unfold add; rw [Nat.add_comm]
theorem mul_comm (a b : Nat) : mul a b = mul b a := by unfold mul; rw [Nat.mul_comm]
theorem add_assoc (a b c : Nat) : add (add a b) c = add a (add b c) := by unfold add; simp [Nat.add_assoc]
theorem mul_assoc (a b c : Nat) : mul (mul a b) c = mul a (mul b c) := by
  unfold mul
  rw [Nat.mul_mod, Nat.mod_mod, ← Nat.mul_mod, Nat.mul_mod a, Nat.mod_mod, ← Nat.mul_mod, Nat.mul_assoc]
theorem mul_add (a b c : Nat) : mul a (add b c) = add (mul a b) (mul a c) := by
  unfold mul add
  rw [Nat.mul_mod, Nat.mod_mod, ← Nat.mul_mod, Nat.mul_add, Nat.add_mod]
theorem add_zero (a : Nat) : add a 0 = num a := rfl
theorem mul_one (a : Nat) : mul a 1 = num a := by unfold mul; rw [Nat.mul_one]; rfl
theorem one_mul (a : Nat) : mul 1 a = num a := by rw [mul_comm, mul_one]
theorem pow_succ (a k : Nat) : mul (pow a k) a = pow a (k + 1) := by
  unfold mul pow
  rw [Nat.pow_succ, Nat.mul_mod, Nat.mod_mod, ← Nat.mul_mod]
theorem sub_add (a b : Nat) : sub (add a b) b = num a := by
  unfold sub add num
  have h : P = 2305843009213693951 := rfl
  rw [h]
  omega
theorem add_neg (a : Nat) : add a (sub 0 a) = 0 := by
  unfold sub add
  have h : P = 2305843009213693951 := rfl
  rw [h]
  omega
theorem pow_zero' (a n : Nat) (h : num a = 0) (hn : n ≠ 0) : pow a n = 0 := zero_pow a n h hn
theorem pow_fermat (a n : Nat) (h : num a ≠ 0) (hn : n = N) : pow a n = 1 := hn ▸ fermat a h
theorem pow_fermat' (a n : Nat) (hn : n = P) : pow a n = num a := hn ▸ fermat' a
theorem inv_zero (a : Nat) (h : num a = 0) : pow a 2305843009213693949 = 0 := pow_zero' a _ h (by omega)
theorem mul_zero_left (a b : Nat) (h : num a = 0) : mul a b = 0 := (mul_zero_iff a b).2 (.inl h)
theorem mul_zero_right (a b : Nat) (h : num b = 0) : mul a b = 0 := (mul_zero_iff a b).2 (.inr h)
theorem mul_ne_zero (a b : Nat) (ha : num a ≠ 0) (hb : num b ≠ 0) : mul a b ≠ 0 := fun h => ((mul_zero_iff a b).1 h).elim ha hb
theorem pow_add (a x y : Nat) : mul (pow a x) (pow a y) = pow a (x + y) := by
  unfold mul pow
  rw [← Nat.mul_mod, ← Nat.pow_add]
theorem pow_mul (a x y : Nat) : pow (pow a x) y = pow a (x * y) := by
  unfold pow
  rw [← Nat.pow_mod, ← Nat.pow_mul]
theorem mul_pow (a b n : Nat) : pow (mul a b) n = mul (pow a n) (pow b n) := by
  unfold mul pow
  rw [← Nat.pow_mod, ← Nat.mul_mod, Nat.mul_pow]
theorem pow_N (a : Nat) (h : num a ≠ 0) : pow a 2305843009213693950 = 1 := pow_fermat a _ h rfl
theorem pow_N_zero (a : Nat) (h : num a = 0) : pow a 2305843009213693950 = 0 := pow_zero' a _ h (by omega)
theorem pow_P (a : Nat) : pow a 2305843009213693951 = num a := pow_fermat' a _ rfl
theorem pow_num_one (a : Nat) : pow a 1 = num a := by unfold pow; rw [Nat.pow_one]; rfl
theorem pow_N_add (a n : Nat) (h : num a ≠ 0) (k : Nat) : pow a (N * k + n) = pow a n :=
  one_mod a _ n (_root_.Go.Proofs.Ytcnlfhhdcfmpfaa.Fld.ones a N (fermat a h) k)
theorem pow_mod_N (a n : Nat) (h : num a ≠ 0) : pow a (n % 2305843009213693950) = pow a n := by
  have e : n = N * (n / N) + n % N := (Nat.div_add_mod n N).symm
  conv => rhs; rw [e, pow_N_add a _ h]
  rfl
theorem mul_inv (a : Nat) (h : num a ≠ 0) : mul a (pow a 2305843009213693949) = 1 := by
  rw [mul_comm, pow_succ]
  exact pow_N a h
theorem mul_num_left (a b : Nat) : mul (num a) b = mul a b := by unfold mul num; rw [Nat.mul_mod, Nat.mod_mod, ← Nat.mul_mod]
theorem mul_mul_inv (a b : Nat) (h : num a ≠ 0) : mul (mul a b) (pow a 2305843009213693949) = num b := by
  rw [mul_comm a b, mul_assoc, mul_inv a h, mul_one]
theorem inv_inv (a : Nat) (h : num a ≠ 0) : pow (pow a 2305843009213693949) 2305843009213693949 = num a := by
  rw [pow_mul, show 2305843009213693949 * 2305843009213693949 = N * 2305843009213693948 + 1 from by decide +kernel, pow_N_add a 1 h, pow_num_one]
theorem pow_half_zero : pow 0 1152921504606846975 = 0 := pow_zero' 0 _ (by decide +kernel) (by omega)
theorem pow_half_sq (a : Nat) (h : num a ≠ 0) : pow (mul a a) 1152921504606846975 = 1 := by
  rw [mul_pow, pow_add]
  exact pow_N a h
theorem pow_half (a : Nat) (h : num a ≠ 0) : pow a 1152921504606846975 = 1 ∨ pow a 1152921504606846975 = 2305843009213693950 := by
  have h1 : mul (pow a 1152921504606846975) (pow a 1152921504606846975) = 1 := by rw [pow_add]; exact pow_N a h
  have h2 := root_of_one _ h1
  have h3 : pow a 1152921504606846975 % P = pow a 1152921504606846975 := Nat.mod_eq_of_lt (pow_lt _ _)
  rw [h3] at h2
  exact h2
theorem root_sq (a : Nat) : mul (pow a 576460752303423488) (pow a 576460752303423488) = mul (pow a 1152921504606846975) a := by
  rw [pow_add, pow_succ]
theorem root_one_sq (a : Nat) (h : pow a 1152921504606846975 = 1) : mul (pow a 576460752303423488) (pow a 576460752303423488) = num a := by
  rw [root_sq, h, mul_comm, mul_one]
theorem neg_mul (a : Nat) : mul 2305843009213693950 a = sub 0 a := by
  have h1 : add a (mul 2305843009213693950 a) = 0 := by
    have e : a = mul a 1 + P * (a / P) := by rw [mul_one]; exact (Nat.mod_add_div a P).symm
    unfold add mul
    rw [Nat.add_mod, Nat.mod_mod, ← Nat.add_mod, show a + 2305843009213693950 * a = P * a by rw [show P = 2305843009213693950 + 1 from rfl, Nat.add_mul]; omega]
    exact Nat.mul_mod_right _ _
  have h2 := sub_add (mul 2305843009213693950 a) a
  rw [add_comm, h1] at h2
  rw [h2]
  exact (Nat.mod_eq_of_lt (mul_lt _ _)).symm
theorem root_neg_sq (a : Nat) (h : pow a 1152921504606846975 = 2305843009213693950) : mul (pow a 576460752303423488) (pow a 576460752303423488) = sub 0 a := by
  rw [root_sq, h, neg_mul]
theorem neg_ne (a : Nat) (h : num a ≠ 0) : ((sub 0 a : Nat) == (num a : Int)) = false := by
  rw [beq_eq_false_iff_ne]
  have h1 : sub 0 a = 2305843009213693951 - num a := by
    unfold sub num at *
    have hP : P = 2305843009213693951 := rfl
    rw [hP] at h ⊢
    omega
  have h2 := num_lt a
  omega
theorem cast_N : ((2305843009213693950 : Nat) : Int) = 2305843009213693950 := rfl
end Fld

/-! ### contracts at numerals -/
theorem kept_trans {a b c : World} (h : Below a.heap.size a b) (k : Below b.heap.size b c) : Below a.heap.size a c := h.trans (k.mono h.size)

theorem rsub_lit (a b : Nat) (x y : Int) (hx : x = (a : Int)) (hy : y = (b : Int)) (w : World) :
    Calls Try.prog 16 #[.int .u64 x, .int .u64 y] w fun e w' => e = .returned (.int .u64 (Fld.sub a b : Nat)) ∧ w = w' := by
  subst hx hy; exact rsub_any a b w
theorem add_lit (a b : Nat) (x y : Int) (hx : x = (a : Int)) (hy : y = (b : Int)) (w : World) (ha : a < 18446744073709551616) (hb : b < 18446744073709551616) :
    Calls Try.prog 13 #[.int .u64 x, .int .u64 y] w fun e w' => e = .returned (.int .u64 (Fld.add a b : Nat)) ∧ w = w' := by
  subst hx hy; exact add_any a b w ha hb
theorem mul_lit (a b : Nat) (x y : Int) (hx : x = (a : Int)) (hy : y = (b : Int)) (w : World) (ha : a < 18446744073709551616) (hb : b < 18446744073709551616) :
    Calls Try.prog 18 #[.int .u64 x, .int .u64 y] w fun e w' => e = .returned (.int .u64 (Fld.mul a b : Nat)) ∧ w = w' := by
  subst hx hy; exact mul_any a b w ha hb
theorem pow_lit (a v : Nat) (z : Int) (hz : z = (v : Int)) (w : World) (ha : a < 18446744073709551616) (hv : v < 18446744073709551616) :
    Calls Try.prog 23 #[.int .u64 a, .int .u64 z] w fun e w' => e = .returned (.int .u64 (Fld.pow a v : Nat)) ∧ Below w.heap.size w w' := by
  subst hz; exact pow_any a v w ha hv
theorem pow_lit2 (a v : Nat) (x z : Int) (hx : x = (a : Int)) (hz : z = (v : Int)) (w : World) (ha : a < 18446744073709551616) (hv : v < 18446744073709551616) :
    Calls Try.prog 23 #[.int .u64 x, .int .u64 z] w fun e w' => e = .returned (.int .u64 (Fld.pow a v : Nat)) ∧ Below w.heap.size w w' := by
  subst hx hz; exact pow_any a v w ha hv
theorem pow_half0 (w : World) :
    Calls Try.prog 23 #[.int .u64 0, .int .u64 1152921504606846975] w fun e w' => e = .returned (.int .u64 0) ∧ Below w.heap.size w w' := by
  have h := pow_lit2 0 1152921504606846975 0 1152921504606846975 rfl rfl w (by omega) (by omega)
  rw [Fld.pow_half_zero, Int.natCast_zero] at h
  exact h
theorem pow_sum (a x y : Nat) (w : World) (ha : a < 18446744073709551616) (hx : x ≤ 4294967295) (hy : y ≤ 4294967295) :
    Calls Try.prog 23 #[.int .u64 a, .int .u64 ((x : Int) + (y : Int))] w fun e w' => e = .returned (.int .u64 (Fld.pow a (x + y) : Nat)) ∧ Below w.heap.size w w' := by
  have h := pow_any a (x + y) w ha (by omega)
  rw [Int.natCast_add] at h
  exact h

set_option maxHeartbeats 1000000 in
theorem tells_walk (a b : Nat) (ha : a < 18446744073709551616) (hb : b < 18446744073709551616) (w : World) :
    Calls Try.prog 3 #[.int .u64 a, .int .u64 b] w fun e w' => e = .returned (.bool true) ∧ Below w.heap.size w w' := by
  have c1 := ok_any a w
  have hd : decide ((a : Int) < 2305843009213693951) = decide (a < 2305843009213693951) := by
    by_cases h : a < 2305843009213693951
    · rw [decide_eq_true h, decide_eq_true (by omega)]
    · rw [decide_eq_false h, decide_eq_false (by omega)]
  obtain ⟨t, ht⟩ : ∃ t, t = decide (a < 2305843009213693951) := ⟨_, rfl⟩
  rw [← ht] at c1 hd
  clear ht
  go_enter Try.func3, Try.ntmps3
  go_wp2_with fail
  refine (c1).mono ?_
  rintro e w' ⟨rfl, rfl⟩
  go_wp2_with fail
  refine (num_any a _ ha).mono ?_
  rintro e w' ⟨rfl, rfl⟩
  go_wp2_with fail
  refine (rnum_any a _).mono ?_
  rintro e w' ⟨rfl, rfl⟩
  go_wp2_with fail
  refine (add_any a b _ ha hb).mono ?_
  rintro e w' ⟨rfl, rfl⟩
  go_wp2_with fail
  refine (radd_any a b _).mono ?_
  rintro e w' ⟨rfl, rfl⟩
  go_wp2_with fail
  refine (sub_any a b _ ha hb).mono ?_
  rintro e w' ⟨rfl, rfl⟩
  go_wp2_with fail
  refine (rsub_any a b _).mono ?_
  rintro e w' ⟨rfl, rfl⟩
  go_wp2_with fail
  refine (neg_any a _ ha).mono ?_
  rintro e w' ⟨rfl, rfl⟩
  go_wp2_with fail
  refine (rsub_lit 0 a _ _ rfl rfl _).mono ?_
  rintro e w' ⟨rfl, rfl⟩
  go_wp2_with fail
  refine (mul_any a b _ ha hb).mono ?_
  rintro e w' ⟨rfl, rfl⟩
  go_wp2_with fail
  refine (rmul_any a b _).mono ?_
  rintro e w1 ⟨rfl, h1⟩
  go_wp2_with fail
  refine (inv_any a _ ha).mono ?_
  rintro e w2 ⟨rfl, h2⟩
  have g2 := kept_trans h1 h2
  clear h1 h2
  go_wp2_with fail
  refine (rinv_any a _).mono ?_
  rintro e w3 ⟨rfl, h3⟩
  have g3 := kept_trans g2 h3
  clear g2 h3
  go_wp2_with fail
  refine (lives_any _).mono ?_
  rintro e w4 ⟨rfl, h4⟩
  have g4 := kept_trans g3 h4
  clear g3 h4
  go_wp2
  go_ret
  exact ⟨rfl, g4⟩

set_option maxHeartbeats 1000000 in
theorem powers_walk (a n : Nat) (ha : a < 18446744073709551616) (hn : n < 18446744073709551616) (w : World) :
    Calls Try.prog 4 #[.int .u64 a, .int .u64 n] w fun e w' => e = .returned (.bool true) ∧ Below w.heap.size w w' := by
  go_enter Try.func4, Try.ntmps4
  go_wp2
  go_loopw [5, 6] (fun b k wr => ∃ k' : Nat, b = .int .u64 (Fld.pow a k' : Nat) ∧ k = .int .u64 k' ∧ k' ≤ 40 ∧ Below w.heap.size w wr)
    (fun _ k _ => 40 - (intOf k).toNat)
  case atStart => exact ⟨0, rfl, rfl, by omega, Below.refl _ _⟩
  case round =>
    obtain ⟨k, rfl, rfl, hk, hB⟩ := hrel
    by_cases hlt : k < 40
    · go_wp2_with fail
      refine (pow_any a k _ ha (by omega)).mono ?_
      rintro e w1 ⟨rfl, h1⟩
      go_wp2_with fail
      refine (rmul_any (Fld.pow a k) a _).mono ?_
      rintro e w2 ⟨rfl, h2⟩
      rw [Fld.pow_succ a k]
      go_wp2
      go_roundw
      case rel => exact ⟨k + 1, rfl, by go_num, by omega, hB.trans ((kept_trans h1 h2).mono hB.size)⟩
      case measure => simp [intOf]; omega
    · have hge : 40 ≤ k := by omega
      clear hlt
      go_wp2_with fail
      refine (pow_any a n _ ha hn).mono ?_
      rintro e w1 ⟨rfl, h1⟩
      go_wp2_with fail
      refine (rpow_any a n _ hn).mono ?_
      rintro e w2 ⟨rfl, h2⟩
      have g2 := kept_trans h1 h2
      clear h1 h2
      go_wp2_with fail
      refine (lives_any _).mono ?_
      rintro e w3 ⟨rfl, h3⟩
      have g3 := kept_trans g2 h3
      clear g2 h3
      go_wp2
      go_ret
      exact ⟨rfl, hB.trans (g3.mono hB.size)⟩

set_option maxHeartbeats 1000000 in
theorem ring_walk (a b c : Nat) (ha : a < 18446744073709551616) (hb : b < 18446744073709551616) (hc : c < 18446744073709551616) (w : World) :
    Calls Try.prog 5 #[.int .u64 a, .int .u64 b, .int .u64 c] w fun e w' => e = .returned (.bool true) ∧ Below w.heap.size w w' := by
  go_enter Try.func5, Try.ntmps5
  go_wp2_with fail
  refine (add_any a b _ ha hb).mono ?_
  rintro e w' ⟨rfl, rfl⟩
  go_wp2_with fail
  refine (add_any b a _ hb ha).mono ?_
  rintro e w' ⟨rfl, rfl⟩
  rw [Fld.add_comm b a]
  go_wp2_with fail
  refine (mul_any a b _ ha hb).mono ?_
  rintro e w' ⟨rfl, rfl⟩
  go_wp2_with fail
  refine (mul_any b a _ hb ha).mono ?_
  rintro e w' ⟨rfl, rfl⟩
  rw [Fld.mul_comm b a]
  go_wp2_with fail
  refine (add_any a b _ ha hb).mono ?_
  rintro e w' ⟨rfl, rfl⟩
  go_wp2_with fail
  refine (add_any _ c _ (Fld.add_lt_w _ _) hc).mono ?_
  rintro e w' ⟨rfl, rfl⟩
  go_wp2_with fail
  refine (add_any b c _ hb hc).mono ?_
  rintro e w' ⟨rfl, rfl⟩
  go_wp2_with fail
  refine (add_any a _ _ ha (Fld.add_lt_w _ _)).mono ?_
  rintro e w' ⟨rfl, rfl⟩
  rw [← Fld.add_assoc a b c]
  go_wp2_with fail
  refine (mul_any a b _ ha hb).mono ?_
  rintro e w' ⟨rfl, rfl⟩
  go_wp2_with fail
  refine (mul_any _ c _ (Fld.mul_lt_w _ _) hc).mono ?_
  rintro e w' ⟨rfl, rfl⟩
  go_wp2_with fail
  refine (mul_any b c _ hb hc).mono ?_
  rintro e w' ⟨rfl, rfl⟩
  go_wp2_with fail
  refine (mul_any a _ _ ha (Fld.mul_lt_w _ _)).mono ?_
  rintro e w' ⟨rfl, rfl⟩
  rw [← Fld.mul_assoc a b c]
  go_wp2_with fail
  refine (add_any b c _ hb hc).mono ?_
  rintro e w' ⟨rfl, rfl⟩
  go_wp2_with fail
  refine (mul_any a _ _ ha (Fld.add_lt_w _ _)).mono ?_
  rintro e w' ⟨rfl, rfl⟩
  go_wp2_with fail
  refine (mul_any a b _ ha hb).mono ?_
  rintro e w' ⟨rfl, rfl⟩
  go_wp2_with fail
  refine (mul_any a c _ ha hc).mono ?_
  rintro e w' ⟨rfl, rfl⟩
  go_wp2_with fail
  refine (add_any _ _ _ (Fld.mul_lt_w _ _) (Fld.mul_lt_w _ _)).mono ?_
  rintro e w' ⟨rfl, rfl⟩
  rw [← Fld.mul_add a b c]
  go_wp2_with fail
  refine (add_lit a 0 _ _ rfl rfl _ ha (by omega)).mono ?_
  rintro e w' ⟨rfl, rfl⟩
  rw [Fld.add_zero a]
  go_wp2_with fail
  refine (num_any a _ ha).mono ?_
  rintro e w' ⟨rfl, rfl⟩
  go_wp2_with fail
  refine (mul_lit a 1 _ _ rfl rfl _ ha (by omega)).mono ?_
  rintro e w' ⟨rfl, rfl⟩
  rw [Fld.mul_one a]
  go_wp2_with fail
  refine (num_any a _ ha).mono ?_
  rintro e w' ⟨rfl, rfl⟩
  go_wp2_with fail
  refine (lives_any _).mono ?_
  rintro e w1 ⟨rfl, h1⟩
  go_wp2
  go_ret
  exact ⟨rfl, h1⟩

set_option maxHeartbeats 1000000 in
theorem back_walk (a b : Nat) (ha : a < 18446744073709551616) (hb : b < 18446744073709551616) (w : World) :
    Calls Try.prog 6 #[.int .u64 a, .int .u64 b] w fun e w' => e = .returned (.bool true) ∧ Below w.heap.size w w' := by
  by_cases hz : Fld.num a = 0
  · have HZ := Lib.hid hz
    have HI := Lib.hid (Fld.inv_zero a hz)
    have HM := Lib.hid (Fld.mul_zero_left a b hz)
    clear hz
    go_enter Try.func6, Try.ntmps6
    go_wp2_with fail
    refine (add_any a b _ ha hb).mono ?_
    rintro e w' ⟨rfl, rfl⟩
    go_wp2_with fail
    refine (sub_any _ b _ (Fld.add_lt_w _ _) hb).mono ?_
    rintro e w' ⟨rfl, rfl⟩
    rw [Fld.sub_add a b]
    go_wp2_with fail
    refine (num_any a _ ha).mono ?_
    rintro e w' ⟨rfl, rfl⟩
    go_wp2_with fail
    refine (neg_any a _ ha).mono ?_
    rintro e w' ⟨rfl, rfl⟩
    go_wp2_with fail
    refine (add_any a _ _ ha (Fld.sub_lt_w _ _)).mono ?_
    rintro e w' ⟨rfl, rfl⟩
    rw [Fld.add_neg a, Int.natCast_zero]
    go_wp2_with fail
    refine (num_any a _ ha).mono ?_
    rintro e w' ⟨rfl, rfl⟩
    rw [HZ.out, Int.natCast_zero]
    go_wp2_with fail
    refine (inv_any a _ ha).mono ?_
    rintro e w1 ⟨rfl, h1⟩
    rw [HI.out, Int.natCast_zero]
    go_wp2_with fail
    refine (mul_any a b _ ha hb).mono ?_
    rintro e w' ⟨rfl, rfl⟩
    rw [HM.out, Int.natCast_zero]
    go_wp2_with fail
    refine (lives_any _).mono ?_
    rintro e w2 ⟨rfl, h2⟩
    have g2 := kept_trans h1 h2
    clear h1 h2
    go_wp2
    go_ret
    exact ⟨rfl, g2⟩
  · have hp : 0 < Fld.num a := Nat.pos_of_ne_zero hz
    have H1 := Lib.hid (Fld.mul_inv a hz)
    have H2 := Lib.hid (Fld.mul_mul_inv a b hz)
    have H3 := Lib.hid (Fld.inv_inv a hz)
    by_cases hy : Fld.num b = 0
    · have HM := Lib.hid (Fld.mul_zero_right a b hy)
      have HY := Lib.hid hy
      clear hz hy
      go_enter Try.func6, Try.ntmps6
      go_wp2_with fail
      refine (add_any a b _ ha hb).mono ?_
      rintro e w' ⟨rfl, rfl⟩
      go_wp2_with fail
      refine (sub_any _ b _ (Fld.add_lt_w _ _) hb).mono ?_
      rintro e w' ⟨rfl, rfl⟩
      rw [Fld.sub_add a b]
      go_wp2_with fail
      refine (num_any a _ ha).mono ?_
      rintro e w' ⟨rfl, rfl⟩
      go_wp2_with fail
      refine (neg_any a _ ha).mono ?_
      rintro e w' ⟨rfl, rfl⟩
      go_wp2_with fail
      refine (add_any a _ _ ha (Fld.sub_lt_w _ _)).mono ?_
      rintro e w' ⟨rfl, rfl⟩
      rw [Fld.add_neg a, Int.natCast_zero]
      go_wp2_with fail
      refine (num_any a _ ha).mono ?_
      rintro e w' ⟨rfl, rfl⟩
      go_wp2_with fail
      refine (inv_any a _ ha).mono ?_
      rintro e w1 ⟨rfl, h1⟩
      go_wp2_with fail
      refine (mul_any a _ _ ha (Fld.pow_lt_w _ _)).mono ?_
      rintro e w' ⟨rfl, rfl⟩
      rw [H1.out, Int.natCast_one]
      go_wp2_with fail
      refine (mul_any a b _ ha hb).mono ?_
      rintro e w' ⟨rfl, rfl⟩
      go_wp2_with fail
      refine (inv_any a _ ha).mono ?_
      rintro e w2 ⟨rfl, h2⟩
      have g2 := kept_trans h1 h2
      clear h1 h2
      go_wp2_with fail
      refine (mul_any _ _ _ (Fld.mul_lt_w _ _) (Fld.pow_lt_w _ _)).mono ?_
      rintro e w' ⟨rfl, rfl⟩
      rw [H2.out, HY.out]
      go_wp2_with fail
      refine (num_any b _ hb).mono ?_
      rintro e w' ⟨rfl, rfl⟩
      rw [HY.out]
      go_wp2_with fail
      refine (mul_any a b _ ha hb).mono ?_
      rintro e w' ⟨rfl, rfl⟩
      rw [HM.out, Int.natCast_zero]
      go_wp2_with fail
      refine (num_any b _ hb).mono ?_
      rintro e w' ⟨rfl, rfl⟩
      rw [HY.out, Int.natCast_zero]
      go_wp2_with fail
      refine (inv_any a _ ha).mono ?_
      rintro e w3 ⟨rfl, h3⟩
      have g3 := kept_trans g2 h3
      clear g2 h3
      go_wp2_with fail
      refine (inv_any _ _ (Fld.pow_lt_w _ _)).mono ?_
      rintro e w4 ⟨rfl, h4⟩
      have g4 := kept_trans g3 h4
      clear g3 h4
      rw [H3.out]
      go_wp2_with fail
      refine (num_any a _ ha).mono ?_
      rintro e w' ⟨rfl, rfl⟩
      go_wp2_with fail
      refine (lives_any _).mono ?_
      rintro e w5 ⟨rfl, h5⟩
      have g5 := kept_trans g4 h5
      clear g4 h5
      go_wp2
      go_ret
      exact ⟨rfl, g5⟩
    · have hp2 : 0 < Fld.num b := Nat.pos_of_ne_zero hy
      have hp3 : 0 < Fld.mul a b := Nat.pos_of_ne_zero (Fld.mul_ne_zero a b hz hy)
      have hq2 : (((Fld.mul a b : Nat) : Int) == 0) = false := by rw [beq_eq_false_iff_ne]; omega
      have hq3 : (((Fld.num b : Nat) : Int) == 0) = false := by rw [beq_eq_false_iff_ne]; omega
      clear hz hy
      go_enter Try.func6, Try.ntmps6
      go_wp2_with fail
      refine (add_any a b _ ha hb).mono ?_
      rintro e w' ⟨rfl, rfl⟩
      go_wp2_with fail
      refine (sub_any _ b _ (Fld.add_lt_w _ _) hb).mono ?_
      rintro e w' ⟨rfl, rfl⟩
      rw [Fld.sub_add a b]
      go_wp2_with fail
      refine (num_any a _ ha).mono ?_
      rintro e w' ⟨rfl, rfl⟩
      go_wp2_with fail
      refine (neg_any a _ ha).mono ?_
      rintro e w' ⟨rfl, rfl⟩
      go_wp2_with fail
      refine (add_any a _ _ ha (Fld.sub_lt_w _ _)).mono ?_
      rintro e w' ⟨rfl, rfl⟩
      rw [Fld.add_neg a, Int.natCast_zero]
      go_wp2_with fail
      refine (num_any a _ ha).mono ?_
      rintro e w' ⟨rfl, rfl⟩
      go_wp2_with fail
      refine (inv_any a _ ha).mono ?_
      rintro e w1 ⟨rfl, h1⟩
      go_wp2_with fail
      refine (mul_any a _ _ ha (Fld.pow_lt_w _ _)).mono ?_
      rintro e w' ⟨rfl, rfl⟩
      rw [H1.out, Int.natCast_one]
      go_wp2_with fail
      refine (mul_any a b _ ha hb).mono ?_
      rintro e w' ⟨rfl, rfl⟩
      go_wp2_with fail
      refine (inv_any a _ ha).mono ?_
      rintro e w2 ⟨rfl, h2⟩
      have g2 := kept_trans h1 h2
      clear h1 h2
      go_wp2_with fail
      refine (mul_any _ _ _ (Fld.mul_lt_w _ _) (Fld.pow_lt_w _ _)).mono ?_
      rintro e w' ⟨rfl, rfl⟩
      rw [H2.out]
      go_wp2_with fail
      refine (num_any b _ hb).mono ?_
      rintro e w' ⟨rfl, rfl⟩
      go_wp2_with fail
      refine (mul_any a b _ ha hb).mono ?_
      rintro e w' ⟨rfl, rfl⟩
      go_wp2_with fail
      refine (num_any b _ hb).mono ?_
      rintro e w' ⟨rfl, rfl⟩
      go_wp2_with fail
      refine (inv_any a _ ha).mono ?_
      rintro e w3 ⟨rfl, h3⟩
      have g3 := kept_trans g2 h3
      clear g2 h3
      go_wp2_with fail
      refine (inv_any _ _ (Fld.pow_lt_w _ _)).mono ?_
      rintro e w4 ⟨rfl, h4⟩
      have g4 := kept_trans g3 h4
      clear g3 h4
      rw [H3.out]
      go_wp2_with fail
      refine (num_any a _ ha).mono ?_
      rintro e w' ⟨rfl, rfl⟩
      go_wp2_with fail
      refine (lives_any _).mono ?_
      rintro e w5 ⟨rfl, h5⟩
      have g5 := kept_trans g4 h5
      clear g4 h5
      go_wp2
      go_ret
      exact ⟨rfl, g5⟩

set_option maxHeartbeats 1000000 in
theorem fermat_walk (a : Nat) (ha : a < 18446744073709551616) (w : World) :
    Calls Try.prog 7 #[.int .u64 a] w fun e w' => e = .returned (.bool true) ∧ Below w.heap.size w w' := by
  have H1 := Lib.hid (Fld.pow_P a)
  by_cases hz : Fld.num a = 0
  · have HZ := Lib.hid hz
    have H2 := Lib.hid (Fld.pow_N_zero a hz)
    clear hz
    go_enter Try.func7, Try.ntmps7
    go_wp2_with fail
    refine (num_any a _ ha).mono ?_
    rintro e w' ⟨rfl, rfl⟩
    rw [HZ.out, Int.natCast_zero]
    go_wp2_with fail
    refine (pow_lit a 2305843009213693951 _ rfl _ ha (by omega)).mono ?_
    rintro e w1 ⟨rfl, h1⟩
    rw [H1.out]
    go_wp2_with fail
    refine (num_any a _ ha).mono ?_
    rintro e w' ⟨rfl, rfl⟩
    go_wp2_with fail
    refine (pow_lit a 2305843009213693950 _ rfl _ ha (by omega)).mono ?_
    rintro e w2 ⟨rfl, h2⟩
    have g2 := kept_trans h1 h2
    clear h1 h2
    rw [H2.out, Int.natCast_zero]
    go_wp2_with fail
    refine (lives_any _).mono ?_
    rintro e w3 ⟨rfl, h3⟩
    have g3 := kept_trans g2 h3
    clear g2 h3
    go_wp2
    go_ret
    exact ⟨rfl, g3⟩
  · have hp : 0 < Fld.num a := Nat.pos_of_ne_zero hz
    have H2 := Lib.hid (Fld.pow_N a hz)
    clear hz
    go_enter Try.func7, Try.ntmps7
    go_wp2_with fail
    refine (num_any a _ ha).mono ?_
    rintro e w' ⟨rfl, rfl⟩
    go_wp2_with fail
    refine (pow_lit a 2305843009213693951 _ rfl _ ha (by omega)).mono ?_
    rintro e w1 ⟨rfl, h1⟩
    rw [H1.out]
    go_wp2_with fail
    refine (num_any a _ ha).mono ?_
    rintro e w' ⟨rfl, rfl⟩
    go_wp2_with fail
    refine (pow_lit a 2305843009213693950 _ rfl _ ha (by omega)).mono ?_
    rintro e w2 ⟨rfl, h2⟩
    have g2 := kept_trans h1 h2
    clear h1 h2
    rw [H2.out, Int.natCast_one]
    go_wp2_with fail
    refine (lives_any _).mono ?_
    rintro e w3 ⟨rfl, h3⟩
    have g3 := kept_trans g2 h3
    clear g2 h3
    go_wp2
    go_ret
    exact ⟨rfl, g3⟩

set_option maxHeartbeats 2000000 in
theorem adds_walk (a b m n : Nat) (ha : a < 18446744073709551616) (hb : b < 18446744073709551616) (hn : n < 18446744073709551616) (w : World) :
    Calls Try.prog 8 #[.int .u64 a, .int .u64 b, .int .u64 m, .int .u64 n] w fun e w' => e = .returned (.bool true) ∧ Below w.heap.size w w' := by
  obtain ⟨x, ex⟩ : ∃ x : Nat, x = m % 4294967296 := ⟨_, rfl⟩
  obtain ⟨y, ey⟩ : ∃ y : Nat, y = n % 4294967296 := ⟨_, rfl⟩
  have hx1 : (m : Int) % 4294967296 = (x : Int) := by omega
  have hy1 : (n : Int) % 4294967296 = (y : Int) := by omega
  have hx : x ≤ 4294967295 := by omega
  have hy : y ≤ 4294967295 := by omega
  clear ex ey
  have hpl := Fld.prod_le _ _ _ _ hx hy
  obtain ⟨p, ep⟩ : ∃ p : Nat, p = x * y := ⟨_, rfl⟩
  rw [← ep] at hpl
  have hp1 : IntKind.u64.wrap ((x : Int) * (y : Int)) = (p : Int) := by rw [← Int.natCast_mul, ← ep, IntKind.wrap_u64]; omega
  have HP : Hid (Fld.pow (Fld.pow a x) y = Fld.pow a p) := by rw [ep]; exact Fld.pow_mul a x y
  obtain ⟨q, eq⟩ : ∃ q : Nat, q = n % 2305843009213693950 := ⟨_, rfl⟩
  have hq1 : (n : Int) % 2305843009213693950 = (q : Int) := by omega
  have hq : q < 2305843009213693950 := by omega
  by_cases hz : Fld.num a = 0
  · have HZ := Lib.hid hz
    clear hz ep eq
    go_enter Try.func8, Try.ntmps8
    go_wp2_with fail
    refine (pow_any a x _ ha (by omega)).mono ?_
    rintro e w1 ⟨rfl, h1⟩
    go_wp2_with fail
    refine (pow_any a y _ ha (by omega)).mono ?_
    rintro e w2 ⟨rfl, h2⟩
    have g2 := kept_trans h1 h2
    clear h1 h2
    go_wp2_with fail
    refine (mul_any _ _ _ (Fld.pow_lt_w _ _) (Fld.pow_lt_w _ _)).mono ?_
    rintro e w' ⟨rfl, rfl⟩
    rw [Fld.pow_add a x y]
    go_wp2_with fail
    refine (pow_sum a x y _ ha (by omega) (by omega)).mono ?_
    rintro e w3 ⟨rfl, h3⟩
    have g3 := kept_trans g2 h3
    clear g2 h3
    go_wp2_with fail
    refine (pow_any a x _ ha (by omega)).mono ?_
    rintro e w4 ⟨rfl, h4⟩
    have g4 := kept_trans g3 h4
    clear g3 h4
    go_wp2_with fail
    refine (pow_any _ y _ (Fld.pow_lt_w _ _) (by omega)).mono ?_
    rintro e w5 ⟨rfl, h5⟩
    have g5 := kept_trans g4 h5
    clear g4 h5
    rw [HP.out]
    go_wp2_with fail
    refine (pow_any a p _ ha (by omega)).mono ?_
    rintro e w6 ⟨rfl, h6⟩
    have g6 := kept_trans g5 h6
    clear g5 h6
    go_wp2_with fail
    refine (mul_any a b _ ha hb).mono ?_
    rintro e w' ⟨rfl, rfl⟩
    go_wp2_with fail
    refine (pow_any _ n _ (Fld.mul_lt_w _ _) hn).mono ?_
    rintro e w7 ⟨rfl, h7⟩
    have g7 := kept_trans g6 h7
    clear g6 h7
    rw [Fld.mul_pow a b n]
    go_wp2_with fail
    refine (pow_any a n _ ha hn).mono ?_
    rintro e w8 ⟨rfl, h8⟩
    have g8 := kept_trans g7 h8
    clear g7 h8
    go_wp2_with fail
    refine (pow_any b n _ hb hn).mono ?_
    rintro e w9 ⟨rfl, h9⟩
    have g9 := kept_trans g8 h9
    clear g8 h9
    go_wp2_with fail
    refine (mul_any _ _ _ (Fld.pow_lt_w _ _) (Fld.pow_lt_w _ _)).mono ?_
    rintro e w' ⟨rfl, rfl⟩
    go_wp2_with fail
    refine (num_any a _ ha).mono ?_
    rintro e w' ⟨rfl, rfl⟩
    rw [HZ.out, Int.natCast_zero]
    go_wp2_with fail
    refine (lives_any _).mono ?_
    rintro e w10 ⟨rfl, h10⟩
    have g10 := kept_trans g9 h10
    clear g9 h10
    go_wp2
    go_ret
    exact ⟨rfl, g10⟩
  · have hpos : 0 < Fld.num a := Nat.pos_of_ne_zero hz
    have HQ : Hid (Fld.pow a q = Fld.pow a n) := by rw [eq]; exact Fld.pow_mod_N a n hz
    clear hz ep eq
    go_enter Try.func8, Try.ntmps8
    go_wp2_with fail
    refine (pow_any a x _ ha (by omega)).mono ?_
    rintro e w1 ⟨rfl, h1⟩
    go_wp2_with fail
    refine (pow_any a y _ ha (by omega)).mono ?_
    rintro e w2 ⟨rfl, h2⟩
    have g2 := kept_trans h1 h2
    clear h1 h2
    go_wp2_with fail
    refine (mul_any _ _ _ (Fld.pow_lt_w _ _) (Fld.pow_lt_w _ _)).mono ?_
    rintro e w' ⟨rfl, rfl⟩
    rw [Fld.pow_add a x y]
    go_wp2_with fail
    refine (pow_sum a x y _ ha (by omega) (by omega)).mono ?_
    rintro e w3 ⟨rfl, h3⟩
    have g3 := kept_trans g2 h3
    clear g2 h3
    go_wp2_with fail
    refine (pow_any a x _ ha (by omega)).mono ?_
    rintro e w4 ⟨rfl, h4⟩
    have g4 := kept_trans g3 h4
    clear g3 h4
    go_wp2_with fail
    refine (pow_any _ y _ (Fld.pow_lt_w _ _) (by omega)).mono ?_
    rintro e w5 ⟨rfl, h5⟩
    have g5 := kept_trans g4 h5
    clear g4 h5
    rw [HP.out]
    go_wp2_with fail
    refine (pow_any a p _ ha (by omega)).mono ?_
    rintro e w6 ⟨rfl, h6⟩
    have g6 := kept_trans g5 h6
    clear g5 h6
    go_wp2_with fail
    refine (mul_any a b _ ha hb).mono ?_
    rintro e w' ⟨rfl, rfl⟩
    go_wp2_with fail
    refine (pow_any _ n _ (Fld.mul_lt_w _ _) hn).mono ?_
    rintro e w7 ⟨rfl, h7⟩
    have g7 := kept_trans g6 h7
    clear g6 h7
    rw [Fld.mul_pow a b n]
    go_wp2_with fail
    refine (pow_any a n _ ha hn).mono ?_
    rintro e w8 ⟨rfl, h8⟩
    have g8 := kept_trans g7 h8
    clear g7 h8
    go_wp2_with fail
    refine (pow_any b n _ hb hn).mono ?_
    rintro e w9 ⟨rfl, h9⟩
    have g9 := kept_trans g8 h9
    clear g8 h9
    go_wp2_with fail
    refine (mul_any _ _ _ (Fld.pow_lt_w _ _) (Fld.pow_lt_w _ _)).mono ?_
    rintro e w' ⟨rfl, rfl⟩
    go_wp2_with fail
    refine (num_any a _ ha).mono ?_
    rintro e w' ⟨rfl, rfl⟩
    go_wp2_with fail
    refine (pow_any a n _ ha hn).mono ?_
    rintro e w10 ⟨rfl, h10⟩
    have g10 := kept_trans g9 h10
    clear g9 h10
    go_wp2_with fail
    refine (pow_any a q _ ha (by omega)).mono ?_
    rintro e w11 ⟨rfl, h11⟩
    have g11 := kept_trans g10 h11
    clear g10 h11
    rw [HQ.out]
    go_wp2_with fail
    refine (lives_any _).mono ?_
    rintro e w12 ⟨rfl, h12⟩
    have g12 := kept_trans g11 h12
    clear g11 h12
    go_wp2
    go_ret
    exact ⟨rfl, g12⟩

set_option maxHeartbeats 2000000 in
theorem squares_walk (a b : Nat) (ha : a < 18446744073709551616) (hb : b < 18446744073709551616) (w : World) :
    Calls Try.prog 9 #[.int .u64 a, .int .u64 b] w fun e w' => e = .returned (.bool true) ∧ Below w.heap.size w w' := by
  by_cases hz : Fld.num a = 0
  · have HZ := Lib.hid hz
    clear hz
    go_enter Try.func9, Try.ntmps9
    go_wp2_with fail
    refine (num_any a _ ha).mono ?_
    rintro e w' ⟨rfl, rfl⟩
    rw [HZ.out, Int.natCast_zero]
    go_wp2_with fail
    refine (pow_half0 _).mono ?_
    rintro e w1 ⟨rfl, h1⟩
    go_wp2_with fail
    refine (lives_any _).mono ?_
    rintro e w2 ⟨rfl, h2⟩
    have g2 := kept_trans h1 h2
    clear h1 h2
    go_wp2
    go_ret
    exact ⟨rfl, g2⟩
  have hpa : 0 < Fld.num a := Nat.pos_of_ne_zero hz
  by_cases hy : Fld.num b = 0
  · have HZ := Lib.hid hy
    clear hz hy
    go_enter Try.func9, Try.ntmps9
    go_wp2_with fail
    refine (num_any a _ ha).mono ?_
    rintro e w' ⟨rfl, rfl⟩
    go_wp2_with fail
    refine (num_any b _ hb).mono ?_
    rintro e w' ⟨rfl, rfl⟩
    rw [HZ.out, Int.natCast_zero]
    go_wp2_with fail
    refine (pow_half0 _).mono ?_
    rintro e w1 ⟨rfl, h1⟩
    go_wp2_with fail
    refine (lives_any _).mono ?_
    rintro e w2 ⟨rfl, h2⟩
    have g2 := kept_trans h1 h2
    clear h1 h2
    go_wp2
    go_ret
    exact ⟨rfl, g2⟩
  have hpb : 0 < Fld.num b := Nat.pos_of_ne_zero hy
  have hqa : (((Fld.num a : Nat) : Int) == 0) = false := by rw [beq_eq_false_iff_ne]; omega
  have hqb : (((Fld.num b : Nat) : Int) == 0) = false := by rw [beq_eq_false_iff_ne]; omega
  have HA := Lib.hid (Fld.pow_half_sq a hz)
  have hxy := Fld.mul_pow a b 1152921504606846975
  rcases Fld.pow_half a hz with hx1 | hx1 <;> rcases Fld.pow_half b hy with hy1 | hy1
  · have HX := Lib.hid hx1
    have HY := Lib.hid hy1
    have HXY := Lib.hid hxy
    rw [hx1, hy1] at HXY
    have HS := Lib.hid (Fld.root_one_sq a hx1)
    clear hz hy hx1 hy1 hxy
    go_enter Try.func9, Try.ntmps9
    go_wp2_with fail
    refine (num_any a _ ha).mono ?_
    rintro e w' ⟨rfl, rfl⟩
    go_wp2_with fail
    refine (num_any b _ hb).mono ?_
    rintro e w' ⟨rfl, rfl⟩
    go_wp2_with fail
    refine (pow_lit a 1152921504606846975 _ rfl _ ha (by omega)).mono ?_
    rintro e w1 ⟨rfl, h1⟩
    rw [HX.out, Int.natCast_one]
    go_wp2_with fail
    refine (pow_lit b 1152921504606846975 _ rfl _ hb (by omega)).mono ?_
    rintro e w2 ⟨rfl, h2⟩
    have g2 := kept_trans h1 h2
    clear h1 h2
    rw [HY.out, Int.natCast_one]
    go_wp2_with fail
    refine (pow_lit a 576460752303423488 _ rfl _ ha (by omega)).mono ?_
    rintro e w3 ⟨rfl, h3⟩
    have g3 := kept_trans g2 h3
    clear g2 h3
    go_wp2_with fail
    refine (mul_any _ _ _ (Fld.pow_lt_w _ _) (Fld.pow_lt_w _ _)).mono ?_
    rintro e w' ⟨rfl, rfl⟩
    rw [HS.out]
    go_wp2_with fail
    refine (mul_any a a _ ha ha).mono ?_
    rintro e w' ⟨rfl, rfl⟩
    go_wp2_with fail
    refine (pow_lit _ 1152921504606846975 _ rfl _ (Fld.mul_lt_w _ _) (by omega)).mono ?_
    rintro e w4 ⟨rfl, h4⟩
    have g4 := kept_trans g3 h4
    clear g3 h4
    rw [HA.out, Int.natCast_one]
    go_wp2_with fail
    refine (mul_any a b _ ha hb).mono ?_
    rintro e w' ⟨rfl, rfl⟩
    go_wp2_with fail
    refine (pow_lit _ 1152921504606846975 _ rfl _ (Fld.mul_lt_w _ _) (by omega)).mono ?_
    rintro e w5 ⟨rfl, h5⟩
    have g5 := kept_trans g4 h5
    clear g4 h5
    go_wp2_with fail
    refine (mul_lit 1 1 _ _ rfl rfl _ (by omega) (by omega)).mono ?_
    rintro e w' ⟨rfl, rfl⟩
    rw [← HXY.out]
    go_wp2_with fail
    refine (num_any a _ ha).mono ?_
    rintro e w' ⟨rfl, rfl⟩
    go_wp2_with fail
    refine (lives_any _).mono ?_
    rintro e w6 ⟨rfl, h6⟩
    have g6 := kept_trans g5 h6
    clear g5 h6
    go_wp2
    go_ret
    exact ⟨rfl, g6⟩
  · have HX := Lib.hid hx1
    have HY := Lib.hid hy1
    have HXY := Lib.hid hxy
    rw [hx1, hy1] at HXY
    have HS := Lib.hid (Fld.root_one_sq a hx1)
    clear hz hy hx1 hy1 hxy
    go_enter Try.func9, Try.ntmps9
    go_wp2_with fail
    refine (num_any a _ ha).mono ?_
    rintro e w' ⟨rfl, rfl⟩
    go_wp2_with fail
    refine (num_any b _ hb).mono ?_
    rintro e w' ⟨rfl, rfl⟩
    go_wp2_with fail
    refine (pow_lit a 1152921504606846975 _ rfl _ ha (by omega)).mono ?_
    rintro e w1 ⟨rfl, h1⟩
    rw [HX.out, Int.natCast_one]
    go_wp2_with fail
    refine (pow_lit b 1152921504606846975 _ rfl _ hb (by omega)).mono ?_
    rintro e w2 ⟨rfl, h2⟩
    have g2 := kept_trans h1 h2
    clear h1 h2
    rw [HY.out, Fld.cast_N]
    go_wp2_with fail
    refine (pow_lit a 576460752303423488 _ rfl _ ha (by omega)).mono ?_
    rintro e w3 ⟨rfl, h3⟩
    have g3 := kept_trans g2 h3
    clear g2 h3
    go_wp2_with fail
    refine (mul_any _ _ _ (Fld.pow_lt_w _ _) (Fld.pow_lt_w _ _)).mono ?_
    rintro e w' ⟨rfl, rfl⟩
    rw [HS.out]
    go_wp2_with fail
    refine (mul_any a a _ ha ha).mono ?_
    rintro e w' ⟨rfl, rfl⟩
    go_wp2_with fail
    refine (pow_lit _ 1152921504606846975 _ rfl _ (Fld.mul_lt_w _ _) (by omega)).mono ?_
    rintro e w4 ⟨rfl, h4⟩
    have g4 := kept_trans g3 h4
    clear g3 h4
    rw [HA.out, Int.natCast_one]
    go_wp2_with fail
    refine (mul_any a b _ ha hb).mono ?_
    rintro e w' ⟨rfl, rfl⟩
    go_wp2_with fail
    refine (pow_lit _ 1152921504606846975 _ rfl _ (Fld.mul_lt_w _ _) (by omega)).mono ?_
    rintro e w5 ⟨rfl, h5⟩
    have g5 := kept_trans g4 h5
    clear g4 h5
    go_wp2_with fail
    refine (mul_lit 1 2305843009213693950 _ _ rfl rfl _ (by omega) (by omega)).mono ?_
    rintro e w' ⟨rfl, rfl⟩
    rw [← HXY.out]
    go_wp2_with fail
    refine (num_any a _ ha).mono ?_
    rintro e w' ⟨rfl, rfl⟩
    go_wp2_with fail
    refine (lives_any _).mono ?_
    rintro e w6 ⟨rfl, h6⟩
    have g6 := kept_trans g5 h6
    clear g5 h6
    go_wp2
    go_ret
    exact ⟨rfl, g6⟩
  · have HX := Lib.hid hx1
    have HY := Lib.hid hy1
    have HXY := Lib.hid hxy
    rw [hx1, hy1] at HXY
    have HS := Lib.hid (Fld.root_neg_sq a hx1)
    have hne := Fld.neg_ne a hz
    clear hz hy hx1 hy1 hxy
    go_enter Try.func9, Try.ntmps9
    go_wp2_with fail
    refine (num_any a _ ha).mono ?_
    rintro e w' ⟨rfl, rfl⟩
    go_wp2_with fail
    refine (num_any b _ hb).mono ?_
    rintro e w' ⟨rfl, rfl⟩
    go_wp2_with fail
    refine (pow_lit a 1152921504606846975 _ rfl _ ha (by omega)).mono ?_
    rintro e w1 ⟨rfl, h1⟩
    rw [HX.out, Fld.cast_N]
    go_wp2_with fail
    refine (pow_lit b 1152921504606846975 _ rfl _ hb (by omega)).mono ?_
    rintro e w2 ⟨rfl, h2⟩
    have g2 := kept_trans h1 h2
    clear h1 h2
    rw [HY.out, Int.natCast_one]
    go_wp2_with fail
    refine (pow_lit a 576460752303423488 _ rfl _ ha (by omega)).mono ?_
    rintro e w3 ⟨rfl, h3⟩
    have g3 := kept_trans g2 h3
    clear g2 h3
    go_wp2_with fail
    refine (mul_any _ _ _ (Fld.pow_lt_w _ _) (Fld.pow_lt_w _ _)).mono ?_
    rintro e w' ⟨rfl, rfl⟩
    rw [HS.out]
    go_wp2_with fail
    refine (mul_any a a _ ha ha).mono ?_
    rintro e w' ⟨rfl, rfl⟩
    go_wp2_with fail
    refine (pow_lit _ 1152921504606846975 _ rfl _ (Fld.mul_lt_w _ _) (by omega)).mono ?_
    rintro e w4 ⟨rfl, h4⟩
    have g4 := kept_trans g3 h4
    clear g3 h4
    rw [HA.out, Int.natCast_one]
    go_wp2_with fail
    refine (mul_any a b _ ha hb).mono ?_
    rintro e w' ⟨rfl, rfl⟩
    go_wp2_with fail
    refine (pow_lit _ 1152921504606846975 _ rfl _ (Fld.mul_lt_w _ _) (by omega)).mono ?_
    rintro e w5 ⟨rfl, h5⟩
    have g5 := kept_trans g4 h5
    clear g4 h5
    go_wp2_with fail
    refine (mul_lit 2305843009213693950 1 _ _ rfl rfl _ (by omega) (by omega)).mono ?_
    rintro e w' ⟨rfl, rfl⟩
    rw [← HXY.out]
    go_wp2_with fail
    refine (num_any a _ ha).mono ?_
    rintro e w' ⟨rfl, rfl⟩
    go_wp2_with fail
    refine (neg_any a _ ha).mono ?_
    rintro e w' ⟨rfl, rfl⟩
    go_wp2_with fail
    refine (lives_any _).mono ?_
    rintro e w6 ⟨rfl, h6⟩
    have g6 := kept_trans g5 h6
    clear g5 h6
    go_wp2
    go_ret
    exact ⟨rfl, g6⟩
  · have HX := Lib.hid hx1
    have HY := Lib.hid hy1
    have HXY := Lib.hid hxy
    rw [hx1, hy1] at HXY
    have HS := Lib.hid (Fld.root_neg_sq a hx1)
    have hne := Fld.neg_ne a hz
    clear hz hy hx1 hy1 hxy
    go_enter Try.func9, Try.ntmps9
    go_wp2_with fail
    refine (num_any a _ ha).mono ?_
    rintro e w' ⟨rfl, rfl⟩
    go_wp2_with fail
    refine (num_any b _ hb).mono ?_
    rintro e w' ⟨rfl, rfl⟩
    go_wp2_with fail
    refine (pow_lit a 1152921504606846975 _ rfl _ ha (by omega)).mono ?_
    rintro e w1 ⟨rfl, h1⟩
    rw [HX.out, Fld.cast_N]
    go_wp2_with fail
    refine (pow_lit b 1152921504606846975 _ rfl _ hb (by omega)).mono ?_
    rintro e w2 ⟨rfl, h2⟩
    have g2 := kept_trans h1 h2
    clear h1 h2
    rw [HY.out, Fld.cast_N]
    go_wp2_with fail
    refine (pow_lit a 576460752303423488 _ rfl _ ha (by omega)).mono ?_
    rintro e w3 ⟨rfl, h3⟩
    have g3 := kept_trans g2 h3
    clear g2 h3
    go_wp2_with fail
    refine (mul_any _ _ _ (Fld.pow_lt_w _ _) (Fld.pow_lt_w _ _)).mono ?_
    rintro e w' ⟨rfl, rfl⟩
    rw [HS.out]
    go_wp2_with fail
    refine (mul_any a a _ ha ha).mono ?_
    rintro e w' ⟨rfl, rfl⟩
    go_wp2_with fail
    refine (pow_lit _ 1152921504606846975 _ rfl _ (Fld.mul_lt_w _ _) (by omega)).mono ?_
    rintro e w4 ⟨rfl, h4⟩
    have g4 := kept_trans g3 h4
    clear g3 h4
    rw [HA.out, Int.natCast_one]
    go_wp2_with fail
    refine (mul_any a b _ ha hb).mono ?_
    rintro e w' ⟨rfl, rfl⟩
    go_wp2_with fail
    refine (pow_lit _ 1152921504606846975 _ rfl _ (Fld.mul_lt_w _ _) (by omega)).mono ?_
    rintro e w5 ⟨rfl, h5⟩
    have g5 := kept_trans g4 h5
    clear g4 h5
    go_wp2_with fail
    refine (mul_lit 2305843009213693950 2305843009213693950 _ _ rfl rfl _ (by omega) (by omega)).mono ?_
    rintro e w' ⟨rfl, rfl⟩
    rw [← HXY.out]
    go_wp2_with fail
    refine (num_any a _ ha).mono ?_
    rintro e w' ⟨rfl, rfl⟩
    go_wp2_with fail
    refine (neg_any a _ ha).mono ?_
    rintro e w' ⟨rfl, rfl⟩
    go_wp2_with fail
    refine (lives_any _).mono ?_
    rintro e w6 ⟨rfl, h6⟩
    have g6 := kept_trans g5 h6
    clear g5 h6
    go_wp2
    go_ret
    exact ⟨rfl, g6⟩

end Go.Proofs.Ytcnlfhhdcfmpfaa
