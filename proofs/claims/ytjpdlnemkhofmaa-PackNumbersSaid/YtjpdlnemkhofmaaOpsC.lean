/-
  The reference's sums, products and powers, and package field's Inv, answer the same natural numbers; the document's examples hold: for all numbers of 64 bits, no other condition.
-/
import Derived.Test.YtjpdlnemkhofmaaOpsB
import Derived.Deep.QuietTactic
import Derived.BigQuiet
namespace Go.Proofs.Ytjpdlnemkhofmaa
open Go.RowKit

theorem below_drewN {B : Nat} {a w : World} (h : Below B a w) (n : Nat) : Below B a (w.drewN n) := ⟨h.os, h.tape, h.output, h.size, h.block⟩

/-! ### package huddleref01 -/
theorem Fld.half_join (x y xl xh yl yh : Nat) (hx : xl = x % 4294967296) (hx' : xh = x / 4294967296) (hy : yl = y % 4294967296) (hy' : yh = y / 4294967296) :
    x * y = xl * yl + (xh * yl + xl * yh) * 4294967296 + xh * yh * 18446744073709551616 := by
  have e1 : x = xh * 4294967296 + xl := by omega
  have e2 : y = yh * 4294967296 + yl := by omega
  rw [e1, e2]
  generalize xl = p, xh = q, yl = r, yh = s
  simp only [Nat.add_mul, Nat.mul_add]
  have a1 : q * 4294967296 * (s * 4294967296) = q * s * 18446744073709551616 := by
    rw [Nat.mul_mul_mul_comm]
  have a2 : p * (s * 4294967296) = p * s * 4294967296 := by rw [Nat.mul_assoc]
  have a3 : q * 4294967296 * r = q * r * 4294967296 := by rw [Nat.mul_right_comm]
  omega

theorem Fld.half_mod (z ll mid hh : Nat) (h : z = ll + mid * 4294967296 + hh * 18446744073709551616) :
    (ll % 2305843009213693951 + mid % 536870912 * 4294967296 + mid / 536870912 + 8 * hh) % 2305843009213693951 = z % 2305843009213693951 := by
  omega

theorem Fld.prod_le (a b m n : Nat) (ha : a ≤ m) (hb : b ≤ n) : a * b ≤ m * n := Nat.mul_le_mul ha hb

/-- What the loop of the reference's power keeps: power, base, exponent left. -/
def PowInv (a n o b k : Nat) : Prop := o < 2305843009213693951 ∧ b < 2305843009213693951 ∧ o * b ^ k % Fld.P = Fld.pow a n

theorem PowInv.odd {a n o b k : Nat} (h : PowInv a n o b k) (hk : k % 2 = 1) : PowInv a n (Fld.mul o b) (Fld.mul b b) (k / 2) :=
  ⟨Fld.mul_lt _ _, Fld.mul_lt _ _, (Fld.step_odd o b k hk).trans h.2.2⟩
theorem PowInv.even {a n o b k : Nat} (h : PowInv a n o b k) (hk : k % 2 = 0) : PowInv a n o (Fld.mul b b) (k / 2) :=
  ⟨h.1, Fld.mul_lt _ _, (Fld.step_even o b k hk).trans h.2.2⟩
theorem PowInv.start (a n : Nat) : PowInv a n 1 (Fld.num a) n :=
  ⟨by omega, Fld.num_lt a, by rw [Nat.one_mul]; exact (Nat.pow_mod a n Fld.P).symm⟩
theorem PowInv.done {a n o b : Nat} (h : PowInv a n o b 0) : o = Fld.pow a n := by
  have h1 := h.2.2
  rw [Nat.pow_zero, Nat.mul_one] at h1
  rw [← h1]
  exact (Nat.mod_eq_of_lt h.1).symm

theorem Fld.pow_pw (a n : Nat) (h : n < 18446744073709551616) : Fld.pow a n = Fld.pw 64 a n := (Fld.pw_eq 64 a n h).symm

end Go.Proofs.Ytjpdlnemkhofmaa
