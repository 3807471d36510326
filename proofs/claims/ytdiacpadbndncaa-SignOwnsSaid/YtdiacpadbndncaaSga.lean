/-
  Signatures as numbers: what is signed, what is asked, and which signatures are taken; a digit of a long division (Knuth's). No program, no condition but what is said.
-/
import Derived.Test.YtdiacpadbndncaaBxa
namespace Go.Proofs.Ytdiacpadbndncaa
open Go.RowKit

namespace Sg
def N : Nat := 2305843009213693950
def msg (l : List UInt8) : Nat := Hsh.bytes [115, 105, 103, 110, 101, 100] l
def ask (r t m : Nat) : Nat := Hsh.of [115, 105, 103] [r, t, m]
def once (s m : Nat) : Nat := Hsh.secret [110, 111, 110, 99, 101] [s, m]
/-- What is signed: R and S, of a secret and the sum of bytes. -/
def R (s m : Nat) : Nat := Fld.pow 37 (once s m)
def ans (o e s : Nat) : Nat := (o + e * s % 2305843009213693950) % 2305843009213693950
def S (s m : Nat) : Nat := ans (once s m) (ask (R s m) (Bx.pub s) m) s
/-- The numbers of a public key and a signature are of their range. -/
def Rng (t r s : Nat) : Prop := 1 ≤ t ∧ t < 2305843009213693951 ∧ 1 ≤ r ∧ r < 2305843009213693951 ∧ s < 2305843009213693950
/-- The equation of a signature. -/
def Eqn (t m r s : Nat) : Prop := Fld.pow 37 s = Fld.mul r (Fld.pow t (ask r t m))
def Ok (t m r s : Nat) : Prop := Rng t r s ∧ Eqn t m r s
instance (t r s : Nat) : Decidable (Rng t r s) := by unfold Rng; infer_instance
instance (t m r s : Nat) : Decidable (Eqn t m r s) := by unfold Eqn; infer_instance
instance (t m r s : Nat) : Decidable (Ok t m r s) := by unfold Ok; infer_instance
/-- What Check tells. -/
def chk (t m r s : Nat) : Bool := decide (Ok t m r s)

theorem msg_lt (l : List UInt8) : msg l < 2305843009213693951 := Hsh.of_lt _ _
theorem ask_lt (r t m : Nat) : ask r t m < 2305843009213693951 := Hsh.of_lt _ _
theorem once_range (s m : Nat) : 1 ≤ once s m ∧ once s m ≤ 2305843009213693949 := Hsh.secret_range _ _
theorem R_lt (s m : Nat) : R s m < 2305843009213693951 := Fld.pow_lt _ _
theorem ans_lt (o e s : Nat) : ans o e s < 2305843009213693950 := Nat.mod_lt _ (by omega)
theorem S_lt (s m : Nat) : S s m < 2305843009213693950 := ans_lt _ _ _
theorem pow37_add (a c : Nat) : Fld.pow 37 (a + c) = Fld.mul (Fld.pow 37 a) (Fld.pow 37 c) := (Bx.pub_add a c).symm
theorem pub_pow (s e : Nat) : Fld.pow (Bx.pub s) e = Fld.pow 37 (e * s) := by
  unfold Bx.pub Fld.pow
  rw [← Nat.pow_mod, ← Nat.pow_mul, Nat.mul_comm]
/-- Right ones are taken. -/
theorem eqn_ans (s m o : Nat) : Eqn (Bx.pub s) m (Fld.pow 37 o) (ans o (ask (Fld.pow 37 o) (Bx.pub s) m) s) := by
  unfold Eqn
  obtain ⟨e, he⟩ : ∃ e, e = ask (Fld.pow 37 o) (Bx.pub s) m := ⟨_, rfl⟩
  rw [← he, pub_pow]
  unfold ans
  rw [Bx.pub_mod, pow37_add, Bx.pub_mod]
theorem ok_sign (s m : Nat) : Ok (Bx.pub s) m (R s m) (S s m) := by
  refine ⟨⟨?_, Bx.pub_lt s, ?_, R_lt s m, S_lt s m⟩, ?_⟩
  · have := Bx.pub_ne s; omega
  · have := Bx.pub_ne (once s m)
    have e : R s m = Bx.pub (once s m) := rfl
    omega
  · exact eqn_ans s m (once s m)
theorem chk_sign (s m : Nat) : chk (Bx.pub s) m (R s m) (S s m) = true := decide_eq_true (ok_sign s m)
/-- One S. -/
theorem ok_same {t m r s s' : Nat} (h : Ok t m r s) (h' : Ok t m r s') : Fld.pow 37 s = Fld.pow 37 s' := h.2.trans h'.2.symm
theorem ok_one {t m r s s' : Nat} (h : Ok t m r s) (h' : Ok t m r s') : s = s' := by
  have h1 := h.1.2.2.2.2
  have h2 := h'.1.2.2.2.2
  exact Fld.pow_inj s s' h1 h2 (ok_same h h')
theorem chk_next (s m : Nat) : chk (Bx.pub s) m (R s m) ((S s m + 1) % 2305843009213693950) = false := by
  refine decide_eq_false fun h => ?_
  have h1 := ok_one (ok_sign s m) h
  have h2 := S_lt s m
  omega
theorem chk_not {t m r s : Nat} (h : ¬ Rng t r s) : chk t m r s = false := decide_eq_false fun k => h k.1
theorem chk_eqn {t m r s : Nat} (h : Rng t r s) : chk t m r s = decide (Eqn t m r s) := by
  unfold chk
  by_cases k : Eqn t m r s
  · rw [decide_eq_true k, decide_eq_true (show Ok t m r s from ⟨h, k⟩)]
  · rw [decide_eq_false k, decide_eq_false (show ¬ Ok t m r s from fun q => k q.2)]

/-! ### a digit of a long division -/
/-- What the loop keeps: of a number U, a digit u, a divisor c, d: the guess and what it leaves. -/
structure Kn (U u c d q r : Nat) : Prop where
  sum : q * c + r = U
  big : U * 4294967296 + u < (q + 1) * (c * 4294967296 + d)
theorem Kn.start (U u c d : Nat) (hc : 0 < c) (hu : u < 4294967296) : Kn U u c d (U / c) (U % c) := by
  refine ⟨by rw [Nat.mul_comm]; exact Nat.div_add_mod U c, ?_⟩
  have h1 : U < (U / c + 1) * c := by
    have := Nat.div_add_mod U c
    have h2 := Nat.mod_lt U hc
    rw [Nat.add_mul, Nat.one_mul, Nat.mul_comm]; omega
  have h2 : (U + 1) * 4294967296 ≤ (U / c + 1) * c * 4294967296 := Nat.mul_le_mul_right _ h1
  have h3 : (U / c + 1) * (c * 4294967296 + d) = (U / c + 1) * c * 4294967296 + (U / c + 1) * d := by rw [Nat.mul_add, Nat.mul_assoc]
  omega
/-- The guess is too great: one less. -/
theorem Kn.less {U u c d q r : Nat} (h : Kn U u c d q r) (hU : U < c * 4294967296 + d) (hu : u < 4294967296) (hg : 4294967296 ≤ q ∨ 4294967296 * r + u < q * d) : 0 < q ∧ Kn U u c d (q - 1) (r + c) := by
  have hq : 0 < q := by
    rcases hg with h1 | h1
    · omega
    · by_cases h0 : q = 0
      · subst h0; omega
      · omega
  refine ⟨hq, ?_, ?_⟩
  · have := h.sum
    obtain ⟨k, rfl⟩ : ∃ k, q = k + 1 := ⟨q - 1, by omega⟩
    rw [Nat.add_sub_cancel]
    rw [Nat.add_mul, Nat.one_mul] at this
    omega
  · rw [Nat.sub_add_cancel hq]
    rcases hg with h1 | h1
    · have h2 : 4294967296 * (c * 4294967296 + d) ≤ q * (c * 4294967296 + d) := Nat.mul_le_mul_right _ h1
      omega
    · have h2 : q * (c * 4294967296 + d) = q * c * 4294967296 + q * d := by rw [Nat.mul_add, Nat.mul_assoc]
      have := h.sum
      have h3 : (q * c + r) * 4294967296 + u = U * 4294967296 + u := by rw [this]
      rw [Nat.add_mul] at h3
      omega
theorem mod_of {A Y q : Nat} (h2 : q * Y ≤ A) (h4 : A < (q + 1) * Y) : A - q * Y = A % Y := by
  rw [Nat.add_mul, Nat.one_mul] at h4
  have h7 : A - q * Y < Y := by omega
  have h6 : A = (A - q * Y) + q * Y := (Nat.sub_add_cancel h2).symm
  generalize A - q * Y = z at h7 h6 ⊢
  rw [h6, Nat.add_mul_mod_self_right, Nat.mod_eq_of_lt h7]
/-- The guess is right: what is left. -/
theorem Kn.done {U u c d q r : Nat} (h : Kn U u c d q r) (hg : q * d ≤ 4294967296 * r + u) :
    q * (c * 4294967296 + d) ≤ U * 4294967296 + u ∧ U * 4294967296 + u - q * (c * 4294967296 + d) = (U * 4294967296 + u) % (c * 4294967296 + d) := by
  have h1 : q * (c * 4294967296 + d) = q * c * 4294967296 + q * d := by rw [Nat.mul_add, Nat.mul_assoc]
  have h3 : (q * c + r) * 4294967296 + u = U * 4294967296 + u := by rw [h.sum]
  rw [Nat.add_mul] at h3
  have h2 : q * (c * 4294967296 + d) ≤ U * 4294967296 + u := by omega
  refine ⟨h2, ?_⟩
  exact mod_of h2 h.big
theorem Kn.over {U u c d q r : Nat} (_ : Kn U u c d q r) (hd : d < 4294967296) (hq : q ≤ 4294967296) (hr : 4294967296 ≤ r) : q * d ≤ 4294967296 * r + u := by
  have h1 : ∀ b : Nat, q ≤ b → q * d ≤ b * d := fun b h => Nat.mul_le_mul_right _ h
  have h2 := h1 4294967296 hq
  omega
end Sg

end Go.Proofs.Ytdiacpadbndncaa
