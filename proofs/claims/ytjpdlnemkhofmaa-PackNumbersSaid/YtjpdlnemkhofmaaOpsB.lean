/-
  Package field's Pow, a range over a function of the exponent's bits, answers the power modulo 2^61 - 1, and leaves the memory that was there as it was: for all numbers of 64 bits, no other condition.
-/
import Derived.Test.YtjpdlnemkhofmaaOpsA
import Derived.RangeFuncNested
import Derived.RangeFuncBound
import Derived.RangeFuncCalls
import Derived.RangeFuncLeaves
import Derived.Shelf.Abstract
import Derived.Shelf.RegionOpen
import Derived.WalkKit
import Derived.OwnWalkIn
import Derived.TacticsInMore
import Derived.LoopNIn
import Derived.LoopIn
namespace Go.Proofs.Ytjpdlnemkhofmaa
open Go.RowKit Go.Shelf
attribute [local go_sem] Oper.semAt_some

namespace Fld
/-- The bits of a number, the least first, up to the last that is 1 (the first number: as many rounds as there may be). -/
def bitsIn : Nat → Nat → List Bool
  | 0, _ => []
  | f + 1, n => if n = 0 then [] else decide (n % 2 = 1) :: bitsIn f (n / 2)
def bits (n : Nat) : List Bool := bitsIn n n
theorem bitsIn_any : ∀ (f g n : Nat), n ≤ f → n ≤ g → bitsIn f n = bitsIn g n
  | 0, 0, _, _, _ => rfl
  | 0, g + 1, n, h, _ => by
    obtain rfl : n = 0 := by omega
    simp [bitsIn]
  | f + 1, 0, n, _, h => by
    obtain rfl : n = 0 := by omega
    simp [bitsIn]
  | f + 1, g + 1, n, h, k => by
    by_cases h0 : n = 0
    · simp [bitsIn, h0]
    · simp only [bitsIn, h0, if_false]
      rw [bitsIn_any f g (n / 2) (by omega) (by omega)]
theorem bits_zero : bits 0 = [] := rfl
theorem bits_pos (n : Nat) (h : n ≠ 0) : bits n = decide (n % 2 = 1) :: bits (n / 2) := by
  obtain ⟨m, rfl⟩ := Nat.exists_eq_succ_of_ne_zero h
  show (if m.succ = 0 then [] else decide (m.succ % 2 = 1) :: bitsIn m (m.succ / 2)) = _
  rw [if_neg h, bitsIn_any m (m.succ / 2) _ (by omega) (Nat.le_refl _)]
  rfl

/-- One round: power and square. -/
def step (s : Nat × Nat) (x : Bool) : Nat × Nat := (if x then mul s.1 s.2 else s.1, mul s.2 s.2)
def run (a : Nat) (pre : List Bool) : Nat × Nat := pre.foldl step (1, num a)
theorem run_snoc (a : Nat) (pre : List Bool) (x : Bool) : run a (pre ++ [x]) = step (run a pre) x := by simp [run]

theorem half_pow (b k : Nat) : mul b b ^ (k / 2) % P = b ^ (k / 2 * 2) % P := by
  show (b * b % P) ^ (k / 2) % P = _
  rw [← Nat.pow_mod, Nat.mul_comm (k / 2) 2, Nat.pow_mul, Nat.pow_two]

theorem step_even (o b k : Nat) (h : k % 2 = 0) : o * mul b b ^ (k / 2) % P = o * b ^ k % P := by
  rw [Nat.mul_mod, half_pow, ← Nat.mul_mod, show k / 2 * 2 = k by omega]
theorem step_odd (o b k : Nat) (h : k % 2 = 1) : mul o b * mul b b ^ (k / 2) % P = o * b ^ k % P := by
  rw [Nat.mul_mod, half_pow, ← Nat.mul_mod]
  show o * b % P * b ^ (k / 2 * 2) % P = _
  rw [Nat.mul_mod, Nat.mod_mod, ← Nat.mul_mod, Nat.mul_assoc, show k = k / 2 * 2 + 1 by omega, Nat.pow_succ, Nat.mul_comm b]
  rw [show (k / 2 * 2 + 1) / 2 = k / 2 by omega]

theorem fold_bits : ∀ (f k : Nat) (o b : Nat), k < f → ((bits k).foldl step (o, b)).1 % P = o * b ^ k % P
  | 0, k, _, _, h => absurd h (Nat.not_lt_zero k)
  | f + 1, k, o, b, h => by
    by_cases h0 : k = 0
    · subst h0; rw [bits_zero]; simp
    · rw [bits_pos k h0, List.foldl_cons]
      by_cases h1 : k % 2 = 1
      · simp only [step, h1, decide_true, if_true]
        rw [fold_bits f (k / 2) _ _ (by omega)]
        exact step_odd o b k h1
      · have h2 : k % 2 = 0 := by omega
        simp only [step, h2, show decide ((0 : Nat) = 1) = false from rfl, Bool.false_eq_true, if_false]
        rw [fold_bits f (k / 2) _ _ (by omega)]
        exact step_even o b k h2

theorem run_lt (a : Nat) (pre : List Bool) : (run a pre).1 < 2305843009213693951 ∧ (run a pre).2 < 2305843009213693951 := by
  have key : ∀ (l : List Bool) (s : Nat × Nat), s.1 < 2305843009213693951 ∧ s.2 < 2305843009213693951 → (l.foldl step s).1 < 2305843009213693951 ∧ (l.foldl step s).2 < 2305843009213693951 := by
    intro l
    induction l with
    | nil => intro s h; exact h
    | cons x l ih =>
      intro s h
      refine ih _ ⟨?_, mul_lt _ _⟩
      show (if x then mul s.1 s.2 else s.1) < _
      cases x
      · exact h.1
      · exact mul_lt _ _
  exact key pre _ ⟨show 1 < 2305843009213693951 by omega, num_lt _⟩

theorem run_bits (a n : Nat) : (run a (bits n)).1 = pow a n := by
  have h := fold_bits (n + 1) n 1 (num a) (Nat.lt_succ_self n)
  have hl := (run_lt a (bits n)).1
  have e : (run a (bits n)).1 % P = (run a (bits n)).1 := Nat.mod_eq_of_lt hl
  rw [← e]
  refine h.trans ?_
  show 1 * (a % P) ^ n % P = a ^ n % P
  rw [Nat.one_mul, ← Nat.pow_mod]

theorem bits_len : ∀ (f n : Nat), n < 2 ^ f → (bits n).length ≤ f
  | 0, n, h => by
    have : n = 0 := by simpa using h
    subst this; rw [bits_zero]; exact Nat.le_refl _
  | f + 1, n, h => by
    by_cases h0 : n = 0
    · subst h0; rw [bits_zero]; exact Nat.zero_le _
    · rw [bits_pos n h0, List.length_cons]
      have := bits_len f (n / 2) (by rw [Nat.pow_succ] at h; omega)
      omega
end Fld

theorem cell_of_box_l {W : World} {B : Nat} {v : Value} {t : TypeId} (h : W.heap[B]? = some (.cells #[v] t (0, 0))) : W.cell? ⟨B, 0, none⟩ = some v ∧ W.frozen? ⟨B, 0, none⟩ = false := by
  constructor <;> simp [World.cell?, World.frozen?, h]
theorem cell_new_l (W : World) (v : Value) (t : TypeId) : (W.alloc (.cells #[v] t)).cell? ⟨W.heap.size, 0, none⟩ = some v ∧ (W.alloc (.cells #[v] t)).frozen? ⟨W.heap.size, 0, none⟩ = false :=
  cell_of_box_l (World.alloc_heap_new W _)
theorem cell_alloc_l {W : World} {a : Addr} {v : Value} (o : Obj) (h : W.cell? a = some v) : (W.alloc o).cell? a = some v := cell_kept h (World.grownBy_alloc W o none) (fun r e => by cases e)
theorem frozen_alloc_l {W : World} {a : Addr} {v : Value} (o : Obj) (h : W.cell? a = some v) (hf : W.frozen? a = false) : (W.alloc o).frozen? a = false := (frozen_kept h (World.grownBy_alloc W o none) (fun r e => by cases e)).trans hf

theorem cell_other (W : World) {A B : Nat} (u : Value) (h : A ≠ B) : (W.setCell ⟨B, 0, none⟩ u).cell? ⟨A, 0, none⟩ = W.cell? ⟨A, 0, none⟩ :=
  World.cell?_of_block (Below.heap_setCell W ⟨B, 0, none⟩ u A h)

end Go.Proofs.Ytjpdlnemkhofmaa
