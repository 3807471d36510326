/-
  The words of the chapter on package pack, over natural numbers and lists of bytes: the bytes of a number, of a text, of a truth, of a name; what is read of bytes, how many, what is wrong. What is written is read; what is read, written again, is the same; no beginning is whole.
-/
import Derived.Test.YtkicjjcangkneaaGreatDoorLawH
namespace Go.Proofs.YtkicjjcangkneaaGreatDoor
namespace Pk

/-! ### numbers with a sign -/
def zig (n : Int) : Nat := if n < 0 then 2 * (-(n + 1)).toNat + 1 else 2 * n.toNat
def zag (u : Nat) : Int := if u % 2 = 1 then -((u / 2 : Nat) : Int) - 1 else ((u / 2 : Nat) : Int)
theorem zag_zig (n : Int) : zag (zig n) = n := by
  unfold zag zig
  split <;> split <;> omega
theorem zig_zag (u : Nat) : zig (zag u) = u := by
  unfold zag zig
  split <;> split <;> omega
theorem zig_lt (n : Int) (h1 : -9223372036854775808 ≤ n) (h2 : n ≤ 9223372036854775807) : zig n < 18446744073709551616 := by
  unfold zig
  split <;> omega
theorem zag_lt (u : Nat) (h : u < 18446744073709551616) : -9223372036854775808 ≤ zag u ∧ zag u ≤ 9223372036854775807 := by
  unfold zag
  split <;> omega
theorem zag_zero : zag 0 = 0 := by unfold zag; simp
theorem zig_nn (n : Nat) : zig (n : Int) = 2 * n := by
  unfold zig
  split <;> omega

/-! ### the sevens of a number -/
def num (k : Nat) : List UInt8 := if h : k < 128 then [UInt8.ofNat k] else UInt8.ofNat (k % 128 + 128) :: num (k / 128)
termination_by k
decreasing_by omega
theorem num_small {k : Nat} (h : k < 128) : num k = [UInt8.ofNat k] := by rw [num, dif_pos h]
theorem num_big {k : Nat} (h : ¬ k < 128) : num k = UInt8.ofNat (k % 128 + 128) :: num (k / 128) := by rw [num, dif_neg h]
theorem of_nat {k : Nat} (h : k < 256) : (UInt8.ofNat k).toNat = k := by rw [UInt8.toNat_ofNat']; omega
theorem to_nat (c : UInt8) : UInt8.ofNat c.toNat = c := by simp
theorem num_pos (k : Nat) : 0 < (num k).length := by
  rw [num]
  split <;> simp
theorem num_len (t : Nat) : ∀ k, k < 2 * 128 ^ t → (num k).length ≤ t + 1 := by
  induction t with
  | zero => intro k hk; rw [num_small (by omega)]; simp
  | succ t ih =>
    intro k hk
    by_cases h : k < 128
    · rw [num_small h]; simp
    · rw [num_big h, List.length_cons]
      have := ih (k / 128) (by rw [Nat.pow_succ] at hk; omega)
      omega
theorem num_len10 (k : Nat) (hk : k < 18446744073709551616) : (num k).length ≤ 10 := num_len 9 k hk

/-! ### what is read -/
structure R (α : Type) where
  v : α
  n : Nat
  e : Int
def lift (a j : Nat) (q : R Nat) : R Nat := if q.e = 0 then ⟨a + 128 ^ j * q.v, q.n + j, 0⟩ else ⟨0, 0, q.e⟩
def sev : Nat → List UInt8 → R Nat
  | _, [] => ⟨0, 0, 9⟩
  | j, c :: r => if (0 < j ∧ c.toNat = 0) ∨ (j = 9 ∧ 1 < c.toNat) then ⟨0, 0, 7⟩ else if c.toNat < 128 then ⟨c.toNat, 1, 0⟩ else lift (c.toNat - 128) 1 (sev (j + 1) r)
theorem sev_nil (j : Nat) : sev j [] = ⟨0, 0, 9⟩ := by rw [sev]
theorem sev_bad {j : Nat} {c : UInt8} {r : List UInt8} (h : (0 < j ∧ c.toNat = 0) ∨ (j = 9 ∧ 1 < c.toNat)) : sev j (c :: r) = ⟨0, 0, 7⟩ := by rw [sev, if_pos h]
theorem sev_last {j : Nat} {c : UInt8} {r : List UInt8} (h : ¬ ((0 < j ∧ c.toNat = 0) ∨ (j = 9 ∧ 1 < c.toNat))) (hc : c.toNat < 128) : sev j (c :: r) = ⟨c.toNat, 1, 0⟩ := by rw [sev, if_neg h, if_pos hc]
theorem sev_more {j : Nat} {c : UInt8} {r : List UInt8} (h : ¬ ((0 < j ∧ c.toNat = 0) ∨ (j = 9 ∧ 1 < c.toNat))) (hc : ¬ c.toNat < 128) : sev j (c :: r) = lift (c.toNat - 128) 1 (sev (j + 1) r) := by rw [sev, if_neg h, if_neg hc]
theorem lift_zero (a j : Nat) {q : R Nat} (h : q.e = 0) : lift a j q = ⟨a + 128 ^ j * q.v, q.n + j, 0⟩ := by rw [lift, if_pos h]
theorem lift_bad (a j : Nat) {q : R Nat} (h : q.e ≠ 0) : lift a j q = ⟨0, 0, q.e⟩ := by rw [lift, if_neg h]
theorem lift_lift (a b j : Nat) (q : R Nat) : lift a j (lift b 1 q) = lift (a + 128 ^ j * b) (j + 1) q := by
  by_cases h : q.e = 0
  · rw [lift_zero b 1 h, lift_zero _ _ rfl, lift_zero _ _ h]
    congr 1
    · show a + 128 ^ j * (b + 128 ^ 1 * q.v) = _
      rw [Nat.pow_one, Nat.mul_add, ← Nat.mul_assoc, ← Nat.pow_succ, Nat.add_assoc]
    · show q.n + 1 + j = _
      omega
  · rw [lift_bad b 1 h, lift_bad _ _ (by exact h), lift_bad _ _ h]
theorem lift_id (q : R Nat) (h : q.e ≠ 0 → q.v = 0 ∧ q.n = 0) : lift 0 0 q = q := by
  by_cases h0 : q.e = 0
  · rw [lift_zero _ _ h0]
    cases q
    simp at h0 ⊢
    exact h0.symm
  · obtain ⟨h1, h2⟩ := h h0
    rw [lift_bad _ _ h0]
    cases q
    simp at h1 h2 ⊢
    exact ⟨h1.symm, h2.symm⟩

theorem sev_none : ∀ (l : List UInt8) (j : Nat), (sev j l).e ≠ 0 → (sev j l).v = 0 ∧ (sev j l).n = 0
  | [], j, _ => by rw [sev_nil]; exact ⟨rfl, rfl⟩
  | c :: r, j, he => by
    by_cases h : (0 < j ∧ c.toNat = 0) ∨ (j = 9 ∧ 1 < c.toNat)
    · rw [sev_bad h]; exact ⟨rfl, rfl⟩
    · by_cases hc : c.toNat < 128
      · rw [sev_last h hc] at he; exact absurd rfl he
      · rw [sev_more h hc] at he ⊢
        by_cases h0 : (sev (j + 1) r).e = 0
        · rw [lift_zero _ _ h0] at he; exact absurd rfl he
        · rw [lift_bad _ _ h0]; exact ⟨rfl, rfl⟩
theorem sev_at (l : List UInt8) : sev 0 l = lift 0 0 (sev 0 l) := (lift_id _ (sev_none l 0)).symm
theorem sev_err : ∀ (l : List UInt8) (j : Nat), (sev j l).e = 0 ∨ (sev j l).e = 7 ∨ (sev j l).e = 9
  | [], j => by rw [sev_nil]; exact .inr (.inr rfl)
  | c :: r, j => by
    by_cases h : (0 < j ∧ c.toNat = 0) ∨ (j = 9 ∧ 1 < c.toNat)
    · rw [sev_bad h]; exact .inr (.inl rfl)
    · by_cases hc : c.toNat < 128
      · rw [sev_last h hc]; exact .inl rfl
      · rw [sev_more h hc]
        by_cases h0 : (sev (j + 1) r).e = 0
        · rw [lift_zero _ _ h0]; exact .inl rfl
        · rw [lift_bad _ _ h0]; exact sev_err r (j + 1)
theorem sev_len : ∀ (l : List UInt8) (j : Nat), (sev j l).n ≤ l.length ∧ ((sev j l).e = 0 → 0 < (sev j l).n)
  | [], j => by rw [sev_nil]; exact ⟨Nat.le_refl _, fun h => absurd h (by decide)⟩
  | c :: r, j => by
    by_cases h : (0 < j ∧ c.toNat = 0) ∨ (j = 9 ∧ 1 < c.toNat)
    · rw [sev_bad h]; exact ⟨Nat.zero_le _, fun h => absurd h (by decide)⟩
    · by_cases hc : c.toNat < 128
      · rw [sev_last h hc]; exact ⟨by simp, fun _ => Nat.zero_lt_one⟩
      · rw [sev_more h hc]
        have ih := sev_len r (j + 1)
        by_cases h0 : (sev (j + 1) r).e = 0
        · rw [lift_zero _ _ h0, List.length_cons]; exact ⟨by show _ + 1 ≤ _; omega, fun _ => by show 0 < _ + 1; omega⟩
        · rw [lift_bad _ _ h0]; exact ⟨Nat.zero_le _, fun h => absurd h h0⟩
theorem sev_pos : ∀ (l : List UInt8) (j : Nat), 0 < j → (sev j l).e = 0 → 0 < (sev j l).v
  | [], j, _, he => by rw [sev_nil] at he; exact absurd he (by decide)
  | c :: r, j, hj, he => by
    by_cases h : (0 < j ∧ c.toNat = 0) ∨ (j = 9 ∧ 1 < c.toNat)
    · rw [sev_bad h] at he; exact absurd he (by decide)
    · by_cases hc : c.toNat < 128
      · rw [sev_last h hc]; show 0 < c.toNat; omega
      · rw [sev_more h hc] at he ⊢
        by_cases h0 : (sev (j + 1) r).e = 0
        · rw [lift_zero _ _ h0]
          have := sev_pos r (j + 1) (by omega) h0
          show 0 < _ + 128 ^ 1 * _
          omega
        · rw [lift_bad _ _ h0] at he; exact absurd he h0
theorem sev_lt (t : Nat) : ∀ (l : List UInt8) (j : Nat), j + t = 9 → (sev j l).v < 2 * 128 ^ t := by
  induction t with
  | zero =>
    intro l j hj
    cases l with
    | nil => rw [sev_nil]; show 0 < _; omega
    | cons c r =>
      by_cases h : (0 < j ∧ c.toNat = 0) ∨ (j = 9 ∧ 1 < c.toNat)
      · rw [sev_bad h]; show 0 < _; omega
      · by_cases hc : c.toNat < 128
        · rw [sev_last h hc]; show c.toNat < _; omega
        · omega
  | succ t ih =>
    intro l j hj
    have hp : 0 < 128 ^ t := Nat.pow_pos (by decide)
    cases l with
    | nil => rw [sev_nil]; show 0 < _; rw [Nat.pow_succ]; omega
    | cons c r =>
      by_cases h : (0 < j ∧ c.toNat = 0) ∨ (j = 9 ∧ 1 < c.toNat)
      · rw [sev_bad h]; show 0 < _; rw [Nat.pow_succ]; omega
      · by_cases hc : c.toNat < 128
        · rw [sev_last h hc]; show c.toNat < _; rw [Nat.pow_succ]; omega
        · rw [sev_more h hc]
          have hb := c.toNat_lt
          by_cases h0 : (sev (j + 1) r).e = 0
          · rw [lift_zero _ _ h0]
            have := ih r (j + 1) (by omega)
            show c.toNat - 128 + 128 ^ 1 * _ < _
            rw [Nat.pow_succ]; omega
          · rw [lift_bad _ _ h0]; show 0 < _; rw [Nat.pow_succ]; omega
theorem sev_lt64 (l : List UInt8) : (sev 0 l).v < 18446744073709551616 := sev_lt 9 l 0 rfl

/-! ### what is written is read -/
theorem sev_num (t : Nat) : ∀ (k j : Nat) (r : List UInt8), j + t = 9 → k < 2 * 128 ^ t → (0 < j → 0 < k) → sev j (num k ++ r) = ⟨k, (num k).length, 0⟩ := by
  induction t with
  | zero =>
    intro k j r hj hk h0
    rw [num_small (by omega)]
    show sev j (UInt8.ofNat k :: r) = _
    have e := of_nat (k := k) (by omega)
    rw [sev_last (by rw [e]; omega) (by rw [e]; omega), e]
    rfl
  | succ t ih =>
    intro k j r hj hk h0
    by_cases h : k < 128
    · rw [num_small h]
      show sev j (UInt8.ofNat k :: r) = _
      have e := of_nat (k := k) (by omega)
      rw [sev_last (by rw [e]; omega) (by rw [e]; omega), e]
      rfl
    · rw [num_big h]
      show sev j (UInt8.ofNat (k % 128 + 128) :: (num (k / 128) ++ r)) = _
      have e := of_nat (k := k % 128 + 128) (by omega)
      rw [sev_more (by rw [e]; omega) (by rw [e]; omega), e, ih (k / 128) (j + 1) r (by omega) (by rw [Nat.pow_succ] at hk; omega) (by omega), lift_zero _ _ rfl, List.length_cons]
      rw [show k % 128 + 128 - 128 + 128 ^ 1 * (k / 128) = k by omega]
theorem sev_num0 (k : Nat) (r : List UInt8) (hk : k < 18446744073709551616) : sev 0 (num k ++ r) = ⟨k, (num k).length, 0⟩ := sev_num 9 k 0 r rfl hk (by omega)

/-! ### what is read, written again -/
theorem num_sev : ∀ (l : List UInt8) (j : Nat), (sev j l).e = 0 → num (sev j l).v = l.take (sev j l).n
  | [], j, he => by rw [sev_nil] at he; exact absurd he (by decide)
  | c :: r, j, he => by
    by_cases h : (0 < j ∧ c.toNat = 0) ∨ (j = 9 ∧ 1 < c.toNat)
    · rw [sev_bad h] at he; exact absurd he (by decide)
    · by_cases hc : c.toNat < 128
      · rw [sev_last h hc]
        show num c.toNat = (c :: r).take 1
        rw [num_small hc, to_nat]
        rfl
      · rw [sev_more h hc] at he ⊢
        have hb := c.toNat_lt
        by_cases h0 : (sev (j + 1) r).e = 0
        · rw [lift_zero _ _ h0]
          have hp := sev_pos r (j + 1) (by omega) h0
          have ih := num_sev r (j + 1) h0
          show num (c.toNat - 128 + 128 ^ 1 * (sev (j + 1) r).v) = (c :: r).take ((sev (j + 1) r).n + 1)
          rw [num_big (by omega), List.take_succ_cons, ← ih]
          rw [show (c.toNat - 128 + 128 ^ 1 * (sev (j + 1) r).v) % 128 + 128 = c.toNat by omega, to_nat, show (c.toNat - 128 + 128 ^ 1 * (sev (j + 1) r).v) / 128 = (sev (j + 1) r).v by omega]
        · rw [lift_bad _ _ h0] at he; exact absurd he h0

/-! ### no beginning is whole -/
theorem sev_cut (t : Nat) : ∀ (k j i : Nat), j + t = 9 → k < 2 * 128 ^ t → i < (num k).length → sev j ((num k).take i) = ⟨0, 0, 9⟩ := by
  induction t with
  | zero =>
    intro k j i hj hk hi
    rw [num_small (by omega)] at hi ⊢
    rw [List.length_singleton] at hi
    rw [show i = 0 by omega, List.take_zero, sev_nil]
  | succ t ih =>
    intro k j i hj hk hi
    rcases i with _ | i
    · rw [List.take_zero, sev_nil]
    · by_cases h : k < 128
      · rw [num_small h, List.length_singleton] at hi
        omega
      · rw [num_big h, List.length_cons] at hi
        rw [num_big h, List.take_succ_cons]
        have e := of_nat (k := k % 128 + 128) (by omega)
        rw [sev_more (by rw [e]; omega) (by rw [e]; omega), ih (k / 128) (j + 1) i (by omega) (by rw [Nat.pow_succ] at hk; omega) (by omega)]
        rfl
theorem sev_cut0 (k i : Nat) (hk : k < 18446744073709551616) (hi : i < (num k).length) : sev 0 ((num k).take i) = ⟨0, 0, 9⟩ := sev_cut 9 k 0 i rfl hk hi

/-! ### the ways of reading -/
structure Nm where
  a : Int
  b : Int
  c : Nat
def pNum (l : List UInt8) : R Nat := sev 0 l
def pInt (l : List UInt8) : R Int := ⟨zag (pNum l).v, (pNum l).n, (pNum l).e⟩
def pMany (m : Int) (l : List UInt8) : R Int := if (pInt l).e = 0 ∧ ((pInt l).v < 0 ∨ m < (pInt l).v) then ⟨0, 0, 7⟩ else pInt l
def pBool (l : List UInt8) : R Bool := ⟨decide ((pMany 1 l).v = 1), (pMany 1 l).n, (pMany 1 l).e⟩
def pText (l : List UInt8) : R (List UInt8) :=
  if (pInt l).e ≠ 0 then ⟨[], 0, (pInt l).e⟩ else if (pInt l).v < 0 then ⟨[], 0, 7⟩ else if ((l.length - (pInt l).n : Nat) : Int) < (pInt l).v then ⟨[], 0, 9⟩
  else ⟨(l.drop (pInt l).n).take (pInt l).v.toNat, (pInt l).n + (pInt l).v.toNat, 0⟩
def pName (l : List UInt8) : R Nm :=
  if (pInt l).e ≠ 0 then ⟨⟨0, 0, 0⟩, 0, (pInt l).e⟩
  else if (pInt (l.drop (pInt l).n)).e ≠ 0 then ⟨⟨0, 0, 0⟩, 0, (pInt (l.drop (pInt l).n)).e⟩
  else if (pNum (l.drop ((pInt l).n + (pInt (l.drop (pInt l).n)).n))).e ≠ 0 then ⟨⟨0, 0, 0⟩, 0, (pNum (l.drop ((pInt l).n + (pInt (l.drop (pInt l).n)).n))).e⟩
  else ⟨⟨(pInt l).v, (pInt (l.drop (pInt l).n)).v, (pNum (l.drop ((pInt l).n + (pInt (l.drop (pInt l).n)).n))).v⟩, (pInt l).n + (pInt (l.drop (pInt l).n)).n + (pNum (l.drop ((pInt l).n + (pInt (l.drop (pInt l).n)).n))).n, 0⟩
/-- What is read where e is wrong already (0: nothing is). -/
def stp {α : Type} (z : α) (e : Int) (q : R α) : R α := if e = 0 then q else ⟨z, 0, e⟩
theorem stp_ok {α : Type} (z : α) (q : R α) : stp z 0 q = q := if_pos rfl
theorem stp_bad {α : Type} (z : α) {e : Int} (q : R α) (h : e ≠ 0) : stp z e q = ⟨z, 0, e⟩ := if_neg h

end Pk
end Go.Proofs.YtkicjjcangkneaaGreatDoor
