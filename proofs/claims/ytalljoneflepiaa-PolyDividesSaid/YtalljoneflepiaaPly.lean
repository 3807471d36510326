/-
  POLYNOMIALS OVER THE FIELD OF 2^61 - 1 ELEMENTS, WITHOUT ANY PROGRAM: rows of coefficients, sums and products, degrees, values, division, common divisors, roots. No condition.
-/
import Derived.Test.YtalljoneflepiaaOpsA
namespace Go.Proofs.Ytalljoneflepiaa

namespace Fld
instance : NeZero P := ⟨by decide⟩
/-- The field. -/
abbrev F := Fin P
/-- A number, modulo the prime. -/
def to (n : Nat) : F := Fin.ofNat P n
theorem to_val (n : Nat) : (to n).val = n % P := rfl
theorem to_num (n : Nat) : to (num n) = to n := Fin.ext (by simp [to_val, num])
theorem to_mod (n : Nat) : to (n % P) = to n := Fin.ext (by simp [to_val])
theorem to_self (x : F) : to x.val = x := Fin.ext (by rw [to_val]; exact Nat.mod_eq_of_lt x.isLt)
theorem val_to {n : Nat} (h : n < 2305843009213693951) : (to n).val = n := Nat.mod_eq_of_lt h
theorem to_inj {a b : Nat} (ha : a < 2305843009213693951) (hb : b < 2305843009213693951) (h : to a = to b) : a = b := by
  rw [← val_to ha, ← val_to hb, h]
theorem to_add (a b : Nat) : to (a + b) = to a + to b := Fin.ext (by rw [Fin.val_add, to_val, to_val, to_val]; exact Nat.add_mod a b P)
theorem to_mul (a b : Nat) : to (a * b) = to a * to b := Fin.ext (by rw [Fin.val_mul, to_val, to_val, to_val]; exact Nat.mul_mod a b P)
theorem to_zero : to 0 = 0 := rfl
theorem to_one : to 1 = 1 := rfl
theorem to_addF (a b : Nat) : to (add a b) = to a + to b := by rw [← to_add]; exact to_mod _
theorem to_mulF (a b : Nat) : to (mul a b) = to a * to b := by rw [← to_mul]; exact to_mod _
theorem to_subF (a b : Nat) : to (sub a b) = to a - to b := by
  refine Fin.ext ?_
  rw [Fin.val_sub, to_val, to_val, to_val]
  show (a % P + (P - b % P)) % P % P = _
  rw [Nat.mod_mod, Nat.add_comm]
/-- A power. -/
def up (a : F) : Nat → F
  | 0 => 1
  | n + 1 => up a n * a
theorem up_zero (a : F) : up a 0 = 1 := rfl
theorem up_succ (a : F) (n : Nat) : up a (n + 1) = up a n * a := rfl
theorem to_pow (a n : Nat) : to (a ^ n) = up (to a) n := by
  induction n with
  | zero => rfl
  | succ n ih => rw [Nat.pow_succ, to_mul, ih, up_succ]
theorem to_powF (a n : Nat) : to (pow a n) = up (to a) n := by rw [← to_pow]; exact to_mod _
theorem to_zero_iff (a : Nat) : to a = 0 ↔ a % P = 0 := by
  constructor
  · intro h; rw [← to_val, h]; rfl
  · intro h; exact Fin.ext (by rw [to_val, h]; rfl)
theorem mul_eq_zero {a b : F} : a * b = 0 ↔ a = 0 ∨ b = 0 := by
  have h := mul_zero_iff a.val b.val
  rw [← to_zero_iff, ← to_zero_iff, ← to_zero_iff, to_mul, to_self, to_self] at h
  exact h
theorem mul_ne {a b : F} (ha : a ≠ 0) (hb : b ≠ 0) : a * b ≠ 0 := fun h => (mul_eq_zero.1 h).elim ha hb
theorem one_ne : (1 : F) ≠ 0 := fun h => absurd (congrArg Fin.val h) (by decide)
/-- What a number is multiplied by, to be 1. -/
def iv (a : F) : F := up a 2305843009213693949
theorem fermatF {a : F} (h : a ≠ 0) : up a 2305843009213693950 = 1 := by
  have h1 : a.val % P ≠ 0 := fun e => h (by rw [← to_self a]; exact (to_zero_iff _).2 e)
  have h2 := fermat a.val h1
  have h3 : to (a.val ^ N) = to 1 := Fin.ext (by rw [to_val, to_val, h2]; rfl)
  rw [to_pow, to_self] at h3
  exact h3
theorem mul_iv {a : F} (h : a ≠ 0) : a * iv a = 1 := by
  have h1 := fermatF h
  rw [show (2305843009213693950 : Nat) = 2305843009213693949 + 1 from rfl, up_succ] at h1
  rw [Fin.mul_comm]; exact h1
theorem sub_zero (a : F) : a - 0 = a := by grind
theorem iv_ne {a : F} (h : a ≠ 0) : iv a ≠ 0 := fun e => one_ne (by rw [← mul_iv h, e, Fin.mul_zero])
theorem to_powI (a : Nat) : to (pow a 2305843009213693949) = iv (to a) := to_powF _ _
attribute [irreducible] iv
end Fld

open Fld (F to)

/-- A row of coefficients, the least power first. -/
def Pl := Nat → F
namespace Pl
theorem ext {s t : Pl} (h : ∀ n, s n = t n) : s = t := funext h
def tl (s : Pl) : Pl := fun n => s (n + 1)
def mulAt : Nat → Pl → Pl → F
  | 0, s, t => s 0 * t 0
  | n + 1, s, t => s 0 * t (n + 1) + mulAt n (tl s) t
instance : Add Pl := ⟨fun s t n => s n + t n⟩
instance : Sub Pl := ⟨fun s t n => s n - t n⟩
instance : Mul Pl := ⟨fun s t n => mulAt n s t⟩
def zero : Pl := fun _ => 0
instance : Zero Pl := ⟨zero⟩
def C (c : F) : Pl := fun n => if n = 0 then c else 0
/-- Times x. -/
def sh (s : Pl) : Pl
  | 0 => 0
  | n + 1 => s n
def X : Pl := sh (C 1)
theorem zero_at (n : Nat) : (0 : Pl) n = 0 := rfl
theorem add_at (s t : Pl) (n : Nat) : (s + t) n = s n + t n := rfl
theorem sub_at (s t : Pl) (n : Nat) : (s - t) n = s n - t n := rfl
theorem mul_at (s t : Pl) (n : Nat) : (s * t) n = mulAt n s t := rfl
theorem mul_0 (s t : Pl) : (s * t) 0 = s 0 * t 0 := rfl
theorem mul_s (s t : Pl) (n : Nat) : (s * t) (n + 1) = s 0 * t (n + 1) + (tl s * t) n := rfl
theorem tl_at (s : Pl) (n : Nat) : tl s n = s (n + 1) := rfl
theorem C_0 (c : F) : C c 0 = c := rfl
theorem C_s (c : F) (n : Nat) : C c (n + 1) = 0 := rfl
theorem sh_0 (s : Pl) : sh s 0 = 0 := rfl
theorem sh_s (s : Pl) (n : Nat) : sh s (n + 1) = s n := rfl

theorem add_comm (s t : Pl) : s + t = t + s := ext fun n => by simp only [add_at]; grind
theorem add_assoc (s t u : Pl) : s + t + u = s + (t + u) := ext fun n => by simp only [add_at]; grind
theorem add_left_comm (s t u : Pl) : s + (t + u) = t + (s + u) := ext fun n => by simp only [add_at]; grind
theorem zero_add (s : Pl) : 0 + s = s := ext fun n => by simp only [add_at, zero_at]; grind
theorem add_zero (s : Pl) : s + 0 = s := ext fun n => by simp only [add_at, zero_at]; grind
theorem sub_self (s : Pl) : s - s = 0 := ext fun n => by simp only [sub_at, zero_at]; grind
theorem sub_zero (s : Pl) : s - 0 = s := ext fun n => by simp only [sub_at, zero_at]; grind
theorem sub_eq_zero {s t : Pl} (h : s - t = 0) : s = t := ext fun n => by have := congrFun h n; simp only [sub_at, zero_at] at this; grind
theorem add_sub (s t : Pl) : s + t - t = s := ext fun n => by simp only [sub_at, add_at]; grind
theorem sub_add (s t : Pl) : s - t + t = s := ext fun n => by simp only [sub_at, add_at]; grind
theorem add_mul_at : ∀ (n : Nat) (s t u : Pl), ((s + t) * u) n = (s * u) n + (t * u) n
  | 0, s, t, u => by simp only [mul_0, add_at]; grind
  | n + 1, s, t, u => by
    have h := add_mul_at n (tl s) (tl t) u
    have e : tl (s + t) = tl s + tl t := rfl
    simp only [mul_s, add_at, e, h]; grind
theorem mul_add_at : ∀ (n : Nat) (u s t : Pl), (u * (s + t)) n = (u * s) n + (u * t) n
  | 0, s, t, u => by simp only [mul_0, add_at]; grind
  | n + 1, u, s, t => by
    have h := mul_add_at n (tl u) s t
    simp only [mul_s, add_at, h]; grind
theorem sub_mul_at : ∀ (n : Nat) (s t u : Pl), ((s - t) * u) n = (s * u) n - (t * u) n
  | 0, s, t, u => by simp only [mul_0, sub_at]; grind
  | n + 1, s, t, u => by
    have h := sub_mul_at n (tl s) (tl t) u
    have e : tl (s - t) = tl s - tl t := rfl
    simp only [mul_s, sub_at, e, h]; grind
theorem add_mul (s t u : Pl) : (s + t) * u = s * u + t * u := ext fun n => add_mul_at n s t u
theorem mul_add (u s t : Pl) : u * (s + t) = u * s + u * t := ext fun n => mul_add_at n u s t
theorem sub_mul (s t u : Pl) : (s - t) * u = s * u - t * u := ext fun n => sub_mul_at n s t u
theorem mul_right : ∀ (n : Nat) (s t : Pl), (s * t) (n + 1) = s (n + 1) * t 0 + (s * tl t) n
  | 0, s, t => by simp only [mul_s, mul_0, tl_at]; grind
  | n + 1, s, t => by
    have h := mul_right n (tl s) t
    rw [mul_s, h, mul_s]
    simp only [tl_at]; grind
theorem mul_comm_at : ∀ (n : Nat) (s t : Pl), (s * t) n = (t * s) n
  | 0, s, t => by simp only [mul_0]; grind
  | n + 1, s, t => by
    rw [mul_right, mul_s, mul_comm_at n s (tl t)]; grind
theorem mul_comm (s t : Pl) : s * t = t * s := ext fun n => mul_comm_at n s t
theorem zero_mul_at : ∀ (n : Nat) (s : Pl), ((0 : Pl) * s) n = 0
  | 0, s => by simp only [mul_0, zero_at]; grind
  | n + 1, s => by rw [mul_s, show tl 0 = 0 from rfl, zero_mul_at n s, zero_at]; exact (Fin.add_zero _).trans (Fin.zero_mul _)
theorem zero_mul (s : Pl) : 0 * s = 0 := ext fun n => zero_mul_at n s
theorem mul_zero (s : Pl) : s * 0 = 0 := by rw [mul_comm, zero_mul]
theorem C_mul_at (c : F) (s : Pl) : ∀ n, (C c * s) n = c * s n
  | 0 => rfl
  | n + 1 => by rw [mul_s, show tl (C c) = 0 from rfl, zero_mul, zero_at, C_0]; grind
theorem smul_mul_at (c : F) : ∀ (n : Nat) (s t : Pl), ((C c * s) * t) n = c * (s * t) n
  | 0, s, t => by simp only [mul_0, C_0]; grind
  | n + 1, s, t => by
    have e : tl (C c * s) = C c * tl s := ext fun k => by rw [tl_at, C_mul_at, C_mul_at, tl_at]
    rw [mul_s, e, smul_mul_at c n (tl s) t, mul_s, C_mul_at]; grind
theorem tl_mul (s t : Pl) : tl (s * t) = C (s 0) * tl t + tl s * t := ext fun n => by
  rw [tl_at, mul_s, add_at, C_mul_at]; rfl
theorem mul_assoc_at : ∀ (n : Nat) (s t u : Pl), ((s * t) * u) n = (s * (t * u)) n
  | 0, s, t, u => by simp only [mul_0]; grind
  | n + 1, s, t, u => by
    rw [mul_s, tl_mul, add_mul_at, smul_mul_at, mul_assoc_at n (tl s) t u, mul_s, mul_0, mul_s]; grind
theorem mul_assoc (s t u : Pl) : (s * t) * u = s * (t * u) := ext fun n => mul_assoc_at n s t u
theorem mul_left_comm (s t u : Pl) : s * (t * u) = t * (s * u) := by rw [← mul_assoc, mul_comm s t, mul_assoc]
theorem one_mul (s : Pl) : C 1 * s = s := ext fun n => by rw [C_mul_at]; grind
theorem mul_one (s : Pl) : s * C 1 = s := by rw [mul_comm, one_mul]
theorem sh_mul (s t : Pl) : sh s * t = sh (s * t) := ext fun n => by
  cases n with
  | zero => rw [mul_0, sh_0, sh_0]; grind
  | succ n => rw [mul_s, sh_0, sh_s, show tl (sh s) = s from rfl]; grind
theorem X_mul (s : Pl) : X * s = sh s := by unfold X; rw [sh_mul, one_mul]
theorem parts (s : Pl) : s = C (s 0) + sh (tl s) := ext fun n => by
  cases n with
  | zero => rw [add_at, C_0, sh_0]; grind
  | succ n => rw [add_at, C_s, sh_s, tl_at]; grind
theorem mul_sub (u s t : Pl) : u * (s - t) = u * s - u * t := by rw [mul_comm, sub_mul, mul_comm s, mul_comm t]
theorem C_add (a b : F) : C (a + b) = C a + C b := ext fun n => by
  cases n with
  | zero => rfl
  | succ n => simp only [add_at, C_s]; (first | grind | simp)
theorem C_mul (a b : F) : C a * C b = C (a * b) := ext fun n => by
  rw [C_mul_at]
  cases n with
  | zero => rfl
  | succ n => simp only [C_s]; grind
theorem C_zero : C 0 = 0 := ext fun n => by cases n <;> rfl
theorem C_ne {c : F} (h : c ≠ 0) : C c ≠ 0 := fun e => h (congrFun e 0)

/-! ### how many coefficients -/
/-- Nothing from n on. -/
def Lt (s : Pl) (n : Nat) : Prop := ∀ i, n ≤ i → s i = 0
/-- It is a polynomial. -/
def Po (s : Pl) : Prop := ∃ n, Lt s n
/-- Its degree is d. -/
def Dg (s : Pl) (d : Nat) : Prop := s d ≠ 0 ∧ Lt s (d + 1)
theorem Lt.mono {s : Pl} {n m : Nat} (h : Lt s n) (hm : n ≤ m) : Lt s m := fun i hi => h i (by omega)
theorem Lt.zero (n : Nat) : Lt 0 n := fun _ _ => rfl
theorem Lt.add {s t : Pl} {n : Nat} (h : Lt s n) (k : Lt t n) : Lt (s + t) n := fun i hi => by rw [add_at, h i hi, k i hi]; (first | grind | simp)
theorem Lt.sub {s t : Pl} {n : Nat} (h : Lt s n) (k : Lt t n) : Lt (s - t) n := fun i hi => by rw [sub_at, h i hi, k i hi]; (first | grind | simp)
theorem Lt.smul {s : Pl} {n : Nat} (c : F) (h : Lt s n) : Lt (C c * s) n := fun i hi => by rw [C_mul_at, h i hi]; grind
theorem Lt.C (c : F) : Lt (C c) 1 := fun i hi => by obtain ⟨k, rfl⟩ : ∃ k, i = k + 1 := ⟨i - 1, by omega⟩; rfl
theorem Lt.sh {s : Pl} {n : Nat} (h : Lt s n) : Lt (sh s) (n + 1) := fun i hi => by
  obtain ⟨k, rfl⟩ : ∃ k, i = k + 1 := ⟨i - 1, by omega⟩
  exact h k (by omega)
theorem Lt.tl {s : Pl} {n : Nat} (h : Lt s (n + 1)) : Lt (tl s) n := fun i hi => h (i + 1) (by omega)
theorem Lt.eq_zero {s : Pl} (h : Lt s 0) : s = 0 := ext fun n => h n (Nat.zero_le n)
theorem Lt.mul : ∀ {n m : Nat} {s t : Pl}, Lt s n → Lt t m → Lt (s * t) (n + m)
  | 0, _, s, t, h, _ => by rw [h.eq_zero, zero_mul]; exact Lt.zero _
  | n + 1, m, s, t, h, k => fun i hi => by
    obtain ⟨j, rfl⟩ : ∃ j, i = j + 1 := ⟨i - 1, by omega⟩
    rw [mul_s, k (j + 1) (by omega), Lt.mul (Lt.tl h) k j (by omega)]; exact (Fin.add_zero _).trans (Fin.mul_zero _)
theorem top_mul : ∀ {d e : Nat} {s t : Pl}, Lt s (d + 1) → Lt t (e + 1) → (s * t) (d + e) = s d * t e
  | 0, e, s, t, h, k => by
    have hs : s = C (s 0) := by conv => lhs; rw [parts s, (Lt.tl h).eq_zero]
                                exact ext fun n => by cases n <;> simp only [add_at, C_0, C_s, sh_0, sh_s, zero_at] <;> (first | grind | simp)
    conv => lhs; rw [hs, Nat.zero_add, C_mul_at]
  | d + 1, e, s, t, h, k => by
    rw [show d + 1 + e = (d + e) + 1 by omega, mul_s, k (d + e + 1) (by omega), top_mul (Lt.tl h) k, tl_at]; grind
theorem Dg.mul {d e : Nat} {s t : Pl} (h : Dg s d) (k : Dg t e) : Dg (s * t) (d + e) :=
  ⟨by rw [top_mul h.2 k.2]; exact Fld.mul_ne h.1 k.1, fun i hi => (Lt.mul h.2 k.2).mono (m := d + 1 + (e + 1)) (Nat.le_refl _) |> fun hh => by
    by_cases hx : i = d + e + 1
    · subst hx
      -- one more than the top
      have h2 := top_mul (h.2.mono (Nat.le_succ _)) k.2
      rw [show d + 1 + e = d + e + 1 by omega] at h2
      rw [h2, h.2 (d + 1) (Nat.le_refl _)]; grind
    · exact hh i (by omega)⟩
theorem Dg.uniq {s : Pl} {d e : Nat} (h : Dg s d) (k : Dg s e) : d = e := by
  rcases Nat.lt_trichotomy d e with h1 | h1 | h1
  · exact absurd (h.2 e h1) k.1
  · exact h1
  · exact absurd (k.2 d h1) h.1
theorem Dg.ne {s : Pl} {d : Nat} (h : Dg s d) : s ≠ 0 := fun e => h.1 (by rw [e]; rfl)
theorem Dg.po {s : Pl} {d : Nat} (h : Dg s d) : Po s := ⟨_, h.2⟩
theorem Dg.lt {s : Pl} {d n : Nat} (h : Dg s d) (k : Lt s n) : d < n := Nat.lt_of_not_le fun hh => h.1 (k d hh)
theorem dg_of : ∀ (n : Nat) (s : Pl), Lt s n → s ≠ 0 → ∃ d, d < n ∧ Dg s d
  | 0, s, h, hne => absurd h.eq_zero hne
  | n + 1, s, h, hne => by
    by_cases h0 : s n = 0
    · obtain ⟨d, hd, hD⟩ := dg_of n s (fun i hi => by
        by_cases e : i = n
        · rw [e]; exact h0
        · exact h i (by omega)) hne
      exact ⟨d, by omega, hD⟩
    · exact ⟨n, Nat.lt_succ_self n, h0, h⟩
theorem Po.dg {s : Pl} (h : Po s) (hne : s ≠ 0) : ∃ d, Dg s d := by
  obtain ⟨n, hn⟩ := h
  obtain ⟨d, _, hD⟩ := dg_of n s hn hne
  exact ⟨d, hD⟩
theorem Po.zero : Po 0 := ⟨0, Lt.zero 0⟩
theorem Po.C (c : F) : Po (C c) := ⟨1, Lt.C c⟩
theorem Po.add {s t : Pl} (h : Po s) (k : Po t) : Po (s + t) := by
  obtain ⟨n, hn⟩ := h
  obtain ⟨m, hm⟩ := k
  exact ⟨n + m, (hn.mono (by omega)).add (hm.mono (by omega))⟩
theorem Po.sub {s t : Pl} (h : Po s) (k : Po t) : Po (s - t) := by
  obtain ⟨n, hn⟩ := h
  obtain ⟨m, hm⟩ := k
  exact ⟨n + m, (hn.mono (by omega)).sub (hm.mono (by omega))⟩
theorem Po.mul {s t : Pl} (h : Po s) (k : Po t) : Po (s * t) := by
  obtain ⟨n, hn⟩ := h
  obtain ⟨m, hm⟩ := k
  exact ⟨n + m, hn.mul hm⟩
theorem Po.sh {s : Pl} (h : Po s) : Po (sh s) := by
  obtain ⟨n, hn⟩ := h
  exact ⟨n + 1, hn.sh⟩
theorem Po.X : Po X := (Po.C 1).sh
theorem mul_ne {s t : Pl} (hs : Po s) (ht : Po t) (h : s ≠ 0) (k : t ≠ 0) : s * t ≠ 0 := by
  obtain ⟨d, hd⟩ := hs.dg h
  obtain ⟨e, he⟩ := ht.dg k
  exact (hd.mul he).ne
theorem mul_cancel {s t u : Pl} (hu : Po u) (hs : Po s) (ht : Po t) (h : u ≠ 0) (e : u * s = u * t) : s = t := by
  refine sub_eq_zero (Classical.byContradiction fun hn => ?_)
  exact mul_ne hu (hs.sub ht) h hn (by rw [mul_sub, e, sub_self])

/-! ### values -/
def ev : Nat → Pl → F → F
  | 0, _, _ => 0
  | n + 1, s, x => s 0 + x * ev n (tl s) x
theorem ev_zero : ∀ (n : Nat) (x : F), ev n 0 x = 0
  | 0, _ => rfl
  | n + 1, x => by
    show (0 : F) + x * ev n 0 x = 0
    rw [ev_zero n x]; exact (Fin.zero_add _).trans (Fin.mul_zero _)
theorem ev_more : ∀ {n m : Nat} {s : Pl} (x : F), Lt s n → n ≤ m → ev m s x = ev n s x
  | 0, m, s, x, h, _ => by rw [h.eq_zero, ev_zero, ev_zero]
  | n + 1, 0, s, x, _, hm => absurd hm (by omega)
  | n + 1, m + 1, s, x, h, hm => by
    show s 0 + x * ev m (tl s) x = s 0 + x * ev n (tl s) x
    rw [ev_more x h.tl (by omega)]
open Classical in
/-- The value at a number (of a polynomial). -/
noncomputable def val (s : Pl) (x : F) : F := if h : Po s then ev (Classical.choose h) s x else 0
theorem val_eq {s : Pl} {n : Nat} (h : Lt s n) (x : F) : val s x = ev n s x := by
  have hp : Po s := ⟨n, h⟩
  unfold val
  rw [dif_pos hp]
  have hc := Classical.choose_spec hp
  rcases Nat.le_total n (Classical.choose hp) with h1 | h1
  · exact ev_more x h h1
  · exact (ev_more x hc h1).symm
theorem val_zero (x : F) : val 0 x = 0 := by rw [val_eq (Lt.zero 0)]; rfl
theorem val_C (c x : F) : val (C c) x = c := by
  rw [val_eq (Lt.C c)]
  show c + x * 0 = c
  grind
theorem val_sh {s : Pl} (h : Po s) (x : F) : val (sh s) x = x * val s x := by
  obtain ⟨n, hn⟩ := h
  rw [val_eq hn.sh, val_eq hn]
  show (0 : F) + x * ev n s x = _
  grind
theorem ev_add : ∀ (n : Nat) (s t : Pl) (x : F), ev n (s + t) x = ev n s x + ev n t x
  | 0, _, _, _ => by show (0 : F) = 0 + 0; (first | grind | simp)
  | n + 1, s, t, x => by
    show (s 0 + t 0) + x * ev n (tl s + tl t) x = s 0 + x * ev n (tl s) x + (t 0 + x * ev n (tl t) x)
    rw [ev_add n]; grind
theorem ev_sub : ∀ (n : Nat) (s t : Pl) (x : F), ev n (s - t) x = ev n s x - ev n t x
  | 0, _, _, _ => by show (0 : F) = 0 - 0; (first | grind | simp)
  | n + 1, s, t, x => by
    show (s 0 - t 0) + x * ev n (tl s - tl t) x = s 0 + x * ev n (tl s) x - (t 0 + x * ev n (tl t) x)
    rw [ev_sub n]; grind
theorem val_add {s t : Pl} (h : Po s) (k : Po t) (x : F) : val (s + t) x = val s x + val t x := by
  obtain ⟨n, hn⟩ := h
  obtain ⟨m, hm⟩ := k
  have hn' := hn.mono (Nat.le_add_right n m)
  have hm' := hm.mono (Nat.le_add_left m n)
  rw [val_eq (hn'.add hm'), val_eq hn', val_eq hm', ev_add]
theorem val_sub {s t : Pl} (h : Po s) (k : Po t) (x : F) : val (s - t) x = val s x - val t x := by
  obtain ⟨n, hn⟩ := h
  obtain ⟨m, hm⟩ := k
  have hn' := hn.mono (Nat.le_add_right n m)
  have hm' := hm.mono (Nat.le_add_left m n)
  rw [val_eq (hn'.sub hm'), val_eq hn', val_eq hm', ev_sub]
theorem ev_smul (c : F) : ∀ (n : Nat) (s : Pl) (x : F), ev n (C c * s) x = c * ev n s x
  | 0, _, _ => by show (0 : F) = c * 0; grind
  | n + 1, s, x => by
    show (C c * s) 0 + x * ev n (tl (C c * s)) x = c * (s 0 + x * ev n (tl s) x)
    have e : tl (C c * s) = C c * tl s := ext fun k => by rw [tl_at, C_mul_at, C_mul_at, tl_at]
    rw [e, ev_smul c n, C_mul_at]; grind
theorem val_smul (c : F) {s : Pl} (h : Po s) (x : F) : val (C c * s) x = c * val s x := by
  obtain ⟨n, hn⟩ := h
  rw [val_eq (hn.smul c), val_eq hn, ev_smul]
theorem val_mul_lt : ∀ (n : Nat) {s t : Pl} (x : F), Lt s n → Po t → val (s * t) x = val s x * val t x
  | 0, s, t, x, h, _ => by rw [h.eq_zero, zero_mul, val_zero]; grind
  | n + 1, s, t, x, h, k => by
    have hp : Po (tl s) := ⟨n, h.tl⟩
    have hps : Po s := ⟨_, h⟩
    have e : s * t = C (s 0) * t + sh (tl s * t) := by conv => lhs; rw [parts s, add_mul, sh_mul]
    rw [e, val_add ((Po.C _).mul k) (hp.mul k).sh, val_smul _ k, val_sh (hp.mul k), val_mul_lt n x h.tl k]
    have e2 : val s x = s 0 + x * val (tl s) x := by
      conv => lhs; rw [parts s, val_add (Po.C _) hp.sh, val_C, val_sh hp]
    rw [e2]; grind
theorem val_mul {s t : Pl} (h : Po s) (k : Po t) (x : F) : val (s * t) x = val s x * val t x := by
  obtain ⟨n, hn⟩ := h
  exact val_mul_lt n x hn k
theorem val_X (x : F) : val X x = x := by
  unfold X
  rw [val_sh (Po.C 1), val_C]; grind

/-! ### x less a root -/
def lin (c : F) : Pl := X - C c
theorem Po.lin (c : F) : Po (lin c) := Po.X.sub (Po.C c)
theorem Lt.lin (c : F) : Lt (lin c) 2 := ((Lt.C 1).sh).sub ((Lt.C c).mono (by omega))
theorem Dg.lin (c : F) : Dg (lin c) 1 := ⟨by
  show (C 1) 0 - C c 1 ≠ 0
  rw [C_0, C_s, Fld.sub_zero]; exact Fld.one_ne, Lt.lin c⟩
theorem lin_mul (c : F) (s : Pl) : lin c * s = sh s - C c * s := by unfold lin; rw [sub_mul, X_mul]
theorem val_lin (c x : F) : val (lin c) x = x - c := by unfold lin; rw [val_sub Po.X (Po.C c), val_X, val_C]
/-- A value is what is left behind a division by x less the place. -/
theorem synth (c : F) : ∀ (n : Nat) (s : Pl), Lt s (n + 1) → ∃ q, Lt q n ∧ s = lin c * q + C (val s c)
  | 0, s, h => ⟨0, Lt.zero 0, by
    rw [mul_zero, zero_add]
    have hs : s = C (s 0) := by conv => lhs; rw [parts s, (Lt.tl h).eq_zero]
                                exact ext fun n => by cases n <;> simp only [add_at, C_0, C_s, sh_0, sh_s, zero_at] <;> (first | grind | simp)
    conv => lhs; rw [hs]
    congr 1
    conv => rhs; rw [hs, val_C]⟩
  | n + 1, s, h => by
    obtain ⟨q, hq, he⟩ := synth c n (tl s) h.tl
    have hp : Po (tl s) := ⟨_, h.tl⟩
    have hv : val s c = s 0 + c * val (tl s) c := by
      conv => lhs; rw [parts s, val_add (Po.C _) hp.sh, val_C, val_sh hp]
    refine ⟨C (val (tl s) c) + sh q, ((Lt.C _).mono (by omega)).add hq.sh, ?_⟩
    have e1 : s = C (s 0) + sh (lin c * q + C (val (tl s) c)) := by rw [← he]; exact parts s
    conv => lhs; rw [e1]
    rw [hv]
    generalize val (tl s) c = v
    refine ext fun k => ?_
    rw [lin_mul, lin_mul]
    cases k with
    | zero => simp only [add_at, sub_at, C_mul_at, sh_0, C_0]; grind
    | succ k =>
      cases k with
      | zero => simp only [add_at, sub_at, C_mul_at, sh_0, sh_s, C_0, C_s]; grind
      | succ k => simp only [add_at, sub_at, C_mul_at, sh_s, C_s]; grind

/-- There are no more roots than the degree. -/
theorem roots_le : ∀ (d : Nat) (s : Pl), Dg s d → ∀ l : List F, l.Nodup → (∀ x ∈ l, val s x = 0) → l.length ≤ d
  | 0, s, h, l, _, hz => by
    cases l with
    | nil => exact Nat.le_refl _
    | cons x l =>
      have h1 := hz x (by simp)
      rw [val_eq h.2] at h1
      have h2 : s 0 + x * 0 = 0 := h1
      exact absurd (by grind) h.1
  | d + 1, s, h, l, hn, hz => by
    cases l with
    | nil => exact Nat.zero_le _
    | cons c l =>
      obtain ⟨q, hq, he⟩ := synth c (d + 1) s h.2
      have hc : val s c = 0 := hz c (by simp)
      have hpq : Po q := ⟨_, hq⟩
      have e : s = lin c * q := by
        have h0 : C (val s c) = 0 := by rw [hc, C_zero]
        rw [h0, add_zero] at he
        exact he
      have hdq : Dg q d := by
        refine ⟨fun h0 => h.1 ?_, hq⟩
        rw [e, show d + 1 = 1 + d by omega, top_mul (Dg.lin c).2 hq, h0]; grind
      have ih := roots_le d q hdq l (List.nodup_cons.1 hn).2 fun x hx => by
        have h1 := hz x (by simp [hx])
        rw [e, val_mul (Po.lin c) hpq, val_lin] at h1
        rcases Fld.mul_eq_zero.1 h1 with h2 | h2
        · have hxc : x = c := by grind
          exact absurd (hxc ▸ hx) (List.nodup_cons.1 hn).1
        · exact h2
      simp only [List.length_cons]; omega

/-! ### division -/
/-- q and r: what a is, divided by b, and what is left. -/
def DM (a b q r : Pl) : Prop := Po q ∧ Po r ∧ a = q * b + r ∧ ∀ d, Dg b d → Lt r d
theorem DM.uniq {a b q r q' r' : Pl} (hb : Po b) (hne : b ≠ 0) (h : DM a b q r) (k : DM a b q' r') : q = q' ∧ r = r' := by
  obtain ⟨d, hd⟩ := hb.dg hne
  have h4 := h.2.2.2 d hd
  have k4 := k.2.2.2 d hd
  have e : (q - q') * b = r' - r := by
    rw [sub_mul]
    refine ext fun n => ?_
    have := congrFun (h.2.2.1.symm.trans k.2.2.1) n
    simp only [add_at, sub_at] at this ⊢; grind
  have hq : q = q' := by
    refine sub_eq_zero (Classical.byContradiction fun hn => ?_)
    obtain ⟨e', he'⟩ := (h.1.sub k.1).dg hn
    have h5 := he'.mul hd
    rw [e] at h5
    exact h5.1 ((k4.sub h4) _ (by omega))
  refine ⟨hq, ?_⟩
  subst hq
  refine ext fun n => ?_
  have := congrFun (h.2.2.1.symm.trans k.2.2.1) n
  simp only [add_at] at this; grind

/-- d divides a. -/
def Dv (d a : Pl) : Prop := ∃ q, Po q ∧ a = d * q
theorem Dv.refl (a : Pl) : Dv a a := ⟨C 1, Po.C 1, (mul_one a).symm⟩
theorem Dv.zero (d : Pl) : Dv d 0 := ⟨0, Po.zero, (mul_zero d).symm⟩
theorem Dv.add {d a b : Pl} (h : Dv d a) (k : Dv d b) : Dv d (a + b) := by
  obtain ⟨q, hq, rfl⟩ := h
  obtain ⟨r, hr, rfl⟩ := k
  exact ⟨q + r, hq.add hr, (mul_add d q r).symm⟩
theorem Dv.sub {d a b : Pl} (h : Dv d a) (k : Dv d b) : Dv d (a - b) := by
  obtain ⟨q, hq, rfl⟩ := h
  obtain ⟨r, hr, rfl⟩ := k
  exact ⟨q - r, hq.sub hr, (mul_sub d q r).symm⟩
theorem Dv.mul {d a : Pl} (h : Dv d a) {b : Pl} (hb : Po b) : Dv d (b * a) := by
  obtain ⟨q, hq, rfl⟩ := h
  exact ⟨b * q, hb.mul hq, mul_left_comm b d q⟩
theorem Dv.mul' {d a : Pl} (h : Dv d a) {b : Pl} (hb : Po b) : Dv d (a * b) := by rw [mul_comm]; exact h.mul hb
theorem Dv.trans {d a b : Pl} (h : Dv d a) (k : Dv a b) : Dv d b := by
  obtain ⟨q, hq, rfl⟩ := h
  obtain ⟨r, hr, rfl⟩ := k
  exact ⟨q * r, hq.mul hr, mul_assoc d q r⟩
theorem Dv.dg {d a : Pl} {m n : Nat} (h : Dv d a) (hd : Dg d m) (ha : Dg a n) : m ≤ n := by
  obtain ⟨q, hq, rfl⟩ := h
  have hq0 : q ≠ 0 := by rintro rfl; exact ha.ne (mul_zero d)
  obtain ⟨e, he⟩ := hq.dg hq0
  have := (hd.mul he).uniq ha
  omega
theorem Dv.po {d a : Pl} (hd : Po d) (h : Dv d a) : Po a := by
  obtain ⟨q, hq, rfl⟩ := h
  exact hd.mul hq
theorem Dv.left {d q r a : Pl} (hq : Po q) {b : Pl} (e : a = q * b + r) : (Dv d b ∧ Dv d r) ↔ (Dv d a ∧ Dv d b) := by
  constructor
  · rintro ⟨h, k⟩
    exact ⟨by rw [e]; exact (h.mul hq).add k, h⟩
  · rintro ⟨h, k⟩
    refine ⟨k, ?_⟩
    have e2 : r = a - q * b := by rw [e, add_comm, add_sub]
    rw [e2]
    exact h.sub (k.mul hq)
theorem Dv.val {d a : Pl} (hd : Po d) (h : Dv d a) {x : F} (hx : val d x = 0) : val a x = 0 := by
  obtain ⟨q, hq, rfl⟩ := h
  rw [val_mul hd hq, hx]; grind
theorem dv_lin {s : Pl} (h : Po s) (c : F) : Dv (lin c) s ↔ val s c = 0 := by
  constructor
  · intro hd
    exact hd.val (Po.lin c) (by rw [val_lin]; grind)
  · intro hv
    obtain ⟨n, hn⟩ := h
    obtain ⟨q, hq, e⟩ := synth c n s (hn.mono (Nat.le_succ n))
    have h0 : C (Pl.val s c) = 0 := by rw [hv, C_zero]
    rw [h0, add_zero] at e
    exact ⟨q, ⟨n, hq⟩, e⟩
theorem dv_smul {c : F} (hc : c ≠ 0) {d a : Pl} : Dv d (C c * a) ↔ Dv d a := by
  constructor
  · intro h
    have h2 := h.mul (Po.C (Fld.iv c))
    rw [← mul_assoc, C_mul, Fin.mul_comm, Fld.mul_iv hc, one_mul] at h2
    exact h2
  · intro h; exact h.mul (Po.C c)

/-- g is the monic one of the greatest degree that divides both; nothing, if both are 0. -/
def Gc (a b g : Pl) : Prop := Po g ∧ (∀ d, Po d → (Dv d g ↔ Dv d a ∧ Dv d b)) ∧ ∀ n, Dg g n → g n = 1
theorem Gc.left {a b g : Pl} (h : Gc a b g) : Dv g a := ((h.2.1 g h.1).1 (Dv.refl g)).1
theorem Gc.right {a b g : Pl} (h : Gc a b g) : Dv g b := ((h.2.1 g h.1).1 (Dv.refl g)).2
theorem Dv.zero_left {a : Pl} (h : Dv 0 a) : a = 0 := by
  obtain ⟨q, _, rfl⟩ := h
  exact zero_mul q
theorem dv_monic {g k : Pl} (hg : Po g) (hk : Po k) (mg : ∀ n, Dg g n → g n = 1) (mk : ∀ n, Dg k n → k n = 1) (h1 : Dv g k) (h2 : Dv k g) : g = k := by
  by_cases g0 : g = 0
  · subst g0; exact h1.zero_left.symm
  · obtain ⟨n, hn⟩ := hg.dg g0
    have k0 : k ≠ 0 := by rintro rfl; exact g0 h2.zero_left
    obtain ⟨m, hm⟩ := hk.dg k0
    have e : n = m := Nat.le_antisymm (h1.dg hn hm) (h2.dg hm hn)
    subst e
    obtain ⟨q, hq, rfl⟩ := h1
    have hq0 : q ≠ 0 := by rintro rfl; exact k0 (mul_zero g)
    obtain ⟨e, he⟩ := hq.dg hq0
    have e0 : e = 0 := by have := (hn.mul he).uniq hm; omega
    subst e0
    have hqc : q = C (q 0) := by conv => lhs; rw [parts q, (Lt.tl he.2).eq_zero]
                                 exact ext fun n => by cases n <;> simp only [add_at, C_0, C_s, sh_0, sh_s, zero_at] <;> (first | grind | simp)
    have t1 := mg n hn
    have t2 := mk n hm
    have t3 := top_mul hn.2 he.2
    rw [Nat.add_zero, t2, t1] at t3
    have t4 : q 0 = 1 := by grind
    rw [hqc, t4, mul_one]
theorem Gc.uniq {a b g k : Pl} (h : Gc a b g) (h' : Gc a b k) : g = k :=
  dv_monic h.1 h'.1 h.2.2 h'.2.2 ((h'.2.1 g h.1).2 ((h.2.1 g h.1).1 (Dv.refl g))) ((h.2.1 k h'.1).2 ((h'.2.1 k h'.1).1 (Dv.refl k)))
theorem Gc.val {a b g : Pl} (ha : Po a) (hb : Po b) (h : Gc a b g) (x : F) : val g x = 0 ↔ val a x = 0 ∧ val b x = 0 := by
  rw [← dv_lin h.1, ← dv_lin ha, ← dv_lin hb]
  exact h.2.1 _ (Po.lin x)
theorem Gc.zero {a b : Pl} (h : Gc a b 0) : a = 0 ∧ b = 0 := ⟨h.left.zero_left, h.right.zero_left⟩

/-! ### all numbers of the field -/
/-- All numbers of the field. -/
def alls : List F := (List.range Fld.P).map to
theorem alls_len : alls.length = Fld.P := by simp [alls]
theorem mem_alls (x : F) : x ∈ alls := List.mem_map.2 ⟨x.val, List.mem_range.2 x.isLt, Fld.to_self x⟩
theorem alls_nodup : alls.Nodup := by
  unfold alls
  rw [List.Nodup, List.pairwise_map]
  refine List.Pairwise.imp_of_mem ?_ (List.nodup_range (n := Fld.P))
  intro a b ha hb hab e
  exact hab (Fld.to_inj (List.mem_range.1 ha) (List.mem_range.1 hb) e)
open Classical in
/-- The roots. -/
noncomputable def rts (s : Pl) : List F := alls.filter fun x => decide (val s x = 0)
theorem mem_rts (s : Pl) (x : F) : x ∈ rts s ↔ val s x = 0 := by
  unfold rts
  rw [List.mem_filter]
  exact ⟨fun h => of_decide_eq_true h.2, fun h => ⟨mem_alls x, decide_eq_true h⟩⟩
theorem rts_nodup (s : Pl) : (rts s).Nodup := List.Nodup.sublist List.filter_sublist alls_nodup
theorem rts_le {s : Pl} {d : Nat} (h : Dg s d) : (rts s).length ≤ d := roots_le d s h _ (rts_nodup s) fun x hx => (mem_rts s x).1 hx
theorem len_filter_or {α : Type} (p q : α → Bool) : ∀ l : List α, (∀ x ∈ l, p x = true ∨ q x = true) → l.length ≤ (l.filter p).length + (l.filter q).length
  | [], _ => by simp
  | x :: l, h => by
    have ih := len_filter_or p q l fun y hy => h y (by simp [hy])
    have hx := h x (by simp)
    rw [List.filter_cons, List.filter_cons, List.length_cons]
    rcases hx with h1 | h1
    · rw [if_pos h1, List.length_cons]
      by_cases h2 : q x = true
      · rw [if_pos h2, List.length_cons]; omega
      · rw [if_neg h2]; omega
    · rw [if_pos h1, List.length_cons]
      by_cases h2 : p x = true
      · rw [if_pos h2, List.length_cons]; omega
      · rw [if_neg h2]; omega

/-- It has as many roots as its degree. -/
def Full (s : Pl) : Prop := ∃ d, Dg s d ∧ (rts s).length = d
open Classical in
theorem full_parts {s a b : Pl} (ha : Po a) (hb : Po b) (e : s = a * b) (h : Full s) : Full a ∧ Full b ∧ ∀ x, ¬ (val a x = 0 ∧ val b x = 0) := by
  obtain ⟨d, hd, hl⟩ := h
  have a0 : a ≠ 0 := by rintro rfl; exact hd.ne (by rw [e, zero_mul])
  have b0 : b ≠ 0 := by rintro rfl; exact hd.ne (by rw [e, mul_zero])
  obtain ⟨m, hm⟩ := ha.dg a0
  obtain ⟨n, hn⟩ := hb.dg b0
  have hmn : m + n = d := (e ▸ hm.mul hn).uniq hd
  have la := rts_le hm
  have lb := rts_le hn
  have hroot : ∀ x, val s x = 0 ↔ val a x = 0 ∨ val b x = 0 := fun x => by rw [e, val_mul ha hb]; exact Fld.mul_eq_zero
  -- the roots of s, parted by a and b
  have ea : rts a = (rts s).filter fun x => decide (val a x = 0) := by
    unfold rts
    rw [List.filter_filter]
    refine List.filter_congr fun x _ => ?_
    by_cases h1 : val a x = 0
    · simp [h1, (hroot x).2 (.inl h1)]
    · simp [h1]
  have eb : rts b = (rts s).filter fun x => decide (val b x = 0) := by
    unfold rts
    rw [List.filter_filter]
    refine List.filter_congr fun x _ => ?_
    by_cases h1 : val b x = 0
    · simp [h1, (hroot x).2 (.inr h1)]
    · simp [h1]
  have hle := len_filter_or (fun x => decide (val a x = 0)) (fun x => decide (val b x = 0)) (rts s) fun x hx => by
    rcases (hroot x).1 ((mem_rts s x).1 hx) with h1 | h1
    · exact .inl (decide_eq_true h1)
    · exact .inr (decide_eq_true h1)
  rw [← ea, ← eb] at hle
  refine ⟨⟨m, hm, by omega⟩, ⟨n, hn, by omega⟩, fun x hx => ?_⟩
  -- were x in both, one would be counted twice
  have hxs : x ∈ rts s := (mem_rts s x).2 ((hroot x).2 (.inl hx.1))
  have h2 := len_filter_or (fun y => decide (val a y = 0)) (fun y => decide (val b y = 0)) ((rts s).erase x) fun y hy => by
    rcases (hroot y).1 ((mem_rts s y).1 (List.mem_of_mem_erase hy)) with h1 | h1
    · exact .inl (decide_eq_true h1)
    · exact .inr (decide_eq_true h1)
  have e1 : (((rts s).erase x).filter fun y => decide (val a y = 0)) = (rts a).erase x := by
    rw [ea, List.Nodup.erase_eq_filter (rts_nodup s), List.Nodup.erase_eq_filter ((rts_nodup s).sublist List.filter_sublist), List.filter_filter, List.filter_filter]
    exact List.filter_congr fun y _ => Bool.and_comm _ _
  have e2 : (((rts s).erase x).filter fun y => decide (val b y = 0)) = (rts b).erase x := by
    rw [eb, List.Nodup.erase_eq_filter (rts_nodup s), List.Nodup.erase_eq_filter ((rts_nodup s).sublist List.filter_sublist), List.filter_filter, List.filter_filter]
    exact List.filter_congr fun y _ => Bool.and_comm _ _
  rw [e1, e2, List.length_erase_of_mem hxs, List.length_erase_of_mem ((mem_rts a x).2 hx.1), List.length_erase_of_mem ((mem_rts b x).2 hx.2)] at h2
  have p1 := List.length_pos_of_mem ((mem_rts a x).2 hx.1)
  have p2 := List.length_pos_of_mem ((mem_rts b x).2 hx.2)
  omega

/-! ### x^P less x -/
def pw (s : Pl) : Nat → Pl
  | 0 => C 1
  | n + 1 => pw s n * s
theorem Po.pw {s : Pl} (h : Po s) : ∀ n, Po (pw s n)
  | 0 => Po.C 1
  | n + 1 => (Po.pw h n).mul h
theorem pw_add (s : Pl) (m : Nat) : ∀ n, pw s (m + n) = pw s m * pw s n
  | 0 => (mul_one _).symm
  | n + 1 => by rw [← Nat.add_assoc, Pl.pw, pw_add s m n, Pl.pw, mul_assoc]
theorem val_pw {s : Pl} (h : Po s) (x : F) : ∀ n, val (pw s n) x = Fld.up (val s x) n
  | 0 => by show val (C 1) x = _; rw [val_C, Fld.up_zero]
  | n + 1 => by rw [pw, val_mul (Po.pw h n) h, val_pw h x n, Fld.up_succ]
theorem Dg.pw {s : Pl} (h : Dg s 1) (h1 : s 1 = 1) : ∀ n, Dg (pw s n) n ∧ pw s n n = 1
  | 0 => ⟨⟨Fld.one_ne, Lt.C 1⟩, rfl⟩
  | n + 1 => ⟨(Dg.pw h h1 n).1.mul h, by
    show (Pl.pw s n * s) (n + 1) = 1
    rw [top_mul (Dg.pw h h1 n).1.2 h.2, (Dg.pw h h1 n).2, h1]; grind⟩
theorem Dg.X : Dg X 1 := ⟨Fld.one_ne, (Lt.C 1).sh⟩
/-- x^P less x. -/
def xp : Pl := pw X 2305843009213693951 - X
theorem Po.xp : Po xp := (Po.pw Po.X _).sub Po.X
theorem Dg.xp : Dg xp 2305843009213693951 := by
  have h := Dg.pw Dg.X rfl 2305843009213693951
  refine ⟨?_, h.1.2.sub (Dg.X.2.mono (by omega))⟩
  unfold Pl.xp
  rw [sub_at, h.2, Dg.X.2 2305843009213693951 (by omega)]
  intro e
  exact Fld.one_ne ((Fld.sub_zero 1).symm.trans e)
theorem pow_P (x : F) : Fld.up x 2305843009213693951 = x := by
  by_cases h : x = 0
  · subst h
    rw [show (2305843009213693951 : Nat) = 2305843009213693950 + 1 from rfl, Fld.up_succ, Fin.mul_zero]
  · rw [show (2305843009213693951 : Nat) = 2305843009213693950 + 1 from rfl, Fld.up_succ, Fld.fermatF h]; grind
theorem val_xp (x : F) : val xp x = 0 := by
  unfold xp
  rw [val_sub (Po.pw Po.X _) Po.X, val_pw Po.X, val_X, pow_P]; grind
theorem xp_full : Full xp := ⟨_, Dg.xp, by
  have e : rts xp = alls := by
    unfold rts
    exact List.filter_eq_self.2 fun x _ => decide_eq_true (val_xp x)
  rw [e, alls_len]; rfl⟩
attribute [irreducible] xp
theorem full_of_dv {s : Pl} (h : Po s) (hd : Dv s xp) : Full s := by
  obtain ⟨q, hq, e⟩ := hd
  exact (full_parts h hq e xp_full).1

end Pl
end Go.Proofs.Ytalljoneflepiaa
