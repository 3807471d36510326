/-
  Joined texts: Ply Lst Dvp Adt Cut Bkw Pra Prb Prc Prd Pre Prf.
-/
import Derived.Test.YtcbcmnbfflaicaaJa

/-
  POLYNOMIALS OVER THE FIELD OF 2^61 - 1 ELEMENTS, WITHOUT ANY PROGRAM: rows of coefficients, sums and products, degrees, values, division, common divisors, roots. No condition.
-/
namespace Go.Proofs.Ytcbcmnbfflaicaa

namespace Fld
instance : NeZero P := ⟨by decide⟩
/-- The field. -/
abbrev F := Fin P
/-- A number, modulo the prime. -/
def to (n : Nat) : F := Fin.ofNat P n
theorem to_val (n : Nat) : (to n).val = n % P := rfl
theorem to_num (n : Nat) : to (num n) = to n := Fin.ext (by simp [to_val, num])
theorem to_mod (n : Nat) : to (n % P) = to n := Fin.ext (by simp [to_val])
theorem to_self (x : F) : to x.val = x := Fin.ext (by rw [to_val]; exact Nat.mod_eq_of_lt x.isLt)
theorem val_to {n : Nat} (h : n < 2305843009213693951) : (to n).val = n := Nat.mod_eq_of_lt h
theorem to_inj {a b : Nat} (ha : a < 2305843009213693951) (hb : b < 2305843009213693951) (h : to a = to b) : a = b := by
  rw [← val_to ha, ← val_to hb, h]
theorem to_add (a b : Nat) : to (a + b) = to a + to b := Fin.ext (by rw [Fin.val_add, to_val, to_val, to_val]; exact Nat.add_mod a b P)
theorem to_mul (a b : Nat) : to (a * b) = to a * to b := Fin.ext (by rw [Fin.val_mul, to_val, to_val, to_val]; exact Nat.mul_mod a b P)
theorem to_zero : to 0 = 0 := rfl
theorem to_one : to 1 = 1 := rfl
theorem to_addF (a b : Nat) : to (add a b) = to a + to b := by rw [← to_add]; exact to_mod _
theorem to_mulF (a b : Nat) : to (mul a b) = to a * to b := by rw [← to_mul]; exact to_mod _
theorem to_subF (a b : Nat) : to (sub a b) = to a - to b := by
  refine Fin.ext ?_
  rw [Fin.val_sub, to_val, to_val, to_val]
  show (a % P + (P - b % P)) % P % P = _
  rw [Nat.mod_mod, Nat.add_comm]
/-- A power. -/
def up (a : F) : Nat → F
  | 0 => 1
  | n + 1 => up a n * a
theorem up_zero (a : F) : up a 0 = 1 := rfl
theorem up_succ (a : F) (n : Nat) : up a (n + 1) = up a n * a := rfl
theorem to_pow (a n : Nat) : to (a ^ n) = up (to a) n := by
  induction n with
  | zero => rfl
  | succ n ih => rw [Nat.pow_succ, to_mul, ih, up_succ]
theorem to_powF (a n : Nat) : to (pow a n) = up (to a) n := by rw [← to_pow]; exact to_mod _
theorem to_zero_iff (a : Nat) : to a = 0 ↔ a % P = 0 := by
  constructor
  · intro h; rw [← to_val, h]; rfl
  · intro h; exact Fin.ext (by rw [to_val, h]; rfl)
theorem mul_eq_zero {a b : F} : a * b = 0 ↔ a = 0 ∨ b = 0 := by
  have h := mul_zero_iff a.val b.val
  rw [← to_zero_iff, ← to_zero_iff, ← to_zero_iff, to_mul, to_self, to_self] at h
  exact h
theorem mul_ne {a b : F} (ha : a ≠ 0) (hb : b ≠ 0) : a * b ≠ 0 := fun h => (mul_eq_zero.1 h).elim ha hb
theorem one_ne : (1 : F) ≠ 0 := fun h => absurd (congrArg Fin.val h) (by decide)
/-- What a number is multiplied by, to be 1. -/
def iv (a : F) : F := up a 2305843009213693949
theorem fermatF {a : F} (h : a ≠ 0) : up a 2305843009213693950 = 1 := by
  have h1 : a.val % P ≠ 0 := fun e => h (by rw [← to_self a]; exact (to_zero_iff _).2 e)
  have h2 := fermat a.val h1
  have h3 : to (a.val ^ N) = to 1 := Fin.ext (by rw [to_val, to_val, h2]; rfl)
  rw [to_pow, to_self] at h3
  exact h3
theorem mul_iv {a : F} (h : a ≠ 0) : a * iv a = 1 := by
  have h1 := fermatF h
  rw [show (2305843009213693950 : Nat) = 2305843009213693949 + 1 from rfl, up_succ] at h1
  rw [Fin.mul_comm]; exact h1
theorem sub_zero (a : F) : a - 0 = a := by grind
theorem iv_ne {a : F} (h : a ≠ 0) : iv a ≠ 0 := fun e => one_ne (by rw [← mul_iv h, e, Fin.mul_zero])
theorem to_powI (a : Nat) : to (pow a 2305843009213693949) = iv (to a) := to_powF _ _
attribute [irreducible] iv
end Fld

open Fld (F to)

/-- A row of coefficients, the least power first. -/
def Pl := Nat → F
namespace Pl
theorem ext {s t : Pl} (h : ∀ n, s n = t n) : s = t := funext h
def tl (s : Pl) : Pl := fun n => s (n + 1)
def mulAt : Nat → Pl → Pl → F
  | 0, s, t => s 0 * t 0
  | n + 1, s, t => s 0 * t (n + 1) + mulAt n (tl s) t
instance : Add Pl := ⟨fun s t n => s n + t n⟩
instance : Sub Pl := ⟨fun s t n => s n - t n⟩
instance : Mul Pl := ⟨fun s t n => mulAt n s t⟩
def zero : Pl := fun _ => 0
instance : Zero Pl := ⟨zero⟩
def C (c : F) : Pl := fun n => if n = 0 then c else 0
/-- Times x. -/
def sh (s : Pl) : Pl
  | 0 => 0
  | n + 1 => s n
def X : Pl := sh (C 1)
theorem zero_at (n : Nat) : (0 : Pl) n = 0 := rfl
theorem add_at (s t : Pl) (n : Nat) : (s + t) n = s n + t n := rfl
theorem sub_at (s t : Pl) (n : Nat) : (s - t) n = s n - t n := rfl
theorem mul_at (s t : Pl) (n : Nat) : (s * t) n = mulAt n s t := rfl
theorem mul_0 (s t : Pl) : (s * t) 0 = s 0 * t 0 := rfl
theorem mul_s (s t : Pl) (n : Nat) : (s * t) (n + 1) = s 0 * t (n + 1) + (tl s * t) n := rfl
theorem tl_at (s : Pl) (n : Nat) : tl s n = s (n + 1) := rfl
theorem C_0 (c : F) : C c 0 = c := rfl
theorem C_s (c : F) (n : Nat) : C c (n + 1) = 0 := rfl
theorem sh_0 (s : Pl) : sh s 0 = 0 := rfl
theorem sh_s (s : Pl) (n : Nat) : sh s (n + 1) = s n := rfl

theorem add_comm (s t : Pl) : s + t = t + s := ext fun n => by simp only [add_at]; grind
theorem add_assoc (s t u : Pl) : s + t + u = s + (t + u) := ext fun n => by simp only [add_at]; grind
theorem add_left_comm (s t u : Pl) : s + (t + u) = t + (s + u) := ext fun n => by simp only [add_at]; grind
theorem zero_add (s : Pl) : 0 + s = s := ext fun n => by simp only [add_at, zero_at]; grind
theorem add_zero (s : Pl) : s + 0 = s := ext fun n => by simp only [add_at, zero_at]; grind
theorem sub_self (s : Pl) : s - s = 0 := ext fun n => by simp only [sub_at, zero_at]; grind
theorem sub_zero (s : Pl) : s - 0 = s := ext fun n => by simp only [sub_at, zero_at]; grind
theorem sub_eq_zero {s t : Pl} (h : s - t = 0) : s = t := ext fun n => by have := congrFun h n; simp only [sub_at, zero_at] at this; grind
theorem add_sub (s t : Pl) : s + t - t = s := ext fun n => by simp only [sub_at, add_at]; grind
theorem sub_add (s t : Pl) : s - t + t = s := ext fun n => by simp only [sub_at, add_at]; grind
theorem add_mul_at : ∀ (n : Nat) (s t u : Pl), ((s + t) * u) n = (s * u) n + (t * u) n
  | 0, s, t, u => by simp only [mul_0, add_at]; grind
  | n + 1, s, t, u => by
    have h := add_mul_at n (tl s) (tl t) u
    have e : tl (s + t) = tl s + tl t := rfl
    simp only [mul_s, add_at, e, h]; grind
theorem mul_add_at : ∀ (n : Nat) (u s t : Pl), (u * (s + t)) n = (u * s) n + (u * t) n
  | 0, s, t, u => by simp only [mul_0, add_at]; grind
  | n + 1, u, s, t => by
    have h := mul_add_at n (tl u) s t
    simp only [mul_s, add_at, h]; grind
theorem sub_mul_at : ∀ (n : Nat) (s t u : Pl), ((s - t) * u) n = (s * u) n - (t * u) n
  | 0, s, t, u => by simp only [mul_0, sub_at]; grind
  | n + 1, s, t, u => by
    have h := sub_mul_at n (tl s) (tl t) u
    have e : tl (s - t) = tl s - tl t := rfl
    simp only [mul_s, sub_at, e, h]; grind
theorem add_mul (s t u : Pl) : (s + t) * u = s * u + t * u := ext fun n => add_mul_at n s t u
theorem mul_add (u s t : Pl) : u * (s + t) = u * s + u * t := ext fun n => mul_add_at n u s t
theorem sub_mul (s t u : Pl) : (s - t) * u = s * u - t * u := ext fun n => sub_mul_at n s t u
theorem mul_right : ∀ (n : Nat) (s t : Pl), (s * t) (n + 1) = s (n + 1) * t 0 + (s * tl t) n
  | 0, s, t => by simp only [mul_s, mul_0, tl_at]; grind
  | n + 1, s, t => by
    have h := mul_right n (tl s) t
    rw [mul_s, h, mul_s]
    simp only [tl_at]; grind
theorem mul_comm_at : ∀ (n : Nat) (s t : Pl), (s * t) n = (t * s) n
  | 0, s, t => by simp only [mul_0]; grind
  | n + 1, s, t => by
    rw [mul_right, mul_s, mul_comm_at n s (tl t)]; grind
theorem mul_comm (s t : Pl) : s * t = t * s := ext fun n => mul_comm_at n s t
theorem zero_mul_at : ∀ (n : Nat) (s : Pl), ((0 : Pl) * s) n = 0
  | 0, s => by simp only [mul_0, zero_at]; grind
  | n + 1, s => by rw [mul_s, show tl 0 = 0 from rfl, zero_mul_at n s, zero_at]; exact (Fin.add_zero _).trans (Fin.zero_mul _)
theorem zero_mul (s : Pl) : 0 * s = 0 := ext fun n => zero_mul_at n s
theorem mul_zero (s : Pl) : s * 0 = 0 := by rw [mul_comm, zero_mul]
theorem C_mul_at (c : F) (s : Pl) : ∀ n, (C c * s) n = c * s n
  | 0 => rfl
  | n + 1 => by rw [mul_s, show tl (C c) = 0 from rfl, zero_mul, zero_at, C_0]; grind
theorem smul_mul_at (c : F) : ∀ (n : Nat) (s t : Pl), ((C c * s) * t) n = c * (s * t) n
  | 0, s, t => by simp only [mul_0, C_0]; grind
  | n + 1, s, t => by
    have e : tl (C c * s) = C c * tl s := ext fun k => by rw [tl_at, C_mul_at, C_mul_at, tl_at]
    rw [mul_s, e, smul_mul_at c n (tl s) t, mul_s, C_mul_at]; grind
theorem tl_mul (s t : Pl) : tl (s * t) = C (s 0) * tl t + tl s * t := ext fun n => by
  rw [tl_at, mul_s, add_at, C_mul_at]; rfl
theorem mul_assoc_at : ∀ (n : Nat) (s t u : Pl), ((s * t) * u) n = (s * (t * u)) n
  | 0, s, t, u => by simp only [mul_0]; grind
  | n + 1, s, t, u => by
    rw [mul_s, tl_mul, add_mul_at, smul_mul_at, mul_assoc_at n (tl s) t u, mul_s, mul_0, mul_s]; grind
theorem mul_assoc (s t u : Pl) : (s * t) * u = s * (t * u) := ext fun n => mul_assoc_at n s t u
theorem mul_left_comm (s t u : Pl) : s * (t * u) = t * (s * u) := by rw [← mul_assoc, mul_comm s t, mul_assoc]
theorem one_mul (s : Pl) : C 1 * s = s := ext fun n => by rw [C_mul_at]; grind
theorem mul_one (s : Pl) : s * C 1 = s := by rw [mul_comm, one_mul]
theorem sh_mul (s t : Pl) : sh s * t = sh (s * t) := ext fun n => by
  cases n with
  | zero => rw [mul_0, sh_0, sh_0]; grind
  | succ n => rw [mul_s, sh_0, sh_s, show tl (sh s) = s from rfl]; grind
theorem X_mul (s : Pl) : X * s = sh s := by unfold X; rw [sh_mul, one_mul]
theorem parts (s : Pl) : s = C (s 0) + sh (tl s) := ext fun n => by
  cases n with
  | zero => rw [add_at, C_0, sh_0]; grind
  | succ n => rw [add_at, C_s, sh_s, tl_at]; grind
theorem mul_sub (u s t : Pl) : u * (s - t) = u * s - u * t := by rw [mul_comm, sub_mul, mul_comm s, mul_comm t]
theorem C_add (a b : F) : C (a + b) = C a + C b := ext fun n => by
  cases n with
  | zero => rfl
  | succ n => simp only [add_at, C_s]; (first | grind | simp)
theorem C_mul (a b : F) : C a * C b = C (a * b) := ext fun n => by
  rw [C_mul_at]
  cases n with
  | zero => rfl
  | succ n => simp only [C_s]; grind
theorem C_zero : C 0 = 0 := ext fun n => by cases n <;> rfl
theorem C_ne {c : F} (h : c ≠ 0) : C c ≠ 0 := fun e => h (congrFun e 0)

/-! ### how many coefficients -/
/-- Nothing from n on. -/
def Lt (s : Pl) (n : Nat) : Prop := ∀ i, n ≤ i → s i = 0
/-- It is a polynomial. -/
def Po (s : Pl) : Prop := ∃ n, Lt s n
/-- Its degree is d. -/
def Dg (s : Pl) (d : Nat) : Prop := s d ≠ 0 ∧ Lt s (d + 1)
theorem Lt.mono {s : Pl} {n m : Nat} (h : Lt s n) (hm : n ≤ m) : Lt s m := fun i hi => h i (by omega)
theorem Lt.zero (n : Nat) : Lt 0 n := fun _ _ => rfl
theorem Lt.add {s t : Pl} {n : Nat} (h : Lt s n) (k : Lt t n) : Lt (s + t) n := fun i hi => by rw [add_at, h i hi, k i hi]; (first | grind | simp)
theorem Lt.sub {s t : Pl} {n : Nat} (h : Lt s n) (k : Lt t n) : Lt (s - t) n := fun i hi => by rw [sub_at, h i hi, k i hi]; (first | grind | simp)
theorem Lt.smul {s : Pl} {n : Nat} (c : F) (h : Lt s n) : Lt (C c * s) n := fun i hi => by rw [C_mul_at, h i hi]; grind
theorem Lt.C (c : F) : Lt (C c) 1 := fun i hi => by obtain ⟨k, rfl⟩ : ∃ k, i = k + 1 := ⟨i - 1, by omega⟩; rfl
theorem Lt.sh {s : Pl} {n : Nat} (h : Lt s n) : Lt (sh s) (n + 1) := fun i hi => by
  obtain ⟨k, rfl⟩ : ∃ k, i = k + 1 := ⟨i - 1, by omega⟩
  exact h k (by omega)
theorem Lt.tl {s : Pl} {n : Nat} (h : Lt s (n + 1)) : Lt (tl s) n := fun i hi => h (i + 1) (by omega)
theorem Lt.eq_zero {s : Pl} (h : Lt s 0) : s = 0 := ext fun n => h n (Nat.zero_le n)
theorem Lt.mul : ∀ {n m : Nat} {s t : Pl}, Lt s n → Lt t m → Lt (s * t) (n + m)
  | 0, _, s, t, h, _ => by rw [h.eq_zero, zero_mul]; exact Lt.zero _
  | n + 1, m, s, t, h, k => fun i hi => by
    obtain ⟨j, rfl⟩ : ∃ j, i = j + 1 := ⟨i - 1, by omega⟩
    rw [mul_s, k (j + 1) (by omega), Lt.mul (Lt.tl h) k j (by omega)]; exact (Fin.add_zero _).trans (Fin.mul_zero _)
theorem top_mul : ∀ {d e : Nat} {s t : Pl}, Lt s (d + 1) → Lt t (e + 1) → (s * t) (d + e) = s d * t e
  | 0, e, s, t, h, k => by
    have hs : s = C (s 0) := by conv => lhs; rw [parts s, (Lt.tl h).eq_zero]
                                exact ext fun n => by cases n <;> simp only [add_at, C_0, C_s, sh_0, sh_s, zero_at] <;> (first | grind | simp)
    conv => lhs; rw [hs, Nat.zero_add, C_mul_at]
  | d + 1, e, s, t, h, k => by
    rw [show d + 1 + e = (d + e) + 1 by omega, mul_s, k (d + e + 1) (by omega), top_mul (Lt.tl h) k, tl_at]; grind
theorem Dg.mul {d e : Nat} {s t : Pl} (h : Dg s d) (k : Dg t e) : Dg (s * t) (d + e) :=
  ⟨by rw [top_mul h.2 k.2]; exact Fld.mul_ne h.1 k.1, fun i hi => (Lt.mul h.2 k.2).mono (m := d + 1 + (e + 1)) (Nat.le_refl _) |> fun hh => by
    by_cases hx : i = d + e + 1
    · subst hx
      -- one more than the top
      have h2 := top_mul (h.2.mono (Nat.le_succ _)) k.2
      rw [show d + 1 + e = d + e + 1 by omega] at h2
      rw [h2, h.2 (d + 1) (Nat.le_refl _)]; grind
    · exact hh i (by omega)⟩
theorem Dg.uniq {s : Pl} {d e : Nat} (h : Dg s d) (k : Dg s e) : d = e := by
  rcases Nat.lt_trichotomy d e with h1 | h1 | h1
  · exact absurd (h.2 e h1) k.1
  · exact h1
  · exact absurd (k.2 d h1) h.1
theorem Dg.ne {s : Pl} {d : Nat} (h : Dg s d) : s ≠ 0 := fun e => h.1 (by rw [e]; rfl)
theorem Dg.po {s : Pl} {d : Nat} (h : Dg s d) : Po s := ⟨_, h.2⟩
theorem Dg.lt {s : Pl} {d n : Nat} (h : Dg s d) (k : Lt s n) : d < n := Nat.lt_of_not_le fun hh => h.1 (k d hh)
theorem dg_of : ∀ (n : Nat) (s : Pl), Lt s n → s ≠ 0 → ∃ d, d < n ∧ Dg s d
  | 0, s, h, hne => absurd h.eq_zero hne
  | n + 1, s, h, hne => by
    by_cases h0 : s n = 0
    · obtain ⟨d, hd, hD⟩ := dg_of n s (fun i hi => by
        by_cases e : i = n
        · rw [e]; exact h0
        · exact h i (by omega)) hne
      exact ⟨d, by omega, hD⟩
    · exact ⟨n, Nat.lt_succ_self n, h0, h⟩
theorem Po.dg {s : Pl} (h : Po s) (hne : s ≠ 0) : ∃ d, Dg s d := by
  obtain ⟨n, hn⟩ := h
  obtain ⟨d, _, hD⟩ := dg_of n s hn hne
  exact ⟨d, hD⟩
theorem Po.zero : Po 0 := ⟨0, Lt.zero 0⟩
theorem Po.C (c : F) : Po (C c) := ⟨1, Lt.C c⟩
theorem Po.add {s t : Pl} (h : Po s) (k : Po t) : Po (s + t) := by
  obtain ⟨n, hn⟩ := h
  obtain ⟨m, hm⟩ := k
  exact ⟨n + m, (hn.mono (by omega)).add (hm.mono (by omega))⟩
theorem Po.sub {s t : Pl} (h : Po s) (k : Po t) : Po (s - t) := by
  obtain ⟨n, hn⟩ := h
  obtain ⟨m, hm⟩ := k
  exact ⟨n + m, (hn.mono (by omega)).sub (hm.mono (by omega))⟩
theorem Po.mul {s t : Pl} (h : Po s) (k : Po t) : Po (s * t) := by
  obtain ⟨n, hn⟩ := h
  obtain ⟨m, hm⟩ := k
  exact ⟨n + m, hn.mul hm⟩
theorem Po.sh {s : Pl} (h : Po s) : Po (sh s) := by
  obtain ⟨n, hn⟩ := h
  exact ⟨n + 1, hn.sh⟩
theorem Po.X : Po X := (Po.C 1).sh
theorem mul_ne {s t : Pl} (hs : Po s) (ht : Po t) (h : s ≠ 0) (k : t ≠ 0) : s * t ≠ 0 := by
  obtain ⟨d, hd⟩ := hs.dg h
  obtain ⟨e, he⟩ := ht.dg k
  exact (hd.mul he).ne
theorem mul_cancel {s t u : Pl} (hu : Po u) (hs : Po s) (ht : Po t) (h : u ≠ 0) (e : u * s = u * t) : s = t := by
  refine sub_eq_zero (Classical.byContradiction fun hn => ?_)
  exact mul_ne hu (hs.sub ht) h hn (by rw [mul_sub, e, sub_self])

/-! ### values -/
def ev : Nat → Pl → F → F
  | 0, _, _ => 0
  | n + 1, s, x => s 0 + x * ev n (tl s) x
theorem ev_zero : ∀ (n : Nat) (x : F), ev n 0 x = 0
  | 0, _ => rfl
  | n + 1, x => by
    show (0 : F) + x * ev n 0 x = 0
    rw [ev_zero n x]; exact (Fin.zero_add _).trans (Fin.mul_zero _)
theorem ev_more : ∀ {n m : Nat} {s : Pl} (x : F), Lt s n → n ≤ m → ev m s x = ev n s x
  | 0, m, s, x, h, _ => by rw [h.eq_zero, ev_zero, ev_zero]
  | n + 1, 0, s, x, _, hm => absurd hm (by omega)
  | n + 1, m + 1, s, x, h, hm => by
    show s 0 + x * ev m (tl s) x = s 0 + x * ev n (tl s) x
    rw [ev_more x h.tl (by omega)]
open Classical in
/-- The value at a number (of a polynomial). -/
noncomputable def val (s : Pl) (x : F) : F := if h : Po s then ev (Classical.choose h) s x else 0
theorem val_eq {s : Pl} {n : Nat} (h : Lt s n) (x : F) : val s x = ev n s x := by
  have hp : Po s := ⟨n, h⟩
  unfold val
  rw [dif_pos hp]
  have hc := Classical.choose_spec hp
  rcases Nat.le_total n (Classical.choose hp) with h1 | h1
  · exact ev_more x h h1
  · exact (ev_more x hc h1).symm
theorem val_zero (x : F) : val 0 x = 0 := by rw [val_eq (Lt.zero 0)]; rfl
theorem val_C (c x : F) : val (C c) x = c := by
  rw [val_eq (Lt.C c)]
  show c + x * 0 = c
  grind
theorem val_sh {s : Pl} (h : Po s) (x : F) : val (sh s) x = x * val s x := by
  obtain ⟨n, hn⟩ := h
  rw [val_eq hn.sh, val_eq hn]
  show (0 : F) + x * ev n s x = _
  grind
theorem ev_add : ∀ (n : Nat) (s t : Pl) (x : F), ev n (s + t) x = ev n s x + ev n t x
  | 0, _, _, _ => by show (0 : F) = 0 + 0; (first | grind | simp)
  | n + 1, s, t, x => by
    show (s 0 + t 0) + x * ev n (tl s + tl t) x = s 0 + x * ev n (tl s) x + (t 0 + x * ev n (tl t) x)
    rw [ev_add n]; grind
theorem ev_sub : ∀ (n : Nat) (s t : Pl) (x : F), ev n (s - t) x = ev n s x - ev n t x
  | 0, _, _, _ => by show (0 : F) = 0 - 0; (first | grind | simp)
  | n + 1, s, t, x => by
    show (s 0 - t 0) + x * ev n (tl s - tl t) x = s 0 + x * ev n (tl s) x - (t 0 + x * ev n (tl t) x)
    rw [ev_sub n]; grind
theorem val_add {s t : Pl} (h : Po s) (k : Po t) (x : F) : val (s + t) x = val s x + val t x := by
  obtain ⟨n, hn⟩ := h
  obtain ⟨m, hm⟩ := k
  have hn' := hn.mono (Nat.le_add_right n m)
  have hm' := hm.mono (Nat.le_add_left m n)
  rw [val_eq (hn'.add hm'), val_eq hn', val_eq hm', ev_add]
theorem val_sub {s t : Pl} (h : Po s) (k : Po t) (x : F) : val (s - t) x = val s x - val t x := by
  obtain ⟨n, hn⟩ := h
  obtain ⟨m, hm⟩ := k
  have hn' := hn.mono (Nat.le_add_right n m)
  have hm' := hm.mono (Nat.le_add_left m n)
  rw [val_eq (hn'.sub hm'), val_eq hn', val_eq hm', ev_sub]
theorem ev_smul (c : F) : ∀ (n : Nat) (s : Pl) (x : F), ev n (C c * s) x = c * ev n s x
  | 0, _, _ => by show (0 : F) = c * 0; grind
  | n + 1, s, x => by
    show (C c * s) 0 + x * ev n (tl (C c * s)) x = c * (s 0 + x * ev n (tl s) x)
    have e : tl (C c * s) = C c * tl s := ext fun k => by rw [tl_at, C_mul_at, C_mul_at, tl_at]
    rw [e, ev_smul c n, C_mul_at]; grind
theorem val_smul (c : F) {s : Pl} (h : Po s) (x : F) : val (C c * s) x = c * val s x := by
  obtain ⟨n, hn⟩ := h
  rw [val_eq (hn.smul c), val_eq hn, ev_smul]
theorem val_mul_lt : ∀ (n : Nat) {s t : Pl} (x : F), Lt s n → Po t → val (s * t) x = val s x * val t x
  | 0, s, t, x, h, _ => by rw [h.eq_zero, zero_mul, val_zero]; grind
  | n + 1, s, t, x, h, k => by
    have hp : Po (tl s) := ⟨n, h.tl⟩
    have hps : Po s := ⟨_, h⟩
    have e : s * t = C (s 0) * t + sh (tl s * t) := by conv => lhs; rw [parts s, add_mul, sh_mul]
    rw [e, val_add ((Po.C _).mul k) (hp.mul k).sh, val_smul _ k, val_sh (hp.mul k), val_mul_lt n x h.tl k]
    have e2 : val s x = s 0 + x * val (tl s) x := by
      conv => lhs; rw [parts s, val_add (Po.C _) hp.sh, val_C, val_sh hp]
    rw [e2]; grind
theorem val_mul {s t : Pl} (h : Po s) (k : Po t) (x : F) : val (s * t) x = val s x * val t x := by
  obtain ⟨n, hn⟩ := h
  exact val_mul_lt n x hn k
theorem val_X (x : F) : val X x = x := by
  unfold X
  rw [val_sh (Po.C 1), val_C]; grind

/-! ### x less a root -/
def lin (c : F) : Pl := X - C c
theorem Po.lin (c : F) : Po (lin c) := Po.X.sub (Po.C c)
theorem Lt.lin (c : F) : Lt (lin c) 2 := ((Lt.C 1).sh).sub ((Lt.C c).mono (by omega))
theorem Dg.lin (c : F) : Dg (lin c) 1 := ⟨by
  show (C 1) 0 - C c 1 ≠ 0
  rw [C_0, C_s, Fld.sub_zero]; exact Fld.one_ne, Lt.lin c⟩
theorem lin_mul (c : F) (s : Pl) : lin c * s = sh s - C c * s := by unfold lin; rw [sub_mul, X_mul]
theorem val_lin (c x : F) : val (lin c) x = x - c := by unfold lin; rw [val_sub Po.X (Po.C c), val_X, val_C]
/-- A value is what is left behind a division by x less the place. -/
theorem synth (c : F) : ∀ (n : Nat) (s : Pl), Lt s (n + 1) → ∃ q, Lt q n ∧ s = lin c * q + C (val s c)
  | 0, s, h => ⟨0, Lt.zero 0, by
    rw [mul_zero, zero_add]
    have hs : s = C (s 0) := by conv => lhs; rw [parts s, (Lt.tl h).eq_zero]
                                exact ext fun n => by cases n <;> simp only [add_at, C_0, C_s, sh_0, sh_s, zero_at] <;> (first | grind | simp)
    conv => lhs; rw [hs]
    congr 1
    conv => rhs; rw [hs, val_C]⟩
  | n + 1, s, h => by
    obtain ⟨q, hq, he⟩ := synth c n (tl s) h.tl
    have hp : Po (tl s) := ⟨_, h.tl⟩
    have hv : val s c = s 0 + c * val (tl s) c := by
      conv => lhs; rw [parts s, val_add (Po.C _) hp.sh, val_C, val_sh hp]
    refine ⟨C (val (tl s) c) + sh q, ((Lt.C _).mono (by omega)).add hq.sh, ?_⟩
    have e1 : s = C (s 0) + sh (lin c * q + C (val (tl s) c)) := by rw [← he]; exact parts s
    conv => lhs; rw [e1]
    rw [hv]
    generalize val (tl s) c = v
    refine ext fun k => ?_
    rw [lin_mul, lin_mul]
    cases k with
    | zero => simp only [add_at, sub_at, C_mul_at, sh_0, C_0]; grind
    | succ k =>
      cases k with
      | zero => simp only [add_at, sub_at, C_mul_at, sh_0, sh_s, C_0, C_s]; grind
      | succ k => simp only [add_at, sub_at, C_mul_at, sh_s, C_s]; grind

/-- There are no more roots than the degree. -/
theorem roots_le : ∀ (d : Nat) (s : Pl), Dg s d → ∀ l : List F, l.Nodup → (∀ x ∈ l, val s x = 0) → l.length ≤ d
  | 0, s, h, l, _, hz => by
    cases l with
    | nil => exact Nat.le_refl _
    | cons x l =>
      have h1 := hz x (by simp)
      rw [val_eq h.2] at h1
      have h2 : s 0 + x * 0 = 0 := h1
      exact absurd (by grind) h.1
  | d + 1, s, h, l, hn, hz => by
    cases l with
    | nil => exact Nat.zero_le _
    | cons c l =>
      obtain ⟨q, hq, he⟩ := synth c (d + 1) s h.2
      have hc : val s c = 0 := hz c (by simp)
      have hpq : Po q := ⟨_, hq⟩
      have e : s = lin c * q := by
        have h0 : C (val s c) = 0 := by rw [hc, C_zero]
        rw [h0, add_zero] at he
        exact he
      have hdq : Dg q d := by
        refine ⟨fun h0 => h.1 ?_, hq⟩
        rw [e, show d + 1 = 1 + d by omega, top_mul (Dg.lin c).2 hq, h0]; grind
      have ih := roots_le d q hdq l (List.nodup_cons.1 hn).2 fun x hx => by
        have h1 := hz x (by simp [hx])
        rw [e, val_mul (Po.lin c) hpq, val_lin] at h1
        rcases Fld.mul_eq_zero.1 h1 with h2 | h2
        · have hxc : x = c := by grind
          exact absurd (hxc ▸ hx) (List.nodup_cons.1 hn).1
        · exact h2
      simp only [List.length_cons]; omega

/-! ### division -/
/-- q and r: what a is, divided by b, and what is left. -/
def DM (a b q r : Pl) : Prop := Po q ∧ Po r ∧ a = q * b + r ∧ ∀ d, Dg b d → Lt r d
theorem DM.uniq {a b q r q' r' : Pl} (hb : Po b) (hne : b ≠ 0) (h : DM a b q r) (k : DM a b q' r') : q = q' ∧ r = r' := by
  obtain ⟨d, hd⟩ := hb.dg hne
  have h4 := h.2.2.2 d hd
  have k4 := k.2.2.2 d hd
  have e : (q - q') * b = r' - r := by
    rw [sub_mul]
    refine ext fun n => ?_
    have := congrFun (h.2.2.1.symm.trans k.2.2.1) n
    simp only [add_at, sub_at] at this ⊢; grind
  have hq : q = q' := by
    refine sub_eq_zero (Classical.byContradiction fun hn => ?_)
    obtain ⟨e', he'⟩ := (h.1.sub k.1).dg hn
    have h5 := he'.mul hd
    rw [e] at h5
    exact h5.1 ((k4.sub h4) _ (by omega))
  refine ⟨hq, ?_⟩
  subst hq
  refine ext fun n => ?_
  have := congrFun (h.2.2.1.symm.trans k.2.2.1) n
  simp only [add_at] at this; grind

/-- d divides a. -/
def Dv (d a : Pl) : Prop := ∃ q, Po q ∧ a = d * q
theorem Dv.refl (a : Pl) : Dv a a := ⟨C 1, Po.C 1, (mul_one a).symm⟩
theorem Dv.zero (d : Pl) : Dv d 0 := ⟨0, Po.zero, (mul_zero d).symm⟩
theorem Dv.add {d a b : Pl} (h : Dv d a) (k : Dv d b) : Dv d (a + b) := by
  obtain ⟨q, hq, rfl⟩ := h
  obtain ⟨r, hr, rfl⟩ := k
  exact ⟨q + r, hq.add hr, (mul_add d q r).symm⟩
theorem Dv.sub {d a b : Pl} (h : Dv d a) (k : Dv d b) : Dv d (a - b) := by
  obtain ⟨q, hq, rfl⟩ := h
  obtain ⟨r, hr, rfl⟩ := k
  exact ⟨q - r, hq.sub hr, (mul_sub d q r).symm⟩
theorem Dv.mul {d a : Pl} (h : Dv d a) {b : Pl} (hb : Po b) : Dv d (b * a) := by
  obtain ⟨q, hq, rfl⟩ := h
  exact ⟨b * q, hb.mul hq, mul_left_comm b d q⟩
theorem Dv.mul' {d a : Pl} (h : Dv d a) {b : Pl} (hb : Po b) : Dv d (a * b) := by rw [mul_comm]; exact h.mul hb
theorem Dv.trans {d a b : Pl} (h : Dv d a) (k : Dv a b) : Dv d b := by
  obtain ⟨q, hq, rfl⟩ := h
  obtain ⟨r, hr, rfl⟩ := k
  exact ⟨q * r, hq.mul hr, mul_assoc d q r⟩
theorem Dv.dg {d a : Pl} {m n : Nat} (h : Dv d a) (hd : Dg d m) (ha : Dg a n) : m ≤ n := by
  obtain ⟨q, hq, rfl⟩ := h
  have hq0 : q ≠ 0 := by rintro rfl; exact ha.ne (mul_zero d)
  obtain ⟨e, he⟩ := hq.dg hq0
  have := (hd.mul he).uniq ha
  omega
theorem Dv.po {d a : Pl} (hd : Po d) (h : Dv d a) : Po a := by
  obtain ⟨q, hq, rfl⟩ := h
  exact hd.mul hq
theorem Dv.left {d q r a : Pl} (hq : Po q) {b : Pl} (e : a = q * b + r) : (Dv d b ∧ Dv d r) ↔ (Dv d a ∧ Dv d b) := by
  constructor
  · rintro ⟨h, k⟩
    exact ⟨by rw [e]; exact (h.mul hq).add k, h⟩
  · rintro ⟨h, k⟩
    refine ⟨k, ?_⟩
    have e2 : r = a - q * b := by rw [e, add_comm, add_sub]
    rw [e2]
    exact h.sub (k.mul hq)
theorem Dv.val {d a : Pl} (hd : Po d) (h : Dv d a) {x : F} (hx : val d x = 0) : val a x = 0 := by
  obtain ⟨q, hq, rfl⟩ := h
  rw [val_mul hd hq, hx]; grind
theorem dv_lin {s : Pl} (h : Po s) (c : F) : Dv (lin c) s ↔ val s c = 0 := by
  constructor
  · intro hd
    exact hd.val (Po.lin c) (by rw [val_lin]; grind)
  · intro hv
    obtain ⟨n, hn⟩ := h
    obtain ⟨q, hq, e⟩ := synth c n s (hn.mono (Nat.le_succ n))
    have h0 : C (Pl.val s c) = 0 := by rw [hv, C_zero]
    rw [h0, add_zero] at e
    exact ⟨q, ⟨n, hq⟩, e⟩
theorem dv_smul {c : F} (hc : c ≠ 0) {d a : Pl} : Dv d (C c * a) ↔ Dv d a := by
  constructor
  · intro h
    have h2 := h.mul (Po.C (Fld.iv c))
    rw [← mul_assoc, C_mul, Fin.mul_comm, Fld.mul_iv hc, one_mul] at h2
    exact h2
  · intro h; exact h.mul (Po.C c)

/-- g is the monic one of the greatest degree that divides both; nothing, if both are 0. -/
def Gc (a b g : Pl) : Prop := Po g ∧ (∀ d, Po d → (Dv d g ↔ Dv d a ∧ Dv d b)) ∧ ∀ n, Dg g n → g n = 1
theorem Gc.left {a b g : Pl} (h : Gc a b g) : Dv g a := ((h.2.1 g h.1).1 (Dv.refl g)).1
theorem Gc.right {a b g : Pl} (h : Gc a b g) : Dv g b := ((h.2.1 g h.1).1 (Dv.refl g)).2
theorem Dv.zero_left {a : Pl} (h : Dv 0 a) : a = 0 := by
  obtain ⟨q, _, rfl⟩ := h
  exact zero_mul q
theorem dv_monic {g k : Pl} (hg : Po g) (hk : Po k) (mg : ∀ n, Dg g n → g n = 1) (mk : ∀ n, Dg k n → k n = 1) (h1 : Dv g k) (h2 : Dv k g) : g = k := by
  by_cases g0 : g = 0
  · subst g0; exact h1.zero_left.symm
  · obtain ⟨n, hn⟩ := hg.dg g0
    have k0 : k ≠ 0 := by rintro rfl; exact g0 h2.zero_left
    obtain ⟨m, hm⟩ := hk.dg k0
    have e : n = m := Nat.le_antisymm (h1.dg hn hm) (h2.dg hm hn)
    subst e
    obtain ⟨q, hq, rfl⟩ := h1
    have hq0 : q ≠ 0 := by rintro rfl; exact k0 (mul_zero g)
    obtain ⟨e, he⟩ := hq.dg hq0
    have e0 : e = 0 := by have := (hn.mul he).uniq hm; omega
    subst e0
    have hqc : q = C (q 0) := by conv => lhs; rw [parts q, (Lt.tl he.2).eq_zero]
                                 exact ext fun n => by cases n <;> simp only [add_at, C_0, C_s, sh_0, sh_s, zero_at] <;> (first | grind | simp)
    have t1 := mg n hn
    have t2 := mk n hm
    have t3 := top_mul hn.2 he.2
    rw [Nat.add_zero, t2, t1] at t3
    have t4 : q 0 = 1 := by grind
    rw [hqc, t4, mul_one]
theorem Gc.uniq {a b g k : Pl} (h : Gc a b g) (h' : Gc a b k) : g = k :=
  dv_monic h.1 h'.1 h.2.2 h'.2.2 ((h'.2.1 g h.1).2 ((h.2.1 g h.1).1 (Dv.refl g))) ((h.2.1 k h'.1).2 ((h'.2.1 k h'.1).1 (Dv.refl k)))
theorem Gc.val {a b g : Pl} (ha : Po a) (hb : Po b) (h : Gc a b g) (x : F) : val g x = 0 ↔ val a x = 0 ∧ val b x = 0 := by
  rw [← dv_lin h.1, ← dv_lin ha, ← dv_lin hb]
  exact h.2.1 _ (Po.lin x)
theorem Gc.zero {a b : Pl} (h : Gc a b 0) : a = 0 ∧ b = 0 := ⟨h.left.zero_left, h.right.zero_left⟩

/-! ### all numbers of the field -/
/-- All numbers of the field. -/
def alls : List F := (List.range Fld.P).map to
theorem alls_len : alls.length = Fld.P := by simp [alls]
theorem mem_alls (x : F) : x ∈ alls := List.mem_map.2 ⟨x.val, List.mem_range.2 x.isLt, Fld.to_self x⟩
theorem alls_nodup : alls.Nodup := by
  unfold alls
  rw [List.Nodup, List.pairwise_map]
  refine List.Pairwise.imp_of_mem ?_ (List.nodup_range (n := Fld.P))
  intro a b ha hb hab e
  exact hab (Fld.to_inj (List.mem_range.1 ha) (List.mem_range.1 hb) e)
open Classical in
/-- The roots. -/
noncomputable def rts (s : Pl) : List F := alls.filter fun x => decide (val s x = 0)
theorem mem_rts (s : Pl) (x : F) : x ∈ rts s ↔ val s x = 0 := by
  unfold rts
  rw [List.mem_filter]
  exact ⟨fun h => of_decide_eq_true h.2, fun h => ⟨mem_alls x, decide_eq_true h⟩⟩
theorem rts_nodup (s : Pl) : (rts s).Nodup := List.Nodup.sublist List.filter_sublist alls_nodup
theorem rts_le {s : Pl} {d : Nat} (h : Dg s d) : (rts s).length ≤ d := roots_le d s h _ (rts_nodup s) fun x hx => (mem_rts s x).1 hx
theorem len_filter_or {α : Type} (p q : α → Bool) : ∀ l : List α, (∀ x ∈ l, p x = true ∨ q x = true) → l.length ≤ (l.filter p).length + (l.filter q).length
  | [], _ => by simp
  | x :: l, h => by
    have ih := len_filter_or p q l fun y hy => h y (by simp [hy])
    have hx := h x (by simp)
    rw [List.filter_cons, List.filter_cons, List.length_cons]
    rcases hx with h1 | h1
    · rw [if_pos h1, List.length_cons]
      by_cases h2 : q x = true
      · rw [if_pos h2, List.length_cons]; omega
      · rw [if_neg h2]; omega
    · rw [if_pos h1, List.length_cons]
      by_cases h2 : p x = true
      · rw [if_pos h2, List.length_cons]; omega
      · rw [if_neg h2]; omega

/-- It has as many roots as its degree. -/
def Full (s : Pl) : Prop := ∃ d, Dg s d ∧ (rts s).length = d
open Classical in
theorem full_parts {s a b : Pl} (ha : Po a) (hb : Po b) (e : s = a * b) (h : Full s) : Full a ∧ Full b ∧ ∀ x, ¬ (val a x = 0 ∧ val b x = 0) := by
  obtain ⟨d, hd, hl⟩ := h
  have a0 : a ≠ 0 := by rintro rfl; exact hd.ne (by rw [e, zero_mul])
  have b0 : b ≠ 0 := by rintro rfl; exact hd.ne (by rw [e, mul_zero])
  obtain ⟨m, hm⟩ := ha.dg a0
  obtain ⟨n, hn⟩ := hb.dg b0
  have hmn : m + n = d := (e ▸ hm.mul hn).uniq hd
  have la := rts_le hm
  have lb := rts_le hn
  have hroot : ∀ x, val s x = 0 ↔ val a x = 0 ∨ val b x = 0 := fun x => by rw [e, val_mul ha hb]; exact Fld.mul_eq_zero
  -- the roots of s, parted by a and b
  have ea : rts a = (rts s).filter fun x => decide (val a x = 0) := by
    unfold rts
    rw [List.filter_filter]
    refine List.filter_congr fun x _ => ?_
    by_cases h1 : val a x = 0
    · simp [h1, (hroot x).2 (.inl h1)]
    · simp [h1]
  have eb : rts b = (rts s).filter fun x => decide (val b x = 0) := by
    unfold rts
    rw [List.filter_filter]
    refine List.filter_congr fun x _ => ?_
    by_cases h1 : val b x = 0
    · simp [h1, (hroot x).2 (.inr h1)]
    · simp [h1]
  have hle := len_filter_or (fun x => decide (val a x = 0)) (fun x => decide (val b x = 0)) (rts s) fun x hx => by
    rcases (hroot x).1 ((mem_rts s x).1 hx) with h1 | h1
    · exact .inl (decide_eq_true h1)
    · exact .inr (decide_eq_true h1)
  rw [← ea, ← eb] at hle
  refine ⟨⟨m, hm, by omega⟩, ⟨n, hn, by omega⟩, fun x hx => ?_⟩
  -- were x in both, one would be counted twice
  have hxs : x ∈ rts s := (mem_rts s x).2 ((hroot x).2 (.inl hx.1))
  have h2 := len_filter_or (fun y => decide (val a y = 0)) (fun y => decide (val b y = 0)) ((rts s).erase x) fun y hy => by
    rcases (hroot y).1 ((mem_rts s y).1 (List.mem_of_mem_erase hy)) with h1 | h1
    · exact .inl (decide_eq_true h1)
    · exact .inr (decide_eq_true h1)
  have e1 : (((rts s).erase x).filter fun y => decide (val a y = 0)) = (rts a).erase x := by
    rw [ea, List.Nodup.erase_eq_filter (rts_nodup s), List.Nodup.erase_eq_filter ((rts_nodup s).sublist List.filter_sublist), List.filter_filter, List.filter_filter]
    exact List.filter_congr fun y _ => Bool.and_comm _ _
  have e2 : (((rts s).erase x).filter fun y => decide (val b y = 0)) = (rts b).erase x := by
    rw [eb, List.Nodup.erase_eq_filter (rts_nodup s), List.Nodup.erase_eq_filter ((rts_nodup s).sublist List.filter_sublist), List.filter_filter, List.filter_filter]
    exact List.filter_congr fun y _ => Bool.and_comm _ _
  rw [e1, e2, List.length_erase_of_mem hxs, List.length_erase_of_mem ((mem_rts a x).2 hx.1), List.length_erase_of_mem ((mem_rts b x).2 hx.2)] at h2
  have p1 := List.length_pos_of_mem ((mem_rts a x).2 hx.1)
  have p2 := List.length_pos_of_mem ((mem_rts b x).2 hx.2)
  omega

/-! ### x^P less x -/
def pw (s : Pl) : Nat → Pl
  | 0 => C 1
  | n + 1 => pw s n * s
theorem Po.pw {s : Pl} (h : Po s) : ∀ n, Po (pw s n)
  | 0 => Po.C 1
  | n + 1 => (Po.pw h n).mul h
theorem pw_add (s : Pl) (m : Nat) : ∀ n, pw s (m + n) = pw s m * pw s n
  | 0 => (mul_one _).symm
  | n + 1 => by rw [← Nat.add_assoc, Pl.pw, pw_add s m n, Pl.pw, mul_assoc]
theorem val_pw {s : Pl} (h : Po s) (x : F) : ∀ n, val (pw s n) x = Fld.up (val s x) n
  | 0 => by show val (C 1) x = _; rw [val_C, Fld.up_zero]
  | n + 1 => by rw [pw, val_mul (Po.pw h n) h, val_pw h x n, Fld.up_succ]
theorem Dg.pw {s : Pl} (h : Dg s 1) (h1 : s 1 = 1) : ∀ n, Dg (pw s n) n ∧ pw s n n = 1
  | 0 => ⟨⟨Fld.one_ne, Lt.C 1⟩, rfl⟩
  | n + 1 => ⟨(Dg.pw h h1 n).1.mul h, by
    show (Pl.pw s n * s) (n + 1) = 1
    rw [top_mul (Dg.pw h h1 n).1.2 h.2, (Dg.pw h h1 n).2, h1]; grind⟩
theorem Dg.X : Dg X 1 := ⟨Fld.one_ne, (Lt.C 1).sh⟩
/-- x^P less x. -/
def xp : Pl := pw X 2305843009213693951 - X
theorem Po.xp : Po xp := (Po.pw Po.X _).sub Po.X
theorem Dg.xp : Dg xp 2305843009213693951 := by
  have h := Dg.pw Dg.X rfl 2305843009213693951
  refine ⟨?_, h.1.2.sub (Dg.X.2.mono (by omega))⟩
  unfold Pl.xp
  rw [sub_at, h.2, Dg.X.2 2305843009213693951 (by omega)]
  intro e
  exact Fld.one_ne ((Fld.sub_zero 1).symm.trans e)
theorem pow_P (x : F) : Fld.up x 2305843009213693951 = x := by
  by_cases h : x = 0
  · subst h
    rw [show (2305843009213693951 : Nat) = 2305843009213693950 + 1 from rfl, Fld.up_succ, Fin.mul_zero]
  · rw [show (2305843009213693951 : Nat) = 2305843009213693950 + 1 from rfl, Fld.up_succ, Fld.fermatF h]; grind
theorem val_xp (x : F) : val xp x = 0 := by
  unfold xp
  rw [val_sub (Po.pw Po.X _) Po.X, val_pw Po.X, val_X, pow_P]; grind
theorem xp_full : Full xp := ⟨_, Dg.xp, by
  have e : rts xp = alls := by
    unfold rts
    exact List.filter_eq_self.2 fun x _ => decide_eq_true (val_xp x)
  rw [e, alls_len]; rfl⟩
attribute [irreducible] xp
theorem full_of_dv {s : Pl} (h : Po s) (hd : Dv s xp) : Full s := by
  obtain ⟨q, hq, e⟩ := hd
  exact (full_parts h hq e xp_full).1

end Pl
end Go.Proofs.Ytcbcmnbfflaicaa

/-
  POLYNOMIALS AS LISTS OF NUMBERS, WITHOUT ANY PROGRAM: what a list says, trimmed lists, a list added to another one at a place. No condition.
-/
namespace Go.Proofs.Ytcbcmnbfflaicaa
open Fld (F to)

namespace Pl
/-- What a list of coefficients says. -/
def co (l : List Nat) : Pl := fun i => to (l[i]?.getD 0)
theorem co_at (l : List Nat) (i : Nat) : co l i = to (l[i]?.getD 0) := rfl
theorem co_nil : co [] = 0 := ext fun n => by rw [co_at, zero_at]; simp; rfl
theorem co_cons (x : Nat) (l : List Nat) : co (x :: l) = C (to x) + sh (co l) := ext fun n => by
  cases n with
  | zero => rw [co_at, add_at, C_0, sh_0]; simp
  | succ n => rw [co_at, add_at, C_s, sh_s, co_at]; simp
theorem Lt.co (l : List Nat) : Lt (co l) l.length := fun i hi => by
  rw [co_at, List.getElem?_eq_none hi]; rfl
theorem Po.co (l : List Nat) : Po (co l) := ⟨_, Lt.co l⟩
/-- Numbers of the field. -/
def Sm (l : List Nat) : Prop := ∀ x ∈ l, x < 2305843009213693951
/-- Trimmed. -/
def Tr (l : List Nat) : Prop := Sm l ∧ (l.length = 0 ∨ l[l.length - 1]?.getD 0 ≠ 0)
theorem Sm.nil : Sm [] := fun x h => by cases h
theorem Sm.get {l : List Nat} (h : Sm l) (i : Nat) : l[i]?.getD 0 < 2305843009213693951 := by
  rcases Nat.lt_or_ge i l.length with h1 | h1
  · rw [List.getElem?_eq_getElem h1]; exact h _ (List.getElem_mem h1)
  · rw [List.getElem?_eq_none h1]; decide
theorem Sm.take {l : List Nat} (h : Sm l) (n : Nat) : Sm (l.take n) := fun x hx => h x (List.mem_of_mem_take hx)
theorem Sm.big {l : List Nat} (h : Sm l) : ∀ x ∈ l, x < 18446744073709551616 := fun x hx => Nat.lt_trans (h x hx) (by omega)
theorem to_eq_zero {n : Nat} (h : n < 2305843009213693951) : to n = 0 ↔ n = 0 := by
  constructor
  · intro e; exact Fld.to_inj h (by omega) (e.trans Fld.to_zero.symm)
  · rintro rfl; rfl
theorem Tr.nil : Tr [] := ⟨Sm.nil, .inl rfl⟩
theorem Tr.dg {l : List Nat} (h : Tr l) {n : Nat} (hn : l.length = n + 1) : Dg (co l) n := by
  refine ⟨fun e => ?_, hn ▸ Lt.co l⟩
  rcases h.2 with h1 | h1
  · omega
  · rw [hn, Nat.add_sub_cancel] at h1
    exact h1 ((to_eq_zero (h.1.get n)).1 e)
theorem Tr.zero {l : List Nat} (h : Tr l) (e : co l = 0) : l = [] := by
  cases hl : l.length with
  | zero => exact List.eq_nil_of_length_eq_zero hl
  | succ n => exact absurd e (h.dg hl).ne
theorem Tr.len_zero {l : List Nat} (h : Tr l) : l.length = 0 ↔ co l = 0 := by
  constructor
  · intro e; rw [List.eq_nil_of_length_eq_zero e, co_nil]
  · intro e; rw [h.zero e]; rfl
theorem co_inj {a b : List Nat} (ha : Tr a) (hb : Tr b) (h : co a = co b) : a = b := by
  have hl : a.length = b.length := by
    cases h1 : a.length with
    | zero =>
      have e : co b = 0 := by rw [← h, List.eq_nil_of_length_eq_zero h1, co_nil]
      rw [hb.zero e]; rfl
    | succ n =>
      cases h2 : b.length with
      | zero =>
        have e : co a = 0 := by rw [h, List.eq_nil_of_length_eq_zero h2, co_nil]
        rw [ha.zero e] at h1; cases h1
      | succ m => rw [(ha.dg h1).uniq (h ▸ hb.dg h2)]
  refine List.ext_getElem hl fun i h1 h2 => ?_
  have := congrFun h i
  rw [co_at, co_at, List.getElem?_eq_getElem h1, List.getElem?_eq_getElem h2] at this
  exact Fld.to_inj (ha.1 _ (List.getElem_mem h1)) (hb.1 _ (List.getElem_mem h2)) this
theorem Tr.len {l : List Nat} (h : Tr l) {n : Nat} (hl : Lt (co l) n) : l.length ≤ n := by
  cases h1 : l.length with
  | zero => exact Nat.zero_le _
  | succ m => exact (h.dg h1).lt hl
theorem Tr.len_le {l : List Nat} (h : Tr l) {a : List Nat} (e : co l = co a) : l.length ≤ a.length := h.len (e ▸ Lt.co a)

/-- The list l is trimmed, and says s. -/
def Is (l : List Nat) (s : Pl) : Prop := Tr l ∧ co l = s
theorem Is.uniq {a b : List Nat} {s : Pl} (h : Is a s) (k : Is b s) : a = b := co_inj h.1 k.1 (h.2.trans k.2.symm)

theorem co_take_zero {l : List Nat} {n : Nat} (h : l[n]?.getD 0 = 0) : co (l.take n) = co (l.take (n + 1)) := ext fun i => by
  rw [co_at, co_at, List.getElem?_take, List.getElem?_take]
  by_cases h1 : i < n
  · rw [if_pos h1, if_pos (by omega)]
  · rw [if_neg h1]
    by_cases h2 : i < n + 1
    · rw [if_pos h2, show i = n by omega, h]; rfl
    · rw [if_neg h2]
theorem co_take (l : List Nat) (n i : Nat) : co (l.take n) i = if i < n then co l i else 0 := by
  rw [co_at, List.getElem?_take]
  by_cases h1 : i < n
  · rw [if_pos h1, if_pos h1]; rfl
  · rw [if_neg h1, if_neg h1]; rfl
theorem co_take_lt {l : List Nat} {n : Nat} (h : Lt (co l) n) : co (l.take n) = co l := ext fun i => by
  rw [co_take]
  by_cases h1 : i < n
  · rw [if_pos h1]
  · rw [if_neg h1, h i (by omega)]

/-! ### times powers of x -/
def shn : Nat → Pl → Pl
  | 0, s => s
  | n + 1, s => sh (shn n s)
theorem shn_at : ∀ (n : Nat) (s : Pl) (i : Nat), shn n s i = if n ≤ i then s (i - n) else 0
  | 0, s, i => by rw [if_pos (Nat.zero_le i)]; rfl
  | n + 1, s, 0 => by rw [if_neg (by omega)]; rfl
  | n + 1, s, i + 1 => by
    show shn n s i = _
    rw [shn_at n s i]
    by_cases h : n ≤ i
    · rw [if_pos h, if_pos (by omega), show i + 1 - (n + 1) = i - n by omega]
    · rw [if_neg h, if_neg (by omega)]
theorem shn_mul : ∀ (n : Nat) (s t : Pl), shn n s * t = shn n (s * t)
  | 0, _, _ => rfl
  | n + 1, s, t => by
    show sh (shn n s) * t = sh (shn n (s * t))
    rw [sh_mul, shn_mul n s t]
theorem shn_add (n : Nat) (s t : Pl) : shn n (s + t) = shn n s + shn n t := ext fun i => by
  rw [add_at, shn_at, shn_at, shn_at]
  by_cases h : n ≤ i
  · rw [if_pos h, if_pos h, if_pos h, add_at]
  · rw [if_neg h, if_neg h, if_neg h]; exact (Fin.add_zero 0).symm
theorem shn_smul (n : Nat) (c : F) (s : Pl) : shn n (C c * s) = C c * shn n s := ext fun i => by
  rw [C_mul_at, shn_at, shn_at]
  by_cases h : n ≤ i
  · rw [if_pos h, if_pos h, C_mul_at]
  · rw [if_neg h, if_neg h]; exact (Fin.mul_zero c).symm
theorem shn_sh : ∀ (n : Nat) (s : Pl), shn n (sh s) = shn (n + 1) s
  | 0, _ => rfl
  | n + 1, s => by
    show sh (shn n (sh s)) = sh (shn (n + 1) s)
    rw [shn_sh n s]
theorem shn_zero (n : Nat) : shn n 0 = 0 := ext fun i => by rw [shn_at]; split <;> rfl
theorem Po.shn {s : Pl} (h : Po s) : ∀ n, Po (shn n s)
  | 0 => h
  | n + 1 => (Po.shn h n).sh
theorem sh_zero : sh 0 = 0 := ext fun i => by cases i <;> rfl

/-! ### a list added to another one, at a place -/
def up (L : List Nat) (off : Nat) (a : List Nat) (t : Nat) : Nat → List Nat
  | 0 => L
  | k + 1 => (up L off a t k).set (off + k) (Fld.add (L[off + k]?.getD 0) (Fld.mul (a[k]?.getD 0) t))
theorem up_len (L : List Nat) (off : Nat) (a : List Nat) (t : Nat) : ∀ k, (up L off a t k).length = L.length
  | 0 => rfl
  | k + 1 => by rw [up, List.length_set, up_len L off a t k]
theorem up_get (L : List Nat) (off : Nat) (a : List Nat) (t j : Nat) : ∀ k, off + k ≤ j → (up L off a t k)[j]? = L[j]?
  | 0, _ => rfl
  | k + 1, h => by
    rw [up, List.getElem?_set_ne (by omega)]
    exact up_get L off a t j k (by omega)
theorem up_sm {L : List Nat} (h : Sm L) (off : Nat) (a : List Nat) (t : Nat) : ∀ k, Sm (up L off a t k)
  | 0 => h
  | k + 1 => fun x hx => by
    rcases List.mem_or_eq_of_mem_set hx with h1 | h1
    · exact up_sm h off a t k x h1
    · rw [h1]; exact Fld.add_lt _ _
theorem co_set {L : List Nat} {i : Nat} (h : i < L.length) (v : Nat) (n : Nat) : co (L.set i v) n = if n = i then to v else co L n := by
  rw [co_at, co_at, List.getElem?_set]
  by_cases e : n = i
  · subst e; rw [if_pos rfl, if_pos rfl, if_pos h]; rfl
  · rw [if_neg e, if_neg (Ne.symm e)]
theorem co_up (L : List Nat) (off : Nat) (a : List Nat) (t n : Nat) : ∀ k, off + k ≤ L.length → co (up L off a t k) n = co L n + if off ≤ n ∧ n < off + k then to t * co a (n - off) else 0
  | 0, _ => by
    rw [if_neg (by omega)]
    show co L n = co L n + 0
    exact (Fin.add_zero _).symm
  | k + 1, h => by
    rw [up, co_set (by rw [up_len]; omega)]
    by_cases e : n = off + k
    · subst e
      rw [if_pos rfl, if_pos (by omega), Fld.to_addF, Fld.to_mulF, show off + k - off = k by omega, co_at, co_at, Fin.mul_comm]
    · rw [if_neg e, co_up L off a t n k (by omega)]
      by_cases h1 : off ≤ n ∧ n < off + k
      · rw [if_pos h1, if_pos (by omega)]
      · rw [if_neg h1, if_neg (by omega)]
theorem co_up_all (L : List Nat) (off : Nat) (a : List Nat) (t m : Nat) (hm : m = a.length) (h : off + m ≤ L.length) : co (up L off a t m) = co L + C (to t) * shn off (co a) := ext fun n => by
  rw [co_up L off a t n m h, add_at, C_mul_at, shn_at]
  by_cases h1 : off ≤ n
  · by_cases h2 : n < off + m
    · rw [if_pos ⟨h1, h2⟩, if_pos h1]
    · rw [if_neg (by omega), if_pos h1, Lt.co a (n - off) (by omega), Fin.mul_zero]
  · rw [if_neg (by omega), if_neg h1, Fin.mul_zero]
theorem co_zeros (n : Nat) : co (List.replicate n 0) = 0 := ext fun i => by
  rw [co_at, List.getElem?_replicate]
  split <;> rfl
theorem sm_zeros (n : Nat) : Sm (List.replicate n 0) := fun x hx => by rw [List.eq_of_mem_replicate hx]; omega

/-! ### lists that are built up -/
theorem co_snoc (l : List Nat) (x : Nat) (n : Nat) : co (l ++ [x]) n = if n = l.length then to x else co l n := by
  rw [co_at, co_at]
  rcases Nat.lt_trichotomy n l.length with h | h | h
  · rw [if_neg (by omega), List.getElem?_append_left h]
  · subst h; rw [if_pos rfl]; simp
  · rw [if_neg (by omega), List.getElem?_eq_none (by simp; omega), List.getElem?_eq_none (by omega)]
theorem Sm.snoc {l : List Nat} (h : Sm l) {x : Nat} (hx : x < 2305843009213693951) : Sm (l ++ [x]) := fun y hy => by
  rcases List.mem_append.1 hy with h1 | h1
  · exact h y h1
  · rw [List.mem_singleton.1 h1]; exact hx
/-- The first so many numbers that a rule gives. -/
def tab (f : Nat → Nat) (n : Nat) : List Nat := (List.range n).map f
theorem tab_len (f : Nat → Nat) (n : Nat) : (tab f n).length = n := by simp [tab]
theorem tab_succ (f : Nat → Nat) (n : Nat) : tab f (n + 1) = tab f n ++ [f n] := by simp [tab, List.range_succ]
theorem tab_get (f : Nat → Nat) (n i : Nat) : (tab f n)[i]? = if i < n then some (f i) else none := by
  unfold tab
  rw [List.getElem?_map]
  by_cases h : i < n
  · rw [if_pos h, List.getElem?_range h]; rfl
  · rw [if_neg h, List.getElem?_eq_none (by simp; omega)]; rfl
theorem co_tab (f : Nat → Nat) (n i : Nat) : co (tab f n) i = if i < n then to (f i) else 0 := by
  rw [co_at, tab_get]
  by_cases h : i < n
  · rw [if_pos h, if_pos h]; rfl
  · rw [if_neg h, if_neg h]; rfl
theorem sm_tab {f : Nat → Nat} {n : Nat} (h : ∀ i, f i < 2305843009213693951) : Sm (tab f n) := fun x hx => by
  obtain ⟨i, _, rfl⟩ := List.mem_map.1 hx
  exact h i
end Pl
end Go.Proofs.Ytcbcmnbfflaicaa

/- DIVISION, STEP BY STEP, WITHOUT ANY PROGRAM: what each step keeps, and what the last one leaves. No condition. -/
namespace Go.Proofs.Ytcbcmnbfflaicaa
open Fld (F)
namespace Pl
def Dk (A0 b : Pl) (la nq k : Nat) (S Q : Pl) : Prop := S + Q * b = A0 ∧ Lt S (la - k) ∧ ∀ i, i + k < nq → Q i = 0
theorem Dk.start {A0 b : Pl} {la nq : Nat} (h : Lt A0 la) : Dk A0 b la nq 0 A0 0 := ⟨by rw [zero_mul, add_zero], h, fun _ _ => rfl⟩
theorem Dk.step {A0 b S Q S' Q' : Pl} {la dg nq k p : Nat} {v : F} (h : Dk A0 b la nq k S Q) (hp : p + (k + 1) = nq) (hla : nq + dg = la) (hb : Dg b dg) (hv : v * b dg = S (p + dg)) (hQ : Q p = 0)
    (hS' : S' = S + C (0 - v) * shn p b) (hQ' : ∀ n, Q' n = if n = p then v else Q n) : Dk A0 b la nq (k + 1) S' Q' := by
  obtain ⟨h1, h2, h3⟩ := h
  have e : Q' = Q + C v * shn p (C 1) := ext fun n => by
    rw [hQ', add_at, C_mul_at, shn_at]
    by_cases e1 : n = p
    · subst e1
      rw [if_pos rfl, if_pos (Nat.le_refl _), Nat.sub_self, C_0, hQ]; grind
    · rw [if_neg e1]
      by_cases e2 : p ≤ n
      · obtain ⟨d, hd⟩ : ∃ d, n - p = d + 1 := ⟨n - p - 1, by omega⟩
        rw [if_pos e2, hd, C_s]; exact ((Fin.mul_zero v) ▸ (Fin.add_zero (Q n))).symm
      · rw [if_neg e2]; exact ((Fin.mul_zero v) ▸ (Fin.add_zero (Q n))).symm
  refine ⟨?_, fun i hi => ?_, fun i hi => ?_⟩
  · rw [hS', e, add_mul, mul_assoc, shn_mul, one_mul, ← h1]
    refine ext fun n => ?_
    simp only [add_at, C_mul_at]; grind
  · rw [hS', add_at, C_mul_at, shn_at, if_pos (by omega)]
    by_cases e1 : i = p + dg
    · subst e1
      rw [show p + dg - p = dg by omega, ← hv]; grind
    · rw [h2 i (by omega), hb.2 (i - p) (by omega), Fin.mul_zero, Fin.add_zero]
  · rw [hQ', if_neg (by omega), h3 i (by omega)]
theorem Dk.dm {A0 b S Q : Pl} {la dg nq : Nat} (h : Dk A0 b la nq nq S Q) (hb : Dg b dg) (hla : la - nq ≤ dg) (hQ : Po Q) : DM A0 b Q S :=
  ⟨hQ, ⟨_, h.2.1⟩, by rw [← h.1, add_comm], fun d hd => by rw [← hb.uniq hd]; exact h.2.1.mono hla⟩
theorem quo_top {A0 b q r : Pl} {n dg : Nat} (h : DM A0 b q r) (hb : Dg b dg) (hq : Lt q (n + 1)) (hA : Dg A0 (n + dg)) : q n ≠ 0 := fun e => by
  have h1 := hA.1
  rw [h.2.2.1, add_at, top_mul hq hb.2, h.2.2.2 dg hb (n + dg) (by omega), e] at h1
  exact h1 (by rw [Fin.zero_mul, Fin.add_zero])
end Pl
theorem Pl.Sm.set_ {l : List Nat} (h : Pl.Sm l) (i : Nat) {v : Nat} (hv : v < 2305843009213693951) : Pl.Sm (l.set i v) := fun x hx => by
  rcases List.mem_or_eq_of_mem_set hx with h1 | h1
  · exact h x h1
  · rw [h1]; exact hv
theorem Pl.up_take (L : List Nat) (off : Nat) (a : List Nat) (t n : Nat) : ∀ k, off + k ≤ n → (Pl.up L off a t k).take n = Pl.up (L.take n) off a t k
  | 0, _ => rfl
  | k + 1, h => by
    rw [Pl.up, Pl.up, List.take_set, Pl.up_take L off a t n k (by omega)]
    congr 2
    rw [List.getElem?_take, if_pos (by omega)]
end Go.Proofs.Ytcbcmnbfflaicaa

/-
  Package poly's addTimes: a list, times a number, is added to what stands at a place in memory; nothing else turns. For lists of numbers of 64 bits that memory can hold.
-/
namespace Go.Proofs.Ytcbcmnbfflaicaa
open Go.RowKit

/-- Block g holds the numbers L. -/
def Ar (w : World) (g : Nat) (L : List Nat) : Prop := Blk w g 22 (u64s L).toArray
theorem Ar.lt {w : World} {g : Nat} {L : List Nat} (h : Ar w g L) : g < w.heap.size := Blk.lt h
theorem u64s_get (L : List Nat) (i : Nat) : (u64s L)[i]? = L[i]?.map fun n : Nat => Value.int .u64 (n : Int) := by unfold u64s; rw [List.getElem?_map]
theorem u64s_at {L : List Nat} {i : Nat} (h : i < L.length) : (u64s L)[i]? = some (.int .u64 ((L[i]?.getD 0 : Nat) : Int)) := by
  rw [u64s_get, List.getElem?_eq_getElem h]; rfl
theorem Ar.cell {w : World} {g : Nat} {L : List Nat} (h : Ar w g L) {i : Nat} (hi : i < L.length) : w.cell? ⟨g, i, none⟩ = some (.int .u64 ((L[i]?.getD 0 : Nat) : Int)) := by
  rw [Blk.cell h i, List.getElem?_toArray]; exact u64s_at hi
theorem Ar.frozen {w : World} {g : Nat} {L : List Nat} (h : Ar w g L) (i : Nat) : w.frozen? ⟨g, i, none⟩ = false := Blk.frozen h i
theorem u64s_set (L : List Nat) (i v : Nat) : (u64s (L.set i v)).toArray = (u64s L).toArray.setIfInBounds i (.int .u64 (v : Int)) := by
  unfold u64s
  rw [List.map_set, List.setIfInBounds_toArray]
theorem Ar.set_ {w : World} {g : Nat} {L : List Nat} (h : Ar w g L) (i v : Nat) : Ar (w.setCell ⟨g, i, none⟩ (.int .u64 (v : Int))) g (L.set i v) := by
  unfold Ar; rw [u64s_set]; exact Blk.set_ h i _
theorem Ar.below {w w' : World} {n g : Nat} {L : List Nat} (h : Ar w g L) (hb : Below n w w') (hg : g < n) : Ar w' g L := Blk.below h hb hg
theorem Ar.drew {w : World} {g : Nat} {L : List Nat} (h : Ar w g L) : Ar w.drew g L := h
theorem Ar.rd {w : World} {g B : Nat} {L : List Nat} (h : Ar w g L) (hB : g < B) : Rd B w (some ⟨g, 0, none⟩) (u64s L) := fun _ =>
  ⟨g, 0, rfl, hB, fun i u hu => by rw [Nat.zero_add, Blk.cell h i, List.getElem?_toArray]; exact hu⟩
theorem Rd.take {B : Nat} {w : World} {A : Option Addr} {l : List Nat} (h : Rd B w A (u64s l)) (n : Nat) : Rd B w A (u64s (l.take n)) := fun hp => by
  obtain ⟨b, off, e, hlt, hc⟩ := h (by rw [u64s_len, List.length_take] at hp; rw [u64s_len]; omega)
  refine ⟨b, off, e, hlt, fun i u hu => hc i u ?_⟩
  rw [u64s_get, List.getElem?_take] at hu
  rw [u64s_get]
  split at hu
  · exact hu
  · cases hu

/-- A slice at A holds vs, in memory that is there, but not in block g. -/
def Rq (g : Nat) (w : World) (A : Option Addr) (vs : List Value) : Prop :=
  0 < vs.length → ∃ b off, A = some ⟨b, off, none⟩ ∧ b ≠ g ∧ b < w.heap.size ∧ ∀ i u, vs[i]? = some u → w.cell? ⟨b, off + i, none⟩ = some u
theorem Rq.grown {g : Nat} {w w' : World} {A : Option Addr} {vs : List Value} (h : Rq g w A vs) (hg : w.grownBy w' (some g)) : Rq g w' A vs := fun hp => by
  obtain ⟨b, off, e, hne, hlt, hc⟩ := h hp
  exact ⟨b, off, e, hne, Nat.lt_of_lt_of_le hlt hg.size, fun i u hu => (World.cell?_of_block (hg.block b hlt fun e => hne (by injection e with e))).trans (hc i u hu)⟩
theorem Rd.rq {B g : Nat} {w : World} {A : Option Addr} {vs : List Value} (h : Rd B w A vs) (hg : B ≤ g) (hB : B ≤ w.heap.size) : Rq g w A vs := fun hp => by
  obtain ⟨b, off, e, hlt, hc⟩ := h hp
  exact ⟨b, off, e, by omega, by omega, hc⟩

theorem up_next (L : List Nat) (off : Nat) (a : List Nat) (t k : Nat) : Pl.up L off a t (k + 1) = (Pl.up L off a t k).set (off + k) (Fld.add (L[off + k]?.getD 0) (Fld.mul (a[k]?.getD 0) t)) := rfl
theorem get_big {l : List Nat} (h : ∀ x ∈ l, x < 18446744073709551616) (i : Nat) : l[i]?.getD 0 < 18446744073709551616 := by
  rcases Nat.lt_or_ge i l.length with h1 | h1
  · rw [List.getElem?_eq_getElem h1]; exact h _ (List.getElem_mem h1)
  · rw [List.getElem?_eq_none h1]; decide

set_option maxRecDepth 100000 in
set_option maxHeartbeats 1000000 in
theorem addTimes_any (g off n c : Nat) (L : List Nat) (A : Option Addr) (m ca : Nat) (a : List Nat) (t : Nat) (w : World) (hg : Ar w g L) (hL : ∀ x ∈ L, x < 18446744073709551616) (hoff : off + m ≤ L.length) (hmn : m ≤ n) (hnb : n ≤ 1000000000)
    (hm : m = a.length) (ha : ∀ x ∈ a, x < 18446744073709551616) (ht : t < 18446744073709551616) (hA : Rq g w A (u64s a)) :
    Calls Try.prog 76 #[.slice (some ⟨g, off, none⟩) n c, .slice A m ca, .int .u64 t] w fun e w' => (∃ r, e = .returned r) ∧ Ar w' g (Pl.up L off a t m) ∧ w.grownBy w' (some g) := by
  have HG := Lib.hid hg
  have HL := Lib.hid hL
  have HM := Lib.hid hm
  have HA := Lib.hid hA
  have HAB := Lib.hid ha
  clear hg hL hm hA ha
  go_enter Try.func76, Try.ntmps76
  go_wp2
  go_loopw [6, 7, 10] (fun _ _ i wr => ∃ k : Nat, k ≤ m ∧ i = .int .i64 k ∧ Ar wr g (Pl.up L off a t k) ∧ w.grownBy wr (some g)) (fun _ _ i _ => m - (intOf i).toNat)
  case atStart => exact ⟨0, Nat.zero_le _, rfl, HG.out, only_refl _ _⟩
  case round =>
    obtain ⟨k, hk, rfl, har, hgr⟩ := hrel
    by_cases hlt : k < m
    · have hRq := HA.out.grown hgr
      obtain ⟨b, o2, rfl, hne, hbl, hcl⟩ := hRq (by rw [u64s_len, ← HM.out]; omega)
      have c1 := hcl k _ (u64s_at (by rw [← HM.out]; exact hlt))
      have c2 := har.cell (i := off + k) (by rw [Pl.up_len]; omega)
      rw [Pl.up_get L off a t (off + k) k (Nat.le_refl _)] at c2
      have f2 := har.frozen (off + k)
      have hx := get_big HAB.out k
      have hy := get_big HL.out (off + k)
      have hnx := up_next L off a t k
      obtain ⟨x, hxe⟩ : ∃ x, x = a[k]?.getD 0 := ⟨_, rfl⟩
      obtain ⟨y, hye⟩ : ∃ y, y = L[off + k]?.getD 0 := ⟨_, rfl⟩
      rw [← hxe] at c1 hx hnx
      rw [← hye] at c2 hy hnx
      have hp := Fld.mul_lt x t
      have HN := Lib.hid hnx
      have HR := Lib.hid har
      have q1 : (k : Int) < (n : Int) := by omega
      clear hcl hxe hye hnx har
      go_wp2_with fail
      go_region_with (first
        | (go_at_call 24; refine (mul_any x t _ hx ht).mono ?_; rintro e w' ⟨rfl, rfl⟩)
        | (go_at_call 56; refine (add_any y _ _ hy (by omega)).mono ?_; rintro e w' ⟨rfl, rfl⟩))
      all_goals go_wp2
      all_goals go_roundw
      all_goals first
        | exact ⟨k + 1, hlt, by go_num, by rw [HN.out]; exact HR.out.set_ (off + k) _, only_set hgr _ _⟩
        | exact ⟨k + 1, hlt, by go_num, by rw [HN.out]; exact (HR.out.set_ (off + k) _).drew, only_drew (only_set hgr _ _)⟩
        | (simp [intOf]; omega)
    · have e : k = m := by omega
      subst e
      have HR := Lib.hid har
      clear har
      go_wp2
      go_end0
      exact ⟨⟨_, rfl⟩, HR.out, hgr⟩

end Go.Proofs.Ytcbcmnbfflaicaa

/-
  Package poly's cut, Trim and Add: what they tell is the trimmed polynomial, in memory of its own; what was there is left as it was. For lists of numbers of 64 bits, up to a million of them.
-/
namespace Go.Proofs.Ytcbcmnbfflaicaa
open Go.RowKit

def Cutted (g c n : Nat) (L : List Nat) (w : World) (e : Ending) (w' : World) : Prop :=
  ∃ m, m ≤ n ∧ e = .returned (.slice (some ⟨g, 0, none⟩) m c) ∧ Pl.Is (L.take m) (Pl.co (L.take n)) ∧ w = w'

theorem take_get (L : List Nat) (m i : Nat) (h : i < m) : (L.take m)[i]?.getD 0 = L[i]?.getD 0 := by rw [List.getElem?_take, if_pos h]

set_option maxRecDepth 100000 in
set_option maxHeartbeats 1000000 in
theorem cut_any (g n c : Nat) (L : List Nat) (w : World) (hg : Ar w g L) (hL : Pl.Sm (L.take n)) (hn : n ≤ L.length) (hc : n ≤ c) (hb : n ≤ 1000000000) :
    Calls Try.prog 77 #[.slice (some ⟨g, 0, none⟩) n c] w (Cutted g c n L w) := by
  have HG := Lib.hid hg
  have HL := Lib.hid hL
  clear hg hL
  go_enter Try.func77, Try.ntmps77
  go_wp2
  go_loop [0] (fun s => ∃ m : Nat, s = .slice (some ⟨g, 0, none⟩) m c ∧ m ≤ n ∧ Pl.co (L.take m) = Pl.co (L.take n)) (fun s => match s with | .slice _ m _ => m | _ => 0)
  case atStart => exact ⟨n, rfl, Nat.le_refl _, rfl⟩
  case round =>
    obtain ⟨m, rfl, hm, hco⟩ := hrel
    have HC := Lib.hid hco
    clear hco
    cases m with
    | zero =>
      go_wp2
      go_ret
      refine ⟨0, Nat.zero_le _, rfl, ⟨?_, HC.out⟩, rfl⟩
      rw [List.take_zero]; exact Pl.Tr.nil
    | succ j =>
      have c1 := HG.out.cell (i := j) (by omega)
      obtain ⟨x, hx⟩ : ∃ x, x = L[j]?.getD 0 := ⟨_, rfl⟩
      rw [← hx] at c1
      have HX := Lib.hid hx
      clear hx
      have hsl := slice_head 25 (by kernel_rfl) (fun W => by kernel_rfl) (some ⟨g, 0, none⟩) (j + 1) c j (by omega)
      by_cases h0 : x = 0
      · have hd : ((x : Int) == 0) = true := by rw [h0]; rfl
        have H0 := Lib.hid h0
        clear h0
        go_wp2
        go_round
        case rel => exact ⟨j, rfl, by omega, by rw [← HC.out]; exact Pl.co_take_zero (by rw [← HX.out]; exact H0.out)⟩
        case measure => simp
      · have hd : ((x : Int) == 0) = false := by rw [beq_eq_false_iff_ne]; omega
        have H0 := Lib.hid h0
        clear h0
        go_wp2
        go_ret
        refine ⟨j + 1, hm, rfl, ⟨⟨?_, .inr ?_⟩, HC.out⟩, rfl⟩
        · have h := HL.out.take (j + 1)
          rw [List.take_take, Nat.min_eq_left hm] at h
          exact h
        · rw [List.length_take, Nat.min_eq_left (by omega), Nat.add_sub_cancel, take_get _ _ _ (by omega), ← HX.out]
          exact H0.out

theorem zeros_cells (n : Nat) : madeCells #[.int .u64 0] (n * 1) = (u64s (List.replicate n 0)).toArray := by
  apply Array.ext
  · rw [size_madeCells, Nat.mul_one]; simp [u64s]
  · intro i h1 h2
    simp [madeCells, u64s, Nat.mod_one]
theorem mk64 (n : Nat) (hn : n ≤ 10000000) (W : World) :
    (Instr.makeSlice 25 (.int .i64 (n : Int)) (.int .i64 (n : Int))).run Try.prog W = .ok (.slice (some ⟨W.heap.size, 0, none⟩) n n) (W.alloc (.cells (u64s (List.replicate n 0)).toArray 22)) := by
  obtain ⟨i0, hi, hz0, hz1, hz2⟩ := info_parts info_u64
  have h := run_make (P := Try.prog) W 25 22 i0 (.int .u64 0) Try.underlying25 hi hz0 .i64 .i64 (n : Int) (n : Int) (by omega) (by omega) (by rw [hz2]; omega) (by omega)
  rw [hz1] at h
  rw [h]
  simp only [Int.toNat_natCast]
  rw [show (Value.int IntKind.u64 0).cells = #[.int .u64 0] from rfl, zeros_cells]
theorem ar_new (w : World) (L : List Nat) : Ar (w.alloc (.cells (u64s L).toArray 22)) w.heap.size L := blk_new w 22 _

/-- A list of its own, beyond lo, that is trimmed and says s. -/
def Got (lo : Nat) (s : Pl) (e : Ending) (w' : World) : Prop :=
  ∃ g m c L, e = .returned (.slice (some ⟨g, 0, none⟩) m c) ∧ lo ≤ g ∧ Ar w' g L ∧ m ≤ L.length ∧ c = L.length ∧ Pl.Sm L ∧ Pl.Is (L.take m) s

theorem up_two (a b : List Nat) (K : Nat) (ha : a.length ≤ K) (hb : b.length ≤ K) :
    Pl.co (Pl.up (Pl.up (List.replicate K 0) 0 a 1 a.length) 0 b 1 b.length) = Pl.co a + Pl.co b := by
  rw [Pl.co_up_all _ 0 b 1 b.length rfl (by rw [Pl.up_len, List.length_replicate]; omega), Pl.co_up_all _ 0 a 1 a.length rfl (by rw [List.length_replicate]; omega), Pl.co_zeros, Fld.to_one, Pl.one_mul, Pl.one_mul, Pl.zero_add]
  rfl

set_option maxRecDepth 100000 in
set_option maxHeartbeats 1000000 in
theorem add_poly (A B : Option Addr) (n ca m cb : Nat) (a b : List Nat) (w : World) (hn : n = a.length) (hm : m = b.length) (hnb : n ≤ 1000000) (hmb : m ≤ 1000000) (ha : ∀ x ∈ a, x < 18446744073709551616) (hb : ∀ x ∈ b, x < 18446744073709551616)
    (hA : Rd w.heap.size w A (u64s a)) (hB : Rd w.heap.size w B (u64s b)) :
    Calls Try.prog 70 #[.slice A n ca, .slice B m cb] w fun e w' => Got w.heap.size (Pl.co a + Pl.co b) e w' ∧ Below w.heap.size w w' := by
  obtain ⟨K, hK⟩ : ∃ K, K = max n m := ⟨_, rfl⟩
  have hif : (if n < m then (m : Int) else (n : Int)) = (K : Int) := by rw [hK]; split <;> omega
  have hK1 : n ≤ K := by omega
  have hK2 : m ≤ K := by omega
  have hK3 : K ≤ 1000000 := by omega
  have hmk := mk64 K (by omega)
  have HN := Lib.hid hn
  have HM := Lib.hid hm
  have HAB := Lib.hid ha
  have HBB := Lib.hid hb
  have HA := Lib.hid hA
  have HB := Lib.hid hB
  clear hn hm ha hb hA hB hK
  go_enter Try.func70, Try.ntmps70
  go_wp2_with fail
  have hb0 : Below w.heap.size w (w.alloc (.cells (u64s (List.replicate K 0)).toArray 22)) := (Below.refl _ w).alloc (Nat.le_refl _) _
  have hr0 := ar_new w (List.replicate K 0)
  have hz : (List.replicate K (0 : Nat)).length = K := List.length_replicate
  obtain ⟨w0, hw0⟩ : ∃ w0, w0 = w.alloc (.cells (u64s (List.replicate K 0)).toArray 22) := ⟨_, rfl⟩
  rw [← hw0] at hb0 hr0 ⊢
  obtain ⟨g, hge⟩ : ∃ g, g = w.heap.size := ⟨_, rfl⟩
  rw [← hge] at hr0 ⊢
  have HGE := Lib.hid hge
  have HZ := Lib.hid hz
  have HR0 := Lib.hid hr0
  clear hw0 hge hz hr0 hmk hif
  have hg0 : g < w0.heap.size := HR0.out.lt
  have hbg : g ≤ w.heap.size := by have := HGE.out; omega
  refine (addTimes_any g 0 K K (List.replicate K 0) A n ca a 1 w0 HR0.out (Pl.sm_zeros K).big (by have := HZ.out; omega) hK1 (by omega) HN.out HAB.out (by omega) ((HA.out.below hb0).rq (by have := HGE.out; omega) (by have := HGE.out; omega))).mono ?_
  rintro e w1 ⟨⟨r1, rfl⟩, hr1, hg1⟩
  have HR1 := Lib.hid hr1
  clear hr1
  go_wp2_with fail
  have hb1 : Below g w0 w1 := below_only hg1 (Nat.le_refl _) (Nat.le_of_lt hg0)
  refine (addTimes_any g 0 K K _ B m cb b 1 w1 HR1.out (Pl.up_sm (Pl.sm_zeros K) _ _ _ _).big (by rw [Pl.up_len]; have := HZ.out; omega) hK2 (by omega) HM.out HBB.out (by omega) (((HB.out.below hb0).below (hb1.mono (by have := HGE.out; omega))).rq (by have := HGE.out; omega) (by have := HGE.out; have := hg1.size; omega))).mono ?_
  rintro e w2 ⟨⟨r2, rfl⟩, hr2, hg2⟩
  have HR2 := Lib.hid hr2
  clear hr2
  go_wp2_with fail
  have hl2 : (Pl.up (Pl.up (List.replicate K 0) 0 a 1 n) 0 b 1 m).length = K := by rw [Pl.up_len, Pl.up_len, HZ.out]
  have hs2 : Pl.Sm (Pl.up (Pl.up (List.replicate K 0) 0 a 1 n) 0 b 1 m) := Pl.up_sm (Pl.up_sm (Pl.sm_zeros K) _ _ _ _) _ _ _ _
  have hco : Pl.co (Pl.up (Pl.up (List.replicate K 0) 0 a 1 n) 0 b 1 m) = Pl.co a + Pl.co b := by
    rw [HN.out, HM.out]; exact up_two a b K (by rw [← HN.out]; exact hK1) (by rw [← HM.out]; exact hK2)
  obtain ⟨L, hL⟩ : ∃ L, L = Pl.up (Pl.up (List.replicate K 0) 0 a 1 n) 0 b 1 m := ⟨_, rfl⟩
  have hr2 := HR2.out
  rw [← hL] at hl2 hs2 hco hr2
  have HL2 := Lib.hid hl2
  have HCO := Lib.hid hco
  have HR := Lib.hid hr2
  have HS := Lib.hid hs2
  clear hL hl2 hco hr2 hs2 HR1 HR2
  refine (cut_any g K K L w2 HR.out (HS.out.take K) (by rw [HL2.out]; exact Nat.le_refl _) (Nat.le_refl _) (by omega)).mono ?_
  rintro e w3 ⟨k, hk, rfl, his, rfl⟩
  have HI := Lib.hid his
  clear his
  go_wp2
  go_ret
  refine ⟨⟨g, k, K, L, rfl, by rw [HGE.out]; exact Nat.le_refl _, HR.out, by rw [HL2.out]; exact hk, HL2.out.symm, HS.out, ?_⟩, ?_⟩
  · have h := HI.out
    rw [show L.take K = L from List.take_of_length_le (by rw [HL2.out]; exact Nat.le_refl _), HCO.out] at h
    exact h
  · exact (hb0.trans ((hb1.trans ((below_only hg2 (Nat.le_refl _) (by have := hg1.size; omega)))).mono (by rw [HGE.out]; exact Nat.le_refl _)))

theorem trim_poly (A : Option Addr) (n ca : Nat) (a : List Nat) (w : World) (hn : n = a.length) (hnb : n ≤ 1000000) (ha : ∀ x ∈ a, x < 18446744073709551616) (hA : Rd w.heap.size w A (u64s a)) :
    Calls Try.prog 66 #[.slice A n ca] w fun e w' => Got w.heap.size (Pl.co a) e w' ∧ Below w.heap.size w w' := by
  have h := add_poly A none n ca 0 0 a [] w hn rfl hnb (by omega) ha (by intro x hx; cases hx) hA Rd.nil
  rw [Pl.co_nil, Pl.add_zero] at h
  have H := Lib.hid h
  clear h hn ha hA
  go_enter Try.func66, Try.ntmps66
  go_wp2_with fail
  refine H.out.mono ?_
  rintro e w' ⟨⟨g, m, c, L, rfl, h1, h2, h3, h4, h5, h6⟩, hb⟩
  have H2 := Lib.hid h2
  have H4 := Lib.hid h4
  have H5 := Lib.hid h5
  have H6 := Lib.hid h6
  clear h2 h4 h5 h6
  go_wp2
  go_ret
  exact ⟨⟨g, m, c, L, rfl, h1, H2.out, h3, H4.out, H5.out, H6.out⟩, hb⟩

end Go.Proofs.Ytcbcmnbfflaicaa

/-
  The library's slices.Backward over numbers of 64 bits: an iterator that hands out places and numbers, the last first, for every loop body that keeps what the iterator reads.
-/
namespace Go.Proofs.Ytcbcmnbfflaicaa
open Go.RowKit Go.Shelf
attribute [local go_sem] Oper.semAt_some

/-- A place below n, and a number of 64 bits. -/
def Pr (n : Nat) : Type := { p : Nat × Nat // p.1 < n ∧ p.2 < 18446744073709551616 }
def Pr.idx {n : Nat} (x : Pr n) : Nat := (Subtype.val x).1
def Pr.num {n : Nat} (x : Pr n) : Nat := (Subtype.val x).2
theorem Pr.ilt {n : Nat} (x : Pr n) : x.idx < n := (Subtype.property x).1
theorem Pr.lt {n : Nat} (x : Pr n) : x.num < 18446744073709551616 := (Subtype.property x).2
def Pr.enc {n : Nat} (x : Pr n) : Array Value := #[Value.int .i64 (x.idx : Int), Value.int .u64 (x.num : Int)]
def Pr.mk {n : Nat} (i v : Nat) (hi : i < n) (h : v < 18446744073709551616) : Pr n := ⟨(i, v), hi, h⟩
theorem Pr.mk_idx {n : Nat} (i v : Nat) (hi : i < n) (h : v < 18446744073709551616) : (Pr.mk i v hi h).idx = i := rfl
theorem Pr.mk_num {n : Nat} (i v : Nat) (hi : i < n) (h : v < 18446744073709551616) : (Pr.mk i v hi h).num = v := rfl

/-- What has come: the places from n - 1 down, each with a number that Q lets by. -/
def Seen (n : Nat) (Q : Nat → Nat → Prop) (pre : List (Pr n)) : Prop := pre.length ≤ n ∧ ∀ j x, pre[j]? = some x → x.idx + (j + 1) = n ∧ Q x.idx x.num
theorem Seen.nil (n : Nat) (Q : Nat → Nat → Prop) : Seen n Q [] := ⟨Nat.zero_le _, fun j x h => by simp at h⟩
theorem Seen.snoc {n : Nat} {Q : Nat → Nat → Prop} {pre : List (Pr n)} (h : Seen n Q pre) (i v : Nat) (hin : i < n) (hv : v < 18446744073709551616) (hi : i + (pre.length + 1) = n) (hq : Q i v) : Seen n Q (pre ++ [Pr.mk i v hin hv]) := by
  refine ⟨by simp; omega, fun j x hx => ?_⟩
  rcases Nat.lt_trichotomy j pre.length with h1 | h1 | h1
  · rw [List.getElem?_append_left h1] at hx; exact h.2 j x hx
  · subst h1
    rw [List.getElem?_concat_length] at hx
    injection hx with hx
    subst hx
    exact ⟨hi, hq⟩
  · rw [List.getElem?_eq_none (by simp; omega)] at hx; cases hx

theorem back_call (F : Fence) (n : Nat) (hF : F.fn 75) (hro : F.round = none) (A : Option Addr) (m c : Nat) (w : World) :
    CallsIn F n Try.prog 75 #[.slice A m c] w fun e w' => e = .returned (.func (.func 84) #[] #[.pointer (some ⟨w.heap.size, 0, none⟩)]) ∧ w' = w.alloc (.cells #[.slice A m c] 25) := by
  refine callsIn_of_wp Try.func75 rfl hF ?_ hro
  simp only [Try.ntmps75, List.size_toArray, List.length_cons, List.length_nil, Nat.reduceAdd, Nat.reduceSub, Array.replicate_succ, Array.replicate_zero, List.push_toArray, List.append_toArray, List.nil_append, List.cons_append]
  gi_wp2
  go_ret
  exact ⟨rfl, rfl⟩

/-- What the iterator reads: its slice, and numbers at its places. -/
def Reads (Bn : Nat) (A : Option Addr) (m c : Nat) (Q : Nat → Nat → Prop) (W : World) : Prop :=
  W.cell? ⟨Bn, 0, none⟩ = some (.slice A m c) ∧ ∀ i, i < m → ∃ b off v, A = some ⟨b, off, none⟩ ∧ v < 18446744073709551616 ∧ Q i v ∧ W.cell? ⟨b, off + i, none⟩ = some (.int .u64 (v : Int))

set_option maxRecDepth 100000 in
set_option maxHeartbeats 1000000 in
theorem back_in (n : Nat) (hn : 1 ≤ n) (l Bn : Nat) (A : Option Addr) (m c : Nat) (hm : m ≤ 1000000000) (Q : Nat → Nat → Prop) (M : World → Prop) (Kp : World → World → Prop)
    (hR : ∀ W, M W → Reads Bn A m c Q W) (hK : ∀ W W', M W → Kp W W' → M W') (J Jx : List (Pr m) → World → Prop)
    (hY : ∀ pre x W, J pre W → pre.length < m → YieldAt Fence.wide (n - 1) Try.prog l x.enc W fun e W' =>
      (e = .returned (.bool true) ∧ J (pre ++ [x]) W' ∧ Kp W W') ∨ (e = .returned (.bool false) ∧ Jx (pre ++ [x]) W'))
    (W : World) (hM : M W) (h0 : J [] W) :
    CallsIn Fence.wide n Try.prog 84 #[.func (.yield l) #[] #[], .pointer (some ⟨Bn, 0, none⟩)] W fun e W' => (∃ r, e = .returned r) ∧
      ((∃ ys, (Seen m Q ys ∧ ys.length = m) ∧ J ys W') ∨ (∃ pre, True ∧ Jx pre W')) := by
  have hc0 := (hR W hM).1
  refine callsIn_of_wp Try.func84 rfl trivial ?_ rfl
  simp only [Try.ntmps84, List.size_toArray, List.length_cons, List.length_nil, Nat.reduceAdd, Nat.reduceSub, Array.replicate_succ, Array.replicate_zero, List.push_toArray, List.append_toArray, List.nil_append, List.cons_append]
  gi_wp2
  gi_loopw [3] (fun p wr => ∃ (k : Nat) (z : Int) (pre : List (Pr m)), p = .int .i64 z ∧ z = (k : Int) - 1 ∧ pre.length + k = m ∧ Seen m Q pre ∧ M wr ∧ J pre wr)
    (fun p _ => (intOf p + 1).toNat)
  case atStart =>
    exact ⟨m, _, [], rfl, rfl, by simp, Seen.nil m Q, hM, h0⟩
  case round =>
    obtain ⟨k, z, pre, rfl, hz, hlen, hseen, hMr, hJ⟩ := hrel
    cases k with
    | zero =>
      obtain rfl : z = -1 := by omega
      have HL := Lib.hid hlen
      clear hlen hz
      gi_wp2
      go_end0
      exact ⟨⟨_, rfl⟩, .inl ⟨pre, ⟨hseen, by have := HL.out; omega⟩, hJ⟩⟩
    | succ j =>
      obtain rfl : z = (j : Int) := by omega
      have hjm : j < m := by omega
      obtain ⟨hcc, hcv⟩ := hR wr hMr
      obtain ⟨b, off, v, rfl, hv, hq, hcell⟩ := hcv j (by omega)
      obtain ⟨fn, tmps, assign, body, hy, hRR⟩ := hY pre (Pr.mk j v hjm hv) wr hJ (by omega)
      unfold Pr.enc at hy
      rw [Pr.mk_idx, Pr.mk_num] at hy
      have hsn := hseen.snoc j v hjm hv (by omega) hq
      have q0 : (0 : Int) ≤ (j : Int) := by omega
      have q1 : (j : Int) < (m : Int) := by omega
      have HLN := Lib.hid hlen
      have HSN := Lib.hid hsn
      have HQ := Lib.hid hq
      clear hcv hlen hsn hq hz hseen
      gi_wp2
      refine hRR.mono ?_
      rintro e W3 (⟨rfl, hJ3, hk3⟩ | ⟨rfl, hJx3⟩)
      · gi_wp2
        go_roundw
        case rel => exact ⟨j, (j : Int) - 1, pre ++ [Pr.mk j v hjm hv], rfl, rfl, by have := HLN.out; simp; omega, HSN.out, hK _ _ hMr hk3, hJ3⟩
        case measure => simp [intOf]
      · gi_wp2
        refine bodyPost_ret (results_none rfl _ _ _) rfl ?_
        exact ⟨⟨_, rfl⟩, .inr ⟨_, trivial, hJx3⟩⟩

theorem back_stops (n : Nat) (hn : 1 ≤ n) (Bn : Nat) (A : Option Addr) (m c : Nat) (hm : m ≤ 1000000000) (Q : Nat → Nat → Prop) (M : World → Prop) (Kp : World → World → Prop)
    (hR : ∀ W, M W → Reads Bn A m c Q W) (hK : ∀ W W', M W → Kp W W' → M W') (w : World) (hM : ∀ W, Below w.heap.size w W → M W) :
    SeqStopsK Fence.wide n Try.prog 84 #[.pointer (some ⟨Bn, 0, none⟩)] Pr.enc Kp (fun ys => Seen m Q ys ∧ ys.length = m) (fun _ => True) m w := fun l J Jx W hW _ _ hY h0 =>
  back_in n hn l Bn A m c hm Q M Kp hR hK J Jx hY W (hM W hW) h0

end Go.Proofs.Ytcbcmnbfflaicaa

/-
  Package poly's product's inner function: a list, times a number, added at a place. For lists of numbers of 64 bits, up to a million of them.
-/
namespace Go.Proofs.Ytcbcmnbfflaicaa
open Go.RowKit

theorem slice_from (g off n c k q d : Nat) (hk : k ≤ n) (hc : k < c) (hq : q = n - k) (hd : d = c - k) (W : World) :
    (Instr.slice 25 (.slice (some ⟨g, off, none⟩) n c) (some (.int .i64 (k : Int))) none none).run Try.prog W = .ok (.slice (some ⟨g, off + k, none⟩) q d) W := by
  have hz : (sizeOf (Try.prog.elem 25)).run Try.prog W = .ok 1 W := by kernel_rfl
  have h := run_slice_l (P := Try.prog) W 25 (some ⟨g, off, none⟩) n c (by kernel_rfl) .i64 (k : Int) (by omega) (by omega)
  rw [h, hz, hq, hd]
  simp only [Result.andThen, sliced, Int.toNat_natCast]
  rw [if_neg (by omega)]
  simp
  exact Addr.add_lit _ _ _
theorem slice_end (g off n : Nat) (W : World) :
    (Instr.slice 25 (.slice (some ⟨g, off, none⟩) n n) (some (.int .i64 (n : Int))) none none).run Try.prog W = .ok (.slice (some ⟨g, off, none⟩) 0 0) W := by
  have hz : (sizeOf (Try.prog.elem 25)).run Try.prog W = .ok 1 W := by kernel_rfl
  have h := run_slice_l (P := Try.prog) W 25 (some ⟨g, off, none⟩) n n (by kernel_rfl) .i64 (n : Int) (by omega) (by omega)
  rw [h, hz]
  simp only [Result.andThen, sliced, Int.toNat_natCast]
  simp

theorem Rq.drew {g : Nat} {w : World} {A : Option Addr} {vs : List Value} (h : Rq g w A vs) : Rq g w.drew A vs := h
theorem only_of_drew {a w : World} {row : Option Nat} (h : a.drew.grownBy w row) : a.grownBy w row := ⟨h.os, h.tape, h.output, h.size, h.block⟩

set_option maxRecDepth 100000 in
set_option maxHeartbeats 1000000 in
theorem prod1_any (g B5 B3 K k lb cb x : Nat) (L : List Nat) (A : Option Addr) (b : List Nat) (w : World) (h5 : w.cell? ⟨B5, 0, none⟩ = some (.slice (some ⟨g, 0, none⟩) K K)) (h3 : w.cell? ⟨B3, 0, none⟩ = some (.slice A lb cb))
    (hg : Ar w g L) (hL : ∀ y ∈ L, y < 18446744073709551616) (hK : L.length = K) (hk : k + lb ≤ K) (hKb : K ≤ 10000000) (hm : lb = b.length) (hb : ∀ y ∈ b, y < 18446744073709551616) (hx : x < 18446744073709551616) (hA : Rq g w A (u64s b)) :
    Calls Try.prog 86 #[.int .i64 (k : Int), .int .u64 (x : Int), .pointer (some ⟨B5, 0, none⟩), .pointer (some ⟨B3, 0, none⟩)] w fun e w' =>
      e = .returned (.int .i64 ((k : Int) - 1)) ∧ Ar w' g (Pl.up L k b x lb) ∧ w.grownBy w' (some g) := by
  have HG := Lib.hid hg
  have HL := Lib.hid hL
  have HK := Lib.hid hK
  have HM := Lib.hid hm
  have HB := Lib.hid hb
  have HA := Lib.hid hA
  clear hg hL hK hm hb hA
  rcases Nat.lt_or_ge k K with hlt | hge
  · obtain ⟨q, hq⟩ : ∃ q, q = K - k := ⟨_, rfl⟩
    have hsl := slice_from g 0 K K k q q (by omega) hlt hq hq
    rw [Nat.zero_add] at hsl
    have hqb : lb ≤ q := by omega
    have hq6 : q ≤ 1000000000 := by omega
    have HQ := Lib.hid hq
    clear hq
    have q0 : (k : Int) ≤ (K : Int) := by omega
    go_enter Try.func86, Try.ntmps86
    go_wp2_with fail
    go_region_with (go_at_call 76; refine (addTimes_any g k q q L A lb cb b x _ HG.out.drew HL.out (by rw [HK.out]; exact hk) hqb hq6 HM.out HB.out hx HA.out.drew).mono ?_; rintro e w' ⟨⟨r, rfl⟩, hr, hgr⟩; have HR := Lib.hid hr; clear hr)
    all_goals go_wp2
    all_goals go_ret
    all_goals exact ⟨rfl, HR.out, only_of_drew hgr⟩
  · obtain rfl : K = k := by omega
    have hsl := slice_end g 0 K
    have hb0 : lb = 0 := by omega
    subst hb0
    go_enter Try.func86, Try.ntmps86
    go_wp2_with fail
    go_region_with (go_at_call 76; refine (addTimes_any g 0 0 0 L A 0 cb b x _ HG.out.drew HL.out (by omega) (Nat.le_refl _) (by omega) HM.out HB.out hx HA.out.drew).mono ?_; rintro e w' ⟨⟨r, rfl⟩, hr, hgr⟩; have HR := Lib.hid hr; clear hr)
    all_goals go_wp2
    all_goals go_ret
    all_goals exact ⟨rfl, HR.out, only_of_drew hgr⟩
end Go.Proofs.Ytcbcmnbfflaicaa

/-
  Package poly's fold over numbers, at the product's inner function: the sum of all its products, in memory. For lists of numbers of 64 bits, up to a million of them.
-/
namespace Go.Proofs.Ytcbcmnbfflaicaa
open Go.RowKit Go.Shelf
attribute [local go_sem] Oper.semAt_some

/-- What lies below n, but for the blocks of X, lies as it lay. -/
structure Fx (n : Nat) (X : Nat → Prop) (w w' : World) : Prop where
  os : w'.os = w.os
  tape : w'.tape = w.tape
  output : w'.output = w.output
  size : w.heap.size ≤ w'.heap.size
  block : ∀ k, k < n → ¬ X k → w'.heap[k]? = w.heap[k]?
namespace Fx
theorem refl (n : Nat) (X : Nat → Prop) (w : World) : Fx n X w w := ⟨rfl, rfl, rfl, Nat.le_refl _, fun _ _ _ => rfl⟩
theorem trans {n : Nat} {X : Nat → Prop} {a b c : World} (h : Fx n X a b) (k : Fx n X b c) : Fx n X a c :=
  ⟨k.os.trans h.os, k.tape.trans h.tape, k.output.trans h.output, Nat.le_trans h.size k.size, fun i hi hx => (k.block i hi hx).trans (h.block i hi hx)⟩
theorem of_below {n m : Nat} {X : Nat → Prop} {w w' : World} (h : Below m w w') (hm : ∀ k, k < n → ¬ X k → k < m) : Fx n X w w' := ⟨h.os, h.tape, h.output, h.size, fun k hk hx => h.block k (hm k hk hx)⟩
theorem of_grown {n : Nat} {X : Nat → Prop} {w w' : World} {row : Option Nat} (h : w.grownBy w' row) (hn : ∀ k, k < n → ¬ X k → k < w.heap.size ∧ some k ≠ row) : Fx n X w w' :=
  ⟨h.os, h.tape, h.output, h.size, fun k hk hx => h.block k (hn k hk hx).1 (hn k hk hx).2⟩
theorem mono {n m : Nat} {X Y : Nat → Prop} {w w' : World} (h : Fx n X w w') (hm : ∀ k, k < m → ¬ Y k → k < n ∧ ¬ X k) : Fx m Y w w' := ⟨h.os, h.tape, h.output, h.size, fun k hk hx => h.block k (hm k hk hx).1 (hm k hk hx).2⟩
theorem below {n m : Nat} {X : Nat → Prop} {w w' : World} (h : Fx n X w w') (hm : ∀ k, k < m → k < n ∧ ¬ X k) : Below m w w' := ⟨h.os, h.tape, h.output, h.size, fun k hk => h.block k (hm k hk).1 (hm k hk).2⟩
theorem grown {n g : Nat} {X : Nat → Prop} {w w' : World} (h : Fx n X w w') (hm : ∀ k, k < w.heap.size → k ≠ g → k < n ∧ ¬ X k) : w.grownBy w' (some g) :=
  ⟨h.os, h.tape, h.output, h.size, fun k hk hx => have hh := hm k hk (fun e => hx (by rw [e])); h.block k hh.1 hh.2⟩
theorem cell {n : Nat} {X : Nat → Prop} {w w' : World} (h : Fx n X w w') {p : Addr} (hp : p.block < n) (hx : ¬ X p.block) : w'.cell? p = w.cell? p := World.cell?_of_block (h.block _ hp hx)
theorem frozen {n : Nat} {X : Nat → Prop} {w w' : World} (h : Fx n X w w') {p : Addr} (hp : p.block < n) (hx : ¬ X p.block) : w'.frozen? p = w.frozen? p := World.frozen?_of_block (h.block _ hp hx)
theorem set_ {n : Nat} {X : Nat → Prop} {a w : World} (h : Fx n X a w) {p : Addr} (hp : n ≤ p.block ∨ X p.block) (u : Value) : Fx n X a (w.setCell p u) :=
  ⟨h.os, h.tape, h.output, by simpa [World.setCell] using h.size, fun k hk hx => (Below.heap_setCell w p u k (fun e => by
    rcases hp with h1 | h1
    · omega
    · exact hx (e ▸ h1))).trans (h.block k hk hx)⟩
theorem put {n : Nat} {X : Nat → Prop} {a w : World} (h : Fx n X a w) {l : Nat} (hl : n ≤ l) (o' : Obj) : Fx n X a (w.putObj l o') :=
  ⟨h.os, h.tape, h.output, by have := (grownBy_putObj' w l o').size; exact Nat.le_trans h.size this, fun k hk hx => (World.putObj_heap_other (by omega)).trans (h.block k hk hx)⟩
theorem k_b {n : Nat} {X : Nat → Prop} {w : World} (hn : n ≤ w.heap.size) (W : World) (l : Nat) (o o' : Obj) (hl : w.heap.size ≤ l) (_ : W.heap[l]? = some o) (_ : o.isCells = false) (_ : o.isWalk = false) : Fx n X W (W.putObj l o') :=
  (Fx.refl n X W).put (by omega) o'
theorem own {β : Type} {n B : Nat} {X : Nat → Prop} {w₀ : World} (hn : n ≤ w₀.heap.size) (hB : n ≤ B) : OwnFrom B (fun (_ : β) W => Fx n X w₀ W) := fun _ _ _ _ hs hg hr =>
  ⟨hg.os.trans hs.os, hg.tape.trans hs.tape, hg.output.trans hs.output, Nat.le_trans hs.size hg.size, fun k hk hx =>
    (hg.block k (by have := hs.size; omega) (fun e => by have := (hr k e.symm).1; omega)).trans (hs.block k hk hx)⟩
end Fx

theorem Ar.other {w : World} {g B : Nat} {L : List Nat} {v : Value} (h : Ar w g L) (hB : g ≠ B) : Ar (w.setCell ⟨B, 0, none⟩ v) g L := (Below.heap_setCell w ⟨B, 0, none⟩ v g hB).trans h

namespace Pl
theorem fold_next (la k : Nat) (pre : List Nat) (x : Nat) (B : Pl) (hk : pre.length + (k + 1) = la) :
    shn (la - (pre ++ [x]).length) (co (pre ++ [x]).reverse * B) = shn (la - pre.length) (co pre.reverse * B) + C (Fld.to x) * shn k B := by
  rw [List.length_append, List.length_singleton, show la - (pre.length + 1) = k by omega, show la - pre.length = k + 1 by omega, List.reverse_append, List.reverse_singleton, List.singleton_append, co_cons, add_mul, shn_add, shn_smul, sh_mul, shn_sh, add_comm]
end Pl

def Nums {n : Nat} (ys : List (Pr n)) : List Nat := ys.map Pr.num
theorem seen_all {a : List Nat} {n : Nat} {ys : List (Pr n)} (hn : n = a.length) (h : Seen n (fun i v => v = a[i]?.getD 0) ys) (hl : ys.length = n) : (Nums ys).reverse = a := by
  subst hn
  have hlen : (Nums ys).reverse.length = a.length := by simp [Nums, hl]
  refine List.ext_getElem hlen fun i h1 h2 => ?_
  have hj : a.length - 1 - i < ys.length := by omega
  obtain ⟨e1, e2⟩ := h.2 (a.length - 1 - i) _ (List.getElem?_eq_getElem hj)
  rw [List.getElem_reverse]
  simp only [Nums, List.length_map, List.getElem_map]
  have e3 : (ys[ys.length - 1 - i]'(by omega)).idx = i := by
    have : ys.length - 1 - i = a.length - 1 - i := by omega
    simp only [this]; omega
  have e4 : (ys[ys.length - 1 - i]'(by omega)).num = a[i]?.getD 0 := by
    have : ys.length - 1 - i = a.length - 1 - i := by omega
    simp only [this]
    rw [e2]
    congr 2
    omega
  rw [e4, List.getElem?_eq_getElem h2]; rfl

set_option maxRecDepth 100000 in
set_option maxHeartbeats 2000000 in
theorem foldi_any (g B5 B3 K la ca lb cb : Nat) (L : List Nat) (A A2 : Option Addr) (a b : List Nat) (w : World) (h5 : w.cell? ⟨B5, 0, none⟩ = some (.slice (some ⟨g, 0, none⟩) K K)) (h3 : w.cell? ⟨B3, 0, none⟩ = some (.slice A2 lb cb)) (h5g : B5 ≠ g) (h3g : B3 ≠ g)
    (h5l : B5 < w.heap.size) (h3l : B3 < w.heap.size)
    (hg : Ar w g L) (hL : Pl.Sm L) (hK : L.length = K) (hz : Pl.co L = 0) (hk : 0 < la → la + lb ≤ K + 1) (hKb : K ≤ 10000000) (hlab : la ≤ 1000000) (hm : lb = b.length) (hb : ∀ y ∈ b, y < 18446744073709551616) (hA2 : Rq g w A2 (u64s b))
    (hn : la = a.length) (ha : ∀ y ∈ a, y < 18446744073709551616) (hA : Rq g w A (u64s a)) :
    Calls Try.prog 85 #[.slice A la ca, .int .i64 ((la : Int) - 1), .func (.func 86) #[] #[.pointer (some ⟨B5, 0, none⟩), .pointer (some ⟨B3, 0, none⟩)]] w fun e w' =>
      (∃ r, e = .returned r) ∧ (∃ L', Ar w' g L' ∧ L'.length = K ∧ Pl.Sm L' ∧ Pl.co L' = Pl.co a * Pl.co b) ∧ w.grownBy w' (some g) := by
  have HG := Lib.hid hg
  have HL := Lib.hid hL
  have HK := Lib.hid hK
  have HZ := Lib.hid hz
  have HM := Lib.hid hm
  have HB := Lib.hid hb
  have HA2 := Lib.hid hA2
  have HN := Lib.hid hn
  have HAB := Lib.hid ha
  have HA := Lib.hid hA
  have HKK := Lib.hid hk
  clear hg hL hK hz hm hb hA2 hn ha hA hk
  refine (callsIn_wide (n := 3)).1 ?_
  refine callsIn_of_wp_marks Try.func85 rfl trivial ?_ rfl
  simp only [Try.ntmps85, List.size_toArray, List.length_cons, List.length_nil, Nat.reduceAdd, Nat.reduceSub, Array.replicate_succ, Array.replicate_zero, List.push_toArray, List.append_toArray, List.nil_append, List.cons_append]
  gi_wp2_with (refine ⟨trivial, ?_⟩; gi_at_call 75; refine (back_call Fence.wide (3 - 1) trivial rfl _ _ _ _).mono ?_; rintro e w' ⟨rfl, rfl⟩)
  obtain ⟨B, hBe⟩ : ∃ B, B = w.heap.size := ⟨_, rfl⟩
  have hcm := cell_new_l w (.int .i64 ((la : Int) - 1)) 3
  have hcs := cell_new_l (w.alloc (.cells #[.int .i64 ((la : Int) - 1)] 3)) (.func (.func 86) #[] #[.pointer (some ⟨B5, 0, none⟩), .pointer (some ⟨B3, 0, none⟩)]) 108
  have hca := cell_new_l ((w.alloc (.cells #[.int .i64 ((la : Int) - 1)] 3)).alloc (.cells #[.func (.func 86) #[] #[.pointer (some ⟨B5, 0, none⟩), .pointer (some ⟨B3, 0, none⟩)]] 108)) (.slice A la ca) 25
  have hcm3 := cell_alloc_l (.cells #[.slice A la ca] 25) (cell_alloc_l (.cells #[.func (.func 86) #[] #[.pointer (some ⟨B5, 0, none⟩), .pointer (some ⟨B3, 0, none⟩)]] 108) hcm.1)
  have hfm3 := frozen_alloc_l (.cells #[.slice A la ca] 25) (cell_alloc_l (.cells #[.func (.func 86) #[] #[.pointer (some ⟨B5, 0, none⟩), .pointer (some ⟨B3, 0, none⟩)]] 108) hcm.1) (frozen_alloc_l (.cells #[.func (.func 86) #[] #[.pointer (some ⟨B5, 0, none⟩), .pointer (some ⟨B3, 0, none⟩)]] 108) hcm.1 hcm.2)
  have hcs3 := cell_alloc_l (.cells #[.slice A la ca] 25) hcs.1
  have hb3 : Below w.heap.size w (((w.alloc (.cells #[.int .i64 ((la : Int) - 1)] 3)).alloc (.cells #[.func (.func 86) #[] #[.pointer (some ⟨B5, 0, none⟩), .pointer (some ⟨B3, 0, none⟩)]] 108)).alloc (.cells #[.slice A la ca] 25)) :=
    (((Below.refl _ w).alloc (Nat.le_refl _) _).alloc (by simp) _).alloc (by simp; omega) _
  have hsz : (((w.alloc (.cells #[.int .i64 ((la : Int) - 1)] 3)).alloc (.cells #[.func (.func 86) #[] #[.pointer (some ⟨B5, 0, none⟩), .pointer (some ⟨B3, 0, none⟩)]] 108)).alloc (.cells #[.slice A la ca] 25)).heap.size = w.heap.size + 3 := by simp
  simp only [World.size_alloc] at hcs3 hca
  obtain ⟨w3, hw3⟩ : ∃ w3, w3 = ((w.alloc (.cells #[.int .i64 ((la : Int) - 1)] 3)).alloc (.cells #[.func (.func 86) #[] #[.pointer (some ⟨B5, 0, none⟩), .pointer (some ⟨B3, 0, none⟩)]] 108)).alloc (.cells #[.slice A la ca] 25) := ⟨_, rfl⟩
  rw [← hw3] at hcm3 hfm3 hcs3 hca hb3 hsz ⊢
  rw [← hBe] at hcm3 hfm3 hcs3 hca hb3 hsz h5l h3l ⊢
  have hgB : g < B := by have := HG.out.lt; omega
  clear hw3 hcm hcs
  have HBE := Lib.hid hBe
  clear hBe
  have HA' : Hid (Rq g w A (u64s a)) := HA
  have hreads : ∀ W, Fx (B + 3) (fun k => k = g ∨ k = B) w3 W → Reads (B + 2) A la ca (fun i v => v = a[i]?.getD 0) W := by
    intro W hW
    refine ⟨(hW.cell (p := ⟨B + 2, 0, none⟩) (by show B + 2 < B + 3; omega) (by show ¬ (B + 2 = g ∨ B + 2 = B); omega)).trans hca.1, fun i hi => ?_⟩
    obtain ⟨bl, off, e, hne, hlt, hcl⟩ := HA'.out (by rw [u64s_len, ← HN.out]; omega)
    refine ⟨bl, off, a[i]?.getD 0, e, get_big HAB.out i, rfl, ?_⟩
    have hlt' : bl < B := by have := HBE.out; omega
    rw [hW.cell (p := ⟨bl, off + i, none⟩) (by show bl < B + 3; omega) (by show ¬ (bl = g ∨ bl = B); omega), hb3.cell (p := ⟨bl, off + i, none⟩) hlt']
    exact hcl i _ (u64s_at (by rw [← HN.out]; exact hi))
  have HRD := Lib.hid hreads
  clear hreads HA'
  have HCS := Lib.hid hcs3
  have HSZ := Lib.hid hsz
  have hsz2 : B + 3 ≤ w3.heap.size := by omega
  clear hcs3 hsz hca
  have hH5 := Lib.hid h5
  have hH3 := Lib.hid h3
  clear h5 h3
  refine wpIn_rangeFunc_ownF rfl (by omega) (gf := 84) (lb := #[.pointer (some ⟨B + 1 + 1, 0, none⟩)]) rfl trivial (enters_of Try.func84 (by kernel_rfl) rfl)
    (back_stops (3 - 1) (by omega) (B + 2) A la ca (by omega) (fun i v => v = a[i]?.getD 0) (fun W => Fx (B + 3) (fun k => k = g ∨ k = B) w3 W) (Fx (B + 3) (fun k => k = g ∨ k = B)) HRD.out (fun W W' h k => h.trans k) w3 (fun W h => Fx.of_below h (fun k hk _ => by omega)))
    Fx.trans (Fx.k_b (by omega)) (Below.refl _ _) (fun _ => rfl)
    (fun pre W => (∃ L', Ar W g L' ∧ L'.length = K ∧ Pl.Sm L' ∧ Pl.co L' = Pl.shn (la - (Nums pre).length) (Pl.co (Nums pre).reverse * Pl.co b)) ∧
      ((W.cell? ⟨B, 0, none⟩ = some (.int .i64 ((la : Int) - 1 - (pre.length : Nat))) ∧ W.frozen? ⟨B, 0, none⟩ = false) ∧ Fx (B + 3) (fun k => k = g ∨ k = B) w3 W))
    (fun _ _ _ => False)
    (OwnFrom.and (Own.from (fun s W1 W2 row hs hg' hr => by
        obtain ⟨L', h1, h2, h3, h4⟩ := hs
        exact ⟨L', blk_kept h1 hg' hr, h2, h3, h4⟩) _)
      (OwnFrom.and (Own.from (fun s W1 W2 row hs hg' hr => ⟨cell_kept hs.1 hg' hr, (frozen_kept hs.1 hg' hr).trans hs.2⟩) _) (Fx.own hsz2 hsz2)))
    (fun _ _ _ _ _ hs _ _ => hs)
    ⟨⟨L, HG.out.below hb3 hgB, HK.out, HL.out, by rw [HZ.out]; show _ = Pl.shn _ (Pl.co [] * _); rw [Pl.co_nil, Pl.zero_mul, Pl.shn_zero]⟩, ⟨by rw [hcm3]; simp, hfm3⟩, Fx.refl _ _ _⟩
    (fun x => { tmps := #[.slice A la ca, .int .i64 ((la : Int) - 1), .func (.func 86) #[] #[.pointer (some ⟨B5, 0, none⟩), .pointer (some ⟨B3, 0, none⟩)], undef, .pointer (some ⟨B, 0, none⟩), .pointer (some ⟨B + 1, 0, none⟩), .int .i64 0, undef, .int .u64 (x.num : Int), .slice A la ca,
      .func (.func 84) #[] #[.pointer (some ⟨B + 1 + 1, 0, none⟩)], .int .i64 (x.idx : Int), .int .u64 (x.num : Int), undef, undef, undef, undef, undef], defers := [] }) ?assign ?body ?done ?stop
  case assign =>
    intro l x W K hK
    unfold Pr.enc
    gi_wp2
    exact hK
  case body =>
    rintro l pre x W ⟨⟨L', hr, hl, hs, hc⟩, ⟨hcm, hfm⟩, hfx⟩ hlt
    have hx := x.lt
    obtain ⟨k, hk⟩ : ∃ k, pre.length + (k + 1) = la := ⟨la - 1 - pre.length, by omega⟩
    have hke : (la : Int) - 1 - (pre.length : Nat) = (k : Int) := by omega
    rw [hke] at hcm
    have hnx := Pl.fold_next la k (Nums pre) x.num (Pl.co b) (by unfold Nums; rw [List.length_map]; exact hk)
    have hnl : Nums (pre ++ [x]) = Nums pre ++ [x.num] := by unfold Nums; simp
    obtain ⟨z, hz⟩ : ∃ z, z = x.num := ⟨_, rfl⟩
    rw [← hz] at hx hnx hnl ⊢
    have hkb : k + lb ≤ K := by have := HKK.out (by omega); omega
    have hce := HCS.out
    have hce' := (hfx.cell (p := ⟨B + 1, 0, none⟩) (by show B + 1 < B + 3; omega) (by show ¬ (B + 1 = g ∨ B + 1 = B); omega)).trans hce
    have h5' := (hfx.cell (p := ⟨B5, 0, none⟩) (by show B5 < B + 3; omega) (by show ¬ (B5 = g ∨ B5 = B); omega)).trans ((hb3.cell (p := ⟨B5, 0, none⟩) h5l).trans hH5.out)
    have h3' := (hfx.cell (p := ⟨B3, 0, none⟩) (by show B3 < B + 3; omega) (by show ¬ (B3 = g ∨ B3 = B); omega)).trans ((hb3.cell (p := ⟨B3, 0, none⟩) h3l).trans hH3.out)
    have hA2' : Rq g W A2 (u64s b) := fun hp => by
      obtain ⟨bl, off, e, hne, hbl, hcl⟩ := HA2.out hp
      have hlt' : bl < B := by have := HBE.out; omega
      refine ⟨bl, off, e, hne, by have := hfx.size; omega, fun i u hu => ?_⟩
      rw [hfx.cell (p := ⟨bl, off + i, none⟩) (by show bl < B + 3; omega) (by show ¬ (bl = g ∨ bl = B); omega), hb3.cell (p := ⟨bl, off + i, none⟩) hlt']
      exact hcl i u hu
    have HR := Lib.hid hr
    have HS := Lib.hid hs
    have HC := Lib.hid hc
    have HLN := Lib.hid hl
    have HNX := Lib.hid hnx
    have HNL := Lib.hid hnl
    have HKE := Lib.hid hke
    have HAW := Lib.hid hA2'
    have H5W := Lib.hid h5'
    have H3W := Lib.hid h3'
    have HKK2 := Lib.hid hk
    clear hr hs hc hl hnx hnl hke hA2' h5' h3' hce hz hk
    gi_wp2_with (refine ⟨trivial, ?_⟩; gi_at_call 86; refine (CallsIn.inRound l (callsIn_wide.2 (prod1_any g B5 B3 K k lb cb z L' A2 b W H5W.out H3W.out HR.out HS.out.big HLN.out hkb hKb HM.out HB.out hx HAW.out))).mono ?_; rintro e w4 ⟨rfl, hr4, hg4⟩; have HR4 := Lib.hid hr4; clear hr4; have hcm4 := (World.cell?_of_block (a := ⟨B, 0, none⟩) (hg4.block B (by have := hfx.size; omega) (fun e => by injection e with e; omega))).trans hcm; have hfm4 := (World.frozen?_of_block (a := ⟨B, 0, none⟩) (hg4.block B (by have := hfx.size; omega) (fun e => by injection e with e; omega))).trans hfm)
    have hiso : ∀ (j : Nat) (o : Obj), some g = some j → W.heap[j]? = some o → o.isCells = true := by
      intro j o e ho
      injection e with e
      subst e
      have h := HR.out
      unfold Ar Blk at h
      rw [h] at ho
      injection ho with ho
      subst ho
      rfl
    have hfx4 : Fx (B + 3) (fun k => k = g ∨ k = B) W w4 := Fx.of_grown hg4 fun j hj hx => ⟨by have := hfx.size; omega, fun e => hx (.inl (by injection e))⟩
    refine ⟨(KeepsOthers.of_grownBy hg4 hiso).trans (KeepsOthers.setCell _ _ _), hfx4.set_ (.inr (.inr rfl)) _, ⟨_, Ar.other HR4.out (by omega), by rw [Pl.up_len]; exact HLN.out, Pl.up_sm HS.out _ _ _ _, ?_⟩, ⟨?_, ?_⟩, (hfx.trans hfx4).set_ (.inr (.inr rfl)) _⟩
    · rw [Pl.co_up_all L' k b z lb HM.out (by rw [HLN.out]; exact hkb), HC.out, HNL.out, HNX.out]
    · rw [World.cell?_setCell_same' _ _ _ (by rw [hcm4]; rfl), List.length_append, List.length_singleton]
      congr 2
      have := HKK2.out
      omega
    · rw [World.frozen?_setCell]; exact hfm4
  case done =>
    rintro D ys W hD ⟨hseen, hyl⟩ ⟨⟨L', hr, hl, hs, hc⟩, ⟨hcm, hfm⟩, hfx⟩ hK
    have hall : (Nums ys).reverse = a := seen_all HN.out hseen hyl
    have hnum : (Nums ys).length = la := by unfold Nums; rw [List.length_map]; exact hyl
    rw [hall, hnum, Nat.sub_self] at hc
    rw [hyl] at hcm
    have HR := Lib.hid hr
    have HS := Lib.hid hs
    have HC := Lib.hid hc
    have HLN := Lib.hid hl
    have HKD := Lib.hid hK
    clear hr hs hc hl hall hnum hseen hyl hK
    gi_wp2
    refine ⟨by simp, .inl ⟨_, _, rfl, run_takeDeferred HKD.out, ?_⟩⟩
    have hDg : D ≠ g := by omega
    refine ⟨_, results_tmp rfl _ _ _, ⟨_, rfl⟩, ⟨L', ?_, HLN.out, HS.out, HC.out⟩, ?_⟩
    · exact (World.putObj_heap_other (by omega)).trans HR.out
    · have hfd : Fx (B + 3) (fun k => k = g ∨ k = B) w3 (W.putObj D (.deferred none)) := hfx.put (by omega) _
      refine Fx.grown (n := B) (X := fun k => k = g) ((Fx.of_below hb3 (by have := HBE.out; omega)).trans (hfd.mono fun j hj hx => ⟨by omega, by show ¬ (j = g ∨ j = B); have hx' : ¬ j = g := hx; omega⟩)) fun j hj hx => ⟨by have := HBE.out; omega, hx⟩
  case stop =>
    rintro D c pre W _ _ h _
    exact h.elim
end Go.Proofs.Ytcbcmnbfflaicaa

/-
  Package poly's product and withRoot: the product of two lists, in memory of its own; what was there is left as it was. For lists of numbers of 64 bits, up to a million of them.
-/
namespace Go.Proofs.Ytcbcmnbfflaicaa
open Go.RowKit

/-- Numbers of its own, K of them, that say s. -/
def Made (lo K : Nat) (s : Pl) (e : Ending) (w' : World) : Prop :=
  ∃ g L, e = .returned (.slice (some ⟨g, 0, none⟩) K K) ∧ lo ≤ g ∧ Ar w' g L ∧ L.length = K ∧ Pl.Sm L ∧ Pl.co L = s

set_option maxRecDepth 100000 in
set_option maxHeartbeats 1000000 in
theorem product_any (A A2 : Option Addr) (la ca lb cb K : Nat) (a b : List Nat) (w : World) (hn : la = a.length) (hm : lb = b.length) (hab : 0 < la + lb) (hK : K + 1 = la + lb) (hla : la ≤ 1000000) (hlb : lb ≤ 1000000)
    (ha : ∀ y ∈ a, y < 18446744073709551616) (hb : ∀ y ∈ b, y < 18446744073709551616) (hA : Rd w.heap.size w A (u64s a)) (hA2 : Rd w.heap.size w A2 (u64s b)) :
    Calls Try.prog 78 #[.slice A la ca, .slice A2 lb cb] w fun e w' => Made w.heap.size K (Pl.co a * Pl.co b) e w' ∧ Below w.heap.size w w' := by
  have HM := Lib.hid hm
  have HB := Lib.hid hb
  have HA2 := Lib.hid hA2
  have HN := Lib.hid hn
  have HAB := Lib.hid ha
  have HA := Lib.hid hA
  have hmk := mk64 K (by omega)
  have hKi : (la : Int) + (lb : Int) - 1 = (K : Int) := by omega
  have hKb : K ≤ 10000000 := by omega
  have HKK := Lib.hid hK
  have hif : (if 0 < K then (K : Int) else 0) = (K : Int) := by split <;> omega
  clear hm hb hA2 hn ha hA hK
  go_enter Try.func78, Try.ntmps78
  go_wp2_with fail
  have h3 := cell_new_l w (.slice A2 lb cb) 25
  have hgr := ar_new (w.alloc (.cells #[.slice A2 lb cb] 25)) (List.replicate K 0)
  have h5 := cell_new_l ((w.alloc (.cells #[.slice A2 lb cb] 25)).alloc (.cells (u64s (List.replicate K 0)).toArray 22)) (.slice (some ⟨w.heap.size + 1, 0, none⟩) K K) 25
  have h33 := cell_alloc_l (.cells #[.slice (some ⟨w.heap.size + 1, 0, none⟩) K K] 25) (cell_alloc_l (.cells (u64s (List.replicate K 0)).toArray 22) h3.1)
  have hgr3 := blk_alloc hgr (.cells #[.slice (some ⟨w.heap.size + 1, 0, none⟩) K K] 25)
  have hb3 : Below w.heap.size w (((w.alloc (.cells #[.slice A2 lb cb] 25)).alloc (.cells (u64s (List.replicate K 0)).toArray 22)).alloc (.cells #[.slice (some ⟨w.heap.size + 1, 0, none⟩) K K] 25)) :=
    (((Below.refl _ w).alloc (Nat.le_refl _) _).alloc (by simp) _).alloc (by simp; omega) _
  have hsz : (((w.alloc (.cells #[.slice A2 lb cb] 25)).alloc (.cells (u64s (List.replicate K 0)).toArray 22)).alloc (.cells #[.slice (some ⟨w.heap.size + 1, 0, none⟩) K K] 25)).heap.size = w.heap.size + 3 := by simp
  simp only [World.size_alloc] at h5 hgr3
  obtain ⟨w3, hw3⟩ : ∃ w3, w3 = ((w.alloc (.cells #[.slice A2 lb cb] 25)).alloc (.cells (u64s (List.replicate K 0)).toArray 22)).alloc (.cells #[.slice (some ⟨w.heap.size + 1, 0, none⟩) K K] 25) := ⟨_, rfl⟩
  rw [← hw3] at h5 h33 hgr3 hb3 hsz ⊢
  obtain ⟨B, hBe⟩ : ∃ B, B = w.heap.size := ⟨_, rfl⟩
  rw [← hBe] at h5 h33 hgr3 hb3 hsz ⊢
  have hgr4 : Ar w3 (B + 1) (List.replicate K 0) := hgr3
  have HBE := Lib.hid hBe
  have H5 := Lib.hid h5.1
  have H3 := Lib.hid h33
  have HG := Lib.hid hgr4
  have HSZ := Lib.hid hsz
  have hsz2 : B + 3 ≤ w3.heap.size := by omega
  have hA' := Lib.hid (Rd.rq (g := B + 1) (w := w3) ((HA.out.below (by rw [← hBe]; exact hb3)).more (by omega : w.heap.size ≤ B)) (by omega) (by omega))
  have hA2' := Lib.hid (Rd.rq (g := B + 1) (w := w3) ((HA2.out.below (by rw [← hBe]; exact hb3)).more (by omega : w.heap.size ≤ B)) (by omega) (by omega))
  clear hw3 hBe h3 hgr h5 h33 hgr3 hgr4 hsz hmk hif hKi
  refine (foldi_any (B + 1) (B + 1 + 1) B K la ca lb cb (List.replicate K 0) A A2 a b w3 H5.out H3.out (by omega) (by omega) (by omega) (by omega) HG.out (Pl.sm_zeros K) List.length_replicate (Pl.co_zeros K) (fun _ => by have := HKK.out; omega) hKb hla HM.out HB.out hA2'.out HN.out HAB.out hA'.out).mono ?_
  rintro e w4 ⟨⟨r, rfl⟩, ⟨L', hr, hl, hs, hc⟩, hg4⟩
  have h5' := (World.cell?_of_block (a := ⟨B + 1 + 1, 0, none⟩) (hg4.block (B + 1 + 1) (by omega) (fun e => by injection e with e; omega))).trans H5.out
  have HR := Lib.hid hr
  have HS := Lib.hid hs
  have HC := Lib.hid hc
  have HLN := Lib.hid hl
  clear hr hs hc hl
  go_wp2
  go_ret
  refine ⟨⟨B + 1, L', rfl, by have := HBE.out; omega, HR.out, HLN.out, HS.out, HC.out⟩, ?_⟩
  rw [← HBE.out]
  exact hb3.trans (below_only hg4 (by omega) (by omega))

set_option maxRecDepth 100000 in
set_option maxHeartbeats 1000000 in
theorem product_nil (A A2 : Option Addr) (ca cb : Nat) (w : World) :
    Calls Try.prog 78 #[.slice A 0 ca, .slice A2 0 cb] w fun e w' => Made w.heap.size 0 0 e w' ∧ Below w.heap.size w w' := by
  have hmk := mk64 0 (by omega)
  rw [Int.natCast_zero] at hmk
  go_enter Try.func78, Try.ntmps78
  go_wp2_with fail
  have h3 := cell_new_l w (.slice A2 0 cb) 25
  have hgr := ar_new (w.alloc (.cells #[.slice A2 0 cb] 25)) []
  have h5 := cell_new_l ((w.alloc (.cells #[.slice A2 0 cb] 25)).alloc (.cells (u64s []).toArray 22)) (.slice (some ⟨w.heap.size + 1, 0, none⟩) 0 0) 25
  have h33 := cell_alloc_l (.cells #[.slice (some ⟨w.heap.size + 1, 0, none⟩) 0 0] 25) (cell_alloc_l (.cells (u64s []).toArray 22) h3.1)
  have hgr3 := blk_alloc hgr (.cells #[.slice (some ⟨w.heap.size + 1, 0, none⟩) 0 0] 25)
  have hb3 : Below w.heap.size w (((w.alloc (.cells #[.slice A2 0 cb] 25)).alloc (.cells (u64s []).toArray 22)).alloc (.cells #[.slice (some ⟨w.heap.size + 1, 0, none⟩) 0 0] 25)) :=
    (((Below.refl _ w).alloc (Nat.le_refl _) _).alloc (by simp) _).alloc (by simp; omega) _
  have hsz : (((w.alloc (.cells #[.slice A2 0 cb] 25)).alloc (.cells (u64s []).toArray 22)).alloc (.cells #[.slice (some ⟨w.heap.size + 1, 0, none⟩) 0 0] 25)).heap.size = w.heap.size + 3 := by simp
  simp only [World.size_alloc] at h5 hgr3
  obtain ⟨w3, hw3⟩ : ∃ w3, w3 = ((w.alloc (.cells #[.slice A2 0 cb] 25)).alloc (.cells (u64s []).toArray 22)).alloc (.cells #[.slice (some ⟨w.heap.size + 1, 0, none⟩) 0 0] 25) := ⟨_, rfl⟩
  rw [← hw3] at h5 h33 hgr3 hb3 hsz ⊢
  obtain ⟨B, hBe⟩ : ∃ B, B = w.heap.size := ⟨_, rfl⟩
  rw [← hBe] at h5 h33 hgr3 hb3 hsz ⊢
  have hgr4 : Ar w3 (B + 1) [] := hgr3
  have hcall := foldi_any (B + 1) (B + 1 + 1) B 0 0 ca 0 cb [] A A2 [] [] w3 h5.1 h33 (by omega) (by omega) (by omega) (by omega) hgr4 Pl.Sm.nil rfl Pl.co_nil (fun h => absurd h (by omega)) (by omega) (by omega) rfl (by intro y hy; cases hy) (fun h => absurd h (by simp [u64s])) rfl (by intro y hy; cases hy) (fun h => absurd h (by simp [u64s]))
  rw [show ((0 : Nat) : Int) - 1 = -1 from rfl] at hcall
  have HBE := Lib.hid hBe
  have H5 := Lib.hid h5.1
  have hsz2 : B + 3 ≤ w3.heap.size := by omega
  have HC := Lib.hid hcall
  clear hw3 hBe h3 hgr h5 h33 hgr3 hgr4 hsz hmk hcall
  refine HC.out.mono ?_
  rintro e w4 ⟨⟨r, rfl⟩, ⟨L', hr, hl, hs, hc⟩, hg4⟩
  have h5' := (World.cell?_of_block (a := ⟨B + 1 + 1, 0, none⟩) (hg4.block (B + 1 + 1) (by omega) (fun e => by injection e with e; omega))).trans H5.out
  have HR := Lib.hid hr
  have HS := Lib.hid hs
  have HCO := Lib.hid hc
  have HLN := Lib.hid hl
  clear hr hs hc hl
  go_wp2
  go_ret
  refine ⟨⟨B + 1, L', rfl, by have := HBE.out; omega, HR.out, HLN.out, HS.out, by rw [HCO.out, Pl.co_nil, Pl.zero_mul]⟩, ?_⟩
  rw [← HBE.out]
  exact hb3.trans (below_only hg4 (by omega) (by omega))

/-! ### one root more -/
theorem rd_two (w : World) (x y : Nat) : Rd (w.alloc (.cells #[.int .u64 (x : Int), .int .u64 (y : Int)] 22)).heap.size (w.alloc (.cells #[.int .u64 (x : Int), .int .u64 (y : Int)] 22)) (some ⟨w.heap.size, 0, none⟩) (u64s [x, y]) := fun _ =>
  ⟨w.heap.size, 0, rfl, by simp, fun i u hu => by
    rw [Nat.zero_add, (blk_new w 22 #[.int .u64 (x : Int), .int .u64 (y : Int)]).cell i]
    simpa [u64s] using hu⟩
theorem Pl.co_root (r : Nat) : Pl.co [Fld.sub 0 r, 1] = Pl.lin (Fld.to r) := Pl.ext fun n => by
  rw [Pl.co_cons, Pl.co_cons, Pl.co_nil, Pl.sh_zero, Pl.add_zero, Fld.to_subF, Fld.to_one, Fld.to_zero]
  unfold Pl.lin Pl.X
  cases n with
  | zero => simp only [Pl.add_at, Pl.sub_at, Pl.C_0, Pl.sh_0]; grind
  | succ n => simp only [Pl.add_at, Pl.sub_at, Pl.C_s, Pl.sh_s]; grind

set_option maxRecDepth 100000 in
set_option maxHeartbeats 1000000 in
theorem withRoot_any (A : Option Addr) (la ca K r : Nat) (a : List Nat) (w : World) (hn : la = a.length) (hK : K = la + 1) (hla : la ≤ 1000000) (ha : ∀ y ∈ a, y < 18446744073709551616) (hr : r < 18446744073709551616) (hA : Rd w.heap.size w A (u64s a)) :
    Calls Try.prog 80 #[.slice A la ca, .int .u64 (r : Int)] w fun e w' => Made w.heap.size K (Pl.lin (Fld.to r) * Pl.co a) e w' ∧ Below w.heap.size w w' := by
  have hs := Fld.sub_lt 0 r
  have hc := neg_any r w hr
  have hco := Pl.co_root r
  obtain ⟨z, hz⟩ : ∃ z, z = Fld.sub 0 r := ⟨_, rfl⟩
  rw [← hz] at hs hc hco
  have HC := Lib.hid hc
  have HCO := Lib.hid hco
  have HN := Lib.hid hn
  have HK := Lib.hid hK
  have HAB := Lib.hid ha
  have HA := Lib.hid hA
  clear hz hc hco hn hK ha hA
  go_enter Try.func80, Try.ntmps80
  go_wp2_with fail
  refine HC.out.mono ?_
  rintro e w' ⟨rfl, rfl⟩
  go_wp2_with fail
  have hb1 : Below w.heap.size w (w.alloc (.cells #[.int .u64 (z : Int), .int .u64 1] 22)) := (Below.refl _ w).alloc (Nat.le_refl _) _
  refine (product_any (some ⟨w.heap.size, 0, none⟩) A 2 2 la ca K [z, 1] a _ rfl HN.out (by omega) (by have := HK.out; omega) (by omega) hla (by intro y hy; simp at hy; omega) HAB.out (rd_two w z 1) ((HA.out.below hb1).more (by simp))).mono ?_
  rintro e w2 ⟨⟨g, L, rfl, hg1, hg2, hg3, hg4, hg5⟩, hb2⟩
  have H2 := Lib.hid hg2
  have H3 := Lib.hid hg3
  have H4 := Lib.hid hg4
  have H5 := Lib.hid hg5
  clear hg2 hg3 hg4 hg5
  go_wp2
  go_ret
  refine ⟨⟨g, L, rfl, ?_, H2.out, H3.out, H4.out, by rw [H5.out, HCO.out]⟩, hb1.trans (hb2.mono (by simp))⟩
  simp at hg1
  omega
end Go.Proofs.Ytcbcmnbfflaicaa

/-
  Package poly's Mul and monic, in memory of their own; what was there was left as it was. For lists of numbers of 64 bits, up to a million of them.
-/
namespace Go.Proofs.Ytcbcmnbfflaicaa
open Go.RowKit

/-- A slice that holds l. -/
def Pt (w : World) (A : Option Addr) (n c : Nat) (l : List Nat) : Prop := n = l.length ∧ Rd w.heap.size w A (u64s l) ∧ n ≤ c ∧ (A = none → c = 0)
theorem Pt.below {w w' : World} {A : Option Addr} {n c : Nat} {l : List Nat} (h : Pt w A n c l) (hb : Below w.heap.size w w') : Pt w' A n c l := ⟨h.1, (h.2.1.below hb).more hb.size, h.2.2⟩
/-- A slice from block lo on that is trimmed and says s. -/
def Poly (lo : Nat) (s : Pl) (e : Ending) (w' : World) : Prop := ∃ A n c l, e = .returned (.slice A n c) ∧ Pt w' A n c l ∧ Pl.Is l s ∧ ∀ bl off, A = some ⟨bl, off, none⟩ → lo ≤ bl
theorem Got.poly {lo : Nat} {s : Pl} {e : Ending} {w' : World} (h : Got lo s e w') : Poly lo s e w' := by
  obtain ⟨g, m, c, L, rfl, h1, h2, h3, h4, _, h6⟩ := h
  exact ⟨_, m, c, L.take m, rfl, ⟨by rw [List.length_take]; omega, (h2.rd h2.lt).take m, by omega, fun e => by cases e⟩, h6, fun bl off e => by injection e with e; injection e with e1; omega⟩
theorem Poly.mono {lo lo' : Nat} {s : Pl} {e : Ending} {w' : World} (h : Poly lo s e w') (hl : lo' ≤ lo) : Poly lo' s e w' := by
  obtain ⟨A, n, c, l, h1, h2, h3, h4⟩ := h
  exact ⟨A, n, c, l, h1, h2, h3, fun bl off e => Nat.le_trans hl (h4 bl off e)⟩

/-- The last number of a list. -/
def lead (l : List Nat) : Nat := l[l.length - 1]?.getD 0
theorem Pl.Dg.smul {s : Pl} {d : Nat} {c : Fld.F} (hc : c ≠ 0) (h : Pl.Dg s d) : Pl.Dg (Pl.C c * s) d := ⟨by rw [Pl.C_mul_at]; exact Fld.mul_ne hc h.1, h.2.smul c⟩
theorem Pl.Dg.tr {L : List Nat} {n : Nat} (hs : Pl.Sm L) (hl : L.length = n + 1) (h : Pl.Dg (Pl.co L) n) : Pl.Tr L := ⟨hs, .inr fun e => h.1 (by rw [Pl.co_at]; rw [hl, Nat.add_sub_cancel] at e; rw [e]; rfl)⟩
theorem lead_ne {l : List Nat} (h : Pl.Tr l) (hl : 0 < l.length) : Fld.to (lead l) ≠ 0 := fun e => by
  rcases h.2 with h1 | h1
  · omega
  · exact h1 ((Pl.to_eq_zero (h.1.get _)).1 e)

set_option maxRecDepth 100000 in
set_option maxHeartbeats 1000000 in
theorem monic_any (A : Option Addr) (n c : Nat) (a : List Nat) (w : World) (hp : Pt w A n c a) (ht : Pl.Tr a) (hn : n ≤ 1000000) :
    Calls Try.prog 68 #[.slice A n c] w fun e w' => Poly w.heap.size (Pl.C (Fld.iv (Fld.to (lead a))) * Pl.co a) e w' ∧ Below w.heap.size w w' := by
  have HP := Lib.hid hp
  have HT := Lib.hid ht
  clear hp ht
  cases n with
  | zero =>
    have ha : a = [] := List.eq_nil_of_length_eq_zero HP.out.1.symm
    go_enter Try.func68, Try.ntmps68
    go_wp2
    go_ret
    refine ⟨⟨none, 0, 0, [], rfl, ⟨rfl, Rd.nil, Nat.le_refl _, fun _ => rfl⟩, ⟨Pl.Tr.nil, ?_⟩, fun bl off e => by cases e⟩, Below.refl _ _⟩
    rw [ha, Pl.co_nil, Pl.mul_zero]
  | succ j =>
    have hlen := HP.out.1
    obtain ⟨b, off, rfl, hlt, hcl⟩ := HP.out.2.1 (by rw [u64s_len, ← hlen]; omega)
    have c1 := hcl j _ (u64s_at (by rw [← hlen]; omega))
    have hx := HT.out.1.big
    have hxb := get_big hx j
    have hld : lead a = a[j]?.getD 0 := by unfold lead; rw [← hlen, Nat.add_sub_cancel]
    obtain ⟨x, hxe⟩ : ∃ x, x = a[j]?.getD 0 := ⟨_, rfl⟩
    rw [← hxe] at c1 hxb hld
    have hinv := inv_any x w hxb
    have hil := Fld.pow_lt x 2305843009213693949
    have hito : Fld.to (Fld.pow x 2305843009213693949) = Fld.iv (Fld.to x) := Fld.to_powI _
    obtain ⟨y, hy⟩ : ∃ y, y = Fld.pow x 2305843009213693949 := ⟨_, rfl⟩
    rw [← hy] at hinv hil hito
    have HI := Lib.hid hinv
    have HL := Lib.hid hlen
    have HX := Lib.hid hx
    have HLD := Lib.hid hld
    have HTO := Lib.hid hito
    clear hcl hxe hy hinv hlen hx hld hito
    go_enter Try.func68, Try.ntmps68
    go_wp2_with fail
    refine HI.out.mono ?_
    rintro e w1 ⟨rfl, hb1⟩
    go_wp2_with fail
    have hb2 : Below w.heap.size w (w1.alloc (.cells #[.int .u64 (y : Int)] 22)) := hb1.alloc hb1.size _
    refine (product_any (some ⟨b, off, none⟩) (some ⟨w1.heap.size, 0, none⟩) (j + 1) c 1 1 (j + 1) a [y] _ HL.out rfl (by omega) (by omega) (by omega) (by omega) HX.out (by intro z hz; simp at hz; omega) ((HP.out.2.1.below hb2).more hb2.size) (rd_one w1 y)).mono ?_
    rintro e w2 ⟨⟨g, L, rfl, hg1, hg2, hg3, hg4, hg5⟩, hb3⟩
    have H2 := Lib.hid hg2
    have H3 := Lib.hid hg3
    have H4 := Lib.hid hg4
    have H5 := Lib.hid hg5
    clear hg2 hg3 hg4 hg5
    go_wp2
    go_ret
    have e1 : Pl.co [y] = Pl.C (Fld.iv (Fld.to (lead a))) := by rw [Pl.co_cons, Pl.co_nil, Pl.sh_zero, Pl.add_zero, HTO.out, HLD.out]
    have hco : Pl.co L = Pl.C (Fld.iv (Fld.to (lead a))) * Pl.co a := by rw [H5.out, e1, Pl.mul_comm]
    have hdg : Pl.Dg (Pl.co L) j := by
      rw [hco]
      exact Pl.Dg.smul (Fld.iv_ne (lead_ne HT.out (by rw [← HL.out]; omega))) (HT.out.dg HL.out.symm)
    refine ⟨⟨_, j + 1, j + 1, L, rfl, ⟨H3.out.symm, H2.out.rd H2.out.lt, Nat.le_refl _, fun e => by cases e⟩, ⟨Pl.Dg.tr H4.out H3.out hdg, hco⟩, fun bl off e => by injection e with e; injection e with e1; have := hb2.size; omega⟩, ?_⟩
    exact hb2.trans (hb3.mono hb2.size)
end Go.Proofs.Ytcbcmnbfflaicaa

/-
  Package poly's fold at withRoot, and Of: the product of x less each root, in memory of its own. For lists of numbers of 64 bits, up to a million of them.
-/
namespace Go.Proofs.Ytcbcmnbfflaicaa
open Go.RowKit Go.Shelf
attribute [local go_sem] Oper.semAt_some

namespace Pl
/-- The product of x less each root. -/
def prodR : List Nat → Pl
  | [] => C 1
  | r :: l => lin (Fld.to r) * prodR l
theorem Po.prodR : ∀ l, Po (prodR l)
  | [] => Po.C 1
  | _ :: l => (Po.lin _).mul (Po.prodR l)
end Pl

theorem below_grown {w w' : World} (h : Below w.heap.size w w') (row : Option Nat) : w.grownBy w' row := ⟨h.os, h.tape, h.output, h.size, fun k hk _ => h.block k hk⟩

end Go.Proofs.Ytcbcmnbfflaicaa

/-
  Package poly's fold at the value's inner function, and Eval: the value of a polynomial; what was there was left as it was. For lists of numbers of 64 bits, up to a million of them.
-/
namespace Go.Proofs.Ytcbcmnbfflaicaa
open Go.RowKit Go.Shelf
attribute [local go_sem] Oper.semAt_some

namespace Pl
/-- The value, reckoned. -/
def hv (x : Nat) : List Nat → Nat
  | [] => 0
  | c :: l => Fld.add (Fld.mul (hv x l) x) c
theorem hv_lt (x : Nat) : ∀ l, hv x l < 2305843009213693951
  | [] => by show 0 < 2305843009213693951; omega
  | _ :: _ => Fld.add_lt _ _
theorem hv_val (x : Nat) : ∀ l, Fld.to (hv x l) = val (co l) (Fld.to x)
  | [] => by rw [co_nil, val_zero]; rfl
  | c :: l => by
    rw [hv, Fld.to_addF, Fld.to_mulF, hv_val x l, co_cons, val_add (Po.C _) (Po.co l).sh, val_C, val_sh (Po.co l)]; grind
end Pl

end Go.Proofs.Ytcbcmnbfflaicaa
