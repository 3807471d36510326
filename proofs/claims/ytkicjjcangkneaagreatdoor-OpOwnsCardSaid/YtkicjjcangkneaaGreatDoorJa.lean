/-
  Joined texts: Fld OpsA Hsh OpsB Take Word Words Of Byt Str OpsC RefH Same RefW RefO RefS Lives LawA.
-/
import Derived.Test.YtkicjjcangkneaaGreatDoorRows
import Derived.WalkKit
import Derived.ProofKit
import Derived.OpenShut
import Derived.Lib.Mul64
import Derived.Laws.Bits64b
import Derived.Lib.Hide
import Derived.RangeFuncNested
import Derived.RangeFuncBound
import Derived.RangeFuncCalls
import Derived.RangeFuncLeaves
import Derived.Shelf.Abstract
import Derived.Shelf.RegionOpen
import Derived.OwnWalkIn
import Derived.TacticsInMore
import Derived.LoopNIn
import Derived.LoopIn
import Derived.Below
import Derived.Deep.RegionWith
import Derived.Deep.DrawnRows
import Derived.StillTailTactics
import Derived.Outline
import Derived.Laws.BitsAllLaws
import Derived.Laws.BitsLemmas
import Derived.Maps.OwnIn
import Derived.Maps.AppendAt
import Derived.RangeFuncBox
import Derived.IntWalk
import Derived.Laws.MakeOwn
import Derived.Deep.QuietTactic
import Derived.BigQuiet
import Derived.Laws.AppendOwnNone
import Derived.Laws.IdiomStrings

/-
  THE FIELD OF 2^61 - 1 ELEMENTS, WITHOUT ANY PROGRAM: plain natural numbers. That 37 is a primitive root (its powers are all remainders but 0) is shown by the prime factors of P - 1;
  Fermat's little theorem and that a product is 0 only if a factor is follow. No condition.
-/
namespace Go.Proofs.YtkicjjcangkneaaGreatDoor.Fld

/-- The prime 2^61 - 1. -/
def P : Nat := 2305843009213693951
/-- P - 1. -/
def N : Nat := 2305843009213693950

theorem P_val : P = 2305843009213693951 := rfl
theorem N_val : N = 2305843009213693950 := rfl
theorem P_pos : 0 < P := by decide +kernel

/-! ### powers, reckoned -/
def pw : Nat → Nat → Nat → Nat
  | 0, _, _ => 1 % P
  | f + 1, a, n =>
    if n = 0 then 1 % P
    else
      let h := pw f a (n / 2)
      if n % 2 = 1 then h * h % P * a % P else h * h % P

theorem pw_eq : ∀ (f a n : Nat), n < 2 ^ f → pw f a n = a ^ n % P
  | 0, a, n, h => by
    have : n = 0 := by simpa using h
    subst this
    simp [pw]
  | f + 1, a, n, h => by
    by_cases h0 : n = 0
    · subst h0; simp [pw]
    · have hlt : n / 2 < 2 ^ f := by rw [Nat.pow_succ] at h; omega
      have ih := pw_eq f a (n / 2) hlt
      simp only [pw, h0, if_false, ih]
      have e : n = n / 2 + n / 2 + n % 2 := by omega
      by_cases h1 : n % 2 = 1
      · rw [if_pos h1]
        rw [h1] at e
        conv => rhs; rw [e, Nat.pow_add, Nat.pow_add, Nat.pow_one]
        simp [Nat.mul_mod]
      · rw [if_neg h1]
        have h2 : n % 2 = 0 := by omega
        rw [h2, Nat.add_zero] at e
        conv => rhs; rw [e, Nat.pow_add]
        simp [Nat.mul_mod]

/-! ### 37 to each power below P - 1 is not 1 -/
def qs : List Nat := [2, 3, 3, 5, 5, 7, 11, 13, 31, 41, 61, 151, 331, 1321]
theorem qs_prod : qs.foldr (· * ·) 1 = N := by decide +kernel
theorem qs_prime : ∀ q ∈ qs, ∀ c < q + 1, c ∣ q → c = 1 ∨ c = q := by decide +kernel
theorem qs_pos : ∀ q ∈ qs, 0 < q ∧ q ∣ N ∧ pw 64 37 (N / q) ≠ 1 := by decide +kernel

theorem root_one : 37 ^ N % P = 1 := by rw [← pw_eq 64 37 N (by decide +kernel)]; decide +kernel
theorem root_not (q : Nat) (h : q ∈ qs) : 37 ^ (N / q) % P ≠ 1 := by
  rw [← pw_eq 64 37 (N / q) (Nat.lt_of_le_of_lt (Nat.div_le_self _ _) (by decide +kernel))]
  exact (qs_pos q h).2.2

theorem one_mod (g m n : Nat) (h : g ^ m % P = 1) : g ^ (m + n) % P = g ^ n % P := by
  rw [Nat.pow_add, Nat.mul_mod, h, Nat.one_mul, Nat.mod_mod]

theorem ones (g m : Nat) (h : g ^ m % P = 1) : ∀ k, g ^ (m * k) % P = 1
  | 0 => by rw [Nat.mul_zero, Nat.pow_zero]; decide +kernel
  | k + 1 => by rw [Nat.mul_succ, Nat.add_comm, one_mod g m _ h]; exact ones g m h k

theorem one_gcd (g : Nat) (m n : Nat) : g ^ m % P = 1 → g ^ n % P = 1 → g ^ (Nat.gcd m n) % P = 1 := by
  induction m, n using Nat.gcd.induction with
  | H0 n => intro _ h; simpa using h
  | H1 m n hm ih =>
    intro h1 h2
    rw [Nat.gcd_rec]
    refine ih ?_ h1
    have e : n = m * (n / m) + n % m := (Nat.div_add_mod n m).symm
    rw [e, one_mod g (m * (n / m)) _ (ones g m h1 _)] at h2
    exact h2

theorem cop_all (e : Nat) : ∀ l : List Nat, (∀ q ∈ l, Nat.Coprime e q) → Nat.Coprime e (l.foldr (· * ·) 1)
  | [], _ => Nat.coprime_one_right e
  | q :: l, h => Nat.Coprime.mul_right (h q (by simp)) (cop_all e l fun x hx => h x (by simp [hx]))

theorem ord (d : Nat) (h0 : 0 < d) (hd : d < N) : 37 ^ d % P ≠ 1 := by
  intro h
  have hc := one_gcd 37 d N h root_one
  have c1 : Nat.gcd d N ∣ N := Nat.gcd_dvd_right d N
  have c2 : Nat.gcd d N ≤ d := Nat.gcd_le_left N h0
  obtain ⟨e, he⟩ := c1
  have he1 : e ≠ 1 := by
    rintro rfl
    rw [Nat.mul_one] at he
    omega
  have hq : ∃ q ∈ qs, ¬ Nat.Coprime e q := by
    refine Classical.byContradiction fun hn => ?_
    have hall : ∀ q ∈ qs, Nat.Coprime e q := fun q hq => Classical.byContradiction fun hx => hn ⟨q, hq, hx⟩
    have hcop := cop_all e qs hall
    rw [qs_prod] at hcop
    have : Nat.gcd e N = e := Nat.gcd_eq_left ⟨Nat.gcd d N, by rw [Nat.mul_comm]; exact he⟩
    rw [Nat.Coprime, this] at hcop
    exact he1 hcop
  obtain ⟨q, hq, hnc⟩ := hq
  obtain ⟨hq0, _, _⟩ := qs_pos q hq
  have hg : Nat.gcd e q ∣ q := Nat.gcd_dvd_right e q
  have hgq : Nat.gcd e q = q := by
    rcases qs_prime q hq (Nat.gcd e q) (Nat.lt_succ_of_le (Nat.le_of_dvd hq0 hg)) hg with h1 | h1
    · exact absurd h1 hnc
    · exact h1
  have hqe : q ∣ e := hgq ▸ Nat.gcd_dvd_left e q
  obtain ⟨f, rfl⟩ := hqe
  have hdiv : N / q = Nat.gcd d N * f := by
    conv => lhs; rw [he]
    rw [show Nat.gcd d N * (q * f) = q * (Nat.gcd d N * f) by rw [← Nat.mul_assoc, Nat.mul_comm (Nat.gcd d N) q, Nat.mul_assoc]]
    exact Nat.mul_div_cancel_left _ hq0
  refine root_not q hq ?_
  rw [hdiv]
  exact ones 37 _ hc f

/-! ### each remainder but 0 is a power of 37 -/
theorem pigeon : ∀ (n : Nat) (f : Nat → Nat), (∀ i < n, f i < n) → (∀ i < n, ∀ j < n, f i = f j → i = j) → ∀ y < n, ∃ i < n, f i = y
  | 0, _, _, _, y, hy => absurd hy (Nat.not_lt_zero y)
  | n + 1, f, hf, hi, y, hy => by
    have hne : ∀ i < n, f i ≠ f n := fun i h e => by have := hi i (by omega) n (by omega) e; omega
    have ih := pigeon n (fun i => if f i = n then f n else f i)
      (fun i h => by
        have a := hf i (by omega)
        have b := hf n (by omega)
        have c := hne i h
        show (if f i = n then f n else f i) < n
        by_cases e : f i = n
        · rw [if_pos e]; omega
        · rw [if_neg e]; omega)
      (fun i h j k e => by
        have ci := hne i h
        have cj := hne j k
        have e' : (if f i = n then f n else f i) = (if f j = n then f n else f j) := e
        by_cases a : f i = n <;> by_cases b : f j = n
        · exact hi i (by omega) j (by omega) (by omega)
        · rw [if_pos a, if_neg b] at e'; exact absurd e'.symm cj
        · rw [if_neg a, if_pos b] at e'; exact absurd e' ci
        · rw [if_neg a, if_neg b] at e'; exact hi i (by omega) j (by omega) e')
    by_cases h1 : y = f n
    · exact ⟨n, by omega, h1.symm⟩
    · by_cases h2 : y = n
      · obtain ⟨i, hin, he⟩ := ih (f n) (by have := hf n (by omega); omega)
        have he' : (if f i = n then f n else f i) = f n := he
        by_cases a : f i = n
        · exact ⟨i, by omega, by omega⟩
        · rw [if_neg a] at he'; exact absurd he' (hne i hin)
      · obtain ⟨i, hin, he⟩ := ih y (by omega)
        have he' : (if f i = n then f n else f i) = y := he
        by_cases a : f i = n
        · rw [if_pos a] at he'; exact absurd he'.symm h1
        · rw [if_neg a] at he'; exact ⟨i, by omega, he'⟩

theorem inv_pow (g n : Nat) (h : g ^ N % P = 1) : g ^ n % P * (g ^ (n * (N - 1)) % P) % P = 1 := by
  rw [← Nat.mul_mod, ← Nat.pow_add]
  have e : n + n * (N - 1) = N * n := by
    rw [show n + n * (N - 1) = n * 1 + n * (N - 1) by rw [Nat.mul_one], ← Nat.mul_add, Nat.mul_comm]
    rfl
  rw [e]
  exact ones g N h n

theorem pow_ne (n : Nat) : 37 ^ n % P ≠ 0 := fun h => by
  have := inv_pow 37 n root_one
  rw [h, Nat.zero_mul] at this
  exact absurd this (by decide +kernel)

theorem pow_inj (i j : Nat) (hi : i < N) (hj : j < N) (h : 37 ^ i % P = 37 ^ j % P) : i = j := by
  have key : ∀ i j, i < j → j < N → 37 ^ i % P = 37 ^ j % P → False := by
    intro i j hij hj h
    have e : 37 ^ (j - i) % P = 1 := by
      have h1 : (37 ^ (N - i) % P) * (37 ^ i % P) % P = (37 ^ (N - i) % P) * (37 ^ j % P) % P := by rw [h]
      rw [← Nat.mul_mod, ← Nat.mul_mod, ← Nat.pow_add, ← Nat.pow_add] at h1
      rw [show N - i + i = N by omega, show N - i + j = N + (j - i) by omega, root_one, one_mod 37 N _ root_one] at h1
      exact h1.symm
    exact ord (j - i) (by omega) (by omega) e
  rcases Nat.lt_trichotomy i j with h1 | h1 | h1
  · exact (key i j h1 hj h).elim
  · exact h1
  · exact (key j i h1 hi h.symm).elim

theorem is_pow (a : Nat) (h : a % P ≠ 0) : ∃ k, a % P = 37 ^ k % P := by
  have hlt : ∀ n, n % P < P := fun n => Nat.mod_lt _ P_pos
  have hPN : P = N + 1 := rfl
  obtain ⟨i, _, he⟩ := pigeon N (fun i => 37 ^ i % P - 1)
    (fun i _ => by have := hlt (37 ^ i); have := pow_ne i; show 37 ^ i % P - 1 < N; omega)
    (fun i hi j hj e => pow_inj i j hi hj (by
      have a := pow_ne i
      have b := pow_ne j
      have e' : 37 ^ i % P - 1 = 37 ^ j % P - 1 := e
      omega))
    (a % P - 1) (by have := hlt a; omega)
  refine ⟨i, ?_⟩
  have he' : 37 ^ i % P - 1 = a % P - 1 := he
  have := pow_ne i
  omega

/-! ### what follows -/
theorem fermat (a : Nat) (h : a % P ≠ 0) : a ^ N % P = 1 := by
  obtain ⟨k, hk⟩ := is_pow a h
  rw [Nat.pow_mod, hk, ← Nat.pow_mod, ← Nat.pow_mul, Nat.mul_comm]
  exact ones 37 N root_one k

theorem mul_zero_iff (a b : Nat) : a * b % P = 0 ↔ a % P = 0 ∨ b % P = 0 := by
  constructor
  · intro h
    refine Classical.byContradiction fun hn => ?_
    obtain ⟨i, hi⟩ := is_pow a fun e => hn (.inl e)
    obtain ⟨j, hj⟩ := is_pow b fun e => hn (.inr e)
    rw [Nat.mul_mod, hi, hj, ← Nat.mul_mod, ← Nat.pow_add] at h
    exact pow_ne _ h
  · rintro (h | h) <;> rw [Nat.mul_mod, h] <;> simp

theorem zero_pow (a n : Nat) (h : a % P = 0) (hn : n ≠ 0) : a ^ n % P = 0 := by
  obtain ⟨m, rfl⟩ := Nat.exists_eq_succ_of_ne_zero hn
  rw [Nat.pow_succ, Nat.mul_mod, h]
  simp

theorem fermat' (a : Nat) : a ^ P % P = a % P := by
  by_cases h : a % P = 0
  · rw [h]; exact zero_pow a P h (by decide +kernel)
  · have e : P = N + 1 := rfl
    rw [show a ^ P = a ^ (N + 1) from rfl, one_mod a N 1 (fermat a h), Nat.pow_one]

/-- A square root of 1 is 1 or P - 1. -/
theorem root_of_one (x : Nat) (h : x * x % P = 1) : x % P = 1 ∨ x % P = N := by
  have hx : x % P < P := Nat.mod_lt _ P_pos
  have hPN : P = N + 1 := rfl
  have hN : 1 ≤ N := by decide +kernel
  have h' : (x % P) * (x % P) % P = 1 := by rw [← Nat.mul_mod]; exact h
  generalize x % P = r at hx h' ⊢
  have hr0 : r ≠ 0 := by rintro rfl; exact absurd h' (by decide +kernel)
  -- (r - 1) * (r + 1) = r * r - 1
  have e : (r - 1) * (r + 1) = r * r - 1 := by
    obtain ⟨s, rfl⟩ := Nat.exists_eq_succ_of_ne_zero hr0
    simp only [Nat.succ_eq_add_one, Nat.add_sub_cancel]
    have : (s + 1) * (s + 1) = s * (s + 1 + 1) + 1 := by
      simp only [Nat.mul_add, Nat.add_mul]; omega
    omega
  have hz : (r - 1) * (r + 1) % P = 0 := by
    rw [e]
    have hd := Nat.div_add_mod (r * r) P
    rw [h'] at hd
    have : r * r - 1 = P * (r * r / P) := by omega
    rw [this]
    exact Nat.mul_mod_right _ _
  rcases (mul_zero_iff _ _).1 hz with h1 | h1
  · left
    have : r - 1 < P := by omega
    rw [Nat.mod_eq_of_lt this] at h1
    omega
  · right
    by_cases hN' : r + 1 < P
    · rw [Nat.mod_eq_of_lt hN'] at h1; omega
    · omega

end Go.Proofs.YtkicjjcangkneaaGreatDoor.Fld

/-
  Package field's Num, Ok, Add, Sub, Neg and Mul (and the library's product in two words) answer what the natural numbers modulo 2^61 - 1 give, and leave the world as it was: for all numbers of 64 bits, no other condition.
-/
namespace Go.Proofs.YtkicjjcangkneaaGreatDoor
open Go.RowKit

/-! ### what the functions answer, as natural numbers -/
namespace Fld
def num (n : Nat) : Nat := n % P
def add (a b : Nat) : Nat := (a + b) % P
def sub (a b : Nat) : Nat := (a % P + (P - b % P)) % P
def mul (a b : Nat) : Nat := a * b % P
def pow (a n : Nat) : Nat := a ^ n % P
theorem lt_P (n : Nat) : n % P < 2305843009213693951 := Nat.mod_lt _ P_pos
theorem num_lt (n : Nat) : num n < 2305843009213693951 := lt_P _
theorem add_lt (a b : Nat) : add a b < 2305843009213693951 := lt_P _
theorem sub_lt (a b : Nat) : sub a b < 2305843009213693951 := lt_P _
theorem mul_lt (a b : Nat) : mul a b < 2305843009213693951 := lt_P _
theorem pow_lt (a b : Nat) : pow a b < 2305843009213693951 := lt_P _
theorem add_eq (a b : Nat) : num (num a + num b) = add a b := (Nat.add_mod a b P).symm
theorem sub_eq (a b : Nat) : num (num a + 2305843009213693951 - num b) = sub a b := by
  have h : num b ≤ 2305843009213693951 := Nat.le_of_lt (num_lt b)
  show (a % P + P - b % P) % P = _
  rw [Nat.add_sub_assoc (Nat.le_of_lt (Nat.mod_lt _ P_pos))]
  rfl
theorem mul_num (a b : Nat) : mul (num a) (num b) = mul a b := (Nat.mul_mod a b P).symm
end Fld

theorem ret_u64 {a b : Int} (h : a = b) : Ending.returned (.int .u64 a) = .returned (.int .u64 b) := by rw [h]

theorem mask61 (n : Nat) (hn : n < 18446744073709551616) : bits .and .u64 (n : Int) 2305843009213693951 = ((n % 2305843009213693952 : Nat) : Int) := by
  have h := bits_and_u64_nat n 2305843009213693951 hn (by omega)
  have e : n &&& 2305843009213693951 = n % 2305843009213693952 := Nat.and_two_pow_sub_one_eq_mod n 61
  rw [e] at h
  exact h

/-! ### package field -/
theorem num_any (n : Nat) (w : World) (hn : n < 18446744073709551616) :
    Calls Tryz.prog 167 #[.int .u64 n] w fun e w' => e = .returned (.int .u64 (Fld.num n : Nat)) ∧ w = w' := by
  obtain ⟨lo, hlo⟩ : ∃ lo : Nat, lo = n % 2305843009213693952 := ⟨_, rfl⟩
  have hm := mask61 n hn
  rw [← hlo] at hm
  have hl : lo < 2305843009213693952 := by omega
  obtain ⟨hi, hhi⟩ : ∃ hi : Nat, hi = n / 2305843009213693952 := ⟨_, rfl⟩
  have hd : (n : Int) / 2305843009213693952 = (hi : Int) := by omega
  have hh : hi < 8 := by omega
  have HL := Lib.hid hlo
  have HH := Lib.hid hhi
  clear hlo hhi
  by_cases hc : 2305843009213693951 ≤ lo + hi
  · have hb : decide ((2305843009213693951 : Int) ≤ (lo : Int) + (hi : Int)) = true := decide_eq_true (by omega)
    have h1 : (0 : Int) ≤ (lo : Int) + (hi : Int) - 2305843009213693951 := by omega
    clear hc
    go_enter Tryz.func167, Tryz.ntmps167
    go_wp2
    go_ret
    refine ⟨ret_u64 ?_, rfl⟩
    have := HL.out
    have := HH.out
    show _ = ((n % 2305843009213693951 : Nat) : Int)
    omega
  · have hb : decide ((2305843009213693951 : Int) ≤ (lo : Int) + (hi : Int)) = false := decide_eq_false (by omega)
    have HC := Lib.hid hc
    clear hc
    go_enter Tryz.func167, Tryz.ntmps167
    go_wp2
    go_ret
    refine ⟨ret_u64 ?_, rfl⟩
    have := HL.out
    have := HH.out
    have := HC.out
    show _ = ((n % 2305843009213693951 : Nat) : Int)
    omega

theorem ok_any (n : Nat) (w : World) :
    Calls Tryz.prog 164 #[.int .u64 n] w fun e w' => e = .returned (.bool (decide (n < 2305843009213693951))) ∧ w = w' := by
  have hd : decide ((n : Int) < 2305843009213693951) = decide (n < 2305843009213693951) := by
    by_cases h : n < 2305843009213693951
    · rw [decide_eq_true h, decide_eq_true (by omega)]
    · rw [decide_eq_false h, decide_eq_false (by omega)]
  generalize decide (n < 2305843009213693951) = b at hd ⊢
  go_enter Tryz.func164, Tryz.ntmps164
  go_wp2
  go_ret
  exact ⟨rfl, rfl⟩

theorem add_any (a b : Nat) (w : World) (ha : a < 18446744073709551616) (hb : b < 18446744073709551616) :
    Calls Tryz.prog 214 #[.int .u64 a, .int .u64 b] w fun e w' => e = .returned (.int .u64 (Fld.add a b : Nat)) ∧ w = w' := by
  have h1 := Fld.num_lt a
  have h2 := Fld.num_lt b
  have h3 := num_any (Fld.num a + Fld.num b) w (by omega)
  rw [Fld.add_eq, Int.natCast_add] at h3
  go_enter Tryz.func214, Tryz.ntmps214
  go_wp2_with fail
  refine (num_any a _ ha).mono ?_
  rintro e w' ⟨rfl, rfl⟩
  go_wp2_with fail
  refine (num_any b _ hb).mono ?_
  rintro e w' ⟨rfl, rfl⟩
  go_wp2_with fail
  refine h3.mono ?_
  rintro e w' ⟨rfl, rfl⟩
  go_wp2
  go_ret
  exact ⟨rfl, rfl⟩

/-! ### math/bits.Mul64: as the library's own text is walked on the shelf -/
namespace M64
theorem maskN (a : Nat) (ha : a < 18446744073709551616) : bits .and .u64 (a : Int) 4294967295 = ((a % 4294967296 : Nat) : Int) := by
  have h := bits_and_u64_nat a 4294967295 ha (by omega)
  have e : a &&& 4294967295 = a % 4294967296 := Nat.and_two_pow_sub_one_eq_mod a 32
  rw [e] at h
  exact h
theorem divN (a : Nat) : (a : Int) / 4294967296 = ((a / 4294967296 : Nat) : Int) := by omega
theorem mulN (a b : Nat) : (a : Int) * (b : Int) = ((a * b : Nat) : Int) := (Int.natCast_mul a b).symm
theorem addN (a b : Nat) : (a : Int) + (b : Int) = ((a + b : Nat) : Int) := (Int.natCast_add a b).symm
theorem wrapN (a : Nat) (ha : a < 18446744073709551616) : IntKind.u64.wrap (a : Int) = (a : Int) := by rw [IntKind.wrap_u64]; omega
theorem wrapM (a : Nat) : IntKind.u64.wrap (a : Int) = ((a % 18446744073709551616 : Nat) : Int) := by rw [IntKind.wrap_u64]; omega
end M64

set_option maxHeartbeats 1000000 in
theorem mul64_any (x y : Nat) (hx : x < 18446744073709551616) (hy : y < 18446744073709551616) (w : World) :
    Calls Tryz.prog 166 #[.int .u64 x, .int .u64 y] w fun e w' => e = .returned (.tuple #[.int .u64 ((x * y / 18446744073709551616 : Nat) : Int), .int .u64 ((x * y % 18446744073709551616 : Nat) : Int)]) ∧ w = w' := by
  obtain ⟨bd, bt, bw, hhi⟩ := Lib.mul64_hi x y hx hy
  have ba := Lib.half_mul_le (a := x / 4294967296) (b := y / 4294967296) (by omega) (by omega)
  have bb := Lib.half_mul_le (a := x / 4294967296) (b := y % 4294967296) (by omega) (by omega)
  have bc := Lib.half_mul_le (a := x % 4294967296) (b := y / 4294967296) (by omega) (by omega)
  have ba' : x / 4294967296 * (y / 4294967296) < 18446744073709551616 := by omega
  have bb' : x / 4294967296 * (y % 4294967296) < 18446744073709551616 := by omega
  have bc' : x % 4294967296 * (y / 4294967296) < 18446744073709551616 := by omega
  have bh1 : x / 4294967296 * (y / 4294967296) + (x / 4294967296 * (y % 4294967296) + x % 4294967296 * (y % 4294967296) / 4294967296) / 4294967296 < 18446744073709551616 := by omega
  have bh : x / 4294967296 * (y / 4294967296) + (x / 4294967296 * (y % 4294967296) + x % 4294967296 * (y % 4294967296) / 4294967296) / 4294967296 + ((x / 4294967296 * (y % 4294967296) + x % 4294967296 * (y % 4294967296) / 4294967296) % 4294967296 + x % 4294967296 * (y / 4294967296)) / 4294967296 < 18446744073709551616 := by omega
  go_enter Tryz.func166, Tryz.ntmps166
  go_wp2
  simp only [M64.maskN x hx, M64.maskN y hy, M64.divN, M64.mulN, M64.addN, M64.wrapN _ bd, M64.wrapN _ bb', M64.wrapN _ bt, M64.maskN _ bt, M64.wrapN _ bc', M64.wrapN _ bw, M64.wrapN _ ba', M64.wrapN _ bh1, M64.wrapN _ bh, M64.wrapM (x * y)]
  rw [hhi]
  go_ret2
  exact ⟨rfl, rfl⟩

/-- The product in two words, put together at bit 61. -/
theorem join61 (z : Nat) (hz : z < 5316911983139663491615228241121378304) :
    bits .or .u64 (IntKind.u64.wrap (((z / 18446744073709551616 : Nat) : Int) * 8)) (((z % 18446744073709551616 : Nat) : Int) / 2305843009213693952) = ((z / 2305843009213693952 : Nat) : Int) := by
  have h1 : IntKind.u64.wrap (((z / 18446744073709551616 : Nat) : Int) * 8) = ((z / 18446744073709551616 * 8 : Nat) : Int) := by
    rw [IntKind.wrap_u64]; omega
  have h2 : ((z % 18446744073709551616 : Nat) : Int) / 2305843009213693952 = ((z % 18446744073709551616 / 2305843009213693952 : Nat) : Int) := by omega
  rw [h1, h2, bits_or_u64_nat _ _ (by omega) (by omega)]
  have h3 : z / 18446744073709551616 * 8 ||| z % 18446744073709551616 / 2305843009213693952 = z / 18446744073709551616 * 8 + z % 18446744073709551616 / 2305843009213693952 := by
    have := Nat.shiftLeft_add_eq_or_of_lt (b := z % 18446744073709551616 / 2305843009213693952) (i := 3) (by omega) (z / 18446744073709551616)
    rw [Nat.shiftLeft_eq] at this
    exact this.symm
  rw [h3]
  omega

theorem Fld.mul_fold (z : Nat) : Fld.num (z % 2305843009213693952 + z / 2305843009213693952) = z % Fld.P := by
  show (z % 2305843009213693952 + z / 2305843009213693952) % 2305843009213693951 = z % 2305843009213693951
  omega

set_option maxHeartbeats 400000 in
theorem mul_any (a b : Nat) (w : World) (ha : a < 18446744073709551616) (hb : b < 18446744073709551616) :
    Calls Tryz.prog 71 #[.int .u64 a, .int .u64 b] w fun e w' => e = .returned (.int .u64 (Fld.mul a b : Nat)) ∧ w = w' := by
  have h1 := Fld.num_lt a
  have h2 := Fld.num_lt b
  have hz : Fld.num a * Fld.num b < 5316911983139663491615228241121378304 := by
    refine Nat.lt_of_le_of_lt (Nat.mul_le_mul (Nat.le_of_lt h1) (Nat.le_of_lt h2)) (by omega)
  have c1 := num_any a w ha
  have c2 := num_any b w hb
  have c3 := mul64_any (Fld.num a) (Fld.num b) (by omega) (by omega) w
  have hmul : Fld.mul a b = Fld.num a * Fld.num b % Fld.P := (Fld.mul_num a b).symm
  rw [hmul]
  generalize Fld.num a * Fld.num b = z at *
  have hfold := Fld.mul_fold z
  obtain ⟨p, hp⟩ : ∃ p : Nat, p = z % 2305843009213693952 := ⟨_, rfl⟩
  obtain ⟨q, hq⟩ : ∃ q : Nat, q = z / 2305843009213693952 := ⟨_, rfl⟩
  have hpl : p < 2305843009213693952 := by omega
  have hql : q < 2305843009213693952 := by omega
  have c4 := num_any (p + q) w (by omega)
  rw [← hp, ← hq] at hfold
  rw [hfold, Int.natCast_add] at c4
  have hm : bits .and .u64 ((z % 18446744073709551616 : Nat) : Int) 2305843009213693951 = (p : Int) := by
    rw [mask61 _ (by omega)]; omega
  have hj := join61 z hz
  rw [← hq] at hj
  obtain ⟨u, hu⟩ : ∃ u : Nat, u = z / 18446744073709551616 := ⟨_, rfl⟩
  obtain ⟨v, hv⟩ : ∃ v : Nat, v = z % 18446744073709551616 := ⟨_, rfl⟩
  rw [← hu, ← hv] at c3 hj
  rw [← hv] at hm
  clear hp hq hfold hu hv h1 h2 hmul hz
  go_enter Tryz.func71, Tryz.ntmps71
  go_wp2_with fail
  refine c1.mono ?_
  rintro e w' ⟨rfl, rfl⟩
  go_wp2_with fail
  refine c2.mono ?_
  rintro e w' ⟨rfl, rfl⟩
  go_wp2_with fail
  refine c3.mono ?_
  rintro e w' ⟨rfl, rfl⟩
  go_wp2_with fail
  refine c4.mono ?_
  rintro e w' ⟨rfl, rfl⟩
  go_wp2
  go_ret
  exact ⟨rfl, rfl⟩

end Go.Proofs.YtkicjjcangkneaaGreatDoor

/-
  The sums of chapter 2 as plain functions on lists of numbers and bytes: words, the state, Of, Bytes, Secret, Stream; one word that is another one modulo 2^61 - 1 makes another sum (17 has an inverse modulo 2^61 - 2). No condition.
-/
namespace Go.Proofs.YtkicjjcangkneaaGreatDoor

namespace Fld
/-! ### powers by 17, products by 37 and sums turn back -/
theorem pow17_back (a d : Nat) (hd : 17 * d = 1 + N * 13) : (a ^ 17) ^ d % P = a % P := by
  rw [← Nat.pow_mul, hd, Nat.pow_add, Nat.pow_one, Nat.pow_mul]
  by_cases h : a % P = 0
  · rw [Nat.mul_mod, h, Nat.zero_mul]
    rfl
  · rw [Nat.mul_mod, Nat.pow_mod, fermat a h, Nat.one_pow, show 1 % P = 1 from rfl, Nat.mul_one, Nat.mod_mod]
theorem pow17_inj (a b : Nat) (h : a ^ 17 % P = b ^ 17 % P) : a % P = b % P := by
  obtain ⟨d, hd⟩ : ∃ d : Nat, 17 * d = 1 + N * 13 := ⟨1763291712928118903, by decide +kernel⟩
  rw [← pow17_back a d hd, ← pow17_back b d hd, Nat.pow_mod, h, ← Nat.pow_mod]
theorem mul37_back (a c : Nat) (hc : c * 37 % P = 1) : c * (37 * a) % P = a % P := by
  rw [← Nat.mul_assoc, Nat.mul_mod, hc, Nat.one_mul, Nat.mod_mod]
theorem mul37_inj (a b : Nat) (h : 37 * a % P = 37 * b % P) : a % P = b % P := by
  obtain ⟨c, hc⟩ : ∃ c : Nat, c * 37 % P = 1 := ⟨2181202846553494278, by decide +kernel⟩
  rw [← mul37_back a c hc, ← mul37_back b c hc, Nat.mul_mod, h, ← Nat.mul_mod]
theorem sum_inj (a b c : Nat) (h : (a + c) % P = (b + c) % P) : a % P = b % P := by
  rw [P_val] at h ⊢
  omega
end Fld

namespace Hsh
open Fld (P)
/-- A word x is taken in as the k-th one. -/
def step (s k x : Nat) : Nat := Fld.pow (Fld.add (Fld.mul 37 s) (Fld.add x k)) 17
/-- Words are taken in, counted from k on. -/
def fold (s k : Nat) : List Nat → Nat
  | [] => s
  | x :: l => fold (step s k x) (k + 1) l
theorem step_lt (s k x : Nat) : step s k x < 2305843009213693951 := Fld.pow_lt _ _
theorem fold_app : ∀ (l l' : List Nat) (s k : Nat), fold s k (l ++ l') = fold (fold s k l) (k + l.length) l'
  | [], _, _, _ => rfl
  | x :: l, l', s, k => by
    rw [List.cons_append, fold, fold_app l l', List.length_cons, show k + 1 + l.length = k + (l.length + 1) by omega]
    rfl
theorem fold_snoc (l : List Nat) (x s k : Nat) : fold s k (l ++ [x]) = step (fold s k l) (k + l.length) x := by
  rw [fold_app]; rfl
theorem fold_lt (s k : Nat) (l : List Nat) (h : s < 18446744073709551616) : fold s k l < 18446744073709551616 := by
  induction l generalizing s k with
  | nil => exact h
  | cons x l ih => exact ih _ _ (Nat.lt_trans (step_lt _ _ _) (by omega))
theorem fold_pos_lt (l : List Nat) : ∀ s k x : Nat, fold s k (x :: l) < 2305843009213693951 := by
  induction l with
  | nil => exact fun s k x => step_lt s k x
  | cons y l ih =>
    intro s k x
    have e : fold s k (x :: y :: l) = fold (step s k x) (k + 1) (y :: l) := rfl
    rw [e]
    exact ih (step s k x) (k + 1) y

theorem step_val (s k x : Nat) : step s k x = (37 * s + (x + k)) ^ 17 % P := by
  have e1 : Fld.add (Fld.mul 37 s) (Fld.add x k) = (37 * s + (x + k)) % P := (Nat.add_mod (37 * s) (x + k) P).symm
  unfold step
  rw [e1]
  generalize 37 * s + (x + k) = z
  exact (Nat.pow_mod z 17 P).symm
theorem step_mod (s k x y : Nat) (h : x % P = y % P) : step s k x = step s k y := by
  have h1 : Fld.add x k = Fld.add y k := by
    show (x + k) % P = (y + k) % P
    rw [Nat.add_mod, h, ← Nat.add_mod]
  unfold step
  rw [h1]
theorem step_word (s k x y : Nat) (h : step s k x = step s k y) : x % P = y % P := by
  rw [step_val, step_val] at h
  have h1 := Fld.pow17_inj _ _ h
  exact Fld.sum_inj x y (37 * s + k) (by rw [show x + (37 * s + k) = 37 * s + (x + k) by omega, show y + (37 * s + k) = 37 * s + (y + k) by omega]; exact h1)
theorem step_state (s t k x : Nat) (h : step s k x = step t k x) : s % P = t % P := by
  rw [step_val, step_val] at h
  have h1 := Fld.sum_inj _ _ _ (Fld.pow17_inj _ _ h)
  exact Fld.mul37_inj _ _ h1
theorem fold_state (l : List Nat) : ∀ (s t k : Nat), fold s k l % P = fold t k l % P → s % P = t % P := by
  induction l with
  | nil => exact fun s t k h => h
  | cons x l ih =>
    intro s t k h
    have h1 := ih _ _ _ h
    have h2 : ∀ a : Nat, step a k x % P = step a k x := fun a => Nat.mod_eq_of_lt (step_lt a k x)
    rw [h2, h2] at h1
    exact step_state s t k x h1

/-- Rows of one length that are alike but at one place: their sums are alike just if they are alike there, modulo the prime. -/
theorem one_tells (s k : Nat) (a b : List Nat) (x y : Nat) : fold s k (a ++ x :: b) = fold s k (a ++ y :: b) ↔ x % P = y % P := by
  rw [fold_app, fold_app]
  constructor
  · intro h
    have h1 : fold (step (fold s k a) (k + a.length) x) (k + a.length + 1) b = fold (step (fold s k a) (k + a.length) y) (k + a.length + 1) b := h
    have h2 := fold_state b _ _ _ (congrArg (· % P) h1)
    have h3 : ∀ z : Nat, step (fold s k a) (k + a.length) z % P = step (fold s k a) (k + a.length) z := fun z => Nat.mod_eq_of_lt (step_lt _ _ z)
    rw [h3, h3] at h2
    exact step_word _ _ _ _ h2
  · intro h
    show fold (step _ _ x) _ b = fold (step _ _ y) _ b
    rw [step_mod _ _ _ _ h]
theorem fold_mod (l l' : List Nat) (h : l.map (· % P) = l'.map (· % P)) : ∀ s k, fold s k l = fold s k l' := by
  induction l generalizing l' with
  | nil =>
    intro s k
    cases l' with
    | nil => rfl
    | cons y l' => simp at h
  | cons x l ih =>
    intro s k
    cases l' with
    | nil => simp at h
    | cons y l' =>
      simp only [List.map_cons, List.cons.injEq] at h
      show fold (step s k x) _ l = fold (step s k y) _ l'
      rw [step_mod _ _ _ _ h.1]
      exact ih _ h.2 _ _

/-! ### words of bytes -/
/-- A few bytes as a number, the first the least. -/
def le : List UInt8 → Nat
  | [] => 0
  | b :: l => b.toNat + 256 * le l
theorem le_lt : ∀ l : List UInt8, le l < 256 ^ l.length
  | [] => by simp [le]
  | b :: l => by
    have h := le_lt l
    have hb := b.toNat_lt
    rw [List.length_cons, Nat.pow_succ]
    show b.toNat + 256 * le l < _
    omega
theorem le_snoc : ∀ (l : List UInt8) (b : UInt8), le (l ++ [b]) = le l + 256 ^ l.length * b.toNat
  | [], b => by simp [le]
  | c :: l, b => by
    rw [List.cons_append, le, le_snoc l b, le, List.length_cons, Nat.pow_succ, Nat.mul_add, Nat.mul_comm (256 ^ l.length) 256, Nat.mul_assoc]
    omega
theorem le_inj : ∀ (l l' : List UInt8), l.length = l'.length → le l = le l' → l = l'
  | [], [], _, _ => rfl
  | [], c :: l', h, _ => by simp at h
  | b :: l, [], h, _ => by simp at h
  | b :: l, c :: l', h, e => by
    have hb := b.toNat_lt
    have hc := c.toNat_lt
    have e' : b.toNat + 256 * le l = c.toNat + 256 * le l' := e
    have h1 : b.toNat = c.toNat := by omega
    have h2 : le l = le l' := by omega
    rw [le_inj l l' (by simpa using h) h2, UInt8.toNat_inj.1 h1]
def sevens (n : Nat) : Nat := (n + 6) / 7
def chunk (l : List UInt8) (k : Nat) : List UInt8 := (l.drop (7 * k)).take 7
def word (l : List UInt8) (k : Nat) : Nat := le (chunk l k)
theorem chunk_len (l : List UInt8) (k : Nat) : (chunk l k).length = min 7 (l.length - 7 * k) := by
  simp [chunk]
theorem word_lt (l : List UInt8) (k : Nat) : word l k < 72057594037927936 := by
  have h := le_lt (chunk l k)
  have h1 := chunk_len l k
  have h2 : (256 : Nat) ^ (chunk l k).length ≤ 256 ^ 7 := Nat.pow_le_pow_right (by omega) (by omega)
  have h3 : (256 : Nat) ^ 7 = 72057594037927936 := by decide
  unfold word
  omega
def upto (l : List UInt8) (k : Nat) : List Nat := (List.range k).map (word l)
def words (l : List UInt8) : List Nat := upto l (sevens l.length)
theorem upto_succ (l : List UInt8) (k : Nat) : upto l (k + 1) = upto l k ++ [word l k] := by
  simp [upto, List.range_succ]
theorem upto_len (l : List UInt8) (k : Nat) : (upto l k).length = k := by simp [upto]
theorem words_len (l : List UInt8) : (words l).length = sevens l.length := upto_len _ _
theorem words_lt (l : List UInt8) : ∀ x ∈ words l, x < 72057594037927936 := by
  intro x hx
  simp only [words, upto, List.mem_map] at hx
  obtain ⟨k, _, rfl⟩ := hx
  exact word_lt l k
theorem words_nil : words [] = [] := rfl

/-! ### the functions of the chapter -/
def all (label : List UInt8) (l : List Nat) : List Nat := words label ++ l.length :: (l ++ [0])
def of (label : List UInt8) (l : List Nat) : Nat := fold label.length 1 (all label l)
def bytes (label b : List UInt8) : Nat := of label (words b ++ [b.length])
def secret (label : List UInt8) (l : List Nat) : Nat := 1 + of label l % 2305843009213693949
theorem of_lt (label : List UInt8) (l : List Nat) : of label l < 2305843009213693951 := by
  unfold of all
  rw [← List.cons_append, ← List.append_assoc, fold_app]
  exact fold_pos_lt [] _ _ _
theorem secret_range (label : List UInt8) (l : List Nat) : 1 ≤ secret label l ∧ secret label l ≤ 2305843009213693949 := by
  have h : of label l % 2305843009213693949 < 2305843009213693949 := Nat.mod_lt _ (by omega)
  unfold secret
  omega
theorem of_mod (label : List UInt8) (l l' : List Nat) (h : l.map (· % P) = l'.map (· % P)) : of label l = of label l' := by
  have hl : l.length = l'.length := by simpa using congrArg List.length h
  refine fold_mod _ _ ?_ _ _
  simp only [all, List.map_append, List.map_cons, h, hl]
theorem of_one (label : List UInt8) (a b : List Nat) (x y : Nat) : of label (a ++ x :: b) = of label (a ++ y :: b) ↔ x % P = y % P := by
  have e : ∀ z : Nat, all label (a ++ z :: b) = (words label ++ (a ++ x :: b).length :: a) ++ z :: (b ++ [0]) := by
    intro z
    simp [all]
  unfold of
  rw [e x, e y]
  exact one_tells _ _ _ _ _ _

/-- The k-th word of a stream, and its i-th byte. -/
def streamLabel : List UInt8 := [115, 116, 114, 101, 97, 109]
def streamWord (key k : Nat) : Nat := of streamLabel [key, k]
def byteOf (x i : Nat) : Nat := x / 256 ^ i % 256
def streamByte (key i : Nat) : Nat := byteOf (streamWord key (i / 7)) (i % 7)
def streamU (key i : Nat) : UInt8 := UInt8.ofNat (streamByte key i)
def stream (key n : Nat) : List UInt8 := (List.range n).map (streamU key)
theorem byteOf_lt (x i : Nat) : byteOf x i < 256 := Nat.mod_lt _ (by omega)
theorem streamU_val (key i : Nat) : (streamU key i).toNat = streamByte key i := by
  have h : streamByte key i < 256 := byteOf_lt _ _
  unfold streamU
  rw [UInt8.toNat_ofNat']
  omega
theorem streamWord_lt (key k : Nat) : streamWord key k < 2305843009213693951 := of_lt _ _
theorem stream_len (key n : Nat) : (stream key n).length = n := by simp [stream]
theorem stream_succ (key n : Nat) : stream key (n + 1) = stream key n ++ [streamU key n] := by simp [stream, List.range_succ]
end Hsh

end Go.Proofs.YtkicjjcangkneaaGreatDoor

/-
  Package field's Pow, a range over a function of the exponent's bits, answers the power modulo 2^61 - 1, and leaves the memory that was there as it was: for all numbers of 64 bits, no other condition.
-/
namespace Go.Proofs.YtkicjjcangkneaaGreatDoor
open Go.RowKit Go.Shelf
attribute [local go_sem] Oper.semAt_some

namespace Fld
/-- The bits of a number, the least first, up to the last that is 1 (the first number: as many rounds as there may be). -/
def bitsIn : Nat → Nat → List Bool
  | 0, _ => []
  | f + 1, n => if n = 0 then [] else decide (n % 2 = 1) :: bitsIn f (n / 2)
def bits (n : Nat) : List Bool := bitsIn n n
theorem bitsIn_any : ∀ (f g n : Nat), n ≤ f → n ≤ g → bitsIn f n = bitsIn g n
  | 0, 0, _, _, _ => rfl
  | 0, g + 1, n, h, _ => by
    obtain rfl : n = 0 := by omega
    simp [bitsIn]
  | f + 1, 0, n, _, h => by
    obtain rfl : n = 0 := by omega
    simp [bitsIn]
  | f + 1, g + 1, n, h, k => by
    by_cases h0 : n = 0
    · simp [bitsIn, h0]
    · simp only [bitsIn, h0, if_false]
      rw [bitsIn_any f g (n / 2) (by omega) (by omega)]
theorem bits_zero : bits 0 = [] := rfl
theorem bits_pos (n : Nat) (h : n ≠ 0) : bits n = decide (n % 2 = 1) :: bits (n / 2) := by
  obtain ⟨m, rfl⟩ := Nat.exists_eq_succ_of_ne_zero h
  show (if m.succ = 0 then [] else decide (m.succ % 2 = 1) :: bitsIn m (m.succ / 2)) = _
  rw [if_neg h, bitsIn_any m (m.succ / 2) _ (by omega) (Nat.le_refl _)]
  rfl

/-- One round: power and square. -/
def step (s : Nat × Nat) (x : Bool) : Nat × Nat := (if x then mul s.1 s.2 else s.1, mul s.2 s.2)
def run (a : Nat) (pre : List Bool) : Nat × Nat := pre.foldl step (1, num a)
theorem run_snoc (a : Nat) (pre : List Bool) (x : Bool) : run a (pre ++ [x]) = step (run a pre) x := by simp [run]

theorem half_pow (b k : Nat) : mul b b ^ (k / 2) % P = b ^ (k / 2 * 2) % P := by
  show (b * b % P) ^ (k / 2) % P = _
  rw [← Nat.pow_mod, Nat.mul_comm (k / 2) 2, Nat.pow_mul, Nat.pow_two]

theorem step_even (o b k : Nat) (h : k % 2 = 0) : o * mul b b ^ (k / 2) % P = o * b ^ k % P := by
  rw [Nat.mul_mod, half_pow, ← Nat.mul_mod, show k / 2 * 2 = k by omega]
theorem step_odd (o b k : Nat) (h : k % 2 = 1) : mul o b * mul b b ^ (k / 2) % P = o * b ^ k % P := by
  rw [Nat.mul_mod, half_pow, ← Nat.mul_mod]
  show o * b % P * b ^ (k / 2 * 2) % P = _
  rw [Nat.mul_mod, Nat.mod_mod, ← Nat.mul_mod, Nat.mul_assoc, show k = k / 2 * 2 + 1 by omega, Nat.pow_succ, Nat.mul_comm b]
  rw [show (k / 2 * 2 + 1) / 2 = k / 2 by omega]

theorem fold_bits : ∀ (f k : Nat) (o b : Nat), k < f → ((bits k).foldl step (o, b)).1 % P = o * b ^ k % P
  | 0, k, _, _, h => absurd h (Nat.not_lt_zero k)
  | f + 1, k, o, b, h => by
    by_cases h0 : k = 0
    · subst h0; rw [bits_zero]; simp
    · rw [bits_pos k h0, List.foldl_cons]
      by_cases h1 : k % 2 = 1
      · simp only [step, h1, decide_true, if_true]
        rw [fold_bits f (k / 2) _ _ (by omega)]
        exact step_odd o b k h1
      · have h2 : k % 2 = 0 := by omega
        simp only [step, h2, show decide ((0 : Nat) = 1) = false from rfl, Bool.false_eq_true, if_false]
        rw [fold_bits f (k / 2) _ _ (by omega)]
        exact step_even o b k h2

theorem run_lt (a : Nat) (pre : List Bool) : (run a pre).1 < 2305843009213693951 ∧ (run a pre).2 < 2305843009213693951 := by
  have key : ∀ (l : List Bool) (s : Nat × Nat), s.1 < 2305843009213693951 ∧ s.2 < 2305843009213693951 → (l.foldl step s).1 < 2305843009213693951 ∧ (l.foldl step s).2 < 2305843009213693951 := by
    intro l
    induction l with
    | nil => intro s h; exact h
    | cons x l ih =>
      intro s h
      refine ih _ ⟨?_, mul_lt _ _⟩
      show (if x then mul s.1 s.2 else s.1) < _
      cases x
      · exact h.1
      · exact mul_lt _ _
  exact key pre _ ⟨show 1 < 2305843009213693951 by omega, num_lt _⟩

theorem run_bits (a n : Nat) : (run a (bits n)).1 = pow a n := by
  have h := fold_bits (n + 1) n 1 (num a) (Nat.lt_succ_self n)
  have hl := (run_lt a (bits n)).1
  have e : (run a (bits n)).1 % P = (run a (bits n)).1 := Nat.mod_eq_of_lt hl
  rw [← e]
  refine h.trans ?_
  show 1 * (a % P) ^ n % P = a ^ n % P
  rw [Nat.one_mul, ← Nat.pow_mod]

theorem bits_len : ∀ (f n : Nat), n < 2 ^ f → (bits n).length ≤ f
  | 0, n, h => by
    have : n = 0 := by simpa using h
    subst this; rw [bits_zero]; exact Nat.le_refl _
  | f + 1, n, h => by
    by_cases h0 : n = 0
    · subst h0; rw [bits_zero]; exact Nat.zero_le _
    · rw [bits_pos n h0, List.length_cons]
      have := bits_len f (n / 2) (by rw [Nat.pow_succ] at h; omega)
      omega
end Fld

theorem cell_of_box_l {W : World} {B : Nat} {v : Value} {t : TypeId} (h : W.heap[B]? = some (.cells #[v] t (0, 0))) : W.cell? ⟨B, 0, none⟩ = some v ∧ W.frozen? ⟨B, 0, none⟩ = false := by
  constructor <;> simp [World.cell?, World.frozen?, h]
theorem cell_new_l (W : World) (v : Value) (t : TypeId) : (W.alloc (.cells #[v] t)).cell? ⟨W.heap.size, 0, none⟩ = some v ∧ (W.alloc (.cells #[v] t)).frozen? ⟨W.heap.size, 0, none⟩ = false :=
  cell_of_box_l (World.alloc_heap_new W _)
theorem cell_alloc_l {W : World} {a : Addr} {v : Value} (o : Obj) (h : W.cell? a = some v) : (W.alloc o).cell? a = some v := cell_kept h (World.grownBy_alloc W o none) (fun r e => by cases e)
theorem frozen_alloc_l {W : World} {a : Addr} {v : Value} (o : Obj) (h : W.cell? a = some v) (hf : W.frozen? a = false) : (W.alloc o).frozen? a = false := (frozen_kept h (World.grownBy_alloc W o none) (fun r e => by cases e)).trans hf

theorem cell_other (W : World) {A B : Nat} (u : Value) (h : A ≠ B) : (W.setCell ⟨B, 0, none⟩ u).cell? ⟨A, 0, none⟩ = W.cell? ⟨A, 0, none⟩ :=
  World.cell?_of_block (Below.heap_setCell W ⟨B, 0, none⟩ u A h)

set_option maxHeartbeats 1000000 in
theorem bitsOf_in (F : Fence) (n : Nat) (hF : F.fn 222) (hro : F.round = none) (v : Nat) (w : World) :
    CallsIn F n Tryz.prog 222 #[.int .u64 v] w fun e w' => e = .returned (.func (.func 224) #[] #[.pointer (some ⟨w.heap.size, 0, none⟩)]) ∧ w' = w.alloc (.cells #[.int .u64 v] 25) := by
  refine callsIn_of_wp Tryz.func222 rfl hF ?_ hro
  simp only [Tryz.ntmps222, List.size_toArray, List.length_cons, List.length_nil, Nat.reduceAdd, Nat.reduceSub, Array.replicate_succ, Array.replicate_zero, List.push_toArray, List.append_toArray, List.nil_append, List.cons_append]
  gi_wp2
  go_ret
  exact ⟨rfl, rfl⟩

set_option maxRecDepth 100000 in
set_option maxHeartbeats 1000000 in
/-- The iterator over the bits of v: for every loop body that keeps what lay below n₀. -/
theorem bits1_in (F : Fence) (n : Nat) (hF : F.fn 224) (hro : F.round = none) (hn : 1 ≤ n) (l Bn n₀ : Nat) (v : Nat) (hv : v < 18446744073709551616) (J Jx : List Bool → World → Prop)
    (hY : ∀ pre x W, J pre W → pre.length < 64 → YieldAt F (n - 1) Tryz.prog l #[.bool x] W fun e W' =>
      (e = .returned (.bool true) ∧ J (pre ++ [x]) W' ∧ Below n₀ W W') ∨ (e = .returned (.bool false) ∧ Jx (pre ++ [x]) W'))
    (W : World) (hBn : W.cell? ⟨Bn, 0, none⟩ = some (.int .u64 v)) (h0 : J [] W) :
    CallsIn F n Tryz.prog 224 #[.func (.yield l) #[] #[], .pointer (some ⟨Bn, 0, none⟩)] W fun e W' => (∃ r, e = .returned r) ∧
      ((∃ ys, ys = Fld.bits v ∧ J ys W') ∨ (∃ pre, True ∧ Jx pre W')) := by
  refine callsIn_of_wp Tryz.func224 rfl hF ?_ hro
  simp only [Tryz.ntmps224, List.size_toArray, List.length_cons, List.length_nil, Nat.reduceAdd, Nat.reduceSub, Array.replicate_succ, Array.replicate_zero, List.push_toArray, List.append_toArray, List.nil_append, List.cons_append]
  gi_wp2
  gi_loopw [3] (fun p wr => ∃ (pre : List Bool) (k : Nat), p = .int .u64 k ∧ k < 18446744073709551616 ∧ Fld.bits v = pre ++ Fld.bits k ∧ J pre wr)
    (fun p _ => (intOf p).toNat)
  case atStart =>
    exact ⟨[], v, rfl, hv, rfl, h0⟩
  case round =>
    obtain ⟨pre, k, rfl, hk, hx, hJs⟩ := hrel
    by_cases hz : k = 0
    · subst hz
      rw [Fld.bits_zero, List.append_nil] at hx
      gi_wp2
      go_end0
      exact ⟨⟨_, rfl⟩, .inl ⟨pre, hx.symm, hJs⟩⟩
    · have hpos : 0 < k := Nat.pos_of_ne_zero hz
      have hlen : pre.length < 64 := by
        have h1 := Fld.bits_len 64 v (by omega)
        rw [hx, Fld.bits_pos k hz] at h1
        simp at h1
        omega
      have hbits := Fld.bits_pos k hz
      obtain ⟨x, hxd⟩ : ∃ x : Bool, x = decide (k % 2 = 1) := ⟨_, rfl⟩
      rw [← hxd] at hbits
      have hb : (Go.bits .and .u64 (k : Int) 1 == 1) = x := by
        have h1 := bits_and_u64_nat k 1 hk (by omega)
        rw [Nat.and_one_is_mod] at h1
        rw [hxd, Bool.eq_iff_iff, beq_iff_eq, decide_eq_true_iff]
        rw [show ((1 : Nat) : Int) = 1 from rfl] at h1
        rw [h1]
        omega
      have hdv : (k : Int) / 2 = ((k / 2 : Nat) : Int) := by omega
      obtain ⟨k2, hk2⟩ : ∃ k2 : Nat, k2 = k / 2 := ⟨_, rfl⟩
      rw [← hk2] at hdv hbits
      have hlt : k2 < k := by omega
      have HK := Lib.hid hk2
      have HB := Lib.hid hbits
      have HX := Lib.hid hx
      clear hxd hk2 hbits hx
      obtain ⟨fn, tmps, assign, body, hy, hR⟩ := hY pre x wr hJs hlen
      gi_wp2
      refine hR.mono ?_
      rintro e W3 (⟨rfl, hJ3, hk3⟩ | ⟨rfl, hJx3⟩)
      · gi_wp2
        go_roundw
        case rel => exact ⟨pre ++ [x], k2, rfl, by omega, by rw [HX.out, HB.out]; simp, hJ3⟩
        case measure => simp [intOf]; omega
      · gi_wp2
        refine bodyPost_ret (results_none rfl _ _ _) rfl ?_
        exact ⟨⟨_, rfl⟩, .inr ⟨pre ++ [x], trivial, hJx3⟩⟩

theorem bits_stops (F : Fence) (n : Nat) (hF : F.fn 224) (hro : F.round = none) (hn : 1 ≤ n) (Bn n₀ : Nat) (v : Nat) (hv : v < 18446744073709551616) (w : World) (hBn : Bn < w.heap.size)
    (hc : w.cell? ⟨Bn, 0, none⟩ = some (.int .u64 v)) :
    SeqStopsK F n Tryz.prog 224 #[.pointer (some ⟨Bn, 0, none⟩)] (fun x : Bool => #[Value.bool x]) (Below n₀) (fun ys => ys = Fld.bits v) (fun _ => True) 64 w := fun l J Jx W hW _ _ hY h0 =>
  bits1_in F n hF hro hn l Bn n₀ v hv J Jx hY W ((hW.cell (p := ⟨Bn, 0, none⟩) hBn).trans hc) h0

set_option maxRecDepth 100000 in
set_option maxHeartbeats 2000000 in
theorem pow_any (a v : Nat) (w : World) (ha : a < 18446744073709551616) (hv : v < 18446744073709551616) :
    Calls Tryz.prog 213 #[.int .u64 a, .int .u64 v] w fun e w' => e = .returned (.int .u64 (Fld.pow a v : Nat)) ∧ Below w.heap.size w w' := by
  refine (callsIn_wide (n := 3)).1 ?_
  refine callsIn_of_wp_marks Tryz.func213 rfl trivial ?_ rfl
  simp only [Tryz.ntmps213, List.size_toArray, List.length_cons, List.length_nil, Nat.reduceAdd, Nat.reduceSub, Array.replicate_succ, Array.replicate_zero, List.push_toArray, List.append_toArray, List.nil_append, List.cons_append]
  gi_wp2_with (first
    | (refine ⟨trivial, ?_⟩; gi_at_call 167; refine (callsIn_wide.2 (num_any a _ ha)).mono ?_; rintro e w' ⟨rfl, rfl⟩)
    | (refine ⟨trivial, ?_⟩; gi_at_call 222; refine (bitsOf_in Fence.wide (3 - 1) trivial rfl _ _).mono ?_; rintro e w' ⟨rfl, rfl⟩))
  have hp := cell_new_l w (.int .u64 1) 25
  have hs := cell_new_l (w.alloc (.cells #[.int .u64 1] 25)) (.int .u64 (Fld.num a : Nat)) 25
  have hb := cell_new_l ((w.alloc (.cells #[.int .u64 1] 25)).alloc (.cells #[.int .u64 (Fld.num a : Nat)] 25)) (.int .u64 v) 25
  simp only [World.size_alloc] at hs hb
  have hB0 : Below w.heap.size w (((w.alloc (.cells #[.int .u64 1] 25)).alloc (.cells #[.int .u64 (Fld.num a : Nat)] 25)).alloc (.cells #[.int .u64 v] 25)) :=
    (((Below.refl _ w).alloc (Nat.le_refl _) _).alloc (by simp) _).alloc (by simp; omega) _
  refine wpIn_rangeFunc_ownF rfl (by omega) (gf := 224) (lb := #[.pointer (some ⟨w.heap.size + 1 + 1, 0, none⟩)]) rfl trivial (enters_of Tryz.func224 (by kernel_rfl) rfl)
    (bits_stops Fence.wide (3 - 1) trivial rfl (by omega) (w.heap.size + 1 + 1) w.heap.size v hv _ (by simp) hb.1) belowK_t (belowK_b (by simp; omega)) (Below.refl _ _) (fun _ => rfl)
    (fun pre W => (W.cell? ⟨w.heap.size, 0, none⟩ = some (.int .u64 ((Fld.run a pre).1 : Nat)) ∧ W.frozen? ⟨w.heap.size, 0, none⟩ = false ∧
      W.cell? ⟨w.heap.size + 1, 0, none⟩ = some (.int .u64 ((Fld.run a pre).2 : Nat)) ∧ W.frozen? ⟨w.heap.size + 1, 0, none⟩ = false) ∧ Below w.heap.size w W)
    (fun _ _ _ => False)
    (OwnFrom.and (Own.from (fun s A B row hs hg hr => ⟨cell_kept hs.1 hg hr, (frozen_kept hs.1 hg hr).trans hs.2.1, cell_kept hs.2.2.1 hg hr, (frozen_kept hs.2.2.1 hg hr).trans hs.2.2.2⟩) _) (ownFrom_below (Nat.le_refl _) (by simp; omega)))
    (fun _ _ _ _ _ hs _ _ => hs)
    ⟨⟨cell_alloc_l _ (cell_alloc_l _ hp.1), frozen_alloc_l _ (cell_alloc_l _ hp.1) (frozen_alloc_l _ hp.1 hp.2), cell_alloc_l _ hs.1, frozen_alloc_l _ hs.1 hs.2⟩, hB0⟩
    (fun x => { tmps := #[.int .u64 a, .int .u64 v, undef, undef, .int .u64 0, .pointer (some ⟨w.heap.size, 0, none⟩), .pointer (some ⟨w.heap.size + 1, 0, none⟩), .bool x, .int .u64 a,
      .int .u64 (Fld.num a : Nat), .int .u64 v, .func (.func 224) #[] #[.pointer (some ⟨w.heap.size + 1 + 1, 0, none⟩)], .bool x, undef, undef, undef, undef, undef, undef, undef, undef], defers := [] }) ?assign ?body ?done ?stop
  case assign =>
    intro l x W K hK
    gi_wp2
    exact hK
  case body =>
    rintro l pre x W ⟨⟨hc1, hf1, hc2, hf2⟩, hB⟩ _
    have hn := Fld.run_lt a pre
    have hsn := Lib.hid (Fld.run_snoc a pre x)
    obtain ⟨o, ho⟩ : ∃ o, o = (Fld.run a pre).1 := ⟨_, rfl⟩
    obtain ⟨b, hb2⟩ : ∃ b, b = (Fld.run a pre).2 := ⟨_, rfl⟩
    rw [← ho] at hc1 hn
    rw [← hb2] at hc2 hn
    obtain ⟨hn1, hn2⟩ := hn
    have HO := Lib.hid ho
    have HB := Lib.hid hb2
    clear ho hb2
    cases x with
    | false =>
      gi_wp2_with (refine ⟨trivial, ?_⟩; gi_at_call 71; refine (CallsIn.inRound l (callsIn_wide.2 (mul_any _ _ _ (by omega) (by omega)))).mono ?_; rintro e w' ⟨rfl, rfl⟩)
      have hr : Fld.run a (pre ++ [false]) = (o, Fld.mul b b) := by rw [hsn.out, HO.out, HB.out]; rfl
      refine ⟨KeepsOthers.setCell _ _ _, (Below.refl w.heap.size W).setCell (p := ⟨w.heap.size + 1, 0, none⟩) (Nat.le_succ _) _, ?_, hB.setCell (p := ⟨w.heap.size + 1, 0, none⟩) (Nat.le_succ _) _⟩
      rw [hr]
      exact ⟨(cell_other _ _ (by omega)).trans hc1, by rw [World.frozen?_setCell]; exact hf1, World.cell?_setCell_same' _ _ _ (by rw [hc2]; rfl), by rw [World.frozen?_setCell]; exact hf2⟩
    | true =>
      gi_wp2_with (refine ⟨trivial, ?_⟩; gi_at_call 71; refine (CallsIn.inRound l (callsIn_wide.2 (mul_any _ _ _ (by omega) (by omega)))).mono ?_; rintro e w' ⟨rfl, rfl⟩)
      have hr : Fld.run a (pre ++ [true]) = (Fld.mul o b, Fld.mul b b) := by rw [hsn.out, HO.out, HB.out]; rfl
      have hc1' := World.cell?_setCell_same' W ⟨w.heap.size, 0, none⟩ (.int .u64 (Fld.mul o b : Nat)) (by rw [hc1]; rfl)
      have hc2' : (W.setCell ⟨w.heap.size, 0, none⟩ (.int .u64 (Fld.mul o b : Nat))).cell? ⟨w.heap.size + 1, 0, none⟩ = some (.int .u64 b) := (cell_other _ _ (by omega)).trans hc2
      refine ⟨(KeepsOthers.setCell _ _ _).trans (KeepsOthers.setCell _ _ _), ((Below.refl w.heap.size W).setCell (p := ⟨w.heap.size, 0, none⟩) (Nat.le_refl _) _).setCell (p := ⟨w.heap.size + 1, 0, none⟩) (Nat.le_succ _) _, ?_, (hB.setCell (p := ⟨w.heap.size, 0, none⟩) (Nat.le_refl _) _).setCell (p := ⟨w.heap.size + 1, 0, none⟩) (Nat.le_succ _) _⟩
      rw [hr]
      exact ⟨(cell_other _ _ (by omega)).trans hc1', by rw [World.frozen?_setCell, World.frozen?_setCell]; exact hf1, World.cell?_setCell_same' _ _ _ (by rw [hc2']; rfl), by rw [World.frozen?_setCell, World.frozen?_setCell]; exact hf2⟩
  case done =>
    rintro D ys W hD rfl ⟨⟨hc, _⟩, hB⟩ hK
    gi_wp2
    refine ⟨by simp, .inl ⟨_, _, rfl, run_takeDeferred hK, ?_⟩⟩
    exact ⟨_, results_tmp rfl _ _ _, by rw [Fld.run_bits]; rfl, hB.trans (belowK_b (w := w) (Nat.le_refl _) W D _ _ (by simp at hD; omega) hK rfl rfl)⟩
  case stop =>
    rintro D c pre W _ _ h _
    exact h.elim

end Go.Proofs.YtkicjjcangkneaaGreatDoor

/-
  Package hash's method take: a word is taken into a state that lies in one block; nothing else that lay there turns. For all words and states of 64 bits.
-/
namespace Go.Proofs.YtkicjjcangkneaaGreatDoor
open Go.RowKit
attribute [local go_sem ↓] Go.wp_at_zero Go.wp_at_succ

/-- Block B is known whole: the cells cs of type t. -/
def Blk (w : World) (B t : Nat) (cs : Array Value) : Prop := w.heap[B]? = some (.cells cs t (0, 0))
theorem Blk.lt {w : World} {B t : Nat} {cs : Array Value} (h : Blk w B t cs) : B < w.heap.size := by
  rcases Nat.lt_or_ge B w.heap.size with h1 | h1
  · exact h1
  · unfold Blk at h; rw [Array.getElem?_eq_none h1] at h; cases h
theorem Blk.cell {w : World} {B t : Nat} {cs : Array Value} (h : Blk w B t cs) (i : Nat) : w.cell? ⟨B, i, none⟩ = cs[i]? := by
  unfold Blk at h; simp [World.cell?, h]
theorem Blk.frozen {w : World} {B t : Nat} {cs : Array Value} (h : Blk w B t cs) (i : Nat) : w.frozen? ⟨B, i, none⟩ = false := by
  unfold Blk at h; simp [World.frozen?, h]
theorem Blk.below {w w' : World} {n B t : Nat} {cs : Array Value} (h : Blk w B t cs) (hb : Below n w w') (hB : B < n) : Blk w' B t cs := (hb.block B hB).trans h
theorem Blk.set_ {w : World} {B t : Nat} {cs : Array Value} (h : Blk w B t cs) (i : Nat) (u : Value) : Blk (w.setCell ⟨B, i, none⟩ u) B t (cs.setIfInBounds i u) := by
  unfold Blk at h ⊢
  simp [World.setCell, Array.getElem?_modify, h]

theorem only_refl (w : World) (row : Option Nat) : w.grownBy w row := ⟨rfl, rfl, rfl, Nat.le_refl _, fun _ _ _ => rfl⟩
theorem only_set {a w : World} {g : Nat} (h : a.grownBy w (some g)) (i : Nat) (u : Value) : a.grownBy (w.setCell ⟨g, i, none⟩ u) (some g) :=
  ⟨h.os, h.tape, h.output, by simpa [World.setCell] using h.size, fun j hj hne => (Below.heap_setCell w ⟨g, i, none⟩ u j (fun e => hne (by rw [e]))).trans (h.block j hj hne)⟩
theorem only_below {a w w' : World} {row : Option Nat} (h : a.grownBy w row) (hb : Below w.heap.size w w') : a.grownBy w' row :=
  ⟨hb.os.trans h.os, hb.tape.trans h.tape, hb.output.trans h.output, Nat.le_trans h.size hb.size, fun j hj hne => (hb.block j (Nat.lt_of_lt_of_le hj h.size)).trans (h.block j hj hne)⟩
theorem only_drewN {a w : World} {row : Option Nat} (h : a.grownBy w row) (n : Nat) : a.grownBy (w.drewN n) row := ⟨h.os, h.tape, h.output, h.size, h.block⟩
theorem only_drew {a w : World} {row : Option Nat} (h : a.grownBy w row) : a.grownBy w.drew row := ⟨h.os, h.tape, h.output, h.size, h.block⟩
theorem below_of_drew {n : Nat} {w w' : World} (h : Below n w.drew w') : Below n w w' := ⟨h.os, h.tape, h.output, h.size, h.block⟩
theorem below_of_drewN {n k : Nat} {w w' : World} (h : Below n (w.drewN k) w') : Below n w w' := ⟨h.os, h.tape, h.output, h.size, h.block⟩
/-- What lies below n, if the one block that turns lies beyond it. -/
theorem below_only {a w : World} {n g : Nat} (h : a.grownBy w (some g)) (hn : n ≤ g) (ha : n ≤ a.heap.size) : Below n a w :=
  ⟨h.os, h.tape, h.output, h.size, fun j hj => h.block j (by omega) (fun e => by injection e with e; omega)⟩

set_option maxRecDepth 100000 in
set_option maxHeartbeats 1000000 in
theorem take_at (B s k m x : Nat) (w : World) (hB : Blk w B 192 #[.int .u64 s, .int .u64 k]) (hs : s < 18446744073709551616) (hm : m = k + 1) (hk : m < 18446744073709551616) (hx : x < 18446744073709551616) :
    Calls Tryz.prog 187 #[.pointer (some ⟨B, 0, none⟩), .int .u64 x] w fun e w' => (∃ r, e = .returned r) ∧
      Blk w' B 192 #[.int .u64 (Hsh.step s m x : Nat), .int .u64 (m : Nat)] ∧ w.grownBy w' (some B) := by
  have c0 : w.cell? ⟨B, 0, none⟩ = some (.int .u64 s) := hB.cell 0
  have c1 : w.cell? ⟨B, 1, none⟩ = some (.int .u64 k) := hB.cell 1
  have f1 : w.frozen? ⟨B, 1, none⟩ = false := hB.frozen 1
  have f0 : w.frozen? ⟨B, 0, none⟩ = false := hB.frozen 0
  have hmi : (k : Int) + 1 = (m : Int) := by omega
  have HB := Lib.hid hB
  have hk' : (k : Int) ≤ 18446744073709551614 := by omega
  clear hm hB
  go_enter Tryz.func187, Tryz.ntmps187
  go_wp2_with fail
  have hB := HB.out
  clear HB hmi
  have hB1 := hB.set_ 1 (.int .u64 (m : Int))
  have hg1 : w.grownBy (w.setCell ⟨B, 1, none⟩ (.int .u64 (m : Int))) (some B) := only_set (only_refl _ _) 1 _
  obtain ⟨w1, hw1⟩ : ∃ w1, w1 = w.setCell ⟨B, 1, none⟩ (.int .u64 (m : Int)) := ⟨_, rfl⟩
  rw [← hw1] at hB1 hg1 ⊢
  clear hw1 c0 c1 f0 f1 hB
  have hB2 : Blk w1 B 192 #[.int .u64 s, .int .u64 (m : Int)] := hB1
  have hlt : B < w1.heap.size := hB2.lt
  have c0 : w1.cell? ⟨B, 0, none⟩ = some (.int .u64 s) := hB2.cell 0
  have c1 : w1.cell? ⟨B, 1, none⟩ = some (.int .u64 (m : Int)) := hB2.cell 1
  have f0 : w1.frozen? ⟨B, 0, none⟩ = false := hB2.frozen 0
  clear hB1
  have a1 := Fld.mul_lt 37 s
  have a2 := Fld.add_lt x m
  have a3 := Fld.add_lt (Fld.mul 37 s) (Fld.add x m)
  have HB2 := Lib.hid hB2
  clear hB2
  go_region_with (first
    | (go_at_call 71; refine (mul_any 37 _ _ (by omega) (by omega)).mono ?_; rintro e w' ⟨rfl, rfl⟩)
    | (go_at_call 214; refine (add_any _ _ _ (by omega) (by omega)).mono ?_; rintro e w' ⟨rfl, rfl⟩)
    | (go_at_call 213; refine (pow_any _ 17 _ (by omega) (by omega)).mono ?_; rintro e w2 ⟨rfl, hb⟩; have d0 := (hb.cell (p := ⟨B, 0, none⟩) hlt).trans c0; have g0 := (hb.frozen (p := ⟨B, 0, none⟩) hlt).trans f0))
  all_goals go_wp2
  all_goals go_end0
  all_goals refine ⟨⟨_, rfl⟩, ?_, ?_⟩
  all_goals replace hb : Below w1.heap.size w1 w2 := below_of_drew hb
  all_goals first
    | exact ((Blk.below (n := w1.heap.size) HB2.out hb hlt).set_ 0 _)
    | exact only_set (only_below hg1 hb) 0 _

theorem take_any (B s k x : Nat) (w : World) (hB : Blk w B 192 #[.int .u64 s, .int .u64 k]) (hs : s < 18446744073709551616) (hk : k + 1 < 18446744073709551616) (hx : x < 18446744073709551616) :
    Calls Tryz.prog 187 #[.pointer (some ⟨B, 0, none⟩), .int .u64 x] w fun e w' => (∃ r, e = .returned r) ∧
      Blk w' B 192 #[.int .u64 (Hsh.step s (k + 1) x : Nat), .int .u64 ((k + 1 : Nat) : Int)] ∧ w.grownBy w' (some B) :=
  take_at B s k (k + 1) x w hB hs rfl hk hx

end Go.Proofs.YtkicjjcangkneaaGreatDoor

/-
  Package hash's word, of a string and of bytes: the number that a few bytes make, the first of them the least; the world is left as it was. For up to seven bytes.
-/
namespace Go.Proofs.YtkicjjcangkneaaGreatDoor
open Go.RowKit

theorem or_high (a b i : Nat) (ha : a < 2 ^ i) : a ||| (b * 2 ^ i) = a + 2 ^ i * b := by
  have h := Nat.two_pow_add_eq_or_of_lt ha b
  rw [Nat.or_comm, Nat.mul_comm b, ← h]
  omega

theorem le_take_snoc (s : ByteArray) (k : Nat) (h : k < s.size) : Hsh.le (s.data.toList.take (k + 1)) = Hsh.le (s.data.toList.take k) + 256 ^ k * (s[k]).toNat := by
  have e : s.data.toList.take (k + 1) = s.data.toList.take k ++ [s[k]] := by
    rw [List.take_succ_eq_append_getElem (by simpa using h)]; rfl
  rw [e, Hsh.le_snoc]
  congr 2
  simp only [List.length_take, Array.length_toList]
  have : s.data.size = s.size := rfl
  rw [this, Nat.min_eq_left (by omega)]

theorem or_at (a b i p : Nat) (hp : p = 2 ^ i) (ha : a < p) (hs : p * 256 ≤ 72057594037927936) (hb : b < 256) :
    bits .or .u64 (a : Int) (IntKind.u64.wrap (IntKind.u64.wrap (b : Int) * ((p : Nat) : Int))) = ((a + p * b : Nat) : Int) := by
  have h0 : b * p ≤ 255 * p := Nat.mul_le_mul_right _ (by omega)
  have h1 : b * p < 18446744073709551616 := by omega
  have e0 : IntKind.u64.wrap (b : Int) = (b : Int) := by rw [IntKind.wrap_u64]; omega
  have e1 : IntKind.u64.wrap ((b : Int) * ((p : Nat) : Int)) = ((b * p : Nat) : Int) := by
    rw [← Int.natCast_mul, IntKind.wrap_u64]; omega
  rw [e0, e1, bits_or_u64_nat _ _ (by omega) h1, hp, or_high a b i (hp ▸ ha)]
theorem or_word (a b k : Nat) (hk : k ≤ 6) (ha : a < 256 ^ k) (hb : b < 256) :
    bits .or .u64 (a : Int) (IntKind.u64.wrap (IntKind.u64.wrap (b : Int) * 2 ^ (8 * k))) = ((a + 256 ^ k * b : Nat) : Int) := by
  have h : k = 0 ∨ k = 1 ∨ k = 2 ∨ k = 3 ∨ k = 4 ∨ k = 5 ∨ k = 6 := by omega
  rcases h with rfl | rfl | rfl | rfl | rfl | rfl | rfl
  · exact or_at a b 0 1 rfl ha (by omega) hb
  · exact or_at a b 8 256 rfl ha (by omega) hb
  · exact or_at a b 16 65536 rfl ha (by omega) hb
  · exact or_at a b 24 16777216 rfl ha (by omega) hb
  · exact or_at a b 32 4294967296 rfl ha (by omega) hb
  · exact or_at a b 40 1099511627776 rfl ha (by omega) hb
  · exact or_at a b 48 281474976710656 rfl ha (by omega) hb

/-- A slice at A (below block B) holds the values vs. -/
def Rd (B : Nat) (w : World) (A : Option Addr) (vs : List Value) : Prop :=
  0 < vs.length → ∃ b off, A = some ⟨b, off, none⟩ ∧ b < B ∧ ∀ i u, vs[i]? = some u → w.cell? ⟨b, off + i, none⟩ = some u
theorem Rd.nil {B : Nat} {w : World} {A : Option Addr} : Rd B w A [] := fun h => absurd h (by simp)
theorem Rd.below {B : Nat} {w w' : World} {A : Option Addr} {vs : List Value} (h : Rd B w A vs) (hb : Below B w w') : Rd B w' A vs := fun hp => by
  obtain ⟨b, off, e, hlt, hc⟩ := h hp
  exact ⟨b, off, e, hlt, fun i u hu => (hb.cell (p := ⟨b, off + i, none⟩) hlt).trans (hc i u hu)⟩
theorem Rd.more {B B' : Nat} {w : World} {A : Option Addr} {vs : List Value} (h : Rd B w A vs) (hB : B ≤ B') : Rd B' w A vs := fun hp => by
  obtain ⟨b, off, e, hlt, hc⟩ := h hp
  exact ⟨b, off, e, by omega, hc⟩
theorem Rd.at_ {B : Nat} {w : World} {A : Option Addr} {vs : List Value} (h : Rd B w A vs) {k : Nat} (hk : k < vs.length) : ∃ b off, A = some ⟨b, off, none⟩ ∧ b < B ∧ w.cell? ⟨b, off + k, none⟩ = some vs[k] := by
  obtain ⟨b, off, e, hlt, hc⟩ := h (by omega)
  exact ⟨b, off, e, hlt, hc k _ (List.getElem?_eq_getElem hk)⟩
def u8s (l : List UInt8) : List Value := l.map fun b => .int .u8 (b.toNat : Int)
def u64s (l : List Nat) : List Value := l.map fun n : Nat => .int .u64 (n : Int)
theorem u8s_len (l : List UInt8) : (u8s l).length = l.length := by simp [u8s]
theorem u64s_len (l : List Nat) : (u64s l).length = l.length := by simp [u64s]

set_option maxHeartbeats 400000 in
theorem word_string (s : ByteArray) (w : World) (hs : s.size ≤ 7) :
    Calls Tryz.prog 212 #[.string s] w fun e w' => e = .returned (.int .u64 (Hsh.le s.data.toList : Nat)) ∧ w = w' := by
  go_enter Tryz.func212, Tryz.ntmps212
  go_wp2
  go_loop [3, 7] (fun n i => ∃ k : Nat, k ≤ s.size ∧ i = .int .i64 k ∧ n = .int .u64 (Hsh.le (s.data.toList.take k) : Nat)) (fun _ i => s.size - (intOf i).toNat)
  case atStart => exact ⟨0, Nat.zero_le _, rfl, rfl⟩
  case round =>
    obtain ⟨k, hk, rfl, rfl⟩ := hrel
    by_cases hlt : k < s.size
    · have hsn := le_take_snoc s k hlt
      have hb := (s[k]).toNat_lt
      have ha : Hsh.le (s.data.toList.take k) < 256 ^ k := by
        have h := Hsh.le_lt (s.data.toList.take k)
        have e : (s.data.toList.take k).length = k := by
          have : s.data.size = s.size := rfl
          simp only [List.length_take, Array.length_toList, this]; omega
        rwa [e] at h
      have ho := or_word _ _ k (by omega) ha hb
      rw [← hsn] at ho
      have HO := Lib.hid ho
      have HA := Lib.hid ha
      clear hsn ho ha hb
      go_wp2
      go_round
      case rel => exact ⟨k + 1, by omega, by go_num, by rw [HO.out]⟩
      case measure => simp [intOf]; omega
    · go_wp2
      go_ret
      exact ⟨ret_u64 (by rw [List.take_of_length_le (by simp; omega)]), rfl⟩

theorem le_list_snoc (l : List UInt8) (k : Nat) (h : k < l.length) : Hsh.le (l.take (k + 1)) = Hsh.le (l.take k) + 256 ^ k * (l[k]).toNat := by
  rw [List.take_succ_eq_append_getElem h, Hsh.le_snoc, List.length_take, Nat.min_eq_left (by omega)]

set_option maxHeartbeats 400000 in
theorem word_bytes (l : List UInt8) (b off n c : Nat) (w : World) (hn : n = l.length) (hl : n ≤ 7) (hc : ∀ i u, (u8s l)[i]? = some u → w.cell? ⟨b, off + i, none⟩ = some u) :
    Calls Tryz.prog 185 #[.slice (some ⟨b, off, none⟩) n c] w fun e w' => e = .returned (.int .u64 (Hsh.le l : Nat)) ∧ w = w' := by
  have HC := Lib.hid hc
  have HN := Lib.hid hn
  clear hc hn
  go_enter Tryz.func185, Tryz.ntmps185
  go_wp2
  go_loop [3, 7] (fun v i => ∃ k : Nat, k ≤ n ∧ i = .int .i64 k ∧ v = .int .u64 (Hsh.le (l.take k) : Nat)) (fun _ i => n - (intOf i).toNat)
  case atStart => exact ⟨0, Nat.zero_le _, rfl, rfl⟩
  case round =>
    obtain ⟨k, hk, rfl, rfl⟩ := hrel
    by_cases hlt : k < n
    · have hll : k < l.length := by rw [← HN.out]; exact hlt
      have hsn := le_list_snoc l k hll
      have hb := (l[k]).toNat_lt
      have hcell : w.cell? ⟨b, off + k, none⟩ = some (.int .u8 ((l[k]).toNat : Int)) := HC.out k _ (by unfold u8s; rw [List.getElem?_map, List.getElem?_eq_getElem hll]; rfl)
      have ha : Hsh.le (l.take k) < 256 ^ k := by
        have h := Hsh.le_lt (l.take k)
        have e : (l.take k).length = k := by rw [List.length_take]; omega
        rwa [e] at h
      have ho := or_word _ _ k (by omega) ha hb
      rw [← hsn] at ho
      obtain ⟨z, hz⟩ : ∃ z : Nat, z = (l[k]).toNat := ⟨_, rfl⟩
      rw [← hz] at ho hcell
      have HO := Lib.hid ho
      clear hsn ho ha hb hz hll
      go_wp2
      go_round
      case rel => exact ⟨k + 1, by omega, by go_num, by rw [HO.out]⟩
      case measure => simp [intOf]; omega
    · go_wp2
      go_ret
      exact ⟨ret_u64 (by rw [List.take_of_length_le (by have := HN.out; omega)]), rfl⟩

end Go.Proofs.YtkicjjcangkneaaGreatDoor

/-
  Package hash's words, of a string and of bytes: an iterator that hands out the sevens of bytes as numbers, for every loop body that keeps what lay ahead of it.
-/
namespace Go.Proofs.YtkicjjcangkneaaGreatDoor
open Go.RowKit Go.Shelf
attribute [local go_sem] Oper.semAt_some

/-- A number of 64 bits. -/
def Wd : Type := { n : Nat // n < 18446744073709551616 }
def Wd.val (x : Wd) : Nat := Subtype.val x
theorem Wd.lt (x : Wd) : x.val < 18446744073709551616 := Subtype.property x
def Wd.enc (x : Wd) : Array Value := #[Value.int .u64 (x.val : Int)]
namespace Hsh
def wordW (l : List UInt8) (k : Nat) : Wd := ⟨word l k, Nat.lt_trans (word_lt l k) (by omega)⟩
theorem wordW_val (l : List UInt8) (k : Nat) : (wordW l k).val = word l k := rfl
def uptoW (l : List UInt8) (k : Nat) : List Wd := (List.range k).map (wordW l)
theorem uptoW_succ (l : List UInt8) (k : Nat) : uptoW l (k + 1) = uptoW l k ++ [wordW l k] := by simp [uptoW, List.range_succ]
theorem uptoW_val (l : List UInt8) (k : Nat) : (uptoW l k).map Wd.val = upto l k := by
  simp only [uptoW, upto, List.map_map]
  rfl
theorem uptoW_len (l : List UInt8) (k : Nat) : (uptoW l k).length = k := by simp [uptoW]
end Hsh

theorem extract_list (s : ByteArray) (a b : Nat) : (s.extract a b).data.toList = (s.data.toList.drop a).take (b - a) := by
  rw [ByteArray.data_extract, Array.toList_extract, List.extract_eq_take_drop]

theorem word_extract (s : ByteArray) (k b : Nat) (hb : b = min (7 * k + 7) s.size) : Hsh.le (s.extract (7 * k) b).data.toList = Hsh.word s.data.toList k := by
  rw [extract_list]
  unfold Hsh.word Hsh.chunk
  have hl : s.data.toList.length = s.size := rfl
  congr 1
  rcases Nat.le_total (7 * k + 7) s.size with h | h
  · rw [show b - 7 * k = 7 by omega]
  · rw [List.take_of_length_le (by rw [List.length_drop, hl]; omega), List.take_of_length_le (by rw [List.length_drop, hl]; omega)]

/-- Whatever lies below n, but for block g, lies as it lay. -/
def KeepsBut (g n : Nat) (W W' : World) : Prop := ∀ k, k < n → k ≠ g → W'.heap[k]? = W.heap[k]?
theorem KeepsBut.refl (g n : Nat) (W : World) : KeepsBut g n W W := fun _ _ _ => rfl
theorem KeepsBut.trans {g n : Nat} {A B C : World} (h : KeepsBut g n A B) (k : KeepsBut g n B C) : KeepsBut g n A C := fun i hi hg => (k i hi hg).trans (h i hi hg)
theorem KeepsBut.cell {g n : Nat} {W W' : World} (h : KeepsBut g n W W') {p : Addr} (hp : p.block < n) (hg : p.block ≠ g) : W'.cell? p = W.cell? p := World.cell?_of_block (h _ hp hg)
theorem KeepsBut.of_below {g n : Nat} {W W' : World} (h : Below n W W') : KeepsBut g n W W' := fun k hk _ => h.block k hk
theorem KeepsBut.of_grown {g n : Nat} {W W' : World} (h : W.grownBy W' (some g)) (hn : n ≤ W.heap.size) : KeepsBut g n W W' := fun k hk hg => h.block k (by omega) (fun e => hg (by injection e))
theorem KeepsBut.more {g n n' : Nat} {W W' : World} (h : KeepsBut g n W W') (hn : n' ≤ n) : KeepsBut g n' W W' := fun k hk hg => h k (by omega) hg
theorem keepsBut_b {g n : Nat} {w : World} (hn : n ≤ w.heap.size) (W : World) (l : Nat) (o o' : Obj) (hl : w.heap.size ≤ l) (_ : W.heap[l]? = some o) (_ : o.isCells = false) (_ : o.isWalk = false) : KeepsBut g n W (W.putObj l o') :=
  fun _ hk _ => World.putObj_heap_other (by omega)
theorem Rd.keeps {g n n1 : Nat} {w w' : World} {A : Option Addr} {vs : List Value} (h : Rd n1 w A vs) (hk : KeepsBut g n w w') (hn : n1 ≤ n) (hg : n1 ≤ g) : Rd n1 w' A vs := fun hp => by
  obtain ⟨b, off, e, hlt, hc⟩ := h hp
  exact ⟨b, off, e, hlt, fun i u hu => (hk.cell (p := ⟨b, off + i, none⟩) (by show b < n; omega) (by show b ≠ g; omega)).trans (hc i u hu)⟩

theorem slice_string (s : ByteArray) (a b : Nat) (j : Int) (h1 : a ≤ b) (h2 : b ≤ s.size) (hj : j = (b : Int)) (W : World) :
    (Instr.slice 9 (.string s) (some (.int .i64 (a : Int))) (some (.int .i64 j)) none).run Tryz.prog W = .ok (.string (s.extract a b)) W := by
  have h := run_slice_string (P := Tryz.prog) W 9 s .i64 .i64 (a : Int) j Tryz.underlying9 (by omega) (by omega) (by omega)
  rw [h, hj]
  rfl

theorem words_string_in (F : Fence) (n : Nat) (hF : F.fn 186) (hro : F.round = none) (s : ByteArray) (w : World) :
    CallsIn F n Tryz.prog 186 #[.string s] w fun e w' => e = .returned (.func (.func 211) #[] #[.pointer (some ⟨w.heap.size, 0, none⟩)]) ∧ w' = w.alloc (.cells #[.string s] 9) := by
  refine callsIn_of_wp Tryz.func186 rfl hF ?_ hro
  simp only [Tryz.ntmps186, List.size_toArray, List.length_cons, List.length_nil, Nat.reduceAdd, Nat.reduceSub, Array.replicate_succ, Array.replicate_zero, List.push_toArray, List.append_toArray, List.nil_append, List.cons_append]
  gi_wp2
  go_ret
  exact ⟨rfl, rfl⟩

set_option maxRecDepth 100000 in
set_option maxHeartbeats 1000000 in
theorem words1_string_in (F : Fence) (n : Nat) (hF : F.fn 211) (hwide : F = Fence.wide) (hro : F.round = none) (hn : 1 ≤ n) (l Bn g₀ n₀ : Nat) (s : ByteArray) (hs : s.size ≤ 9223372036854775800) (hBn : Bn < n₀) (hBg : Bn ≠ g₀) (J Jx : List Wd → World → Prop)
    (hY : ∀ pre x W, J pre W → pre.length < Hsh.sevens s.size → YieldAt F (n - 1) Tryz.prog l x.enc W fun e W' =>
      (e = .returned (.bool true) ∧ J (pre ++ [x]) W' ∧ KeepsBut g₀ n₀ W W') ∨ (e = .returned (.bool false) ∧ Jx (pre ++ [x]) W'))
    (W : World) (hc : W.cell? ⟨Bn, 0, none⟩ = some (.string s)) (h0 : J [] W) :
    CallsIn F n Tryz.prog 211 #[.func (.yield l) #[] #[], .pointer (some ⟨Bn, 0, none⟩)] W fun e W' => (∃ r, e = .returned r) ∧
      ((∃ ys, ys = Hsh.uptoW s.data.toList (Hsh.sevens s.size) ∧ J ys W') ∨ (∃ pre, True ∧ Jx pre W')) := by
  subst hwide
  refine callsIn_of_wp Tryz.func211 rfl hF ?_ hro
  simp only [Tryz.ntmps211, List.size_toArray, List.length_cons, List.length_nil, Nat.reduceAdd, Nat.reduceSub, Array.replicate_succ, Array.replicate_zero, List.push_toArray, List.append_toArray, List.nil_append, List.cons_append]
  gi_wp2
  gi_loopw [3] (fun p wr => ∃ (a k : Nat), p = .int .i64 a ∧ a = 7 * k ∧ k ≤ Hsh.sevens s.size ∧ wr.cell? ⟨Bn, 0, none⟩ = some (.string s) ∧ J (Hsh.uptoW s.data.toList k) wr)
    (fun p _ => s.size + 7 - (intOf p).toNat)
  case atStart =>
    exact ⟨0, 0, rfl, rfl, Nat.zero_le _, hc, h0⟩
  case round =>
    obtain ⟨a, k, rfl, ha, hk, hcr, hJs⟩ := hrel
    unfold Hsh.sevens at hk
    by_cases hlt : a < s.size
    · obtain ⟨b, hb⟩ : ∃ b : Nat, b = min (a + 7) s.size := ⟨_, rfl⟩
      have hword := word_extract s k b (by rw [hb, ha])
      rw [← ha] at hword
      have hsz : (s.extract a b).size ≤ 7 := by rw [ByteArray.size_extract]; omega
      have hmin : min ((a : Int) + 7) (s.size : Int) = (b : Int) := by omega
      have hab : a ≤ b := by omega
      have hbs : b ≤ s.size := by omega
      obtain ⟨fn, tmps, assign, body, hy, hR⟩ := hY _ (Hsh.wordW s.data.toList k) wr hJs (by rw [Hsh.uptoW_len]; unfold Hsh.sevens; omega)
      unfold Wd.enc at hy
      rw [Hsh.wordW_val, ← hword] at hy
      have hwd := fun W : World => word_string (s.extract a b) W hsz
      obtain ⟨x, hx⟩ : ∃ x : Nat, x = Hsh.le (s.extract a b).data.toList := ⟨_, rfl⟩
      rw [← hx] at hy hwd
      have HWD := Lib.hid hwd
      clear hwd hx
      rw [← Hsh.uptoW_succ] at hR
      have HA := Lib.hid ha
      have HW := Lib.hid hword
      have HB := Lib.hid hb
      clear ha hword hb
      clear hmin
      rcases Nat.lt_or_ge s.size (a + 7) with hmn | hmn
      · obtain rfl : b = s.size := by have := HB.out; omega
        have q2 : (s.size : Int) < (a : Int) + 7 := by omega
        have hsl := slice_string s a s.size ((s.size : Nat) : Int) (by omega) (Nat.le_refl _) rfl
        gi_wp2_with (refine ⟨trivial, ?_⟩; gi_at_call 212; refine (callsIn_wide.2 (HWD.out _)).mono ?_; rintro e w' ⟨rfl, rfl⟩)
        refine hR.mono ?_
        rintro e W3 (⟨rfl, hJ3, hk3⟩ | ⟨rfl, hJx3⟩)
        · gi_wp2
          go_roundw
          case rel => exact ⟨a + 7, k + 1, by go_num, by have := HA.out; omega, by unfold Hsh.sevens; have := HA.out; omega, (hk3.cell (p := ⟨Bn, 0, none⟩) hBn hBg).trans hcr, hJ3⟩
          case measure => simp [intOf]; omega
        · gi_wp2
          refine bodyPost_ret (results_none rfl _ _ _) rfl ?_
          exact ⟨⟨_, rfl⟩, .inr ⟨_, trivial, hJx3⟩⟩
      · obtain rfl : b = a + 7 := by have := HB.out; omega
        have q2 : (a : Int) + 7 ≤ (s.size : Int) := by omega
        have hsl := slice_string s a (a + 7) ((a : Int) + 7) (by omega) hmn (by omega)
        gi_wp2_with (refine ⟨trivial, ?_⟩; gi_at_call 212; refine (callsIn_wide.2 (HWD.out _)).mono ?_; rintro e w' ⟨rfl, rfl⟩)
        refine hR.mono ?_
        rintro e W3 (⟨rfl, hJ3, hk3⟩ | ⟨rfl, hJx3⟩)
        · gi_wp2
          go_roundw
          case rel => exact ⟨a + 7, k + 1, by go_num, by have := HA.out; omega, by unfold Hsh.sevens; have := HA.out; omega, (hk3.cell (p := ⟨Bn, 0, none⟩) hBn hBg).trans hcr, hJ3⟩
          case measure => simp [intOf]; omega
        · gi_wp2
          refine bodyPost_ret (results_none rfl _ _ _) rfl ?_
          exact ⟨⟨_, rfl⟩, .inr ⟨_, trivial, hJx3⟩⟩
    · have e : k = Hsh.sevens s.size := by unfold Hsh.sevens; omega
      have HA := Lib.hid ha
      clear ha
      gi_wp2
      go_end0
      exact ⟨⟨_, rfl⟩, .inl ⟨_, by rw [e], hJs⟩⟩

theorem word_take (xs : List UInt8) (k b : Nat) (hb : b = min (7 * k + 7) xs.length) : Hsh.le ((xs.drop (7 * k)).take (b - 7 * k)) = Hsh.word xs k := by
  unfold Hsh.word Hsh.chunk
  congr 1
  rcases Nat.le_total (7 * k + 7) xs.length with h | h
  · rw [show b - 7 * k = 7 by omega]
  · rw [List.take_of_length_le (by rw [List.length_drop]; omega), List.take_of_length_le (by rw [List.length_drop]; omega)]
theorem u8s_part {w : World} {g off : Nat} (xs : List UInt8) (h : ∀ i u, (u8s xs)[i]? = some u → w.cell? ⟨g, off + i, none⟩ = some u) (a b : Nat) :
    ∀ i u, (u8s ((xs.drop a).take (b - a)))[i]? = some u → w.cell? ⟨g, off + a + i, none⟩ = some u := by
  intro i u hu
  rw [Nat.add_assoc]
  refine h (a + i) u ?_
  unfold u8s at hu ⊢
  rw [List.getElem?_map, List.getElem?_take, List.getElem?_drop] at hu
  rw [List.getElem?_map]
  split at hu
  · exact hu
  · simp at hu
theorem slice_bytes (g off m c a b : Nat) (j : Int) (h1 : a ≤ b) (h2 : a < m) (h3 : b ≤ c) (hj : j = (b : Int)) (h4 : m ≤ c) (q : Nat) (hq : q = b - a) (W : World) :
    (Instr.slice 28 (.slice (some ⟨g, off, none⟩) m c) (some (.int .i64 (a : Int))) (some (.int .i64 j)) none).run Tryz.prog W = .ok (.slice (some ⟨g, off + a, none⟩) q (c - a)) W := by
  have hz : (sizeOf (Tryz.prog.elem 28)).run Tryz.prog W = .ok 1 W := by kernel_rfl
  have h := run_slice_lh (P := Tryz.prog) W 28 (some ⟨g, off, none⟩) m c (by kernel_rfl) .i64 .i64 (a : Int) j (by omega) (by omega) (by omega)
  rw [h, hz, hj, hq]
  simp only [Result.andThen, sliced, Int.toNat_natCast]
  rw [if_neg (by omega)]
  simp
  exact Addr.add_lit _ _ _

theorem words_bytes_in (F : Fence) (n : Nat) (hF : F.fn 131) (hro : F.round = none) (A : Option Addr) (m c : Nat) (w : World) :
    CallsIn F n Tryz.prog 131 #[.slice A m c] w fun e w' => e = .returned (.func (.func 184) #[] #[.pointer (some ⟨w.heap.size, 0, none⟩)]) ∧ w' = w.alloc (.cells #[.slice A m c] 28) := by
  refine callsIn_of_wp Tryz.func131 rfl hF ?_ hro
  simp only [Tryz.ntmps131, List.size_toArray, List.length_cons, List.length_nil, Nat.reduceAdd, Nat.reduceSub, Array.replicate_succ, Array.replicate_zero, List.push_toArray, List.append_toArray, List.nil_append, List.cons_append]
  gi_wp2
  go_ret
  exact ⟨rfl, rfl⟩

set_option maxRecDepth 100000 in
set_option maxHeartbeats 1000000 in
theorem words1_bytes_in (F : Fence) (n : Nat) (hF : F.fn 184) (hwide : F = Fence.wide) (hro : F.round = none) (hn : 1 ≤ n) (l Bn g₀ n₀ n₁ : Nat) (xs : List UInt8) (A : Option Addr) (m c : Nat) (hm : m = xs.length) (hmc : m ≤ c) (hs : m ≤ 9223372036854775800) (hBn : Bn < n₀) (hBg : Bn ≠ g₀) (hn1 : n₁ ≤ n₀) (hg1 : n₁ ≤ g₀) (J Jx : List Wd → World → Prop)
    (hY : ∀ pre x W, J pre W → pre.length < Hsh.sevens m → YieldAt F (n - 1) Tryz.prog l x.enc W fun e W' =>
      (e = .returned (.bool true) ∧ J (pre ++ [x]) W' ∧ KeepsBut g₀ n₀ W W') ∨ (e = .returned (.bool false) ∧ Jx (pre ++ [x]) W'))
    (W : World) (hc : W.cell? ⟨Bn, 0, none⟩ = some (.slice A m c)) (hA : Rd n₁ W A (u8s xs)) (h0 : J [] W) :
    CallsIn F n Tryz.prog 184 #[.func (.yield l) #[] #[], .pointer (some ⟨Bn, 0, none⟩)] W fun e W' => (∃ r, e = .returned r) ∧
      ((∃ ys, ys = Hsh.uptoW xs (Hsh.sevens m) ∧ J ys W') ∨ (∃ pre, True ∧ Jx pre W')) := by
  subst hwide
  have HM := Lib.hid hm
  clear hm
  refine callsIn_of_wp Tryz.func184 rfl hF ?_ hro
  simp only [Tryz.ntmps184, List.size_toArray, List.length_cons, List.length_nil, Nat.reduceAdd, Nat.reduceSub, Array.replicate_succ, Array.replicate_zero, List.push_toArray, List.append_toArray, List.nil_append, List.cons_append]
  gi_wp2
  gi_loopw [3] (fun p wr => ∃ (a k : Nat), p = .int .i64 a ∧ a = 7 * k ∧ k ≤ Hsh.sevens m ∧ wr.cell? ⟨Bn, 0, none⟩ = some (.slice A m c) ∧ Rd n₁ wr A (u8s xs) ∧ J (Hsh.uptoW xs k) wr)
    (fun p _ => m + 7 - (intOf p).toNat)
  case atStart =>
    exact ⟨0, 0, rfl, rfl, Nat.zero_le _, hc, hA, h0⟩
  case round =>
    obtain ⟨a, k, rfl, ha, hk, hcr, hRd, hJs⟩ := hrel
    unfold Hsh.sevens at hk
    by_cases hlt : a < m
    · obtain ⟨b, hb⟩ : ∃ b : Nat, b = min (a + 7) m := ⟨_, rfl⟩
      have hml := HM.out
      obtain ⟨g, off, rfl, hg, hcl⟩ := hRd (by rw [u8s_len]; omega)
      have hword := word_take xs k b (by rw [hb, ha, hml])
      rw [← ha] at hword
      have hmin : min ((a : Int) + 7) (m : Int) = (b : Int) := by omega
      have hab : a ≤ b := by omega
      have hbs : b ≤ m := by omega
      obtain ⟨fn, tmps, assign, body, hy, hR⟩ := hY _ (Hsh.wordW xs k) wr hJs (by rw [Hsh.uptoW_len]; unfold Hsh.sevens; omega)
      unfold Wd.enc at hy
      rw [Hsh.wordW_val, ← hword] at hy
      obtain ⟨q, hq⟩ : ∃ q : Nat, q = b - a := ⟨_, rfl⟩
      have hwd := word_bytes ((xs.drop a).take (b - a)) g (off + a) (b - a) (c - a) wr (by rw [List.length_take, List.length_drop]; omega) (by omega) (u8s_part _ hcl a b)
      obtain ⟨x, hx⟩ : ∃ x : Nat, x = Hsh.le ((xs.drop a).take (b - a)) := ⟨_, rfl⟩
      rw [← hx] at hy hwd
      rw [← hq] at hwd
      have HQ := Lib.hid hq
      clear hq
      clear hml
      have HCL := Lib.hid hcl
      clear hcl
      have HWD := Lib.hid hwd
      clear hwd hx
      rw [← Hsh.uptoW_succ] at hR
      have HA := Lib.hid ha
      have HW := Lib.hid hword
      have HB := Lib.hid hb
      clear ha hword hb
      clear hmin
      rcases Nat.lt_or_ge m (a + 7) with hmn | hmn
      · obtain rfl : m = b := by have := HB.out; omega
        have q2 : (m : Int) < (a : Int) + 7 := by omega
        have hsl := slice_bytes g off m c a m ((m : Nat) : Int) (by omega) hlt hmc rfl hmc q HQ.out
        gi_wp2_with (refine ⟨trivial, ?_⟩; gi_at_call 185; refine (callsIn_wide.2 HWD.out).mono ?_; rintro e w' ⟨rfl, rfl⟩)
        refine hR.mono ?_
        rintro e W3 (⟨rfl, hJ3, hk3⟩ | ⟨rfl, hJx3⟩)
        · gi_wp2
          go_roundw
          case rel => exact ⟨a + 7, k + 1, by go_num, by have := HA.out; omega, by unfold Hsh.sevens; have := HA.out; omega, (hk3.cell (p := ⟨Bn, 0, none⟩) hBn hBg).trans hcr, fun _ => ⟨g, off, rfl, hg, fun i u hu => (hk3.cell (p := ⟨g, off + i, none⟩) (by show g < n₀; omega) (by show g ≠ g₀; omega)).trans (HCL.out i u hu)⟩, hJ3⟩
          case measure => simp [intOf]; omega
        · gi_wp2
          refine bodyPost_ret (results_none rfl _ _ _) rfl ?_
          exact ⟨⟨_, rfl⟩, .inr ⟨_, trivial, hJx3⟩⟩
      · obtain rfl : b = a + 7 := by have := HB.out; omega
        have q2 : (a : Int) + 7 ≤ (m : Int) := by omega
        have hsl := slice_bytes g off m c a (a + 7) ((a : Int) + 7) (by omega) (by omega) (by omega) (by omega) hmc q HQ.out
        gi_wp2_with (refine ⟨trivial, ?_⟩; gi_at_call 185; refine (callsIn_wide.2 HWD.out).mono ?_; rintro e w' ⟨rfl, rfl⟩)
        refine hR.mono ?_
        rintro e W3 (⟨rfl, hJ3, hk3⟩ | ⟨rfl, hJx3⟩)
        · gi_wp2
          go_roundw
          case rel => exact ⟨a + 7, k + 1, by go_num, by have := HA.out; omega, by unfold Hsh.sevens; have := HA.out; omega, (hk3.cell (p := ⟨Bn, 0, none⟩) hBn hBg).trans hcr, fun _ => ⟨g, off, rfl, hg, fun i u hu => (hk3.cell (p := ⟨g, off + i, none⟩) (by show g < n₀; omega) (by show g ≠ g₀; omega)).trans (HCL.out i u hu)⟩, hJ3⟩
          case measure => simp [intOf]; omega
        · gi_wp2
          refine bodyPost_ret (results_none rfl _ _ _) rfl ?_
          exact ⟨⟨_, rfl⟩, .inr ⟨_, trivial, hJx3⟩⟩
    · have e : k = Hsh.sevens m := by unfold Hsh.sevens; omega
      have HA := Lib.hid ha
      clear ha
      gi_wp2
      go_end0
      exact ⟨⟨_, rfl⟩, .inl ⟨_, by rw [e], hJs⟩⟩

theorem words_string_stops (n : Nat) (hn : 1 ≤ n) (Bn g₀ n₀ : Nat) (s : ByteArray) (hs : s.size ≤ 9223372036854775800) (w : World) (hBn : Bn < n₀) (hBg : Bn ≠ g₀) (hBw : Bn < w.heap.size)
    (hc : w.cell? ⟨Bn, 0, none⟩ = some (.string s)) :
    SeqStopsK Fence.wide n Tryz.prog 211 #[.pointer (some ⟨Bn, 0, none⟩)] Wd.enc (KeepsBut g₀ n₀) (fun ys => ys = Hsh.uptoW s.data.toList (Hsh.sevens s.size)) (fun _ => True) (Hsh.sevens s.size) w := fun l J Jx W hW _ _ hY h0 =>
  words1_string_in Fence.wide n trivial rfl rfl hn l Bn g₀ n₀ s hs hBn hBg J Jx hY W ((hW.cell (p := ⟨Bn, 0, none⟩) hBw).trans hc) h0

theorem words_bytes_stops (n : Nat) (hn : 1 ≤ n) (Bn g₀ n₀ n₁ : Nat) (xs : List UInt8) (A : Option Addr) (m c : Nat) (hm : m = xs.length) (hmc : m ≤ c) (hs : m ≤ 9223372036854775800) (w : World) (hBn : Bn < n₀) (hBg : Bn ≠ g₀) (hn1 : n₁ ≤ n₀) (hg1 : n₁ ≤ g₀) (hBw : Bn < w.heap.size) (hn0 : n₁ ≤ w.heap.size)
    (hc : w.cell? ⟨Bn, 0, none⟩ = some (.slice A m c)) (hA : Rd n₁ w A (u8s xs)) :
    SeqStopsK Fence.wide n Tryz.prog 184 #[.pointer (some ⟨Bn, 0, none⟩)] Wd.enc (KeepsBut g₀ n₀) (fun ys => ys = Hsh.uptoW xs (Hsh.sevens m)) (fun _ => True) (Hsh.sevens m) w := fun l J Jx W hW _ _ hY h0 =>
  words1_bytes_in Fence.wide n trivial rfl rfl hn l Bn g₀ n₀ n₁ xs A m c hm hmc hs hBn hBg hn1 hg1 J Jx hY W ((hW.cell (p := ⟨Bn, 0, none⟩) hBw).trans hc) (hA.below (hW.mono hn0)) h0

end Go.Proofs.YtkicjjcangkneaaGreatDoor

/-
  Package hash's Of and Secret: the sum of a label and numbers, as the chapter says it; what was there is left as it was. For every label and all numbers of 64 bits that memory can hold.
-/
namespace Go.Proofs.YtkicjjcangkneaaGreatDoor
open Go.RowKit Go.Shelf
attribute [local go_sem] Oper.semAt_some

theorem blk_kept {W W' : World} {row : Option Nat} {B t : Nat} {cs : Array Value} (h : Blk W B t cs) (hg : W.grownBy W' row) (hr : ∀ r, row = some r → ∃ o : Obj, W.heap[r]? = some o ∧ o.isCells = false) : Blk W' B t cs := by
  refine (hg.block B h.lt fun e => ?_).trans h
  obtain ⟨o, ho, hc⟩ := hr B e.symm
  unfold Blk at h
  rw [h] at ho
  injection ho with ho
  subst ho
  cases hc
theorem blk_own {β : Type} (B t : Nat) (f : β → Array Value) : Own (fun s W => Blk W B t (f s)) := fun _ _ _ _ h hg hr => blk_kept h hg hr
theorem blk_new (w : World) (t : Nat) (cs : Array Value) : Blk (w.alloc (.cells cs t)) w.heap.size t cs := heap_alloc_new w _
theorem blk_alloc {w : World} {B t : Nat} {cs : Array Value} (h : Blk w B t cs) (o : Obj) : Blk (w.alloc o) B t cs := (Below.heap_alloc w o B h.lt).trans h

namespace Hsh
/-- The state behind some words. -/
def st (label : List UInt8) (pre : List Nat) : Nat := fold label.length 1 pre
theorem st_snoc (label : List UInt8) (pre : List Nat) (x : Nat) : st label (pre ++ [x]) = step (st label pre) (pre.length + 1) x := by
  unfold st
  rw [fold_snoc, Nat.add_comm 1]
theorem st_lt (label : List UInt8) (pre : List Nat) (h : label.length < 18446744073709551616) : st label pre < 18446744073709551616 := fold_lt _ _ _ h
end Hsh

set_option maxRecDepth 100000 in
set_option maxHeartbeats 2000000 in
theorem of_any (s : ByteArray) (A : Option Addr) (m c : Nat) (l : List Nat) (w : World) (hs : s.size ≤ 9223372036854775800) (hm : m = l.length) (hmb : m ≤ 9223372036854775800) (hl : ∀ x ∈ l, x < 18446744073709551616)
    (hA : Rd w.heap.size w A (u64s l)) :
    Calls Tryz.prog 132 #[.string s, .slice A m c] w fun e w' => e = .returned (.int .u64 (Hsh.of s.data.toList l : Nat)) ∧ Below w.heap.size w w' := by
  have HM := Lib.hid hm
  have HL := Lib.hid hl
  have HA := Lib.hid hA
  clear hm hl hA
  refine (callsIn_wide (n := 3)).1 ?_
  refine callsIn_of_wp_marks Tryz.func132 rfl trivial ?_ rfl
  simp only [Tryz.ntmps132, List.size_toArray, List.length_cons, List.length_nil, Nat.reduceAdd, Nat.reduceSub, Array.replicate_succ, Array.replicate_zero, List.push_toArray, List.append_toArray, List.nil_append, List.cons_append]
  gi_wp2_with (refine ⟨trivial, ?_⟩; gi_at_call 186; refine (words_string_in Fence.wide (3 - 1) trivial rfl _ _).mono ?_; rintro e w' ⟨rfl, rfl⟩)
  obtain ⟨B, hBs⟩ : ∃ B, B = w.heap.size := ⟨_, rfl⟩
  have hb1 := blk_new w 192 #[.int .u64 s.size, .int .u64 0]
  have hbx := cell_new_l (w.alloc (.cells #[.int .u64 s.size, .int .u64 0] 192)) (.string s) 9
  have hb2 := blk_alloc hb1 (.cells #[.string s] 9)
  have hB0 : Below w.heap.size w ((w.alloc (.cells #[.int .u64 s.size, .int .u64 0] 192)).alloc (.cells #[.string s] 9)) :=
    ((Below.refl _ w).alloc (Nat.le_refl _) _).alloc (by simp) _
  have hsz : ((w.alloc (.cells #[.int .u64 s.size, .int .u64 0] 192)).alloc (.cells #[.string s] 9)).heap.size = w.heap.size + 2 := by simp
  simp only [World.size_alloc] at hbx
  obtain ⟨w2, hw2⟩ : ∃ w2, w2 = (w.alloc (.cells #[.int .u64 s.size, .int .u64 0] 192)).alloc (.cells #[.string s] 9) := ⟨_, rfl⟩
  rw [← hw2] at hbx hb2 hB0 hsz ⊢
  rw [← hBs] at hbx hb2 hB0 hsz HA ⊢
  clear hw2 hb1
  have hBW := Lib.hid hBs
  clear hBs
  have hsl : s.data.toList.length = s.size := rfl
  have HSL := Lib.hid hsl
  clear hsl
  refine wpIn_rangeFunc_ownF rfl (by omega) (gf := 211) (lb := #[.pointer (some ⟨B + 1, 0, none⟩)]) rfl trivial (enters_of Tryz.func211 (by kernel_rfl) rfl)
    (words_string_stops (3 - 1) (by omega) (B + 1) B (B + 2) s hs w2 (by omega) (by omega) (by omega) hbx.1) KeepsBut.trans (keepsBut_b (by omega)) (Below.refl _ _) (fun _ => rfl)
    (fun pre W => Blk W B 192 #[.int .u64 (Hsh.st s.data.toList (pre.map Wd.val) : Nat), .int .u64 (pre.length : Nat)] ∧ (Below B w W ∧ B + 2 ≤ W.heap.size))
    (fun _ _ _ => False)
    (OwnFrom.and (Own.from (blk_own B 192 fun pre : List Wd => #[.int .u64 (Hsh.st s.data.toList (pre.map Wd.val) : Nat), .int .u64 (pre.length : Nat)]) _) (OwnFrom.and (ownFrom_below (by rw [hBW.out]; exact Nat.le_refl _) (by omega)) (fun _ _ _ _ h hg _ => Nat.le_trans h hg.size)))
    (fun _ _ _ _ _ hs _ _ => hs)
    ⟨hb2, hB0, by omega⟩
    (fun x => { tmps := #[.string s, .slice A m c, undef, undef, .int .u64 0, .pointer (some ⟨B, 0, none⟩), .int .u64 (x.val : Int), undef, undef, .string s, .int .i64 s.size, .int .u64 s.size,
      .agg #[.int .u64 s.size, .int .u64 0], .string s, .func (.func 211) #[] #[.pointer (some ⟨B + 1, 0, none⟩)], .int .u64 (x.val : Int), undef, undef, undef, undef, undef, undef, undef, undef, undef, undef, undef, undef, undef, undef, undef, undef, undef, undef], defers := [] }) ?assign ?body ?done ?stop
  case assign =>
    intro l x W K hK
    unfold Wd.enc
    gi_wp2
    exact hK
  case body =>
    rintro l' pre x W ⟨hblk, hbel, hsiz⟩ hlen
    have hx := x.lt
    have hst := Hsh.st_lt s.data.toList (pre.map Wd.val) (by rw [HSL.out]; omega)
    have hpl : pre.length + 1 < 18446744073709551616 := by unfold Hsh.sevens at hlen; omega
    have hsn := Hsh.st_snoc s.data.toList (pre.map Wd.val) x.val
    rw [List.length_map] at hsn
    have HSN := Lib.hid hsn
    clear hsn
    obtain ⟨z, hz⟩ : ∃ z : Nat, z = x.val := ⟨_, rfl⟩
    rw [← hz] at hx HSN ⊢
    have HZ := Lib.hid hz
    clear hz
    have HBLK := Lib.hid hblk
    clear hblk
    gi_wp2_with (refine ⟨trivial, ?_⟩; gi_at_call 187; refine (CallsIn.inRound l' (callsIn_wide.2 (take_any _ _ _ _ _ HBLK.out hst hpl hx))).mono ?_; rintro e w' ⟨⟨r, rfl⟩, hblk2, hg⟩; have HBLK2 := Lib.hid hblk2; clear hblk2)
    have hiso : ∀ (j : Nat) (o : Obj), some B = some j → W.heap[j]? = some o → o.isCells = true := by
      intro j o e ho
      injection e with e
      subst e
      have h := HBLK.out
      unfold Blk at h
      rw [h] at ho
      injection ho with ho
      subst ho
      rfl
    refine ⟨KeepsOthers.of_grownBy hg hiso, KeepsBut.of_grown hg hsiz, ?_, hbel.trans (below_only hg (Nat.le_refl _) (by omega)), Nat.le_trans hsiz hg.size⟩
    have h := HBLK2.out
    rw [← HSN.out, HZ.out] at h
    simp only [List.map_append, List.map_cons, List.map_nil, List.length_append, List.length_cons, List.length_nil]
    exact h
  case done =>
    rintro D ys W hD rfl ⟨hblk, hbel, hsiz⟩ hK
    rw [Hsh.uptoW_val, Hsh.uptoW_len] at hblk
    have hwl : Hsh.upto s.data.toList (Hsh.sevens s.size) = Hsh.words s.data.toList := by unfold Hsh.words; rw [HSL.out]
    rw [hwl] at hblk
    have hlw := Hsh.words_len s.data.toList
    rw [HSL.out] at hlw
    rw [← hlw] at hblk
    have hk8 : (Hsh.words s.data.toList).length ≤ 1317624576693539402 := by rw [hlw]; unfold Hsh.sevens; omega
    obtain ⟨ws, hws⟩ : ∃ ws, ws = Hsh.words s.data.toList := ⟨_, rfl⟩
    rw [← hws] at hblk hk8
    have HWS := Lib.hid hws
    obtain ⟨q, hq⟩ : ∃ q, q = ws.length := ⟨_, rfl⟩
    rw [← hq] at hblk hk8
    have HQ := Lib.hid hq
    have HBLK := Lib.hid hblk
    have hst : ∀ pre, Hsh.st s.data.toList pre < 18446744073709551616 := fun pre => Hsh.st_lt _ _ (by rw [HSL.out]; omega)
    have HST := Lib.hid hst
    have HWL := Lib.hid hwl
    have hDB : B < D := by omega
    have HK := Lib.hid hK
    clear hq hws hlw hblk hst hwl hK
    gi_wp2_with (refine ⟨trivial, ?_⟩; gi_at_call 187; refine (callsIn_wide.2 (take_any B _ _ m _ HBLK.out (HST.out _) (by omega) (by omega))).mono ?_; rintro e w3 ⟨⟨r, rfl⟩, hblk2, hg⟩; have HBLK2 := Lib.hid hblk2; clear hblk2)
    have hbel3 : Below B w w3 := hbel.trans (below_only hg (Nat.le_refl _) (by omega))
    have hK3 : w3.heap[D]? = some (.deferred (some [])) := (hg.block D (Array.getElem?_eq_some_iff.1 HK.out).1 (fun e => by injection e with e; omega)).trans HK.out
    have HK3 := Lib.hid hK3
    clear hK3 hg HK HBLK hbel
    gi_loopw [24] (fun i wr => ∃ k : Nat, k ≤ m ∧ i = .int .i64 k ∧ Blk wr B 192 #[.int .u64 (Hsh.st s.data.toList (ws ++ m :: l.take k) : Nat), .int .u64 ((q + 1 + k : Nat) : Int)] ∧ Below B w wr ∧ wr.heap[D]? = some (.deferred (some [])))
      (fun i _ => m - (intOf i).toNat)
    case atStart =>
      refine ⟨0, Nat.zero_le _, rfl, ?_, hbel3, HK3.out⟩
      have h := HBLK2.out
      rw [HQ.out, ← Hsh.st_snoc, ← HQ.out] at h
      exact h
    case round =>
      obtain ⟨k, hk, rfl, hblkr, hbelr, hKr⟩ := hrel
      have HBR := Lib.hid hblkr
      have HKR := Lib.hid hKr
      clear hblkr hKr
      by_cases hlt : k < m
      · have hkl : k < l.length := by rw [← HM.out]; exact hlt
        obtain ⟨b, off, rfl, hb, hcl⟩ := (HA.out).at_ (k := k) (by rw [u64s_len]; exact hkl)
        have hx := HL.out _ (List.getElem_mem hkl)
        have hcr : wr.cell? ⟨b, off + k, none⟩ = some (.int .u64 (l[k] : Nat)) := by
          refine (hbelr.cell (p := ⟨b, off + k, none⟩) hb).trans (hcl.trans ?_)
          simp [u64s]
        have htk : ws ++ m :: l.take (k + 1) = (ws ++ m :: l.take k) ++ [l[k]] := by
          rw [List.take_succ_eq_append_getElem hkl]; simp
        have hlen : (ws ++ m :: l.take k).length = q + 1 + k := by
          rw [List.length_append, List.length_cons, List.length_take, HQ.out]; omega
        have hsn := Hsh.st_snoc s.data.toList (ws ++ m :: l.take k) l[k]
        rw [← htk, hlen] at hsn
        obtain ⟨x, hxe⟩ : ∃ x : Nat, x = l[k] := ⟨_, rfl⟩
        rw [← hxe] at hx hcr hsn
        have HSN := Lib.hid hsn
        have HT := Lib.hid (HST.out (ws ++ m :: l.take k))
        clear hsn hxe htk hlen hcl hkl
        gi_wp2_with (refine ⟨trivial, ?_⟩; gi_at_call 187; refine (callsIn_wide.2 (take_any B _ (q + 1 + k) x _ HBR.out HT.out (by omega) hx)).mono ?_; rintro e w4 ⟨⟨r4, rfl⟩, hblk4, hg4⟩; have HBLK4 := Lib.hid hblk4; clear hblk4)
        go_roundw
        case rel =>
          refine ⟨k + 1, hlt, by go_num, ?_, hbelr.trans (below_only hg4 (Nat.le_refl _) (Nat.le_of_lt HBR.out.lt)), (hg4.block D (Array.getElem?_eq_some_iff.1 HKR.out).1 (fun e => by injection e with e; omega)).trans HKR.out⟩
          rw [HSN.out]
          exact HBLK4.out
        case measure => simp [intOf]; omega
      · have hkm : k = m := by omega
        have hbr := HBR.out
        have hall : ws ++ m :: l.take k = ws ++ m :: l := by rw [List.take_of_length_le (by rw [← HM.out]; omega)]
        rw [hall] at hbr
        have hlen : (ws ++ m :: l).length = q + 1 + k := by
          rw [List.length_append, List.length_cons, HQ.out, ← HM.out]; omega
        have hsn := Hsh.st_snoc s.data.toList (ws ++ m :: l) 0
        rw [hlen] at hsn
        have hof : Hsh.st s.data.toList ((ws ++ m :: l) ++ [0]) = Hsh.of s.data.toList l := by
          rw [HWS.out, HM.out]
          unfold Hsh.of Hsh.all Hsh.st
          rw [List.append_assoc, List.cons_append]
        rw [hof] at hsn
        have HSN := Lib.hid hsn
        have HT := Lib.hid (HST.out (ws ++ m :: l))
        have HBR2 := Lib.hid hbr
        have HKM := Lib.hid hkm
        clear hsn hof hlen hall hbr hkm
        gi_wp2_with (refine ⟨trivial, ?_⟩; gi_at_call 187; refine (callsIn_wide.2 (take_any B _ (q + 1 + k) 0 _ HBR2.out HT.out (by omega) (by omega))).mono ?_; rintro e w4 ⟨⟨r4, rfl⟩, hblk4, hg4⟩; have hc4 := Blk.cell hblk4 0; have hK4 := (hg4.block D (Array.getElem?_eq_some_iff.1 HKR.out).1 (fun e => by injection e with e; omega)).trans HKR.out; have HK4 := Lib.hid hK4; clear hblk4 hK4)
        have hb4 : Below B w w4 := hbelr.trans (below_only hg4 (Nat.le_refl _) (Nat.le_of_lt HBR.out.lt))
        refine ⟨by simp, .inl ⟨_, _, rfl, run_takeDeferred HK4.out, ?_⟩⟩
        refine ⟨_, results_tmp rfl _ _ _, by rw [HSN.out]; rfl, ?_⟩
        rw [← hBW.out]
        exact hb4.trans (belowK_b (w := w) (by rw [hBW.out]; exact Nat.le_refl _) w4 D _ _ (by rw [← hBW.out]; omega) HK4.out rfl rfl)
  case stop =>
    rintro D c pre W _ _ h _
    exact h.elim

theorem secret_any (s : ByteArray) (A : Option Addr) (m c : Nat) (l : List Nat) (w : World) (hs : s.size ≤ 9223372036854775800) (hm : m = l.length) (hmb : m ≤ 9223372036854775800) (hl : ∀ x ∈ l, x < 18446744073709551616)
    (hA : Rd w.heap.size w A (u64s l)) :
    Calls Tryz.prog 157 #[.string s, .slice A m c] w fun e w' => e = .returned (.int .u64 (Hsh.secret s.data.toList l : Nat)) ∧ Below w.heap.size w w' := by
  have hof := of_any s A m c l w hs hm hmb hl hA
  have hlt := Hsh.of_lt s.data.toList l
  obtain ⟨y, hy⟩ : ∃ y : Nat, y = Hsh.of s.data.toList l := ⟨_, rfl⟩
  have hsec : Hsh.secret s.data.toList l = 1 + y % 2305843009213693949 := by rw [hy]; rfl
  rw [← hy] at hof hlt
  rw [hsec]
  obtain ⟨z, hz⟩ : ∃ z : Nat, z = y % 2305843009213693949 := ⟨_, rfl⟩
  have hz1 : (y : Int) % 2305843009213693949 = (z : Int) := by omega
  have hz2 : z < 2305843009213693949 := by omega
  rw [← hz]
  have HOF := Lib.hid hof
  clear hof hy hsec hz hm hl hA
  go_enter Tryz.func157, Tryz.ntmps157
  go_wp2_with fail
  refine (HOF.out).mono ?_
  rintro e w' ⟨rfl, hb⟩
  go_wp2
  go_ret
  exact ⟨ret_u64 (by omega), hb⟩

end Go.Proofs.YtkicjjcangkneaaGreatDoor

/-
  The library's AppendSeq over package hash's words, and package hash's Bytes: the sum of a label and bytes, as the chapter says it; what was there is left as it was. For every label and up to 2^40 bytes.
-/
namespace Go.Proofs.YtkicjjcangkneaaGreatDoor
open Go.RowKit Go.Shelf
attribute [local go_sem] Oper.semAt_some

theorem info_u64 : (Tryz.prog.info? 25).map (fun i => (i.zero, i.size, i.bytes)) = some (some (.int .u64 0), 1, 8) := by kernel_rfl
theorem u64s_snoc (l : List Nat) (x : Nat) : u64s (l ++ [x]) = u64s l ++ [.int .u64 (x : Int)] := by simp [u64s]

set_option maxRecDepth 100000 in
set_option maxHeartbeats 2000000 in
theorem appendseq_any (xs : List UInt8) (A : Option Addr) (m c Bn g₀ cap n₁ : Nat) (w : World) (hm : m = xs.length) (hmc : m ≤ c) (hs : m ≤ 1099511627776)
    (hc : w.cell? ⟨Bn, 0, none⟩ = some (.slice A m c)) (hBn : n₁ ≤ Bn) (hBg : Bn ≠ g₀) (hBw : Bn < w.heap.size) (hg0 : n₁ ≤ g₀) (hnw : n₁ ≤ w.heap.size)
    (hA : Rd n₁ w A (u8s xs)) (hv : w.ownsRow n₁ 25 1 (.slice (some ⟨g₀, 0, none⟩) 0 cap) 0 []) :
    Calls Tryz.prog 130 #[.slice (some ⟨g₀, 0, none⟩) 0 cap, .func (.func 184) #[] #[.pointer (some ⟨Bn, 0, none⟩)]] w fun e w' =>
      ∃ g' cap', e = .returned (.slice (some ⟨g', 0, none⟩) (Hsh.sevens m) cap') ∧ w'.ownsRow n₁ 25 1 (.slice (some ⟨g', 0, none⟩) (Hsh.sevens m) cap') (Hsh.sevens m) (u64s (Hsh.words xs)) ∧ Below n₁ w w' := by
  obtain ⟨i0, hi, hz0, hz1, hz2⟩ := info_parts info_u64
  have HC := Lib.hid hc
  have HA := Lib.hid hA
  have HM := Lib.hid hm
  have HV := Lib.hid hv
  have HI := Lib.hid hi
  have HZ0 := Lib.hid hz0
  have HZ1 := Lib.hid hz1
  have HZ2 := Lib.hid hz2
  clear hc hA hm hv hi hz0 hz1 hz2
  refine (callsIn_wide (n := 3)).1 ?_
  refine callsIn_of_wp_marks Tryz.func130 rfl trivial ?_ rfl
  simp only [Tryz.ntmps130, List.size_toArray, List.length_cons, List.length_nil, Nat.reduceAdd, Nat.reduceSub, Array.replicate_succ, Array.replicate_zero, List.push_toArray, List.append_toArray, List.nil_append, List.cons_append]
  gi_wp2
  obtain ⟨n₀, hn0⟩ : ∃ n₀, n₀ = w.heap.size := ⟨_, rfl⟩
  have hbox := Boxed.new w 29 (.slice (some ⟨g₀, 0, none⟩) 0 cap)
  have hown := HV.out.alloc (.cells #[.slice (some ⟨g₀, 0, none⟩) 0 cap] 29)
  have hbel0 : Below n₁ w (w.alloc (.cells #[.slice (some ⟨g₀, 0, none⟩) 0 cap] 29)) := (Below.refl _ w).alloc hnw _
  have hcb := cell_alloc_l (.cells #[.slice (some ⟨g₀, 0, none⟩) 0 cap] 29) HC.out
  have hsz : (w.alloc (.cells #[.slice (some ⟨g₀, 0, none⟩) 0 cap] 29)).heap.size = w.heap.size + 1 := by simp
  obtain ⟨wb, hwb⟩ : ∃ wb, wb = w.alloc (.cells #[.slice (some ⟨g₀, 0, none⟩) 0 cap] 29) := ⟨_, rfl⟩
  rw [← hwb] at hbox hown hbel0 hcb hsz ⊢
  rw [← hn0] at hbox hsz hBw hnw ⊢
  have HN0 := Lib.hid hn0
  clear hwb hn0
  have hg1 : n₁ ≤ n₀ := hnw
  refine wpIn_rangeFunc_ownF rfl (by omega) (gf := 184) (lb := #[.pointer (some ⟨Bn, 0, none⟩)]) rfl trivial (enters_of Tryz.func184 (by kernel_rfl) rfl)
    (words_bytes_stops (3 - 1) (by omega) Bn g₀ n₀ n₁ xs A m c HM.out hmc (by omega) wb hBw hBg hg1 hg0 (by omega) (by omega) hcb (HA.out.below hbel0)) KeepsBut.trans (keepsBut_b (by omega)) (Below.refl _ _) (fun _ => rfl)
    (fun pre W => (∃ v, Boxed W n₀ 29 v ∧ W.ownsRow n₁ 25 1 v pre.length (u64s (pre.map Wd.val)) ∧ (v.ownBlock = some g₀ ∨ ∃ g, v.ownBlock = some g ∧ n₀ ≤ g)) ∧ (Below n₁ w W ∧ n₀ + 1 ≤ W.heap.size))
    (fun _ _ _ => False)
    (OwnFrom.and (Own.from (holdsRow_own n₁ n₀ 29 25 1 (fun pre : List Wd => pre.length) (fun pre => u64s (pre.map Wd.val)) (fun _ v => v.ownBlock = some g₀ ∨ ∃ g, v.ownBlock = some g ∧ n₀ ≤ g)) _)
      (OwnFrom.and (ownFrom_below (by rw [← HN0.out]; exact hnw) (by omega)) (fun _ _ _ _ h hg _ => Nat.le_trans h hg.size)))
    (fun _ _ _ _ _ hs _ _ => hs)
    ⟨⟨_, hbox, hown, .inl rfl⟩, hbel0, by omega⟩
    (fun x => { tmps := #[.slice (some ⟨g₀, 0, none⟩) 0 cap, .func (.func 184) #[] #[.pointer (some ⟨Bn, 0, none⟩)], .pointer (some ⟨n₀, 0, none⟩), undef, .slice none 0 0, .int .u64 (x.val : Int),
      .func (.func 184) #[] #[.pointer (some ⟨Bn, 0, none⟩)], .int .u64 (x.val : Int), undef, undef, undef, undef, undef], defers := [] }) ?assign ?body ?done ?stop
  case assign =>
    intro l x W K hK
    unfold Wd.enc
    gi_wp2
    exact hK
  case body =>
    rintro l pre x W ⟨⟨v, hv, hrow, hvb⟩, hbel, hsiz⟩ hlen
    have hcell := hv.cell
    have hfr := hv.frozen
    have hi := HI.out
    have hz0 := HZ0.out
    have hz1 := HZ1.out
    have hz2 := HZ2.out
    have hpl : pre.length ≤ 157073090000 := by unfold Hsh.sevens at hlen; omega
    have HROW := Lib.hid hrow
    have HVB := Lib.hid hvb
    clear hrow hvb
    have hle : n₁ ≤ W.heap.size := by omega
    gi_wp2_with (first
      | (gi_at_builtin; refine wpListIn_append_own_at _ rfl _ _ 29 rfl n₁ 25 i0 (.int .u64 0) 1 8 Tryz.underlying29 hi hz0 hz1 hz2 rfl (by decide) _ _ _ rfl (HROW.out.alloc _) ⟨W.heap.size, 0, none⟩ 1 1 [.int .u64 (x.val : Int)] rfl rfl (cell_one_new _ _ _) (by simp [Value.oneCell']) (by unfold maxLen; omega) (by omega) (by simp; omega) ?_; intro v' w1 hown' hgrow _ hlies; obtain ⟨g', cap', rfl⟩ := ownsRow_succ hown'; obtain ⟨hv1, hv2, hr2, hk2, hb2⟩ := hv.appended (by decide) HROW.out hle (by omega) hown' hgrow; have hc1 := hv1.cell; have hf1 := hv1.frozen))
    have hgrow' : (W.alloc (.cells #[.int .u64 (x.val : Int)] 25)).grownBy w1 v.ownBlock := hgrow
    have hlies' : some g' = v.ownBlock ∨ some g' = some (W.alloc (.cells #[.int .u64 (x.val : Int)] 25)).heap.size := hlies
    have hvb := HVB.out
    refine ⟨hk2, ?_, ⟨_, hv2, ?_, ?_⟩, hbel.trans hb2, ?_⟩
    · intro k hk hne
      refine (Below.heap_setCell w1 ⟨n₀, 0, none⟩ _ k (by show k ≠ n₀; omega)).trans ((hgrow'.block k (by simp; omega) fun e => ?_).trans (Below.heap_alloc W _ k (by omega)))
      rcases hvb with h | ⟨g, h, hg⟩
      · rw [h] at e; injection e with e; exact hne e
      · rw [h] at e; injection e with e; omega
    · rw [List.length_append, List.map_append, List.map_cons, List.map_nil, u64s_snoc]
      exact hr2
    · rcases hlies' with h | h
      · show some g' = _ ∨ ∃ g, some g' = some g ∧ n₀ ≤ g
        rw [h]
        exact hvb
      · injection h with h
        exact .inr ⟨g', rfl, by rw [h]; simp; omega⟩
    · have h1 := hgrow'.size
      simp only [World.size_alloc] at h1
      show n₀ + 1 ≤ (w1.setCell _ _).heap.size
      simp only [World.setCell, Array.size_modify]
      omega
  case done =>
    rintro D ys W hD rfl ⟨⟨v, hv, hrow, hvb⟩, hbel, hsiz⟩ hK
    rw [Hsh.uptoW_val, Hsh.uptoW_len] at hrow
    have hwd : Hsh.upto xs (Hsh.sevens m) = Hsh.words xs := by unfold Hsh.words; rw [HM.out]
    rw [hwd] at hrow
    obtain ⟨g', cap', rfl⟩ : ∃ g' cap', v = .slice (some ⟨g', 0, none⟩) (Hsh.sevens m) cap' := by
      rcases hrow.2 with ⟨rfl, _⟩ | ⟨g, cp, _, rfl, _⟩
      · rcases hvb with h | ⟨g, h, _⟩ <;> cases h
      · exact ⟨g, cp, rfl⟩
    have hcell := hv.cell
    have HROW := Lib.hid hrow
    have HK := Lib.hid hK
    clear hrow hvb hwd hK
    gi_wp2
    refine ⟨by simp, .inl ⟨_, _, rfl, run_takeDeferred HK.out, ?_⟩⟩
    refine ⟨_, results_tmp rfl _ _ _, g', cap', rfl, ownsRow_putObj HROW.out _ HK.out rfl, ?_⟩
    exact hbel.trans (belowK_b (w := wb) (by omega) W D _ _ hD HK.out rfl rfl)
  case stop =>
    rintro D c pre W _ _ h _
    exact h.elim

theorem make_u64 (q : Nat) (hq : q ≤ 1099511627776) : ∃ cur : Array Value, cur.size = q * 1 ∧
    ∀ W : World, (Instr.makeSlice 29 (.int .i64 0) (.int .i64 (q : Int))).run Tryz.prog W = .ok (.slice (some ⟨W.heap.size, 0, none⟩) 0 q) (W.alloc (.cells cur 25)) := by
  obtain ⟨i0, hi, hz0, hz1, hz2⟩ := info_parts info_u64
  refine ⟨madeCells #[.int .u64 0] (q * 1), size_madeCells _ _, fun W => ?_⟩
  have h := run_make (P := Tryz.prog) W 29 25 i0 (.int .u64 0) Tryz.underlying29 hi hz0 .i64 .i64 0 (q : Int) (by omega) (by omega) (by rw [hz2]; omega) (by omega)
  rw [hz1] at h
  exact h

theorem words_bytes_call (A : Option Addr) (m c : Nat) (w : World) :
    Calls Tryz.prog 131 #[.slice A m c] w fun e w' => e = .returned (.func (.func 184) #[] #[.pointer (some ⟨w.heap.size, 0, none⟩)]) ∧ w' = w.alloc (.cells #[.slice A m c] 28) :=
  (callsIn_wide (n := 3)).1 (words_bytes_in Fence.wide 3 trivial rfl A m c w)

theorem below_to_drew {n : Nat} {w w' : World} (h : Below n w w') : Below n w w'.drew := ⟨h.os, h.tape, h.output, h.size, h.block⟩
theorem Rd.of_own {w : World} {base e n c : Nat} {A : Option Addr} {vs : List Value} (h : w.ownsRow base e 1 (.slice A n c) n vs) : Rd w.heap.size w A vs := fun hp => by
  rcases h.2 with ⟨_, h0⟩ | ⟨g, cap, cur, e1, _, hg, _⟩
  · have := h.1; omega
  · have hc := h.cells (g := g) (by rw [e1]; rfl)
    injection e1 with e1
    subst e1
    exact ⟨g, 0, rfl, (Array.getElem?_eq_some_iff.1 hg).1, fun i u hu => by have h1 := hc i u hu; rwa [Addr.add_lit] at h1⟩

/-- AppendSeq over words, in the two rows in which the slice and the iterator may be made. -/
theorem appendseq_two (xs : List UInt8) (A : Option Addr) (m c q : Nat) (cur : Array Value) (w : World) (hm : m = xs.length) (hmc : m ≤ c) (hs : m ≤ 1099511627776) (hA : Rd w.heap.size w A (u8s xs)) (hcur : cur.size = q * 1) (hq : q ≤ 1099511627776)
    (W : World) (g Bn : Nat) (hgb : (g = w.heap.size ∧ Bn = w.heap.size + 1) ∨ (g = w.heap.size + 1 ∧ Bn = w.heap.size)) (hg : W.heap[g]? = some (.cells cur 25 (0, 0))) (hb : W.heap[Bn]? = some (.cells #[.slice A m c] 28 (0, 0)))
    (hW : Below w.heap.size w W) (hsz : W.heap.size = w.heap.size + 2) :
    Calls Tryz.prog 130 #[.slice (some ⟨g, 0, none⟩) 0 q, .func (.func 184) #[] #[.pointer (some ⟨Bn, 0, none⟩)]] W fun e w' =>
      ∃ g' cap', e = .returned (.slice (some ⟨g', 0, none⟩) (Hsh.sevens m) cap') ∧ w'.ownsRow w.heap.size 25 1 (.slice (some ⟨g', 0, none⟩) (Hsh.sevens m) cap') (Hsh.sevens m) (u64s (Hsh.words xs)) ∧ Below w.heap.size w w' :=
  (appendseq_any xs A m c Bn g q w.heap.size W hm hmc hs (cell_of_box_l hb).1 (by omega) (by omega) (by omega) (by omega) (by omega) (hA.below hW)
    ⟨by simp, .inr ⟨g, q, cur, rfl, by omega, hg, Nat.zero_le _, by unfold maxLen; omega, hcur, by simp⟩⟩).mono fun _ _ ⟨g', cap', e, hr, hb'⟩ => ⟨g', cap', e, hr, hW.trans hb'⟩

set_option maxRecDepth 100000 in
set_option maxHeartbeats 2000000 in
theorem bytes_any (s : ByteArray) (xs : List UInt8) (A : Option Addr) (m c : Nat) (w : World) (hm : m = xs.length) (hmc : m ≤ c) (hs : m ≤ 1099511627776) (hss : s.size ≤ 9223372036854775800) (hA : Rd w.heap.size w A (u8s xs)) :
    Calls Tryz.prog 57 #[.string s, .slice A m c] w fun e w' => e = .returned (.int .u64 (Hsh.bytes s.data.toList xs : Nat)) ∧ Below w.heap.size w w' := by
  have HA := Lib.hid hA
  have HM := Lib.hid hm
  clear hA hm
  obtain ⟨q, hq⟩ : ∃ q : Nat, q = m / 7 + 2 := ⟨_, rfl⟩
  have hq0 : IntKind.i64.wrap ((m : Int) / 7) = (m : Int) / 7 := by rw [IntKind.wrap_i64]; omega
  have hq1 : IntKind.i64.wrap ((m : Int) / 7 + 2) = (q : Int) := by rw [IntKind.wrap_i64]; omega
  obtain ⟨cur, hcur, hmk⟩ := make_u64 q (by omega)
  have h1 := Lib.hid (appendseq_two xs A m c q cur w HM.out hmc hs HA.out hcur (by omega) ((w.alloc (.cells cur 25)).alloc (.cells #[.slice A m c] 28)).drew w.heap.size (w.heap.size + 1) (.inl ⟨rfl, rfl⟩)
    (blk_alloc (blk_new w 25 cur) _) (by have h := blk_new (w.alloc (.cells cur 25)) 28 #[.slice A m c]; rw [World.size_alloc] at h; exact h) (below_to_drew (((Below.refl _ w).alloc (Nat.le_refl _) _).alloc (by simp) _)) (by simp))
  have h2 := Lib.hid (appendseq_two xs A m c q cur w HM.out hmc hs HA.out hcur (by omega) ((w.alloc (.cells #[.slice A m c] 28)).alloc (.cells cur 25)).drew (w.heap.size + 1) w.heap.size (.inr ⟨rfl, rfl⟩)
    (by have h := blk_new (w.alloc (.cells #[.slice A m c] 28)) 25 cur; rw [World.size_alloc] at h; exact h) (blk_alloc (blk_new w 28 #[.slice A m c]) _) (below_to_drew (((Below.refl _ w).alloc (Nat.le_refl _) _).alloc (by simp) _)) (by simp))
  have HQ := Lib.hid hq
  clear hq hcur
  obtain ⟨i0, hi, hz0, hz1, hz2⟩ := info_parts info_u64
  have HI := Lib.hid hi
  have HZ0 := Lib.hid hz0
  have HZ1 := Lib.hid hz1
  have HZ2 := Lib.hid hz2
  clear hi hz0 hz1 hz2
  have HLEN := Lib.hid (show Hsh.sevens m + 1 = (Hsh.words xs ++ [m]).length by rw [List.length_append, Hsh.words_len, ← HM.out]; rfl)
  have HLT := Lib.hid (show ∀ x ∈ Hsh.words xs ++ [m], x < 18446744073709551616 by
    intro x hx
    rcases List.mem_append.1 hx with h | h
    · exact Nat.lt_trans (Hsh.words_lt xs x h) (by omega)
    · rw [List.mem_singleton.1 h]; omega)
  have HSN := Lib.hid (u64s_snoc (Hsh.words xs) m).symm
  have hsv : Hsh.sevens m ≤ 157073090000 := by unfold Hsh.sevens; omega
  go_enter Tryz.func57, Tryz.ntmps57
  go_wp2_with fail
  go_region_with (first
    | (go_at_call 131; refine (words_bytes_call _ _ _ _).mono ?_; rintro e w' ⟨rfl, rfl⟩)
    | (go_at_call 130; ((with_reducible refine (h1.out).mono ?_); rintro e w3 ⟨g', cap', rfl, hrow, hbel⟩; have HROW := Lib.hid hrow; clear hrow))
    | (go_at_call 130; ((with_reducible refine (h2.out).mono ?_); rintro e w3 ⟨g', cap', rfl, hrow, hbel⟩; have HROW := Lib.hid hrow; clear hrow)))
  all_goals
    go_wp2_with (first
      | (at_builtin; refine wpList_append_own _ rfl _ _ 29 rfl w.heap.size 25 i0 (.int .u64 0) 1 8 Tryz.underlying29 HI.out HZ0.out HZ1.out HZ2.out rfl (by decide) _ _ _ rfl (HROW.out.alloc _) ⟨w3.heap.size, 0, none⟩ 1 1 [.int .u64 (m : Int)] rfl rfl (cell_one_new _ _ _) (by simp [Value.oneCell']) (by unfold maxLen; omega) (by omega) (by have := hbel.size; simp; omega) ?_; intro v' w4 hown' hgrow _; obtain ⟨g2, cap2, rfl⟩ := ownsRow_succ hown'; have HOWN := Lib.hid hown'; clear hown')
      | (go_at_call 132; refine (of_any s (some ⟨g2, 0, none⟩) (Hsh.sevens m + 1) cap2 (Hsh.words xs ++ [m]) w4 hss HLEN.out (by omega) HLT.out (Rd.of_own (HSN.out ▸ HOWN.out))).mono ?_; rintro e w5 ⟨rfl, hb5⟩))
    go_ret
    refine ⟨by rw [HM.out]; rfl, ?_⟩
    have hg2 : (w3.alloc (.cells #[.int .u64 (m : Int)] 25)).grownBy w4 (some g') := hgrow
    have hg0 : w.heap.size ≤ g' := (HROW.out.lt g' rfl).1
    exact (hbel.trans (((Below.refl _ w3).alloc (hbel.size) _).grown hg2 (by simp; have := hbel.size; omega) (fun j e => by injection e with e; omega))).trans (hb5.mono (by have := hbel.size; have := hg2.size; simp at this; omega))


end Go.Proofs.YtkicjjcangkneaaGreatDoor

/-
  Package hash's put and Stream: the bytes of a key's stream, as the chapter says it, in new memory; what was there is left as it was. For all keys of 64 bits and up to 2^20 bytes.
-/
namespace Go.Proofs.YtkicjjcangkneaaGreatDoor
open Go.RowKit

/-- The first k cells from off on hold the bytes of x. -/
def fillA (cs : Array Value) (off x : Nat) : Nat → Array Value
  | 0 => cs
  | k + 1 => (fillA cs off x k).setIfInBounds (off + k) (.int .u8 (Hsh.byteOf x k : Nat))
theorem fillA_size (cs : Array Value) (off x : Nat) : ∀ k, (fillA cs off x k).size = cs.size
  | 0 => rfl
  | k + 1 => by rw [fillA, Array.size_setIfInBounds, fillA_size cs off x k]

theorem byte_at (x k : Nat) : ((Hsh.byteOf x k : Nat) : Int) = (x : Int) / 2 ^ (8 * k) % 256 := by
  unfold Hsh.byteOf
  have e : (256 : Nat) ^ k = 2 ^ (8 * k) := by rw [Nat.pow_mul]
  rw [e, Int.natCast_emod, Int.natCast_ediv, Int.natCast_pow]
  rfl

/-! ### Stream -/
/-- What the stream's memory holds when the first a bytes are there. -/
def stg (key n a : Nat) : Array Value := ((List.range n).map fun i => if i < a then Value.int .u8 (Hsh.streamByte key i : Nat) else .int .u8 0).toArray
theorem stg_size (key n a : Nat) : (stg key n a).size = n := by simp [stg]
theorem stg_get (key n a i : Nat) (h : i < n) : (stg key n a)[i]? = some (if i < a then Value.int .u8 (Hsh.streamByte key i : Nat) else .int .u8 0) := by
  simp [stg, List.getElem?_range h]
theorem stg_zero (key n : Nat) : madeCells #[.int .u8 0] (n * 1) = stg key n 0 := by
  apply Array.ext
  · rw [size_madeCells, stg_size, Nat.mul_one]
  · intro i h1 h2
    rw [stg_size] at h2
    have h := stg_get key n 0 i h2
    rw [Array.getElem?_eq_getElem (by rw [stg_size]; exact h2)] at h
    injection h with h
    rw [h]
    simp [madeCells, Nat.mod_one]
theorem stg_more (key n a b : Nat) (ha : n ≤ a) (hb : n ≤ b) : stg key n a = stg key n b := by
  unfold stg
  congr 1
  refine List.map_congr_left fun i hi => ?_
  have hi := List.mem_range.1 hi
  rw [if_pos (by omega), if_pos (by omega)]
theorem stg_fill (key n k : Nat) : ∀ j, j ≤ 7 → 7 * k + j ≤ n → fillA (stg key n (7 * k)) (7 * k) (Hsh.streamWord key k) j = stg key n (7 * k + j)
  | 0, _, _ => rfl
  | j + 1, hj, hn => by
    rw [fillA, stg_fill key n k j (by omega) (by omega)]
    apply Array.ext
    · rw [Array.size_setIfInBounds, stg_size, stg_size]
    · intro i h1 h2
      rw [stg_size] at h2
      have e1 := stg_get key n (7 * k + (j + 1)) i h2
      rw [Array.getElem?_eq_getElem (by rw [stg_size]; exact h2)] at e1
      injection e1 with e1
      rw [e1, Array.getElem_setIfInBounds (by rw [stg_size]; exact h2)]
      by_cases hi : 7 * k + j = i
      · rw [if_pos hi, if_pos (by omega)]
        unfold Hsh.streamByte
        rw [show i / 7 = k by omega, show i % 7 = j by omega]
      · rw [if_neg hi]
        have e2 := stg_get key n (7 * k + j) i h2
        rw [Array.getElem?_eq_getElem (by rw [stg_size]; exact h2)] at e2
        injection e2 with e2
        rw [e2]
        by_cases h3 : i < 7 * k + j
        · rw [if_pos h3, if_pos (by omega)]
        · rw [if_neg h3, if_neg (by omega)]
theorem stg_stream (key n : Nat) : stg key n n = (u8s (Hsh.stream key n)).toArray := by
  unfold stg u8s Hsh.stream
  rw [List.map_map]
  congr 1
  refine List.map_congr_left fun i hi => ?_
  rw [if_pos (List.mem_range.1 hi)]
  show _ = Value.int .u8 ((Hsh.streamU key i).toNat : Int)
  rw [Hsh.streamU_val]

theorem streamword_any (key k g : Nat) (w : World) (hk : key < 18446744073709551616) (hkk : k < 18446744073709551616) (hg : Blk w g 25 #[.int .u64 key, .int .u64 k]) :
    Calls Tryz.prog 132 #[.string ⟨#[115, 116, 114, 101, 97, 109]⟩, .slice (some ⟨g, 0, none⟩) 2 2] w fun e w' => e = .returned (.int .u64 (Hsh.streamWord key k : Nat)) ∧ Below w.heap.size w w' :=
  of_any ⟨#[115, 116, 114, 101, 97, 109]⟩ (some ⟨g, 0, none⟩) 2 2 [key, k] w (by decide) rfl (by omega) (by simp; omega) (fun _ => ⟨g, 0, rfl, hg.lt, fun i u hu => by
    rw [Nat.zero_add, hg.cell i]
    simpa [u64s] using hu⟩)

theorem info_u8 : (Tryz.prog.info? 5).map (fun i => (i.zero, i.size, i.bytes)) = some (some (.int .u8 0), 1, 1) := by kernel_rfl
theorem make_u8 (key n : Nat) (hn : n ≤ 1048576) (W : World) :
    (Instr.makeSlice 28 (.int .i64 (n : Int)) (.int .i64 (n : Int))).run Tryz.prog W = .ok (.slice (some ⟨W.heap.size, 0, none⟩) n n) (W.alloc (.cells (stg key n 0) 5)) := by
  obtain ⟨i0, hi, hz0, hz1, hz2⟩ := info_parts info_u8
  have h := run_make (P := Tryz.prog) W 28 5 i0 (.int .u8 0) Tryz.underlying28 hi hz0 .i64 .i64 (n : Int) (n : Int) (by omega) (by omega) (by rw [hz2]; omega) (by omega)
  rw [hz1] at h
  rw [h]
  simp only [Int.toNat_natCast]
  rw [show (Value.int IntKind.u8 0).cells = #[.int .u8 0] from rfl, stg_zero]

end Go.Proofs.YtkicjjcangkneaaGreatDoor

/-
  The reference's sums, products and powers, and package field's Inv, answer the same natural numbers; the document's examples hold: for all numbers of 64 bits, no other condition.
-/
namespace Go.Proofs.YtkicjjcangkneaaGreatDoor
open Go.RowKit

theorem below_drewN {B : Nat} {a w : World} (h : Below B a w) (n : Nat) : Below B a (w.drewN n) := ⟨h.os, h.tape, h.output, h.size, h.block⟩

/-! ### package huddleref01 -/
theorem Fld.half_join (x y xl xh yl yh : Nat) (hx : xl = x % 4294967296) (hx' : xh = x / 4294967296) (hy : yl = y % 4294967296) (hy' : yh = y / 4294967296) :
    x * y = xl * yl + (xh * yl + xl * yh) * 4294967296 + xh * yh * 18446744073709551616 := by
  have e1 : x = xh * 4294967296 + xl := by omega
  have e2 : y = yh * 4294967296 + yl := by omega
  rw [e1, e2]
  generalize xl = p, xh = q, yl = r, yh = s
  simp only [Nat.add_mul, Nat.mul_add]
  have a1 : q * 4294967296 * (s * 4294967296) = q * s * 18446744073709551616 := by
    rw [Nat.mul_mul_mul_comm]
  have a2 : p * (s * 4294967296) = p * s * 4294967296 := by rw [Nat.mul_assoc]
  have a3 : q * 4294967296 * r = q * r * 4294967296 := by rw [Nat.mul_right_comm]
  omega

theorem Fld.half_mod (z ll mid hh : Nat) (h : z = ll + mid * 4294967296 + hh * 18446744073709551616) :
    (ll % 2305843009213693951 + mid % 536870912 * 4294967296 + mid / 536870912 + 8 * hh) % 2305843009213693951 = z % 2305843009213693951 := by
  omega

theorem Fld.prod_le (a b m n : Nat) (ha : a ≤ m) (hb : b ≤ n) : a * b ≤ m * n := Nat.mul_le_mul ha hb

set_option maxHeartbeats 800000 in
theorem rmul_quiet (a b : Nat) (w : World) :
    Calls Tryz.prog 189 #[.int .u64 a, .int .u64 b] w fun e w' => e = .returned (.int .u64 (Fld.mul a b : Nat)) ∧ ∃ n, w' = w.drewN n := by
  obtain ⟨x, hx⟩ : ∃ x : Nat, x = Fld.num a := ⟨_, rfl⟩
  obtain ⟨y, hy⟩ : ∃ y : Nat, y = Fld.num b := ⟨_, rfl⟩
  have hx1 : (a : Int) % 2305843009213693951 = (x : Int) := by rw [hx]; rfl
  have hy1 : (b : Int) % 2305843009213693951 = (y : Int) := by rw [hy]; rfl
  have hxl : x < 2305843009213693951 := hx ▸ Fld.num_lt a
  have hyl : y < 2305843009213693951 := hy ▸ Fld.num_lt b
  have HX := Lib.hid hx
  have HY := Lib.hid hy
  clear hx hy
  obtain ⟨xl, e1⟩ : ∃ xl : Nat, xl = x % 4294967296 := ⟨_, rfl⟩
  obtain ⟨xh, e2⟩ : ∃ xh : Nat, xh = x / 4294967296 := ⟨_, rfl⟩
  obtain ⟨yl, e3⟩ : ∃ yl : Nat, yl = y % 4294967296 := ⟨_, rfl⟩
  obtain ⟨yh, e4⟩ : ∃ yh : Nat, yh = y / 4294967296 := ⟨_, rfl⟩
  have m1 : (x : Int) % 4294967296 = (xl : Int) := by omega
  have m2 : (x : Int) / 4294967296 = (xh : Int) := by omega
  have m3 : (y : Int) % 4294967296 = (yl : Int) := by omega
  have m4 : (y : Int) / 4294967296 = (yh : Int) := by omega
  have b1 : xl ≤ 4294967295 := by omega
  have b2 : xh ≤ 536870911 := by omega
  have b3 : yl ≤ 4294967295 := by omega
  have b4 : yh ≤ 536870911 := by omega
  have HJ := Lib.hid (Fld.half_join x y xl xh yl yh e1 e2 e3 e4)
  clear e1 e2 e3 e4
  have p1 := Fld.prod_le _ _ _ _ b1 b3
  have p2 := Fld.prod_le _ _ _ _ b2 b3
  have p3 := Fld.prod_le _ _ _ _ b1 b4
  have p4 := Fld.prod_le _ _ _ _ b2 b4
  obtain ⟨ll, f1⟩ : ∃ ll : Nat, ll = xl * yl := ⟨_, rfl⟩
  obtain ⟨u, f2⟩ : ∃ u : Nat, u = xh * yl := ⟨_, rfl⟩
  obtain ⟨v, f3⟩ : ∃ v : Nat, v = xl * yh := ⟨_, rfl⟩
  obtain ⟨hh, f4⟩ : ∃ hh : Nat, hh = xh * yh := ⟨_, rfl⟩
  have HJ2 : Hid (x * y = ll + (u + v) * 4294967296 + hh * 18446744073709551616) := by rw [f1, f2, f3, f4]; exact HJ
  rw [← f1] at p1
  rw [← f2] at p2
  rw [← f3] at p3
  rw [← f4] at p4
  have g1 : IntKind.u64.wrap ((xl : Int) * (yl : Int)) = (ll : Int) := by rw [← Int.natCast_mul, ← f1, IntKind.wrap_u64]; omega
  have g2 : IntKind.u64.wrap ((xh : Int) * (yl : Int)) = (u : Int) := by rw [← Int.natCast_mul, ← f2, IntKind.wrap_u64]; omega
  have g3 : IntKind.u64.wrap ((xl : Int) * (yh : Int)) = (v : Int) := by rw [← Int.natCast_mul, ← f3, IntKind.wrap_u64]; omega
  have g4 : IntKind.u64.wrap ((xh : Int) * (yh : Int)) = (hh : Int) := by rw [← Int.natCast_mul, ← f4, IntKind.wrap_u64]; omega
  clear f1 f2 f3 f4 HJ b1 b2 b3 b4
  obtain ⟨mid, k1⟩ : ∃ mid : Nat, mid = u + v := ⟨_, rfl⟩
  have g5 : IntKind.u64.wrap ((u : Int) + (v : Int)) = (mid : Int) := by rw [IntKind.wrap_u64]; omega
  have bm : mid < 4611686018427387904 := by omega
  obtain ⟨l0, k2⟩ : ∃ l0 : Nat, l0 = ll % 2305843009213693951 := ⟨_, rfl⟩
  have g6 : (ll : Int) % 2305843009213693951 = (l0 : Int) := by omega
  obtain ⟨c, k3⟩ : ∃ c : Nat, c = mid % 536870912 := ⟨_, rfl⟩
  obtain ⟨d, k4⟩ : ∃ d : Nat, d = mid / 536870912 := ⟨_, rfl⟩
  have g7 : (mid : Int) % 536870912 = (c : Int) := by omega
  have g8 : (mid : Int) / 536870912 = (d : Int) := by omega
  have GD := Lib.hid (show IntKind.u64.wrap (d : Int) = (d : Int) by rw [IntKind.wrap_u64]; omega)
  obtain ⟨s1, k5⟩ : ∃ s1 : Nat, s1 = c * 4294967296 := ⟨_, rfl⟩
  obtain ⟨s2, k6⟩ : ∃ s2 : Nat, s2 = l0 + s1 := ⟨_, rfl⟩
  obtain ⟨s3, k7⟩ : ∃ s3 : Nat, s3 = s2 + d := ⟨_, rfl⟩
  obtain ⟨s4, k8⟩ : ∃ s4 : Nat, s4 = 8 * hh := ⟨_, rfl⟩
  obtain ⟨s5, k9⟩ : ∃ s5 : Nat, s5 = s3 + s4 := ⟨_, rfl⟩
  obtain ⟨s6, k10⟩ : ∃ s6 : Nat, s6 = s5 % 2305843009213693951 := ⟨_, rfl⟩
  have g9 : IntKind.u64.wrap ((c : Int) * 4294967296) = (s1 : Int) := by rw [IntKind.wrap_u64]; omega
  have g10 : IntKind.u64.wrap ((l0 : Int) + (s1 : Int)) = (s2 : Int) := by rw [IntKind.wrap_u64]; omega
  have g11 : IntKind.u64.wrap ((s2 : Int) + (d : Int)) = (s3 : Int) := by rw [IntKind.wrap_u64]; omega
  have g12 : IntKind.u64.wrap (8 * (hh : Int)) = (s4 : Int) := by rw [IntKind.wrap_u64]; omega
  have g13 : IntKind.u64.wrap ((s3 : Int) + (s4 : Int)) = (s5 : Int) := by rw [IntKind.wrap_u64]; omega
  have g14 : (s5 : Int) % 2305843009213693951 = (s6 : Int) := by omega
  have HF : Hid (s6 = Fld.mul a b) := by
    have e := Fld.half_mod (x * y) ll mid hh (by rw [k1]; exact HJ2)
    rw [← Fld.mul_num, ← HX.out, ← HY.out]
    show s6 = x * y % 2305843009213693951
    rw [← e, k10, k9, k8, k7, k6, k5, k4, k3, k2]
  clear HJ2 k1 k2 k3 k4 k5 k6 k7 k8 k9 k10 HX HY
  clear p1 p2 p3 p4 bm hxl hyl
  go_enter Tryz.func189, Tryz.ntmps189
  go_wp2
  go_quiet (fail)
  go_wp2
  go_quiet (fail)
  go_wp2
  go_quiet (fail)
  go_wp2
  go_quiet (fail)
  go_wp2
  go_ret
  refine ⟨ret_u64 ?_, ?_⟩
  · rw [← HF.out, GD.out, g11, g13, Int.tmod_eq_emod_of_nonneg (Int.natCast_nonneg _), g14]
  · simp only [World.drewN_drewN]; exact ⟨_, rfl⟩

theorem rmul_any (a b : Nat) (w : World) :
    Calls Tryz.prog 189 #[.int .u64 a, .int .u64 b] w fun e w' => e = .returned (.int .u64 (Fld.mul a b : Nat)) ∧ Below w.heap.size w w' :=
  (rmul_quiet a b w).mono fun _ _ ⟨he, n, hw⟩ => ⟨he, by rw [hw]; exact below_drewN (Below.refl _ _) n⟩

theorem radd_any (a b : Nat) (w : World) :
    Calls Tryz.prog 188 #[.int .u64 a, .int .u64 b] w fun e w' => e = .returned (.int .u64 (Fld.add a b : Nat)) ∧ w = w' := by
  have ha := Fld.num_lt a
  have hb := Fld.num_lt b
  have hs := Fld.add_eq a b
  obtain ⟨x, hx⟩ : ∃ x : Nat, x = Fld.num a := ⟨_, rfl⟩
  obtain ⟨y, hy⟩ : ∃ y : Nat, y = Fld.num b := ⟨_, rfl⟩
  have hx1 : (a : Int) % 2305843009213693951 = (x : Int) := by rw [hx]; rfl
  have hy1 : (b : Int) % 2305843009213693951 = (y : Int) := by rw [hy]; rfl
  rw [← hx] at ha hs
  rw [← hy] at hb hs
  rw [← hs]
  clear hx hy hs
  go_enter Tryz.func188, Tryz.ntmps188
  go_wp2
  go_ret
  refine ⟨ret_u64 ?_, rfl⟩
  show _ = (((x + y) % 2305843009213693951 : Nat) : Int)
  omega

/-- What the loop of the reference's power keeps: power, base, exponent left. -/
def PowInv (a n o b k : Nat) : Prop := o < 2305843009213693951 ∧ b < 2305843009213693951 ∧ o * b ^ k % Fld.P = Fld.pow a n

theorem PowInv.odd {a n o b k : Nat} (h : PowInv a n o b k) (hk : k % 2 = 1) : PowInv a n (Fld.mul o b) (Fld.mul b b) (k / 2) :=
  ⟨Fld.mul_lt _ _, Fld.mul_lt _ _, (Fld.step_odd o b k hk).trans h.2.2⟩
theorem PowInv.even {a n o b k : Nat} (h : PowInv a n o b k) (hk : k % 2 = 0) : PowInv a n o (Fld.mul b b) (k / 2) :=
  ⟨h.1, Fld.mul_lt _ _, (Fld.step_even o b k hk).trans h.2.2⟩
theorem PowInv.start (a n : Nat) : PowInv a n 1 (Fld.num a) n :=
  ⟨by omega, Fld.num_lt a, by rw [Nat.one_mul]; exact (Nat.pow_mod a n Fld.P).symm⟩
theorem PowInv.done {a n o b : Nat} (h : PowInv a n o b 0) : o = Fld.pow a n := by
  have h1 := h.2.2
  rw [Nat.pow_zero, Nat.mul_one] at h1
  rw [← h1]
  exact (Nat.mod_eq_of_lt h.1).symm

set_option maxHeartbeats 400000 in
theorem rpow_any (a n : Nat) (w : World) (hn : n < 18446744073709551616) :
    Calls Tryz.prog 149 #[.int .u64 a, .int .u64 n] w fun e w' => e = .returned (.int .u64 (Fld.pow a n : Nat)) ∧ Below w.heap.size w w' := by
  have hst := Lib.hid (PowInv.start a n)
  obtain ⟨x, hx⟩ : ∃ x : Nat, x = Fld.num a := ⟨_, rfl⟩
  have hx1 : (a : Int) % 2305843009213693951 = (x : Int) := by rw [hx]; rfl
  rw [← hx] at hst
  clear hx
  go_enter Tryz.func149, Tryz.ntmps149
  go_wp2
  have HX1 := Lib.hid hx1
  clear hx1
  go_loopw [5, 6, 7] (fun o b k wr => ∃ o' b' k' : Nat, o = .int .u64 o' ∧ b = .int .u64 b' ∧ k = .int .u64 k' ∧ k' < 18446744073709551616 ∧ PowInv a n o' b' k' ∧ Below w.heap.size w wr)
    (fun _ _ k _ => (intOf k).toNat)
  case atStart => exact ⟨1, x, n, rfl, by rw [HX1.out], rfl, hn, hst.out, Below.refl _ _⟩
  case round =>
    obtain ⟨o, b, k, rfl, rfl, rfl, hk, hI, hB⟩ := hrel
    by_cases hz : k = 0
    · subst hz
      have HI := Lib.hid hI
      clear hI
      go_wp2
      go_ret
      exact ⟨ret_u64 (by rw [HI.out.done]), hB⟩
    · have hpos : 0 < k := Nat.pos_of_ne_zero hz
      have hdv : (k : Int) / 2 = ((k / 2 : Nat) : Int) := by omega
      by_cases h1 : k % 2 = 1
      · have HI := Lib.hid (hI.odd h1)
        have hb : (((k : Int) % 2) == 1) = true := by rw [beq_iff_eq]; omega
        obtain ⟨k2, hk2⟩ : ∃ k2 : Nat, k2 = k / 2 := ⟨_, rfl⟩
        rw [← hk2] at hdv HI
        have hlt : k2 < k := by omega
        clear hk2 h1 hI hz
        go_wp2_with fail
        refine (rmul_any _ _ _).mono ?_
        rintro e w0 ⟨rfl, hb0⟩
        go_wp2_with fail
        refine (rmul_any _ _ _).mono ?_
        rintro e w' ⟨rfl, hb1⟩
        go_wp2
        go_roundw
        case rel => exact ⟨Fld.mul o b, Fld.mul b b, k2, rfl, rfl, rfl, by omega, HI.out, hB.trans ((hb0.trans (hb1.mono hb0.size)).mono hB.size)⟩
        case measure => simp [intOf]; omega
      · have h2 : k % 2 = 0 := by omega
        have HI := Lib.hid (hI.even h2)
        have hb : (((k : Int) % 2) == 1) = false := by rw [beq_eq_false_iff_ne]; omega
        obtain ⟨k2, hk2⟩ : ∃ k2 : Nat, k2 = k / 2 := ⟨_, rfl⟩
        rw [← hk2] at hdv HI
        have hlt : k2 < k := by omega
        clear hk2 h1 h2 hI hz
        go_wp2_with (go_at_call 189; refine (rmul_any _ _ _).mono ?_; rintro e w' ⟨rfl, hb1⟩)
        go_roundw
        case rel => exact ⟨o, Fld.mul b b, k2, rfl, rfl, rfl, by omega, HI.out, hB.trans (hb1.mono hB.size)⟩
        case measure => simp [intOf]; omega

theorem Fld.pow_pw (a n : Nat) (h : n < 18446744073709551616) : Fld.pow a n = Fld.pw 64 a n := (Fld.pw_eq 64 a n h).symm

end Go.Proofs.YtkicjjcangkneaaGreatDoor

/-
  The small helpers of the statements (the first so many of a text, of bytes, of numbers; a number below another; are bytes the same): what they answer; what was there is left as it was.
-/
namespace Go.Proofs.YtkicjjcangkneaaGreatDoor
open Go.RowKit

theorem around_pos (n k : Nat) (w : World) (hn : n < 9223372036854775808) (hk : 0 < k) (hk2 : k ≤ 2000000000) :
    Calls Tryz.prog 10 #[.int .i64 (n : Int), .int .i64 (k : Int)] w fun e w' => e = .returned (.int .i64 ((n % k : Nat) : Int)) ∧ w = w' := by
  have h0 : decide ((n : Int) < 0) = false := decide_eq_false (by omega)
  have hz : ((k : Int) == 0) = false := by rw [beq_eq_false_iff_ne]; omega
  have hr : (n : Int) % (k : Int) = ((n % k : Nat) : Int) := by rw [Int.natCast_emod]
  obtain ⟨r, hre⟩ : ∃ r, r = n % k := ⟨_, rfl⟩
  rw [← hre] at hr ⊢
  have HR := Lib.hid hre
  clear hre
  go_enter Tryz.func10, Tryz.ntmps10
  go_wp2
  go_ret
  exact ⟨by show Ending.returned (.int .i64 ((n : Int) % (k : Int))) = _; rw [hr], rfl⟩

theorem around_neg (m k : Nat) (z : Int) (w : World) (hz : z = -((m : Int) + 1)) (hm : m < 9223372036854775808) (hk : 0 < k) (hk2 : k ≤ 2000000000) :
    Calls Tryz.prog 10 #[.int .i64 z, .int .i64 (k : Int)] w fun e w' => e = .returned (.int .i64 ((m % k : Nat) : Int)) ∧ w = w' := by
  have h0 : decide (z < 0) = true := decide_eq_true (by omega)
  have hk0 : ((k : Int) == 0) = false := by rw [beq_eq_false_iff_ne]; omega
  have hw1 : IntKind.i64.wrap (z + 1) = z + 1 := by rw [IntKind.wrap_i64]; omega
  have hw2 : IntKind.i64.wrap (-(z + 1)) = (m : Int) := by rw [IntKind.wrap_i64]; omega
  have hr : (m : Int) % (k : Int) = ((m % k : Nat) : Int) := by rw [Int.natCast_emod]
  obtain ⟨r, hre⟩ : ∃ r, r = m % k := ⟨_, rfl⟩
  rw [← hre] at hr ⊢
  have HR := Lib.hid hre
  have HZ := Lib.hid hz
  clear hre hz
  go_enter Tryz.func10, Tryz.ntmps10
  go_wp2
  go_ret
  exact ⟨by show Ending.returned (.int .i64 ((m : Int) % (k : Int))) = _; rw [hr], rfl⟩

theorem around_any (z : Int) (k : Nat) (w : World) (h1 : -9223372036854775808 ≤ z) (h2 : z ≤ 9223372036854775807) (hk : 0 < k) (hk2 : k ≤ 2000000000) :
    Calls Tryz.prog 10 #[.int .i64 z, .int .i64 (k : Int)] w fun e w' => ∃ r : Nat, r < k ∧ e = .returned (.int .i64 (r : Int)) ∧ w = w' := by
  rcases Int.lt_or_le z 0 with h | h
  · exact (around_neg (-(z + 1)).toNat k z w (by omega) (by omega) hk hk2).mono fun _ _ ⟨he, hw⟩ => ⟨_, Nat.mod_lt _ hk, he, hw⟩
  · have e : z = ((z.toNat : Nat) : Int) := by omega
    rw [e]
    exact (around_pos z.toNat k w (by omega) hk hk2).mono fun _ _ ⟨he, hw⟩ => ⟨_, Nat.mod_lt _ hk, he, hw⟩

/-! ### the first numbers, the first bytes, in memory of their own -/
theorem slice_head (T : Nat) (hT : Tryz.prog.underlying T = some (.slice (Tryz.prog.elem T))) (hz : ∀ W : World, (sizeOf (Tryz.prog.elem T)).run Tryz.prog W = .ok 1 W) (A : Option Addr) (n c k : Nat) (hk : k ≤ c) (W : World) :
    (Instr.slice T (.slice A n c) none (some (.int .i64 (k : Int))) none).run Tryz.prog W = .ok (.slice A k c) W := by
  have h := run_slice_h (P := Tryz.prog) W T A n c hT .i64 (k : Int) (by omega) (by omega)
  rw [h, hz]
  simp only [Result.andThen, sliced, Int.toNat_natCast, Nat.zero_mul, Nat.sub_zero]
  rcases A with _ | ad
  · by_cases hc0 : c = 0 <;> simp [hc0]
  · simp [Addr.add]

theorem nums_src (l : List Nat) (b off : Nat) (w : World) (k : Nat) (hc : ∀ i u, (u64s l)[i]? = some u → w.cell? ⟨b, off + i, none⟩ = some u) : ∀ j u, (u64s (l.take k))[j]? = some u → w.cell? ((⟨b, off, none⟩ : Addr).add j) = some u := by
  intro j u hu
  rw [Addr.add_lit]
  refine hc j u ?_
  unfold u64s at hu ⊢
  rw [List.getElem?_map, List.getElem?_take] at hu
  rw [List.getElem?_map]
  split at hu
  · exact hu
  · simp at hu

theorem few_src (l : List UInt8) (b off : Nat) (w : World) (k : Nat) (hc : ∀ i u, (u8s l)[i]? = some u → w.cell? ⟨b, off + i, none⟩ = some u) : ∀ j u, (u8s (l.take k))[j]? = some u → w.cell? ((⟨b, off, none⟩ : Addr).add j) = some u := by
  intro j u hu
  rw [Addr.add_lit]
  refine hc j u ?_
  unfold u8s at hu ⊢
  rw [List.getElem?_map, List.getElem?_take] at hu
  rw [List.getElem?_map]
  split at hu
  · exact hu
  · simp at hu

set_option maxHeartbeats 800000 in
theorem few_any (l : List UInt8) (A : Option Addr) (n c most : Nat) (w : World) (hn : n = l.length) (hnc : n ≤ c) (hmost : most ≤ 1000) (hA : Rd w.heap.size w A (u8s l)) (hnil : A = none → c = 0) :
    Calls Tryz.prog 23 #[.slice A n c, .int .i64 (most : Int)] w fun e w' => ∃ A' c', e = .returned (.slice A' (min n most) c') ∧
      w'.ownsRow w.heap.size 5 1 (.slice A' (min n most) c') (min n most) (u8s (l.take most)) ∧ Below w.heap.size w w' := by
  obtain ⟨i0, hi, hz0, hz1, hz2⟩ := info_parts info_u8
  obtain ⟨k, hk⟩ : ∃ k, k = min n most := ⟨_, rfl⟩
  have hif : (if most < n then (most : Int) else (n : Int)) = (k : Int) := by rw [hk]; split <;> omega
  have hkc : k ≤ c := by omega
  have hk6 : k ≤ 1000 := by omega
  have hsl := slice_head 28 (by kernel_rfl) (fun W => by kernel_rfl) A n c k hkc
  have hlen : (u8s (l.take most)).length = k * 1 := by rw [u8s_len, List.length_take]; omega
  have htk : l.take most = l.take k := by
    rw [hk]
    rcases Nat.le_total n most with h | h
    · rw [List.take_of_length_le (by omega), List.take_of_length_le (by omega)]
    · rw [show min n most = most by omega]
  rw [htk] at hlen
  rw [htk, ← hk]
  have hcell1 : ∀ u ∈ u8s (l.take k), u.oneCell' = true := by
    intro u hu
    obtain ⟨x, _, rfl⟩ := List.mem_map.1 hu
    rfl
  have hnilrow := World.ownsRow_nil w w.heap.size 5 1
  rcases A with _ | ad
  · have h0 := hnil rfl
    obtain rfl : c = 0 := h0
    have hk0 : k = 0 := by omega
    subst hk0
    have HL := Lib.hid hlen
    have HI := Lib.hid hi
    have HN := Lib.hid hnilrow
    clear hlen hi hz0 hz1 hz2 hcell1 hn hk htk hA hnil hnilrow
    go_enter Tryz.func23, Tryz.ntmps23
    go_wp2_with (at_builtin; refine wpList_append_own_none rfl _ _ 28 rfl w.heap.size 5 i0 _ Tryz.underlying28 HI.out _ 0 [] rfl HN.out rfl ?_)
    go_ret
    refine ⟨none, 0, rfl, ?_, Below.refl _ _⟩
    have e : u8s (l.take 0) = [] := rfl
    rw [e]
    exact HN.out
  · have hsrc : ∀ j u, (u8s (l.take k))[j]? = some u → w.cell? (ad.add j) = some u := by
      rcases Nat.eq_zero_or_pos n with h0 | h0
      · have e : l = [] := List.eq_nil_of_length_eq_zero (by omega)
        subst e
        intro j u hu
        simp [u8s] at hu
      · obtain ⟨b, off, e, _, hc⟩ := hA (by rw [u8s_len]; omega)
        injection e with e
        subst e
        exact few_src l b off w k hc
    have HL := Lib.hid hlen
    have HI := Lib.hid hi
    have HZ0 := Lib.hid hz0
    have HZ1 := Lib.hid hz1
    have HZ2 := Lib.hid hz2
    have HS := Lib.hid hsrc
    have HC := Lib.hid hcell1
    have HN := Lib.hid hnilrow
    clear hlen hi hz0 hz1 hz2 hsrc hcell1 hn hk htk hA hnil hnilrow
    go_enter Tryz.func23, Tryz.ntmps23
    go_wp2_with (at_builtin; refine wpList_append_own _ rfl _ _ 28 rfl w.heap.size 5 i0 (.int .u8 0) 1 1 Tryz.underlying28 HI.out HZ0.out HZ1.out HZ2.out rfl (by decide) _ 0 [] rfl HN.out ad k c (u8s (l.take k)) rfl HL.out HS.out HC.out (by unfold maxLen; omega) (by omega) (Nat.le_refl _) ?_; intro v' w1 hown' hgrow _; have HO := Lib.hid hown'; clear hown')
    go_ret
    have ho := HO.out
    rw [List.nil_append, Nat.zero_add] at ho
    obtain ⟨A', c', rfl⟩ : ∃ A' c', v' = .slice A' k c' := by
      rcases ho.2 with ⟨rfl, h0⟩ | ⟨g, cp, _, rfl, _⟩
      · exact ⟨none, 0, by rw [h0]⟩
      · exact ⟨_, cp, rfl⟩
    exact ⟨A', c', rfl, ho, (Below.refl _ w).grown hgrow (Nat.le_refl _) (fun j e => by cases e)⟩

end Go.Proofs.YtkicjjcangkneaaGreatDoor

/-
  The statements' question whether bytes are the same: true just if they are; what was there is left as it was.
-/
namespace Go.Proofs.YtkicjjcangkneaaGreatDoor
open Go.RowKit

theorem byte_cell {w : World} {B : Nat} {A : Option Addr} {xs : List UInt8} (h : Rd B w A (u8s xs)) {k : Nat} (hk : k < xs.length) : ∃ b off, A = some ⟨b, off, none⟩ ∧ b < B ∧ w.cell? ⟨b, off + k, none⟩ = some (.int .u8 ((xs[k]).toNat : Int)) := by
  obtain ⟨b, off, e, hb, hc⟩ := h.at_ (k := k) (by rw [u8s_len]; exact hk)
  exact ⟨b, off, e, hb, by rw [hc]; simp [u8s]⟩

end Go.Proofs.YtkicjjcangkneaaGreatDoor

/-
  The references of chapter 2: words of bytes, sums of labels, of bytes, secrets; they answer the same plain functions as package hash; what was there is left as it was.
-/
namespace Go.Proofs.YtkicjjcangkneaaGreatDoor
open Go.RowKit

theorem le_drop (xs : List UInt8) (p b : Nat) (hp : p < b) (hb : b ≤ xs.length) :
    Hsh.le ((xs.drop p).take (b - p)) = (xs[p]'(by omega)).toNat + 256 * Hsh.le ((xs.drop (p + 1)).take (b - (p + 1))) := by
  rw [List.drop_eq_getElem_cons (show p < xs.length by omega), show b - p = (b - (p + 1)) + 1 by omega, List.take_succ_cons]
  rfl
theorem le_part_lt (xs : List UInt8) (p b : Nat) (hpb : b ≤ p + 6) : Hsh.le ((xs.drop p).take (b - p)) < 281474976710656 := by
  have h := Hsh.le_lt ((xs.drop p).take (b - p))
  have h2 : (256 : Nat) ^ ((xs.drop p).take (b - p)).length ≤ 256 ^ 6 := Nat.pow_le_pow_right (by omega) (by rw [List.length_take]; omega)
  have h3 : (256 : Nat) ^ 6 = 281474976710656 := by decide
  omega

set_option maxRecDepth 100000 in
set_option maxHeartbeats 2000000 in
theorem rwords_any (xs : List UInt8) (A : Option Addr) (m c : Nat) (w : World) (hm : m = xs.length) (hs : m ≤ 1000000) (hA : Rd w.heap.size w A (u8s xs)) :
    Calls Tryz.prog 134 #[.slice A m c] w fun e w' => ∃ A' c', e = .returned (.slice A' (Hsh.sevens m) c') ∧
      w'.ownsRow w.heap.size 25 1 (.slice A' (Hsh.sevens m) c') (Hsh.sevens m) (u64s (Hsh.words xs)) ∧ Below w.heap.size w w' := by
  obtain ⟨i0, hi, hz0, hz1, hz2⟩ := info_parts info_u64
  obtain ⟨B, hB⟩ : ∃ B, B = w.heap.size := ⟨_, rfl⟩
  rw [← hB] at hA ⊢
  have hnil := World.ownsRow_nil w B 25 1
  have hbel0 : Below B w w := Below.refl _ _
  have HBS := Lib.hid hB
  have HM := Lib.hid hm
  have HA := Lib.hid hA
  have HNIL := Lib.hid hnil
  have HI := Lib.hid hi
  have HZ0 := Lib.hid hz0
  have HZ1 := Lib.hid hz1
  have HZ2 := Lib.hid hz2
  clear hB hm hA hnil hi hz0 hz1 hz2
  go_enter Tryz.func134, Tryz.ntmps134
  go_wp2
  go_loopw [3, 4, 5, 6] (fun o i _ _ wr => ∃ a k : Nat, i = .int .i64 a ∧ a = 7 * k ∧ k ≤ Hsh.sevens m ∧ (∃ A' c', o = .slice A' k c') ∧ wr.ownsRow B 25 1 o k (u64s (Hsh.upto xs k)) ∧ Below B w wr) (fun _ i _ _ _ => m + 7 - (intOf i).toNat)
  case atStart => exact ⟨0, 0, rfl, rfl, Nat.zero_le _, ⟨_, _, rfl⟩, HNIL.out, hbel0⟩
  case round =>
    obtain ⟨a, k, rfl, ha, hk, ⟨A1, c1, rfl⟩, hrow, hbel⟩ := hrel
    unfold Hsh.sevens at hk
    have HROW := Lib.hid hrow
    have HAK := Lib.hid ha
    have hk2 : k ≤ 142860 := by omega
    clear hrow
    by_cases hlt : a < m
    · obtain ⟨d, hd⟩ : ∃ d : Nat, d = a + 7 := ⟨_, rfl⟩
      obtain ⟨b, hb⟩ : ∃ b : Nat, b = min (7 * k + 7) xs.length := ⟨_, rfl⟩
      have hbm : b = min m (a + 7) := by have := HM.out; omega
      have hif : (if (a : Int) + 7 < (m : Int) then (a : Int) + 7 else (m : Int)) = (b : Int) := by split <;> omega
      have hword := word_take xs k b hb
      rw [← ha] at hword
      have hbx : b ≤ xs.length := by omega
      have hab : a < b := by omega
      have hb7 : b ≤ a + 7 := by omega
      obtain ⟨wo, hwo⟩ : ∃ wo : World, wo = wr := ⟨_, rfl⟩
      subst hwo
      have HW := Lib.hid hword
      clear ha hd hb hbm hword
      go_wp2
      have hmx : xs.length ≤ 1000000 := by rw [← HM.out]; exact hs
      go_loop [5, 6] (fun v i => ∃ p : Nat, a ≤ p ∧ p ≤ b ∧ i = .int .i64 ((p : Int) - 1) ∧ v = .int .u64 (Hsh.le ((xs.drop p).take (b - p)) : Nat)) (fun _ i => (intOf i + 1).toNat)
      case atStart => exact ⟨b, by omega, Nat.le_refl _, rfl, by rw [Nat.sub_self, List.take_zero]; rfl⟩
      case round =>
        obtain ⟨p, hap, hpb, rfl, rfl⟩ := hrel
        by_cases hpa : a < p
        · obtain ⟨p1, rfl⟩ : ∃ p1, p = p1 + 1 := ⟨p - 1, by omega⟩
          have hp1 : (((p1 + 1 : Nat) : Int) - 1) = (p1 : Int) := by omega
          have hge : decide ((a : Int) ≤ (p1 : Int)) = true := decide_eq_true (by omega)
          have hpx : p1 < xs.length := by omega
          obtain ⟨g, off, rfl, hg, hcl⟩ := byte_cell HA.out hpx
          have hcw := (hbel.cell (p := ⟨g, off + p1, none⟩) hg).trans hcl
          have hled := le_drop xs p1 b (by omega) hbx
          have hlt2 := le_part_lt xs (p1 + 1) b (by omega)
          have hy := (xs[p1]).toNat_lt
          obtain ⟨y, hye⟩ : ∃ y : Nat, y = (xs[p1]).toNat := ⟨_, rfl⟩
          obtain ⟨z, hz⟩ : ∃ z : Nat, z = Hsh.le ((xs.drop (p1 + 1)).take (b - (p1 + 1))) := ⟨_, rfl⟩
          rw [← hye] at hcw hled hy
          rw [← hz] at hlt2 hled ⊢
          rw [hp1]
          have HLE := Lib.hid hled
          clear hcl hled hye hz hpx hp1
          go_wp2
          go_round
          case rel => exact ⟨p1, by omega, by omega, rfl, by rw [HLE.out]; go_num⟩
          case measure => simp [intOf]
        · obtain rfl : a = p := by omega
          obtain ⟨x, hx⟩ : ∃ x : Nat, x = Hsh.le ((xs.drop a).take (b - a)) := ⟨_, rfl⟩
          rw [← hx]
          have hxw : x = Hsh.word xs k := by rw [hx]; exact HW.out
          have hge : decide ((a : Int) ≤ (a : Int) - 1) = false := decide_eq_false (by omega)
          have hsz := hbel.size
          have hBw : B ≤ wo.heap.size := by have := HBS.out; omega
          have HX := Lib.hid hxw
          clear hx hxw
          go_wp2_with (at_builtin; refine wpList_append_own _ rfl _ _ 29 rfl B 25 i0 (.int .u64 0) 1 8 Tryz.underlying29 HI.out HZ0.out HZ1.out HZ2.out rfl (by decide) _ _ _ rfl (HROW.out.alloc _) ⟨wo.heap.size, 0, none⟩ 1 1 [.int .u64 (x : Int)] rfl rfl (cell_one_new _ _ _) (by simp [Value.oneCell']) (by unfold maxLen; omega) (by omega) (by simp; omega) ?_; intro v' w1 hown' hgrow _; obtain ⟨g', cap', rfl⟩ := ownsRow_succ hown'; have HO := Lib.hid hown'; clear hown')
          go_roundw
          case rel =>
            refine ⟨a + 7, k + 1, by go_num, by have := HAK.out; omega, by have := HAK.out; unfold Hsh.sevens; omega, ⟨_, _, rfl⟩, ?_, ?_⟩
            · have h := HO.out
              rw [HX.out, ← u64s_snoc, ← Hsh.upto_succ] at h
              exact h
            · have hg2 : (wo.alloc (.cells #[.int .u64 (x : Int)] 25)).grownBy w1 (Value.slice A1 k c1).ownBlock := hgrow
              exact hbel.trans (((Below.refl B wo).alloc hBw _).grown hg2 (by simp; omega) (fun j e => (HROW.out.lt j e).1))
          case measure => simp [intOf]; omega
    · have e : k = Hsh.sevens m := by unfold Hsh.sevens; omega
      have hup : Hsh.upto xs k = Hsh.words xs := by rw [e]; unfold Hsh.words; rw [HM.out]
      have hr := HROW.out
      rw [hup] at hr
      have HR := Lib.hid hr
      have HE := Lib.hid e
      clear hr hup ha hk e
      go_wp2
      go_ret
      exact ⟨A1, c1, by rw [← HE.out]; rfl, by rw [← HE.out]; exact HR.out, hbel⟩

theorem quiet_any {P : Program} {f : FuncId} {args : Array Value} {w : World} {n : Nat} {v : Value} (h : ∀ W : World, Calls P f args W fun e w' => e = .returned v ∧ ∃ m, w' = W.drewN m) :
    Calls P f args (w.drewN n) fun e w'' => e = .returned v ∧ ∃ m, w'' = w.drewN m :=
  (h _).mono fun _ _ ⟨he, m, hm⟩ => ⟨he, n + m, by rw [hm, World.drewN_drewN]⟩
theorem quiet_same {P : Program} {f : FuncId} {args : Array Value} {v : Value} (h : ∀ W : World, Calls P f args W fun e w' => e = .returned v ∧ W = w') (W : World) : Calls P f args W fun e w' => e = .returned v ∧ ∃ m, w' = W.drewN m :=
  (h W).mono fun _ _ ⟨he, hw⟩ => ⟨he, 0, hw ▸ rfl⟩

theorem cell_block {W : World} {B t : Nat} {cs : Array Value} {fr : Nat × Nat} (h : W.heap[B]? = some (.cells cs t fr)) (i : Nat) : W.cell? ⟨B, i, none⟩ = cs[i]? := by simp [World.cell?, h]
theorem label_bytes (s : ByteArray) (w : World) : ∃ (cap : Nat) (w1 : World), (convert 9 28 (.string s)).run Tryz.prog w = .ok (.slice (some ⟨w.heap.size, 0, none⟩) s.size cap) w1 ∧
    Rd w1.heap.size w1 (some ⟨w.heap.size, 0, none⟩) (u8s s.data.toList) ∧ Below w.heap.size w w1 := by
  have h := run_bytes_of_string (P := Tryz.prog) w 9 28 5 s Tryz.underlying9 Tryz.underlying28 Tryz.underlying5
  refine ⟨_, _, h, ?_, (below_to_drew (Below.refl _ w)).alloc (Nat.le_refl _) _⟩
  intro _
  refine ⟨_, 0, rfl, by simp, fun i u hu => ?_⟩
  rw [Nat.zero_add]
  obtain ⟨cap, hcap⟩ : ∃ cap, cap = grownCap w s.size 0 5 := ⟨_, rfl⟩
  rw [← hcap]
  have hi : i < s.data.size := by
    rcases Nat.lt_or_ge i s.data.size with h1 | h1
    · exact h1
    · unfold u8s at hu
      rw [List.getElem?_eq_none (by simpa using h1)] at hu
      cases hu
  have hb := bytesRow_at s cap i hi
  have hcell : (w.drew.alloc (.cells (bytesRow s cap) 5 ((bytesRow s cap).size, (bytesRow s cap).size + 1))).cell? ⟨w.heap.size, i, none⟩ = (bytesRow s cap)[i]? :=
    cell_block (heap_alloc_new w.drew (.cells (bytesRow s cap) 5 ((bytesRow s cap).size, (bytesRow s cap).size + 1))) i
  rw [hcell, hb, ← hu]
  unfold u8s
  rw [List.getElem?_map, List.getElem?_eq_getElem (by simpa using hi)]
  rfl

end Go.Proofs.YtkicjjcangkneaaGreatDoor

/-
  The references' sum of a label and numbers, of bytes, and secrets: the same plain functions as package hash's; what was there is left as it was. For labels and rows of up to a million.
-/
namespace Go.Proofs.YtkicjjcangkneaaGreatDoor
open Go.RowKit

namespace Hsh
/-- What the reference sums up. -/
def rall (label : List UInt8) (l : List Nat) : List Nat := words label ++ l.length :: (l.map (· % 2305843009213693951) ++ [0])
theorem rall_of (label : List UInt8) (l : List Nat) : fold label.length 1 (rall label l) = of label l := by
  refine fold_mod _ _ ?_ _ _
  have e : (fun x : Nat => x % 2305843009213693951 % Fld.P) = fun x => x % Fld.P := by
    funext x
    rw [Fld.P_val]
    omega
  simp only [rall, all, List.map_append, List.map_cons, List.map_map]
  congr 2
  congr 1
  refine List.map_congr_left fun x _ => ?_
  show x % 2305843009213693951 % Fld.P = x % Fld.P
  rw [Fld.P_val]; omega
end Hsh

set_option maxRecDepth 100000 in
set_option maxHeartbeats 2000000 in
theorem rof_any (s : ByteArray) (l : List Nat) (A : Option Addr) (m c : Nat) (w : World) (hs : s.size ≤ 1000000) (hm : m = l.length) (hmb : m ≤ 1000000) (hA : Rd w.heap.size w A (u64s l)) :
    Calls Tryz.prog 133 #[.string s, .slice A m c] w fun e w' => e = .returned (.int .u64 (Hsh.of s.data.toList l : Nat)) ∧ Below w.heap.size w w' := by
  obtain ⟨i0, hi, hz0, hz1, hz2⟩ := info_parts info_u64
  obtain ⟨cap, w1, hconv, hrd, hb1⟩ := label_bytes s w
  obtain ⟨B, hB⟩ : ∃ B, B = w.heap.size := ⟨_, rfl⟩
  have hsl : s.size = s.data.toList.length := rfl
  have hwr := rwords_any s.data.toList (some ⟨w.heap.size, 0, none⟩) s.size cap w1 hsl hs hrd
  have HWR := Lib.hid hwr
  have HM := Lib.hid hm
  have HA := Lib.hid hA
  have HI := Lib.hid hi
  have HZ0 := Lib.hid hz0
  have HZ1 := Lib.hid hz1
  have HZ2 := Lib.hid hz2
  have HB := Lib.hid hB
  have hqs : Hsh.sevens s.size ≤ 142859 := by unfold Hsh.sevens; omega
  clear hwr hm hA hi hz0 hz1 hz2 hrd hsl hB
  go_enter Tryz.func133, Tryz.ntmps133
  go_wp2_with fail
  refine (HWR.out).mono ?_
  rintro e w2 ⟨A1, c1, rfl, hrow, hb2⟩
  have HROW := Lib.hid hrow
  clear hrow hconv
  obtain ⟨q, hq⟩ : ∃ q, q = Hsh.sevens s.size := ⟨_, rfl⟩
  rw [← hq] at HROW hqs ⊢
  have HQ := Lib.hid hq
  clear hq
  go_wp2_with (at_builtin; refine wpList_append_own _ rfl _ _ 29 rfl w1.heap.size 25 i0 (.int .u64 0) 1 8 Tryz.underlying29 HI.out HZ0.out HZ1.out HZ2.out rfl (by decide) _ _ _ rfl (HROW.out.alloc _) ⟨w2.heap.size, 0, none⟩ 1 1 [.int .u64 (m : Int)] rfl rfl (cell_one_new _ _ _) (by simp [Value.oneCell']) (by unfold maxLen; omega) (by omega) (by have := hb2.size; simp; omega) ?_; intro v' w3 hown' hgrow _; obtain ⟨g', cap', rfl⟩ := ownsRow_succ hown'; have HO := Lib.hid hown'; clear hown')
  have hg3 : (w2.alloc (.cells #[.int .u64 (m : Int)] 25)).grownBy w3 (Value.slice A1 q c1).ownBlock := hgrow
  have hB3 : Below w1.heap.size w1 w3 := hb2.trans (((Below.refl _ w2).alloc hb2.size _).grown hg3 (by have := hb2.size; simp; omega) (fun j e => (HROW.out.lt j e).1))
  have hrow3 : w3.ownsRow w1.heap.size 25 1 (.slice (some ⟨g', 0, none⟩) (q + 1) cap') (q + 1) (u64s (Hsh.words s.data.toList ++ m :: (l.take 0).map (· % 2305843009213693951))) := by
    have h := HO.out
    rw [← u64s_snoc] at h
    exact h
  obtain ⟨B1, hB1⟩ : ∃ B1, B1 = w1.heap.size := ⟨_, rfl⟩
  rw [← hB1] at hB3 hrow3
  have HB1 := Lib.hid hB1
  have HR3 := Lib.hid hrow3
  clear hB1 hrow3 hg3 hgrow hb2
  go_loopw [5, 6] (fun o i wr => ∃ k : Nat, k ≤ m ∧ i = .int .i64 k ∧ (∃ A' c', o = .slice A' (q + 1 + k) c') ∧ wr.ownsRow B1 25 1 o (q + 1 + k) (u64s (Hsh.words s.data.toList ++ m :: (l.take k).map (· % 2305843009213693951))) ∧ Below B1 w1 wr)
    (fun _ i _ => m - (intOf i).toNat)
  case atStart => exact ⟨0, Nat.zero_le _, rfl, ⟨_, _, rfl⟩, HR3.out, hB3⟩
  case round =>
    obtain ⟨k, hk, rfl, ⟨A2, c2, rfl⟩, hrowr, hbelr⟩ := hrel
    have HRR := Lib.hid hrowr
    clear hrowr
    have hszr : B1 ≤ wr.heap.size := by have := HB1.out; have := hbelr.size; omega
    by_cases hlt : k < m
    · have hkl : k < l.length := by rw [← HM.out]; exact hlt
      have hbw : Below w.heap.size w wr := hb1.trans (hbelr.mono (by rw [HB1.out]; exact hb1.size))
      obtain ⟨b, off, rfl, hb, hcl⟩ := (HA.out).at_ (k := k) (by rw [u64s_len]; exact hkl)
      have hcr : wr.cell? ⟨b, off + k, none⟩ = some (.int .u64 (l[k] : Nat)) := by
        refine (hbw.cell (p := ⟨b, off + k, none⟩) hb).trans (hcl.trans ?_)
        simp [u64s]
      have htk : (l.take (k + 1)).map (· % 2305843009213693951) = (l.take k).map (· % 2305843009213693951) ++ [l[k] % 2305843009213693951] := by
        rw [List.take_succ_eq_append_getElem hkl, List.map_append]; rfl
      obtain ⟨x, hx⟩ : ∃ x : Nat, x = l[k] := ⟨_, rfl⟩
      rw [← hx] at hcr htk
      obtain ⟨y, hy⟩ : ∃ y : Nat, y = x % 2305843009213693951 := ⟨_, rfl⟩
      have hxy : (x : Int) % 2305843009213693951 = (y : Int) := by omega
      rw [← hy] at htk
      have HT := Lib.hid htk
      clear htk hx hy hcl hkl
      go_wp2_with (at_builtin; refine wpList_append_own _ rfl _ _ 29 rfl B1 25 i0 (.int .u64 0) 1 8 Tryz.underlying29 HI.out HZ0.out HZ1.out HZ2.out rfl (by decide) _ _ _ rfl (HRR.out.alloc _) ⟨wr.heap.size, 0, none⟩ 1 1 [.int .u64 (y : Int)] rfl rfl (cell_one_new _ _ _) (by simp [Value.oneCell']) (by unfold maxLen; omega) (by omega) (by simp; omega) ?_; intro v' w4 hown' hgrow4 _; obtain ⟨g4, cap4, rfl⟩ := ownsRow_succ hown'; have HO4 := Lib.hid hown'; clear hown')
      go_roundw
      case rel =>
        refine ⟨k + 1, hlt, by go_num, ⟨_, _, rfl⟩, ?_, ?_⟩
        · rw [HT.out, ← List.cons_append, ← List.append_assoc, u64s_snoc]
          exact HO4.out
        · have hg4 : (wr.alloc (.cells #[.int .u64 (y : Int)] 25)).grownBy w4 (Value.slice A2 (q + 1 + k) c2).ownBlock := hgrow4
          exact hbelr.trans (((Below.refl B1 wr).alloc hszr _).grown hg4 (by simp; omega) (fun j e => (HRR.out.lt j e).1))
      case measure => simp [intOf]; omega
    · obtain rfl : m = k := by omega
      have hall : Hsh.words s.data.toList ++ m :: (l.take m).map (· % 2305843009213693951) ++ [0] = Hsh.rall s.data.toList l := by
        rw [List.take_of_length_le (by rw [← HM.out]; exact Nat.le_refl _), HM.out]
        unfold Hsh.rall
        simp
      have HALL := Lib.hid hall
      clear hall
      go_wp2_with (at_builtin; refine wpList_append_own _ rfl _ _ 29 rfl B1 25 i0 (.int .u64 0) 1 8 Tryz.underlying29 HI.out HZ0.out HZ1.out HZ2.out rfl (by decide) _ _ _ rfl (HRR.out.alloc _) ⟨wr.heap.size, 0, none⟩ 1 1 [.int .u64 0] rfl rfl (cell_one_new _ _ _) (by simp [Value.oneCell']) (by unfold maxLen; omega) (by omega) (by simp; omega) ?_; intro v' w4 hown' hgrow4 _; obtain ⟨g4, cap4, rfl⟩ := ownsRow_succ hown'; have HO4 := Lib.hid hown'; clear hown')
      have hg4 : (wr.alloc (.cells #[.int .u64 0] 25)).grownBy w4 (Value.slice A2 (q + 1 + m) c2).ownBlock := hgrow4
      have hB4 : Below B1 w1 w4 := hbelr.trans (((Below.refl B1 wr).alloc hszr _).grown hg4 (by simp; omega) (fun j e => (HRR.out.lt j e).1))
      have hrow4 := HO4.out
      have e0 : [Value.int .u64 (0 : Int)] = [Value.int .u64 ((0 : Nat) : Int)] := rfl
      rw [e0, ← u64s_snoc, HALL.out] at hrow4
      obtain ⟨t, ht⟩ : ∃ t, t = q + 1 + m + 1 := ⟨_, rfl⟩
      rw [← ht] at hrow4 ⊢
      obtain ⟨all, hall⟩ : ∃ all, all = Hsh.rall s.data.toList l := ⟨_, rfl⟩
      rw [← hall] at hrow4
      have hlen : all.length = t := by have := hrow4.1; rw [u64s_len] at this; omega
      have hrd4 := Rd.of_own hrow4
      have htb : t ≤ 2000000 := by omega
      have hBf : ∀ wx, Below w4.heap.size w4 wx → Below w.heap.size w wx := fun wx hx => hb1.trans ((hB4.trans (hx.mono (by have := hB4.size; have := HB1.out; omega))).mono (by rw [HB1.out]; exact hb1.size))
      have HLEN := Lib.hid hlen
      have HRD := Lib.hid hrd4
      have HALL2 := Lib.hid hall
      have HBF := Lib.hid hBf
      clear hlen hrd4 hrow4 hall HALL hgrow4 hg4 hB4 ht hBf e0
      go_loopw [7, 8] (fun v i wx => ∃ k : Nat, k ≤ t ∧ i = .int .i64 k ∧ v = .int .u64 (Hsh.st s.data.toList (all.take k) : Nat) ∧ Below w4.heap.size w4 wx) (fun _ i _ => t - (intOf i).toNat)
      case atStart => exact ⟨0, Nat.zero_le _, rfl, rfl, Below.refl _ _⟩
      case round =>
        obtain ⟨k, hk, rfl, rfl, hbx⟩ := hrel
        by_cases hlt : k < t
        · have hkl : k < all.length := by rw [HLEN.out]; exact hlt
          obtain ⟨b, off, e, hb, hcl⟩ := (HRD.out).at_ (k := k) (by rw [u64s_len]; exact hkl)
          injection e with e
          injection e with e1 e2
          subst e1 e2
          have hcr : wr.cell? ⟨g4, k, none⟩ = some (.int .u64 (all[k] : Nat)) := by
            have h := (hbx.cell (p := ⟨g4, 0 + k, none⟩) hb).trans hcl
            rw [Nat.zero_add] at h
            rw [h]
            simp [u64s]
          have hsn := Hsh.st_snoc s.data.toList (all.take k) all[k]
          rw [← List.take_succ_eq_append_getElem hkl, List.length_take, Nat.min_eq_left (Nat.le_of_lt hkl)] at hsn
          obtain ⟨x, hx⟩ : ∃ x : Nat, x = all[k] := ⟨_, rfl⟩
          rw [← hx] at hcr hsn
          obtain ⟨v, hv⟩ : ∃ v : Nat, v = Hsh.st s.data.toList (all.take k) := ⟨_, rfl⟩
          rw [← hv] at hsn ⊢
          obtain ⟨z, hz⟩ : ∃ z : Nat, z = k + 1 := ⟨_, rfl⟩
          rw [← hz] at hsn
          have hw1 : IntKind.i64.wrap ((k : Int) + 1) = (z : Int) := by rw [IntKind.wrap_i64]; omega
          have hw2 : IntKind.u64.wrap (z : Int) = (z : Int) := by rw [IntKind.wrap_u64]; omega
          have q0 : (0 : Int) ≤ (k : Int) := by omega
          have q1 : (k : Int) < (t : Int) := by omega
          have HSN := Lib.hid hsn
          have HZ := Lib.hid hz
          clear hsn hx hv hz hcl hkl
          go_wp2
          go_quiet ((first
            | (go_at_call 189; exact quiet_any (rmul_quiet 37 v))
            | (go_at_call 188; exact quiet_any (quiet_same (radd_any _ _)))))
          clear hw1 hw2
          go_wp2_with (go_at_call 149; refine (rpow_any _ 17 _ (by omega)).mono ?_; rintro e w5 ⟨rfl, hb5⟩)
          go_roundw
          case rel => exact ⟨k + 1, hlt, by go_num, by rw [← HZ.out, HSN.out]; rfl, hbx.trans ((below_of_drewN hb5).mono (by have := hbx.size; simp; omega))⟩
          case measure => simp [intOf]; omega
        · have hkt : all.take k = all := List.take_of_length_le (by rw [HLEN.out]; omega)
          have hof : Hsh.st s.data.toList all = Hsh.of s.data.toList l := by rw [HALL2.out]; exact Hsh.rall_of _ _
          rw [hkt, hof]
          have hfin := HBF.out _ hbx
          clear hkt hof
          go_wp2
          go_ret
          exact ⟨rfl, hfin⟩

theorem rsecret_any (s : ByteArray) (l : List Nat) (A : Option Addr) (m c : Nat) (w : World) (hs : s.size ≤ 1000000) (hm : m = l.length) (hmb : m ≤ 1000000) (hA : Rd w.heap.size w A (u64s l)) :
    Calls Tryz.prog 67 #[.string s, .slice A m c] w fun e w' => e = .returned (.int .u64 (Hsh.secret s.data.toList l : Nat)) ∧ Below w.heap.size w w' := by
  have hof := rof_any s l A m c w hs hm hmb hA
  have hlt := Hsh.of_lt s.data.toList l
  obtain ⟨y, hy⟩ : ∃ y : Nat, y = Hsh.of s.data.toList l := ⟨_, rfl⟩
  have hsec : Hsh.secret s.data.toList l = 1 + y % 2305843009213693949 := by rw [hy]; rfl
  rw [← hy] at hof hlt
  rw [hsec]
  obtain ⟨z, hz⟩ : ∃ z : Nat, z = y % 2305843009213693949 := ⟨_, rfl⟩
  have hz1 : (y : Int) % 2305843009213693949 = (z : Int) := by omega
  have hz2 : z < 2305843009213693949 := by omega
  rw [← hz]
  have HOF := Lib.hid hof
  clear hof hy hsec hz hm hA
  go_enter Tryz.func67, Tryz.ntmps67
  go_wp2_with fail
  refine (HOF.out).mono ?_
  rintro e w' ⟨rfl, hb⟩
  go_wp2
  go_ret
  exact ⟨ret_u64 (by omega), hb⟩

set_option maxRecDepth 100000 in
set_option maxHeartbeats 1000000 in
theorem rbytes_any (s : ByteArray) (xs : List UInt8) (A : Option Addr) (m c : Nat) (w : World) (hs : s.size ≤ 1000000) (hm : m = xs.length) (hmb : m ≤ 1000000) (hA : Rd w.heap.size w A (u8s xs)) :
    Calls Tryz.prog 59 #[.string s, .slice A m c] w fun e w' => e = .returned (.int .u64 (Hsh.bytes s.data.toList xs : Nat)) ∧ Below w.heap.size w w' := by
  obtain ⟨i0, hi, hz0, hz1, hz2⟩ := info_parts info_u64
  have hwr := rwords_any xs A m c w hm hmb hA
  have hqs : Hsh.sevens m ≤ 142859 := by unfold Hsh.sevens; omega
  have HWR := Lib.hid hwr
  have HLEN := Lib.hid (show Hsh.sevens m + 1 = (Hsh.words xs ++ [m]).length by rw [List.length_append, Hsh.words_len, ← hm]; rfl)
  have HSN := Lib.hid (u64s_snoc (Hsh.words xs) m).symm
  have HI := Lib.hid hi
  have HZ0 := Lib.hid hz0
  have HZ1 := Lib.hid hz1
  have HZ2 := Lib.hid hz2
  have HM := Lib.hid hm
  obtain ⟨q, hq⟩ : ∃ q, q = Hsh.sevens m := ⟨_, rfl⟩
  rw [← hq] at HWR hqs HLEN
  clear hi hz0 hz1 hz2 hwr hm hA hq
  go_enter Tryz.func59, Tryz.ntmps59
  go_wp2_with fail
  refine (HWR.out).mono ?_
  rintro e w3 ⟨A1, c1, rfl, hrow, hbel⟩
  have HROW := Lib.hid hrow
  clear hrow
  go_wp2_with (first
    | (at_builtin; refine wpList_append_own _ rfl _ _ 29 rfl w.heap.size 25 i0 (.int .u64 0) 1 8 Tryz.underlying29 HI.out HZ0.out HZ1.out HZ2.out rfl (by decide) _ _ _ rfl (HROW.out.alloc _) ⟨w3.heap.size, 0, none⟩ 1 1 [.int .u64 (m : Int)] rfl rfl (cell_one_new _ _ _) (by simp [Value.oneCell']) (by unfold maxLen; omega) (by omega) (by have := hbel.size; simp; omega) ?_; intro v' w4 hown' hgrow _; obtain ⟨g2, cap2, rfl⟩ := ownsRow_succ hown'; have HOWN := Lib.hid hown'; clear hown')
    | (go_at_call 133; refine (rof_any s (Hsh.words xs ++ [m]) (some ⟨g2, 0, none⟩) (q + 1) cap2 w4 hs HLEN.out (by omega) (Rd.of_own (HSN.out ▸ HOWN.out))).mono ?_; rintro e w5 ⟨rfl, hb5⟩))
  go_ret
  refine ⟨by rw [HM.out]; rfl, ?_⟩
  have hg2 : (w3.alloc (.cells #[.int .u64 (m : Int)] 25)).grownBy w4 (Value.slice A1 q c1).ownBlock := hgrow
  exact (hbel.trans (((Below.refl _ w3).alloc (hbel.size) _).grown hg2 (by simp; have := hbel.size; omega) (fun j e => (HROW.out.lt j e).1))).trans (hb5.mono (by have := hbel.size; have := hg2.size; simp at this; omega))

end Go.Proofs.YtkicjjcangkneaaGreatDoor

/-
  The reference's stream of a key: the same bytes as package hash's; what was there is left as it was. For all keys of 64 bits and up to a million bytes.
-/
namespace Go.Proofs.YtkicjjcangkneaaGreatDoor
open Go.RowKit

theorem u8s_snoc (l : List UInt8) (x : UInt8) : u8s (l ++ [x]) = u8s l ++ [.int .u8 (x.toNat : Int)] := by simp [u8s]

theorem rstreamword_any (key k g : Nat) (w : World) (hg : Blk w g 25 #[.int .u64 key, .int .u64 k]) :
    Calls Tryz.prog 133 #[.string ⟨#[115, 116, 114, 101, 97, 109]⟩, .slice (some ⟨g, 0, none⟩) 2 2] w fun e w' => e = .returned (.int .u64 (Hsh.streamWord key k : Nat)) ∧ Below w.heap.size w w' :=
  rof_any ⟨#[115, 116, 114, 101, 97, 109]⟩ [key, k] (some ⟨g, 0, none⟩) 2 2 w (by decide) rfl (by omega) (fun _ => ⟨g, 0, rfl, hg.lt, fun i u hu => by
    rw [Nat.zero_add, hg.cell i]
    simpa [u64s] using hu⟩)

theorem own_below {w w' : World} {B e sz n : Nat} {v : Value} {xs : List Value} (h : w.ownsRow B e sz v n xs) (hb : Below w.heap.size w w') : w'.ownsRow B e sz v n xs :=
  h.kept (row := none) ⟨hb.os, hb.tape, hb.output, hb.size, fun i hi _ => hb.block i hi⟩ (by cases hv : v.ownBlock <;> simp)

theorem streamU_at (key k i j x y : Nat) (hj : j = 7 * k + i) (hi : i < 7) (hx : x = Hsh.streamWord key k / 256 ^ i) (hy : y = x % 256) : (Hsh.streamU key j).toNat = y := by
  rw [Hsh.streamU_val]
  unfold Hsh.streamByte Hsh.byteOf
  rw [show j / 7 = k by omega, show j % 7 = i by omega, hy, hx]

end Go.Proofs.YtkicjjcangkneaaGreatDoor

/-
  The document's examples of chapter 2 hold: the statements' own check of them answers true, and leaves what was there as it was. No condition.
-/
namespace Go.Proofs.YtkicjjcangkneaaGreatDoor
open Go.RowKit

theorem kept_trans {a b c : World} (h : Below a.heap.size a b) (k : Below b.heap.size b c) : Below a.heap.size a c := h.trans (k.mono h.size)

theorem rd_one (w : World) (x : Nat) : Rd (w.alloc (.cells #[.int .u64 (x : Int)] 25)).heap.size (w.alloc (.cells #[.int .u64 (x : Int)] 25)) (some ⟨w.heap.size, 0, none⟩) (u64s [x]) := fun _ =>
  ⟨w.heap.size, 0, rfl, by simp, fun i u hu => by
    rw [Nat.zero_add, (blk_new w 25 #[.int .u64 (x : Int)]).cell i]
    simpa [u64s] using hu⟩

theorem of_lit (s : ByteArray) (x : Nat) (w : World) (hs : s.size ≤ 9223372036854775800) (hx : x < 18446744073709551616) :
    Calls Tryz.prog 132 #[.string s, .slice (some ⟨w.heap.size, 0, none⟩) 1 1] (w.alloc (.cells #[.int .u64 (x : Int)] 25)) fun e w' => e = .returned (.int .u64 (Hsh.of s.data.toList [x] : Nat)) ∧ Below (w.alloc (.cells #[.int .u64 (x : Int)] 25)).heap.size (w.alloc (.cells #[.int .u64 (x : Int)] 25)) w' :=
  of_any s (some ⟨w.heap.size, 0, none⟩) 1 1 [x] _ hs rfl (by omega) (by intro y hy; rw [List.mem_singleton.1 hy]; exact hx) (rd_one w x)

end Go.Proofs.YtkicjjcangkneaaGreatDoor

/-
  The statements HashSums, HashBytes and HashStreams: the walks, over natural numbers and lists. No condition but what fits memory.
-/
namespace Go.Proofs.YtkicjjcangkneaaGreatDoor
open Go.RowKit

/-! ### slices that came in -/
theorem cell_lt {w : World} {b o : Nat} {v : Value} (h : w.cell? ⟨b, o, none⟩ = some v) : b < w.heap.size := by
  rcases Nat.lt_or_ge b w.heap.size with h1 | h1
  · exact h1
  · simp [World.cell?, Array.getElem?_eq_none h1] at h

theorem row_any (k : IntKind) (w : World) (a : Option Addr) (len cap : Nat) (zs : List Int)
    (h : (a = none ∧ len = 0 ∧ cap = 0 ∧ zs = []) ∨
      ∃ x, a = some x ∧ len ≤ cap ∧ cap ≤ maxLen ∧ zs.length = cap ∧ (∀ i, i < zs.length → w.cell? (x.add i) = some (.int k (zs.getD i 0))) ∧ ∀ n ∈ zs, (Lit.int k n).wf = true) :
    (zs.take len).length = len ∧ len ≤ cap ∧ cap ≤ 9223372036854775807 ∧ (a = none → cap = 0) ∧ (∀ n ∈ zs.take len, (Lit.int k n).wf = true) ∧
      (0 < len → ∃ b off, a = some ⟨b, off, none⟩ ∧ b < w.heap.size ∧ ∀ i u, (zs.take len)[i]? = some u → w.cell? ⟨b, off + i, none⟩ = some (.int k u)) := by
  rcases h with ⟨rfl, rfl, rfl, rfl⟩ | ⟨x, rfl, hl, hm, hz, hc, hw⟩
  · exact ⟨rfl, Nat.le_refl _, by omega, fun _ => rfl, by simp, fun h => absurd h (by omega)⟩
  · unfold maxLen at hm
    refine ⟨by rw [List.length_take]; omega, hl, hm, fun h => (by cases h), fun n hn => hw n (List.mem_of_mem_take hn), fun h0 => ?_⟩
    obtain ⟨ab, ao, spot⟩ := x
    have h00 := hc 0 (by omega)
    have hspot : spot = none := by simpa [Addr.add] using World.cell?_spot h00
    subst hspot
    rw [Addr.add_lit] at h00
    refine ⟨ab, ao, rfl, cell_lt h00, fun i u hu => ?_⟩
    have hi : i < zs.length := by
      rcases Nat.lt_or_ge i zs.length with h1 | h1
      · exact h1
      · rw [List.getElem?_eq_none (by rw [List.length_take]; omega)] at hu; cases hu
    have hci := hc i hi
    rw [Addr.add_lit] at hci
    rw [hci]
    rw [List.getElem?_take] at hu
    split at hu
    · rw [List.getD_eq_getElem?_getD, hu]; rfl
    · cases hu

theorem row_u64 (w : World) (a : Option Addr) (len cap : Nat) (zs : List Int)
    (h : (a = none ∧ len = 0 ∧ cap = 0 ∧ zs = []) ∨
      ∃ x, a = some x ∧ len ≤ cap ∧ cap ≤ maxLen ∧ zs.length = cap ∧ (∀ i, i < zs.length → w.cell? (x.add i) = some (.int .u64 (zs.getD i 0))) ∧ ∀ n ∈ zs, (Lit.int .u64 n).wf = true) :
    ∃ l : List Nat, len = l.length ∧ len ≤ cap ∧ (∀ x ∈ l, x < 18446744073709551616) ∧ Rd w.heap.size w a (u64s l) ∧ (a = none → cap = 0) := by
  obtain ⟨h1, h2, _, h3, h4, h5⟩ := row_any .u64 w a len cap zs h
  refine ⟨(zs.take len).map Int.toNat, by rw [List.length_map, h1], h2, fun x hx => ?_, fun hp => ?_, h3⟩
  · obtain ⟨n, hn, rfl⟩ := List.mem_map.1 hx
    have := bounds_u64 (h4 n hn)
    omega
  · rw [u64s_len, List.length_map, h1] at hp
    obtain ⟨b, off, e, hb, hc⟩ := h5 hp
    refine ⟨b, off, e, hb, fun i u hu => ?_⟩
    unfold u64s at hu
    rw [List.map_map, List.getElem?_map] at hu
    obtain ⟨n, hn, rfl⟩ := Option.map_eq_some_iff.1 hu
    have hnn := bounds_u64 (h4 n (List.mem_of_getElem? hn))
    rw [hc i n hn]
    show some (Value.int .u64 n) = some (Value.int .u64 ((n.toNat : Nat) : Int))
    rw [Int.toNat_of_nonneg hnn.1]

theorem row_u8 (w : World) (a : Option Addr) (len cap : Nat) (zs : List Int)
    (h : (a = none ∧ len = 0 ∧ cap = 0 ∧ zs = []) ∨
      ∃ x, a = some x ∧ len ≤ cap ∧ cap ≤ maxLen ∧ zs.length = cap ∧ (∀ i, i < zs.length → w.cell? (x.add i) = some (.int .u8 (zs.getD i 0))) ∧ ∀ n ∈ zs, (Lit.int .u8 n).wf = true) :
    ∃ l : List UInt8, len = l.length ∧ len ≤ cap ∧ Rd w.heap.size w a (u8s l) ∧ (a = none → cap = 0) := by
  obtain ⟨h1, h2, _, h3, h4, h5⟩ := row_any .u8 w a len cap zs h
  refine ⟨(zs.take len).map fun n => UInt8.ofNat n.toNat, by rw [List.length_map, h1], h2, fun hp => ?_, h3⟩
  rw [u8s_len, List.length_map, h1] at hp
  obtain ⟨b, off, e, hb, hc⟩ := h5 hp
  refine ⟨b, off, e, hb, fun i u hu => ?_⟩
  unfold u8s at hu
  rw [List.map_map, List.getElem?_map] at hu
  obtain ⟨n, hn, rfl⟩ := Option.map_eq_some_iff.1 hu
  have hnn := bounds_u8 (h4 n (List.mem_of_getElem? hn))
  rw [hc i n hn]
  show some (Value.int .u8 n) = some (Value.int .u8 (((UInt8.ofNat n.toNat).toNat : Nat) : Int))
  rw [UInt8.toNat_ofNat']
  congr 2
  omega

/-! ### HashSums -/
/-! ### HashBytes -/
/-! ### HashStreams -/
theorem Rd.of_blk {w : World} {g t : Nat} {cs : List Value} (h : Blk w g t cs.toArray) : Rd w.heap.size w (some ⟨g, 0, none⟩) cs := fun _ =>
  ⟨g, 0, rfl, h.lt, fun i u hu => by rw [Nat.zero_add, h.cell i]; simpa using hu⟩
theorem Hsh.stream_take (key n k : Nat) (h : k ≤ n) : (Hsh.stream key n).take k = Hsh.stream key k := by
  unfold Hsh.stream
  rw [← List.map_take, List.take_range, Nat.min_eq_left h]
theorem u8s_take (l : List UInt8) (k : Nat) : (u8s l).take k = u8s (l.take k) := by unfold u8s; rw [List.map_take]
theorem Rd.take {B : Nat} {w : World} {A : Option Addr} {vs : List Value} (h : Rd B w A vs) (k : Nat) : Rd B w A (vs.take k) := fun hp => by
  obtain ⟨b, off, e, hlt, hc⟩ := h (by rw [List.length_take] at hp; omega)
  refine ⟨b, off, e, hlt, fun i u hu => hc i u ?_⟩
  rw [List.getElem?_take] at hu
  split at hu
  · exact hu
  · cases hu

end Go.Proofs.YtkicjjcangkneaaGreatDoor
