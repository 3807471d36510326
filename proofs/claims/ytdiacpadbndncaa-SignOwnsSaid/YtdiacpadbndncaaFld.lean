/-
  THE FIELD OF 2^61 - 1 ELEMENTS, WITHOUT ANY PROGRAM: plain natural numbers. That 37 is a primitive root (its powers are all remainders but 0) is shown by the prime factors of P - 1;
  Fermat's little theorem and that a product is 0 only if a factor is follow. No condition.
-/
namespace Go.Proofs.Ytdiacpadbndncaa.Fld

/-- The prime 2^61 - 1. -/
def P : Nat := 2305843009213693951
/-- P - 1. -/
def N : Nat := 2305843009213693950

theorem P_val : P = 2305843009213693951 := rfl
theorem N_val : N = 2305843009213693950 := rfl
theorem P_pos : 0 < P := by decide +kernel

/-! ### powers, reckoned -/
def pw : Nat → Nat → Nat → Nat
  | 0, _, _ => 1 % P
  | f + 1, a, n =>
    if n = 0 then 1 % P
    else
      let h := pw f a (n / 2)
      if n % 2 = 1 then h * h % P * a % P else h * h % P

theorem pw_eq : ∀ (f a n : Nat), n < 2 ^ f → pw f a n = a ^ n % P
  | 0, a, n, h => by
    have : n = 0 := by simpa using h
    subst this
    simp [pw]
  | f + 1, a, n, h => by
    by_cases h0 : n = 0
    · subst h0; simp [pw]
    · have hlt : n / 2 < 2 ^ f := by rw [Nat.pow_succ] at h; omega
      have ih := pw_eq f a (n / 2) hlt
      simp only [pw, h0, if_false, ih]
      have e : n = n / 2 + n / 2 + n % 2 := by omega
      by_cases h1 : n % 2 = 1
      · rw [if_pos h1]
        rw [h1] at e
        conv => rhs; rw [e, Nat.pow_add, Nat.pow_add, Nat.pow_one]
        simp [Nat.mul_mod]
      · rw [if_neg h1]
        have h2 : n % 2 = 0 := by omega
        rw [h2, Nat.add_zero] at e
        conv => rhs; rw [e, Nat.pow_add]
        simp [Nat.mul_mod]

/-! ### 37 to each power below P - 1 is not 1 -/
def qs : List Nat := [2, 3, 3, 5, 5, 7, 11, 13, 31, 41, 61, 151, 331, 1321]
theorem qs_prod : qs.foldr (· * ·) 1 = N := by decide +kernel
theorem qs_prime : ∀ q ∈ qs, ∀ c < q + 1, c ∣ q → c = 1 ∨ c = q := by decide +kernel
theorem qs_pos : ∀ q ∈ qs, 0 < q ∧ q ∣ N ∧ pw 64 37 (N / q) ≠ 1 := by decide +kernel

theorem root_one : 37 ^ N % P = 1 := by rw [← pw_eq 64 37 N (by decide +kernel)]; decide +kernel
theorem root_not (q : Nat) (h : q ∈ qs) : 37 ^ (N / q) % P ≠ 1 := by
  rw [← pw_eq 64 37 (N / q) (Nat.lt_of_le_of_lt (Nat.div_le_self _ _) (by decide +kernel))]
  exact (qs_pos q h).2.2

theorem one_mod (g m n : Nat) (h : g ^ m % P = 1) : g ^ (m + n) % P = g ^ n % P := by
  rw [Nat.pow_add, Nat.mul_mod, h, Nat.one_mul, Nat.mod_mod]

theorem ones (g m : Nat) (h : g ^ m % P = 1) : ∀ k, g ^ (m * k) % P = 1
  | 0 => by rw [Nat.mul_zero, Nat.pow_zero]; decide +kernel
  | k + 1 => by rw [Nat.mul_succ, Nat.add_comm, one_mod g m _ h]; exact ones g m h k

theorem one_gcd (g : Nat) (m n : Nat) : g ^ m % P = 1 → g ^ n % P = 1 → g ^ (Nat.gcd m n) % P = 1 := by
  induction m, n using Nat.gcd.induction with
  | H0 n => intro _ h; simpa using h
  | H1 m n hm ih =>
    intro h1 h2
    rw [Nat.gcd_rec]
    refine ih ?_ h1
    have e : n = m * (n / m) + n % m := (Nat.div_add_mod n m).symm
    rw [e, one_mod g (m * (n / m)) _ (ones g m h1 _)] at h2
    exact h2

theorem cop_all (e : Nat) : ∀ l : List Nat, (∀ q ∈ l, Nat.Coprime e q) → Nat.Coprime e (l.foldr (· * ·) 1)
  | [], _ => Nat.coprime_one_right e
  | q :: l, h => Nat.Coprime.mul_right (h q (by simp)) (cop_all e l fun x hx => h x (by simp [hx]))

theorem ord (d : Nat) (h0 : 0 < d) (hd : d < N) : 37 ^ d % P ≠ 1 := by
  intro h
  have hc := one_gcd 37 d N h root_one
  have c1 : Nat.gcd d N ∣ N := Nat.gcd_dvd_right d N
  have c2 : Nat.gcd d N ≤ d := Nat.gcd_le_left N h0
  obtain ⟨e, he⟩ := c1
  have he1 : e ≠ 1 := by
    rintro rfl
    rw [Nat.mul_one] at he
    omega
  have hq : ∃ q ∈ qs, ¬ Nat.Coprime e q := by
    refine Classical.byContradiction fun hn => ?_
    have hall : ∀ q ∈ qs, Nat.Coprime e q := fun q hq => Classical.byContradiction fun hx => hn ⟨q, hq, hx⟩
    have hcop := cop_all e qs hall
    rw [qs_prod] at hcop
    have : Nat.gcd e N = e := Nat.gcd_eq_left ⟨Nat.gcd d N, by rw [Nat.mul_comm]; exact he⟩
    rw [Nat.Coprime, this] at hcop
    exact he1 hcop
  obtain ⟨q, hq, hnc⟩ := hq
  obtain ⟨hq0, _, _⟩ := qs_pos q hq
  have hg : Nat.gcd e q ∣ q := Nat.gcd_dvd_right e q
  have hgq : Nat.gcd e q = q := by
    rcases qs_prime q hq (Nat.gcd e q) (Nat.lt_succ_of_le (Nat.le_of_dvd hq0 hg)) hg with h1 | h1
    · exact absurd h1 hnc
    · exact h1
  have hqe : q ∣ e := hgq ▸ Nat.gcd_dvd_left e q
  obtain ⟨f, rfl⟩ := hqe
  have hdiv : N / q = Nat.gcd d N * f := by
    conv => lhs; rw [he]
    rw [show Nat.gcd d N * (q * f) = q * (Nat.gcd d N * f) by rw [← Nat.mul_assoc, Nat.mul_comm (Nat.gcd d N) q, Nat.mul_assoc]]
    exact Nat.mul_div_cancel_left _ hq0
  refine root_not q hq ?_
  rw [hdiv]
  exact ones 37 _ hc f

/-! ### each remainder but 0 is a power of 37 -/
theorem pigeon : ∀ (n : Nat) (f : Nat → Nat), (∀ i < n, f i < n) → (∀ i < n, ∀ j < n, f i = f j → i = j) → ∀ y < n, ∃ i < n, f i = y
  | 0, _, _, _, y, hy => absurd hy (Nat.not_lt_zero y)
  | n + 1, f, hf, hi, y, hy => by
    have hne : ∀ i < n, f i ≠ f n := fun i h e => by have := hi i (by omega) n (by omega) e; omega
    have ih := pigeon n (fun i => if f i = n then f n else f i)
      (fun i h => by
        have a := hf i (by omega)
        have b := hf n (by omega)
        have c := hne i h
        show (if f i = n then f n else f i) < n
        by_cases e : f i = n
        · rw [if_pos e]; omega
        · rw [if_neg e]; omega)
      (fun i h j k e => by
        have ci := hne i h
        have cj := hne j k
        have e' : (if f i = n then f n else f i) = (if f j = n then f n else f j) := e
        by_cases a : f i = n <;> by_cases b : f j = n
        · exact hi i (by omega) j (by omega) (by omega)
        · rw [if_pos a, if_neg b] at e'; exact absurd e'.symm cj
        · rw [if_neg a, if_pos b] at e'; exact absurd e' ci
        · rw [if_neg a, if_neg b] at e'; exact hi i (by omega) j (by omega) e')
    by_cases h1 : y = f n
    · exact ⟨n, by omega, h1.symm⟩
    · by_cases h2 : y = n
      · obtain ⟨i, hin, he⟩ := ih (f n) (by have := hf n (by omega); omega)
        have he' : (if f i = n then f n else f i) = f n := he
        by_cases a : f i = n
        · exact ⟨i, by omega, by omega⟩
        · rw [if_neg a] at he'; exact absurd he' (hne i hin)
      · obtain ⟨i, hin, he⟩ := ih y (by omega)
        have he' : (if f i = n then f n else f i) = y := he
        by_cases a : f i = n
        · rw [if_pos a] at he'; exact absurd he'.symm h1
        · rw [if_neg a] at he'; exact ⟨i, by omega, he'⟩

theorem inv_pow (g n : Nat) (h : g ^ N % P = 1) : g ^ n % P * (g ^ (n * (N - 1)) % P) % P = 1 := by
  rw [← Nat.mul_mod, ← Nat.pow_add]
  have e : n + n * (N - 1) = N * n := by
    rw [show n + n * (N - 1) = n * 1 + n * (N - 1) by rw [Nat.mul_one], ← Nat.mul_add, Nat.mul_comm]
    rfl
  rw [e]
  exact ones g N h n

theorem pow_ne (n : Nat) : 37 ^ n % P ≠ 0 := fun h => by
  have := inv_pow 37 n root_one
  rw [h, Nat.zero_mul] at this
  exact absurd this (by decide +kernel)

theorem pow_inj (i j : Nat) (hi : i < N) (hj : j < N) (h : 37 ^ i % P = 37 ^ j % P) : i = j := by
  have key : ∀ i j, i < j → j < N → 37 ^ i % P = 37 ^ j % P → False := by
    intro i j hij hj h
    have e : 37 ^ (j - i) % P = 1 := by
      have h1 : (37 ^ (N - i) % P) * (37 ^ i % P) % P = (37 ^ (N - i) % P) * (37 ^ j % P) % P := by rw [h]
      rw [← Nat.mul_mod, ← Nat.mul_mod, ← Nat.pow_add, ← Nat.pow_add] at h1
      rw [show N - i + i = N by omega, show N - i + j = N + (j - i) by omega, root_one, one_mod 37 N _ root_one] at h1
      exact h1.symm
    exact ord (j - i) (by omega) (by omega) e
  rcases Nat.lt_trichotomy i j with h1 | h1 | h1
  · exact (key i j h1 hj h).elim
  · exact h1
  · exact (key j i h1 hi h.symm).elim

theorem is_pow (a : Nat) (h : a % P ≠ 0) : ∃ k, a % P = 37 ^ k % P := by
  have hlt : ∀ n, n % P < P := fun n => Nat.mod_lt _ P_pos
  have hPN : P = N + 1 := rfl
  obtain ⟨i, _, he⟩ := pigeon N (fun i => 37 ^ i % P - 1)
    (fun i _ => by have := hlt (37 ^ i); have := pow_ne i; show 37 ^ i % P - 1 < N; omega)
    (fun i hi j hj e => pow_inj i j hi hj (by
      have a := pow_ne i
      have b := pow_ne j
      have e' : 37 ^ i % P - 1 = 37 ^ j % P - 1 := e
      omega))
    (a % P - 1) (by have := hlt a; omega)
  refine ⟨i, ?_⟩
  have he' : 37 ^ i % P - 1 = a % P - 1 := he
  have := pow_ne i
  omega

/-! ### what follows -/
theorem fermat (a : Nat) (h : a % P ≠ 0) : a ^ N % P = 1 := by
  obtain ⟨k, hk⟩ := is_pow a h
  rw [Nat.pow_mod, hk, ← Nat.pow_mod, ← Nat.pow_mul, Nat.mul_comm]
  exact ones 37 N root_one k

theorem mul_zero_iff (a b : Nat) : a * b % P = 0 ↔ a % P = 0 ∨ b % P = 0 := by
  constructor
  · intro h
    refine Classical.byContradiction fun hn => ?_
    obtain ⟨i, hi⟩ := is_pow a fun e => hn (.inl e)
    obtain ⟨j, hj⟩ := is_pow b fun e => hn (.inr e)
    rw [Nat.mul_mod, hi, hj, ← Nat.mul_mod, ← Nat.pow_add] at h
    exact pow_ne _ h
  · rintro (h | h) <;> rw [Nat.mul_mod, h] <;> simp

theorem zero_pow (a n : Nat) (h : a % P = 0) (hn : n ≠ 0) : a ^ n % P = 0 := by
  obtain ⟨m, rfl⟩ := Nat.exists_eq_succ_of_ne_zero hn
  rw [Nat.pow_succ, Nat.mul_mod, h]
  simp

theorem fermat' (a : Nat) : a ^ P % P = a % P := by
  by_cases h : a % P = 0
  · rw [h]; exact zero_pow a P h (by decide +kernel)
  · have e : P = N + 1 := rfl
    rw [show a ^ P = a ^ (N + 1) from rfl, one_mod a N 1 (fermat a h), Nat.pow_one]

/-- A square root of 1 is 1 or P - 1. -/
theorem root_of_one (x : Nat) (h : x * x % P = 1) : x % P = 1 ∨ x % P = N := by
  have hx : x % P < P := Nat.mod_lt _ P_pos
  have hPN : P = N + 1 := rfl
  have hN : 1 ≤ N := by decide +kernel
  have h' : (x % P) * (x % P) % P = 1 := by rw [← Nat.mul_mod]; exact h
  generalize x % P = r at hx h' ⊢
  have hr0 : r ≠ 0 := by rintro rfl; exact absurd h' (by decide +kernel)
  -- (r - 1) * (r + 1) = r * r - 1
  have e : (r - 1) * (r + 1) = r * r - 1 := by
    obtain ⟨s, rfl⟩ := Nat.exists_eq_succ_of_ne_zero hr0
    simp only [Nat.succ_eq_add_one, Nat.add_sub_cancel]
    have : (s + 1) * (s + 1) = s * (s + 1 + 1) + 1 := by
      simp only [Nat.mul_add, Nat.add_mul]; omega
    omega
  have hz : (r - 1) * (r + 1) % P = 0 := by
    rw [e]
    have hd := Nat.div_add_mod (r * r) P
    rw [h'] at hd
    have : r * r - 1 = P * (r * r / P) := by omega
    rw [this]
    exact Nat.mul_mod_right _ _
  rcases (mul_zero_iff _ _).1 hz with h1 | h1
  · left
    have : r - 1 < P := by omega
    rw [Nat.mod_eq_of_lt this] at h1
    omega
  · right
    by_cases hN' : r + 1 < P
    · rw [Nat.mod_eq_of_lt hN'] at h1; omega
    · omega

end Go.Proofs.Ytdiacpadbndncaa.Fld
