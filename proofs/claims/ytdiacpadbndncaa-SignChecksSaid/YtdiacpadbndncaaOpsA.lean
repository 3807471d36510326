/-
  Package field's Num, Ok, Add, Sub, Neg and Mul (and the library's product in two words) answer what the natural numbers modulo 2^61 - 1 give, and leave the world as it was: for all numbers of 64 bits, no other condition.
-/
import Derived.Test.YtdiacpadbndncaaRows
import Derived.Test.YtdiacpadbndncaaFld
import Derived.WalkKit
import Derived.ProofKit
import Derived.OpenShut
import Derived.Lib.Mul64
import Derived.Laws.Bits64b
import Derived.Lib.Hide
namespace Go.Proofs.Ytdiacpadbndncaa
open Go.RowKit

/-! ### what the functions answer, as natural numbers -/
namespace Fld
def num (n : Nat) : Nat := n % P
def add (a b : Nat) : Nat := (a + b) % P
def sub (a b : Nat) : Nat := (a % P + (P - b % P)) % P
def mul (a b : Nat) : Nat := a * b % P
def pow (a n : Nat) : Nat := a ^ n % P
theorem lt_P (n : Nat) : n % P < 2305843009213693951 := Nat.mod_lt _ P_pos
theorem num_lt (n : Nat) : num n < 2305843009213693951 := lt_P _
theorem add_lt (a b : Nat) : add a b < 2305843009213693951 := lt_P _
theorem sub_lt (a b : Nat) : sub a b < 2305843009213693951 := lt_P _
theorem mul_lt (a b : Nat) : mul a b < 2305843009213693951 := lt_P _
theorem pow_lt (a b : Nat) : pow a b < 2305843009213693951 := lt_P _
theorem add_eq (a b : Nat) : num (num a + num b) = add a b := (Nat.add_mod a b P).symm
theorem sub_eq (a b : Nat) : num (num a + 2305843009213693951 - num b) = sub a b := by
  have h : num b ≤ 2305843009213693951 := Nat.le_of_lt (num_lt b)
  show (a % P + P - b % P) % P = _
  rw [Nat.add_sub_assoc (Nat.le_of_lt (Nat.mod_lt _ P_pos))]
  rfl
theorem mul_num (a b : Nat) : mul (num a) (num b) = mul a b := (Nat.mul_mod a b P).symm
end Fld

theorem ret_u64 {a b : Int} (h : a = b) : Ending.returned (.int .u64 a) = .returned (.int .u64 b) := by rw [h]

theorem mask61 (n : Nat) (hn : n < 18446744073709551616) : bits .and .u64 (n : Int) 2305843009213693951 = ((n % 2305843009213693952 : Nat) : Int) := by
  have h := bits_and_u64_nat n 2305843009213693951 hn (by omega)
  have e : n &&& 2305843009213693951 = n % 2305843009213693952 := Nat.and_two_pow_sub_one_eq_mod n 61
  rw [e] at h
  exact h

/-! ### package field -/
theorem num_any (n : Nat) (w : World) (hn : n < 18446744073709551616) :
    Calls Try.prog 36 #[.int .u64 n] w fun e w' => e = .returned (.int .u64 (Fld.num n : Nat)) ∧ w = w' := by
  obtain ⟨lo, hlo⟩ : ∃ lo : Nat, lo = n % 2305843009213693952 := ⟨_, rfl⟩
  have hm := mask61 n hn
  rw [← hlo] at hm
  have hl : lo < 2305843009213693952 := by omega
  obtain ⟨hi, hhi⟩ : ∃ hi : Nat, hi = n / 2305843009213693952 := ⟨_, rfl⟩
  have hd : (n : Int) / 2305843009213693952 = (hi : Int) := by omega
  have hh : hi < 8 := by omega
  have HL := Lib.hid hlo
  have HH := Lib.hid hhi
  clear hlo hhi
  by_cases hc : 2305843009213693951 ≤ lo + hi
  · have hb : decide ((2305843009213693951 : Int) ≤ (lo : Int) + (hi : Int)) = true := decide_eq_true (by omega)
    have h1 : (0 : Int) ≤ (lo : Int) + (hi : Int) - 2305843009213693951 := by omega
    clear hc
    go_enter Try.func36, Try.ntmps36
    go_wp2
    go_ret
    refine ⟨ret_u64 ?_, rfl⟩
    have := HL.out
    have := HH.out
    show _ = ((n % 2305843009213693951 : Nat) : Int)
    omega
  · have hb : decide ((2305843009213693951 : Int) ≤ (lo : Int) + (hi : Int)) = false := decide_eq_false (by omega)
    have HC := Lib.hid hc
    clear hc
    go_enter Try.func36, Try.ntmps36
    go_wp2
    go_ret
    refine ⟨ret_u64 ?_, rfl⟩
    have := HL.out
    have := HH.out
    have := HC.out
    show _ = ((n % 2305843009213693951 : Nat) : Int)
    omega

theorem ok_any (n : Nat) (w : World) :
    Calls Try.prog 46 #[.int .u64 n] w fun e w' => e = .returned (.bool (decide (n < 2305843009213693951))) ∧ w = w' := by
  have hd : decide ((n : Int) < 2305843009213693951) = decide (n < 2305843009213693951) := by
    by_cases h : n < 2305843009213693951
    · rw [decide_eq_true h, decide_eq_true (by omega)]
    · rw [decide_eq_false h, decide_eq_false (by omega)]
  generalize decide (n < 2305843009213693951) = b at hd ⊢
  go_enter Try.func46, Try.ntmps46
  go_wp2
  go_ret
  exact ⟨rfl, rfl⟩

theorem add_any (a b : Nat) (w : World) (ha : a < 18446744073709551616) (hb : b < 18446744073709551616) :
    Calls Try.prog 60 #[.int .u64 a, .int .u64 b] w fun e w' => e = .returned (.int .u64 (Fld.add a b : Nat)) ∧ w = w' := by
  have h1 := Fld.num_lt a
  have h2 := Fld.num_lt b
  have h3 := num_any (Fld.num a + Fld.num b) w (by omega)
  rw [Fld.add_eq, Int.natCast_add] at h3
  go_enter Try.func60, Try.ntmps60
  go_wp2_with fail
  refine (num_any a _ ha).mono ?_
  rintro e w' ⟨rfl, rfl⟩
  go_wp2_with fail
  refine (num_any b _ hb).mono ?_
  rintro e w' ⟨rfl, rfl⟩
  go_wp2_with fail
  refine h3.mono ?_
  rintro e w' ⟨rfl, rfl⟩
  go_wp2
  go_ret
  exact ⟨rfl, rfl⟩

/-! ### math/bits.Mul64: as the library's own text is walked on the shelf -/
namespace M64
theorem maskN (a : Nat) (ha : a < 18446744073709551616) : bits .and .u64 (a : Int) 4294967295 = ((a % 4294967296 : Nat) : Int) := by
  have h := bits_and_u64_nat a 4294967295 ha (by omega)
  have e : a &&& 4294967295 = a % 4294967296 := Nat.and_two_pow_sub_one_eq_mod a 32
  rw [e] at h
  exact h
theorem divN (a : Nat) : (a : Int) / 4294967296 = ((a / 4294967296 : Nat) : Int) := by omega
theorem mulN (a b : Nat) : (a : Int) * (b : Int) = ((a * b : Nat) : Int) := (Int.natCast_mul a b).symm
theorem addN (a b : Nat) : (a : Int) + (b : Int) = ((a + b : Nat) : Int) := (Int.natCast_add a b).symm
theorem wrapN (a : Nat) (ha : a < 18446744073709551616) : IntKind.u64.wrap (a : Int) = (a : Int) := by rw [IntKind.wrap_u64]; omega
theorem wrapM (a : Nat) : IntKind.u64.wrap (a : Int) = ((a % 18446744073709551616 : Nat) : Int) := by rw [IntKind.wrap_u64]; omega
end M64

set_option maxHeartbeats 1000000 in
theorem mul64_any (x y : Nat) (hx : x < 18446744073709551616) (hy : y < 18446744073709551616) (w : World) :
    Calls Try.prog 38 #[.int .u64 x, .int .u64 y] w fun e w' => e = .returned (.tuple #[.int .u64 ((x * y / 18446744073709551616 : Nat) : Int), .int .u64 ((x * y % 18446744073709551616 : Nat) : Int)]) ∧ w = w' := by
  obtain ⟨bd, bt, bw, hhi⟩ := Lib.mul64_hi x y hx hy
  have ba := Lib.half_mul_le (a := x / 4294967296) (b := y / 4294967296) (by omega) (by omega)
  have bb := Lib.half_mul_le (a := x / 4294967296) (b := y % 4294967296) (by omega) (by omega)
  have bc := Lib.half_mul_le (a := x % 4294967296) (b := y / 4294967296) (by omega) (by omega)
  have ba' : x / 4294967296 * (y / 4294967296) < 18446744073709551616 := by omega
  have bb' : x / 4294967296 * (y % 4294967296) < 18446744073709551616 := by omega
  have bc' : x % 4294967296 * (y / 4294967296) < 18446744073709551616 := by omega
  have bh1 : x / 4294967296 * (y / 4294967296) + (x / 4294967296 * (y % 4294967296) + x % 4294967296 * (y % 4294967296) / 4294967296) / 4294967296 < 18446744073709551616 := by omega
  have bh : x / 4294967296 * (y / 4294967296) + (x / 4294967296 * (y % 4294967296) + x % 4294967296 * (y % 4294967296) / 4294967296) / 4294967296 + ((x / 4294967296 * (y % 4294967296) + x % 4294967296 * (y % 4294967296) / 4294967296) % 4294967296 + x % 4294967296 * (y / 4294967296)) / 4294967296 < 18446744073709551616 := by omega
  go_enter Try.func38, Try.ntmps38
  go_wp2
  simp only [M64.maskN x hx, M64.maskN y hy, M64.divN, M64.mulN, M64.addN, M64.wrapN _ bd, M64.wrapN _ bb', M64.wrapN _ bt, M64.maskN _ bt, M64.wrapN _ bc', M64.wrapN _ bw, M64.wrapN _ ba', M64.wrapN _ bh1, M64.wrapN _ bh, M64.wrapM (x * y)]
  rw [hhi]
  go_ret2
  exact ⟨rfl, rfl⟩

/-- The product in two words, put together at bit 61. -/
theorem join61 (z : Nat) (hz : z < 5316911983139663491615228241121378304) :
    bits .or .u64 (IntKind.u64.wrap (((z / 18446744073709551616 : Nat) : Int) * 8)) (((z % 18446744073709551616 : Nat) : Int) / 2305843009213693952) = ((z / 2305843009213693952 : Nat) : Int) := by
  have h1 : IntKind.u64.wrap (((z / 18446744073709551616 : Nat) : Int) * 8) = ((z / 18446744073709551616 * 8 : Nat) : Int) := by
    rw [IntKind.wrap_u64]; omega
  have h2 : ((z % 18446744073709551616 : Nat) : Int) / 2305843009213693952 = ((z % 18446744073709551616 / 2305843009213693952 : Nat) : Int) := by omega
  rw [h1, h2, bits_or_u64_nat _ _ (by omega) (by omega)]
  have h3 : z / 18446744073709551616 * 8 ||| z % 18446744073709551616 / 2305843009213693952 = z / 18446744073709551616 * 8 + z % 18446744073709551616 / 2305843009213693952 := by
    have := Nat.shiftLeft_add_eq_or_of_lt (b := z % 18446744073709551616 / 2305843009213693952) (i := 3) (by omega) (z / 18446744073709551616)
    rw [Nat.shiftLeft_eq] at this
    exact this.symm
  rw [h3]
  omega

theorem Fld.mul_fold (z : Nat) : Fld.num (z % 2305843009213693952 + z / 2305843009213693952) = z % Fld.P := by
  show (z % 2305843009213693952 + z / 2305843009213693952) % 2305843009213693951 = z % 2305843009213693951
  omega

set_option maxHeartbeats 400000 in
theorem mul_any (a b : Nat) (w : World) (ha : a < 18446744073709551616) (hb : b < 18446744073709551616) :
    Calls Try.prog 22 #[.int .u64 a, .int .u64 b] w fun e w' => e = .returned (.int .u64 (Fld.mul a b : Nat)) ∧ w = w' := by
  have h1 := Fld.num_lt a
  have h2 := Fld.num_lt b
  have hz : Fld.num a * Fld.num b < 5316911983139663491615228241121378304 := by
    refine Nat.lt_of_le_of_lt (Nat.mul_le_mul (Nat.le_of_lt h1) (Nat.le_of_lt h2)) (by omega)
  have c1 := num_any a w ha
  have c2 := num_any b w hb
  have c3 := mul64_any (Fld.num a) (Fld.num b) (by omega) (by omega) w
  have hmul : Fld.mul a b = Fld.num a * Fld.num b % Fld.P := (Fld.mul_num a b).symm
  rw [hmul]
  generalize Fld.num a * Fld.num b = z at *
  have hfold := Fld.mul_fold z
  obtain ⟨p, hp⟩ : ∃ p : Nat, p = z % 2305843009213693952 := ⟨_, rfl⟩
  obtain ⟨q, hq⟩ : ∃ q : Nat, q = z / 2305843009213693952 := ⟨_, rfl⟩
  have hpl : p < 2305843009213693952 := by omega
  have hql : q < 2305843009213693952 := by omega
  have c4 := num_any (p + q) w (by omega)
  rw [← hp, ← hq] at hfold
  rw [hfold, Int.natCast_add] at c4
  have hm : bits .and .u64 ((z % 18446744073709551616 : Nat) : Int) 2305843009213693951 = (p : Int) := by
    rw [mask61 _ (by omega)]; omega
  have hj := join61 z hz
  rw [← hq] at hj
  obtain ⟨u, hu⟩ : ∃ u : Nat, u = z / 18446744073709551616 := ⟨_, rfl⟩
  obtain ⟨v, hv⟩ : ∃ v : Nat, v = z % 18446744073709551616 := ⟨_, rfl⟩
  rw [← hu, ← hv] at c3 hj
  rw [← hv] at hm
  clear hp hq hfold hu hv h1 h2 hmul hz
  go_enter Try.func22, Try.ntmps22
  go_wp2_with fail
  refine c1.mono ?_
  rintro e w' ⟨rfl, rfl⟩
  go_wp2_with fail
  refine c2.mono ?_
  rintro e w' ⟨rfl, rfl⟩
  go_wp2_with fail
  refine c3.mono ?_
  rintro e w' ⟨rfl, rfl⟩
  go_wp2_with fail
  refine c4.mono ?_
  rintro e w' ⟨rfl, rfl⟩
  go_wp2
  go_ret
  exact ⟨rfl, rfl⟩

end Go.Proofs.Ytdiacpadbndncaa
