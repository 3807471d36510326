/-
  Package sign's modulus: sums, products and powers of numbers of 64 bits, modulo 2^61 - 1 or 2^61 - 2 (powers: modulo 2^61 - 1, of field numbers); what was there is left as it was.
-/
import Derived.Test.YtdiacpadbndncaaSgb
import Derived.Laws.Externs
namespace Go.Proofs.Ytdiacpadbndncaa
open Go.RowKit

theorem div_any (hi lo y : Nat) (w : World) (hy : 2305843009213693950 ≤ y ∧ y ≤ 2305843009213693951) (hhi : hi < y) (hlo : lo < 18446744073709551616) :
    Calls Try.prog 61 #[.int .u64 (hi : Int), .int .u64 (lo : Int), .int .u64 (y : Int)] w fun e w' => Lft e ((hi * 18446744073709551616 + lo) % y) ∧ Below w.heap.size w w' := by
  by_cases h0 : hi = 0
  · subst h0
    have h := div_small lo y w hy hlo
    rw [Nat.zero_mul, Nat.zero_add]
    exact h
  · exact (div_great hi lo y w hy (by omega) hhi hlo).mono fun _ _ ⟨h, e⟩ => ⟨h, e ▸ Below.refl _ _⟩

theorem rem_any (hi lo y : Nat) (w : World) (hy : 2305843009213693950 ≤ y ∧ y ≤ 2305843009213693951) (hhi : hi < 18446744073709551616) (hlo : lo < 18446744073709551616) :
    Calls Try.prog 52 #[.int .u64 (hi : Int), .int .u64 (lo : Int), .int .u64 (y : Int)] w fun e w' => e = .returned (.int .u64 ((hi * 18446744073709551616 + lo) % y : Nat)) ∧ Below w.heap.size w w' := by
  obtain ⟨r, hr⟩ : ∃ r : Nat, r = hi % y := ⟨_, rfl⟩
  have h1 : (hi : Int) % (y : Int) = (r : Int) := by rw [hr]; exact (Int.natCast_emod hi y).symm
  have h2 : (hi : Int).tmod (y : Int) = (r : Int) := by rw [Int.tmod_eq_emod_of_nonneg (by omega)]; exact h1
  have h3 : ¬ (y : Int) = 0 := by omega
  have h4 : 0 < y := by omega
  have hl : r < y := by rw [hr]; exact Nat.mod_lt _ h4
  have e : (hi * 18446744073709551616 + lo) % y = (r * 18446744073709551616 + lo) % y := by
    rw [hr, Nat.add_mod, Nat.mul_mod, ← Nat.mod_mod hi y, ← Nat.mul_mod, ← Nat.add_mod, Nat.mod_mod]
  have H := Lib.hid (div_any r lo y w hy hl hlo)
  rw [← e] at H
  obtain ⟨z, hz⟩ : ∃ z : Nat, z = (hi * 18446744073709551616 + lo) % y := ⟨_, rfl⟩
  rw [← hz] at H ⊢
  have h5 : r < 2305843009213693952 := by omega
  clear hr e hz hy hl
  go_enter Try.func52, Try.ntmps52
  go_wp2_with fail
  refine (H.out).mono ?_
  rintro e w' ⟨⟨q, rfl⟩, hb⟩
  go_wp2
  go_ret
  exact ⟨rfl, hb⟩

theorem prod_any (m a b : Nat) (w : World) (hm : 2305843009213693950 ≤ m ∧ m ≤ 2305843009213693951) (ha : a < 18446744073709551616) (hb : b < 18446744073709551616) :
    Calls Try.prog 41 #[.int .u64 (m : Int), .int .u64 (a : Int), .int .u64 (b : Int)] w fun e w' => e = .returned (.int .u64 (a * b % m : Nat)) ∧ Below w.heap.size w w' := by
  have h1 := mul64_any a b ha hb w
  have hz : a * b < 340282366920938463463374607431768211456 := by
    have h : a * b ≤ 18446744073709551615 * 18446744073709551615 := Nat.mul_le_mul (Nat.le_pred_of_lt ha) (Nat.le_pred_of_lt hb)
    omega
  generalize a * b = z at h1 hz ⊢
  obtain ⟨u, hu⟩ : ∃ u : Nat, u = z / 18446744073709551616 := ⟨_, rfl⟩
  obtain ⟨v, hv⟩ : ∃ v : Nat, v = z % 18446744073709551616 := ⟨_, rfl⟩
  have h2 := fun W => rem_any u v m W hm (by omega) (by omega)
  rw [show u * 18446744073709551616 + v = z by omega] at h2
  rw [← hu, ← hv] at h1
  obtain ⟨r, hr⟩ : ∃ r : Nat, r = z % m := ⟨_, rfl⟩
  rw [← hr] at h2 ⊢
  have H1 := Lib.hid h1
  have H2 := Lib.hid h2
  clear h1 h2 hr hu hv hz hm
  go_enter Try.func41, Try.ntmps41
  go_wp2_with fail
  refine (H1.out).mono ?_
  rintro e w' ⟨rfl, rfl⟩
  go_wp2_with fail
  refine (H2.out _).mono ?_
  rintro e w1 ⟨rfl, hb1⟩
  go_wp2
  go_ret
  exact ⟨rfl, hb1⟩

theorem add64_run (x y : Nat) (w : World) :
    (callFunc 53 #[.int .u64 (x : Int), .int .u64 (y : Int), .int .u64 0]).run Try.prog w =
      .ok (.value (.tuple #[.int .u64 (((x + y) % 18446744073709551616 : Nat) : Int), .int .u64 (((x + y) / 18446744073709551616 : Nat) : Int)])) w := by
  rw [run_callFunc_extern (fn := Try.f53) (by kernel_rfl) (by kernel_rfl) (by kernel_rfl) (by kernel_rfl) (e := add64Entry) (by kernel_rfl), run_add64 x y 0 (by omega) (by omega) (by omega) (by omega)]
  simp only [Result.andThen]
  congr 5 <;> omega

theorem sum_any (m a b : Nat) (w : World) (hm : 2305843009213693950 ≤ m ∧ m ≤ 2305843009213693951) (ha : a < 18446744073709551616) (hb : b < 18446744073709551616) :
    Calls Try.prog 43 #[.int .u64 (m : Int), .int .u64 (a : Int), .int .u64 (b : Int)] w fun e w' => e = .returned (.int .u64 ((a + b) % m : Nat)) ∧ Below w.heap.size w w' := by
  have h1 := add64_run a b
  obtain ⟨z, ez⟩ : ∃ z : Nat, z = a + b := ⟨_, rfl⟩
  rw [← ez] at h1 ⊢
  obtain ⟨u, hu⟩ : ∃ u : Nat, u = z / 18446744073709551616 := ⟨_, rfl⟩
  obtain ⟨v, hv⟩ : ∃ v : Nat, v = z % 18446744073709551616 := ⟨_, rfl⟩
  have h2 := fun W => rem_any u v m W hm (by omega) (by omega)
  rw [show u * 18446744073709551616 + v = z by omega] at h2
  rw [← hu, ← hv] at h1
  obtain ⟨r, hr⟩ : ∃ r : Nat, r = z % m := ⟨_, rfl⟩
  rw [← hr] at h2 ⊢
  have H2 := Lib.hid h2
  clear h2 hr hu hv ez hm
  go_enter Try.func43, Try.ntmps43
  go_wp2_with (go_at_call 52; refine (H2.out _).mono ?_; rintro e w1 ⟨rfl, hb1⟩)
  go_ret
  exact ⟨rfl, hb1⟩

set_option maxHeartbeats 400000 in
theorem power_any (a n : Nat) (w : World) (ha : a < 2305843009213693951) (hn : n < 18446744073709551616) :
    Calls Try.prog 27 #[.int .u64 2305843009213693951, .int .u64 (a : Int), .int .u64 (n : Int)] w fun e w' => e = .returned (.int .u64 (Fld.pow a n : Nat)) ∧ Below w.heap.size w w' := by
  have hst := Lib.hid (show PowInv a n 1 a n by have h := PowInv.start a n; rwa [show Fld.num a = a from Nat.mod_eq_of_lt ha] at h)
  have HP : Hid (∀ x y : Nat, x < 2305843009213693951 → y < 2305843009213693951 → ∀ W : World, Calls Try.prog 41 #[.int .u64 2305843009213693951, .int .u64 (x : Int), .int .u64 (y : Int)] W fun e w' => e = .returned (.int .u64 (Fld.mul x y : Nat)) ∧ Below W.heap.size W w') :=
    Lib.hid fun x y hx hy W => prod_any 2305843009213693951 x y W (by omega) (by omega) (by omega)
  go_enter Try.func27, Try.ntmps27
  go_wp2
  go_loopw [2, 7, 8] (fun k o b wr => ∃ o' b' k' : Nat, o = .int .u64 o' ∧ b = .int .u64 b' ∧ k = .int .u64 k' ∧ k' < 18446744073709551616 ∧ PowInv a n o' b' k' ∧ Below w.heap.size w wr)
    (fun k _ _ _ => (intOf k).toNat)
  case atStart => exact ⟨1, a, n, rfl, rfl, rfl, hn, hst.out, Below.refl _ _⟩
  case round =>
    obtain ⟨o, b, k, rfl, rfl, rfl, hk, hI, hB⟩ := hrel
    by_cases hz : k = 0
    · subst hz
      have HI := Lib.hid hI
      clear hI
      go_wp2
      go_ret
      exact ⟨ret_u64 (by rw [HI.out.done]), hB⟩
    · have hpos : 0 < k := Nat.pos_of_ne_zero hz
      have hdv : (k : Int) / 2 = ((k / 2 : Nat) : Int) := by omega
      have hand : bits .and .u64 (k : Int) 1 = ((k % 2 : Nat) : Int) := by
        have h := bits_and_u64_nat k 1 hk (by omega)
        rw [Nat.and_one_is_mod] at h
        exact h
      have ho := hI.1
      have hbl := hI.2.1
      by_cases h1 : k % 2 = 1
      · have HI := Lib.hid (hI.odd h1)
        rw [h1] at hand
        have hand1 : bits .and .u64 (k : Int) 1 = 1 := hand
        obtain ⟨k2, hk2⟩ : ∃ k2 : Nat, k2 = k / 2 := ⟨_, rfl⟩
        rw [← hk2] at hdv HI
        have hlt : k2 < k := by omega
        clear hk2 h1 hI hz hand
        go_wp2_with fail
        refine (HP.out _ _ (by assumption) (by assumption) _).mono ?_
        rintro e w0 ⟨rfl, hb0⟩
        go_wp2_with fail
        refine (HP.out _ _ (by assumption) (by assumption) _).mono ?_
        rintro e w' ⟨rfl, hb1⟩
        go_wp2
        go_roundw
        case rel => exact ⟨Fld.mul o b, Fld.mul b b, k2, rfl, rfl, rfl, by omega, HI.out, hB.trans ((hb0.trans (hb1.mono hb0.size)).mono hB.size)⟩
        case measure => simp [intOf]; omega
      · have h2 : k % 2 = 0 := by omega
        have HI := Lib.hid (hI.even h2)
        rw [h2] at hand
        have hand1 : bits .and .u64 (k : Int) 1 = 0 := hand
        obtain ⟨k2, hk2⟩ : ∃ k2 : Nat, k2 = k / 2 := ⟨_, rfl⟩
        rw [← hk2] at hdv HI
        have hlt : k2 < k := by omega
        clear hk2 h1 h2 hI hz hand
        go_wp2_with fail
        refine (HP.out _ _ (by assumption) (by assumption) _).mono ?_
        rintro e w' ⟨rfl, hb1⟩
        go_wp2
        go_roundw
        case rel => exact ⟨o, Fld.mul b b, k2, rfl, rfl, rfl, by omega, HI.out, hB.trans (hb1.mono hB.size)⟩
        case measure => simp [intOf]; omega

end Go.Proofs.Ytdiacpadbndncaa
