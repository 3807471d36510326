/-
  The library's long division of two words by one, for the two moduli that package sign has: what is left is what the natural numbers leave. The divisor is 2^61 - 1 or 2^61 - 2, the upper word is less than it.
-/
import Derived.Test.YtdiacpadbndncaaSga
import Derived.Deep.DeepCutAuto
import Derived.Deep.CutBlock
namespace Go.Proofs.Ytdiacpadbndncaa
open Go.RowKit

set_option maxRecDepth 100000 in
set_option maxHeartbeats 1000000 in
theorem len_mod (y : Nat) (w : World) (hy : 2305843009213693950 ≤ y ∧ y ≤ 2305843009213693951) : Calls Try.prog 63 #[.int .u64 (y : Int)] w fun e w' => e = .returned (.int .i64 61) ∧ w = w' := by
  have h : y = 2305843009213693950 ∨ y = 2305843009213693951 := by omega
  rcases h with rfl | rfl
  · rw [show ((2305843009213693950 : Nat) : Int) = 2305843009213693950 from rfl]
    clear hy
    go_enter Try.func63, Try.ntmps63
    go_wp2
    go_ret
    exact ⟨by kernel_rfl, rfl⟩
  · rw [show ((2305843009213693951 : Nat) : Int) = 2305843009213693951 from rfl]
    clear hy
    go_enter Try.func63, Try.ntmps63
    go_wp2
    go_ret
    exact ⟨by kernel_rfl, rfl⟩

theorem zeros_mod (y : Nat) (w : World) (hy : 2305843009213693950 ≤ y ∧ y ≤ 2305843009213693951) : Calls Try.prog 62 #[.int .u64 (y : Int)] w fun e w' => e = .returned (.int .i64 3) ∧ w = w' := by
  have H := Lib.hid (len_mod y w hy)
  clear hy
  go_enter Try.func62, Try.ntmps62
  go_wp2_with fail
  refine (H.out).mono ?_
  rintro e w' ⟨rfl, rfl⟩
  go_wp2
  go_ret
  exact ⟨rfl, rfl⟩

/-- What the division leaves. -/
def Lft (e : Ending) (r : Nat) : Prop := ∃ q : Nat, e = .returned (.tuple #[.int .u64 (q : Int), .int .u64 (r : Nat)])

set_option maxRecDepth 100000 in
set_option maxHeartbeats 1000000 in
theorem div_small (lo y : Nat) (w : World) (hy : 2305843009213693950 ≤ y ∧ y ≤ 2305843009213693951) (hlo : lo < 18446744073709551616) :
    Calls Try.prog 61 #[.int .u64 0, .int .u64 (lo : Int), .int .u64 (y : Int)] w fun e w' => Lft e (lo % y) ∧ Below w.heap.size w w' := by
  obtain ⟨q, hq⟩ : ∃ q : Nat, q = lo / y := ⟨_, rfl⟩
  obtain ⟨r, hr⟩ : ∃ r : Nat, r = lo % y := ⟨_, rfl⟩
  rw [← hr]
  have h1 : (lo : Int) / (y : Int) = (q : Int) := by rw [hq]; exact (Int.natCast_ediv lo y).symm
  have h2 : (lo : Int) % (y : Int) = (r : Int) := by rw [hr]; exact (Int.natCast_emod lo y).symm
  have h3 : ¬ (y : Int) = 0 := by omega
  have h4 : (lo : Int).tdiv (y : Int) = (q : Int) := by rw [Int.tdiv_eq_ediv_of_nonneg (by omega)]; exact h1
  have h5 : (lo : Int).tmod (y : Int) = (r : Int) := by rw [Int.tmod_eq_emod_of_nonneg (by omega)]; exact h2
  have h6 : 0 < y := by omega
  have h7 : q < 18446744073709551616 := by rw [hq]; exact Nat.lt_of_le_of_lt (Nat.div_le_self _ _) hlo
  clear hq hr hy
  go_enter Try.func61, Try.ntmps61
  go_wp2
  go_region
  go_wp2
  go_ret2
  exact ⟨⟨q, rfl⟩, below_drewN (Below.refl _ _) 1⟩


/-! ### pure facts for the walk: a digit's guess, in the machine's words -/
/-- The digit is right: what it leaves is n. -/
def Gd (U u Y q n : Nat) : Prop := q * Y ≤ U * 4294967296 + u ∧ U * 4294967296 + u - q * Y = n
theorem prod_lt (q d : Nat) (hq : q < 4294967296) (hd : d < 4294967296) : q * d < 18446744073709551616 := by
  have h := Nat.mul_le_mul (Nat.le_pred_of_lt hq) (Nat.le_pred_of_lt hd)
  have h2 : q * d ≤ 4294967295 * 4294967295 := h
  omega
theorem or61 (hi lo : Nat) (hhi : hi < 2305843009213693952) (hlo : lo < 18446744073709551616) :
    bits .or .u64 ((hi * 8 : Nat) : Int) ((lo / 2305843009213693952 : Nat) : Int) = ((hi * 8 + lo / 2305843009213693952 : Nat) : Int) := by
  rw [bits_or_u64_nat _ _ (by omega) (by omega)]
  have h3 : hi * 8 ||| lo / 2305843009213693952 = hi * 8 + lo / 2305843009213693952 := by
    have := Nat.shiftLeft_add_eq_or_of_lt (b := lo / 2305843009213693952) (i := 3) (by omega) hi
    rw [Nat.shiftLeft_eq] at this
    exact this.symm
  rw [h3]
/-- What is left, in words of 64 bits. -/
theorem left_wrap (U u Y q n a p : Nat) (hq : q * Y ≤ U * 4294967296 + u) (hn : U * 4294967296 + u - q * Y = n) (hl : n < 18446744073709551616)
    (ha : a = U * 4294967296 % 18446744073709551616) (hp : p = q * Y % 18446744073709551616) : IntKind.u64.wrap ((a : Int) + (u : Int) - (p : Int)) = (n : Int) := by
  generalize q * Y = m at hq hn hp
  rw [IntKind.wrap_u64]
  omega
theorem guess_lt (q Y U u : Nat) (hU : U < Y) (hu : u < 4294967296) (h : q * Y ≤ U * 4294967296 + u) : q < 4294967296 := by
  have h1 : ∀ b : Nat, U + 1 ≤ Y → (U + 1) * b ≤ Y * b := fun b h => Nat.mul_le_mul_right _ h
  have h2 := h1 4294967296 hU
  have h3 : q * Y < 4294967296 * Y := by omega
  exact Nat.lt_of_mul_lt_mul_right h3
/-- Both digits: what is left of the number that was moved up. -/
theorem digits (hi lo y U V u1 u0 n1 n0 : Nat) (h1 : U = hi * 8 + lo / 2305843009213693952) (h2 : V = lo * 8 % 18446744073709551616) (h3 : u1 = V / 4294967296) (h4 : u0 = V % 4294967296)
    (h5 : n1 = (U * 4294967296 + u1) % (y * 8)) (h6 : n0 = (n1 * 4294967296 + u0) % (y * 8)) : n0 / 8 = (hi * 18446744073709551616 + lo) % y := by
  have e1 : n0 = ((U * 4294967296 + u1) * 4294967296 + u0) % (y * 8) := by
    rw [h6, h5, Nat.add_mod, Nat.mul_mod, Nat.mod_mod, ← Nat.mul_mod, ← Nat.add_mod]
  have e2 : (U * 4294967296 + u1) * 4294967296 + u0 = (hi * 18446744073709551616 + lo) * 8 := by omega
  rw [e1, e2, Nat.mul_mod_mul_right]
  omega

set_option maxRecDepth 100000 in
set_option maxHeartbeats 2000000 in
theorem div_great (hi lo y : Nat) (w : World) (hy : 2305843009213693950 ≤ y ∧ y ≤ 2305843009213693951) (h0 : 0 < hi) (hhi : hi < y) (hlo : lo < 18446744073709551616) :
    Calls Try.prog 61 #[.int .u64 (hi : Int), .int .u64 (lo : Int), .int .u64 (y : Int)] w fun e w' => Lft e ((hi * 18446744073709551616 + lo) % y) ∧ w = w' := by
  have HZ := Lib.hid (fun W => zeros_mod y W hy)
  obtain ⟨Y, eY⟩ : ∃ Y : Nat, Y = y * 8 := ⟨_, rfl⟩
  obtain ⟨d, ed⟩ : ∃ d : Nat, d = Y % 4294967296 := ⟨_, rfl⟩
  obtain ⟨A, eA⟩ : ∃ A : Nat, A = hi * 8 := ⟨_, rfl⟩
  obtain ⟨B, eB⟩ : ∃ B : Nat, B = lo / 2305843009213693952 := ⟨_, rfl⟩
  obtain ⟨U, eU⟩ : ∃ U : Nat, U = hi * 8 + lo / 2305843009213693952 := ⟨_, rfl⟩
  obtain ⟨V, eV⟩ : ∃ V : Nat, V = lo * 8 % 18446744073709551616 := ⟨_, rfl⟩
  obtain ⟨u1, e1⟩ : ∃ u1 : Nat, u1 = V / 4294967296 := ⟨_, rfl⟩
  obtain ⟨u0, e0⟩ : ∃ u0 : Nat, u0 = V % 4294967296 := ⟨_, rfl⟩
  obtain ⟨q0, eq0⟩ : ∃ q0 : Nat, q0 = U / 4294967295 := ⟨_, rfl⟩
  obtain ⟨r0, er0⟩ : ∃ r0 : Nat, r0 = U % 4294967295 := ⟨_, rfl⟩
  have b1 : 0 < y := by omega
  have b2 : y < 2305843009213693952 := by omega
  have b3 : Y < 18446744073709551616 := by omega
  have b4 : d < 4294967296 := by omega
  have b5 : U < 18446744073709551616 := by omega
  have b6 : V < 18446744073709551616 := by omega
  have b7 : u1 < 4294967296 := by omega
  have b8 : u0 < 4294967296 := by omega
  have b9 : q0 ≤ 4294967297 := by omega
  have b10 : r0 < 4294967295 := by omega
  have b11 : U < Y := by omega
  have b12 : 0 < Y := by omega
  have g1 : (y : Int) * 8 = (Y : Int) := by omega
  have g2 : (Y : Int) / 4294967296 = 4294967295 := by omega
  have g3 : bits .and .u64 (Y : Int) 4294967295 = (d : Int) := by rw [M64.maskN Y b3, ← ed]
  have g4 : (hi : Int) * 8 = (A : Int) := by omega
  have g5 : (lo : Int) / 2305843009213693952 = (B : Int) := by omega
  have g6 : bits .or .u64 (A : Int) (B : Int) = (U : Int) := by rw [eA, eB, eU]; exact or61 hi lo (by omega) hlo
  have g7 : IntKind.u64.wrap ((lo : Int) * 8) = (V : Int) := by rw [IntKind.wrap_u64]; omega
  have g8 : (V : Int) / 4294967296 = (u1 : Int) := by omega
  have g9 : bits .and .u64 (V : Int) 4294967295 = (u0 : Int) := by rw [M64.maskN V b6, ← e0]
  have g10 : (U : Int) / 4294967295 = (q0 : Int) := by omega
  have g11 : (U : Int) - (q0 : Int) * 4294967295 = (r0 : Int) := by omega
  have EY : Hid (4294967295 * 4294967296 + d = Y) := Lib.hid (by omega)
  have K0 : Hid (Sg.Kn U u1 4294967295 d q0 r0) := Lib.hid (by rw [eq0, er0]; exact Sg.Kn.start U u1 4294967295 d (by omega) b7)
  obtain ⟨n1, en1⟩ : ∃ n1 : Nat, n1 = (U * 4294967296 + u1) % Y := ⟨_, rfl⟩
  have b13 : n1 < Y := by rw [en1]; exact Nat.mod_lt _ b12
  have EN1 := Lib.hid en1
  obtain ⟨z, ez⟩ : ∃ z : Nat, z = (hi * 18446744073709551616 + lo) % y := ⟨_, rfl⟩
  rw [← ez]
  have ED : Hid (∀ n0 : Nat, n0 = (n1 * 4294967296 + u0) % Y → n0 / 8 = z) := Lib.hid (fun n0 h => ez ▸ digits hi lo y U V u1 u0 n1 n0 eU eV e1 e0 (by rw [← eY]; exact en1) (by rw [← eY]; exact h))
  have HH := Lib.hid hhi
  have b14 : A < 18446744073709551616 := by omega
  have b15 : ¬ y ≤ hi := by omega
  clear ez hy eY ed eA eB eU eV e1 e0 eq0 er0 en1
  go_enter Try.func61, Try.ntmps61
  go_wp2_with fail
  refine (HZ.out _).mono ?_
  rintro e w' ⟨rfl, rfl⟩
  have HD1 : Hid (∀ q r : Nat, Sg.Kn U u1 4294967295 d q r → q * d ≤ 4294967296 * r + u1 → Gd U u1 Y q n1) := Lib.hid (fun q r hk hg => by
    have h := Sg.Kn.done hk hg
    rw [EY.out] at h
    exact ⟨h.1, h.2.trans EN1.out.symm⟩)
  go_upto_block 0 with (fail)
  go_cut [15] (fun s wx => w = wx ∧ ∃ q : Nat, s = .int .u64 q ∧ Gd U u1 Y q n1)
  case first =>
    go_wp2_with fail
    go_loop [15, 16] (fun sq sr => ∃ q r : Nat, sq = .int .u64 q ∧ sr = .int .u64 r ∧ Sg.Kn U u1 4294967295 d q r ∧ q ≤ 4294967297 ∧ r < 4294967296) (fun sq _ => (intOf sq).toNat)
    case atStart => exact ⟨q0, r0, rfl, rfl, K0.out, by omega, by omega⟩
    case round =>
      obtain ⟨q, r, rfl, rfl, hk, hq, hr⟩ := hrel
      have HK0 := Lib.hid hk
      clear hk
      by_cases h1 : 4294967296 ≤ q
      · have hb1 : decide ((4294967296 : Int) ≤ (q : Int)) = true := decide_eq_true (by omega)
        have hl := Sg.Kn.less HK0.out (by rw [EY.out]; omega) (by omega) (.inl h1)
        have hq0 := hl.1
        have HK := Lib.hid hl.2
        clear hl h1 HK0
        obtain ⟨q2, hq2⟩ : ∃ q2 : Nat, q2 = q - 1 := ⟨_, rfl⟩
        obtain ⟨r2, hr2⟩ : ∃ r2 : Nat, r2 = r + 4294967295 := ⟨_, rfl⟩
        rw [← hq2, ← hr2] at HK
        have hs1 : (q : Int) - 1 = (q2 : Int) := by omega
        have hs2 : (r : Int) + 4294967295 = (r2 : Int) := by omega
        have hq3 : q2 ≤ 4294967296 := by omega
        have hq4 : q2 < q := by omega
        have hr3 : r2 < 8589934592 := by omega
        clear hq2 hr2
        by_cases hb : 4294967296 ≤ r2
        · have hbb : decide ((4294967296 : Int) ≤ (r2 : Int)) = true := decide_eq_true (by omega)
          have HB := Lib.hid hb
          clear hb
          go_wp2
          go_meet
          exact ⟨rfl, q2, rfl, HD1.out _ _ HK.out (Sg.Kn.over HK.out b4 hq3 HB.out)⟩
        · have hbb : decide ((4294967296 : Int) ≤ (r2 : Int)) = false := decide_eq_false (by omega)
          have HB := Lib.hid hb
          clear hb
          go_wp2
          go_round
          case rel => exact ⟨q2, r2, rfl, rfl, HK.out, by omega, by have := HB.out; omega⟩
          case measure => simp [intOf]; omega
      · have hb1 : decide ((4294967296 : Int) ≤ (q : Int)) = false := decide_eq_false (by omega)
        obtain ⟨m, hm⟩ : ∃ m : Nat, m = q * d := ⟨_, rfl⟩
        have hm1 : m < 18446744073709551616 := by rw [hm]; exact prod_lt q d (by omega) b4
        have hm2 : IntKind.u64.wrap ((q : Int) * (d : Int)) = (m : Int) := by rw [hm, M64.mulN, M64.wrapN _ (by rw [← hm]; exact hm1)]
        by_cases h2 : 4294967296 * r + u1 < m
        · have hb2 : decide (4294967296 * (r : Int) + (u1 : Int) < (m : Int)) = true := decide_eq_true (by omega)
          have hl := Sg.Kn.less HK0.out (by rw [EY.out]; omega) (by omega) (.inr (by rw [← hm]; exact h2))
          have hq0 := hl.1
          have HK := Lib.hid hl.2
          clear hl h1 h2 hm HK0
          obtain ⟨q2, hq2⟩ : ∃ q2 : Nat, q2 = q - 1 := ⟨_, rfl⟩
          obtain ⟨r2, hr2⟩ : ∃ r2 : Nat, r2 = r + 4294967295 := ⟨_, rfl⟩
          rw [← hq2, ← hr2] at HK
          have hs1 : (q : Int) - 1 = (q2 : Int) := by omega
          have hs2 : (r : Int) + 4294967295 = (r2 : Int) := by omega
          have hq3 : q2 ≤ 4294967296 := by omega
          have hq4 : q2 < q := by omega
          have hr3 : r2 < 8589934592 := by omega
          clear hq2 hr2
          by_cases hb : 4294967296 ≤ r2
          · have hbb : decide ((4294967296 : Int) ≤ (r2 : Int)) = true := decide_eq_true (by omega)
            have HB := Lib.hid hb
            clear hb
            go_wp2
            go_meet
            exact ⟨rfl, q2, rfl, HD1.out _ _ HK.out (Sg.Kn.over HK.out b4 hq3 HB.out)⟩
          · have hbb : decide ((4294967296 : Int) ≤ (r2 : Int)) = false := decide_eq_false (by omega)
            have HB := Lib.hid hb
            clear hb
            go_wp2
            go_round
            case rel => exact ⟨q2, r2, rfl, rfl, HK.out, by omega, by have := HB.out; omega⟩
            case measure => simp [intOf]; omega
        · have hb2 : decide (4294967296 * (r : Int) + (u1 : Int) < (m : Int)) = false := decide_eq_false (by omega)
          have HG := Lib.hid (show q * d ≤ 4294967296 * r + u1 by omega)
          clear h1 h2 hm
          go_wp2
          go_meet
          exact ⟨rfl, q, rfl, HD1.out _ _ HK0.out HG.out⟩
  case rest =>
    obtain ⟨rfl, q1, rfl, hg1⟩ := hcut
    have G1 := Lib.hid hg1
    have c1 := guess_lt q1 Y U u1 b11 b7 hg1.1
    obtain ⟨a, ea⟩ : ∃ a : Nat, a = U * 4294967296 % 18446744073709551616 := ⟨_, rfl⟩
    obtain ⟨p, ep⟩ : ∃ p : Nat, p = q1 * Y % 18446744073709551616 := ⟨_, rfl⟩
    have i1 : IntKind.u64.wrap ((U : Int) * 4294967296) = (a : Int) := by rw [IntKind.wrap_u64]; omega
    have i2 : IntKind.u64.wrap ((q1 : Int) * (Y : Int)) = (p : Int) := by rw [M64.mulN, M64.wrapM, ← ep]
    have i3 : IntKind.u64.wrap ((a : Int) + (u1 : Int) - (p : Int)) = (n1 : Int) := left_wrap U u1 Y q1 n1 a p hg1.1 hg1.2 (by omega) ea ep
    have c2 : a + 4294967296 ≤ 18446744073709551616 := by omega
    have c3 : p < 18446744073709551616 := by omega
    have c4 : n1 < 18446744073709551616 := by omega
    obtain ⟨k0, ek0⟩ : ∃ k0 : Nat, k0 = n1 / 4294967295 := ⟨_, rfl⟩
    obtain ⟨l0, el0⟩ : ∃ l0 : Nat, l0 = n1 % 4294967295 := ⟨_, rfl⟩
    have c5 : k0 ≤ 4294967297 := by omega
    have c6 : l0 < 4294967295 := by omega
    have i4 : (n1 : Int) / 4294967295 = (k0 : Int) := by omega
    have i5 : (n1 : Int) - (k0 : Int) * 4294967295 = (l0 : Int) := by omega
    have K1 : Hid (Sg.Kn n1 u0 4294967295 d k0 l0) := Lib.hid (by rw [ek0, el0]; exact Sg.Kn.start n1 u0 4294967295 d (by omega) b8)
    obtain ⟨n0, en0⟩ : ∃ n0 : Nat, n0 = (n1 * 4294967296 + u0) % Y := ⟨_, rfl⟩
    have b16 : n0 < Y := by rw [en0]; exact Nat.mod_lt _ b12
    have EN0 := Lib.hid en0
    have HD0 : Hid (∀ q r : Nat, Sg.Kn n1 u0 4294967295 d q r → q * d ≤ 4294967296 * r + u0 → Gd n1 u0 Y q n0) := Lib.hid (fun q r hk hg => by
      have h := Sg.Kn.done hk hg
      rw [EY.out] at h
      exact ⟨h.1, h.2.trans EN0.out.symm⟩)
    clear hg1 ea ep ek0 el0 en0 G1 K0 HD1
    go_upto_block 2 with (fail)
    go_cut [18] (fun s wx => w = wx ∧ ∃ q : Nat, s = .int .u64 q ∧ Gd n1 u0 Y q n0)
    case first =>
      go_wp2_with fail
      go_loop [16, 18] (fun sr sq => ∃ q r : Nat, sq = .int .u64 q ∧ sr = .int .u64 r ∧ Sg.Kn n1 u0 4294967295 d q r ∧ q ≤ 4294967297 ∧ r < 4294967296) (fun _ sq => (intOf sq).toNat)
      case atStart => exact ⟨k0, l0, rfl, rfl, K1.out, by omega, by omega⟩
      case round =>
        obtain ⟨q, r, rfl, rfl, hk, hq, hr⟩ := hrel
        have HK0 := Lib.hid hk
        clear hk
        by_cases h1 : 4294967296 ≤ q
        · have hb1 : decide ((4294967296 : Int) ≤ (q : Int)) = true := decide_eq_true (by omega)
          have hl := Sg.Kn.less HK0.out (by rw [EY.out]; omega) (by omega) (.inl h1)
          have hq0 := hl.1
          have HK := Lib.hid hl.2
          clear hl h1 HK0
          obtain ⟨q2, hq2⟩ : ∃ q2 : Nat, q2 = q - 1 := ⟨_, rfl⟩
          obtain ⟨r2, hr2⟩ : ∃ r2 : Nat, r2 = r + 4294967295 := ⟨_, rfl⟩
          rw [← hq2, ← hr2] at HK
          have hs1 : (q : Int) - 1 = (q2 : Int) := by omega
          have hs2 : (r : Int) + 4294967295 = (r2 : Int) := by omega
          have hq3 : q2 ≤ 4294967296 := by omega
          have hq4 : q2 < q := by omega
          have hr3 : r2 < 8589934592 := by omega
          clear hq2 hr2
          by_cases hb : 4294967296 ≤ r2
          · have hbb : decide ((4294967296 : Int) ≤ (r2 : Int)) = true := decide_eq_true (by omega)
            have HB := Lib.hid hb
            clear hb
            go_wp2
            go_meet
            exact ⟨rfl, q2, rfl, HD0.out _ _ HK.out (Sg.Kn.over HK.out b4 hq3 HB.out)⟩
          · have hbb : decide ((4294967296 : Int) ≤ (r2 : Int)) = false := decide_eq_false (by omega)
            have HB := Lib.hid hb
            clear hb
            go_wp2
            go_round
            case rel => exact ⟨q2, r2, rfl, rfl, HK.out, by omega, by have := HB.out; omega⟩
            case measure => simp [intOf]; omega
        · have hb1 : decide ((4294967296 : Int) ≤ (q : Int)) = false := decide_eq_false (by omega)
          obtain ⟨m, hm⟩ : ∃ m : Nat, m = q * d := ⟨_, rfl⟩
          have hm1 : m < 18446744073709551616 := by rw [hm]; exact prod_lt q d (by omega) b4
          have hm2 : IntKind.u64.wrap ((q : Int) * (d : Int)) = (m : Int) := by rw [hm, M64.mulN, M64.wrapN _ (by rw [← hm]; exact hm1)]
          by_cases h2 : 4294967296 * r + u0 < m
          · have hb2 : decide (4294967296 * (r : Int) + (u0 : Int) < (m : Int)) = true := decide_eq_true (by omega)
            have hl := Sg.Kn.less HK0.out (by rw [EY.out]; omega) (by omega) (.inr (by rw [← hm]; exact h2))
            have hq0 := hl.1
            have HK := Lib.hid hl.2
            clear hl h1 h2 hm HK0
            obtain ⟨q2, hq2⟩ : ∃ q2 : Nat, q2 = q - 1 := ⟨_, rfl⟩
            obtain ⟨r2, hr2⟩ : ∃ r2 : Nat, r2 = r + 4294967295 := ⟨_, rfl⟩
            rw [← hq2, ← hr2] at HK
            have hs1 : (q : Int) - 1 = (q2 : Int) := by omega
            have hs2 : (r : Int) + 4294967295 = (r2 : Int) := by omega
            have hq3 : q2 ≤ 4294967296 := by omega
            have hq4 : q2 < q := by omega
            have hr3 : r2 < 8589934592 := by omega
            clear hq2 hr2
            by_cases hb : 4294967296 ≤ r2
            · have hbb : decide ((4294967296 : Int) ≤ (r2 : Int)) = true := decide_eq_true (by omega)
              have HB := Lib.hid hb
              clear hb
              go_wp2
              go_meet
              exact ⟨rfl, q2, rfl, HD0.out _ _ HK.out (Sg.Kn.over HK.out b4 hq3 HB.out)⟩
            · have hbb : decide ((4294967296 : Int) ≤ (r2 : Int)) = false := decide_eq_false (by omega)
              have HB := Lib.hid hb
              clear hb
              go_wp2
              go_round
              case rel => exact ⟨q2, r2, rfl, rfl, HK.out, by omega, by have := HB.out; omega⟩
              case measure => simp [intOf]; omega
          · have hb2 : decide (4294967296 * (r : Int) + (u0 : Int) < (m : Int)) = false := decide_eq_false (by omega)
            have HG := Lib.hid (show q * d ≤ 4294967296 * r + u0 by omega)
            clear h1 h2 hm
            go_wp2
            go_meet
            exact ⟨rfl, q, rfl, HD0.out _ _ HK0.out HG.out⟩
    case rest =>
      obtain ⟨rfl, k1, rfl, hg2⟩ := hcut
      have c7 := guess_lt k1 Y n1 u0 b13 b8 hg2.1
      obtain ⟨a', ea⟩ : ∃ a : Nat, a = n1 * 4294967296 % 18446744073709551616 := ⟨_, rfl⟩
      obtain ⟨p', ep⟩ : ∃ p : Nat, p = k1 * Y % 18446744073709551616 := ⟨_, rfl⟩
      have j1 : IntKind.u64.wrap ((n1 : Int) * 4294967296) = (a' : Int) := by rw [IntKind.wrap_u64]; omega
      have j2 : IntKind.u64.wrap ((k1 : Int) * (Y : Int)) = (p' : Int) := by rw [M64.mulN, M64.wrapM, ← ep]
      have j3 : IntKind.u64.wrap ((a' : Int) + (u0 : Int) - (p' : Int)) = (n0 : Int) := left_wrap n1 u0 Y k1 n0 a' p' hg2.1 hg2.2 (by omega) ea ep
      have c8 : a' + 4294967296 ≤ 18446744073709551616 := by omega
      have c9 : p' < 18446744073709551616 := by omega
      have j4 : (n0 : Int) / 8 = (z : Int) := by have := ED.out n0 EN0.out; omega
      obtain ⟨x, ex⟩ : ∃ x : Nat, x = q1 * 4294967296 := ⟨_, rfl⟩
      have j5 : (q1 : Int) * 4294967296 = (x : Int) := by omega
      have c10 : x + 4294967296 ≤ 18446744073709551616 := by omega
      have X := Lib.hid (show (x : Int) + (k1 : Int) = ((x + k1 : Nat) : Int) by omega)
      clear hg2 ea ep ex
      go_wp2
      go_ret2
      exact ⟨⟨x + k1, by rw [← X.out]; rfl⟩, rfl⟩

end Go.Proofs.Ytdiacpadbndncaa
