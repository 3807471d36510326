/-
  The statements DrawSecrets and DrawAgain: the walks, over natural numbers and lists. No condition but what fits memory.
-/
import Derived.Test.YtmmigancjggpgaaLiv
namespace Go.Proofs.Ytmmigancjggpgaa
open Go.RowKit

theorem Kp.rd {lo B : Nat} {w : World} {A : Option Addr} {l : List Nat} (h : Kp lo w A l) (hB : w.heap.size ≤ B) : Rd B w A (u64s l) := fun hp => by
  obtain ⟨b, off, e, _, h2, hc⟩ := h (by rw [u64s_len] at hp; exact hp)
  exact ⟨b, off, e, by omega, hc⟩

/-- The first 8, as draws take them. -/
theorem said_law (xs : List Nat) (A : Option Addr) (m c : Nat) (w : World) (hm : m = xs.length) (hmb : m ≤ 9223372036854775807) (hA : Rd w.heap.size w A (u64s xs)) :
    Calls Try.prog 10 #[.slice A m c] w fun e w' => ∃ A' c' p, e = .returned (.slice A' p c') ∧ p = (xs.take 8).length ∧ p ≤ 8 ∧ Rd w'.heap.size w' A' (u64s (xs.take 8)) ∧ (A' = none → p = 0 ∧ c' = 0) ∧
      w'.ownsRow w.heap.size 22 1 (.slice A' p c') p (u64s (xs.take 8)) ∧ Below w.heap.size w w' := by
  refine (said_any xs A m c w hm hmb hA).mono ?_
  rintro e w' ⟨A', c', rfl, ho, hb⟩
  obtain ⟨A2, c2, hv, hk, hl⟩ := kp_own ho
  injection hv with h1 h2 h3
  subst h1 h3
  refine ⟨_, _, min 8 m, rfl, hl, by omega, hk.rd (Nat.le_refl _), fun e => ?_, ho, hb⟩
  subst e
  rcases ho.2 with ⟨h4, h5⟩ | ⟨g, cp, cur, h4, _⟩
  · injection h4 with _ _ h6
    exact ⟨h5, h6⟩
  · injection h4 with h7
    cases h7

theorem take_lt {xs : List Nat} {n : Nat} (h : ∀ x ∈ xs, x < 18446744073709551616) : ∀ x ∈ xs.take n, x < 18446744073709551616 := fun x hx => h x (List.mem_of_mem_take hx)
theorem row_len {k : IntKind} {w : World} {a : Option Addr} {len cap : Nat} {zs : List Int}
    (h : (a = none ∧ len = 0 ∧ cap = 0 ∧ zs = []) ∨
      ∃ x, a = some x ∧ len ≤ cap ∧ cap ≤ maxLen ∧ zs.length = cap ∧ (∀ i, i < zs.length → w.cell? (x.add i) = some (.int k (zs.getD i 0))) ∧ ∀ n ∈ zs, (Lit.int k n).wf = true) : len ≤ 9223372036854775807 := by
  rcases h with ⟨_, rfl, _, _⟩ | ⟨x, _, hl, hm, _⟩
  · omega
  · unfold maxLen at hm
    omega

/-! ### DrawSecrets -/
set_option maxRecDepth 100000 in
set_option maxHeartbeats 1000000 in
theorem secrets_walk (seed : Nat) (xs : List Nat) (A : Option Addr) (m c : Nat) (n : Int) (w : World) (hs : seed < 18446744073709551616) (hm : m = xs.length) (hmb : m ≤ 9223372036854775807) (hx : ∀ x ∈ xs, x < 18446744073709551616)
    (hA : Rd w.heap.size w A (u64s xs)) (hn1 : -9223372036854775808 ≤ n) (hn2 : n ≤ 9223372036854775807) :
    Calls Try.prog 4 #[.int .u64 seed, .slice A m c, .int .i64 n] w fun e w' => e = .returned (.bool true) ∧ Below w.heap.size w w' := by
  have HSAID := Lib.hid (said_law xs A m c w hm hmb hA)
  have HX := Lib.hid (take_lt (n := 8) hx)
  clear hm hmb hx hA
  go_enter Try.func4, Try.ntmps4
  go_wp2_with fail
  refine (HSAID.out).mono ?_
  rintro e w1 ⟨A1, c1, p, rfl, hp, hp8, hA1, hnil, _, hb1⟩
  have HNEW := Lib.hid (new_any seed A1 (xs.take 8) p c1 w1 hp (by omega) hA1 hnil)
  have HP := Lib.hid hp
  clear HSAID hA1 hnil hp
  go_wp2_with fail
  refine (HNEW.out).mono ?_
  rintro e w2 ⟨D, U, rfl, hU, hd, hb2⟩
  have hq2 : Below w.heap.size w w2 := hb1.trans (hb2.mono hb1.size)
  have hB := hb1.size
  have HD := Lib.hid hd
  have HAR := Lib.hid (around_any n 31 w2 hn1 hn2 (by omega) (by omega))
  clear HNEW hd hb1 hb2 hU hn1 hn2
  go_wp2_with fail
  refine (HAR.out).mono ?_
  rintro e w3 ⟨r, hr, rfl, rfl⟩
  clear HAR
  go_wp2
  go_loopw [8, 9] (fun i _ wr => ∃ k j : Nat, i = .int .i64 k ∧ j + k = r ∧ Drs w1.heap.size wr D U seed (xs.take 8) j ∧ Below w.heap.size w wr) (fun i _ _ => (intOf i).toNat)
  case atStart => exact ⟨r, 0, rfl, by omega, HD.out, hq2⟩
  case round =>
    obtain ⟨k, j, rfl, hjk, hdr, hq⟩ := hrel
    have HDR := Lib.hid hdr
    clear hdr
    by_cases hk : 0 < k
    · obtain ⟨k1, hk1⟩ : ∃ k1, k1 = k - 1 := ⟨_, rfl⟩
      have hk2 : (k : Int) - 1 = (k1 : Int) := by omega
      obtain ⟨hlo, hhi⟩ := Dw.nth_pos seed (xs.take 8) (j + 1)
      have hnx := next_any _ D U seed j (xs.take 8) wr (by have := HP.out; omega) (by omega) hs HX.out HDR.out
      obtain ⟨y, hy⟩ : ∃ y : Nat, y = Dw.nth seed (xs.take 8) (j + 1) := ⟨_, rfl⟩
      rw [← hy] at hlo hhi hnx
      have t1 : decide ((y : Int) < 1) = false := decide_eq_false (by omega)
      have t2 : decide ((2305843009213693949 : Int) < (y : Int)) = false := decide_eq_false (by omega)
      have HNX := Lib.hid hnx
      have HK := Lib.hid hk1
      clear hnx hy hk1
      go_wp2_with fail
      refine (HNX.out).mono ?_
      rintro e w4 ⟨rfl, hd4, hg4⟩
      have hq4 := below_next hq HDR.out hB hg4
      have HD4 := Lib.hid hd4
      clear HNX hd4 hg4
      go_wp2
      go_roundw
      case rel => exact ⟨k1, j + 1, rfl, by have := HK.out; omega, HD4.out, hq4⟩
      case measure => simp [intOf]; have := HK.out; omega
    · have hk0 : k = 0 := by omega
      subst hk0
      have HLV := Lib.hid (lives_any wr)
      go_wp2_with fail
      refine (HLV.out).mono ?_
      rintro e w5 ⟨rfl, hb5⟩
      have hq5 := kept_trans hq hb5
      go_wp2
      go_ret
      exact ⟨rfl, hq5⟩

/-! ### DrawAgain -/
set_option maxRecDepth 100000 in
set_option maxHeartbeats 2000000 in
theorem again_walk (seed : Nat) (xs : List Nat) (A : Option Addr) (m c : Nat) (n : Int) (w : World) (hs : seed < 18446744073709551616) (hm : m = xs.length) (hmb : m ≤ 9223372036854775807) (hx : ∀ x ∈ xs, x < 18446744073709551616)
    (hA : Rd w.heap.size w A (u64s xs)) (hn1 : -9223372036854775808 ≤ n) (hn2 : n ≤ 9223372036854775807) :
    Calls Try.prog 5 #[.int .u64 seed, .slice A m c, .int .i64 n] w fun e w' => e = .returned (.bool true) ∧ Below w.heap.size w w' := by
  have HSAID := Lib.hid (said_law xs A m c w hm hmb hA)
  have HX := Lib.hid (take_lt (n := 8) hx)
  obtain ⟨sm, hsm⟩ : ∃ sm, sm = seed % 2305843009213693951 := ⟨_, rfl⟩
  have hsm1 : (seed : Int) % 2305843009213693951 = (sm : Int) := by omega
  have hsm2 : sm < 18446744073709551616 := by omega
  have HSM := Lib.hid hsm
  clear hmb hx hA hm hsm
  go_enter Try.func5, Try.ntmps5
  go_wp2_with fail
  refine (HSAID.out).mono ?_
  rintro e w1 ⟨A1, c1, p, rfl, hp, hp8, hA1, hnil, _, hb1⟩
  have HNEW := Lib.hid (new_any seed A1 (xs.take 8) p c1 w1 hp (by omega) hA1 hnil)
  have HP := Lib.hid hp
  have HA1 := Lib.hid hA1
  have HNIL := Lib.hid hnil
  have HB1 := Lib.hid hb1
  clear HSAID hA1 hnil hp hb1
  go_wp2_with fail
  refine (HNEW.out).mono ?_
  rintro e w2 ⟨D, U, rfl, hU, hd, hb2⟩
  have hq2 : Below w.heap.size w w2 := (HB1.out).trans (hb2.mono HB1.out.size)
  have HNEW2 := Lib.hid (new_any seed A1 (xs.take 8) p c1 w2 HP.out (by omega) ((HA1.out.below hb2).more hb2.size) HNIL.out)
  have HD := Lib.hid hd
  have hB := HB1.out.size
  have HA2 := Lib.hid ((HA1.out.below hb2).more hb2.size)
  have hz2 := hb2.size
  clear HNEW hd hb2 HA1
  go_wp2_with fail
  refine (HNEW2.out).mono ?_
  rintro e w3 ⟨D2, U2, rfl, hU2, hd2, hb3⟩
  have hq3 : Below w.heap.size w w3 := kept_trans hq2 hb3
  have HNEW3 := Lib.hid (new_any sm A1 (xs.take 8) p c1 w3 HP.out (by omega) ((HA2.out.below hb3).more hb3.size) HNIL.out)
  have HD1 := Lib.hid (HD.out.below hb3)
  have HD2 := Lib.hid hd2
  have hz3 := hb3.size
  have hne1 : U ≠ U2 := by have := hd2.at_.2; omega
  clear HNEW2 hd2 hb3 HA2 HD hq2
  go_wp2_with fail
  refine (HNEW3.out).mono ?_
  rintro e w4 ⟨D3, U3, rfl, hU3, hd3, hb4⟩
  have hq4 : Below w.heap.size w w4 := kept_trans hq3 hb4
  have HE1 := Lib.hid (HD1.out.below hb4)
  have HE2 := Lib.hid (HD2.out.below hb4)
  have HE3 := Lib.hid hd3
  have hz4 := hb4.size
  have hne2 : U ≠ U3 := by have := hd3.at_.2; omega
  have hne3 : U2 ≠ U3 := by have := hd3.at_.2; omega
  have HAR := Lib.hid (around_any n 31 w4 hn1 hn2 (by omega) (by omega))
  clear HNEW3 hd3 hb4 HD1 HD2 hq3 hn1 hn2
  go_wp2_with fail
  refine (HAR.out).mono ?_
  rintro e w5 ⟨r, hr, rfl, rfl⟩
  clear HAR
  go_wp2
  go_loopw [11, 12, 13, 14] (fun i _ _ _ wr => ∃ k j : Nat, i = .int .i64 k ∧ j + k = r ∧ Drs w1.heap.size wr D U seed (xs.take 8) j ∧ Drs w2.heap.size wr D2 U2 seed (xs.take 8) j ∧ Drs w3.heap.size wr D3 U3 sm (xs.take 8) j ∧ Below w.heap.size w wr) (fun i _ _ _ _ => (intOf i).toNat)
  case atStart => exact ⟨r, 0, rfl, by omega, HE1.out, HE2.out, HE3.out, hq4⟩
  case round =>
    obtain ⟨k, j, rfl, hjk, hd1, hd2, hd3, hq⟩ := hrel
    have HDR1 := Lib.hid hd1
    have HDR2 := Lib.hid hd2
    have HDR3 := Lib.hid hd3
    clear hd1 hd2 hd3
    by_cases hk : 0 < k
    · obtain ⟨k1, hk1⟩ : ∃ k1, k1 = k - 1 := ⟨_, rfl⟩
      have hk2 : (k : Int) - 1 = (k1 : Int) := by omega
      have hl8 : (xs.take 8).length ≤ 1000000 := by have := HP.out; omega
      have hnx := next_any _ D U seed j (xs.take 8) wr hl8 (by omega) hs HX.out HDR1.out
      have hny := fun W h => next_any w2.heap.size D2 U2 seed j (xs.take 8) W hl8 (by omega) hs HX.out h
      have hnz := fun W h => next_any w3.heap.size D3 U3 sm j (xs.take 8) W hl8 (by omega) hsm2 HX.out h
      rw [HSM.out, Dw.nth_mod, ← HSM.out] at hnz
      obtain ⟨y, hy⟩ : ∃ y : Nat, y = Dw.nth seed (xs.take 8) (j + 1) := ⟨_, rfl⟩
      rw [← hy] at hnx hny hnz
      have HNX := Lib.hid hnx
      have HNY := Lib.hid hny
      have HNZ := Lib.hid hnz
      have HK := Lib.hid hk1
      clear hnx hny hnz hy hk1 hl8
      go_wp2_with fail
      refine (HNX.out).mono ?_
      rintro e v1 ⟨rfl, hd, hg⟩
      have hqa := below_next hq HDR1.out hB hg
      have HDA1 := Lib.hid hd
      have HDA2 := Lib.hid (HDR2.out.beside HDR1.out hne1 hg)
      have HDA3 := Lib.hid (HDR3.out.beside HDR1.out hne2 hg)
      clear HNX hd hg HDR1 HDR2 HDR3 hq
      go_wp2_with fail
      refine (HNY.out v1 HDA2.out).mono ?_
      rintro e v2 ⟨rfl, hd, hg⟩
      have hqb := below_next hqa HDA2.out (by omega) hg
      have HDB2 := Lib.hid hd
      have HDB1 := Lib.hid (HDA1.out.beside HDA2.out hne1.symm hg)
      have HDB3 := Lib.hid (HDA3.out.beside HDA2.out hne3 hg)
      clear HNY hd hg HDA1 HDA2 HDA3 hqa
      go_wp2_with fail
      refine (HNZ.out v2 HDB3.out).mono ?_
      rintro e v3 ⟨rfl, hd, hg⟩
      have hqc := below_next hqb HDB3.out (by omega) hg
      have HDC3 := Lib.hid hd
      have HDC1 := Lib.hid (HDB1.out.beside HDB3.out hne2.symm hg)
      have HDC2 := Lib.hid (HDB2.out.beside HDB3.out hne3.symm hg)
      clear HNZ hd hg HDB1 HDB2 HDB3 hqb
      go_wp2
      go_roundw
      case rel => exact ⟨k1, j + 1, rfl, by have := HK.out; omega, HDC1.out, HDC2.out, HDC3.out, hqc⟩
      case measure => simp [intOf]; have := HK.out; omega
    · have hk0 : k = 0 := by omega
      subst hk0
      have HLV := Lib.hid (lives_any wr)
      go_wp2_with fail
      refine (HLV.out).mono ?_
      rintro e w5 ⟨rfl, hb5⟩
      have hq5 := kept_trans hq hb5
      go_wp2
      go_ret
      exact ⟨rfl, hq5⟩

end Go.Proofs.Ytmmigancjggpgaa
