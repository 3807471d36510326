/-
  The statement DrawBehind: the walk, over natural numbers and lists. No condition but what fits memory.
-/
import Derived.Test.YtmmigancjggpgaaLawE
namespace Go.Proofs.Ytmmigancjggpgaa
open Go.RowKit

/-! ### DrawBehind -/
set_option maxRecDepth 100000 in
set_option maxHeartbeats 2000000 in
theorem behind_walk (seed other : Nat) (xs : List Nat) (A : Option Addr) (m c : Nat) (n : Int) (w : World) (hs : seed < 18446744073709551616) (ho : other < 18446744073709551616) (hm : m = xs.length) (hmb : m ≤ 9223372036854775807) (hx : ∀ x ∈ xs, x < 18446744073709551616)
    (hA : Rd w.heap.size w A (u64s xs)) (hn1 : -9223372036854775808 ≤ n) (hn2 : n ≤ 9223372036854775807) :
    Calls Try.prog 6 #[.int .u64 seed, .int .u64 other, .slice A m c, .int .i64 n] w fun e w' => e = .returned (.bool true) ∧ Below w.heap.size w w' := by
  have HSAID := Lib.hid (said_law xs A m c w hm hmb hA)
  have HX := Lib.hid (take_lt (n := 8) hx)
  have HN := Lib.hid (And.intro hn1 hn2)
  clear hmb hx hA hm hn1 hn2
  go_enter Try.func6, Try.ntmps6
  go_wp2_with fail
  refine (HSAID.out).mono ?_
  rintro e w1 ⟨A1, c1, p, rfl, hp, hp8, hA1, hnil, _, hb1⟩
  have HNEW := Lib.hid (new_any seed A1 (xs.take 8) p c1 w1 hp (by omega) hA1 hnil)
  have HP := Lib.hid hp
  have HA1 := Lib.hid hA1
  have HNIL := Lib.hid hnil
  have HB1 := Lib.hid hb1
  clear HSAID hA1 hnil hp hb1
  go_wp2_with fail
  refine (HNEW.out).mono ?_
  rintro e w2 ⟨D, U, rfl, hU, hd, hb2⟩
  have HNEW2 := Lib.hid (new_any other A1 (xs.take 8) p c1 w2 HP.out (by omega) ((HA1.out.below hb2).more hb2.size) HNIL.out)
  have HD := Lib.hid hd
  have hz2 := hb2.size
  have HQ2 := Lib.hid hb2
  clear HNEW hd hb2
  go_wp2_with fail
  refine (HNEW2.out).mono ?_
  rintro e w3 ⟨D2, U2, rfl, hU2, hd2, hb3⟩
  have HQ3 := Lib.hid (kept_trans HQ2.out hb3)
  have HNEW3 := Lib.hid (new_any seed none [] 0 0 w3 rfl (by omega) Rd.nil (fun _ => ⟨rfl, rfl⟩))
  have HD1 := Lib.hid (HD.out.below hb3)
  have HD2 := Lib.hid hd2
  have hz3 := hb3.size
  have hne1 : U ≠ U2 := by have := hd2.at_.2; omega
  clear HNEW2 hd2 hb3 HD HQ2
  go_wp2_with fail
  refine (HNEW3.out).mono ?_
  rintro e w4 ⟨D3, U3, rfl, hU3, hd3, hb4⟩
  have hq4 := kept_trans HQ3.out hb4
  have HE1 := Lib.hid (HD1.out.below hb4)
  have HE2 := Lib.hid (HD2.out.below hb4)
  have HE3 := Lib.hid hd3
  have hz4 := hb4.size
  have hne2 : U ≠ U3 := by have := hd3.at_.2; omega
  have hne3 : U2 ≠ U3 := by have := hd3.at_.2; omega
  clear HNEW3 hd3 hb4 HD1 HD2 HQ3
  go_wp2
  go_loopw [13, 14, 15] (fun i _ _ wr => ∃ k : Nat, i = .int .i64 k ∧ k ≤ p ∧ Drs w1.heap.size wr D U seed (xs.take 8) k ∧ Drs w2.heap.size wr D2 U2 other (xs.take 8) k ∧ Drs w3.heap.size wr D3 U3 seed [] 0 ∧ Below w1.heap.size w1 wr) (fun i _ _ _ => p - (intOf i).toNat)
  case atStart => exact ⟨0, rfl, Nat.zero_le _, HE1.out, HE2.out, HE3.out, hq4⟩
  case round =>
    obtain ⟨k, rfl, hkp, hd1, hd2, hd3, hq⟩ := hrel
    have HDR1 := Lib.hid hd1
    have HDR2 := Lib.hid hd2
    have HDR3 := Lib.hid hd3
    clear hd1 hd2 hd3
    by_cases hk : k < p
    · have hl8 : (xs.take 8).length ≤ 1000000 := by have := HP.out; omega
      have hkl : k < (xs.take 8).length := by have := HP.out; omega
      have hnx := next_any w1.heap.size D U seed k (xs.take 8) wr hl8 (by omega) hs HX.out HDR1.out
      have hny := fun W h => next_any w2.heap.size D2 U2 other k (xs.take 8) W hl8 (by omega) ho HX.out h
      rw [Dw.nth_said _ _ _ hkl] at hnx hny
      obtain ⟨b, off, hAe, hb, hcl⟩ := (HA1.out).at_ (k := k) (by rw [u64s_len]; exact hkl)
      have hcl2 : w1.cell? ⟨b, off + k, none⟩ = some (.int .u64 ((xs.take 8)[k] : Nat)) := hcl.trans (by simp [u64s])
      have hxl := HX.out _ (List.getElem_mem hkl)
      obtain ⟨x, hxe⟩ : ∃ x : Nat, x = (xs.take 8)[k] := ⟨_, rfl⟩
      rw [← hxe] at hnx hny hcl2 hxl
      obtain ⟨z, hz⟩ : ∃ z : Nat, z = x % 2305843009213693949 := ⟨_, rfl⟩
      have hz1 : (x : Int) % 2305843009213693949 = (z : Int) := by omega
      have hz2 : z < 2305843009213693949 := by omega
      rw [← hz] at hnx hny
      obtain ⟨y, hy⟩ : ∃ y : Nat, y = 1 + z := ⟨_, rfl⟩
      have hy1 : (1 : Int) + (z : Int) = (y : Int) := by omega
      rw [← hy] at hnx hny
      have HNX := Lib.hid hnx
      have HNY := Lib.hid hny
      have HC := Lib.hid hcl2
      have HY := Lib.hid hy1
      clear hnx hny hy hl8 hkl hcl hcl2 hxe hz hy1
      go_wp2_with fail
      refine (HNX.out).mono ?_
      rintro e v1 ⟨rfl, hd, hg⟩
      have hqa := below_next hq HDR1.out (Nat.le_refl _) hg
      have HDA1 := Lib.hid hd
      have HDA2 := Lib.hid (HDR2.out.beside HDR1.out hne1 hg)
      have HDA3 := Lib.hid (HDR3.out.beside HDR1.out hne2 hg)
      clear HNX hd hg HDR1 HDR2 HDR3 hq
      go_wp2_with fail
      refine (HNY.out v1 HDA2.out).mono ?_
      rintro e v2 ⟨rfl, hd, hg⟩
      have hqb := below_next hqa HDA2.out (by omega) hg
      have HDB2 := Lib.hid hd
      have HDB1 := Lib.hid (HDA1.out.beside HDA2.out hne1.symm hg)
      have HDB3 := Lib.hid (HDA3.out.beside HDA2.out hne3 hg)
      have hcv : v2.cell? ⟨b, off + k, none⟩ = some (.int .u64 (x : Int)) := (hqb.cell (p := ⟨b, off + k, none⟩) hb).trans HC.out
      have hy1 := HY.out
      clear HNY hd hg HDA1 HDA2 HDA3 hqa HC HY
      subst hAe
      go_wp2
      go_roundw
      case rel => exact ⟨k + 1, by go_num, hk, HDB1.out, HDB2.out, HDB3.out, hqb⟩
      case measure => simp [intOf]; omega
    · obtain rfl : k = p := by omega
      have HAR := Lib.hid (around_any n 21 wr HN.out.1 HN.out.2 (by omega) (by omega))
      clear hk hkp
      go_wp2_with fail
      refine (HAR.out).mono ?_
      rintro e w5 ⟨r, hr, rfl, rfl⟩
      clear HAR
      obtain ⟨wo, hwo⟩ : ∃ wo : World, wo = wr := ⟨_, rfl⟩
      subst hwo
      go_wp2
      go_loopw [16, 17, 18] (fun i _ _ wq => ∃ q j : Nat, i = .int .i64 q ∧ j + q = r ∧ Drs w1.heap.size wq D U seed (xs.take 8) (k + j) ∧ Drs w3.heap.size wq D3 U3 seed [] j ∧ Below w1.heap.size w1 wq) (fun i _ _ _ => (intOf i).toNat)
      case atStart => exact ⟨r, 0, rfl, by omega, HDR1.out, HDR3.out, hq⟩
      case round =>
        obtain ⟨q, j, rfl, hjk, hd1, hd3, hq⟩ := hrel
        have HDR1 := Lib.hid hd1
        have HDR3 := Lib.hid hd3
        clear hd1 hd3
        by_cases hk : 0 < q
        · obtain ⟨k1, hk1⟩ : ∃ k1, k1 = q - 1 := ⟨_, rfl⟩
          have hk2 : (q : Int) - 1 = (k1 : Int) := by omega
          have hl8 : (xs.take 8).length ≤ 1000000 := by have := HP.out; omega
          have hnx := next_any _ D U seed (k + j) (xs.take 8) wr hl8 (by omega) hs HX.out HDR1.out
          have hnz := fun W h => next_any w3.heap.size D3 U3 seed j [] W (by simp) (by omega) hs (by simp) h
          have hsk : Dw.nth seed (xs.take 8) (k + j + 1) = Dw.nth seed [] (j + 1) := by
            rw [← Dw.nth_skip seed (xs.take 8) (j + 1) (by omega), ← HP.out]; rfl
          rw [hsk] at hnx
          obtain ⟨y, hy⟩ : ∃ y : Nat, y = Dw.nth seed [] (j + 1) := ⟨_, rfl⟩
          rw [← hy] at hnx hnz
          have HNX := Lib.hid hnx
          have HNZ := Lib.hid hnz
          have HK := Lib.hid hk1
          clear hnx hnz hy hk1 hl8 hsk
          go_wp2_with fail
          refine (HNX.out).mono ?_
          rintro e v1 ⟨rfl, hd, hg⟩
          have hqa := below_next hq HDR1.out (Nat.le_refl _) hg
          have HDA1 := Lib.hid hd
          have HDA3 := Lib.hid (HDR3.out.beside HDR1.out hne2 hg)
          clear HNX hd hg HDR1 HDR3 hq
          go_wp2_with fail
          refine (HNZ.out v1 HDA3.out).mono ?_
          rintro e v3 ⟨rfl, hd, hg⟩
          have hqc := below_next hqa HDA3.out (by omega) hg
          have HDC3 := Lib.hid hd
          have HDC1 := Lib.hid (HDA1.out.beside HDA3.out hne2.symm hg)
          clear HNZ hd hg HDA1 HDA3 hqa
          go_wp2
          go_roundw
          case rel => exact ⟨k1, j + 1, rfl, by have := HK.out; omega, HDC1.out, HDC3.out, hqc⟩
          case measure => simp [intOf]; have := HK.out; omega
        · have hk0 : q = 0 := by omega
          subst hk0
          have HLV := Lib.hid (lives_any wr)
          go_wp2_with fail
          refine (HLV.out).mono ?_
          rintro e w5 ⟨rfl, hb5⟩
          have hq5 : Below w.heap.size w w5 := kept_trans HB1.out (kept_trans hq hb5)
          go_wp2
          go_ret
          exact ⟨rfl, hq5⟩

end Go.Proofs.Ytmmigancjggpgaa
