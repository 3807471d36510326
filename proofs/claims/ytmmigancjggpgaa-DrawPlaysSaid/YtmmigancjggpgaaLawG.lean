/-
  The statement DrawBelow: the walk, over natural numbers, integers and lists. No condition but what fits memory.
-/
import Derived.Test.YtmmigancjggpgaaLawF
namespace Go.Proofs.Ytmmigancjggpgaa
open Go.RowKit

def ints (l : List Int) : List Value := l.map (Value.int .i64)
theorem ints_len (l : List Int) : (ints l).length = l.length := by simp [ints]
theorem row_i64 (w : World) (a : Option Addr) (len cap : Nat) (zs : List Int)
    (h : (a = none ∧ len = 0 ∧ cap = 0 ∧ zs = []) ∨
      ∃ x, a = some x ∧ len ≤ cap ∧ cap ≤ maxLen ∧ zs.length = cap ∧ (∀ i, i < zs.length → w.cell? (x.add i) = some (.int .i64 (zs.getD i 0))) ∧ ∀ n ∈ zs, (Lit.int .i64 n).wf = true) :
    ∃ l : List Int, len = l.length ∧ (∀ z ∈ l, -9223372036854775808 ≤ z ∧ z ≤ 9223372036854775807) ∧ Rd w.heap.size w a (ints l) := by
  obtain ⟨h1, h2, _, h3, h4, h5⟩ := row_any .i64 w a len cap zs h
  refine ⟨zs.take len, h1.symm, fun z hz => ?_, fun hp => ?_⟩
  · have := bounds_i64 (h4 z hz)
    omega
  · rw [ints_len, h1] at hp
    obtain ⟨b, off, e, hb, hc⟩ := h5 hp
    refine ⟨b, off, e, hb, fun i u hu => ?_⟩
    unfold ints at hu
    rw [List.getElem?_map] at hu
    obtain ⟨n, hn, rfl⟩ := Option.map_eq_some_iff.1 hu
    exact hc i n hn

/-! ### DrawBelow -/
set_option maxRecDepth 100000 in
set_option maxHeartbeats 2000000 in
theorem below_walk (seed : Nat) (xs : List Nat) (A : Option Addr) (m c : Nat) (zs : List Int) (A0 : Option Addr) (m0 c0 : Nat) (w : World) (hs : seed < 18446744073709551616) (hm : m = xs.length) (hmb : m ≤ 9223372036854775807) (hx : ∀ x ∈ xs, x < 18446744073709551616)
    (hA : Rd w.heap.size w A (u64s xs)) (hm0 : m0 = zs.length) (hz0 : ∀ z ∈ zs, -9223372036854775808 ≤ z ∧ z ≤ 9223372036854775807) (hA0 : Rd w.heap.size w A0 (ints zs)) :
    Calls Try.prog 7 #[.int .u64 seed, .slice A m c, .slice A0 m0 c0] w fun e w' => e = .returned (.bool true) ∧ Below w.heap.size w w' := by
  have HSAID := Lib.hid (said_law xs A m c w hm hmb hA)
  have HX := Lib.hid (take_lt (n := 8) hx)
  have HM0 := Lib.hid hm0
  have HZ0 := Lib.hid hz0
  have HA0 := Lib.hid hA0
  clear hmb hx hA hm hm0 hz0 hA0
  go_enter Try.func7, Try.ntmps7
  go_wp2_with fail
  refine (HSAID.out).mono ?_
  rintro e w1 ⟨A1, c1, p, rfl, hp, hp8, hA1, hnil, _, hb1⟩
  have HNEW := Lib.hid (new_any seed A1 (xs.take 8) p c1 w1 hp (by omega) hA1 hnil)
  have HP := Lib.hid hp
  have HA1 := Lib.hid hA1
  have HNIL := Lib.hid hnil
  have HB1 := Lib.hid hb1
  have hB := hb1.size
  clear HSAID hA1 hnil hp hb1
  go_wp2_with fail
  refine (HNEW.out).mono ?_
  rintro e w2 ⟨D, U, rfl, hU, hd, hb2⟩
  have HNEW2 := Lib.hid (new_any seed A1 (xs.take 8) p c1 w2 HP.out (by omega) ((HA1.out.below hb2).more hb2.size) HNIL.out)
  have HD := Lib.hid hd
  have hz2 := hb2.size
  have HQ2 := Lib.hid (kept_trans HB1.out hb2)
  clear HNEW hd hb2
  go_wp2_with fail
  refine (HNEW2.out).mono ?_
  rintro e w3 ⟨D2, U2, rfl, hU2, hd2, hb3⟩
  have hq3 := kept_trans HQ2.out hb3
  have HD1 := Lib.hid (HD.out.below hb3)
  have HD2 := Lib.hid hd2
  have hz3 := hb3.size
  have hne1 : U ≠ U2 := by have := hd2.at_.2; omega
  clear HNEW2 hd2 hb3 HD HQ2
  go_wp2
  go_loopw [10, 11, 12, 13] (fun i _ _ _ wr => ∃ k : Nat, i = .int .i64 k ∧ k ≤ m0 ∧ k ≤ 20 ∧ Drs w1.heap.size wr D U seed (xs.take 8) k ∧ Drs w2.heap.size wr D2 U2 seed (xs.take 8) k ∧ Below w.heap.size w wr) (fun i _ _ _ _ => m0 - (intOf i).toNat)
  case atStart => exact ⟨0, rfl, Nat.zero_le _, by omega, HD1.out, HD2.out, hq3⟩
  case round =>
    obtain ⟨k, rfl, hkp, hk20, hd1, hd2, hq⟩ := hrel
    have HDR1 := Lib.hid hd1
    have HDR2 := Lib.hid hd2
    clear hd1 hd2
    rcases (show (k < m0 ∧ k < 20) ∨ (¬ k < m0) ∨ (k < m0 ∧ ¬ k < 20) from by omega) with ⟨hk, hk2⟩ | hk | ⟨hk, hk2⟩
    · have hkl : k < zs.length := by rw [← HM0.out]; exact hk
      obtain ⟨b, off, hAe, hb, hcl⟩ := (HA0.out).at_ (k := k) (by rw [ints_len]; exact hkl)
      subst hAe
      have hcr : wr.cell? ⟨b, off + k, none⟩ = some (.int .i64 zs[k]) := (hq.cell (p := ⟨b, off + k, none⟩) hb).trans (hcl.trans (by simp [ints]))
      have hzb := HZ0.out _ (List.getElem_mem hkl)
      obtain ⟨z, hz⟩ : ∃ z : Int, z = zs[k] := ⟨_, rfl⟩
      rw [← hz] at hcr hzb
      obtain ⟨M, hM, hM0, hMb⟩ : ∃ M : Nat, (if 1 < z then z else 1) = (M : Int) ∧ 0 < M ∧ M ≤ 9223372036854775807 := by
        by_cases h : 1 < z
        · exact ⟨z.toNat, by rw [if_pos h]; omega, by omega, by omega⟩
        · exact ⟨1, by rw [if_neg h]; rfl, by omega, by omega⟩
      have hl8 : (xs.take 8).length ≤ 1000000 := by have := HP.out; omega
      have hnx := below_any w1.heap.size D U seed k M (xs.take 8) wr hl8 (by omega) hs HX.out hM0 hMb HDR1.out
      have hny := fun W h => next_any w2.heap.size D2 U2 seed k (xs.take 8) W hl8 (by omega) hs HX.out h
      have hyb := (Dw.nth_pos seed (xs.take 8) (k + 1)).2
      obtain ⟨y, hy⟩ : ∃ y : Nat, y = Dw.nth seed (xs.take 8) (k + 1) := ⟨_, rfl⟩
      rw [← hy] at hnx hny hyb
      obtain ⟨r, hr⟩ : ∃ r : Nat, r = y % M := ⟨_, rfl⟩
      rw [← hr] at hnx
      have hr1 : (y : Int) % (M : Int) = (r : Int) := by rw [hr]; omega
      have hr2 : r < M := by rw [hr]; exact Nat.mod_lt _ hM0
      have hwm : IntKind.u64.wrap (M : Int) = (M : Int) := by rw [IntKind.wrap_u64]; omega
      have hwr : IntKind.u64.wrap (r : Int) = (r : Int) := by rw [IntKind.wrap_u64]; omega
      have hMz : ((M : Int) == 0) = false := by rw [beq_eq_false_iff_ne]; omega
      have t1 : decide ((r : Int) < 0) = false := decide_eq_false (by omega)
      have t2 : decide ((M : Int) ≤ (r : Int)) = false := decide_eq_false (by omega)
      have HNX := Lib.hid hnx
      have HNY := Lib.hid hny
      have HT := Lib.hid (show _ ∧ _ ∧ _ ∧ _ ∧ _ from ⟨hr1, hwm, hwr, hMz, hr2⟩)
      clear hnx hny hy hl8 hkl hcl hr hz hr1 hwm hwr hMz hr2
      go_wp2_with fail
      refine (HNX.out).mono ?_
      rintro e v1 ⟨rfl, hd, hg⟩
      have hqa := below_next hq HDR1.out hB hg
      have HDA1 := Lib.hid hd
      have HDA2 := Lib.hid (HDR2.out.beside HDR1.out hne1 hg)
      clear HNX hd hg HDR1 HDR2 hq
      go_wp2_with fail
      refine (HNY.out v1 HDA2.out).mono ?_
      rintro e v2 ⟨rfl, hd, hg⟩
      have hqb := below_next hqa HDA2.out (by omega) hg
      have HDB2 := Lib.hid hd
      have HDB1 := Lib.hid (HDA1.out.beside HDA2.out hne1.symm hg)
      obtain ⟨hr1, hwm, hwr, hMz, hr2⟩ := HT.out
      clear HNY hd hg HDA1 HDA2 hqa HT
      go_wp2_with (first
        | (go_at_call 16; refine (used_any _ D U seed (k + 1) (xs.take 8) v2 HDB1.out).mono ?_; rintro e w' ⟨rfl, rfl⟩)
        | (go_at_call 16; refine (used_any _ D2 U2 seed (k + 1) (xs.take 8) v2 HDB2.out).mono ?_; rintro e w' ⟨rfl, rfl⟩))
      go_roundw
      case rel => exact ⟨k + 1, by go_num, hk, hk2, HDB1.out, HDB2.out, hqb⟩
      case measure => simp [intOf]; omega
    all_goals
      have HLV := Lib.hid (lives_any wr)
      go_wp2_with fail
      refine (HLV.out).mono ?_
      rintro e w5 ⟨rfl, hb5⟩
      have hq5 := kept_trans hq hb5
      go_wp2
      go_ret
      exact ⟨rfl, hq5⟩

end Go.Proofs.Ytmmigancjggpgaa
