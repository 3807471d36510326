/-
  The statement DrawPlays: the walk, over natural numbers, integers and lists. No condition but what fits memory.
-/
import Derived.Test.YtmmigancjggpgaaLawG
import Derived.Deep.RegionHeld3
namespace Go.Proofs.Ytmmigancjggpgaa
open Go.RowKit

theorem Drs.heap {lo : Nat} {w w' : World} {D U seed n : Nat} {l : List Nat} (h : Drs lo w D U seed l n) (e : w'.heap = w.heap) : Drs lo w' D U seed l n := by
  obtain ⟨S, K, A, c, h1, hD, hU, hK, hS, hA⟩ := h
  refine ⟨S, K, A, c, h1, ?_, ?_, ?_, ?_, fun hp => ?_⟩
  · unfold Blk; rw [e]; exact hD
  · unfold Blk; rw [e]; exact hU
  · unfold Blk; rw [e]; exact hK
  · unfold Blk; rw [e]; exact hS
  · obtain ⟨b, off, e1, h2, h3, hc⟩ := hA hp
    exact ⟨b, off, e1, h2, by rw [e]; exact h3, fun i u hu => (World.cell?_of_block (by rw [e])).trans (hc i u hu)⟩
theorem grown_of_drew {w w' : World} {row : Option Nat} (h : w.drew.grownBy w' row) : w.grownBy w' row := ⟨h.os, h.tape, h.output, h.size, h.block⟩

theorem conv_up (M : Nat) (W : World) (h : IntKind.u64.wrap (M : Int) = (M : Int)) : (convert 3 22 (.int .i64 (M : Int))).run Try.prog W = .ok (.int .u64 (M : Int)) W := by
  have k : Try.prog.intKind 22 = .u64 := by kernel_rfl
  rw [run_convert_int (P := Try.prog) W 3 22 .i64 (M : Int) (by kernel_rfl) (by kernel_rfl), k, h]
theorem conv_down (M : Nat) (W : World) (h : IntKind.i64.wrap (M : Int) = (M : Int)) : (convert 22 3 (.int .u64 (M : Int))).run Try.prog W = .ok (.int .i64 (M : Int)) W := by
  have k : Try.prog.intKind 3 = .i64 := by kernel_rfl
  rw [run_convert_int (P := Try.prog) W 22 3 .u64 (M : Int) (by kernel_rfl) (by kernel_rfl), k, h]
/-! ### DrawPlays -/
set_option maxRecDepth 100000 in
set_option maxHeartbeats 4000000 in
theorem plays_walk (seed : Nat) (xs : List Nat) (A : Option Addr) (m c : Nat) (n : Int) (zs : List Int) (A0 : Option Addr) (m0 c0 : Nat) (w : World) (hs : seed < 18446744073709551616) (hm : m = xs.length) (hmb : m ≤ 9223372036854775807) (hx : ∀ x ∈ xs, x < 18446744073709551616)
    (hA : Rd w.heap.size w A (u64s xs)) (hn1 : -9223372036854775808 ≤ n) (hn2 : n ≤ 9223372036854775807) (hm0 : m0 = zs.length) (hz0 : ∀ z ∈ zs, -9223372036854775808 ≤ z ∧ z ≤ 9223372036854775807) (hA0 : Rd w.heap.size w A0 (ints zs)) :
    Calls Try.prog 3 #[.int .u64 seed, .slice A m c, .int .i64 n, .slice A0 m0 c0] w fun e w' => e = .returned (.bool true) ∧ Below w.heap.size w w' := by
  have HSAID := Lib.hid (said_law xs A m c w hm hmb hA)
  have HX := Lib.hid (take_lt (n := 8) hx)
  have HM0 := Lib.hid hm0
  have HZ0 := Lib.hid hz0
  have HA0 := Lib.hid hA0
  have HN := Lib.hid (And.intro hn1 hn2)
  clear hmb hx hA hm hm0 hz0 hA0 hn1 hn2
  go_enter Try.func3, Try.ntmps3
  go_wp2_with fail
  refine (HSAID.out).mono ?_
  rintro e w1 ⟨A1, c1, p, rfl, hp, hp8, hA1, hnil, _, hb1⟩
  have HNEW := Lib.hid (new_any seed A1 (xs.take 8) p c1 w1 hp (by omega) hA1 hnil)
  have HP := Lib.hid hp
  have HA1 := Lib.hid hA1
  have HB1 := Lib.hid hb1
  have hB := hb1.size
  have HL8 := Lib.hid (show (xs.take 8).length ≤ 1000000 by omega)
  clear HSAID hA1 hnil hp hb1
  go_wp2_with fail
  refine (HNEW.out).mono ?_
  rintro e w2 ⟨D, U, rfl, hU, hd, hb2⟩
  have HD := Lib.hid hd
  have HQ2 := Lib.hid hb2
  have HAR := Lib.hid (around_any n 21 w2 HN.out.1 HN.out.2 (by omega) (by omega))
  clear HNEW hd hb2
  go_wp2_with fail
  refine (HAR.out).mono ?_
  rintro e w3 ⟨r, hr, rfl, rfl⟩
  clear HAR
  go_wp2
  go_loopw [12, 13, 14] (fun i _ _ wr => ∃ I j : Nat, i = .int .i64 I ∧ I = j + 1 ∧ j ≤ r ∧ Drs w1.heap.size wr D U seed (xs.take 8) j ∧ Below w1.heap.size w1 wr) (fun i _ _ _ => r + 1 - (intOf i).toNat)
  case atStart => exact ⟨1, 0, rfl, rfl, Nat.zero_le _, HD.out, HQ2.out⟩
  case round =>
    obtain ⟨I, j, rfl, hI, hjr, hd1, hq⟩ := hrel
    have HDR := Lib.hid hd1
    clear hd1
    by_cases hir : I ≤ r
    · have hnum := number_any seed I (xs.take 8) A1 p c1 wr HP.out (by omega) (by omega) (by omega) hs HX.out ((HA1.out.below hq).more hq.size)
      rw [hI] at hnum
      have hyb := (Dw.nth_pos seed (xs.take 8) (j + 1)).2
      obtain ⟨y, hy⟩ : ∃ y : Nat, y = Dw.nth seed (xs.take 8) (j + 1) := ⟨_, rfl⟩
      have hnx := fun W h => next_any w1.heap.size D U seed j (xs.take 8) W HL8.out (by omega) hs HX.out h
      have hbl := fun M hM1 hM2 W h => below_any w1.heap.size D U seed j M (xs.take 8) W HL8.out (by omega) hs HX.out hM1 hM2 h
      rw [← hy] at hnum hyb hnx
      simp only [← hy] at hbl
      rw [← hI] at hnum
      have HNUM := Lib.hid hnum
      have HNX := Lib.hid hnx
      have HBL := Lib.hid hbl
      clear hnum hnx hbl hy
      have hI1 : (I : Int) - 1 = (j : Int) := by omega
      have HI := Lib.hid hI
      clear hI
      go_wp2_with fail
      refine (HNUM.out).mono ?_
      rintro e v1 ⟨rfl, hbv⟩
      have HDV := Lib.hid (HDR.out.below hbv)
      have hqv := kept_trans hq hbv
      clear HNUM HDR hq hbv
      by_cases hj0 : j < m0
      · have hkl : j < zs.length := by rw [← HM0.out]; exact hj0
        obtain ⟨b, off, hAe, hb, hcl⟩ := (HA0.out).at_ (k := j) (by rw [ints_len]; exact hkl)
        subst hAe
        have hcr : v1.cell? ⟨b, off + j, none⟩ = some (.int .i64 zs[j]) := ((kept_trans HB1.out hqv).cell (p := ⟨b, off + j, none⟩) hb).trans (hcl.trans (by simp [ints]))
        have hzb := HZ0.out _ (List.getElem_mem hkl)
        obtain ⟨z, hz⟩ : ∃ z : Int, z = zs[j] := ⟨_, rfl⟩
        rw [← hz] at hcr hzb
        have HAR := Lib.hid (around_any z 1001 v1 hzb.1 hzb.2 (by omega) (by omega))
        have hle : (I : Int) ≤ (m0 : Int) := by have := HI.out; omega
        clear hcl hz hkl hzb
        go_wp2_with fail
        refine (HAR.out).mono ?_
        rintro e v2 ⟨M, hM, rfl, rfl⟩
        clear HAR hcr
        rcases Nat.eq_zero_or_pos M with rfl | hM0
        · go_wp2_with fail
          refine (HNX.out v1 HDV.out).mono ?_
          rintro e v3 ⟨rfl, hd, hg⟩
          have HDW := Lib.hid hd
          have hqw := below_next hqv HDV.out (Nat.le_refl _) hg
          clear HNX HBL hd hg HDV hqv
          go_wp2_with fail
          go_region
          have hus := used_any w1.heap.size D U seed (j + 1) (xs.take 8) v3.drew (HDW.out.heap rfl)
          rw [← HI.out] at hus
          have HUS := Lib.hid hus
          clear hus
          go_wp2_with fail
          refine (HUS.out).mono ?_
          rintro e v4 ⟨rfl, hv4⟩
          have HDR4 := Lib.hid (show Drs w1.heap.size v4 D U seed (xs.take 8) (j + 1) from hv4 ▸ HDW.out.heap rfl)
          have hq4 : Below w1.heap.size w1 v4 := hv4 ▸ below_to_drew hqw
          have hI2 := HI.out
          clear HUS HDW hqw hv4 HI
          go_wp2
          go_roundw
          case rel => exact ⟨I + 1, j + 1, by go_num, by omega, by omega, HDR4.out, hq4⟩
          case measure => simp [intOf]; omega
        · have hMz : ((M : Int) == 0) = false := by rw [beq_eq_false_iff_ne]; omega
          have hMg : (0 : Int) < (M : Int) := by omega
          have hMne : ¬ M = 0 := by omega
          have hbl := HBL.out M hM0 (by omega)
          obtain ⟨q, hq⟩ : ∃ q : Nat, q = y % M := ⟨_, rfl⟩
          rw [← hq] at hbl
          have hq1 : (y : Int) % (M : Int) = (q : Int) := by rw [hq]; omega
          have hq2 : q < M := by rw [hq]; exact Nat.mod_lt _ hM0
          have hq3 : (y : Int).tmod (M : Int) = (q : Int) := by rw [Int.tmod_eq_emod_of_nonneg (by omega)]; exact hq1
          have hq4 : y % M = q := hq.symm
          have hwm : IntKind.u64.wrap (M : Int) = (M : Int) := by rw [IntKind.wrap_u64]; omega
          have hwr : IntKind.i64.wrap (q : Int) = (q : Int) := by rw [IntKind.wrap_i64]; omega
          have HBM := Lib.hid hbl
          have HDV2 := Lib.hid (show Drs w1.heap.size v1.drew D U seed (xs.take 8) j from HDV.out.heap rfl)
          clear HNX HBL hbl hq
          go_wp2_with fail
          go_region_held3 (fun w' : World => (convert 3 22 (.int .i64 (M : Int))).run Try.prog w' = .ok (.int .u64 (M : Int)) w' ∧ (convert 22 3 (.int .u64 (q : Int))).run Try.prog w' = .ok (.int .i64 (q : Int)) w')
            ((exact ⟨conv_up M _ hwm, conv_down q _ hwr⟩))
            (first
              | (go_at_call 15; ((with_reducible refine (HBM.out _ HDV2.out).mono ?_); rintro e v3 ⟨rfl, hd, hg⟩)))
          all_goals
            have HDW := Lib.hid hd
            have hqw := below_next hqv HDV.out (Nat.le_refl _) (grown_of_drew hg)
            have hus := used_any w1.heap.size D U seed (j + 1) (xs.take 8) v3 HDW.out
            rw [← HI.out] at hus
            have HUS := Lib.hid hus
            clear HBM hd hg HDV HDV2 hqv hus
            go_wp2_with fail
            refine (HUS.out).mono ?_
            rintro e v4 ⟨rfl, rfl⟩
            have hI2 := HI.out
            clear HUS HI
            go_wp2
            go_roundw
            case rel => exact ⟨I + 1, j + 1, by go_num, by omega, by omega, HDW.out, hqw⟩
            case measure => simp [intOf]; omega
      · have hle : ¬ (I : Int) ≤ (m0 : Int) := by have := HI.out; omega
        go_wp2_with fail
        refine (HNX.out v1 HDV.out).mono ?_
        rintro e v3 ⟨rfl, hd, hg⟩
        have HDW := Lib.hid hd
        have hqw := below_next hqv HDV.out (Nat.le_refl _) hg
        clear HNX HBL hd hg HDV hqv
        go_wp2_with fail
        go_region
        have hus := used_any w1.heap.size D U seed (j + 1) (xs.take 8) v3.drew (HDW.out.heap rfl)
        rw [← HI.out] at hus
        have HUS := Lib.hid hus
        clear hus
        go_wp2_with fail
        refine (HUS.out).mono ?_
        rintro e v4 ⟨rfl, hv4⟩
        have HDR4 := Lib.hid (show Drs w1.heap.size v4 D U seed (xs.take 8) (j + 1) from hv4 ▸ HDW.out.heap rfl)
        have hq4 : Below w1.heap.size w1 v4 := hv4 ▸ below_to_drew hqw
        have hI2 := HI.out
        clear HUS HDW hqw hv4 HI
        go_wp2
        go_roundw
        case rel => exact ⟨I + 1, j + 1, by go_num, by omega, by omega, HDR4.out, hq4⟩
        case measure => simp [intOf]; omega
    · have HLV := Lib.hid (lives_any wr)
      go_wp2_with fail
      refine (HLV.out).mono ?_
      rintro e w5 ⟨rfl, hb5⟩
      have hq5 : Below w.heap.size w w5 := kept_trans HB1.out (kept_trans hq hb5)
      go_wp2
      go_ret
      exact ⟨rfl, hq5⟩

end Go.Proofs.Ytmmigancjggpgaa
