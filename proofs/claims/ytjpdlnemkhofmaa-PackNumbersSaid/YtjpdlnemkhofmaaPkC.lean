/-
  The statement PackSizes: the walk. No condition.
-/
import Derived.Test.YtjpdlnemkhofmaaPkB
namespace Go.Proofs.Ytjpdlnemkhofmaa
open Go.RowKit
attribute [local go_sem ↓] Go.wp_at_zero Go.wp_at_succ

namespace Pk
/-- How many sevens there are; of 0 none. -/
def cnt (y : Nat) : Nat := if y = 0 then 0 else (num y).length
theorem cnt_zero : cnt 0 = 0 := rfl
theorem cnt_pos (y : Nat) (h : 0 < y) : cnt y = 1 + cnt (y / 128) := by
  unfold cnt
  rw [if_neg (by omega)]
  by_cases h8 : y < 128
  · rw [num_small h8, if_pos (by omega)]
    rfl
  · rw [num_big h8, List.length_cons, if_neg (by omega)]
    omega
theorem num_cnt (z : Nat) : (num z).length = 1 + cnt (z / 128) := by
  by_cases h8 : z < 128
  · rw [num_small h8, show z / 128 = 0 by omega, cnt_zero]
    rfl
  · rw [num_big h8, List.length_cons]
    unfold cnt
    rw [if_neg (by omega)]
    omega
theorem int_cnt (v : Int) (m : Nat) (hm : m = if v < 0 then (-(v + 1)).toNat else v.toNat) : (nInt v).length = 1 + cnt (m / 64) := by
  unfold nInt
  rw [num_cnt]
  congr 2
  unfold zig
  split at hm <;> rename_i h
  · rw [if_pos h]; omega
  · rw [if_neg h]; omega
end Pk

theorem wrap_next (v s : Int) (h : wrap64 (v + 1) = s) (h1 : -9223372036854775808 ≤ v) (h2 : v ≤ 9223372036854775807) : (s = v + 1 ∧ v ≤ 9223372036854775806) ∨ (v = 9223372036854775807 ∧ s = -9223372036854775808) := by
  unfold wrap64 at h
  omega
theorem wrap_minus (v s : Int) (h : wrap64 (-v) = s) (h1 : -9223372036854775808 ≤ v) (h2 : v ≤ 9223372036854775807) : (s = -v ∧ -9223372036854775807 ≤ v) ∨ (v = -9223372036854775808 ∧ s = -9223372036854775808) := by
  unfold wrap64 at h
  omega
set_option maxRecDepth 100000 in
set_option maxHeartbeats 4000000 in
theorem sizes_walk (n a : Int) (w : World) (hn1 : -9223372036854775808 ≤ n) (hn2 : n ≤ 9223372036854775807) (ha1 : -9223372036854775808 ≤ a) (ha2 : a ≤ 9223372036854775807) :
    Calls Try.prog 8 #[.int .i64 n, .int .i64 a] w fun e w' => e = .returned (.bool true) ∧ Below w.heap.size w w' := by
  have hlt := Pk.aro_lt a (k := 8) (by omega)
  have har := aro_is a 8 w ha1 ha2 (by omega) (by omega)
  rw [show ((8 : Nat) : Int) = 8 from rfl] at har
  obtain ⟨r, hr⟩ : ∃ r, r = Pk.aro a 8 := ⟨_, rfl⟩
  rw [← hr] at hlt har
  have HAR := Lib.hid har
  obtain ⟨B, hB⟩ : ∃ B, B = w.heap.size := ⟨_, rfl⟩
  rw [← hB]
  have HBE := Lib.hid hB
  have HN := Lib.hid (And.intro hn1 hn2)
  have e0 : w.heap.size = B := hB.symm
  obtain ⟨E, hE, hE1, hE2⟩ : ∃ E : Nat, wrap64 (2 ^ (6 + 7 * r)) = (E : Int) ∧ 64 ≤ E ∧ E ≤ 36028797018963968 := by
    have h : ∀ r : Fin 8, wrap64 (2 ^ (6 + 7 * r.val)) = ((2 ^ (6 + 7 * r.val) : Nat) : Int) ∧ 64 ≤ 2 ^ (6 + 7 * r.val) ∧ 2 ^ (6 + 7 * r.val) ≤ 36028797018963968 := by decide +kernel
    exact ⟨_, h ⟨r, hlt⟩⟩
  obtain ⟨v2, hv2⟩ : ∃ v2 : Int, (E : Int) - 1 = v2 := ⟨_, rfl⟩
  obtain ⟨v3, hv3⟩ : ∃ v3 : Int, -(E : Int) = v3 := ⟨_, rfl⟩
  obtain ⟨v4, hv4⟩ : ∃ v4 : Int, v3 - 1 = v4 := ⟨_, rfl⟩
  have hvb : -36028797018963969 ≤ v3 ∧ v3 ≤ -64 := by omega
  have HVB := Lib.hid (show (-9223372036854775808 ≤ v2 ∧ v2 ≤ 9223372036854775807) ∧ (-9223372036854775808 ≤ v3 ∧ v3 ≤ 9223372036854775807) ∧ (-9223372036854775808 ≤ v4 ∧ v4 ≤ 9223372036854775807) from ⟨by omega, by omega, by omega⟩)
  clear ha1 ha2 hB har hr
  go_enter Try.func8, Try.ntmps8
  go_wp2_with fail
  refine (HAR.out).mono ?_
  rintro e w0 ⟨rfl, rfl⟩
  clear HAR
  go_upto_region 3 with (fail)
  have hX := blk_new w 3 #[.int .i64 n, .int .i64 E, .int .i64 v2, .int .i64 v3, .int .i64 v4]
  have hb0' : Below w.heap.size w (w.alloc (.cells #[.int .i64 n, .int .i64 E, .int .i64 v2, .int .i64 v3, .int .i64 v4] 3)) := (Below.refl _ w).alloc (Nat.le_refl _) _
  rw [e0] at hX hb0'
  have HX := Lib.hid hX
  have HB0 := Lib.hid hb0'
  have HEB := Lib.hid (And.intro hE1 hE2)
  clear hE hE1 hE2 hv2 hv3 hv4 hvb hX hb0'
  go_wp2
  go_loopw [7, 8, 9, 10] (fun i _ _ _ wr => ∃ j : Nat, i = .int .i64 j ∧ j ≤ 5 ∧ Blk wr B 3 #[.int .i64 n, .int .i64 E, .int .i64 v2, .int .i64 v3, .int .i64 v4] ∧ Below B w wr) (fun i _ _ _ _ => 5 - (intOf i).toNat)
  case atStart => exact ⟨0, rfl, by omega, HX.out, HB0.out⟩
  case round =>
    obtain ⟨j, rfl, hj, hXr, hbr⟩ := hrel
    have hBw : B ≤ wr.heap.size := by have := hbr.size; have := HBE.out; omega
    have HBR := Lib.hid hbr
    by_cases hj5 : j < 5
    · obtain ⟨v, hcell, hvv1, hvv2⟩ : ∃ v : Int, (∀ W : World, Blk W B 3 #[.int .i64 n, .int .i64 E, .int .i64 v2, .int .i64 v3, .int .i64 v4] → W.cell? ⟨B, j, none⟩ = some (.int .i64 v)) ∧ -9223372036854775808 ≤ v ∧ v ≤ 9223372036854775807 := by
        have h3 : j = 0 ∨ j = 1 ∨ j = 2 ∨ j = 3 ∨ j = 4 := by omega
        have h4 := HVB.out
        have h5 := HEB.out
        rcases h3 with rfl | rfl | rfl | rfl | rfl
        · exact ⟨n, fun W h => h.cell 0, HN.out⟩
        · exact ⟨E, fun W h => h.cell 1, by omega, by omega⟩
        · exact ⟨v2, fun W h => h.cell 2, h4.1⟩
        · exact ⟨v3, fun W h => h.cell 3, h4.2.1⟩
        · exact ⟨v4, fun W h => h.cell 4, h4.2.2⟩
      have HCELL := Lib.hid hcell
      have hcell0 := hcell _ (blk_alloc hXr (.cells #[.slice none 0 0] 25))
      have H1 := Lib.hid (oint_any v hvv1 hvv2 (by simp) (Ou.new wr))
      have hb1 : Below B wr (wr.alloc (.cells #[.slice none 0 0] 25)) := (Below.refl _ wr).alloc hBw _
      have HB1 := Lib.hid (HBR.out.trans hb1)
      have HX1 := Lib.hid (blk_alloc hXr (.cells #[.slice none 0 0] 25))
      have hBlt := hXr.lt
      obtain ⟨m, hm⟩ : ∃ m : Nat, m = if v < 0 then (-(v + 1)).toNat else v.toNat := ⟨_, rfl⟩
      have hcnt := Pk.int_cnt v m hm
      obtain ⟨s1, hs1⟩ : ∃ s1 : Int, wrap64 (v + 1) = s1 := ⟨_, rfl⟩
      obtain ⟨s2, hs2⟩ : ∃ s2 : Int, wrap64 (-s1) = s2 := ⟨_, rfl⟩
      have hs1' := wrap_next v s1 hs1 hvv1 hvv2
      have hs2' := wrap_minus s1 s2 hs2 (by omega) (by omega)
      have hmx : (if s2 < v then v else s2) = (m : Int) := by rw [hm]; split <;> split <;> omega
      have hmx2 : (if v < s2 then s2 else v) = (m : Int) := by rw [hm]; split <;> split <;> omega
      have hmb : m ≤ 9223372036854775807 := by rw [hm]; split <;> omega
      obtain ⟨m64, hm64⟩ : ∃ m64, m64 = m / 64 := ⟨_, rfl⟩
      have hm64i : (m : Int) / 64 = (m64 : Int) := by omega
      rw [← hm64] at hcnt
      clear hbr hXr hb1 HB0 HX HBR hcell hm hm64 hs1' hs2'
      go_wp2_with fail
      refine (H1.out).mono ?_
      rintro e w1 ⟨⟨_, rfl⟩, hou, hb, hk⟩
      rw [List.nil_append] at hou
      obtain ⟨M, hM⟩ : ∃ M, M = Pk.nInt v := ⟨_, rfl⟩
      have hMl := Pk.nInt_len v hvv1 hvv2
      rw [← hM] at hou hMl hcnt
      have H2 := Lib.hid (fun nn : Nat => obytes_any (by omega) (show Ou _ _ (w1.drewN nn) _ M from hou))
      have HB2 := Lib.hid (HB1.out.trans (hb.mono hBw))
      have hX2 := hk B 3 _ (by decide) (by decide) HX1.out
      have hcell1 := HCELL.out w1 hX2
      have HX2 := Lib.hid hX2
      obtain ⟨ml, hml⟩ : ∃ ml, ml = M.length := ⟨_, rfl⟩
      rw [← hml] at H2 hMl hcnt
      have HCNT := Lib.hid hcnt
      clear hou hb hk hM H1 HB1 HX1 hml hcnt hX2
      go_wp2
      go_quiet (fail)
      go_wp2_with fail
      go_loop [9, 10] (fun y x => ∃ W X : Nat, y = .int .i64 W ∧ x = .int .i64 X ∧ W + Pk.cnt X = ml ∧ X ≤ 9223372036854775807) (fun _ x => (intOf x).toNat)
      case atStart => exact ⟨1, m64, rfl, rfl, HCNT.out.symm, by omega⟩
      case round =>
        obtain ⟨W, X, rfl, rfl, hWX, hXb⟩ := hrel
        rcases Nat.eq_zero_or_pos X with rfl | hX0
        · have hWm : W = ml := by rw [← hWX, Pk.cnt_zero]; rfl
          subst hWm
          have hml50 : W ≤ 10 := hMl
          clear hWX HCNT hmx hmx2
          go_wp2_with fail
          refine (H2.out _).mono ?_
          rintro e w2 ⟨A2, c2, rfl, _, hb2⟩
          have hBw1 : B ≤ w1.heap.size := by have := HB2.out.size; have := HBE.out; omega
          have HB3 := Lib.hid (show Below B w w2 from HB2.out.trans (below_of_drewN (hb2.mono hBw1)))
          have HX3 := Lib.hid (show Blk w2 B 3 #[.int .i64 n, .int .i64 E, .int .i64 v2, .int .i64 v3, .int .i64 v4] from (show Blk (w1.drewN _) B 3 _ from HX2.out).below hb2 HX2.out.lt)
          clear hb2 HB2 HX2 H2
          go_wp2
          go_roundw
          case rel => exact ⟨j + 1, by go_num, by omega, HX3.out, HB3.out⟩
          case measure => simp [intOf]; omega
        · have hc := Pk.cnt_pos X hX0
          obtain ⟨X', hX'⟩ : ∃ X', X' = X / 128 := ⟨_, rfl⟩
          have hXi : (X : Int) / 128 = (X' : Int) := by omega
          rw [← hX'] at hc
          have hXp : (0 : Int) < (X : Int) := by omega
          have HXX := Lib.hid (show X' < X by omega)
          have hWb : W ≤ 10 := by omega
          have HW := Lib.hid (show W + 1 + Pk.cnt X' = ml by omega)
          clear hX' hc hWX hX0
          go_wp2
          go_round
          case rel => exact ⟨W + 1, X', by go_num, rfl, HW.out, by have := HXX.out; omega⟩
          case measure => have := HXX.out; simp [intOf]; omega
    · have hj : j = 5 := by omega
      subst hj
      have HBW := Lib.hid hBw
      clear hXr hbr hBw
      go_wp2_with fail
      refine (plives_any _).mono ?_
      rintro e w6 ⟨rfl, hb6⟩
      have hfin : Below B w w6 := HBR.out.trans (hb6.mono HBW.out)
      clear hb6
      go_wp2
      go_ret
      exact ⟨rfl, hfin⟩

end Go.Proofs.Ytjpdlnemkhofmaa
