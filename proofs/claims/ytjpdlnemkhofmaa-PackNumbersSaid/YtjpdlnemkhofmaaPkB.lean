/-
  The statement PackMany: the walk. No condition.
-/
import Derived.Test.YtjpdlnemkhofmaaPkA
namespace Go.Proofs.Ytjpdlnemkhofmaa
open Go.RowKit
attribute [local go_sem ↓] Go.wp_at_zero Go.wp_at_succ

theorem aro_big (z : Int) (k : Nat) (w : World) (h1 : -9223372036854775808 ≤ z) (h2 : z ≤ 9223372036854775807) (hk : 0 < k) (hk2 : k ≤ 4294967296) :
    Calls Try.prog 16 #[.int .i64 z, .int .i64 (k : Int)] w fun e w' => (∃ r : Nat, r < k ∧ e = .returned (.int .i64 (r : Int))) ∧ w = w' := by
  have hk0 : ((k : Int) == 0) = false := by rw [beq_eq_false_iff_ne]; omega
  rcases Int.lt_or_le z 0 with h | h
  · obtain ⟨m, hm⟩ : ∃ m : Nat, m = (-(z + 1)).toNat := ⟨_, rfl⟩
    have h0 : decide (z < 0) = true := decide_eq_true h
    have hw1 : IntKind.i64.wrap (z + 1) = z + 1 := by rw [IntKind.wrap_i64]; omega
    have hw2 : IntKind.i64.wrap (-(z + 1)) = (m : Int) := by rw [IntKind.wrap_i64]; omega
    have hw3 : -(z + 1) = (m : Int) := by omega
    obtain ⟨r, hre⟩ : ∃ r, r = m % k := ⟨_, rfl⟩
    have hr : (m : Int) % (k : Int) = (r : Int) := by rw [hre, Int.natCast_emod]
    have hrk : r < k := by rw [hre]; exact Nat.mod_lt _ hk
    have hmb : m ≤ 9223372036854775807 := by omega
    clear hre hm
    go_enter Try.func16, Try.ntmps16
    go_wp2
    go_ret
    exact ⟨⟨r, hrk, by show Ending.returned (.int .i64 ((m : Int) % (k : Int))) = _; rw [hr]⟩, rfl⟩
  · obtain ⟨m, rfl⟩ := Int.eq_ofNat_of_zero_le h
    have h0 : decide ((m : Int) < 0) = false := decide_eq_false (by omega)
    obtain ⟨r, hre⟩ : ∃ r, r = m % k := ⟨_, rfl⟩
    have hr : (m : Int) % (k : Int) = (r : Int) := by rw [hre, Int.natCast_emod]
    have hrk : r < k := by rw [hre]; exact Nat.mod_lt _ hk
    clear hre
    go_enter Try.func16, Try.ntmps16
    go_wp2
    go_ret
    exact ⟨⟨r, hrk, by show Ending.returned (.int .i64 ((m : Int) % (k : Int))) = _; rw [hr]⟩, rfl⟩

theorem below_to_drewN' {B : Nat} {a w : World} (h : Below B a w) (n : Nat) : Below B a (w.drewN n) := ⟨h.os, h.tape, h.output, h.size, h.block⟩
set_option maxRecDepth 100000 in
set_option maxHeartbeats 4000000 in
theorem many_walk (n a : Int) (u : Nat) (w : World) (hn1 : -9223372036854775808 ≤ n) (hn2 : n ≤ 9223372036854775807) (ha1 : -9223372036854775808 ≤ a) (ha2 : a ≤ 9223372036854775807) (hu : u < 18446744073709551616) :
    Calls Try.prog 10 #[.int .i64 n, .int .i64 a, .int .u64 (u : Int)] w fun e w' => e = .returned (.bool true) ∧ Below w.heap.size w w' := by
  have HAR := Lib.hid (aro_big a 2147483648 w ha1 ha2 (by omega) (by omega))
  rw [show ((2147483648 : Nat) : Int) = 2147483648 from rfl] at HAR
  obtain ⟨B, hB⟩ : ∃ B, B = w.heap.size := ⟨_, rfl⟩
  rw [← hB]
  have HBE := Lib.hid hB
  have HN := Lib.hid (And.intro hn1 hn2)
  have HU := Lib.hid hu
  obtain ⟨y1, hy1⟩ : ∃ y1 : Int, (if 2147483647 < n then 2147483647 else n) = y1 := ⟨_, rfl⟩
  have gy1 : y1 ≤ 2147483647 := by rw [← hy1]; split <;> omega
  obtain ⟨x1, hx1, gx1⟩ : ∃ x1 : Nat, (if 0 < y1 then y1 else 0) = (x1 : Int) ∧ x1 ≤ 2147483647 := ⟨(if 0 < y1 then y1 else 0).toNat, by split <;> omega, by split <;> omega⟩
  obtain ⟨y2, hy2⟩ : ∃ y2 : Int, (if n < 0 then 0 else n) = y2 := ⟨_, rfl⟩
  have gy2 : 0 ≤ y2 ∧ y2 ≤ 9223372036854775807 := by rw [← hy2]; split <;> omega
  obtain ⟨y3, hy3⟩ : ∃ y3 : Int, (if 2147483648 < y2 then 2147483648 else y2) = y3 := ⟨_, rfl⟩
  have gy3 : 0 ≤ y3 ∧ y3 ≤ 2147483648 := by rw [← hy3]; split <;> omega
  obtain ⟨y4, hy4⟩ : ∃ y4 : Int, y3 - 1 = y4 := ⟨_, rfl⟩
  obtain ⟨x2, hx2, gx2⟩ : ∃ x2 : Nat, (if 0 < y4 then y4 else 0) = (x2 : Int) ∧ x2 ≤ 2147483647 := ⟨(if 0 < y4 then y4 else 0).toNat, by split <;> omega, by split <;> omega⟩
  have GX := Lib.hid (And.intro gx1 gx2)
  have e0 : w.heap.size = B := hB.symm
  clear ha1 ha2 hu hB gx1 gx2
  go_enter Try.func10, Try.ntmps10
  go_wp2_with fail
  refine (HAR.out).mono ?_
  rintro e w0 ⟨⟨b0, hb0, rfl⟩, rfl⟩
  clear HAR
  go_upto_region 2 with (fail)
  have hX := blk_new w 3 #[.int .i64 b0, .int .i64 x1, .int .i64 x2]
  have hb0' : Below w.heap.size w (w.alloc (.cells #[.int .i64 b0, .int .i64 x1, .int .i64 x2] 3)) := (Below.refl _ w).alloc (Nat.le_refl _) _
  rw [e0] at hX hb0'
  have HX := Lib.hid hX
  have HB0 := Lib.hid hb0'
  have HB0L := Lib.hid hb0
  clear hy1 hx1 hy2 hy3 hy4 hx2 gy1 gy2 gy3 hX hb0' hb0
  go_wp2
  go_loopw [8, 9, 10, 11, 12] (fun i _ _ _ _ wr => ∃ j : Nat, i = .int .i64 j ∧ j ≤ 3 ∧ Blk wr B 3 #[.int .i64 b0, .int .i64 x1, .int .i64 x2] ∧ Below B w wr) (fun i _ _ _ _ _ => 3 - (intOf i).toNat)
  case atStart => exact ⟨0, rfl, by omega, HX.out, HB0.out⟩
  case round =>
    obtain ⟨j, rfl, hj, hXr, hbr⟩ := hrel
    have hBw : B ≤ wr.heap.size := by have := hbr.size; have := HBE.out; omega
    have HBR := Lib.hid hbr
    by_cases hj3 : j < 3
    · obtain ⟨b, hcell, hbb⟩ : ∃ b : Nat, (∀ W : World, Blk W B 3 #[.int .i64 b0, .int .i64 x1, .int .i64 x2] → W.cell? ⟨B, j, none⟩ = some (.int .i64 (b : Int))) ∧ b ≤ 2147483647 := by
        have h3 : j = 0 ∨ j = 1 ∨ j = 2 := by omega
        rcases h3 with rfl | rfl | rfl
        · exact ⟨b0, fun W h => h.cell 0, by have := HB0L.out; omega⟩
        · exact ⟨x1, fun W h => h.cell 1, GX.out.1⟩
        · exact ⟨x2, fun W h => h.cell 2, GX.out.2⟩
      have HCELL := Lib.hid hcell
      clear hcell
      have HXR := Lib.hid hXr
      have H1 := Lib.hid (oint_any n HN.out.1 HN.out.2 (by simp) (Ou.new wr))
      have hb1 : Below B wr (wr.alloc (.cells #[.slice none 0 0] 25)) := (Below.refl _ wr).alloc hBw _
      have HB1 := Lib.hid (HBR.out.trans hb1)
      have HX1 := Lib.hid (blk_alloc hXr (.cells #[.slice none 0 0] 25))
      have hBlt := hXr.lt
      clear hbr hXr hb1 HB0 HX HBR HXR
      go_wp2_with fail
      refine (H1.out).mono ?_
      rintro e w1 ⟨⟨_, rfl⟩, hou, hb, hk⟩
      rw [List.nil_append] at hou
      obtain ⟨M, hM⟩ : ∃ M, M = Pk.nInt n := ⟨_, rfl⟩
      have hMl := Pk.nInt_len n HN.out.1 HN.out.2
      rw [← hM] at hou hMl
      have H2 := Lib.hid (obytes_any (by omega) hou)
      have HOU := Lib.hid hou
      have HB2 := Lib.hid (HB1.out.trans (hb.mono hBw))
      have HX2 := Lib.hid (hk B 3 _ (by decide) (by decide) HX1.out)
      have HM := Lib.hid hM
      obtain ⟨ml, hml⟩ : ∃ ml, ml = M.length := ⟨_, rfl⟩
      rw [← hml] at H2 hMl
      have HML := Lib.hid hml
      clear hou hb hk hM H1 HB1 HX1 hml
      go_wp2_with fail
      refine (H2.out).mono ?_
      rintro e w2 ⟨A2, c2, rfl, hown, hb⟩
      obtain ⟨A3, c3, e3, hl3, _, hrd, hnil⟩ := own8 hown
      injection e3 with e31 e32 e33
      subst e31 e33
      have HO := Lib.hid (open_any A2 M ml c2 w2 hl3 (by omega) hrd hnil)
      have hwB : B ≤ w1.heap.size := by have := HB2.out.size; have := HBE.out; omega
      have HB3 := Lib.hid (HB2.out.trans (hb.mono hwB))
      have HX3 := Lib.hid (HX2.out.below hb HX2.out.lt)
      have HOU2 := Lib.hid (HOU.out.below hb (Nat.le_refl _))
      have hz2 := hb.size
      clear hown hrd hnil hb H2 HB2 HX2 HOU hl3
      go_wp2_with fail
      refine (HO.out).mono ?_
      rintro e w3 ⟨C, rfl, hCl, hcu, hb⟩
      have hBC : B < C := by have := HX3.out.lt; omega
      have HB4 := Lib.hid (HB3.out.trans (hb.mono (by omega)))
      have hX4 := HX3.out.below hb HX3.out.lt
      have HOU3 := Lib.hid (HOU2.out.below hb hz2)
      have hcell3 := HCELL.out w3 hX4
      have hn0 := HN.out
      by_cases hright : 0 ≤ n ∧ n ≤ (b : Int)
      · obtain ⟨hr0, hr1⟩ := hright
        have hmq : Pk.pMany (b : Int) M = ⟨n, ml, 0⟩ := by
          have h0 := Pk.rnd_many (b : Int) n [] hr0 hr1 hn0.2
          rw [List.append_nil, ← HM.out] at h0
          rw [h0, ← HML.out]
        have hmr := in_many (b : Int) (by omega) (by omega) hcu
        rw [List.drop_zero, Pk.stp_ok, hmq] at hmr
        have H5 := Lib.hid hmr
        have HX4 := Lib.hid hX4
        clear hcu hb hX4 hmq hmr HB3 HX3 HOU2 HO hn0 HOU3
        unfold i64v at H5
        go_wp2_with fail
        refine (H5.out).mono ?_
        rintro e w4 ⟨rfl, hcu, hg⟩
        have hcu : Cu C 75 w4 C M (0 + ml) 0 := hcu
        have H6 := Lib.hid (in_err hcu)
        have h7 := in_left hcu
        have hl0 : M.length - (0 + ml) = 0 := by have := HML.out; omega
        rw [hl0] at h7
        have H7 := Lib.hid h7
        have HB5 := Lib.hid (HB4.out.grown hg (by have := HB4.out.size; have := HBE.out; omega) (fun k e => by injection e with e; omega))
        have HX5 := Lib.hid (blk_grown HX4.out hg (fun e => by injection e with e; omega))
        clear hcu hg h7 hl0 H5 HX4 HB4
        go_wp2_with fail
        refine (H6.out).mono ?_
        rintro e w5 ⟨rfl, rfl⟩
        go_wp2_with fail
        refine (H7.out).mono ?_
        rintro e w5 ⟨rfl, nn, rfl⟩
        go_wp2
        go_roundw
        case rel => exact ⟨j + 1, by go_num, by omega, HX5.out, below_to_drewN' HB5.out nn⟩
        case measure => simp [intOf]; omega
      · have hmq : Pk.pMany (b : Int) M = ⟨0, 0, 7⟩ := by
          have h0 := Pk.rnd_int n [] hn0.1 hn0.2
          rw [List.append_nil, ← HM.out] at h0
          unfold Pk.pMany
          rw [h0, if_pos ⟨rfl, by show n < 0 ∨ (b : Int) < n; omega⟩]
        have hmr := in_many (b : Int) (by omega) (by omega) hcu
        rw [List.drop_zero, Pk.stp_ok, hmq] at hmr
        have H5 := Lib.hid hmr
        have HX4 := Lib.hid hX4
        have HOU4 := Lib.hid HOU3
        have hr2 : n < 0 ∨ (0 ≤ n ∧ (b : Int) < n) := by omega
        clear hcu hb hX4 hmq hmr HB3 HX3 HOU2 HO hn0 HOU3 hright
        unfold i64v at H5
        rcases hr2 with hr0 | ⟨hr0, hr1⟩
        all_goals
          go_wp2_with fail
          refine (H5.out).mono ?_
          rintro e w4 ⟨rfl, hcu, hg⟩
          have hcu : Cu C 75 w4 C M 0 7 := hcu
          have H6 := Lib.hid (in_err hcu)
          have h7 := in_left hcu
          rw [Nat.sub_zero, ← HML.out] at h7
          have H7 := Lib.hid h7
          have HB5 := Lib.hid (HB4.out.grown hg (by have := HB4.out.size; have := HBE.out; omega) (fun k e => by injection e with e; omega))
          have HX5 := Lib.hid (blk_grown HX4.out hg (fun e => by injection e with e; omega))
          have hou5 := HOU4.out.grown hg (fun g e => by injection e with e; omega)
          have h8 := fun nn : Nat => obytes_any (by have := HML.out; omega) (show Ou _ _ (w4.drewN nn) _ M from hou5)
          rw [← HML.out] at h8
          have H8 := Lib.hid h8
          clear hcu hg h7 h8 hou5 H5 HX4 HB4 HOU4
          go_wp2_with fail
          refine (H6.out).mono ?_
          rintro e w5 ⟨rfl, rfl⟩
          go_wp2_with fail
          refine (H7.out).mono ?_
          rintro e w5 ⟨rfl, nn, rfl⟩
          go_wp2_with fail
          refine (H8.out nn).mono ?_
          rintro e w6 ⟨A6, c6, rfl, _, hb6⟩
          have HX6 := Lib.hid (show Blk w6 B 3 #[.int .i64 b0, .int .i64 x1, .int .i64 x2] from (show Blk (w4.drewN nn) B 3 _ from HX5.out).below hb6 HX5.out.lt)
          have HB6 := Lib.hid (show Below B w w6 from (below_to_drewN' HB5.out nn).trans (hb6.mono (show B ≤ w4.heap.size from Nat.le_of_lt HX5.out.lt)))
          clear hb6 HX5 HB5 H8
          go_wp2
          go_roundw
          case rel => exact ⟨j + 1, by go_num, by omega, HX6.out, HB6.out⟩
          case measure => simp [intOf]; omega
    · have hj : j = 3 := by omega
      subst hj
      have hNum := fun W : World => num_any u W HU.out
      have hfl := Fld.num_lt u
      obtain ⟨v, hv⟩ : ∃ v, v = Fld.num u := ⟨_, rfl⟩
      rw [← hv] at hNum hfl
      have HNUM := Lib.hid hNum
      have HOKK := Lib.hid (fun W : World => ok_any v W)
      have hdv : decide (v < 2305843009213693951) = true := decide_eq_true hfl
      rw [hdv] at HOKK
      have H1 := Lib.hid (onum_any v (by omega) (by simp) (Ou.new wr))
      have HB1 := Lib.hid (HBR.out.trans ((Below.refl _ wr).alloc hBw (.cells #[.slice none 0 0] 25)))
      have HV := Lib.hid hfl
      have HBW := Lib.hid hBw
      clear hXr hbr hv hdv hfl hNum hj3 HB0 HX HBR hBw hj
      go_wp2_with fail
      refine (HNUM.out _).mono ?_
      rintro e w1 ⟨rfl, rfl⟩
      go_wp2_with fail
      refine (H1.out).mono ?_
      rintro e w1 ⟨⟨_, rfl⟩, hou, hb, _⟩
      rw [List.nil_append] at hou
      obtain ⟨M, hM⟩ : ∃ M, M = Pk.num v := ⟨_, rfl⟩
      have hMl := Pk.num_len10 v (by have := HV.out; omega)
      rw [← hM] at hou hMl
      have H2 := Lib.hid (obytes_any (by omega) hou)
      have HB2 := Lib.hid (HB1.out.trans (hb.mono HBW.out))
      have HM := Lib.hid hM
      obtain ⟨ml, hml⟩ : ∃ ml, ml = M.length := ⟨_, rfl⟩
      rw [← hml] at H2 hMl
      have HML := Lib.hid hml
      clear hou hb hM H1 HB1 hml
      go_wp2_with fail
      refine (H2.out).mono ?_
      rintro e w2 ⟨A2, c2, rfl, hown, hb⟩
      obtain ⟨A3, c3, e3, hl3, _, hrd, hnil⟩ := own8 hown
      injection e3 with e31 e32 e33
      subst e31 e33
      have HO := Lib.hid (open_any A2 M ml c2 w2 hl3 (by omega) hrd hnil)
      have hwB : B ≤ w1.heap.size := by have := HB2.out.size; have := HBE.out; omega
      have HB3 := Lib.hid (HB2.out.trans (hb.mono hwB))
      have hz2 := hb.size
      clear hown hrd hnil hb H2 HB2 hl3
      go_wp2_with fail
      refine (HO.out).mono ?_
      rintro e w3 ⟨C, rfl, hCl, hcu, hb⟩
      have hBC : B ≤ C := by omega
      have HB4 := Lib.hid (HB3.out.trans (hb.mono (by omega)))
      have hmq : Pk.pNum M = ⟨v, ml, 0⟩ := by
        have h0 := Pk.rnd_num v [] (by have := HV.out; omega)
        rw [List.append_nil, ← HM.out] at h0
        rw [h0, ← HML.out]
      have hmr := in_num hcu
      rw [List.drop_zero, Pk.stp_ok, hmq] at hmr
      have H5 := Lib.hid hmr
      clear hcu hb hmq hmr HB3 HO hz2 hwB
      unfold u64v at H5
      go_wp2_with fail
      refine (H5.out).mono ?_
      rintro e w4 ⟨rfl, hcu, hg⟩
      have hcu : Cu C 75 w4 C M (0 + ml) 0 := hcu
      have h7 := in_end hcu
      have hen : endd M.length (0 + ml) 0 = 0 := by unfold endd; rw [if_neg (fun h => by have := HML.out; omega)]
      rw [hen] at h7
      have H7 := Lib.hid h7
      have HB5 := Lib.hid (HB4.out.grown hg (by have := HB4.out.size; have := HBE.out; omega) (fun k e => by injection e with e; omega))
      clear hcu hg h7 hen H5 HB4 hCl
      go_wp2_with fail
      refine (HNUM.out _).mono ?_
      rintro e w5 ⟨rfl, rfl⟩
      go_wp2_with fail
      refine (HOKK.out _).mono ?_
      rintro e w5 ⟨rfl, rfl⟩
      go_wp2_with fail
      refine (H7.out).mono ?_
      rintro e w5 ⟨rfl, nn, rfl⟩
      go_wp2_with fail
      refine (plives_any _).mono ?_
      rintro e w6 ⟨rfl, hb6⟩
      have hfin : Below B w w6 := HB5.out.trans (below_of_drewN (k := nn) (hb6.mono (show B ≤ w4.heap.size from by have := HB5.out.size; have := HBE.out; omega)))
      clear hb6 HB5
      go_wp2
      go_ret
      exact ⟨rfl, hfin⟩

end Go.Proofs.Ytjpdlnemkhofmaa
