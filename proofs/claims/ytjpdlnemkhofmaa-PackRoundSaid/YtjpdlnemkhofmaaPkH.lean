/-
  The statement PackRound: the walk. No condition but what fits memory.
-/
import Derived.Test.YtjpdlnemkhofmaaPkG
namespace Go.Proofs.Ytjpdlnemkhofmaa
open Go.RowKit
set_option linter.unusedVariables false
set_option linter.unusedSimpArgs false
attribute [local go_sem ↓] Go.wp_at_zero Go.wp_at_succ

theorem grown_undrew' {w w' : World} {row : Option Nat} (h : w.drew.grownBy w' row) : w.grownBy w' row := ⟨h.os, h.tape, h.output, h.size, h.block⟩
theorem drop_rec {α : Type} (l : List α) (i : Nat) (h : i < l.length) : l.drop i = l[i] :: l.drop (i + 1) := List.drop_eq_getElem_cons h
theorem short_str (s : ByteArray) (m : Nat) (w : World) (hm : m ≤ 1000000) : Calls Try.prog 25 #[.string s, .int .i64 (m : Int)] w fun e w' => e = .returned (strv (s.data.toList.take m)) ∧ w = w' := by
  refine (short_is s m w hm).mono ?_
  rintro e w' ⟨⟨t, rfl, ht⟩, rfl⟩
  refine ⟨?_, rfl⟩
  unfold strv
  rw [← ht]
theorem all_split (os : List Pk.Od) (i n : Nat) (hi : i < os.length) (hn : i < n) : ∃ R, (Pk.all (os.take n)).drop (Pk.all (os.take i)).length = Pk.put os[i] ++ R := by
  have e : os.take n = os.take i ++ (os[i] :: (os.drop (i + 1)).take (n - (i + 1))) := by
    conv => lhs; rw [show n = i + (n - i) by omega, List.take_add]
    congr 1
    rw [drop_rec os i hi, show n - i = (n - (i + 1)) + 1 by omega, List.take_succ_cons]
  rw [e]
  unfold Pk.all
  rw [List.flatMap_append, List.drop_left, List.flatMap_cons]
  exact ⟨_, rfl⟩

set_option maxRecDepth 100000 in
set_option maxHeartbeats 8000000 in
theorem round_walk (os : List Pk.Od) (A : Option Addr) (m c : Nat) (w : World) (hm : m = os.length) (hmb : m ≤ 9223372036854775807) (hok : ∀ o ∈ os, o.ok) (hA : Ods w.heap.size w A os) :
    Calls Try.prog 5 #[.slice A m c] w fun e w' => e = .returned (.bool true) ∧ Below w.heap.size w w' := by
  obtain ⟨B, hBe⟩ : ∃ B, B = w.heap.size := ⟨_, rfl⟩
  have hn := Ou.new w
  have hb0 : Below w.heap.size w (w.alloc (.cells #[.slice none 0 0] 25)) := (Below.refl _ w).alloc (Nat.le_refl _) _
  rw [← hBe] at hA hn hb0 ⊢
  have HBS := Lib.hid hBe
  have HM := Lib.hid hm
  have HA := Lib.hid (And.intro hA hok)
  have HN := Lib.hid (And.intro hn hb0)
  have e0 : w.heap.size = B := hBe.symm
  clear hBe hn hb0 hm hA hok
  go_enter Try.func5, Try.ntmps5
  go_wp2
  go_loopw [4] (fun i wr => ∃ (k h : Nat), i = .int .i64 k ∧ k ≤ m ∧ k ≤ 12 ∧ Ou B h wr B (Pk.all (os.take k)) ∧ Below B w wr) (fun i _ => m - (intOf i).toNat)
  case atStart => exact ⟨0, B + 1, rfl, Nat.zero_le _, by omega, HN.out.1, HN.out.2⟩
  case round =>
    obtain ⟨k, h, rfl, hk, hk12, hou, hb⟩ := hrel
    have hsz := hb.size
    have hBw : B ≤ wr.heap.size := by have := HBS.out; omega
    have hFl : (Pk.all (os.take k)).length ≤ 600 := by
      have := Pk.all_len (os.take k) fun o ho => HA.out.2 o (List.mem_of_mem_take ho)
      rw [List.length_take] at this
      omega
    by_cases hc : k < m ∧ k < 12
    · obtain ⟨h1, h2⟩ := hc
      have hkl : k < os.length := by rw [← HM.out]; exact h1
      obtain ⟨b, off, hAe, hbB, q0, q1, q2⟩ := (HA.out.1.below hb).at_ hkl
      subst hAe
      have hok := HA.out.2 os[k] (List.getElem_mem hkl)
      have hsn : Pk.all (os.take (k + 1)) = Pk.all (os.take k) ++ Pk.put os[k] := by rw [Pk.take_snoc os k hkl, Pk.all_snoc]
      obtain ⟨o, ho⟩ : ∃ o, o = os[k] := ⟨_, rfl⟩
      rw [← ho] at q0 q1 q2 hok hsn
      have hP := lput_any o hok wr (by omega) hou
      rw [← hsn] at hP
      obtain ⟨dd, nn, ss⟩ := o
      unfold Pk.odv at hP
      have HP := Lib.hid hP
      have HBEL := Lib.hid hb
      clear ho hok hsn hP hb hsz hou hFl hkl HN
      go_wp2_with fail
      refine (HP.out).mono ?_
      rintro e w1 ⟨⟨_, rfl⟩, hou, hb1, _⟩
      have HF1 := Lib.hid (And.intro hou (HBEL.out.trans hb1))
      clear hou hb1 HP HBEL q0 q1 q2
      go_wp2
      go_roundw
      case rel => exact ⟨k + 1, _, by go_num, h1, h2, HF1.out.1, HF1.out.2⟩
      case measure => simp [intOf]; omega
    · have hc2 : ∃ b1 b2 : Bool, decide (k < m) = b1 ∧ decide ((k : Int) < 12) = b2 ∧ (b1 = false ∨ (b1 = true ∧ b2 = false)) := by
        refine ⟨_, _, rfl, rfl, ?_⟩
        simp only [decide_eq_false_iff_not, decide_eq_true_eq]
        omega
      obtain ⟨b1, b2, B1, B2, hc2⟩ := hc2
      have htk : os.take k = os.take 12 := by
        rcases Nat.lt_or_ge k 12 with h1 | h1
        · rw [List.take_of_length_le (by rw [← HM.out]; omega), List.take_of_length_le (by rw [← HM.out]; omega)]
        · rw [show k = 12 by omega]
      rw [htk] at hou hFl
      obtain ⟨F, hF⟩ : ∃ F, F = Pk.all (os.take 12) := ⟨_, rfl⟩
      rw [← hF] at hou hFl
      have HOB := Lib.hid (obytes_any (by omega) hou)
      obtain ⟨fl, hfl⟩ : ∃ fl, fl = F.length := ⟨_, rfl⟩
      rw [← hfl] at HOB hFl
      have HFE := Lib.hid (And.intro hF hfl)
      have HBEL := Lib.hid hb
      clear hc hb hou hsz htk hF hfl HN
      rcases hc2 with rfl | ⟨rfl, rfl⟩
      all_goals
        go_wp2_with fail
        refine (HOB.out).mono ?_
        rintro e w1 ⟨A2, c2, rfl, hown, hb1⟩
        have hs := Sl.own hown
        have HO := Lib.hid (open_any A2 F fl c2 w1 hs.1 (by omega) hs.2.2.1 hs.2.2.2)
        have HB1 := Lib.hid (HBEL.out.trans (hb1.mono hBw))
        have hw1 := hb1.size
        clear hs hown hb1 HOB HBEL
        go_wp2_with fail
        refine (HO.out).mono ?_
        rintro e w2 ⟨C, rfl, hCl, hcu, hb2⟩
        have hBC : B ≤ C := by omega
        have HB2 := Lib.hid (HB1.out.trans (hb2.mono (by omega)))
        have HCU := Lib.hid hcu
        clear hcu hb2 HB1 HO
        go_wp2
        go_loopw [6] (fun i wr => ∃ t : Nat, i = .int .i64 t ∧ t ≤ m ∧ t ≤ 12 ∧ Cu C 75 wr C F (Pk.all (os.take t)).length 0 ∧ Below B w wr) (fun i _ => m - (intOf i).toNat)
        case atStart => exact ⟨0, rfl, Nat.zero_le _, by omega, HCU.out, HB2.out⟩
        case round =>
          obtain ⟨t, rfl, ht, ht12, hcq, hbq⟩ := hrel
          by_cases hct : t < m ∧ t < 12
          · obtain ⟨ht1, ht2⟩ := hct
            have htl : t < os.length := by rw [← HM.out]; exact ht1
            obtain ⟨b, off, hAe, hbB, q0, q1, q2⟩ := (HA.out.1.below hbq).at_ htl
            subst hAe
            have hok := HA.out.2 os[t] (List.getElem_mem htl)
            obtain ⟨R, hR⟩ := all_split os t 12 htl ht2
            rw [← HFE.out.1] at hR
            have hnext : (Pk.all (os.take (t + 1))).length = (Pk.all (os.take t)).length + (Pk.put os[t]).length := by rw [Pk.take_snoc os t htl, Pk.all_snoc, List.length_append]
            obtain ⟨o, ho⟩ : ∃ o, o = os[t] := ⟨_, rfl⟩
            rw [← ho] at q0 q1 q2 hok hR hnext
            obtain ⟨P, hP⟩ : ∃ P, P = (Pk.all (os.take t)).length := ⟨_, rfl⟩
            rw [← hP] at hcq hR hnext
            have hkd := put_kinds o
            have hlt := Pk.aro_lt o.d (k := 7) (by omega)
            have HAR := Lib.hid (fun W : World => aro_is o.d 7 W hok.1 hok.2.1 (by omega) (by omega))
            rw [show ((7 : Nat) : Int) = 7 from rfl] at HAR
            obtain ⟨r, hr⟩ : ∃ r, r = Pk.aro o.d 7 := ⟨_, rfl⟩
            rw [← hr] at HAR hlt hkd
            obtain ⟨dd, nn, ss⟩ := o
            have hn1 : -9223372036854775808 ≤ nn := hok.2.2.1
            have hn2 : nn ≤ 9223372036854775807 := hok.2.2.2
            have q0 : wr.cell? ⟨b, off + t * 3, none⟩ = some (.int .i64 dd) := q0
            have q1 : wr.cell? ⟨b, off + t * 3 + 1, none⟩ = some (.int .i64 nn) := q1
            have q2 : wr.cell? ⟨b, off + t * 3 + 2, none⟩ = some (.string ss) := q2
            have HAR : Hid (∀ W : World, Calls Try.prog 16 #[.int .i64 dd, .int .i64 7] W fun e w' => e = .returned (.int .i64 (r : Nat)) ∧ W = w') := HAR
            have HQ := Lib.hid (And.intro q0 (And.intro q1 q2))
            have HBQ := Lib.hid hbq
            have HNX := Lib.hid hnext
            have HKD := Lib.hid hkd
            have HR := Lib.hid hR
            have HCQ := Lib.hid hcq
            have HBB := Lib.hid (show b < C by omega)
            have HNB := Lib.hid (And.intro hn1 hn2)
            have h7 : r = 4 ∨ r = 5 ∨ r = 6 ∨ r = 2 ∨ r = 3 ∨ r = 0 ∨ r = 1 := by omega
            have hsub : b + 0 < C := by omega
            clear hcq hbq hok hR hnext ho hP hkd hlt hr HCU HB2 hsub
            rcases h7 with rfl | rfl | rfl | rfl | rfl | rfl | rfl
            · have hput := HKD.out.1 rfl
              have hrd := in_num (show Cu C 75 wr.drew C F P 0 from HCQ.out)
              have hrv : Pk.pNum (F.drop P) = ⟨Pk.u64 nn, (Pk.num (Pk.u64 nn)).length, 0⟩ := by
                rw [HR.out, hput]
                exact Pk.rnd_num _ R (Pk.u64_lt _)
              rw [Pk.stp_ok, hrv, ← hput, ← HNX.out] at hrd
              have HRD := Lib.hid hrd
              have hw : IntKind.u64.wrap nn = (Pk.u64 nn : Int) := by rw [IntKind.wrap_u64]; unfold Pk.u64; omega
              obtain ⟨u, hu⟩ : ∃ u, u = Pk.u64 nn := ⟨_, rfl⟩
              rw [← hu] at HRD hw
              clear hu
              clear hput hrd hrv HKD HR HCQ HNX hn1 hn2
              go_wp2_with fail
              refine (HAR.out _).mono ?_
              rintro x w3 ⟨rfl, rfl⟩
              go_wp2_with fail
              go_region_with (first
                | (go_at_call 20; ((with_reducible refine (HRD.out).mono ?_); rintro x w4 ⟨rfl, hcu, hg⟩; have q0' := hg.cell (show wr.drew.cell? ⟨b, off + t * 3, none⟩ = _ from HQ.out.1) (fun h => by injection h with h; have h1 : b = C := h; have := HBB.out; omega); have q1' := hg.cell (show wr.drew.cell? ⟨b, off + t * 3 + 1, none⟩ = _ from HQ.out.2.1) (fun h => by injection h with h; have h1 : b = C := h; have := HBB.out; omega); have q2' := hg.cell (show wr.drew.cell? ⟨b, off + t * 3 + 2, none⟩ = _ from HQ.out.2.2) (fun h => by injection h with h; have h1 : b = C := h; have := HBB.out; omega); have H4 := Lib.hid (And.intro hcu (HBQ.out.grown (grown_undrew' hg) (by have := HBQ.out.size; have := HBS.out; omega) (fun k e => by injection e with e; omega))); clear hcu hg; unfold u64v)))
              all_goals
                have HFN := Lib.hid (show Cu C 75 w4 C F (Pk.all (os.take (t + 1))).length 0 ∧ Below B w w4 from H4.out)
                clear H4 q0' q1' q2'
                go_wp2
                go_roundw
                case rel => exact ⟨t + 1, by go_num, ht1, ht2, HFN.out.1, HFN.out.2⟩
                case measure => simp [intOf]; omega
            · have hput := HKD.out.2.1 rfl
              have hrd := in_name (show Cu C 75 wr.drew C F P 0 from HCQ.out)
              have hrv : Pk.pName (F.drop P) = ⟨Pk.nm nn, (Pk.nName (Pk.nm nn)).length, 0⟩ := by
                rw [HR.out, hput]
                exact Pk.rnd_name _ R (nm_bounds nn hn1 hn2).1 (nm_bounds nn hn1 hn2).2.1 hn1 hn2 (nm_bounds nn hn1 hn2).2.2
              rw [Pk.stp_ok, hrv, ← hput, ← HNX.out] at hrd
              have HRD := Lib.hid hrd
              have HNM := Lib.hid (fun W : World => nm_is nn W hn1 hn2)
              obtain ⟨u, hu⟩ : ∃ u, u = Pk.nm nn := ⟨_, rfl⟩
              rw [← hu] at HRD HNM
              clear hu
              clear hput hrd hrv HKD HR HCQ HNX hn1 hn2
              go_wp2_with fail
              refine (HAR.out _).mono ?_
              rintro x w3 ⟨rfl, rfl⟩
              go_wp2_with fail
              go_region_with (first
                | (go_at_call 21; ((with_reducible refine (HRD.out).mono ?_); rintro x w4 ⟨rfl, hcu, hg⟩; have q0' := hg.cell (show wr.drew.cell? ⟨b, off + t * 3, none⟩ = _ from HQ.out.1) (fun h => by injection h with h; have h1 : b = C := h; have := HBB.out; omega); have q1' := hg.cell (show wr.drew.cell? ⟨b, off + t * 3 + 1, none⟩ = _ from HQ.out.2.1) (fun h => by injection h with h; have h1 : b = C := h; have := HBB.out; omega); have q2' := hg.cell (show wr.drew.cell? ⟨b, off + t * 3 + 2, none⟩ = _ from HQ.out.2.2) (fun h => by injection h with h; have h1 : b = C := h; have := HBB.out; omega); have H4 := Lib.hid (And.intro hcu (HBQ.out.grown (grown_undrew' hg) (by have := HBQ.out.size; have := HBS.out; omega) (fun k e => by injection e with e; omega))); clear hcu hg; unfold nmv))
                | (go_at_call 22; ((with_reducible refine (HNM.out _).mono ?_); rintro x w5 ⟨rfl, hb5⟩; unfold nmv)))
              all_goals
                have HFN := Lib.hid (show Cu C 75 w5 C F (Pk.all (os.take (t + 1))).length 0 ∧ Below B w w5 from ⟨H4.out.1.below hb5 H4.out.1.lt, H4.out.2.trans (hb5.mono (by have := H4.out.2.size; have := HBS.out; omega))⟩)
                clear H4 q0' q1' q2'
                go_wp2
                go_roundw
                case rel => exact ⟨t + 1, by go_num, ht1, ht2, HFN.out.1, HFN.out.2⟩
                case measure => simp [intOf]; omega
            · have hput := HKD.out.2.2.1 rfl
              have hrd := in_many 20 (by omega) (by omega) (show Cu C 75 wr.drew C F P 0 from HCQ.out)
              have hrv : Pk.pMany 20 (F.drop P) = ⟨(Pk.aro nn 21 : Nat), (Pk.nInt (Pk.aro nn 21 : Nat)).length, 0⟩ := by
                rw [HR.out, hput]
                exact Pk.rnd_many 20 _ R (by omega) (by have := Pk.aro_lt nn (k := 21) (by omega); try dsimp only; omega) (by have := Pk.aro_lt nn (k := 21) (by omega); try dsimp only; omega)
              rw [Pk.stp_ok, hrv, ← hput, ← HNX.out] at hrd
              have HRD := Lib.hid hrd
              have HNM := Lib.hid (fun W : World => aro_is nn 21 W hn1 hn2 (by omega) (by omega))
              rw [show ((21 : Nat) : Int) = 21 from rfl] at HNM
              obtain ⟨u, hu⟩ : ∃ u, u = Pk.aro nn 21 := ⟨_, rfl⟩
              rw [← hu] at HRD HNM
              clear hu
              clear hput hrd hrv HKD HR HCQ HNX hn1 hn2
              go_wp2_with fail
              refine (HAR.out _).mono ?_
              rintro x w3 ⟨rfl, rfl⟩
              go_wp2_with fail
              go_region_with (first
                | (go_at_call 23; ((with_reducible refine (HRD.out).mono ?_); rintro x w4 ⟨rfl, hcu, hg⟩; have q0' := hg.cell (show wr.drew.cell? ⟨b, off + t * 3, none⟩ = _ from HQ.out.1) (fun h => by injection h with h; have h1 : b = C := h; have := HBB.out; omega); have q1' := hg.cell (show wr.drew.cell? ⟨b, off + t * 3 + 1, none⟩ = _ from HQ.out.2.1) (fun h => by injection h with h; have h1 : b = C := h; have := HBB.out; omega); have q2' := hg.cell (show wr.drew.cell? ⟨b, off + t * 3 + 2, none⟩ = _ from HQ.out.2.2) (fun h => by injection h with h; have h1 : b = C := h; have := HBB.out; omega); have H4 := Lib.hid (And.intro hcu (HBQ.out.grown (grown_undrew' hg) (by have := HBQ.out.size; have := HBS.out; omega) (fun k e => by injection e with e; omega))); clear hcu hg; unfold i64v))
                | (go_at_call 16; ((with_reducible refine (HNM.out _).mono ?_); rintro x w5 ⟨rfl, rfl⟩)))
              all_goals
                have HFN := Lib.hid (show Cu C 75 w4 C F (Pk.all (os.take (t + 1))).length 0 ∧ Below B w w4 from H4.out)
                clear H4 q0' q1' q2'
                go_wp2
                go_roundw
                case rel => exact ⟨t + 1, by go_num, ht1, ht2, HFN.out.1, HFN.out.2⟩
                case measure => simp [intOf]; omega
            · have hput := HKD.out.2.2.2.1 rfl
              have hrd := in_text (show Cu C 75 wr.drew C F P 0 from HCQ.out)
              have hrv : Pk.pText (F.drop P) = ⟨ss.data.toList.take 40, (Pk.nText (ss.data.toList.take 40)).length, 0⟩ := by
                rw [HR.out, hput]
                exact Pk.rnd_text _ R (by rw [List.length_take]; omega)
              rw [Pk.stp_ok, hrv, ← hput, ← HNX.out] at hrd
              have HRD := Lib.hid hrd
              have HNM := Lib.hid (fun W : World => short_str ss 40 W (by omega))
              rw [show ((40 : Nat) : Int) = 40 from rfl] at HNM
              obtain ⟨u, hu⟩ : ∃ u, u = ss.data.toList.take 40 := ⟨_, rfl⟩
              rw [← hu] at HRD HNM
              clear hu
              clear hput hrd hrv HKD HR HCQ HNX hn1 hn2
              go_wp2_with fail
              refine (HAR.out _).mono ?_
              rintro x w3 ⟨rfl, rfl⟩
              go_wp2_with fail
              go_region_with (first
                | (go_at_call 24; ((with_reducible refine (HRD.out).mono ?_); rintro x w4 ⟨rfl, hcu, hg⟩; have q0' := hg.cell (show wr.drew.cell? ⟨b, off + t * 3, none⟩ = _ from HQ.out.1) (fun h => by injection h with h; have h1 : b = C := h; have := HBB.out; omega); have q1' := hg.cell (show wr.drew.cell? ⟨b, off + t * 3 + 1, none⟩ = _ from HQ.out.2.1) (fun h => by injection h with h; have h1 : b = C := h; have := HBB.out; omega); have q2' := hg.cell (show wr.drew.cell? ⟨b, off + t * 3 + 2, none⟩ = _ from HQ.out.2.2) (fun h => by injection h with h; have h1 : b = C := h; have := HBB.out; omega); have H4 := Lib.hid (And.intro hcu (HBQ.out.grown (grown_undrew' hg) (by have := HBQ.out.size; have := HBS.out; omega) (fun k e => by injection e with e; omega))); clear hcu hg; unfold strv))
                | (go_at_call 25; ((with_reducible refine (HNM.out _).mono ?_); rintro x w5 ⟨rfl, rfl⟩; unfold strv)))
              all_goals
                have HFN := Lib.hid (show Cu C 75 w4 C F (Pk.all (os.take (t + 1))).length 0 ∧ Below B w w4 from H4.out)
                clear H4 q0' q1' q2'
                go_wp2
                go_roundw
                case rel => exact ⟨t + 1, by go_num, ht1, ht2, HFN.out.1, HFN.out.2⟩
                case measure => simp [intOf]; omega
            · have hput := HKD.out.2.2.2.2.1 rfl
              have hrd := in_bool (show Cu C 75 wr.drew C F P 0 from HCQ.out)
              have hrv : Pk.pBool (F.drop P) = ⟨decide (nn.tmod 2 = 0), (Pk.nBool (decide (nn.tmod 2 = 0))).length, 0⟩ := by
                rw [HR.out, hput]
                exact Pk.rnd_bool _ R
              rw [Pk.stp_ok, hrv, ← hput, ← HNX.out] at hrd
              have HRD := Lib.hid hrd
              obtain ⟨u, hu⟩ : ∃ u, u = nn.tmod 2 := ⟨_, rfl⟩
              have hub := tmod2_bounds nn
              rw [← hu] at HRD hub
              have huu : nn.tmod 2 = u := hu.symm
              have hwu : IntKind.i64.wrap u = u := by rw [IntKind.wrap_i64]; omega
              obtain ⟨bb, hbb⟩ : ∃ bb : Bool, bb = decide (u = 0) := ⟨_, rfl⟩
              have hb2 : (u == 0) = bb := by rw [hbb, Bool.eq_iff_iff, beq_iff_eq, decide_eq_true_iff]
              rw [← hbb] at HRD
              clear hu hbb
              clear hput hrd hrv HKD HR HCQ HNX hn1 hn2
              go_wp2_with fail
              refine (HAR.out _).mono ?_
              rintro x w3 ⟨rfl, rfl⟩
              go_wp2_with fail
              go_region_with (first
                | (go_at_call 26; ((with_reducible refine (HRD.out).mono ?_); rintro x w4 ⟨rfl, hcu, hg⟩; have q0' := hg.cell (show wr.drew.cell? ⟨b, off + t * 3, none⟩ = _ from HQ.out.1) (fun h => by injection h with h; have h1 : b = C := h; have := HBB.out; omega); have q1' := hg.cell (show wr.drew.cell? ⟨b, off + t * 3 + 1, none⟩ = _ from HQ.out.2.1) (fun h => by injection h with h; have h1 : b = C := h; have := HBB.out; omega); have q2' := hg.cell (show wr.drew.cell? ⟨b, off + t * 3 + 2, none⟩ = _ from HQ.out.2.2) (fun h => by injection h with h; have h1 : b = C := h; have := HBB.out; omega); have H4 := Lib.hid (And.intro hcu (HBQ.out.grown (grown_undrew' hg) (by have := HBQ.out.size; have := HBS.out; omega) (fun k e => by injection e with e; omega))); clear hcu hg)))
              all_goals
                have HFN := Lib.hid (show Cu C 75 w4 C F (Pk.all (os.take (t + 1))).length 0 ∧ Below B w w4 from H4.out)
                clear H4 q0' q1' q2'
                go_wp2
                go_roundw
                case rel => exact ⟨t + 1, by go_num, ht1, ht2, HFN.out.1, HFN.out.2⟩
                case measure => simp [intOf]; omega
            · have hput := HKD.out.2.2.2.2.2 (.inl rfl)
              have hrd := in_int (show Cu C 75 wr.drew C F P 0 from HCQ.out)
              have hrv : Pk.pInt (F.drop P) = ⟨nn, (Pk.nInt nn).length, 0⟩ := by
                rw [HR.out, hput]
                exact Pk.rnd_int _ R hn1 hn2
              rw [Pk.stp_ok, hrv, ← hput, ← HNX.out] at hrd
              have HRD := Lib.hid hrd
              clear hput hrd hrv HKD HR HCQ HNX hn1 hn2
              go_wp2_with fail
              refine (HAR.out _).mono ?_
              rintro x w3 ⟨rfl, rfl⟩
              go_wp2_with fail
              go_region_with (first
                | (go_at_call 27; ((with_reducible refine (HRD.out).mono ?_); rintro x w4 ⟨rfl, hcu, hg⟩; have q0' := hg.cell (show wr.drew.cell? ⟨b, off + t * 3, none⟩ = _ from HQ.out.1) (fun h => by injection h with h; have h1 : b = C := h; have := HBB.out; omega); have q1' := hg.cell (show wr.drew.cell? ⟨b, off + t * 3 + 1, none⟩ = _ from HQ.out.2.1) (fun h => by injection h with h; have h1 : b = C := h; have := HBB.out; omega); have q2' := hg.cell (show wr.drew.cell? ⟨b, off + t * 3 + 2, none⟩ = _ from HQ.out.2.2) (fun h => by injection h with h; have h1 : b = C := h; have := HBB.out; omega); have H4 := Lib.hid (And.intro hcu (HBQ.out.grown (grown_undrew' hg) (by have := HBQ.out.size; have := HBS.out; omega) (fun k e => by injection e with e; omega))); clear hcu hg; unfold i64v)))
              all_goals
                have HFN := Lib.hid (show Cu C 75 w4 C F (Pk.all (os.take (t + 1))).length 0 ∧ Below B w w4 from H4.out)
                clear H4 q0' q1' q2'
                go_wp2
                go_roundw
                case rel => exact ⟨t + 1, by go_num, ht1, ht2, HFN.out.1, HFN.out.2⟩
                case measure => simp [intOf]; omega
            · have hput := HKD.out.2.2.2.2.2 (.inr rfl)
              have hrd := in_int (show Cu C 75 wr.drew C F P 0 from HCQ.out)
              have hrv : Pk.pInt (F.drop P) = ⟨nn, (Pk.nInt nn).length, 0⟩ := by
                rw [HR.out, hput]
                exact Pk.rnd_int _ R hn1 hn2
              rw [Pk.stp_ok, hrv, ← hput, ← HNX.out] at hrd
              have HRD := Lib.hid hrd
              clear hput hrd hrv HKD HR HCQ HNX hn1 hn2
              go_wp2_with fail
              refine (HAR.out _).mono ?_
              rintro x w3 ⟨rfl, rfl⟩
              go_wp2_with fail
              go_region_with (first
                | (go_at_call 27; ((with_reducible refine (HRD.out).mono ?_); rintro x w4 ⟨rfl, hcu, hg⟩; have q0' := hg.cell (show wr.drew.cell? ⟨b, off + t * 3, none⟩ = _ from HQ.out.1) (fun h => by injection h with h; have h1 : b = C := h; have := HBB.out; omega); have q1' := hg.cell (show wr.drew.cell? ⟨b, off + t * 3 + 1, none⟩ = _ from HQ.out.2.1) (fun h => by injection h with h; have h1 : b = C := h; have := HBB.out; omega); have q2' := hg.cell (show wr.drew.cell? ⟨b, off + t * 3 + 2, none⟩ = _ from HQ.out.2.2) (fun h => by injection h with h; have h1 : b = C := h; have := HBB.out; omega); have H4 := Lib.hid (And.intro hcu (HBQ.out.grown (grown_undrew' hg) (by have := HBQ.out.size; have := HBS.out; omega) (fun k e => by injection e with e; omega))); clear hcu hg; unfold i64v)))
              all_goals
                have HFN := Lib.hid (show Cu C 75 w4 C F (Pk.all (os.take (t + 1))).length 0 ∧ Below B w w4 from H4.out)
                clear H4 q0' q1' q2'
                go_wp2
                go_roundw
                case rel => exact ⟨t + 1, by go_num, ht1, ht2, HFN.out.1, HFN.out.2⟩
                case measure => simp [intOf]; omega
          · have hc3 : ∃ b1 b2 : Bool, decide (t < m) = b1 ∧ decide ((t : Int) < 12) = b2 ∧ (b1 = false ∨ (b1 = true ∧ b2 = false)) := by
              refine ⟨_, _, rfl, rfl, ?_⟩
              simp only [decide_eq_false_iff_not, decide_eq_true_eq]
              omega
            obtain ⟨b3, b4, B3, B4, hc3⟩ := hc3
            have htk : os.take t = os.take 12 := by
              rcases Nat.lt_or_ge t 12 with h1 | h1
              · rw [List.take_of_length_le (by rw [← HM.out]; omega), List.take_of_length_le (by rw [← HM.out]; omega)]
              · rw [show t = 12 by omega]
            rw [htk, ← HFE.out.1, ← HFE.out.2] at hcq
            have h1 := in_left hcq
            have h3 := fun n : Nat => in_err (hcq.drew n)
            have h4 := fun n : Nat => in_end (hcq.drew n)
            rw [← HFE.out.2, Nat.sub_self] at h1
            have hen : endd F.length fl 0 = 0 := by unfold endd; rw [if_neg (fun h => by have := HFE.out.2; omega)]
            rw [hen] at h4
            have H1 := Lib.hid h1
            have H3 := Lib.hid h3
            have H4 := Lib.hid h4
            have HBQ := Lib.hid hbq
            clear hct htk hcq hbq h1 h3 h4 hen HCU HB2
            rcases hc3 with rfl | ⟨rfl, rfl⟩
            all_goals
              go_wp2_with fail
              refine (H1.out).mono ?_
              rintro e w5 ⟨rfl, n1, rfl⟩
              go_wp2_with fail
              refine (H3.out n1).mono ?_
              rintro e w5 ⟨rfl, rfl⟩
              go_wp2_with fail
              refine (H4.out n1).mono ?_
              rintro e w5 ⟨rfl, n2, rfl⟩
              go_wp2_with fail
              refine (plives_any _).mono ?_
              rintro e w9 ⟨rfl, hb9⟩
              have hfin : Below B w w9 := HBQ.out.trans (below_of_drewN (k := n1 + n2) (hb9.mono (show B ≤ wr.heap.size from by have := HBQ.out.size; have := HBS.out; omega)))
              clear hb9
              go_wp2
              go_ret
              exact ⟨rfl, hfin⟩

end Go.Proofs.Ytjpdlnemkhofmaa
