/-
  ShareNothing: one share too few tells nothing: for each other secret there are coefficients with just these shares.
-/
import Derived.Test.YthnbkbmhlalpaaaShm
import Derived.Deep.DeepCutAuto
namespace Go.Proofs.Ythnbkbmhlalpaaa
open Go.RowKit Go.Maps
attribute [local go_sem ↓] Go.wp_at_zero Go.wp_at_succ

theorem gb_one (w : World) (x : Nat) : Gb w.heap.size (w.alloc (.cells #[.int .u64 (x : Int)] 22)) (.slice (some ⟨w.heap.size, 0, none⟩) 1 1) [x] := by
  obtain ⟨A, c, e, h⟩ := gl_one w x
  exact ⟨A, c, e, by rw [e]; exact h⟩
theorem apart_two (w : World) (x : Nat) : Apart (.slice (some ⟨w.heap.size, 0, none⟩) 1 1) (.slice (some ⟨(w.alloc (.cells #[.int .u64 (x : Int)] 22)).heap.size, 0, none⟩) 1 1) := fun k h1 h2 => by
  have e1 : k = w.heap.size := by injection h1
  have e2 : k = (w.alloc (.cells #[.int .u64 (x : Int)] 22)).heap.size := by injection h2
  rw [World.size_alloc] at e2
  omega
theorem Gb.base {B B' : Nat} {w : World} {o : Value} {L : List Nat} (h : Gb B w o L) (hB : B' ≤ B) : Gb B' w o L := by
  obtain ⟨A, c, e, h1, h2⟩ := h
  refine ⟨A, c, e, h1, ?_⟩
  rcases h2 with h2 | ⟨g, cap, cur, h3, h4, h5⟩
  · exact .inl h2
  · exact .inr ⟨g, cap, cur, h3, Nat.le_trans hB h4, h5⟩

/-! ### parts of lists of numbers -/
theorem u64_elem : Try.prog.underlying 23 = some (.slice (Try.prog.elem 23)) := by kernel_rfl
theorem u64_size (W : World) : (sizeOf (Try.prog.elem 23)).run Try.prog W = .ok 1 W := by kernel_rfl
theorem Pt.from_ {w : World} {A : Option Addr} {n c : Nat} {l : List Nat} (h : Pt w A n c l) {lo q : Nat} (h1 : lo ≤ n) (hq : q = n - lo) : ∃ A' c', (∀ W, (Instr.slice 23 (.slice A n c) (some (.int .i64 (lo : Int))) none none).run Try.prog W = .ok (.slice A' q c') W) ∧ Pt w A' q c' (l.drop lo) := by
  subst hq
  obtain ⟨hl, hr, hc, hn⟩ := h
  refine ⟨(if c = lo then A else A.map (·.add (lo * 1))), c - lo, fun W => ?_, ?_⟩
  · have h2 := run_slice_l (P := Try.prog) W 23 A n c u64_elem .i64 (lo : Int) (by omega) (by omega)
    rw [h2, u64_size]
    simp only [Result.andThen, Int.toNat_natCast, sliced]
  · refine ⟨by rw [List.length_drop]; omega, fun hp => ?_, by omega, fun e => ?_⟩
    · rw [u64s_len, List.length_drop] at hp
      obtain ⟨b, off, e, hlt, hcl⟩ := hr (by rw [u64s_len]; omega)
      rw [if_neg (by omega), e]
      refine ⟨b, off + lo, by simp only [Option.map_some, Nat.mul_one]; rw [Addr.add_lit], hlt, fun i u hu => ?_⟩
      have h3 : (u64s l)[lo + i]? = some u := by
        rw [← hu]
        unfold u64s
        rw [List.map_drop, List.getElem?_drop]
      have h4 := hcl (lo + i) u h3
      rwa [← Nat.add_assoc] at h4
    · split at e
      · have := hn e; omega
      · cases A with
        | none => have := hn rfl; omega
        | some a => cases e

set_option maxRecDepth 100000 in
set_option maxHeartbeats 8000000 in
theorem nothing_walk (s t n c m2 c2 : Nat) (A A2 : Option Addr) (l : List Nat) (is : List Int) (w : World) (hs : s < 18446744073709551616) (ht : t < 18446744073709551616) (hA : In w A n c l) (hI : Iz w A2 m2 is) :
    Calls Try.prog 7 #[.int .u64 (s : Int), .int .u64 (t : Int), .slice A n c, .slice A2 m2 c2] w fun e w' => e = .returned (.bool true) ∧ Below w.heap.size w w' := by
  have HN := Lib.hid (numsn_v hA 5 (by omega))
  have HI := Lib.hid hI
  obtain ⟨f, hf⟩ : ∃ f, f = s :: l.take 5 := ⟨_, rfl⟩
  have HF := Lib.hid hf
  have HLV := Lib.hid (fun W => lives9_any W)
  have HNUM := Lib.hid (fun W => num_any t W ht)
  have hyl := Fld.num_lt t
  obtain ⟨y, hy⟩ : ∃ y, y = Fld.num t := ⟨_, rfl⟩
  rw [← hy] at HNUM hyl
  have HY := Lib.hid hy
  have HEQ := Lib.hid share_eql
  have hfree := share_free
  clear hA hI hf hy
  go_enter Try.func7, Try.ntmps7
  go_wp2_with fail
  refine (HN.out).mono ?_
  rintro e w1 ⟨⟨o, rfl, ho⟩, hb1⟩
  obtain ⟨Ac, m, cc, rfl, hp, hxl, hm5⟩ := id ho
  have HO1 := Lib.hid ho
  have HI1 := Lib.hid (HI.out.below hb1)
  have K1 := Lib.hid hb1
  have hfl : f.length = m + 1 := by rw [HF.out, List.length_cons, ← hp.1]
  have HFL := Lib.hid hfl
  clear ho hb1 HN HI hp hxl hfl
  go_wp2_with fail
  refine (split_v HF.out HO1.out (by omega) hs (by omega : 9 ≤ 1000)).mono ?_
  rintro e w2 ⟨⟨B2, c3, rfl, h2⟩, hb2⟩
  have HS2 := Lib.hid h2
  have HI2 := Lib.hid (HI1.out.below hb2)
  have K2 := Lib.hid (kept_trans K1.out hb2)
  clear hb2 h2 HI1 HO1 K1
  go_wp2_with fail
  refine (some_v (most := m) (q := m) HS2.out HI2.out (by omega) (by omega) (by omega) rfl).mono ?_
  rintro e w4 ⟨⟨B4, c4, L, rfl, h4, hL⟩, hb4⟩
  have HL4 := Lib.hid h4
  have K4 := Lib.hid (kept_trans K2.out hb4)
  have HLM := Lib.hid h4.len
  have HOF := Lib.hid ((Sr.Row.split f 9).some (by rw [Sr.split_len]; omega) hL)
  have HA9 := Lib.hid (fun s (hs : s ∈ L) => (Sr.split_mem (hL.mem hs)).2.1)
  have HSM := Lib.hid (hL.small (by omega))
  clear hb4 h4 hL HS2 HI2 K2
  go_wp2_with (first | (go_at_call 22; ((with_reducible refine (HNUM.out _).mono ?_); rintro e w5 ⟨rfl, rfl⟩)))
  have hg1 := (gb_one w4 0).new (.cells #[.int .u64 (y : Int)] 22)
  have hg2 := (gb_one (w4.alloc (.cells #[.int .u64 0] 22)) y).base (B' := w4.heap.size) (by simp)
  have hap := apart_two w4 0
  rw [World.size_alloc] at hg2 hap
  have hb0 : Below w4.heap.size w4 ((w4.alloc (.cells #[.int .u64 0] 22)).alloc (.cells #[.int .u64 (y : Int)] 22)) := ((Below.refl _ w4).alloc (Nat.le_refl _) _).alloc (by simp) _
  have HG1 := Lib.hid hg1
  have HG2 := Lib.hid hg2
  have HAP := Lib.hid hap
  have HB0 := Lib.hid hb0
  clear hg1 hg2 hap hb0
  go_loopw [11, 12, 13] (fun o o2 i wr => ∃ k : Nat, i = .int .i64 (k : Int) ∧ k ≤ m ∧ Gb w4.heap.size wr o (0 :: Sr.ats (L.take k)) ∧ Gb w4.heap.size wr o2 (y :: Sr.vs (L.take k)) ∧ Apart o o2 ∧ Below w4.heap.size w4 wr) (fun _ _ i _ => m - (intOf i).toNat)
  case atStart => exact ⟨0, rfl, Nat.zero_le _, HG1.out, HG2.out, HAP.out, HB0.out⟩
  case round =>
    obtain ⟨k, rfl, hk, hg1, hg2, hap, hb⟩ := hrel
    have HG1 := Lib.hid hg1
    have HG2 := Lib.hid hg2
    have HAP := Lib.hid hap
    have HB := Lib.hid hb
    clear hg1 hg2 hap hb
    by_cases hlt : k < m
    · obtain ⟨z, hz⟩ : ∃ z, L[k]? = some z := ⟨L[k]'(by have := HLM.out; omega), List.getElem?_eq_getElem _⟩
      obtain ⟨b, off, rfl, hbb, -, c5, c6⟩ := HL4.out.spot hz
      have hat := Sr.ats_next hz
      have hvs := Sr.vs_next hz
      obtain ⟨a, v⟩ := z
      have hla : (0 :: Sr.ats (L.take k)).length + 1 ≤ 10000000 := by rw [List.length_cons, Sr.ats_len, List.length_take]; omega
      have hlv : (y :: Sr.vs (L.take k)).length + 1 ≤ 10000000 := by rw [List.length_cons, Sr.vs_len, List.length_take]; omega
      have r1 := (HB.out.cell (p := ⟨b, off + k * 2, none⟩) hbb).trans c5
      have HC2 := Lib.hid c6
      have HAT := Lib.hid hat
      have HVS := Lib.hid hvs
      have HLA := Lib.hid hla
      have HLV2 := Lib.hid hlv
      have q1 : (k : Int) < (m : Int) := by omega
      have hsz := HB.out.size
      have tok1 : True := trivial
      clear hat hvs hla hlv hz c5 c6
      go_wp2_with (first
        | (at_builtin; have _t := tok1; refine wpList_push2 rfl _ _ rfl rfl w4.heap.size a _ _ _ _ HG1.out HG2.out HAP.out rfl rfl HLA.out hsz ?_; intro z1 w6 hz1 hz2 hap2 hb2; have HZ1 := Lib.hid hz1; have HZ2 := Lib.hid hz2; have HAP2 := Lib.hid hap2; have r2 := ((HB.out.trans hb2).cell (p := ⟨b, off + k * 2 + 1, none⟩) hbb).trans HC2.out; have HB2 := Lib.hid (HB.out.trans hb2); have hsz2 := HB2.out.size; have tok2 : True := trivial; clear tok1 hz1 hz2 hap2 r1 hb2 hsz)
        | (at_builtin; have _t := tok2; refine wpList_push2 rfl _ _ rfl rfl w4.heap.size v _ _ _ _ HZ2.out HZ1.out HAP2.out.symm rfl rfl HLV2.out hsz2 ?_; intro z2 w7 hy1 hy2 hap3 hb3; have HY1 := Lib.hid hy1; have HY2 := Lib.hid hy2; have HAP3 := Lib.hid hap3; clear hy1 hy2 hap3 r2 tok2))
      go_roundw
      case rel => exact ⟨k + 1, by go_num, hlt, by rw [HAT.out]; exact HY2.out, by rw [HVS.out]; exact HY1.out, HAP3.out.symm, HB2.out.trans hb3⟩
      case measure => simp [intOf]; omega
    · obtain rfl : k = m := by omega
      have htk : L.take k = L := List.take_of_length_le (by rw [HLM.out]; exact Nat.le_refl _)
      have hg1 := HG1.out
      have hg2 := HG2.out
      rw [htk] at hg1 hg2
      have N1 := Lib.hid (hg1.nv (d := 1000) (fun x hx => by
        rcases List.mem_cons.1 hx with h | h
        · rw [h]; omega
        · exact HSM.out.ats x h) (by rw [List.length_cons, Sr.ats_len, ← HLM.out]; omega))
      have N2 := Lib.hid (hg2.nv (d := 1000) (fun x hx => by
        rcases List.mem_cons.1 hx with h | h
        · rw [h]; omega
        · exact HSM.out.vs x h) (by rw [List.length_cons, Sr.vs_len, ← HLM.out]; omega))
      have HL5 := Lib.hid (HL4.out.below HB.out)
      have K5 := Lib.hid (kept_trans K4.out HB.out)
      clear htk hg1 hg2 HG1 HG2 HAP HL4 K4 HB
      go_wp2_with fail
      refine (from_v N1.out N2.out (by omega) (by omega)).mono ?_
      rintro e w6 ⟨⟨zf, rfl, hz⟩, hb6⟩
      have hfi := Sr.few_fi HOF.out y
      rw [← HLM.out] at hfi
      obtain ⟨Ap, np, cp, PL, rfl, hpp, hpi, hpn⟩ := hz.less hfi.1
      have HPP := Lib.hid hpp
      have HPL := Lib.hid hpp.1
      have HPS := Lib.hid (hpi.1.1.big)
      have HOT := Lib.hid (Sr.few_other HOF.out t PL (by rw [← HY.out]; exact hpi) HA9.out)
      have HL6 := Lib.hid (HL5.out.below hb6)
      have K6 := Lib.hid (kept_trans K5.out hb6)
      clear hz hb6 N1 N2 HL5 K5 hfi hpp hpi
      go_upto_if 66 with (fail)
      go_cut [15] (fun r9 wx => w6 = wx ∧ Nv w6 r9 (PL.drop 1) 1000)
      case first =>
        by_cases hnp : 1 < np
        · have hd1 : decide (1 < np) = true := decide_eq_true hnp
          obtain ⟨q, hq⟩ : ∃ q, q = np - 1 := ⟨_, rfl⟩
          obtain ⟨A5, c5, hrun, hp5⟩ := HPP.out.from_ (lo := 1) (by omega) hq
          have hrun2 : ∀ W, (Instr.slice 23 (.slice Ap np cp) (some (.int .i64 1)) none none).run Try.prog W = .ok (.slice A5 q c5) W := hrun
          have HNV : Hid (Nv w6 (.slice A5 q c5) (PL.drop 1) 1000) := Lib.hid ⟨A5, q, c5, rfl, hp5, fun x hx => HPS.out x (List.mem_of_mem_drop hx), by omega⟩
          clear hrun hp5 hq
          go_wp2_with fail
          go_meet
          exact ⟨rfl, HNV.out⟩
        · have hd1 : decide (1 < np) = false := decide_eq_false hnp
          have hdr : PL.drop 1 = [] := List.drop_of_length_le (by rw [← HPL.out]; omega)
          have HNV : Hid (Nv w6 (.slice none 0 0) (PL.drop 1) 1000) := Lib.hid (by rw [hdr]; exact ⟨none, 0, 0, rfl, ⟨rfl, Rd.nil, Nat.le_refl _, fun _ => rfl⟩, by simp, by omega⟩)
          clear hdr
          go_wp2_with fail
          go_meet
          exact ⟨rfl, HNV.out⟩
      case rest =>
        obtain ⟨rfl, hnv⟩ := hcut
        have HNV := Lib.hid hnv
        clear hnv
        obtain ⟨f2, hf2⟩ : ∃ f2, f2 = t :: PL.drop 1 := ⟨_, rfl⟩
        have HF2 := Lib.hid hf2
        clear hf2
        go_wp2_with fail
        refine (split_v HF2.out HNV.out (by omega) ht (by omega : 9 ≤ 1000)).mono ?_
        rintro e w7 ⟨⟨B7, c7, rfl, h7⟩, hb7⟩
        have HS7 := Lib.hid h7
        have HL7 := Lib.hid (HL6.out.below hb7)
        have K7 := Lib.hid (kept_trans K6.out hb7)
        have hkk : Below w7.heap.size w7 w7 := Below.refl _ _
        clear hb7 h7 HL6 K6 HNV
        go_wp2
        go_loopw [17] (fun i wr => ∃ j : Nat, i = .int .i64 (j : Int) ∧ j ≤ k ∧ Below w7.heap.size w7 wr) (fun i _ => k - (intOf i).toNat)
        case atStart => exact ⟨0, rfl, Nat.zero_le _, hkk⟩
        case round =>
          obtain ⟨j, rfl, hj, hb⟩ := hrel
          have HB := Lib.hid hb
          clear hkk hb
          by_cases hlt : j < k
          · obtain ⟨z, hz⟩ : ∃ z, L[j]? = some z := ⟨L[j]'(by have := HLM.out; omega), List.getElem?_eq_getElem _⟩
            have hin := HOT.out z (List.mem_of_getElem? hz)
            rw [← HF2.out] at hin
            obtain ⟨b, off, rfl, hbb, -, c5, c6⟩ := HL7.out.spot hz
            have HIN := Lib.hid hin
            have HC5 := Lib.hid c5
            have HC6 := Lib.hid c6
            have q1 : (j : Int) < (k : Int) := by omega
            have q0 : (0 : Int) ≤ (j : Int) := by omega
            clear hin c5 c6 hz
            go_wp2
            go_loopw [18, 19] (fun g i w8 => ∃ (i9 : Nat) (q : Bool), i = .int .i64 (i9 : Int) ∧ g = .bool q ∧ i9 ≤ 9 ∧ q = decide (z ∈ (Sr.split f2 9).take i9) ∧ Below w7.heap.size w7 w8) (fun _ i _ => 9 - (intOf i).toNat)
            case atStart => exact ⟨0, false, rfl, rfl, Nat.zero_le _, by simp, HB.out⟩
            case round =>
              obtain ⟨i9, q, rfl, rfl, hi9, hq, hb2⟩ := hrel
              have HQ := Lib.hid hq
              have HB2 := Lib.hid hb2
              clear hq hb2
              by_cases hlt2 : i9 < 9
              · have hsp := Sr.split_at f2 9 hlt2
                obtain ⟨y9, hy9⟩ : ∃ y9 : Shr, y9 = ⟨i9 + 1, Pl.hv (i9 + 1) f2⟩ := ⟨_, rfl⟩
                rw [← hy9] at hsp
                obtain ⟨b2, off2, rfl, hbb2, -, g1, g2⟩ := HS7.out.spot hsp
                have htk : (Sr.split f2 9).take (i9 + 1) = (Sr.split f2 9).take i9 ++ [y9] := by
                  obtain ⟨h1, h2⟩ := List.getElem?_eq_some_iff.1 hsp
                  rw [List.take_succ_eq_append_getElem h1, h2]
                obtain ⟨a1, v1⟩ := y9
                obtain ⟨a2, v2⟩ := z
                obtain ⟨q2, hq2⟩ : ∃ q2, q2 = alike a1 v1 a2 v2 := ⟨_, rfl⟩
                have heq : ∀ W, (binOp .eql 33 (.agg #[.int .u64 (a1 : Int), .int .u64 (v1 : Int)]) (.agg #[.int .u64 (a2 : Int), .int .u64 (v2 : Int)])).run Try.prog W = .ok (.bool q2) W := fun W => by rw [HEQ.out, hq2]
                have hqn : ∀ r, r = (q || q2) → r = decide ((⟨a2, v2⟩ : Shr) ∈ (Sr.split f2 9).take (i9 + 1)) := fun r hr => by
                  rw [hr, HQ.out, hq2, htk, alike]
                  simp only [List.mem_append, List.mem_singleton, Shr.mk.injEq, Bool.decide_or]
                  congr 1
                  exact decide_eq_decide.2 ⟨fun h => ⟨h.1.symm, h.2.symm⟩, fun h => ⟨h.1.symm, h.2.symm⟩⟩
                have HQN := Lib.hid hqn
                have r1 := (HB2.out.cell (p := ⟨b2, off2 + i9 * 2, none⟩) hbb2).trans g1
                have r2 := (HB2.out.cell (p := ⟨b2, off2 + i9 * 2 + 1, none⟩) hbb2).trans g2
                have r3 := (HB2.out.cell (p := ⟨b, off + j * 2, none⟩) hbb).trans HC5.out
                have r4 := (HB2.out.cell (p := ⟨b, off + j * 2 + 1, none⟩) hbb).trans HC6.out
                have q3 : (i9 : Int) < 9 := by omega
                have q4 : (0 : Int) ≤ (i9 : Int) := by omega
                clear hq2 hqn g1 g2 hsp htk hy9
                cases q with
                | true =>
                  go_wp2_with fail
                  go_quiet (fail)
                  go_wp2
                  go_roundw
                  case rel => exact ⟨i9 + 1, true, by go_num, rfl, hlt2, HQN.out true rfl, below_drewN HB2.out _⟩
                  case measure => simp [intOf]; omega
                | false =>
                  go_wp2_with fail
                  go_quiet (fail)
                  go_wp2
                  go_roundw
                  case rel => exact ⟨i9 + 1, q2, by go_num, rfl, hlt2, HQN.out q2 rfl, below_drewN HB2.out _⟩
                  case measure => simp [intOf]; omega
              · obtain rfl : i9 = 9 := by omega
                have hqt : q = true := by
                  rw [HQ.out]
                  refine decide_eq_true ?_
                  obtain ⟨k2, hk2, hk3⟩ := HIN.out
                  rw [List.take_of_length_le (by rw [Sr.split_len]; exact Nat.le_refl _)]
                  exact List.mem_of_getElem? hk3
                subst hqt
                clear HQ
                go_wp2
                go_roundw
                case rel => exact ⟨j + 1, by go_num, hlt, HB2.out⟩
                case measure => simp [intOf]; omega
          · obtain rfl : j = k := by omega
            go_wp2_with fail
            refine (HLV.out _).mono ?_
            rintro e w9 ⟨rfl, hb9⟩
            have K9 := Lib.hid (kept_trans K7.out (kept_trans HB.out hb9))
            clear hb9
            go_wp2
            go_ret
            exact ⟨rfl, K9.out⟩

end Go.Proofs.Ythnbkbmhlalpaaa
