/-
  The statement PackReads: the walk. No condition but what fits memory.
-/
import Derived.Test.YtjpdlnemkhofmaaGet
import Derived.Deep.DeepCutAuto
import Derived.Deep.RegionHeld3
namespace Go.Proofs.Ytjpdlnemkhofmaa
open Go.RowKit
attribute [local go_sem ↓] Go.wp_at_zero Go.wp_at_succ

/-- A slice of bytes: it reads as l. -/
def Sl (D : Nat) (w : World) (A : Option Addr) (n c : Nat) (l : List UInt8) : Prop := n = l.length ∧ n ≤ c ∧ Rd D w A (u8s l) ∧ (A = none → n = 0 ∧ c = 0)
theorem Sl.below {D : Nat} {w w' : World} {A : Option Addr} {n c : Nat} {l : List UInt8} (h : Sl D w A n c l) (hb : Below D w w') : Sl D w' A n c l := ⟨h.1, h.2.1, h.2.2.1.below hb, h.2.2.2⟩
theorem Sl.more {D D' : Nat} {w : World} {A : Option Addr} {n c : Nat} {l : List UInt8} (h : Sl D w A n c l) (hD : D ≤ D') : Sl D' w A n c l := ⟨h.1, h.2.1, h.2.2.1.more hD, h.2.2.2⟩
theorem Sl.own {B : Nat} {w : World} {A : Option Addr} {n c : Nat} {l : List UInt8} (h : w.ownsRow B 5 1 (.slice A n c) n (u8s l)) : Sl w.heap.size w A n c l := by
  obtain ⟨A1, c1, e, h1, h2, h3, h4⟩ := own8 h
  injection e with e1 e2 e3
  subst e1 e3
  exact ⟨h1, h2, h3, h4⟩
theorem Sl.head {D : Nat} {w : World} {A : Option Addr} {n c k : Nat} {l : List UInt8} (h : Sl D w A n c l) (hk : k ≤ n) : Sl D w A k c (l.take k) := by
  refine ⟨by rw [List.length_take, ← h.1]; omega, Nat.le_trans hk h.2.1, ?_, fun e => ?_⟩
  · have := h.2.2.1.take k
    rw [u8s_take] at this
    exact this
  · obtain ⟨h1, h2⟩ := h.2.2.2 e
    exact ⟨by omega, h2⟩

set_option maxRecDepth 100000 in
set_option maxHeartbeats 4000000 in
theorem reads_walk (xs : List UInt8) (A : Option Addr) (m c : Nat) (os : List Pk.Od) (A1 : Option Addr) (m1 c1 : Nat) (ps : List Pk.Od) (A2 : Option Addr) (m2 c2 : Nat) (a : Int) (ch : Nat) (w : World)
    (hm : m = xs.length) (hmb : m ≤ 9223372036854775807) (hmc : m ≤ c) (hA : Rd w.heap.size w A (u8s xs)) (hnil : A = none → c = 0)
    (hm1 : m1 = os.length) (hmb1 : m1 ≤ 9223372036854775807) (hok1 : ∀ o ∈ os, o.ok) (hA1 : Ods w.heap.size w A1 os)
    (hm2 : m2 = ps.length) (hmb2 : m2 ≤ 9223372036854775807) (hok2 : ∀ o ∈ ps, o.ok) (hA2 : Ods w.heap.size w A2 ps)
    (ha1 : -9223372036854775808 ≤ a) (ha2 : a ≤ 9223372036854775807) (hch : ch < 256) :
    Calls Try.prog 4 #[.slice A m c, .slice A1 m1 c1, .slice A2 m2 c2, .int .i64 a, .int .u8 (ch : Int)] w fun e w' => e = .returned (.bool true) ∧ Below w.heap.size w w' := by
  have hall := rall_any os A1 m1 c1 6 w hm1 hmb1 (by omega) hok1 hA1
  rw [show ((6 : Nat) : Int) = 6 from rfl] at hall
  have hlen := Pk.all_len (os.take 6) fun o ho => hok1 o (List.mem_of_mem_take ho)
  rw [List.length_take] at hlen
  obtain ⟨B, hB⟩ : ∃ B, B = w.heap.size := ⟨_, rfl⟩
  obtain ⟨L, hL⟩ : ∃ L, L = Pk.all (os.take 6) := ⟨_, rfl⟩
  rw [← hL] at hall hlen
  obtain ⟨n, hn⟩ : ∃ n, n = L.length := ⟨_, rfl⟩
  unfold Bys at hall
  rw [← hn] at hall hlen
  rw [← hB] at hall hA hA1 hA2 ⊢
  have e0 : w.heap.size = B := hB.symm
  have hnb : n ≤ 300 := by omega
  have HALL := Lib.hid hall
  have HBE := Lib.hid hB
  have HN := Lib.hid hn
  have HA := Lib.hid (And.intro hm (And.intro hmc (And.intro hA hnil)))
  have HA1 := Lib.hid (And.intro hm1 (And.intro hok1 hA1))
  have HA2 := Lib.hid (And.intro hm2 (And.intro hok2 hA2))
  obtain ⟨n1, hn1e⟩ : ∃ n1, n1 = n + 1 := ⟨_, rfl⟩
  have HAR := Lib.hid (fun W : World => aro_is a n1 W ha1 ha2 (by omega) (by omega))
  have hkl := Pk.aro_lt a (k := n1) (by omega)
  obtain ⟨k, hk⟩ : ∃ k, k = Pk.aro a n1 := ⟨_, rfl⟩
  rw [← hk] at HAR hkl
  have hn1 : (n : Int) + 1 = (n1 : Int) := by omega
  have hkn : k ≤ n := by omega
  clear hB hL hn hm hmc hA hnil hm1 hok1 hA1 hm2 hok2 hA2 ha1 ha2 hk hall hlen hn1e hkl
  go_enter Try.func4, Try.ntmps4
  go_wp2_with fail
  refine (HALL.out).mono ?_
  rintro e w1 ⟨A3, c3, rfl, hown, hb1⟩
  have HO1 := Lib.hid hown
  have HB1 := Lib.hid hb1
  clear hown hb1 HALL
  go_wp2_with fail
  refine (HAR.out _).mono ?_
  rintro e w2 ⟨rfl, rfl⟩
  have hs1 := Sl.own HO1.out
  have HF := Lib.hid (few_any L A3 n c3 400 w1 hs1.1 hs1.2.1 (by omega) hs1.2.2.1 (fun e => (hs1.2.2.2 e).2))
  rw [show ((400 : Nat) : Int) = 400 from rfl, show min n 400 = n by omega, List.take_of_length_le (by rw [← HN.out]; omega)] at HF
  have HS1 := Lib.hid hs1
  clear hs1
  go_wp2_with fail
  refine (HF.out).mono ?_
  rintro e w2 ⟨A4, c4, rfl, hown, hb2⟩
  have HO2 := Lib.hid hown
  have HB2 := Lib.hid hb2
  clear hown hb2 HF
  go_upto_if 32 with (fail)
  go_cut [] (fun wx => ∃ L2 : List UInt8, L2.length = n ∧ ∃ W : World, W = wx ∧ W.ownsRow w1.heap.size 5 1 (.slice A4 n c4) n (u8s L2) ∧ Below w1.heap.size w1 W)
  case first =>
    by_cases hkn2 : k < n
    · have B1 : decide (k < n) = true := decide_eq_true hkn2
      obtain ⟨g4, c4', e4, hg4, _⟩ := HO2.out.form (by omega)
      injection e4 with e41 e42 e43
      subst e41 e43
      have hcell := HO2.out.cellAt k (by omega)
      have hfr : w2.frozen? ⟨g4, k, none⟩ = false := HO2.out.frozenAt k
      have hkl2 : k < (u8s L).length := by rw [u8s_len, ← HN.out]; exact hkn2
      rw [List.getElem?_eq_getElem hkl2] at hcell
      obtain ⟨z, hz⟩ : ∃ z, z = (u8s L)[k] := ⟨_, rfl⟩
      rw [← hz] at hcell
      obtain ⟨hst, hgr⟩ := HO2.out.stored k (.int .u8 (ch : Int))
      rw [u8s_set L k ch hch] at hst
      have HST := Lib.hid hst
      have HBB := Lib.hid (HB2.out.grown hgr HB2.out.size (fun j e => by injection e with e; omega))
      clear hz hkl2 hst hgr
      go_wp2
      go_meet
      exact ⟨_, by rw [List.length_set, ← HN.out], _, rfl, HST.out, HBB.out⟩
    · have B1 : decide (k < n) = false := decide_eq_false hkn2
      go_wp2
      go_meet
      exact ⟨L, HN.out.symm, _, rfl, HO2.out, HB2.out⟩
  case rest =>
    obtain ⟨L2, hL2, w3, rfl, hrow, hb3⟩ := hcut
    have hB1s := HB1.out.size
    have hbw3 : Below B w w3 := HB1.out.trans (hb3.mono (by have := HBE.out; omega))
    have hs2 := Sl.own hrow
    have hs1 := (HS1.out.below hb3).more hb3.size
    have HW3 := Lib.hid (And.intro hbw3 (And.intro (hs1.head hkn) (And.intro hs1 hs2)))
    obtain ⟨mm, hmm⟩ : ∃ mm, mm = min m 60 := ⟨_, rfl⟩
    have HF := Lib.hid (fun (W : World) (hb : Below w3.heap.size w3 W) => few_any xs A m c 60 W HA.out.1 HA.out.2.1 (by omega) ((HA.out.2.2.1.below (hbw3.trans (hb.mono (by have := hbw3.size; have := HBE.out; omega)))).more (by have := hbw3.size; have := hb.size; have := HBE.out; omega)) HA.out.2.2.2)
    rw [show ((60 : Nat) : Int) = 60 from rfl, ← hmm] at HF
    have hmmb : mm ≤ 60 := by omega
    have hsl := slice_head 23 (by kernel_rfl) (fun W => by kernel_rfl) A3 n c3 k (by have := HS1.out.2.1; omega)
    have HSL := Lib.hid hsl
    clear hrow hb3 hB1s hbw3 hs1 hs2 HO1 HB1 HS1 HO2 HB2 hsl hmm
    have hsl := HSL.out
    go_wp2_with fail
    go_region_with (first
      | (go_at_call 17; ((with_reducible refine (HF.out _ (by first | exact Below.refl _ _ | exact below_to_drew (Below.refl _ _))).mono ?_); rintro e w4 ⟨A5, c5, rfl, hown5, hb4⟩)))
    all_goals
      have hs5 := Sl.own hown5
      have hX := blk_new w4 23 #[.slice A5 mm c5, .slice A3 n c3, .slice A4 n c4, .slice A3 k c3]
      have hbx : Below w4.heap.size w4 (w4.alloc (.cells #[.slice A5 mm c5, .slice A3 n c3, .slice A4 n c4, .slice A3 k c3] 23)) := (Below.refl _ w4).alloc (Nat.le_refl _) _
      have hb34 : Below w3.heap.size w3 w4 := by first | exact hb4 | exact below_of_drew hb4
      have hbD : Below B w (w4.alloc (.cells #[.slice A5 mm c5, .slice A3 n c3, .slice A4 n c4, .slice A3 k c3] 23)) := HW3.out.1.trans ((hb34.mono (by have := HW3.out.1.size; have := HBE.out; omega)).trans (hbx.mono (by have := HW3.out.1.size; have := HBE.out; have := hb34.size; omega)))
      have t1 := ((HW3.out.2.1.below hb34).more hb34.size).below hbx
      have t2 := ((HW3.out.2.2.1.below hb34).more hb34.size).below hbx
      have t3 := ((HW3.out.2.2.2.below hb34).more hb34.size).below hbx
      have t5 := hs5.below hbx
      obtain ⟨X, hXe⟩ : ∃ X, X = w4.heap.size := ⟨_, rfl⟩
      obtain ⟨wD, hwD⟩ : ∃ wD, wD = w4.alloc (.cells #[.slice A5 mm c5, .slice A3 n c3, .slice A4 n c4, .slice A3 k c3] 23) := ⟨_, rfl⟩
      rw [← hwD] at hX hbD t1 t2 t3 t5
      rw [← hXe] at hX t1 t2 t3 t5 ⊢
      rw [← hwD]
      have HSL4 := Lib.hid (And.intro t1 (And.intro t2 (And.intro t3 t5)))
      have HX := Lib.hid hX
      have HBD := Lib.hid hbD
      have HXD := Lib.hid hX.lt
      clear hs5 hX hbx hb34 hbD t1 t2 t3 t5 hwD hXe hown5 hb4 HF HW3 HSL hsl hL2
      go_wp2
      go_loopw [15, 16, 17, 18, 19] (fun i _ _ _ _ wr => ∃ j : Nat, i = .int .i64 j ∧ j ≤ 4 ∧ Below wD.heap.size wD wr) (fun i _ _ _ _ _ => 4 - (intOf i).toNat)
      case atStart => exact ⟨0, rfl, by omega, Below.refl _ _⟩
      case round =>
        obtain ⟨j, rfl, hj, hbr⟩ := hrel
        by_cases hj4 : j < 4
        · obtain ⟨AM, nM, cM, M, hcell, hM, hMb⟩ : ∃ AM nM cM M, (∀ W : World, Blk W X 23 #[.slice A5 mm c5, .slice A3 n c3, .slice A4 n c4, .slice A3 k c3] → W.cell? ⟨X, j, none⟩ = some (.slice AM nM cM)) ∧ Sl X wD AM nM cM M ∧ nM ≤ 1000 := by
            obtain ⟨t1, t2, t3, t5⟩ := HSL4.out
            have h3 : j = 0 ∨ j = 1 ∨ j = 2 ∨ j = 3 := by omega
            rcases h3 with rfl | rfl | rfl | rfl
            · exact ⟨A5, mm, c5, _, fun W h => h.cell 0, t5, by omega⟩
            · exact ⟨A3, n, c3, _, fun W h => h.cell 1, t2, by omega⟩
            · exact ⟨A4, n, c4, _, fun W h => h.cell 2, t3, by omega⟩
            · exact ⟨A3, k, c3, _, fun W h => h.cell 3, t1, by omega⟩
          have hXr := HX.out.below hbr HXD.out
          have hc0 := hcell wr hXr
          have HCELL := Lib.hid hcell
          have hMr := (hM.below (hbr.mono (Nat.le_of_lt HXD.out))).more (show X ≤ wr.heap.size from Nat.le_of_lt hXr.lt)
          have HO := Lib.hid (open_any AM M nM cM wr hMr.1 (by omega) hMr.2.2.1 hMr.2.2.2)
          have HMR := Lib.hid hMr
          have HBR := Lib.hid hbr
          have HXR := Lib.hid hXr
          clear hbr hXr hMr hcell hM
          go_wp2_with fail
          refine (HO.out).mono ?_
          rintro e w5 ⟨C, rfl, hCl, hcu, hb5⟩
          have hX5 := HXR.out.below hb5 HXR.out.lt
          have hc5 := HCELL.out w5 hX5
          have hclt := hcu.lt
          have hM5 := (HMR.out.below hb5).more hCl
          have hI : Cu C 42 (w5.alloc (.cells #[.slice AM nM cM, .int .i64 0, .int .i64 0] 42)) w5.heap.size M 0 0 := by
            refine ⟨AM, cM, ?_, fun hp => ?_, by omega, Nat.zero_le _, by rw [← hM5.1]; exact hM5.2.1, by rw [← hM5.1]; omega⟩
            · rw [← hM5.1]; exact blk_new w5 42 #[.slice AM nM cM, .int .i64 0, .int .i64 0]
            · obtain ⟨b, off, e, hb, hc⟩ := hM5.2.2.1 hp
              exact ⟨b, off, e, hb, fun i u hu => Lib.cell?_alloc_some _ (hc i u hu)⟩
          have hC6 := hcu.alloc (.cells #[.slice AM nM cM, .int .i64 0, .int .i64 0] 42)
          have hDC : wD.heap.size ≤ C := Nat.le_trans HBR.out.size hCl
          have hbD5 : Below wD.heap.size wD w5 := HBR.out.trans (hb5.mono HBR.out.size)
          have hbD6 : Below wD.heap.size wD (w5.alloc (.cells #[.slice AM nM cM, .int .i64 0, .int .i64 0] 42)) := hbD5.alloc hbD5.size _
          obtain ⟨I, hIe⟩ : ∃ I, I = w5.heap.size := ⟨_, rfl⟩
          have hCI : C ≠ I := by omega
          rw [← hIe] at hI
          have hXlt : X ≠ I := by have := HXD.out; omega
          obtain ⟨w6, hw6⟩ : ∃ w6, w6 = w5.alloc (.cells #[.slice AM nM cM, .int .i64 0, .int .i64 0] 42) := ⟨_, rfl⟩
          rw [← hw6] at hI hC6 hbD6
          have HGET := Lib.hid (And.intro hC6 (And.intro hI hbD6))
          have HDC := Lib.hid (And.intro hDC hCI)
          have HW6 := Lib.hid hw6
          have e5 : w5.heap.size = I := hIe.symm
          clear hcu hb5 hX5 hclt hM5 hI hC6 hDC hbD5 hbD6 hw6 hIe HO HMR HXR HBR
          obtain ⟨AR, mR, cR, oR, hcase, hoR, hmR, hmRb, hokR⟩ : ∃ AR mR cR oR, ((decide ((1 : Int) < (j : Int)) = true ∧ AR = A1 ∧ mR = m1 ∧ cR = c1) ∨ (decide ((1 : Int) < (j : Int)) = false ∧ AR = A2 ∧ mR = m2 ∧ cR = c2)) ∧ Ods B w AR oR ∧ mR = oR.length ∧ mR ≤ 9223372036854775807 ∧ (∀ o ∈ oR, o.ok) := by
            by_cases h1 : 1 < j
            · exact ⟨A1, m1, c1, os, .inl ⟨decide_eq_true (by omega), rfl, rfl, rfl⟩, HA1.out.2.2, HA1.out.1, hmb1, HA1.out.2.1⟩
            · exact ⟨A2, m2, c2, ps, .inr ⟨decide_eq_false (by omega), rfl, rfl, rfl⟩, HA2.out.2.2, HA2.out.1, hmb2, HA2.out.2.1⟩
          have HR := Lib.hid (And.intro hoR (And.intro hmR hokR))
          clear hoR hmR hokR
          rcases hcase with ⟨h1, rfl, rfl, rfl⟩ | ⟨h1, rfl, rfl, rfl⟩
          all_goals
            go_wp2
            rw [← HW6.out]
            go_loopw [19] (fun i wq => ∃ t : Nat, i = .int .i64 t ∧ t ≤ mR ∧ (∃ k' e', Cu C 75 wq C M k' e' ∧ Cu C 42 wq I M k' e') ∧ Below wD.heap.size wD wq) (fun i _ => mR - (intOf i).toNat)
            case atStart => exact ⟨0, rfl, Nat.zero_le _, ⟨0, 0, HGET.out.1, HGET.out.2.1⟩, HGET.out.2.2⟩
            case round =>
              obtain ⟨t, rfl, ht, ⟨k', e', hcC, hcI⟩, hbq⟩ := hrel
              by_cases htm : t < mR ∧ t < 12
              · obtain ⟨ht1, ht2⟩ := htm
                have htl : t < oR.length := by rw [← HR.out.2.1]; exact ht1
                have hbB := HBD.out.trans (hbq.mono (by have := HBD.out.size; have := HBE.out; omega))
                obtain ⟨b, off, hAe, _, q0, q1, q2⟩ := (HR.out.1.below hbB).at_ htl
                subst hAe
                have hok := HR.out.2.2 oR[t] (List.getElem_mem htl)
                have hG := get_any oR[t] hok hcC hcI HDC.out.2
                obtain ⟨o, ho⟩ : ∃ o, o = oR[t] := ⟨_, rfl⟩
                rw [← ho] at hG q0 q1 q2
                unfold Pk.odv at hG
                have HG := Lib.hid hG
                have HBQ := Lib.hid hbq
                clear hcC hcI hbq hbB hok hG ho HGET HW6
                go_wp2_with fail
                refine (HG.out).mono ?_
                rintro e w7 ⟨rfl, hcs, hb7⟩
                have HN7 := Lib.hid (And.intro hcs (HBQ.out.trans (hb7.mono HDC.out.1)))
                clear hcs hb7 q0 q1 q2 HG
                go_wp2
                go_roundw
                case rel => exact ⟨t + 1, by go_num, ht1, HN7.out.1, HN7.out.2⟩
                case measure => simp [intOf]; omega
              · have hc2 : ∃ b1 b2 : Bool, decide (t < mR) = b1 ∧ decide ((t : Int) < 12) = b2 ∧ (b1 = false ∨ (b1 = true ∧ b2 = false)) := by
                  refine ⟨_, _, rfl, rfl, ?_⟩
                  simp only [decide_eq_false_iff_not, decide_eq_true_eq]
                  omega
                obtain ⟨b1, b2, B1, B2, hc2⟩ := hc2
                have HBQ := Lib.hid hbq
                clear htm hcC hcI hbq HGET HW6
                rcases hc2 with rfl | ⟨rfl, rfl⟩
                all_goals
                  go_wp2
                  go_roundw
                  case rel => exact ⟨j + 1, by go_num, by omega, HBQ.out⟩
                  case measure => simp [intOf]; omega
        · have hj : j = 4 := by omega
          subst hj
          have HFB := Lib.hid (HBD.out.trans (hbr.mono (by have := HBD.out.size; have := HBE.out; omega)))
          clear hbr
          go_wp2_with fail
          refine (plives_any _).mono ?_
          rintro e w9 ⟨rfl, hb9⟩
          have hfin : Below B w w9 := HFB.out.trans (hb9.mono (by have := HFB.out.size; have := HBE.out; omega))
          clear hb9
          go_wp2
          go_ret
          exact ⟨rfl, hfin⟩

end Go.Proofs.Ytjpdlnemkhofmaa
