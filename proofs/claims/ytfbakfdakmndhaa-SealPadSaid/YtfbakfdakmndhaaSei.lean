/-
  SealTurned: the walk, over natural numbers and lists of bytes. No condition.
-/
import Derived.Test.YtfbakfdakmndhaaSeh
import Derived.Deep.AppendLies
namespace Go.Proofs.Ytfbakfdakmndhaa
open Go.RowKit

/-- A byte that is another one by adding what is not 0. -/
theorem u8_other (x : UInt8) (y : Nat) (h0 : 0 < y) (hy : y < 256) : ∃ z : Nat, z < 256 ∧ IntKind.u8.wrap (((x.toNat : Nat) : Int) + (y : Int)) = (z : Int) ∧ UInt8.ofNat z ≠ x := by
  have hx := x.toNat_lt
  refine ⟨(x.toNat + y) % 256, Nat.mod_lt _ (by omega), by rw [IntKind.wrap_u8]; omega, fun e => ?_⟩
  have h := congrArg UInt8.toNat e
  rw [u8_of _ (Nat.mod_lt _ (by omega))] at h
  omega
theorem own_set {w : World} {B g n c : Nat} {l : List UInt8} (h : w.ownsRow B 5 1 (.slice (some ⟨g, 0, none⟩) n c) n (u8s l)) (j z : Nat) (hz : z < 256) :
    (w.setCell ⟨g, j, none⟩ (.int .u8 (z : Int))).ownsRow B 5 1 (.slice (some ⟨g, 0, none⟩) n c) n (u8s (l.set j (UInt8.ofNat z))) ∧ w.grownBy (w.setCell ⟨g, j, none⟩ (.int .u8 (z : Int))) (some g) := by
  rw [← u8s_set l j z hz]
  exact h.stored j _
theorem own_cell {w : World} {B g n c : Nat} {l : List UInt8} (h : w.ownsRow B 5 1 (.slice (some ⟨g, 0, none⟩) n c) n (u8s l)) (j : Nat) (hj : j < l.length) :
    w.cell? ⟨g, j, none⟩ = some (.int .u8 (((l[j]).toNat : Nat) : Int)) := by
  have hl := h.1
  rw [u8s_len] at hl
  rw [h.cellAt j (by omega)]
  unfold u8s
  rw [List.getElem?_map, List.getElem?_eq_getElem hj]
  rfl

set_option maxRecDepth 100000 in
set_option maxHeartbeats 4000000 in
theorem turned_walk (k : Nat) (A T : Option Addr) (n c n' c' : Nat) (at_ : Int) (by_ : Nat) (a t : List UInt8) (w : World) (hk : k < 18446744073709551616) (ha1 : -9223372036854775808 ≤ at_) (ha2 : at_ ≤ 9223372036854775807) (hb1 : by_ < 256) (hA : Bt w A n c a) (hT : Bt w T n' c' t) :
    Calls Try.prog 6 #[.int .u64 k, .slice A n c, .slice T n' c', .int .i64 at_, .int .u8 by_] w fun e w' => e = .returned (.bool true) ∧ Below w.heap.size w w' := by
  obtain ⟨i0, hi, hz0, hz1, hz2⟩ := info_parts info_u8
  have HI := Lib.hid hi
  have HZ0 := Lib.hid hz0
  have HZ1 := Lib.hid hz1
  have HZ2 := Lib.hid hz2
  clear hi hz0 hz1 hz2
  have k0 : Below w.heap.size w w := Below.refl _ _
  have A0 := Lib.hid hA
  have T0 := Lib.hid hT
  clear hA hT
  go_enter Try.func6, Try.ntmps6
  go_wp2_with fail
  refine (few_v (A0.out) 40 (by omega)).mono ?_
  rintro e w1 ⟨⟨A1, n1, c1, rfl, h, hm1⟩, hb1⟩
  have k1 := kept_trans k0 hb1
  have T1 := Lib.hid (T0.out.below hb1)
  have B1 := Lib.hid h
  clear hb1 k0 A0 T0 h
  go_wp2_with fail
  refine (few_v (T1.out) 40 (by omega)).mono ?_
  rintro e w2 ⟨⟨A2, n2, c2, rfl, h, hm2⟩, hb2⟩
  have k2 := kept_trans k1 hb2
  have B2 := Lib.hid (B1.out.below hb2)
  have U2 := Lib.hid h
  clear hb2 k1 T1 B1 h
  go_wp2_with fail
  refine (seal_v k (B2.out) (U2.out) hk (by omega) (by omega)).mono ?_
  rintro e w3 ⟨⟨g, n3, c3, rfl, h, hm3⟩, hb3⟩
  have k3 := kept_trans k2 hb3
  have B3 := Lib.hid (B2.out.below hb3)
  have S3 := Lib.hid h
  clear hb3 k2 B2 U2 h
  have hs8 : ¬ ((n3 : Int) < 8) := by omega
  have hs38 : 8 ≤ n3 := by omega
  have hs3 : n3 ≤ 1010 := by omega
  have HM3 := Lib.hid hm3
  clear hm3
  by_cases hby : by_ = 0
  · subst hby
    clear hb1
    go_wp2_with fail
    refine (lives7_any _).mono ?_
    rintro e w4 ⟨rfl, hb4⟩
    have k4 := kept_trans k3 hb4
    clear hb4 k3 B3 S3
    go_wp2
    go_ret
    exact ⟨rfl, k4⟩
  · have hb0 : 0 < by_ := by omega
    have hbz : ((by_ : Int) == 0) = false := by rw [beq_eq_false_iff_ne]; omega
    clear hby
    have HLP := Lib.hid (show (u8s (Sl.put k (a.take 40) (t.take 40))).length = n3 * 1 by rw [u8s_len]; have := (S3.out).len; omega)
    go_wp2_with (at_builtin; refine wpList_append_lies w3 rfl _ _ 23 rfl w3.heap.size 5 i0 (.int .u8 0) 1 1 Try.underlying23 HI.out HZ0.out HZ1.out HZ2.out rfl (by decide) (.slice none 0 0) 0 [] rfl (World.ownsRow_nil _ _ _ _) ⟨g, 0, none⟩ n3 c3 (u8s (Sl.put k (a.take 40) (t.take 40))) rfl HLP.out (src_rd (S3.out).rd) (u8s_one _) (by omega) (by unfold maxLen; omega) (by omega) (Nat.le_refl _) _ rfl ?_; intro gp cp wap hown hgrow _ _; rw [Nat.zero_add, List.nil_append] at hown; rw [Nat.zero_add]; have hka : Below w3.heap.size w3 wap := (Below.refl _ _).grown hgrow (Nat.le_refl _) (fun j e => by cases e); have HP := Lib.hid hown; have hsza := hka.size; clear hown hgrow)
    refine (around_v at_ n3 _ ha1 ha2 (by omega) (by omega)).mono ?_
    rintro e wbp ⟨⟨jp, hjp, rfl⟩, hbb⟩
    have hkb : Below w3.heap.size w3 wbp := hka.trans (hbb.mono hsza)
    have hown := own_below HP.out hbb
    have hjl : jp < (Sl.put k (a.take 40) (t.take 40)).length := by have := HLP.out; rw [u8s_len] at this; omega
    have hcell0 := own_cell hown jp hjl
    have hfr := hown.frozenAt jp
    obtain ⟨zp, hzp, hadd0, hne⟩ := u8_other (Sl.put k (a.take 40) (t.take 40))[jp] by_ hb0 hb1
    have HNEP := Lib.hid hne
    have HJLP := Lib.hid hjl
    obtain ⟨op, hcell, hadd⟩ : ∃ o : Nat, wbp.cell? ⟨gp, jp, none⟩ = some (.int .u8 (o : Int)) ∧ IntKind.u8.wrap ((o : Int) + (by_ : Int)) = (zp : Int) := ⟨_, hcell0, hadd0⟩
    have hset := own_set hown jp zp hzp
    have hks : Below w3.heap.size w3 (wbp.setCell ⟨gp, jp, none⟩ (.int .u8 (zp : Int))) := hkb.trans (below_only hset.2 (hown.lt _ rfl).1 hkb.size)
    have HCP := Lib.hid (Bt.of_own hset.1)
    have HKP := Lib.hid hks
    have q0 : (0 : Int) ≤ (jp : Int) := by omega
    have q1 : (jp : Int) < (n3 : Int) := by omega
    clear hcell0 hadd0 hka hbb hkb hown hne hset hks hsza HP
    go_wp2_with fail
    clear hcell hfr hadd q0 q1
    refine (open_v k (B3.out.below HKP.out) HCP.out (Sl.opn_turned k (a.take 40) (t.take 40) jp (UInt8.ofNat zp) HJLP.out HNEP.out) hk (by omega) (by omega)).mono ?_
    rintro e w4 ⟨⟨Ap4, np4, cp4, rfl, h⟩, hb⟩
    have hkk : Below w3.heap.size w3 w4 := HKP.out.trans (hb.mono HKP.out.size)
    have k4 := kept_trans k3 hkk
    have B4 := Lib.hid (B3.out.below hkk)
    have S4 := Lib.hid (S3.out.below hkk)
    clear hb hkk h HKP HCP k3 B3 S3
    by_cases hn1 : n1 = 0
    · subst hn1
      go_wp2_with fail
      refine (lives7_any _).mono ?_
      rintro e w5 ⟨rfl, hb5⟩
      have k5 := kept_trans k4 hb5
      clear hb5 k4 B4 S4
      go_wp2
      go_ret
      exact ⟨rfl, k5⟩
    · have hn10 : 0 < n1 := by omega
      have hn1i : (n1 : Int) > 0 := by omega
      obtain ⟨ga, offa, rfl⟩ := (B4.out).spot hn10
      have HLQ := Lib.hid (show (u8s (a.take 40)).length = n1 * 1 by rw [u8s_len]; have := (B4.out).len; omega)
      go_wp2_with (at_builtin; refine wpList_append_lies w4 rfl _ _ 23 rfl w4.heap.size 5 i0 (.int .u8 0) 1 1 Try.underlying23 HI.out HZ0.out HZ1.out HZ2.out rfl (by decide) (.slice none 0 0) 0 [] rfl (World.ownsRow_nil _ _ _ _) ⟨ga, offa, none⟩ n1 c1 (u8s (a.take 40)) rfl HLQ.out (src_rd (B4.out).rd) (u8s_one _) (by omega) (by unfold maxLen; omega) (by omega) (Nat.le_refl _) _ rfl ?_; intro gq cq waq hown hgrow _ _; rw [Nat.zero_add, List.nil_append] at hown; rw [Nat.zero_add]; have hka : Below w4.heap.size w4 waq := (Below.refl _ _).grown hgrow (Nat.le_refl _) (fun j e => by cases e); have HQ := Lib.hid hown; have hsza := hka.size; clear hown hgrow)
      refine (around_v at_ n1 _ ha1 ha2 (by omega) (by omega)).mono ?_
      rintro e wbq ⟨⟨jq, hjq, rfl⟩, hbb⟩
      have hkb : Below w4.heap.size w4 wbq := hka.trans (hbb.mono hsza)
      have hown := own_below HQ.out hbb
      have hjl : jq < (a.take 40).length := by have := HLQ.out; rw [u8s_len] at this; omega
      have hcell0 := own_cell hown jq hjl
      have hfr := hown.frozenAt jq
      obtain ⟨zq, hzq, hadd0, hne⟩ := u8_other (a.take 40)[jq] by_ hb0 hb1
      have HNEQ := Lib.hid hne
      have HJLQ := Lib.hid hjl
      obtain ⟨oq, hcell, hadd⟩ : ∃ o : Nat, wbq.cell? ⟨gq, jq, none⟩ = some (.int .u8 (o : Int)) ∧ IntKind.u8.wrap ((o : Int) + (by_ : Int)) = (zq : Int) := ⟨_, hcell0, hadd0⟩
      have hset := own_set hown jq zq hzq
      have hks : Below w4.heap.size w4 (wbq.setCell ⟨gq, jq, none⟩ (.int .u8 (zq : Int))) := hkb.trans (below_only hset.2 (hown.lt _ rfl).1 hkb.size)
      have HCQ := Lib.hid (Bt.of_own hset.1)
      have HKQ := Lib.hid hks
      have q0 : (0 : Int) ≤ (jq : Int) := by omega
      have q1 : (jq : Int) < (n1 : Int) := by omega
      clear hcell0 hadd0 hka hbb hkb hown hne hset hks hsza HQ
      go_wp2_with fail
      clear hcell hfr hadd q0 q1
      refine (open_v k HCQ.out (S4.out.below HKQ.out) (Sl.opn_along k (a.take 40) (t.take 40) jq (UInt8.ofNat zq) HJLQ.out HNEQ.out) hk (by omega) (by omega)).mono ?_
      rintro e w5 ⟨⟨Aq4, nq4, cq4, rfl, h⟩, hb⟩
      have hkk : Below w4.heap.size w4 w5 := HKQ.out.trans (hb.mono HKQ.out.size)
      have k5 := kept_trans k4 hkk
      have B5 := Lib.hid (B4.out.below hkk)
      have S5 := Lib.hid (S4.out.below hkk)
      clear hb hkk h HKQ HCQ k4 B4 S4
      go_wp2_with fail
      refine (lives7_any _).mono ?_
      rintro e w6 ⟨rfl, hb6⟩
      have k6 := kept_trans k5 hb6
      clear hb6 k5 B5 S5
      go_wp2
      go_ret
      exact ⟨rfl, k6⟩

end Go.Proofs.Ytfbakfdakmndhaa
