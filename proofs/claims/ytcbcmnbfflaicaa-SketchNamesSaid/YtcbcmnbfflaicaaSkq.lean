/-
  The statements' union, Only and rises: both sets together; what only the first one of two sets has, rising; whether a list rises. What was there is left as it was.
-/
import Derived.Test.YtcbcmnbfflaicaaSkr
import Derived.BigQuiet
namespace Go.Proofs.Ytcbcmnbfflaicaa
open Go.RowKit

theorem gl_empty (w : World) : Gl w.heap.size (w.alloc (.cells #[] 22)) (.slice (some ⟨w.heap.size, 0, none⟩) 0 0) [] := by
  refine ⟨_, 0, rfl, ?_⟩
  exact World.ownsRow_made w #[] 0 (Nat.le_refl _) (by unfold maxLen; omega) rfl

set_option maxRecDepth 100000 in
set_option maxHeartbeats 4000000 in
theorem union_any (a b : List Nat) (A A' : Option Addr) (n c n' c' : Nat) (w : World) (hA : Pt w A n c a) (hA' : Pt w A' n' c' b) (hn : n ≤ 1000) (hn' : n' ≤ 1000) (hb : ∀ y ∈ b, y < 18446744073709551616) :
    Calls Try.prog 19 #[.slice A n c, .slice A' n' c'] w fun e w' => (∃ z, e = .returned z ∧ Gl w.heap.size w' z (uni a b)) ∧ Below w.heap.size w w' := by
  have hg0 := gl_empty w
  have hb0 : Below w.heap.size w (w.alloc (.cells #[] 22)) := (Below.refl _ w).alloc (Nat.le_refl _) _
  have HG0 := Lib.hid hg0
  have HB0 := Lib.hid hb0
  have hA1 := hA.new (.cells #[] 22)
  have HA := Lib.hid hA1
  have HAL := Lib.hid hA.1
  have HA' := Lib.hid hA'
  have HN' := Lib.hid hA'.1
  have HBB := Lib.hid hb
  have hsz0 : w.heap.size ≤ (w.alloc (.cells #[] 22)).heap.size := hb0.size
  clear hg0 hb0 hA hA' hA1 hb
  go_enter Try.func19, Try.ntmps19
  go_wp2_with (at_builtin; refine wpList_app64 rfl _ _ rfl w.heap.size [] a _ A n c HG0.out rfl rfl HA.out.1 HA.out.2.1 (fun e => ⟨HA.out.2.2.2 e, by have h1 := HA.out.2.2.1; have h2 := HA.out.2.2.2 e; omega⟩) (by simp; omega) hsz0 ?_; intro z1 w1 hz1 hb1; have HZ1 := Lib.hid hz1; clear hz1)
  have HB1 := Lib.hid (HB0.out.trans hb1)
  clear hb1 hsz0
  go_loopw [5, 6] (fun o i wr => ∃ k : Nat, k ≤ n' ∧ i = .int .i64 (k : Int) ∧ Gl w.heap.size wr o (stk a b k) ∧ Below w.heap.size w wr) (fun _ i _ => n' - (intOf i).toNat)
  case atStart => exact ⟨0, Nat.zero_le _, rfl, by have h := HZ1.out; rwa [List.nil_append] at h, HB1.out⟩
  case round =>
    obtain ⟨k, hk, rfl, hg, hbr⟩ := hrel
    have hsz := hbr.size
    obtain ⟨S, hS⟩ : ∃ S, S = stk a b k := ⟨_, rfl⟩
    rw [← hS] at hg
    have hSl : S.length ≤ 2000 := by
      have h := stk_len a b k
      rw [← hS] at h
      have := HAL.out
      omega
    have HG := Lib.hid hg
    have HS := Lib.hid hS
    clear hg hS
    by_cases hlt : k < n'
    · obtain ⟨bb, off, rfl, hbb, hc0⟩ := HA'.out.at_ hlt
      have hc := (hbr.cell (p := ⟨bb, off + k, none⟩) hbb).trans hc0
      have hxl := get_big HBB.out k
      obtain ⟨x, hx⟩ : ∃ x, x = b[k]?.getD 0 := ⟨_, rfl⟩
      rw [← hx] at hc hxl
      have hstk : stk a b (k + 1) = stp S x := by rw [HS.out, hx]; rfl
      have q0 : (0 : Int) ≤ (k : Int) := by omega
      have q1 : (k : Int) < (n' : Int) := by omega
      obtain ⟨Ao, co, rfl, hpo, -⟩ := HG.out.pt
      have hhas := has_any S Ao S.length co x wr hpo (by omega)
      obtain ⟨r, hr⟩ : ∃ r : Bool, r = decide (x ∈ S) := ⟨_, rfl⟩
      rw [← hr] at hhas
      obtain ⟨sl, hsl⟩ : ∃ sl, sl = S.length := ⟨_, rfl⟩
      rw [← hsl] at hhas hSl ⊢
      have HH := Lib.hid hhas
      have HST := Lib.hid hstk
      have HR := Lib.hid hr
      have HSL := Lib.hid hsl
      have hgo : Gl w.heap.size wr (.slice Ao sl co) S := by rw [HSL.out]; exact HG.out
      have HGO := Lib.hid hgo
      clear hhas hstk hr hsl hpo hc0 hgo hx
      go_wp2_with fail
      refine HH.out.mono ?_
      rintro e w1 ⟨rfl, rfl⟩
      cases r with
      | true =>
        have hs2 : stp S x = S := by unfold stp; rw [if_pos (of_decide_eq_true HR.out.symm)]
        have HS2 := Lib.hid (HST.out.trans hs2)
        clear hs2
        go_wp2
        go_roundw
        case rel => exact ⟨k + 1, hlt, by go_num, by rw [HS2.out]; exact HGO.out, hbr⟩
        case measure => simp [intOf]; omega
      | false =>
        have hs2 : stp S x = S ++ [x] := by unfold stp; rw [if_neg (of_decide_eq_false HR.out.symm)]
        have HS2 := Lib.hid (HST.out.trans hs2)
        clear hs2
        go_wp2_with (at_builtin; refine wpList_push64 rfl _ _ rfl w.heap.size x _ _ HGO.out rfl rfl (by have := HSL.out; omega) hsz ?_; intro z2 w2 hz2 hb2; have HZ2 := Lib.hid hz2; clear hz2)
        go_roundw
        case rel => exact ⟨k + 1, hlt, by go_num, by rw [HS2.out]; exact HZ2.out, hbr.trans hb2⟩
        case measure => simp [intOf]; omega
    · have e : k = n' := by omega
      have hfin : stk a b k = uni a b := by unfold uni; rw [e, HN'.out]
      have HF := Lib.hid hfin
      clear hfin
      go_wp2
      go_ret
      exact ⟨⟨_, rfl, by rw [← HF.out, ← HS.out]; exact HG.out⟩, hbr⟩

set_option maxRecDepth 100000 in
set_option maxHeartbeats 8000000 in
theorem only_any (a b : List Nat) (A A' : Option Addr) (n c n' c' : Nat) (w : World) (hA : Pt w A n c a) (hA' : Pt w A' n' c' b) (hn : n ≤ 1000) (hn' : n' ≤ 1000) (ha : ∀ y ∈ a, y < 18446744073709551616) (hnd : a.Nodup) :
    Calls Try.prog 20 #[.slice A n c, .slice A' n' c'] w fun e w' => (∃ z L, e = .returned z ∧ Gl w.heap.size w' z L ∧ Onl a b a.length L ∧ L.length ≤ n) ∧ Below w.heap.size w w' := by
  have HN := Lib.hid hA.1
  have HA := Lib.hid hA
  have HA' := Lib.hid hA'
  have HAB := Lib.hid ha
  have HND := Lib.hid hnd
  have hg0 := Gl.nil w.heap.size w
  have HG0 := Lib.hid hg0
  have HS0 := Lib.hid (Onl.start a b)
  clear hA hA' ha hnd hg0
  go_enter Try.func20, Try.ntmps20
  go_wp2
  go_loopw [5, 6] (fun o i wr => ∃ (t : Nat) (L : List Nat), i = .int .i64 (t : Int) ∧ t ≤ n ∧ Gl w.heap.size wr o L ∧ L.length ≤ t ∧ Onl a b t L ∧ Below w.heap.size w wr) (fun _ i _ => n - (intOf i).toNat)
  case atStart => exact ⟨0, [], rfl, Nat.zero_le _, HG0.out, Nat.zero_le _, HS0.out, Below.refl _ _⟩
  case round =>
    obtain ⟨i, L, rfl, hi, hg, hLi, hs, hb⟩ := hrel
    have HG := Lib.hid hg
    have HS := Lib.hid hs
    have hsz := hb.size
    clear hg hs
    by_cases hlt : i < n
    · obtain ⟨b0, o0, e0, hb0, hc0⟩ := HA.out.at_ hlt
      have hcr := (hb.cell (p := ⟨b0, o0 + i, none⟩) hb0).trans hc0
      have hxl := get_big HAB.out i
      obtain ⟨x, hx⟩ : ∃ x, x = a[i]?.getD 0 := ⟨_, rfl⟩
      rw [← hx] at hcr hxl
      have hhas := has_any b A' n' c' x wr (HA'.out.below hb) (by omega)
      obtain ⟨r, hr⟩ : ∃ r : Bool, r = decide (x ∈ b) := ⟨_, rfl⟩
      rw [← hr] at hhas
      have HH := Lib.hid hhas
      have HR := Lib.hid hr
      have HXL := Lib.hid hx
      clear hx hc0 hhas hr
      obtain ⟨Ao, co, rfl, hpo, _⟩ := HG.out.pt
      have hnil := hpo.2.2.2
      have hnc := hpo.2.2.1
      have HPO := Lib.hid hpo
      obtain ⟨nl, hnl⟩ : ∃ nl, nl = L.length := ⟨_, rfl⟩
      have HNL := Lib.hid hnl
      rw [← hnl] at hLi hnc ⊢
      clear hpo hnl
      subst e0
      have q0 : (0 : Int) ≤ (i : Int) := by omega
      have q1 : (i : Int) < (n : Int) := by omega
      obtain ⟨wo, hwo⟩ : ∃ wo, wo = wr := ⟨_, rfl⟩
      rw [← hwo] at HG HPO HH hb hsz hcr ⊢
      clear hwo
      go_wp2_with fail
      refine HH.out.mono ?_
      rintro e w' ⟨rfl, rfl⟩
      cases r with
      | true =>
        have hsk := HS.out.skip (by rw [← HN.out]; exact hlt) (by rw [← HXL.out]; exact of_decide_eq_true HR.out.symm)
        have HSK := Lib.hid hsk
        clear hsk
        go_wp2
        go_roundw
        case rel => exact ⟨i + 1, L, by go_num, hlt, by rw [HNL.out]; exact HG.out, by rw [← HNL.out]; omega, HSK.out, hb⟩
        case measure => simp [intOf]; omega
      | false =>
        have hxb : x ∉ b := of_decide_eq_false HR.out.symm
        have HXB := Lib.hid hxb
        clear hxb
        go_wp2
        go_loopw [7] (fun k wx => ∃ t j : Nat, k = .int .i64 (t : Int) ∧ t ≤ nl ∧ (∀ j, j < t → L[j]?.getD 0 < x) ∧ wx = wo.drewN j) (fun k _ => nl - (intOf k).toNat)
        case atStart => exact ⟨0, 0, rfl, Nat.zero_le _, fun j h => absurd h (Nat.not_lt_zero j), rfl⟩
        case round =>
          rename World => wx
          obtain ⟨k, j, rfl, hk, hall, hwx⟩ := hrel
          have HALL := Lib.hid hall
          clear hall
          have hcx : wx.cell? ⟨b0, o0 + i, none⟩ = some (.int .u64 (x : Int)) := hwx ▸ hcr
          have HPX : Hid (Pt wx Ao L.length co L) := Lib.hid (hwx ▸ HPO.out)
          have HWX := Lib.hid hwx
          clear hwx
          by_cases hkn : k < nl
          · obtain ⟨b1, o1, e1, hb1', hc1⟩ := HPX.out.at_ (k := k) (by rw [← HNL.out]; exact hkn)
            obtain ⟨v, hv⟩ : ∃ v, v = L[k]?.getD 0 := ⟨_, rfl⟩
            rw [← hv] at hc1
            have HV := Lib.hid hv
            clear hv
            subst e1
            have s1 : (0 : Int) ≤ (k : Int) := by omega
            have s2 : (k : Int) < (nl : Int) := by omega
            by_cases h1 : v < x
            · have t1 : (v : Int) < (x : Int) := by omega
              go_wp2
              go_quiet (fail)
              go_wp2
              rename Nat => jq
              have hw2 : wx.drewN jq = wo.drewN (j + jq) := by rw [HWX.out, World.drewN_drewN]
              have HW2 := Lib.hid hw2
              clear hw2
              go_roundw
              case rel =>
                refine ⟨k + 1, j + jq, by go_num, hkn, fun j hj => ?_, HW2.out⟩
                rcases Nat.lt_or_ge j k with h2 | h2
                · exact HALL.out j h2
                · obtain rfl : j = k := by omega
                  rw [← HV.out]; exact h1
              case measure => simp [intOf]; omega
            · have t1 : ¬ (v : Int) < (x : Int) := by omega
              have hgt : k < L.length → ¬ L[k]?.getD 0 < x := fun _ => by rw [← HV.out]; exact h1
              have HGT := Lib.hid hgt
              clear hgt
              go_wp2
              go_quiet (fail)
              rename Nat => jq
              obtain ⟨wz, hwz⟩ : ∃ wz, wz = wx.drewN jq := ⟨_, rfl⟩
              rw [← hwz]
              have hpz : Pt wz (some ⟨b1, o1, none⟩) L.length co L := hwz ▸ HPX.out
              have hcz : wz.cell? ⟨b0, o0 + i, none⟩ = some (.int .u64 (x : Int)) := hwz ▸ hcx
              have hbz : Below w.heap.size w wz := by
                rw [hwz, HWX.out]
                exact below_drewN (below_drewN hb _) _
              have hszz := hbz.size
              have HPZ := Lib.hid hpz
              have hsl1 := slice_head 25 (by kernel_rfl) (fun W => by kernel_rfl) (some ⟨b1, o1, none⟩) nl co k (by omega)
              obtain ⟨At, ct, hsl2, htn, htr⟩ := slice_tail (some ⟨b1, o1, none⟩) nl co k (nl - k) hk rfl hnc hnil
              have hR2 := htr _ _ _ HNL.out HPZ.out.2.1
              obtain ⟨q, hq⟩ : ∃ q, q = nl - k := ⟨_, rfl⟩
              rw [← hq] at hsl2 htn
              have HTN := Lib.hid htn
              have HR2 := Lib.hid hR2
              have HQ := Lib.hid hq
              have hnl0 := Gl.nil wz.heap.size wz
              have HNL0 := Lib.hid hnl0
              have hput := HS.out.put HND.out (by rw [← HN.out]; exact hlt) HXL.out HXB.out (by rw [← HNL.out]; exact hk) HALL.out HGT.out
              have HPUT := Lib.hid hput
              clear htn htr hR2 hq hnl0 hput hpz hwz hcx
              obtain ⟨oi, hoi⟩ : ∃ oi, oi = o0 + i := ⟨_, rfl⟩
              have hcz1 : ∀ w1, Below wz.heap.size wz w1 → w1.cell? ⟨b0, o0 + i, none⟩ = some (.int .u64 (x : Int)) := fun w1 hw => (hw.cell (p := ⟨b0, o0 + i, none⟩) (by show b0 < wz.heap.size; omega)).trans hcz
              have HCZ1 := Lib.hid hcz1
              clear hcz1 hoi
              go_wp2_with (first
                | (at_builtin; refine wpList_app64 rfl _ _ rfl wz.heap.size [] (L.take k) _ (some ⟨b1, o1, none⟩) k co HNL0.out rfl rfl (by rw [List.length_take]; have := HNL.out; omega) (HPZ.out.2.1.take k) (fun e => by have := hnil e; omega) (by simp; omega) (Nat.le_refl _) ?_; intro z1 w1 hz1 hb1; have HZ1 := Lib.hid hz1; have hc1 := HCZ1.out w1 hb1; clear hz1)
                | (at_builtin; refine wpList_push64 rfl _ _ rfl wz.heap.size x _ _ HZ1.out rfl rfl (by rw [List.nil_append, List.length_take]; omega) hb1.size ?_; intro z2 w2 hz2 hb2; have HZ2 := Lib.hid hz2; clear hz2)
                | (at_builtin; refine wpList_app64 rfl _ _ rfl wz.heap.size _ (L.drop k) _ At q ct HZ2.out rfl rfl (by rw [List.length_drop]; have := HNL.out; have := HQ.out; omega) (HR2.out.at_world (hb1.trans hb2)) HTN.out (by rw [List.nil_append, List.length_append, List.length_take, List.length_singleton]; have := HQ.out; omega) (hb1.trans hb2).size ?_; intro z3 w3 hz3 hb3; have HZ3 := Lib.hid hz3; clear hz3))
              go_roundw
              case rel =>
                refine ⟨i + 1, L.take k ++ [x] ++ L.drop k, by go_num, hlt, ?_, ?_, HPUT.out, ?_⟩
                · have h := HZ3.out.base hszz
                  rwa [List.nil_append] at h
                · rw [List.length_append, List.length_append, List.length_take, List.length_drop, List.length_singleton]; have := HNL.out; omega
                · exact hbz.trans (((hb1.trans hb2).trans hb3).mono hszz)
              case measure => simp [intOf]; omega
          · have t2 : ¬ ((k : Int) < (nl : Int)) := by omega
            have hgt : k < L.length → ¬ L[k]?.getD 0 < x := fun h => absurd h (by have := HNL.out; omega)
            have HGT := Lib.hid hgt
            clear hgt
            go_wp2
            go_quiet (fail)
            rename Nat => jq
            obtain ⟨wz, hwz⟩ : ∃ wz, wz = wx.drewN jq := ⟨_, rfl⟩
            rw [← hwz]
            have hpz : Pt wz Ao L.length co L := hwz ▸ HPX.out
            have hcz : wz.cell? ⟨b0, o0 + i, none⟩ = some (.int .u64 (x : Int)) := hwz ▸ hcx
            have hbz : Below w.heap.size w wz := by
              rw [hwz, HWX.out]
              exact below_drewN (below_drewN hb _) _
            have hszz := hbz.size
            have HPZ := Lib.hid hpz
            have hsl1 := slice_head 25 (by kernel_rfl) (fun W => by kernel_rfl) Ao nl co k (by omega)
            obtain ⟨At, ct, hsl2, htn, htr⟩ := slice_tail Ao nl co k (nl - k) hk rfl hnc hnil
            have hR2 := htr _ _ _ HNL.out HPZ.out.2.1
            obtain ⟨q, hq⟩ : ∃ q, q = nl - k := ⟨_, rfl⟩
            rw [← hq] at hsl2 htn
            have HTN := Lib.hid htn
            have HR2 := Lib.hid hR2
            have HQ := Lib.hid hq
            have hnl0 := Gl.nil wz.heap.size wz
            have HNL0 := Lib.hid hnl0
            have hput := HS.out.put HND.out (by rw [← HN.out]; exact hlt) HXL.out HXB.out (by rw [← HNL.out]; exact hk) HALL.out HGT.out
            have HPUT := Lib.hid hput
            clear htn htr hR2 hq hnl0 hput hpz hwz hcx
            obtain ⟨oi, hoi⟩ : ∃ oi, oi = o0 + i := ⟨_, rfl⟩
            have hcz1 : ∀ w1, Below wz.heap.size wz w1 → w1.cell? ⟨b0, o0 + i, none⟩ = some (.int .u64 (x : Int)) := fun w1 hw => (hw.cell (p := ⟨b0, o0 + i, none⟩) (by show b0 < wz.heap.size; omega)).trans hcz
            have HCZ1 := Lib.hid hcz1
            clear hcz1 hoi
            go_wp2_with (first
              | (at_builtin; refine wpList_app64 rfl _ _ rfl wz.heap.size [] (L.take k) _ Ao k co HNL0.out rfl rfl (by rw [List.length_take]; have := HNL.out; omega) (HPZ.out.2.1.take k) (fun e => by have := hnil e; omega) (by simp; omega) (Nat.le_refl _) ?_; intro z1 w1 hz1 hb1; have HZ1 := Lib.hid hz1; have hc1 := HCZ1.out w1 hb1; clear hz1)
              | (at_builtin; refine wpList_push64 rfl _ _ rfl wz.heap.size x _ _ HZ1.out rfl rfl (by rw [List.nil_append, List.length_take]; omega) hb1.size ?_; intro z2 w2 hz2 hb2; have HZ2 := Lib.hid hz2; clear hz2)
              | (at_builtin; refine wpList_app64 rfl _ _ rfl wz.heap.size _ (L.drop k) _ At q ct HZ2.out rfl rfl (by rw [List.length_drop]; have := HNL.out; have := HQ.out; omega) (HR2.out.at_world (hb1.trans hb2)) HTN.out (by rw [List.nil_append, List.length_append, List.length_take, List.length_singleton]; have := HQ.out; omega) (hb1.trans hb2).size ?_; intro z3 w3 hz3 hb3; have HZ3 := Lib.hid hz3; clear hz3))
            go_roundw
            case rel =>
              refine ⟨i + 1, L.take k ++ [x] ++ L.drop k, by go_num, hlt, ?_, ?_, HPUT.out, ?_⟩
              · have h := HZ3.out.base hszz
                rwa [List.nil_append] at h
              · rw [List.length_append, List.length_append, List.length_take, List.length_drop, List.length_singleton]; have := HNL.out; omega
              · exact hbz.trans (((hb1.trans hb2).trans hb3).mono hszz)
            case measure => simp [intOf]; omega
    · have e : i = n := by omega
      subst e
      go_wp2
      go_ret
      exact ⟨⟨_, L, rfl, HG.out, by rw [← HN.out]; exact HS.out, hLi⟩, hb⟩
end Go.Proofs.Ytcbcmnbfflaicaa
