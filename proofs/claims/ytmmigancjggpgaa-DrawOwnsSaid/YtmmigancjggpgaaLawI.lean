/-
  The statement DrawOwns: the walk, over natural numbers and lists. No condition but what fits memory.
-/
import Derived.Test.YtmmigancjggpgaaLawH
namespace Go.Proofs.Ytmmigancjggpgaa
open Go.RowKit

theorem own_block {w : World} {B p c : Nat} {A : Option Addr} {l : List Nat} (h : w.ownsRow B 22 1 (.slice A p c) p (u64s l)) (hp : 0 < p) : ∃ g cur, A = some ⟨g, 0, none⟩ ∧ B ≤ g ∧ Blk w g 22 cur ∧ p ≤ cur.size ∧ cur.toList.take p = u64s l := by
  rcases h.2 with ⟨_, h0⟩ | ⟨g, cp, cur, hv, hg, hb, h1, h2, h3, h4⟩
  · omega
  · injection hv with hv
    rw [Nat.mul_one] at h4 h3
    exact ⟨g, cur, hv, hg, hb, by omega, h4⟩

theorem own_set {w : World} {B p c : Nat} {g : Nat} {l : List Nat} (h : w.ownsRow B 22 1 (.slice (some ⟨g, 0, none⟩) p c) p (u64s l)) (k x : Nat) :
    (w.setCell ⟨g, k, none⟩ (.int .u64 (x : Int))).ownsRow B 22 1 (.slice (some ⟨g, 0, none⟩) p c) p (u64s (l.set k x)) := by
  have hl := h.1
  rcases h.2 with ⟨hv, _⟩ | ⟨g2, cp, cur, hv, hg, hb, h1, h2, h3, h4⟩
  · injection hv with hv
    cases hv
  · injection hv with hv h6 h7
    injection hv with hv
    injection hv with hv
    subst hv h7
    rw [u64s_len] at hl
    refine ⟨by rw [u64s_len, List.length_set]; exact hl, .inr ⟨g, c, cur.setIfInBounds k (.int .u64 (x : Int)), rfl, hg, (show Blk w g 22 cur from hb).set_ k _, h1, h2, by rw [Array.size_setIfInBounds]; exact h3, ?_⟩⟩
    rw [Array.toList_setIfInBounds, List.take_set, h4]
    simp [u64s, List.map_set]

/-! ### DrawOwns -/
set_option maxRecDepth 100000 in
set_option maxHeartbeats 2000000 in
theorem owns_walk (seed by_ : Nat) (xs : List Nat) (A : Option Addr) (m c : Nat) (w : World) (hs : seed < 18446744073709551616) (hm : m = xs.length) (hmb : m ≤ 9223372036854775807) (hx : ∀ x ∈ xs, x < 18446744073709551616)
    (hA : Rd w.heap.size w A (u64s xs)) :
    Calls Try.prog 9 #[.int .u64 seed, .slice A m c, .int .u64 by_] w fun e w' => e = .returned (.bool true) ∧ Below w.heap.size w w' := by
  have HSAID := Lib.hid (said_law xs A m c w hm hmb hA)
  have HX := Lib.hid (take_lt (n := 8) hx)
  have HM := Lib.hid hm
  have HA := Lib.hid hA
  clear hx hA hm
  go_enter Try.func9, Try.ntmps9
  go_wp2_with fail
  refine (HSAID.out).mono ?_
  rintro e w1 ⟨A1, c1, p, rfl, hp, hp8, hA1, hnil, hown, hb1⟩
  have HSAID2 := Lib.hid (said_law xs A m c w1 HM.out hmb ((HA.out.below hb1).more hb1.size))
  have HP := Lib.hid hp
  have HA1 := Lib.hid hA1
  have HNIL := Lib.hid hnil
  have HB1 := Lib.hid hb1
  have hB := hb1.size
  clear HSAID hA1 hnil hp hb1 hown HA
  go_wp2_with fail
  refine (HSAID2.out).mono ?_
  rintro e w2 ⟨A2, c2, p2, rfl, hp2, _, hA2, hnil2, hown2, hb2⟩
  obtain rfl : p2 = p := by have := HP.out; omega
  have HNEW := Lib.hid (new_any seed A1 (xs.take 8) p2 c1 w2 hp2 (by omega) ((HA1.out.below hb2).more hb2.size) HNIL.out)
  have HA2 := Lib.hid hA2
  have HNIL2 := Lib.hid hnil2
  have HO2 := Lib.hid hown2
  have HB2 := Lib.hid (kept_trans HB1.out hb2)
  have hB2 := hb2.size
  clear HSAID2 hA2 hnil2 hp2 hb2 hown2
  go_wp2_with fail
  refine (HNEW.out).mono ?_
  rintro e w3 ⟨D, U, rfl, hU, hd, hb3⟩
  have HNEW2 := Lib.hid (new_any seed A2 (xs.take 8) p2 c2 w3 HP.out (by omega) ((HA2.out.below hb3).more hb3.size) HNIL2.out)
  have HD := Lib.hid hd
  have hz3 := hb3.size
  have HQ3 := Lib.hid (kept_trans HB2.out hb3)
  have HO3 := Lib.hid (own_below HO2.out hb3)
  have HW2 := Lib.hid (show ∀ g, A2 = some ⟨g, 0, none⟩ → 0 < p2 → g < w2.heap.size from fun g e h => by
    obtain ⟨g2, cur, e2, _, h3, _⟩ := own_block HO2.out h
    rw [e] at e2
    injection e2 with e2
    injection e2 with e2
    rw [e2]
    exact h3.lt)
  clear HNEW hd hb3 HO2
  go_wp2_with fail
  refine (HNEW2.out).mono ?_
  rintro e w4 ⟨D2, U2, rfl, hU2, hd2, hb4⟩
  have hq4 := kept_trans HQ3.out hb4
  have HD1 := Lib.hid (HD.out.below hb4)
  have HD2 := Lib.hid hd2
  have hz4 := hb4.size
  have HO4 := Lib.hid (own_below HO3.out hb4)
  have hne1 : U ≠ U2 := by have := hd2.at_.2; omega
  clear HNEW2 hd2 hb4 HD HQ3 HO3
  go_wp2
  go_loopw [11] (fun i wr => ∃ k : Nat, i = .int .i64 k ∧ k ≤ p2 ∧ (∃ l : List Nat, l.length = p2 ∧ (∀ x ∈ l, x < 18446744073709551616) ∧ wr.ownsRow w1.heap.size 22 1 (.slice A2 p2 c2) p2 (u64s l)) ∧ Drs w2.heap.size wr D U seed (xs.take 8) 0 ∧ Drs w3.heap.size wr D2 U2 seed (xs.take 8) 0 ∧ Below w.heap.size w wr) (fun i _ => p2 - (intOf i).toNat)
  case atStart => exact ⟨0, rfl, Nat.zero_le _, ⟨_, HP.out.symm, HX.out, HO4.out⟩, HD1.out, HD2.out, hq4⟩
  case round =>
    obtain ⟨k, rfl, hkp, ⟨l, hl, hlx, ho⟩, hd1, hd2, hq⟩ := hrel
    have HDR1 := Lib.hid hd1
    have HDR2 := Lib.hid hd2
    clear hd1 hd2
    by_cases hk : k < p2
    · obtain ⟨g, cur, rfl, hgB, hblk, hcs, htake⟩ := own_block ho (by omega)
      have hgl := HW2.out g rfl (by omega)
      have hkl : k < l.length := by omega
      have hxl := hlx _ (List.getElem_mem hkl)
      have hcr : wr.cell? ⟨g, k, none⟩ = some (.int .u64 (l[k] : Nat)) := by
        rw [hblk.cell]
        have h1 : (cur.toList.take p2)[k]? = some (.int .u64 (l[k] : Nat)) := by rw [htake]; simp [u64s, hkl]
        rw [List.getElem?_take, if_pos hk] at h1
        simpa using h1
      have hfz : wr.frozen? ⟨g, k, none⟩ = false := hblk.frozen k
      obtain ⟨x, hxe⟩ : ∃ x : Nat, x = l[k] := ⟨_, rfl⟩
      rw [← hxe] at hcr hxl
      obtain ⟨y, hy⟩ : ∃ y : Nat, y = (x + by_) % 18446744073709551616 := ⟨_, rfl⟩
      have hwy : IntKind.u64.wrap ((x : Int) + (by_ : Int)) = (y : Int) := by rw [IntKind.wrap_u64]; omega
      have hyb : y < 18446744073709551616 := by omega
      have hg : wr.grownBy (wr.setCell ⟨g, k, none⟩ (.int .u64 (y : Int))) (some g) := only_set (only_refl _ _) k _
      have HO := Lib.hid (own_set ho k y)
      have HR1 := Lib.hid (HDR1.out.grown _ hg fun g2 e => .inl (by injection e with e; omega))
      have HR2 := Lib.hid (HDR2.out.grown _ hg fun g2 e => .inl (by injection e with e; omega))
      have HQ := Lib.hid (hq.grown hg (by have := hq.size; have := hblk.lt; omega) (fun j e => by injection e with e; omega))
      have HL := Lib.hid (show (l.set k y).length = p2 ∧ ∀ x ∈ l.set k y, x < 18446744073709551616 from ⟨by rw [List.length_set]; exact hl, fun x hx => by
        rcases List.mem_or_eq_of_mem_set hx with h | h
        · exact hlx x h
        · rw [h]; exact hyb⟩)
      clear hl hlx ho hblk hcs htake hkl hxe hy hg hq HDR1 HDR2
      go_wp2
      go_roundw
      case rel => exact ⟨k + 1, by go_num, hk, ⟨_, HL.out.1, HL.out.2, HO.out⟩, HR1.out, HR2.out, HQ.out⟩
      case measure => simp [intOf]; omega
    · have hl8 : (xs.take 8).length ≤ 1000000 := by have := HP.out; omega
      have HL8 := Lib.hid hl8
      clear hl hlx ho hl8
      obtain ⟨wo, hwo⟩ : ∃ wo : World, wo = wr := ⟨_, rfl⟩
      subst hwo
      go_wp2
      go_loopw [12, 13, 14] (fun i _ _ wq => ∃ j : Nat, i = .int .i64 j ∧ j ≤ 10 ∧ Drs w2.heap.size wq D U seed (xs.take 8) j ∧ Drs w3.heap.size wq D2 U2 seed (xs.take 8) j ∧ Below w.heap.size w wq) (fun i _ _ _ => 10 - (intOf i).toNat)
      case atStart => exact ⟨0, rfl, by omega, HDR1.out, HDR2.out, hq⟩
      case round =>
        obtain ⟨j, rfl, hj10, hd1, hd3, hq⟩ := hrel
        have HDR1 := Lib.hid hd1
        have HDR3 := Lib.hid hd3
        clear hd1 hd3
        by_cases hk : j < 10
        · have hnx := next_any _ D U seed j (xs.take 8) wr HL8.out (by omega) hs HX.out HDR1.out
          have hnz := fun W h => next_any w3.heap.size D2 U2 seed j (xs.take 8) W HL8.out (by omega) hs HX.out h
          obtain ⟨y, hy⟩ : ∃ y : Nat, y = Dw.nth seed (xs.take 8) (j + 1) := ⟨_, rfl⟩
          rw [← hy] at hnx hnz
          have HNX := Lib.hid hnx
          have HNZ := Lib.hid hnz
          clear hnx hnz hy
          go_wp2_with fail
          refine (HNX.out).mono ?_
          rintro e v1 ⟨rfl, hd, hg⟩
          have hqa := below_next hq HDR1.out (by omega) hg
          have HDA1 := Lib.hid hd
          have HDA3 := Lib.hid (HDR3.out.beside HDR1.out hne1 hg)
          clear HNX hd hg HDR1 HDR3 hq
          go_wp2_with fail
          refine (HNZ.out v1 HDA3.out).mono ?_
          rintro e v3 ⟨rfl, hd, hg⟩
          have hqc := below_next hqa HDA3.out (by omega) hg
          have HDC3 := Lib.hid hd
          have HDC1 := Lib.hid (HDA1.out.beside HDA3.out hne1.symm hg)
          clear HNZ hd hg HDA1 HDA3 hqa
          go_wp2
          go_roundw
          case rel => exact ⟨j + 1, by go_num, hk, HDC1.out, HDC3.out, hqc⟩
          case measure => simp [intOf]; omega
        · have HLV := Lib.hid (lives_any wr)
          go_wp2_with fail
          refine (HLV.out).mono ?_
          rintro e w5 ⟨rfl, hb5⟩
          have hq5 := kept_trans hq hb5
          go_wp2
          go_ret
          exact ⟨rfl, hq5⟩

end Go.Proofs.Ytmmigancjggpgaa
