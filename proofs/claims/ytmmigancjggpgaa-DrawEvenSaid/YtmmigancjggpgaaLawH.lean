/-
  The statement DrawEven: the walk, over natural numbers. No condition.
-/
import Derived.Test.YtmmigancjggpgaaLawF
namespace Go.Proofs.Ytmmigancjggpgaa
open Go.RowKit

/-- Draws that lie between blocks lo and hi. -/
def DrsH (lo hi : Nat) (w : World) (D U seed : Nat) (l : List Nat) (n : Nat) : Prop :=
  ∃ S K A c, ((lo ≤ D ∧ lo ≤ U ∧ lo ≤ S ∧ lo ≤ K) ∧ (D < hi ∧ U < hi ∧ S < hi ∧ K < hi ∧ (0 < l.length → ∃ b off, A = some ⟨b, off, none⟩ ∧ b < hi))) ∧
    Blk w D 44 #[.func (.func 20) #[] #[.pointer (some ⟨U, 0, none⟩), .pointer (some ⟨K, 0, none⟩), .pointer (some ⟨S, 0, none⟩)], .func (.func 23) #[] #[.pointer (some ⟨U, 0, none⟩)]] ∧
    Blk w U 3 #[.int .i64 n] ∧ Blk w K 23 #[.slice A l.length c] ∧ Blk w S 22 #[.int .u64 seed] ∧ Kp lo w A l
theorem DrsH.drs {lo hi : Nat} {w : World} {D U seed n : Nat} {l : List Nat} (h : DrsH lo hi w D U seed l n) : Drs lo w D U seed l n := by
  obtain ⟨S, K, A, c, ⟨h1, _⟩, h2⟩ := h
  exact ⟨S, K, A, c, h1, h2⟩
theorem Drs.h {lo : Nat} {w : World} {D U seed n : Nat} {l : List Nat} (h : Drs lo w D U seed l n) : DrsH lo w.heap.size w D U seed l n := by
  obtain ⟨S, K, A, c, h1, hD, hU, hK, hS, hA⟩ := h
  exact ⟨S, K, A, c, ⟨h1, hD.lt, hU.lt, hS.lt, hK.lt, fun hp => by
    obtain ⟨b, off, e, _, h3, _⟩ := hA hp
    exact ⟨b, off, e, h3⟩⟩, hD, hU, hK, hS, hA⟩
theorem DrsH.below {lo hi : Nat} {w w' : World} {D U seed n : Nat} {l : List Nat} (h : DrsH lo hi w D U seed l n) (hb : Below hi w w') : DrsH lo hi w' D U seed l n := by
  obtain ⟨S, K, A, c, ⟨h1, h2, h3, h4, h5, h6⟩, hD, hU, hK, hS, hA⟩ := h
  refine ⟨S, K, A, c, ⟨h1, h2, h3, h4, h5, h6⟩, hD.below hb h2, hU.below hb h3, hK.below hb h5, hS.below hb h4, fun hp => ?_⟩
  obtain ⟨b, off, e, h7, h8, hc⟩ := hA hp
  obtain ⟨b2, off2, e2, h9⟩ := h6 hp
  rw [e] at e2
  injection e2 with e2
  injection e2 with e2 e3
  subst e2
  exact ⟨b, off, e, h7, by have := hb.size; omega, fun i u hu => (hb.cell (p := ⟨b, off + i, none⟩) h9).trans (hc i u hu)⟩
theorem DrsH.next {lo hi : Nat} {w w' : World} {D U seed n m : Nat} {l : List Nat} (h : DrsH lo hi w D U seed l n) (h' : Drs lo w' D U seed l m) (hg : w.grownBy w' (some U)) : DrsH lo hi w' D U seed l m := by
  have hU' := h'.at_.1
  obtain ⟨S, K, A, c, hlo, hD, hU0, hK, hS, hA⟩ := h
  have hne : ∀ B t cs, Blk w B t cs → t ≠ 3 → some B ≠ some U := by
    intro B t cs hb ht e
    injection e with e
    subst e
    exact ht (blk_type hb hU0)
  exact ⟨S, K, A, c, hlo, blk_grown hD hg (hne D _ _ hD (by decide)), hU', blk_grown hK hg (hne K _ _ hK (by decide)), blk_grown hS hg (hne S _ _ hS (by decide)),
    hA.grown _ hg fun g e => .inr (by injection e with e; subst e; exact ⟨_, hU0⟩)⟩

/-! ### which numbers are told -/
namespace Dw
def told (k j : Nat) : List Nat := (List.range j).map fun i => (1 + i) % k
theorem told_len (k j : Nat) : (told k j).length = j := by simp [told]
theorem told_succ (k j : Nat) : told k (j + 1) = told k j ++ [(1 + j) % k] := by simp [told, List.range_succ]
theorem told_new (k j : Nat) (hj : j < k) : (1 + j) % k ∉ told k j := by
  intro h
  obtain ⟨i, hi, he⟩ := List.mem_map.1 h
  rw [List.mem_range] at hi
  have h1 : (1 + i) % k = 1 + i := Nat.mod_eq_of_lt (by omega)
  rcases Nat.lt_or_ge (1 + j) k with h2 | h2
  · rw [h1, Nat.mod_eq_of_lt h2] at he
    omega
  · rw [h1, show 1 + j = k by omega, Nat.mod_self] at he
    omega
theorem nth_even (seed k j : Nat) (hj : j < k) (hk : k ≤ 1000) : nth seed (List.range k) (j + 1) % k = (1 + j) % k := by
  rw [nth_said _ _ _ (by rw [List.length_range]; exact hj), List.getElem_range, Nat.mod_eq_of_lt (a := j) (by omega)]
end Dw

theorem info_i64 : (Try.prog.info? 3).map (fun i => (i.zero, i.size, i.bytes)) = some (some (.int .i64 0), 1, 8) := by kernel_rfl

theorem own_rd {w : World} {B e : Nat} {A : Option Addr} {n c : Nat} {vs : List Value} (h : w.ownsRow B e 1 (.slice A n c) n vs) : Rd w.heap.size w A vs ∧ n = vs.length := by
  have hl : n = vs.length := by have := h.1; omega
  refine ⟨fun hp => ?_, hl⟩
  rcases h.2 with ⟨_, h0⟩ | ⟨g, cp, cur, hv, hg, hb, h1, h2, h3, h4⟩
  · omega
  · injection hv with hv
    subst hv
    refine ⟨g, 0, rfl, ?_, fun i u hu => ?_⟩
    · rcases Nat.lt_or_ge g w.heap.size with h5 | h5
      · exact h5
      · rw [Array.getElem?_eq_none h5] at hb; cases hb
    · rw [Nat.zero_add, cell_block hb i]
      rw [← h4, List.getElem?_take] at hu
      split at hu
      · simpa using hu
      · cases hu

theorem own_grown {w w' : World} {B e n : Nat} {v : Value} {xs : List Value} {U : Nat} (h : w.ownsRow B e 1 v n xs) (hU : U < B) (hg : w.grownBy w' (some U)) : w'.ownsRow B e 1 v n xs :=
  h.kept hg (.inr fun e => by have := (h.lt U e).1; omega)

/-! ### DrawEven -/
set_option maxRecDepth 100000 in
set_option maxHeartbeats 2000000 in
theorem even_walk (n : Int) (seed : Nat) (w : World) (hs : seed < 18446744073709551616) (hn1 : -9223372036854775808 ≤ n) (hn2 : n ≤ 9223372036854775807) :
    Calls Try.prog 8 #[.int .i64 n, .int .u64 seed] w fun e w' => e = .returned (.bool true) ∧ Below w.heap.size w w' := by
  obtain ⟨i0, hi, hz0, hz1, hz2⟩ := info_parts info_u64
  obtain ⟨i1, hi1, hy0, hy1, hy2⟩ := info_parts info_i64
  have HI := Lib.hid hi
  have HZ0 := Lib.hid hz0
  have HZ1 := Lib.hid hz1
  have HZ2 := Lib.hid hz2
  have HI1 := Lib.hid hi1
  have HY0 := Lib.hid hy0
  have HY1 := Lib.hid hy1
  have HY2 := Lib.hid hy2
  have HAR := Lib.hid (around_any n 50 w hn1 hn2 (by omega) (by omega))
  clear hi hz0 hz1 hz2 hi1 hy0 hy1 hy2 hn1 hn2
  obtain ⟨B, hB⟩ : ∃ B, B = w.heap.size := ⟨_, rfl⟩
  have HNIL := Lib.hid (World.ownsRow_nil w B 22 1)
  rw [← hB]
  have HBS := Lib.hid hB
  have HB0 := Lib.hid (Below.refl B w)
  clear hB
  go_enter Try.func8, Try.ntmps8
  go_wp2_with fail
  refine (HAR.out).mono ?_
  rintro e w1 ⟨r, hr, rfl, rfl⟩
  clear HAR
  obtain ⟨K, hK⟩ : ∃ K : Nat, K = 1 + r := ⟨_, rfl⟩
  have hK1 : (1 : Int) + (r : Int) = (K : Int) := by omega
  have hK50 : K ≤ 50 := by omega
  have hK0 : 0 < K := by omega
  clear hK hr
  go_wp2
  clear hK1
  go_loopw [6, 7] (fun o i wr => ∃ j : Nat, i = .int .i64 j ∧ j ≤ K ∧ (∃ A' c', o = .slice A' j c') ∧ wr.ownsRow B 22 1 o j (u64s (List.range j)) ∧ Below B w wr) (fun _ i _ => K - (intOf i).toNat)
  case atStart => exact ⟨0, rfl, by omega, ⟨_, _, rfl⟩, HNIL.out, HB0.out⟩
  case round =>
    obtain ⟨j, rfl, hjK, ⟨A1, c1, rfl⟩, hrow, hbel⟩ := hrel
    have HROW := Lib.hid hrow
    have HBEL := Lib.hid hbel
    have hsz := hbel.size
    have hBw : B ≤ wr.heap.size := by have := HBS.out; omega
    clear hrow hbel
    by_cases hj : j < K
    · have hwj : IntKind.u64.wrap (j : Int) = (j : Int) := by rw [IntKind.wrap_u64]; omega
      go_wp2_with (at_builtin; refine wpList_append_own _ rfl _ _ 23 rfl B 22 i0 (.int .u64 0) 1 8 Try.underlying23 HI.out HZ0.out HZ1.out HZ2.out rfl (by decide) _ _ _ rfl (HROW.out.alloc _) ⟨wr.heap.size, 0, none⟩ 1 1 [.int .u64 (j : Int)] rfl rfl (cell_one_new _ _ _) (by simp [Value.oneCell']) (by unfold maxLen; omega) (by omega) (by simp; omega) ?_; intro v' w1 hown' hgrow _; obtain ⟨g', cap', rfl⟩ := ownsRow_succ hown'; have HO := Lib.hid hown'; clear hown')
      go_roundw
      case rel =>
        refine ⟨j + 1, by go_num, hj, ⟨_, _, rfl⟩, ?_, ?_⟩
        · rw [List.range_succ, u64s_snoc]
          exact HO.out
        · have hg2 : (wr.alloc (.cells #[.int .u64 (j : Int)] 22)).grownBy w1 (Value.slice A1 j c1).ownBlock := hgrow
          exact HBEL.out.trans (((Below.refl B wr).alloc hBw _).grown hg2 (by simp; omega) (fun j e => (HROW.out.lt j e).1))
      case measure => simp [intOf]; omega
    · obtain rfl : j = K := by omega
      have hlen : j = (List.range j).length := by simp
      have hnil : A1 = none → j = 0 ∧ c1 = 0 := by
        intro e
        subst e
        rcases (HROW.out).2 with ⟨_, h5⟩ | ⟨g, cp, cur, h4, _⟩
        · omega
        · injection h4 with h7
          cases h7
      have hlt : ∀ x ∈ List.range j, x < 18446744073709551616 := fun x hx => by have := List.mem_range.1 hx; omega
      have HNEW := Lib.hid (new_any seed A1 (List.range j) j c1 wr hlen (by omega) (own_rd HROW.out).1 hnil)
      have HLEN := Lib.hid hlen
      have HLT := Lib.hid hlt
      clear hnil hlen hlt hj hjK
      go_wp2_with fail
      refine (HNEW.out).mono ?_
      rintro e w2 ⟨D, U, rfl, hU, hd, hb2⟩
      have HD := Lib.hid hd.h
      have HB2 := Lib.hid ((HBEL.out).trans (hb2.mono hBw))
      have hz2 := hb2.size
      have HLO := Lib.hid hBw
      clear HNEW hd hb2 HROW HBEL HNIL hsz hBw
      obtain ⟨lo, hlo⟩ : ∃ lo, lo = wr.heap.size := ⟨_, rfl⟩
      rw [← hlo] at HD HLO hz2
      obtain ⟨hi, hhi⟩ : ∃ hi, hi = w2.heap.size := ⟨_, rfl⟩
      have HNIL2 := Lib.hid (World.ownsRow_nil w2 hi 3 1)
      rw [← hhi] at HD hU hz2
      have HHI := Lib.hid hhi
      have HH0 := Lib.hid (Nat.le_of_eq hhi)
      have HT0 : Dw.told j 0 = [] := rfl
      have HNIL3 : w2.ownsRow hi 3 1 (.slice none 0 0) 0 (i64s (Dw.told j 0)) := HNIL2.out
      have HN3 := Lib.hid HNIL3
      clear hlo hhi HNIL2 HT0 HNIL3
      go_wp2
      go_loopw [9, 10, 11] (fun o i _ wq => ∃ k : Nat, i = .int .i64 k ∧ k ≤ j ∧ (∃ A' c', o = .slice A' k c') ∧ wq.ownsRow hi 3 1 o k (i64s (Dw.told j k)) ∧ DrsH lo hi wq D U seed (List.range j) k ∧ Below B w wq ∧ hi ≤ wq.heap.size) (fun _ i _ _ => j - (intOf i).toNat)
      case atStart => exact ⟨0, rfl, by omega, ⟨_, _, rfl⟩, HN3.out, HD.out, HB2.out, HH0.out⟩
      case round =>
        obtain ⟨k, rfl, hkj, ⟨A3, c3, rfl⟩, hrow, hdr, hq, hhw⟩ := hrel
        have HROW := Lib.hid hrow
        have HDR := Lib.hid hdr
        clear hrow hdr
        by_cases hk : k < j
        · have hnx := below_any lo D U seed k j (List.range j) wr (by simp; omega) (by omega) hs HLT.out hK0 (by omega) HDR.out.drs
          rw [Dw.nth_even seed j k hk (by omega)] at hnx
          have hnew := Dw.told_new j k hk
          have hlt := Nat.mod_lt (1 + k) hK0
          have hsucc := Dw.told_succ j k
          obtain ⟨y, hy⟩ : ∃ y : Nat, y = (1 + k) % j := ⟨_, rfl⟩
          rw [← hy] at hnx hnew hlt hsucc
          have t1 : decide ((y : Int) < 0) = false := decide_eq_false (by omega)
          have t2 : decide ((j : Int) ≤ (y : Int)) = false := decide_eq_false (by omega)
          have HNX := Lib.hid hnx
          have HNW := Lib.hid hnew
          have HSU := Lib.hid hsucc
          clear hnx hnew hsucc hy
          go_wp2_with fail
          refine (HNX.out).mono ?_
          rintro e v1 ⟨rfl, hd, hg⟩
          have hqa := below_next hq HDR.out.drs HLO.out hg
          have HDA := Lib.hid (HDR.out.next hd hg)
          have HR2 := Lib.hid (own_grown HROW.out hU hg)
          have hhv : hi ≤ v1.heap.size := Nat.le_trans hhw hg.size
          have HHAS := Lib.hid (has_not (Dw.told j k) y A3 k c3 v1 (Dw.told_len j k).symm (by omega) HNW.out (own_rd HR2.out).1)
          clear HNX hd hg HDR HROW hq hhw HNW
          go_wp2_with (first
            | (go_at_call 18; refine (HHAS.out).mono ?_; rintro e w' ⟨rfl, rfl⟩)
            | (at_builtin; refine wpList_append_own _ rfl _ _ 24 rfl hi 3 i1 (.int .i64 0) 1 8 Try.underlying24 HI1.out HY0.out HY1.out HY2.out rfl (by decide) _ _ _ rfl (HR2.out.alloc _) ⟨v1.heap.size, 0, none⟩ 1 1 [.int .i64 (y : Int)] rfl rfl (cell_one_new _ _ _) (by simp [Value.oneCell']) (by unfold maxLen; omega) (by omega) (by simp; omega) ?_; intro v' w3 hown' hgrow _; obtain ⟨g', cap', rfl⟩ := ownsRow_succ hown'; have HO := Lib.hid hown'; clear hown'))
          have hg2 : (v1.alloc (.cells #[.int .i64 (y : Int)] 3)).grownBy w3 (Value.slice A3 k c3).ownBlock := hgrow
          have hbh : Below hi v1 w3 := ((Below.refl hi v1).alloc hhv _).grown hg2 (by simp; omega) (fun j e => (HR2.out.lt j e).1)
          have hDB := (HDA.out).below hbh
          have hBh : B ≤ hi := by have := HLO.out; omega
          have hqb := hqa.trans (hbh.mono hBh)
          have hh3 : hi ≤ w3.heap.size := Nat.le_trans hhv hbh.size
          go_roundw
          case rel =>
            refine ⟨k + 1, by go_num, hk, ⟨_, _, rfl⟩, ?_, hDB, hqb, hh3⟩
            rw [HSU.out, i64s_snoc]
            exact HO.out
          case measure => simp [intOf]; omega
        · obtain rfl : k = j := by omega
          have HLV := Lib.hid (lives_any wr)
          go_wp2_with fail
          refine (HLV.out).mono ?_
          rintro e w5 ⟨rfl, hb5⟩
          have hBw : B ≤ wr.heap.size := by have := HLO.out; omega
          have hq5 := hq.trans (hb5.mono hBw)
          go_wp2
          go_ret
          exact ⟨rfl, hq5⟩

end Go.Proofs.Ytmmigancjggpgaa
