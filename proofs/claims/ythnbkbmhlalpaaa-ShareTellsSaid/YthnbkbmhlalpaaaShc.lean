/-
  slices.Grow of the nil slice and slices.Concat of two slices of numbers (the library's own text is walked): one behind the other, in memory of its own; what was there is left as it was. Up to 100,000 numbers each, the first one not empty.
-/
import Derived.Test.YthnbkbmhlalpaaaShb
import Derived.Lib.AppendZerosOnto
import Derived.Lib.SliceRun
namespace Go.Proofs.Ythnbkbmhlalpaaa
open Go.RowKit

set_option maxRecDepth 100000 in
set_option maxHeartbeats 2000000 in
theorem grow64_any (n : Nat) (w : World) (h0 : 0 < n) (hb : n ≤ 1099511627776) :
    Calls Try.prog 44 #[.slice none 0 0, .int .i64 (n : Int)] w fun e w' => ∃ cap, e = .returned (.slice (some ⟨w.heap.size, 0, none⟩) 0 cap) ∧ n ≤ cap ∧
      w'.ownsRow w.heap.size 22 1 (.slice (some ⟨w.heap.size, 0, none⟩) 0 cap) 0 [] ∧ Below w.heap.size w w' := by
  obtain ⟨i0, hi, hz0, hz1, hz2⟩ := info_parts info_u64
  have hg := grownCap_ge w (0 + n) 0 22
  have hgm := grownCap_le_maxLen w (0 + n) 0 22 (by unfold maxLen; omega)
  have hold : (Builtin.firstCells i0.size 0 (.slice none 0 0)).run Try.prog w.drew = .ok ([] : List Value).toArray w.drew := run_firstCells_none w.drew i0.size 0 0 0
  have hrz : ∀ ty, (Builtin.append_ #[23, 3] ty #[.slice none 0 0, .int .i64 (n : Int)]).run Try.prog w =
      .ok (.slice (some ⟨w.heap.size, 0, none⟩) (0 + n) (grownCap w (0 + n) 0 22)) (w.drew.alloc (.cells (([] : List Value).toArray ++ Builtin.zeroCells (Value.int .u64 0).cells n ++ Builtin.zeroCells (Value.int .u64 0).cells (grownCap w (0 + n) 0 22 - (0 + n))) 22)) := fun ty =>
    Lib.run_append_grow_zeros w 23 3 ty 22 i0 (.int .u64 0) .i64 .i64 Try.underlying23 Try.underlying3 hi hz0 none 0 0 [] hold n h0 (by rw [hz1]; decide) (by omega) (by omega) (by rw [hz2]; omega) (growslice_fits (by omega) (by rw [hz2]; omega))
  have hsz : (([] : List Value).toArray ++ Builtin.zeroCells (Value.int .u64 0).cells n ++ Builtin.zeroCells (Value.int .u64 0).cells (grownCap w (0 + n) 0 22 - (0 + n))).size = grownCap w (0 + n) 0 22 * 1 := by
    have h1 : (Value.int IntKind.u64 0).cells.size = 1 := rfl
    rw [Array.size_append, Array.size_append, size_zeroCells, size_zeroCells, h1]
    have h2 : ([] : List Value).toArray.size = 0 := rfl
    rw [h2]
    omega
  have e0 : (0 + n) = n := Nat.zero_add n
  rw [e0] at hrz hg hgm hsz
  obtain ⟨G, hG⟩ : ∃ G, G = grownCap w n 0 22 := ⟨_, rfl⟩
  rw [← hG] at hrz hg hgm hsz
  obtain ⟨cs, hcs⟩ : ∃ cs, cs = (([] : List Value).toArray ++ Builtin.zeroCells (Value.int .u64 0).cells n ++ Builtin.zeroCells (Value.int .u64 0).cells (G - n)) := ⟨_, rfl⟩
  rw [← hcs] at hrz hsz
  have h1 : ¬ ((n : Int) < 0) := by omega
  have h3 : wrap64 (n : Int) = n := by unfold wrap64; omega
  have h4 : (n : Int) > 0 := by omega
  have hG63 : G ≤ 9223372036854775807 := by unfold maxLen at hgm; omega
  have HR := Lib.hid hrz
  have HSZ := Lib.hid hsz
  have HGM := Lib.hid hgm
  have HG := Lib.hid hg
  clear hrz hsz hgm hold hcs hG hi hz0 hz1 hz2 hg e0
  go_enter Try.func44, Try.ntmps44
  go_wp2_with (at_builtin; refine Lib.wpList_append_run _ rfl _ _ _ _ rfl _ _ rfl rfl _ _ (HR.out _) ?_)
  go_ret
  refine ⟨G, rfl, by have := HG.out; omega, ?_, ?_⟩
  · exact World.ownsRow_made w.drew cs G (Nat.le_refl _) HGM.out HSZ.out
  · exact below_of_drew ((Below.refl _ w.drew).alloc (Nat.le_refl _) _)

set_option maxRecDepth 100000 in
set_option maxHeartbeats 4000000 in
theorem concat64_any (l l' : List Nat) (A A' : Option Addr) (S n c n' c' : Nat) (w : World) (h0 : 0 < n) (hb : n ≤ 100000) (hb' : n' ≤ 100000)
    (hS : Blk w S 23 #[.slice A n c, .slice A' n' c']) (hA : Pt w A n c l) (hA' : Pt w A' n' c' l') :
    Calls Try.prog 26 #[.slice (some ⟨S, 0, none⟩) 2 2] w fun e w' => (∃ z, e = .returned z ∧ Gl w.heap.size w' z (l ++ l')) ∧ Below w.heap.size w w' := by
  obtain ⟨t, ht⟩ : ∃ t : Nat, t = n + n' := ⟨_, rfl⟩
  have hti : (n : Int) + (n' : Int) = (t : Int) := by omega
  have ht0 : 0 < t := by omega
  have htb : t ≤ 200000 := by omega
  have HT := Lib.hid ht
  have HS := Lib.hid hS
  have HA := Lib.hid hA
  have HA' := Lib.hid hA'
  have hbel : Below w.heap.size w w := Below.refl _ _
  clear ht hS hA hA'
  go_enter Try.func26, Try.ntmps26
  go_wp2
  go_loopw [3, 11] (fun v i wr => ∃ k s : Nat, k ≤ 2 ∧ v = .int .i64 (s : Int) ∧ i = .int .i64 (k : Int) ∧ (k = 0 → s = 0) ∧ (k = 1 → s = n) ∧ (k = 2 → s = t) ∧ Below w.heap.size w wr) (fun _ i _ => 2 - (intOf i).toNat)
  case atStart => exact ⟨0, 0, by omega, rfl, rfl, fun _ => rfl, by omega, by omega, hbel⟩
  case round =>
    obtain ⟨k, s, hk, rfl, rfl, h1, h2, h3, hbr⟩ := hrel
    have hk3 : k = 0 ∨ k = 1 ∨ k = 2 := by omega
    rcases hk3 with rfl | rfl | rfl
    · have e := h1 rfl
      subst e
      have hc := (HS.out.below hbr HS.out.lt).cell 0
      clear h1 h2 h3 hk
      go_wp2
      go_roundw
      case rel => exact ⟨1, n, by omega, by go_num, by go_num, by omega, fun _ => rfl, by omega, hbr⟩
      case measure => simp [intOf]
    · have e := h2 rfl
      subst e
      have hc := (HS.out.below hbr HS.out.lt).cell 1
      clear h1 h2 h3 hk
      go_wp2
      go_roundw
      case rel => exact ⟨2, t, by omega, by go_num, by go_num, by omega, by omega, fun _ => rfl, hbr⟩
      case measure => simp [intOf]
    · have e := h3 rfl
      subst e
      clear h1 h2 h3 hk
      go_wp2_with fail
      refine (grow64_any s wr ht0 (by omega)).mono ?_
      rintro e w1 ⟨cap, rfl, hcap, hown, hb1⟩
      have hk1 := hbel.trans (hbr.trans (hb1.mono hbr.size))
      have hg1 : Gl w.heap.size w1 (.slice (some ⟨wr.heap.size, 0, none⟩) 0 cap) [] := Gl.base ⟨_, cap, rfl, hown⟩ hbr.size
      obtain ⟨u0, hu0⟩ : ∃ u0, u0 = Value.slice (some ⟨wr.heap.size, 0, none⟩) 0 cap := ⟨_, rfl⟩
      rw [← hu0] at hg1 ⊢
      have HW := Lib.hid hg1
      have HK1 := Lib.hid hk1
      clear hown hg1 hb1 hbr hu0 hk1
      go_wp2
      go_loopw [6, 27] (fun v i w2 => ∃ k : Nat, k ≤ 2 ∧ i = .int .i64 (k : Int) ∧ (k = 0 → Gl w.heap.size w2 v []) ∧ (k = 1 → Gl w.heap.size w2 v l) ∧ (k = 2 → Gl w.heap.size w2 v (l ++ l')) ∧ Below w.heap.size w w2) (fun _ i _ => 2 - (intOf i).toNat)
      case atStart => exact ⟨0, by omega, rfl, fun _ => HW.out, by omega, by omega, HK1.out⟩
      case round =>
        rename_i w2
        obtain ⟨k, hk, rfl, h1, h2, h3, hbr⟩ := hrel
        have hk3 : k = 0 ∨ k = 1 ∨ k = 2 := by omega
        have hsz2 := hbr.size
        rcases hk3 with rfl | rfl | rfl
        · have HR := Lib.hid (h1 rfl)
          have hc := (HS.out.below hbr HS.out.lt).cell 0
          have HP := Lib.hid (HA.out.below hbr)
          clear h1 h2 h3 hk
          go_wp2_with (at_builtin; refine wpList_app64 rfl _ _ rfl w.heap.size [] l _ A n c HR.out rfl rfl HP.out.1 HP.out.2.1 (fun e => ⟨HP.out.2.2.2 e, by have h1 := HP.out.2.2.1; have h2 := HP.out.2.2.2 e; omega⟩) (by simp; omega) hsz2 ?_; intro z w3 hg3 hb3; have HO3 := Lib.hid hg3; clear hg3)
          go_roundw
          case rel => exact ⟨1, by omega, by go_num, by omega, fun _ => HO3.out, by omega, hbr.trans hb3⟩
          case measure => simp [intOf]
        · have HR := Lib.hid (h2 rfl)
          have hc := (HS.out.below hbr HS.out.lt).cell 1
          have HP := Lib.hid (HA'.out.below hbr)
          have hlb : Hid (l.length ≤ 100000) := Lib.hid (by have := HA.out.1; omega)
          clear h1 h2 h3 hk
          go_wp2_with (at_builtin; refine wpList_app64 rfl _ _ rfl w.heap.size l l' _ A' n' c' HR.out rfl rfl HP.out.1 HP.out.2.1 (fun e => ⟨HP.out.2.2.2 e, by have h1 := HP.out.2.2.1; have h2 := HP.out.2.2.2 e; omega⟩) (by have := hlb.out; omega) hsz2 ?_; intro z w3 hg3 hb3; have HO3 := Lib.hid hg3; clear hg3)
          go_roundw
          case rel => exact ⟨2, by omega, by go_num, by omega, by omega, fun _ => HO3.out, hbr.trans hb3⟩
          case measure => simp [intOf]
        · have HR := Lib.hid (h3 rfl)
          clear h1 h2 h3 hk
          go_wp2
          go_ret
          exact ⟨⟨_, rfl, HR.out⟩, hbr⟩

end Go.Proofs.Ythnbkbmhlalpaaa
