/-
  bytes.Equal, slices.Grow of the nil slice, slices.Concat of two slices of bytes: the library's own text is walked; what was there is left as it was. Up to 2^40 bytes.
-/
import Derived.Test.YtfbakfdakmndhaaSeb
import Derived.Lib.AppendZerosOnto
import Derived.Lib.SliceRun
namespace Go.Proofs.Ytfbakfdakmndhaa
open Go.RowKit

theorem conv_rd (l : List UInt8) (A : Option Addr) (n c B : Nat) (W : World) (hn : n = l.length) (h : Rd B W A (u8s l)) :
    (convert 23 9 (.slice A n c)).run Try.prog W = .ok (.string ⟨l.toArray⟩) W := by
  rcases A with _ | a
  · have hl : l = [] := by
      cases l with
      | nil => rfl
      | cons x y =>
        obtain ⟨b, off, e, _⟩ := h (by simp [u8s])
        cases e
    subst hl
    subst hn
    exact run_convert_bytes_nil (P := Try.prog) (w := W) 23 5 Try.underlying23 Try.underlying5 0 c 9 Try.underlying9
  · rw [hn]
    refine run_convert_bytes_back (P := Try.prog) W 23 9 5 a c l Try.underlying23 Try.underlying5 Try.underlying9 fun j hj => ?_
    obtain ⟨b, off, e, _, hcl⟩ := byte_cell h hj
    injection e with e
    subst e
    rw [Addr.add_lit]
    exact hcl

theorem arr_eq (xs ys : List UInt8) : ((⟨xs.toArray⟩ : ByteArray).toList == (⟨ys.toArray⟩ : ByteArray).toList) = decide (xs = ys) := by
  rw [ByteArray.toList_eq, ByteArray.toList_eq]
  by_cases h : xs = ys
  · subst h; simp
  · rw [decide_eq_false h]
    simpa using h

set_option maxRecDepth 100000 in
set_option maxHeartbeats 1000000 in
theorem equal_any (xs ys : List UInt8) (A A' : Option Addr) (n c n' c' : Nat) (w : World) (hn : n = xs.length) (hn' : n' = ys.length) (hA : Rd w.heap.size w A (u8s xs)) (hA' : Rd w.heap.size w A' (u8s ys)) :
    Calls Try.prog 25 #[.slice A n c, .slice A' n' c'] w fun e w' => e = .returned (.bool (decide (xs = ys))) ∧ Below w.heap.size w w' := by
  have h1 := conv_rd xs A n c _ w hn hA
  have h2 := conv_rd ys A' n' c' _ w hn' hA'
  have h3 := arr_eq xs ys
  obtain ⟨s, hs⟩ : ∃ s : ByteArray, s = ⟨xs.toArray⟩ := ⟨_, rfl⟩
  obtain ⟨t, ht⟩ : ∃ t : ByteArray, t = ⟨ys.toArray⟩ := ⟨_, rfl⟩
  obtain ⟨r, hr⟩ : ∃ r : Bool, r = decide (xs = ys) := ⟨_, rfl⟩
  rw [← hs] at h1 h3
  rw [← ht] at h2 h3
  rw [← hr] at h3 ⊢
  have H3 := Lib.hid h3
  clear hs ht hr hn hn' hA hA' h3
  go_enter Try.func25, Try.ntmps25
  go_wp2
  go_ret
  exact ⟨by rw [← H3.out]; rfl, Below.refl _ _⟩

set_option maxRecDepth 100000 in
set_option maxHeartbeats 2000000 in
theorem grow_any (n : Nat) (w : World) (h0 : 0 < n) (hb : n ≤ 1099511627776) :
    Calls Try.prog 29 #[.slice none 0 0, .int .i64 (n : Int)] w fun e w' => ∃ cap, e = .returned (.slice (some ⟨w.heap.size, 0, none⟩) 0 cap) ∧ n ≤ cap ∧
      w'.ownsRow w.heap.size 5 1 (.slice (some ⟨w.heap.size, 0, none⟩) 0 cap) 0 [] ∧ Below w.heap.size w w' := by
  obtain ⟨i0, hi, hz0, hz1, hz2⟩ := info_parts info_u8
  have hg := grownCap_ge w (0 + n) 0 5
  have hgm := grownCap_le_maxLen w (0 + n) 0 5 (by unfold maxLen; omega)
  have hold : (Builtin.firstCells i0.size 0 (.slice none 0 0)).run Try.prog w.drew = .ok ([] : List Value).toArray w.drew := run_firstCells_none w.drew i0.size 0 0 0
  have hrz : ∀ ty, (Builtin.append_ #[23, 3] ty #[.slice none 0 0, .int .i64 (n : Int)]).run Try.prog w =
      .ok (.slice (some ⟨w.heap.size, 0, none⟩) (0 + n) (grownCap w (0 + n) 0 5)) (w.drew.alloc (.cells (([] : List Value).toArray ++ Builtin.zeroCells (Value.int .u8 0).cells n ++ Builtin.zeroCells (Value.int .u8 0).cells (grownCap w (0 + n) 0 5 - (0 + n))) 5)) := fun ty =>
    Lib.run_append_grow_zeros w 23 3 ty 5 i0 (.int .u8 0) .i64 .i64 Try.underlying23 Try.underlying3 hi hz0 none 0 0 [] hold n h0 (by rw [hz1]; decide) (by omega) (by omega) (by rw [hz2]; omega) (growslice_fits (by omega) (by rw [hz2]; omega))
  have hsz : (([] : List Value).toArray ++ Builtin.zeroCells (Value.int .u8 0).cells n ++ Builtin.zeroCells (Value.int .u8 0).cells (grownCap w (0 + n) 0 5 - (0 + n))).size = grownCap w (0 + n) 0 5 * 1 := by
    have h1 : (Value.int IntKind.u8 0).cells.size = 1 := rfl
    rw [Array.size_append, Array.size_append, size_zeroCells, size_zeroCells, h1]
    have h2 : ([] : List Value).toArray.size = 0 := rfl
    rw [h2]
    omega
  have e0 : (0 + n) = n := Nat.zero_add n
  rw [e0] at hrz hg hgm hsz
  obtain ⟨G, hG⟩ : ∃ G, G = grownCap w n 0 5 := ⟨_, rfl⟩
  rw [← hG] at hrz hg hgm hsz
  obtain ⟨cs, hcs⟩ : ∃ cs, cs = (([] : List Value).toArray ++ Builtin.zeroCells (Value.int .u8 0).cells n ++ Builtin.zeroCells (Value.int .u8 0).cells (G - n)) := ⟨_, rfl⟩
  rw [← hcs] at hrz hsz
  have h1 : ¬ ((n : Int) < 0) := by omega
  have h3 : wrap64 (n : Int) = n := by unfold wrap64; omega
  have h4 : (n : Int) > 0 := by omega
  have hG63 : G ≤ 9223372036854775807 := by unfold maxLen at hgm; omega
  have HR := Lib.hid hrz
  have HSZ := Lib.hid hsz
  have HGM := Lib.hid hgm
  have HG := Lib.hid hg
  clear hrz hsz hgm hold hcs hG hi hz0 hz1 hz2 hg e0
  go_enter Try.func29, Try.ntmps29
  go_wp2_with (at_builtin; refine Lib.wpList_append_run _ rfl _ _ _ _ rfl _ _ rfl rfl _ _ (HR.out _) ?_)
  go_ret
  refine ⟨G, rfl, by have := HG.out; omega, ?_, ?_⟩
  · exact World.ownsRow_made w.drew cs G (Nat.le_refl _) HGM.out HSZ.out
  · exact below_of_drew ((Below.refl _ w.drew).alloc (Nat.le_refl _) _)

end Go.Proofs.Ytfbakfdakmndhaa
