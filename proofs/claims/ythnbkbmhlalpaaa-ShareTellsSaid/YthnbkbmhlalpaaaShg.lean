/-
  The reference's Some: shares at places that are told, each once, then the first others, up to so many; what was there is left as it was. Up to a thousand shares, any number of places.
-/
import Derived.Test.YthnbkbmhlalpaaaShf
namespace Go.Proofs.Ythnbkbmhlalpaaa
open Go.RowKit

/-- The new list lies where the old one lay, or is new. -/
def Lies (w : World) (u z : Value) : Prop := ∀ k, some k = z.ownBlock → some k = u.ownBlock ∨ w.heap.size ≤ k
theorem Apart.lies {w : World} {u z b : Value} (h : Apart u b) (hl : Lies w u z) (hb : ∀ k, some k = b.ownBlock → k < w.heap.size) : Apart z b := fun k h1 h2 => by
  rcases hl k h1 with h3 | h3
  · exact h k h3 h2
  · have := hb k h2
    omega
theorem Apart.ne {a b : Value} (h : Apart a b) : b.ownBlock = none ∨ b.ownBlock ≠ a.ownBlock := by
  cases h2 : b.ownBlock with
  | none => exact .inl rfl
  | some k => exact .inr fun e => h k e h2.symm
theorem So.lt {B : Nat} {w : World} {o : Value} {l : List Shr} (h : So B w o l) : ∀ k, some k = o.ownBlock → k < w.heap.size := fun k hk => (h.2.lt k hk.symm).2
theorem Io.lt {B : Nat} {w : World} {o : Value} {l : List Nat} (h : Io B w o l) : ∀ k, some k = o.ownBlock → k < w.heap.size := fun k hk => (h.2.lt k hk.symm).2

/-- One share more; another list stays. -/
theorem wpList_pushS2 {ops : Array Oper} {rest : List Oper} {o : Oper} {a : Act} {Q : Exit → Act → World → Prop} {w : World} (hgd : o.guard = none) (s x : Operand)
    (ho : o.op = .call { callee := .builtin .append, args := #[s, x], argTypes := #[27, 27] }) (B p v : Nat) (L : List Shr) (u : Value) (hg : So B w u L) (hs : a.eval s = u) (hx : a.eval x = .slice (some ⟨w.heap.size, 0, none⟩) 1 1) (hk : L.length ≤ 1000000000) (hB : B ≤ w.heap.size)
    (h : ∀ z w1, So B w1 z (L ++ [⟨p, v⟩]) → w.grownBy w1 u.ownBlock → Lies w u z → Below B w w1 → wpList Try.prog ops Q rest (a.put o.dst z) w1) : wpList Try.prog ops Q (o :: rest) a (w.alloc (.cells #[.int .u64 (p : Int), .int .u64 (v : Int)] 33)) := by
  obtain ⟨i0, hi, hz0, hz1, hz2⟩ := info_parts info_share
  obtain ⟨⟨A, c, rfl⟩, hrow⟩ := hg
  refine wpList_append_lies _ hgd s x 27 ho B 33 i0 (.agg #[.int .u64 0, .int .u64 0]) 2 16 Try.underlying27 hi hz0 hz1 hz2 rfl (by decide) _ _ _ hs (hrow.alloc _) ⟨w.heap.size, 0, none⟩ 1 1 [.int .u64 (p : Int), .int .u64 (v : Int)] hx rfl (cell_two_new _ _ _ _) (by simp [Value.oneCell']) (by omega) (by unfold maxLen; omega) (by omega) (by simp; omega) _ rfl ?_
  intro g cap w1 hown hgrow hat hlt
  have hg2 : w.grownBy w1 (Value.slice A L.length c).ownBlock := ⟨hgrow.os, hgrow.tape, hgrow.output, Nat.le_trans (by simp) hgrow.size, fun i hi hne => (hgrow.block i (by simp; omega) hne).trans (Below.heap_alloc w _ i hi)⟩
  refine h _ w1 ⟨⟨_, cap, by rw [List.length_append]; rfl⟩, by rw [shs_snoc, List.length_append]; exact hown⟩ hg2 (fun k hk1 => ?_) ?_
  · have e : k = g := by injection hk1
    subst e
    rcases hat with h1 | h1
    · exact .inl h1.symm
    · right; rw [h1]; simp
  · exact (Below.refl B w).grown hg2 hB (fun j e => (hrow.lt j e).1)
/-- One integer more; another list stays. -/
theorem wpList_pushI {ops : Array Oper} {rest : List Oper} {o : Oper} {a : Act} {Q : Exit → Act → World → Prop} {w : World} (hgd : o.guard = none) (s x : Operand)
    (ho : o.op = .call { callee := .builtin .append, args := #[s, x], argTypes := #[31, 31] }) (B v : Nat) (L : List Nat) (u : Value) (hg : Io B w u L) (hs : a.eval s = u) (hx : a.eval x = .slice (some ⟨w.heap.size, 0, none⟩) 1 1) (hk : L.length ≤ 1000000000) (hB : B ≤ w.heap.size)
    (h : ∀ z w1, Io B w1 z (L ++ [v]) → w.grownBy w1 u.ownBlock → Lies w u z → Below B w w1 → wpList Try.prog ops Q rest (a.put o.dst z) w1) : wpList Try.prog ops Q (o :: rest) a (w.alloc (.cells #[.int .i64 (v : Int)] 3)) := by
  obtain ⟨i0, hi, hz0, hz1, hz2⟩ := info_parts info_int
  obtain ⟨⟨A, c, rfl⟩, hrow⟩ := hg
  refine wpList_append_lies _ hgd s x 31 ho B 3 i0 (.int .i64 0) 1 8 Try.underlying31 hi hz0 hz1 hz2 rfl (by decide) _ _ _ hs (hrow.alloc _) ⟨w.heap.size, 0, none⟩ 1 1 [.int .i64 (v : Int)] hx rfl (cell_one_new _ _ _) (by simp [Value.oneCell']) (by omega) (by unfold maxLen; omega) (by omega) (by simp; omega) _ rfl ?_
  intro g cap w1 hown hgrow hat hlt
  have hg2 : w.grownBy w1 (Value.slice A L.length c).ownBlock := ⟨hgrow.os, hgrow.tape, hgrow.output, Nat.le_trans (by simp) hgrow.size, fun i hi hne => (hgrow.block i (by simp; omega) hne).trans (Below.heap_alloc w _ i hi)⟩
  refine h _ w1 ⟨⟨_, cap, by rw [List.length_append]; rfl⟩, by rw [nats_snoc, List.length_append]; exact hown⟩ hg2 (fun k hk1 => ?_) ?_
  · have e : k = g := by injection hk1
    subst e
    rcases hat with h1 | h1
    · exact .inl h1.symm
    · right; rw [h1]; simp
  · exact (Below.refl B w).grown hg2 hB (fun j e => (hrow.lt j e).1)

namespace Sr
/-- What the first loop has: places that are told. -/
def Had (n most : Nat) (ks : List Nat) : Prop := ks.Nodup ∧ (∀ k ∈ ks, k < n) ∧ ks.length ≤ most
theorem Had.nil (n most : Nat) : Had n most [] := ⟨by simp, by simp, Nat.zero_le _⟩
theorem Had.snoc {n most : Nat} {ks : List Nat} {r : Nat} (h : Had n most ks) (hr : r < n) (hno : r ∉ ks) (hl : ks.length < most) : Had n most (ks ++ [r]) := by
  refine ⟨?_, fun k hk => ?_, by rw [List.length_append, List.length_singleton]; omega⟩
  · rw [List.nodup_append]
    refine ⟨h.1, by simp, fun a ha b hb => ?_⟩
    rw [List.mem_singleton.1 hb]
    intro e
    subst e
    exact hno ha
  · rcases List.mem_append.1 hk with h1 | h1
    · exact h.2.1 k h1
    · rw [List.mem_singleton.1 h1]; exact hr
/-- What the second loop has: of the first k all that could be had. -/
def Got (n most : Nat) (ks es : List Nat) (k : Nat) : Prop := Had n most (ks ++ es) ∧ (∀ j ∈ es, j < k) ∧ ∀ j, j < k → j ∈ ks ++ es
theorem Got.zero {n most : Nat} {ks : List Nat} (h : Had n most ks) : Got n most ks [] 0 := ⟨by rw [List.append_nil]; exact h, by simp, fun j hj => absurd hj (Nat.not_lt_zero j)⟩
theorem Got.skip {n most k : Nat} {ks es : List Nat} (h : Got n most ks es k) (hk : k ∈ ks) : Got n most ks es (k + 1) :=
  ⟨h.1, fun j hj => Nat.lt_succ_of_lt (h.2.1 j hj), fun j hj => by
    rcases Nat.lt_or_ge j k with h1 | h1
    · exact h.2.2 j h1
    · obtain rfl : j = k := by omega
      exact List.mem_append.2 (.inl hk)⟩
theorem Got.more {n most k : Nat} {ks es : List Nat} (h : Got n most ks es k) (hk : k ∉ ks) (hn : k < n) (hl : (ks ++ es).length < most) : Got n most ks (es ++ [k]) (k + 1) := by
  refine ⟨?_, fun j hj => ?_, fun j hj => ?_⟩
  · rw [← List.append_assoc]
    refine h.1.snoc hn (fun hm => ?_) hl
    rcases List.mem_append.1 hm with h1 | h1
    · exact hk h1
    · exact absurd (h.2.1 k h1) (Nat.lt_irrefl k)
  · rcases List.mem_append.1 hj with h1 | h1
    · exact Nat.lt_succ_of_lt (h.2.1 j h1)
    · rw [List.mem_singleton.1 h1]; exact Nat.lt_succ_self k
  · rw [← List.append_assoc]
    rcases Nat.lt_or_ge j k with h1 | h1
    · exact List.mem_append.2 (.inl (h.2.2 j h1))
    · obtain rfl : j = k := by omega
      exact List.mem_append.2 (.inr (List.mem_singleton.2 rfl))
theorem Had.le {n most : Nat} {ks : List Nat} (h : Had n most ks) : ks.length ≤ n := by
  have h1 := h.1.length_le_of_subset (l₂ := List.range n) fun k hk => List.mem_range.2 (h.2.1 k hk)
  rwa [List.length_range] at h1
theorem Got.some {n most k : Nat} {ks es : List Nat} {l : List Shr} (h : Got n most ks es k) (hn : n = l.length) (he : k = n ∨ (ks ++ es).length = most) : Some l most (At l (ks ++ es)) := by
  subst hn
  refine ⟨ks ++ es, h.1.1, h.1.2.1, ?_, rfl⟩
  have h1 := h.1.le
  have h2 := h.1.2.2
  rcases he with rfl | e
  · have h3 := (List.nodup_range (n := l.length)).length_le_of_subset (l₂ := ks ++ es) fun j hj => h.2.2 j (List.mem_range.1 hj)
    rw [List.length_range] at h3
    omega
  · omega
theorem At_small {l : List Shr} (h : Sm64 l) {ks : List Nat} (hk : ∀ k ∈ ks, k < l.length) : Sm64 (At l ks) := fun s hs => h s (at_mem hk hs)
end Sr

set_option maxRecDepth 100000 in
set_option maxHeartbeats 8000000 in
theorem some_any (A A2 : Option Addr) (n c m c2 most : Nat) (l : List Shr) (is : List Int) (w : World) (hA : St w A n c l) (hI : Iz w A2 m is) (hn : n ≤ 1000) (hn0 : 0 < n) (hmost : most ≤ 1000) :
    Calls Try.prog 21 #[.slice A n c, .slice A2 m c2, .int .i64 (most : Int)] w fun e w' => (∃ z L, e = .returned z ∧ So w.heap.size w' z L ∧ Sr.Some l most L) ∧ Below w.heap.size w w' := by
  have HA := Lib.hid hA
  have HI := Lib.hid hI
  have HL := Lib.hid hA.len
  have hmb : (m : Int) ≤ 9223372036854775807 := by have := hI.2.1; omega
  have HAR := Lib.hid (fun (z : Int) (W : World) (h1 : -9223372036854775808 ≤ z) (h2 : z ≤ 9223372036854775807) => around_any z n W h1 h2 hn0 (by omega))
  have q0 : (0 : Int) < (n : Int) := by omega
  clear hA hI
  go_enter Try.func21, Try.ntmps21
  go_wp2
  go_loopw [7, 8, 9] (fun o o2 i wr => ∃ (k : Nat) (ks : List Nat), i = .int .i64 (k : Int) ∧ k ≤ m ∧ Sr.Had n most ks ∧ So w.heap.size wr o (Sr.At l ks) ∧ Io w.heap.size wr o2 ks ∧ Apart o o2 ∧ Below w.heap.size w wr) (fun _ _ i _ => m - (intOf i).toNat)
  case atStart => exact ⟨0, [], rfl, Nat.zero_le _, Sr.Had.nil _ _, So.nil _ _, Io.nil _ _, Apart.none_left _, Below.refl _ _⟩
  case round =>
    obtain ⟨i, ks, rfl, hi, hhad, hso, hio, hap, hb⟩ := hrel
    obtain ⟨q, hq⟩ : ∃ q, q = ks.length := ⟨_, rfl⟩
    obtain ⟨A3, c3, e3⟩ := hso.1
    rw [Sr.At_len, ← hq] at e3
    subst e3
    obtain ⟨A4, c4, e4⟩ := hio.1
    rw [← hq] at e4
    subst e4
    have HHAD := Lib.hid hhad
    have HSO := Lib.hid hso
    have HIO := Lib.hid hio
    have HAP := Lib.hid hap
    have HB := Lib.hid hb
    have HQ := Lib.hid hq
    have hqm : q ≤ 1000 := by have := hhad.2.2; omega
    have hsz := hb.size
    clear hhad hso hio hap hb hq
    by_cases hc : i < m ∧ q < most
    · obtain ⟨h1, h2⟩ := hc
      obtain ⟨z, hz⟩ : ∃ z, is[i]? = some z := ⟨is[i]'(by have := HI.out.1; omega), List.getElem?_eq_getElem _⟩
      have hzb := HI.out.2.2.1 z (List.mem_of_getElem? hz)
      obtain ⟨b, off, rfl, hbb, hc⟩ := HI.out.2.2.2 (by rw [ints_len, ← HI.out.1]; omega)
      have r1 := (HB.out.cell (p := ⟨b, off + i, none⟩) hbb).trans (hc i (.int .i64 z) (by unfold ints; rw [List.getElem?_map, hz]; rfl))
      have har := Lib.hid (fun W => HAR.out z W hzb.1 hzb.2)
      have q1 : (i : Int) < (m : Int) := by omega
      clear hc hz hzb
      go_wp2_with fail
      refine (har.out _).mono ?_
      rintro e w1 ⟨r, hr, rfl, rfl⟩
      have HR := Lib.hid hr
      obtain ⟨b2, hb2⟩ : ∃ b2, b2 = decide (r ∈ ks) := ⟨_, rfl⟩
      have hrd : Rd wr.heap.size wr A4 (nats ks) := by
        obtain ⟨A5, c5, e5, h5⟩ := HIO.out.rd
        injection e5 with e5
        subst e5
        exact h5
      have HAS := Lib.hid (has_any A4 q c4 r ks wr HQ.out hrd (by omega) b2 hb2)
      have HB2 := Lib.hid hb2
      clear hb2 hrd har r1
      go_wp2_with fail
      refine (HAS.out).mono ?_
      rintro e w1 ⟨rfl, rfl⟩
      clear HAS
      cases b2 with
      | true =>
        go_wp2
        go_roundw
        case rel => exact ⟨i + 1, ks, by go_num, h1, HHAD.out, HSO.out, HIO.out, HAP.out, HB.out⟩
        case measure => simp [intOf]; omega
      | false =>
        have hno : r ∉ ks := by simpa using HB2.out.symm
        obtain ⟨s, hs⟩ : ∃ s, l[r]? = some s := ⟨l[r]'(by have := HL.out; omega), List.getElem?_eq_getElem _⟩
        obtain ⟨b3, off3, rfl, hbb3, -, g1, g2⟩ := HA.out.spot hs
        have hat : Sr.At l (ks ++ [r]) = Sr.At l ks ++ [s] := by rw [Sr.At_snoc, hs]; rfl
        obtain ⟨a, v⟩ := s
        have HNO := Lib.hid (HHAD.out.snoc HR.out hno (by rw [← HQ.out]; exact h2))
        have HAT := Lib.hid hat
        have G1 := Lib.hid g1
        have G2 := Lib.hid g2
        have hlk : ks.length ≤ 1000000000 := by rw [← HQ.out]; omega
        have HLK := Lib.hid hlk
        have HLS := Lib.hid (show (Sr.At l ks).length ≤ 1000000000 by rw [Sr.At_len]; exact hlk)
        have tok1 : True := trivial
        have q2 : (r : Int) < (n : Int) := by omega
        have q3 : (0 : Int) ≤ (r : Int) := by omega
        clear hs hno hat g1 g2 hlk
        go_wp2_with (first
          | (at_builtin; have _t := tok1; refine wpList_pushI rfl _ _ rfl w.heap.size r _ _ HIO.out rfl rfl HLK.out hsz ?_; intro z1 w2 hz1 hgr1 hl1 hb1; have HZ1 := Lib.hid hz1; have HSO2 := Lib.hid (HSO.out.kept hgr1 HAP.out.symm.ne); have HAP2 := Lib.hid (HAP.out.symm.lies hl1 HSO.out.lt); have HBB := Lib.hid (HB.out.trans hb1); have r3 := (HBB.out.cell (p := ⟨b3, off3 + r * 2, none⟩) hbb3).trans G1.out; have r4 := (HBB.out.cell (p := ⟨b3, off3 + r * 2 + 1, none⟩) hbb3).trans G2.out; have hsz2 := HBB.out.size; have tok2 : True := trivial; clear tok1 hz1 hgr1 hl1 hb1 hsz HIO HSO)
          | (at_builtin; have _t := tok2; refine wpList_pushS2 rfl _ _ rfl w.heap.size a v _ _ HSO2.out rfl rfl HLS.out hsz2 ?_; intro z2 w3 hz2 hgr2 hl2 hb2; have HZ2 := Lib.hid hz2; have HZ3 := Lib.hid (HZ1.out.kept hgr2 HAP2.out.symm.ne); have HAP3 := Lib.hid (HAP2.out.symm.lies hl2 HZ1.out.lt); have HB3 := Lib.hid (HBB.out.trans hb2); clear tok2 hz2 hgr2 hl2 hb2 r3 r4))
        go_roundw
        case rel => exact ⟨i + 1, ks ++ [r], by go_num, h1, HNO.out, by rw [HAT.out]; exact HZ2.out, HZ3.out, HAP3.out, HB3.out⟩
        case measure => simp [intOf]; omega
    · have hc2 : ∃ b1 b2 : Bool, decide (i < m) = b1 ∧ decide (q < most) = b2 ∧ (b1 = false ∨ (b1 = true ∧ b2 = false)) := by
        refine ⟨_, _, rfl, rfl, ?_⟩
        simp only [decide_eq_false_iff_not, decide_eq_true_eq]
        omega
      obtain ⟨b1, b2, B1, B2, hc2⟩ := hc2
      clear hc
      rcases hc2 with rfl | ⟨rfl, rfl⟩
      all_goals
        go_wp2
        go_loopw [7, 11] (fun o i w2 => ∃ (k : Nat) (es : List Nat), i = .int .i64 (k : Int) ∧ k ≤ n ∧ Sr.Got n most ks es k ∧ So w.heap.size w2 o (Sr.At l (ks ++ es)) ∧ Io w.heap.size w2 (.slice A4 q c4) ks ∧ Apart o (.slice A4 q c4) ∧ Below w.heap.size w w2) (fun _ i _ => n - (intOf i).toNat)
        case atStart => exact ⟨0, [], rfl, Nat.zero_le _, Sr.Got.zero HHAD.out, by rw [List.append_nil]; exact HSO.out, HIO.out, HAP.out, HB.out⟩
        case round =>
          obtain ⟨k, es, rfl, hk, hgot, hso, hio, hap, hb⟩ := hrel
          obtain ⟨p, hp⟩ : ∃ p, p = (ks ++ es).length := ⟨_, rfl⟩
          obtain ⟨A5, c5, e5⟩ := hso.1
          rw [Sr.At_len, ← hp] at e5
          subst e5
          have HGOT := Lib.hid hgot
          have HSO2 := Lib.hid hso
          have HIO2 := Lib.hid hio
          have HAP2 := Lib.hid hap
          have HB2 := Lib.hid hb
          have HP := Lib.hid hp
          have hpm : p ≤ 1000 := by have := hgot.1.2.2; omega
          have hsz3 := hb.size
          clear hgot hso hio hap hb hp HSO HIO HAP HB B1 B2
          by_cases hc : k < n ∧ p < most
          · obtain ⟨h1, h2⟩ := hc
            obtain ⟨bb, hbb⟩ : ∃ bb, bb = decide (k ∈ ks) := ⟨_, rfl⟩
            have hrd : Rd wr.heap.size wr A4 (nats ks) := by
              obtain ⟨A6, c6, e6, h6⟩ := HIO2.out.rd
              injection e6 with e6
              subst e6
              exact h6
            have HAS := Lib.hid (has_any A4 q c4 k ks wr HQ.out hrd (by omega) bb hbb)
            have HBB := Lib.hid hbb
            clear hbb hrd
            go_wp2_with fail
            refine (HAS.out).mono ?_
            rintro e w1 ⟨rfl, rfl⟩
            clear HAS
            cases bb with
            | true =>
              have hin : k ∈ ks := by simpa using HBB.out.symm
              have HIN := Lib.hid (HGOT.out.skip hin)
              clear hin
              go_wp2
              go_roundw
              case rel => exact ⟨k + 1, es, by go_num, h1, HIN.out, HSO2.out, HIO2.out, HAP2.out, HB2.out⟩
              case measure => simp [intOf]; omega
            | false =>
              have hno : k ∉ ks := by simpa using HBB.out.symm
              obtain ⟨s, hs⟩ : ∃ s, l[k]? = some s := ⟨l[k]'(by have := HL.out; omega), List.getElem?_eq_getElem _⟩
              obtain ⟨b3, off3, rfl, hbb3, -, g1, g2⟩ := HA.out.spot hs
              have hat : Sr.At l (ks ++ (es ++ [k])) = Sr.At l (ks ++ es) ++ [s] := by rw [← List.append_assoc, Sr.At_snoc, hs]; rfl
              obtain ⟨a, v⟩ := s
              have HNO := Lib.hid (HGOT.out.more hno h1 (by rw [← HP.out]; exact h2))
              have HAT := Lib.hid hat
              have r3 := (HB2.out.cell (p := ⟨b3, off3 + k * 2, none⟩) hbb3).trans g1
              have r4 := (HB2.out.cell (p := ⟨b3, off3 + k * 2 + 1, none⟩) hbb3).trans g2
              have HLS := Lib.hid (show (Sr.At l (ks ++ es)).length ≤ 1000000000 by rw [Sr.At_len, ← HP.out]; omega)
              have q2 : (k : Int) < (n : Int) := by omega
              have q3 : (0 : Int) ≤ (k : Int) := by omega
              clear hs hno hat g1 g2
              go_wp2_with (at_builtin; refine wpList_pushS2 rfl _ _ rfl w.heap.size a v _ _ HSO2.out rfl rfl HLS.out hsz3 ?_; intro z2 w3 hz2 hgr2 hl2 hb2; have HZ2 := Lib.hid hz2; have HZ3 := Lib.hid (HIO2.out.kept hgr2 HAP2.out.ne); have HAP3 := Lib.hid (HAP2.out.lies hl2 HIO2.out.lt); have HB3 := Lib.hid (HB2.out.trans hb2); clear hz2 hgr2 hl2 hb2 r3 r4)
              go_roundw
              case rel => exact ⟨k + 1, es ++ [k], by go_num, h1, HNO.out, by rw [HAT.out]; exact HZ2.out, HZ3.out, HAP3.out, HB3.out⟩
              case measure => simp [intOf]; omega
          · have hend : k = n ∨ (ks ++ es).length = most := by
              have h1 := HGOT.out.1.2.2
              have h2 := HP.out
              rcases Nat.lt_or_ge k n with h3 | h3
              · right
                rw [← h2] at h1 ⊢
                omega
              · left; omega
            have HS := Lib.hid (HGOT.out.some HL.out hend)
            have hc2 : ∃ b1 b2 : Bool, decide (k < n) = b1 ∧ decide (p < most) = b2 ∧ (b1 = false ∨ (b1 = true ∧ b2 = false)) := by
              refine ⟨_, _, rfl, rfl, ?_⟩
              simp only [decide_eq_false_iff_not, decide_eq_true_eq]
              omega
            obtain ⟨b1, b2, B1, B2, hc2⟩ := hc2
            clear hc hend
            rcases hc2 with rfl | ⟨rfl, rfl⟩
            all_goals
              go_wp2
              go_ret
              exact ⟨⟨_, _, rfl, HSO2.out, HS.out⟩, HB2.out⟩

end Go.Proofs.Ythnbkbmhlalpaaa
