/-
  The library's AppendSeq over package hash's words, and package hash's Bytes: the sum of a label and bytes, as the chapter says it; what was there is left as it was. For every label and up to 2^40 bytes.
-/
import Derived.Test.YtdiacpadbndncaaOf
import Derived.Maps.OwnIn
import Derived.Maps.AppendAt
import Derived.RangeFuncBox
import Derived.IntWalk
import Derived.Laws.MakeOwn
namespace Go.Proofs.Ytdiacpadbndncaa
open Go.RowKit Go.Shelf
attribute [local go_sem] Oper.semAt_some

theorem info_u64 : (Try.prog.info? 22).map (fun i => (i.zero, i.size, i.bytes)) = some (some (.int .u64 0), 1, 8) := by kernel_rfl
theorem u64s_snoc (l : List Nat) (x : Nat) : u64s (l ++ [x]) = u64s l ++ [.int .u64 (x : Int)] := by simp [u64s]

set_option maxRecDepth 100000 in
set_option maxHeartbeats 2000000 in
theorem appendseq_any (xs : List UInt8) (A : Option Addr) (m c Bn g₀ cap n₁ : Nat) (w : World) (hm : m = xs.length) (hmc : m ≤ c) (hs : m ≤ 1099511627776)
    (hc : w.cell? ⟨Bn, 0, none⟩ = some (.slice A m c)) (hBn : n₁ ≤ Bn) (hBg : Bn ≠ g₀) (hBw : Bn < w.heap.size) (hg0 : n₁ ≤ g₀) (hnw : n₁ ≤ w.heap.size)
    (hA : Rd n₁ w A (u8s xs)) (hv : w.ownsRow n₁ 22 1 (.slice (some ⟨g₀, 0, none⟩) 0 cap) 0 []) :
    Calls Try.prog 48 #[.slice (some ⟨g₀, 0, none⟩) 0 cap, .func (.func 56) #[] #[.pointer (some ⟨Bn, 0, none⟩)]] w fun e w' =>
      ∃ g' cap', e = .returned (.slice (some ⟨g', 0, none⟩) (Hsh.sevens m) cap') ∧ w'.ownsRow n₁ 22 1 (.slice (some ⟨g', 0, none⟩) (Hsh.sevens m) cap') (Hsh.sevens m) (u64s (Hsh.words xs)) ∧ Below n₁ w w' := by
  obtain ⟨i0, hi, hz0, hz1, hz2⟩ := info_parts info_u64
  have HC := Lib.hid hc
  have HA := Lib.hid hA
  have HM := Lib.hid hm
  have HV := Lib.hid hv
  have HI := Lib.hid hi
  have HZ0 := Lib.hid hz0
  have HZ1 := Lib.hid hz1
  have HZ2 := Lib.hid hz2
  clear hc hA hm hv hi hz0 hz1 hz2
  refine (callsIn_wide (n := 3)).1 ?_
  refine callsIn_of_wp_marks Try.func48 rfl trivial ?_ rfl
  simp only [Try.ntmps48, List.size_toArray, List.length_cons, List.length_nil, Nat.reduceAdd, Nat.reduceSub, Array.replicate_succ, Array.replicate_zero, List.push_toArray, List.append_toArray, List.nil_append, List.cons_append]
  gi_wp2
  obtain ⟨n₀, hn0⟩ : ∃ n₀, n₀ = w.heap.size := ⟨_, rfl⟩
  have hbox := Boxed.new w 26 (.slice (some ⟨g₀, 0, none⟩) 0 cap)
  have hown := HV.out.alloc (.cells #[.slice (some ⟨g₀, 0, none⟩) 0 cap] 26)
  have hbel0 : Below n₁ w (w.alloc (.cells #[.slice (some ⟨g₀, 0, none⟩) 0 cap] 26)) := (Below.refl _ w).alloc hnw _
  have hcb := cell_alloc_l (.cells #[.slice (some ⟨g₀, 0, none⟩) 0 cap] 26) HC.out
  have hsz : (w.alloc (.cells #[.slice (some ⟨g₀, 0, none⟩) 0 cap] 26)).heap.size = w.heap.size + 1 := by simp
  obtain ⟨wb, hwb⟩ : ∃ wb, wb = w.alloc (.cells #[.slice (some ⟨g₀, 0, none⟩) 0 cap] 26) := ⟨_, rfl⟩
  rw [← hwb] at hbox hown hbel0 hcb hsz ⊢
  rw [← hn0] at hbox hsz hBw hnw ⊢
  have HN0 := Lib.hid hn0
  clear hwb hn0
  have hg1 : n₁ ≤ n₀ := hnw
  refine wpIn_rangeFunc_ownF rfl (by omega) (gf := 56) (lb := #[.pointer (some ⟨Bn, 0, none⟩)]) rfl trivial (enters_of Try.func56 (by kernel_rfl) rfl)
    (words_bytes_stops (3 - 1) (by omega) Bn g₀ n₀ n₁ xs A m c HM.out hmc (by omega) wb hBw hBg hg1 hg0 (by omega) (by omega) hcb (HA.out.below hbel0)) KeepsBut.trans (keepsBut_b (by omega)) (Below.refl _ _) (fun _ => rfl)
    (fun pre W => (∃ v, Boxed W n₀ 26 v ∧ W.ownsRow n₁ 22 1 v pre.length (u64s (pre.map Wd.val)) ∧ (v.ownBlock = some g₀ ∨ ∃ g, v.ownBlock = some g ∧ n₀ ≤ g)) ∧ (Below n₁ w W ∧ n₀ + 1 ≤ W.heap.size))
    (fun _ _ _ => False)
    (OwnFrom.and (Own.from (holdsRow_own n₁ n₀ 26 22 1 (fun pre : List Wd => pre.length) (fun pre => u64s (pre.map Wd.val)) (fun _ v => v.ownBlock = some g₀ ∨ ∃ g, v.ownBlock = some g ∧ n₀ ≤ g)) _)
      (OwnFrom.and (ownFrom_below (by rw [← HN0.out]; exact hnw) (by omega)) (fun _ _ _ _ h hg _ => Nat.le_trans h hg.size)))
    (fun _ _ _ _ _ hs _ _ => hs)
    ⟨⟨_, hbox, hown, .inl rfl⟩, hbel0, by omega⟩
    (fun x => { tmps := #[.slice (some ⟨g₀, 0, none⟩) 0 cap, .func (.func 56) #[] #[.pointer (some ⟨Bn, 0, none⟩)], .pointer (some ⟨n₀, 0, none⟩), undef, .slice none 0 0, .int .u64 (x.val : Int),
      .func (.func 56) #[] #[.pointer (some ⟨Bn, 0, none⟩)], .int .u64 (x.val : Int), undef, undef, undef, undef, undef], defers := [] }) ?assign ?body ?done ?stop
  case assign =>
    intro l x W K hK
    unfold Wd.enc
    gi_wp2
    exact hK
  case body =>
    rintro l pre x W ⟨⟨v, hv, hrow, hvb⟩, hbel, hsiz⟩ hlen
    have hcell := hv.cell
    have hfr := hv.frozen
    have hi := HI.out
    have hz0 := HZ0.out
    have hz1 := HZ1.out
    have hz2 := HZ2.out
    have hpl : pre.length ≤ 157073090000 := by unfold Hsh.sevens at hlen; omega
    have HROW := Lib.hid hrow
    have HVB := Lib.hid hvb
    clear hrow hvb
    have hle : n₁ ≤ W.heap.size := by omega
    gi_wp2_with (first
      | (gi_at_builtin; refine wpListIn_append_own_at _ rfl _ _ 26 rfl n₁ 22 i0 (.int .u64 0) 1 8 Try.underlying26 hi hz0 hz1 hz2 rfl (by decide) _ _ _ rfl (HROW.out.alloc _) ⟨W.heap.size, 0, none⟩ 1 1 [.int .u64 (x.val : Int)] rfl rfl (cell_one_new _ _ _) (by simp [Value.oneCell']) (by unfold maxLen; omega) (by omega) (by simp; omega) ?_; intro v' w1 hown' hgrow _ hlies; obtain ⟨g', cap', rfl⟩ := ownsRow_succ hown'; obtain ⟨hv1, hv2, hr2, hk2, hb2⟩ := hv.appended (by decide) HROW.out hle (by omega) hown' hgrow; have hc1 := hv1.cell; have hf1 := hv1.frozen))
    have hgrow' : (W.alloc (.cells #[.int .u64 (x.val : Int)] 22)).grownBy w1 v.ownBlock := hgrow
    have hlies' : some g' = v.ownBlock ∨ some g' = some (W.alloc (.cells #[.int .u64 (x.val : Int)] 22)).heap.size := hlies
    have hvb := HVB.out
    refine ⟨hk2, ?_, ⟨_, hv2, ?_, ?_⟩, hbel.trans hb2, ?_⟩
    · intro k hk hne
      refine (Below.heap_setCell w1 ⟨n₀, 0, none⟩ _ k (by show k ≠ n₀; omega)).trans ((hgrow'.block k (by simp; omega) fun e => ?_).trans (Below.heap_alloc W _ k (by omega)))
      rcases hvb with h | ⟨g, h, hg⟩
      · rw [h] at e; injection e with e; exact hne e
      · rw [h] at e; injection e with e; omega
    · rw [List.length_append, List.map_append, List.map_cons, List.map_nil, u64s_snoc]
      exact hr2
    · rcases hlies' with h | h
      · show some g' = _ ∨ ∃ g, some g' = some g ∧ n₀ ≤ g
        rw [h]
        exact hvb
      · injection h with h
        exact .inr ⟨g', rfl, by rw [h]; simp; omega⟩
    · have h1 := hgrow'.size
      simp only [World.size_alloc] at h1
      show n₀ + 1 ≤ (w1.setCell _ _).heap.size
      simp only [World.setCell, Array.size_modify]
      omega
  case done =>
    rintro D ys W hD rfl ⟨⟨v, hv, hrow, hvb⟩, hbel, hsiz⟩ hK
    rw [Hsh.uptoW_val, Hsh.uptoW_len] at hrow
    have hwd : Hsh.upto xs (Hsh.sevens m) = Hsh.words xs := by unfold Hsh.words; rw [HM.out]
    rw [hwd] at hrow
    obtain ⟨g', cap', rfl⟩ : ∃ g' cap', v = .slice (some ⟨g', 0, none⟩) (Hsh.sevens m) cap' := by
      rcases hrow.2 with ⟨rfl, _⟩ | ⟨g, cp, _, rfl, _⟩
      · rcases hvb with h | ⟨g, h, _⟩ <;> cases h
      · exact ⟨g, cp, rfl⟩
    have hcell := hv.cell
    have HROW := Lib.hid hrow
    have HK := Lib.hid hK
    clear hrow hvb hwd hK
    gi_wp2
    refine ⟨by simp, .inl ⟨_, _, rfl, run_takeDeferred HK.out, ?_⟩⟩
    refine ⟨_, results_tmp rfl _ _ _, g', cap', rfl, ownsRow_putObj HROW.out _ HK.out rfl, ?_⟩
    exact hbel.trans (belowK_b (w := wb) (by omega) W D _ _ hD HK.out rfl rfl)
  case stop =>
    rintro D c pre W _ _ h _
    exact h.elim

theorem make_u64 (q : Nat) (hq : q ≤ 1099511627776) : ∃ cur : Array Value, cur.size = q * 1 ∧
    ∀ W : World, (Instr.makeSlice 26 (.int .i64 0) (.int .i64 (q : Int))).run Try.prog W = .ok (.slice (some ⟨W.heap.size, 0, none⟩) 0 q) (W.alloc (.cells cur 22)) := by
  obtain ⟨i0, hi, hz0, hz1, hz2⟩ := info_parts info_u64
  refine ⟨madeCells #[.int .u64 0] (q * 1), size_madeCells _ _, fun W => ?_⟩
  have h := run_make (P := Try.prog) W 26 22 i0 (.int .u64 0) Try.underlying26 hi hz0 .i64 .i64 0 (q : Int) (by omega) (by omega) (by rw [hz2]; omega) (by omega)
  rw [hz1] at h
  exact h

theorem words_bytes_call (A : Option Addr) (m c : Nat) (w : World) :
    Calls Try.prog 49 #[.slice A m c] w fun e w' => e = .returned (.func (.func 56) #[] #[.pointer (some ⟨w.heap.size, 0, none⟩)]) ∧ w' = w.alloc (.cells #[.slice A m c] 23) :=
  (callsIn_wide (n := 3)).1 (words_bytes_in Fence.wide 3 trivial rfl A m c w)

theorem below_to_drew {n : Nat} {w w' : World} (h : Below n w w') : Below n w w'.drew := ⟨h.os, h.tape, h.output, h.size, h.block⟩
theorem Rd.of_own {w : World} {base e n c : Nat} {A : Option Addr} {vs : List Value} (h : w.ownsRow base e 1 (.slice A n c) n vs) : Rd w.heap.size w A vs := fun hp => by
  rcases h.2 with ⟨_, h0⟩ | ⟨g, cap, cur, e1, _, hg, _⟩
  · have := h.1; omega
  · have hc := h.cells (g := g) (by rw [e1]; rfl)
    injection e1 with e1
    subst e1
    exact ⟨g, 0, rfl, (Array.getElem?_eq_some_iff.1 hg).1, fun i u hu => by have h1 := hc i u hu; rwa [Addr.add_lit] at h1⟩

/-- AppendSeq over words, in the two rows in which the slice and the iterator may be made. -/
theorem appendseq_two (xs : List UInt8) (A : Option Addr) (m c q : Nat) (cur : Array Value) (w : World) (hm : m = xs.length) (hmc : m ≤ c) (hs : m ≤ 1099511627776) (hA : Rd w.heap.size w A (u8s xs)) (hcur : cur.size = q * 1) (hq : q ≤ 1099511627776)
    (W : World) (g Bn : Nat) (hgb : (g = w.heap.size ∧ Bn = w.heap.size + 1) ∨ (g = w.heap.size + 1 ∧ Bn = w.heap.size)) (hg : W.heap[g]? = some (.cells cur 22 (0, 0))) (hb : W.heap[Bn]? = some (.cells #[.slice A m c] 23 (0, 0)))
    (hW : Below w.heap.size w W) (hsz : W.heap.size = w.heap.size + 2) :
    Calls Try.prog 48 #[.slice (some ⟨g, 0, none⟩) 0 q, .func (.func 56) #[] #[.pointer (some ⟨Bn, 0, none⟩)]] W fun e w' =>
      ∃ g' cap', e = .returned (.slice (some ⟨g', 0, none⟩) (Hsh.sevens m) cap') ∧ w'.ownsRow w.heap.size 22 1 (.slice (some ⟨g', 0, none⟩) (Hsh.sevens m) cap') (Hsh.sevens m) (u64s (Hsh.words xs)) ∧ Below w.heap.size w w' :=
  (appendseq_any xs A m c Bn g q w.heap.size W hm hmc hs (cell_of_box_l hb).1 (by omega) (by omega) (by omega) (by omega) (by omega) (hA.below hW)
    ⟨by simp, .inr ⟨g, q, cur, rfl, by omega, hg, Nat.zero_le _, by unfold maxLen; omega, hcur, by simp⟩⟩).mono fun _ _ ⟨g', cap', e, hr, hb'⟩ => ⟨g', cap', e, hr, hW.trans hb'⟩

set_option maxRecDepth 100000 in
set_option maxHeartbeats 2000000 in
theorem bytes_any (s : ByteArray) (xs : List UInt8) (A : Option Addr) (m c : Nat) (w : World) (hm : m = xs.length) (hmc : m ≤ c) (hs : m ≤ 1099511627776) (hss : s.size ≤ 9223372036854775800) (hA : Rd w.heap.size w A (u8s xs)) :
    Calls Try.prog 39 #[.string s, .slice A m c] w fun e w' => e = .returned (.int .u64 (Hsh.bytes s.data.toList xs : Nat)) ∧ Below w.heap.size w w' := by
  have HA := Lib.hid hA
  have HM := Lib.hid hm
  clear hA hm
  obtain ⟨q, hq⟩ : ∃ q : Nat, q = m / 7 + 2 := ⟨_, rfl⟩
  have hq0 : IntKind.i64.wrap ((m : Int) / 7) = (m : Int) / 7 := by rw [IntKind.wrap_i64]; omega
  have hq1 : IntKind.i64.wrap ((m : Int) / 7 + 2) = (q : Int) := by rw [IntKind.wrap_i64]; omega
  obtain ⟨cur, hcur, hmk⟩ := make_u64 q (by omega)
  have h1 := Lib.hid (appendseq_two xs A m c q cur w HM.out hmc hs HA.out hcur (by omega) ((w.alloc (.cells cur 22)).alloc (.cells #[.slice A m c] 23)).drew w.heap.size (w.heap.size + 1) (.inl ⟨rfl, rfl⟩)
    (blk_alloc (blk_new w 22 cur) _) (by have h := blk_new (w.alloc (.cells cur 22)) 23 #[.slice A m c]; rw [World.size_alloc] at h; exact h) (below_to_drew (((Below.refl _ w).alloc (Nat.le_refl _) _).alloc (by simp) _)) (by simp))
  have h2 := Lib.hid (appendseq_two xs A m c q cur w HM.out hmc hs HA.out hcur (by omega) ((w.alloc (.cells #[.slice A m c] 23)).alloc (.cells cur 22)).drew (w.heap.size + 1) w.heap.size (.inr ⟨rfl, rfl⟩)
    (by have h := blk_new (w.alloc (.cells #[.slice A m c] 23)) 22 cur; rw [World.size_alloc] at h; exact h) (blk_alloc (blk_new w 23 #[.slice A m c]) _) (below_to_drew (((Below.refl _ w).alloc (Nat.le_refl _) _).alloc (by simp) _)) (by simp))
  have HQ := Lib.hid hq
  clear hq hcur
  obtain ⟨i0, hi, hz0, hz1, hz2⟩ := info_parts info_u64
  have HI := Lib.hid hi
  have HZ0 := Lib.hid hz0
  have HZ1 := Lib.hid hz1
  have HZ2 := Lib.hid hz2
  clear hi hz0 hz1 hz2
  have HLEN := Lib.hid (show Hsh.sevens m + 1 = (Hsh.words xs ++ [m]).length by rw [List.length_append, Hsh.words_len, ← HM.out]; rfl)
  have HLT := Lib.hid (show ∀ x ∈ Hsh.words xs ++ [m], x < 18446744073709551616 by
    intro x hx
    rcases List.mem_append.1 hx with h | h
    · exact Nat.lt_trans (Hsh.words_lt xs x h) (by omega)
    · rw [List.mem_singleton.1 h]; omega)
  have HSN := Lib.hid (u64s_snoc (Hsh.words xs) m).symm
  have hsv : Hsh.sevens m ≤ 157073090000 := by unfold Hsh.sevens; omega
  go_enter Try.func39, Try.ntmps39
  go_wp2_with fail
  go_region_with (first
    | (go_at_call 49; refine (words_bytes_call _ _ _ _).mono ?_; rintro e w' ⟨rfl, rfl⟩)
    | (go_at_call 48; ((with_reducible refine (h1.out).mono ?_); rintro e w3 ⟨g', cap', rfl, hrow, hbel⟩; have HROW := Lib.hid hrow; clear hrow))
    | (go_at_call 48; ((with_reducible refine (h2.out).mono ?_); rintro e w3 ⟨g', cap', rfl, hrow, hbel⟩; have HROW := Lib.hid hrow; clear hrow)))
  all_goals
    go_wp2_with (first
      | (at_builtin; refine wpList_append_own _ rfl _ _ 26 rfl w.heap.size 22 i0 (.int .u64 0) 1 8 Try.underlying26 HI.out HZ0.out HZ1.out HZ2.out rfl (by decide) _ _ _ rfl (HROW.out.alloc _) ⟨w3.heap.size, 0, none⟩ 1 1 [.int .u64 (m : Int)] rfl rfl (cell_one_new _ _ _) (by simp [Value.oneCell']) (by unfold maxLen; omega) (by omega) (by have := hbel.size; simp; omega) ?_; intro v' w4 hown' hgrow _; obtain ⟨g2, cap2, rfl⟩ := ownsRow_succ hown'; have HOWN := Lib.hid hown'; clear hown')
      | (go_at_call 40; refine (of_any s (some ⟨g2, 0, none⟩) (Hsh.sevens m + 1) cap2 (Hsh.words xs ++ [m]) w4 hss HLEN.out (by omega) HLT.out (Rd.of_own (HSN.out ▸ HOWN.out))).mono ?_; rintro e w5 ⟨rfl, hb5⟩))
    go_ret
    refine ⟨by rw [HM.out]; rfl, ?_⟩
    have hg2 : (w3.alloc (.cells #[.int .u64 (m : Int)] 22)).grownBy w4 (some g') := hgrow
    have hg0 : w.heap.size ≤ g' := (HROW.out.lt g' rfl).1
    exact (hbel.trans (((Below.refl _ w3).alloc (hbel.size) _).grown hg2 (by simp; have := hbel.size; omega) (fun j e => by injection e with e; omega))).trans (hb5.mono (by have := hbel.size; have := hg2.size; simp at this; omega))


end Go.Proofs.Ytdiacpadbndncaa
