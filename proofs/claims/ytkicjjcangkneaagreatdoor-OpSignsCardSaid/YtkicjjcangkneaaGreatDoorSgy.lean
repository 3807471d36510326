/-
  Joined texts: Ouh Ocl Ocn Osn Osv Ocd Oxs.
-/
import Derived.Test.YtkicjjcangkneaaGreatDoorRft
import Derived.Test.YtkicjjcangkneaaGreatDoorOrk
import Derived.Test.YtkicjjcangkneaaGreatDoorOtm
import Derived.Lib.SliceRun
import Derived.Test.YtkicjjcangkneaaGreatDoorOtv
import Derived.Test.YtkicjjcangkneaaGreatDoorOtk
import Derived.Deep.DeepCutAuto
import Derived.Test.YtkicjjcangkneaaGreatDoorVar
import Derived.Test.YtkicjjcangkneaaGreatDoorSgx
import Derived.Test.YtkicjjcangkneaaGreatDoorOuf

/-
  The reference's SameOp: two operations are the same just if their rows of bytes are.
-/
namespace Go.Proofs.YtkicjjcangkneaaGreatDoor
open Go.RowKit
set_option linter.unusedSimpArgs false
set_option linter.unusedVariables false
attribute [local go_sem ↓] Go.wp_at_zero Go.wp_at_succ
set_option maxRecDepth 100000
namespace Ot
/-- What is asked of worlds may be made more on the way. -/
theorem wpAnyH_and' {P : Program} {ops : Array Oper} {Q : Exit → Act → World → Prop} {md : Region.Mode} {S : World → Prop} (T : World → Prop) : ∀ (fuel : Nat) (listed : Array Bool) (a : Act) (w : World), wpAnyH P md ops Q (fun w' => S w' ∧ T w') fuel listed a w → wpAnyH P md ops Q S fuel listed a w
  | 0, _, _, _, h => h
  | fuel + 1, _, _, _, h => ⟨h.1, fun i hi => wpOp_mono (fun a' w' h' => ⟨h'.1.1, wpAnyH_and' T fuel _ a' w' h'.2⟩) (h.2 i hi)⟩

theorem bytes_same (xs ys : List UInt8) : ((⟨xs.toArray⟩ : ByteArray).toList == (⟨ys.toArray⟩ : ByteArray).toList) = decide (xs = ys) := by
  rw [ByteArray.toList_eq, ByteArray.toList_eq]
  by_cases h : xs = ys
  · subst h; simp
  · rw [decide_eq_false h]
    simpa using h

set_option maxHeartbeats 4000000 in
theorem sameop_any {w : World} (a b : LOp) (ha : Lies No w a) (hb : Lies No w b) (hta : Tiny a.er) (htb : Tiny b.er) :
    Calls Tryz.prog 22 #[a.v, b.v] w fun e w' => e = .returned (.bool (decide (put a.er = put b.er))) ∧ Below w.heap.size w w' := by
  obtain ⟨cs, hcs⟩ : ∃ cs, cs = a.cells := ⟨_, rfl⟩
  obtain ⟨ds, hds⟩ : ∃ ds, ds = b.cells := ⟨_, rfl⟩
  have es : (w.alloc (.cells cs 35)).heap.size = w.heap.size + 1 := by simp
  have hV1 : Vr ((w.alloc (.cells cs 35)).alloc (.cells ds 35)) w.heap.size a := by
    unfold Vr
    rw [← hcs]
    exact blk_alloc (blk_new w 35 cs) _
  have hV2 : Vr ((w.alloc (.cells cs 35)).alloc (.cells ds 35)) (w.heap.size + 1) b := by
    unfold Vr
    rw [← hds, ← es]
    exact blk_new _ _ _
  have hbw : Below w.heap.size w ((w.alloc (.cells cs 35)).alloc (.cells ds 35)) := ((Below.refl _ w).alloc (Nat.le_refl _) _).alloc (by simp) _
  have hLa := (ha.alloc (.cells cs 35)).alloc (.cells ds 35)
  have hLb := (hb.alloc (.cells cs 35)).alloc (.cells ds 35)
  obtain ⟨w0, hw0⟩ : ∃ w0, w0 = (w.alloc (.cells cs 35)).alloc (.cells ds 35) := ⟨_, rfl⟩
  rw [← hw0] at hV1 hV2 hbw hLa hLb
  obtain ⟨V1, hV1'⟩ : ∃ V1, V1 = w.heap.size := ⟨_, rfl⟩
  obtain ⟨V2, hV2'⟩ : ∃ V2, V2 = w.heap.size + 1 := ⟨_, rfl⟩
  have HVAd := Lib.hid (show Vr w0.drew V1 a from hV1' ▸ hV1)
  have HVBd := Lib.hid (show Vr w0.drew V2 b from hV2' ▸ hV2)
  have HBd := Lib.hid (show Below w.heap.size w w0.drew from hbw.trans (below_drewN w0 1 w.heap.size))
  have HLAd := Lib.hid (show Lies No w0.drew a from hLa.bf (Bf.drew w0))
  have HLBd := Lib.hid (show Lies No w0.drew b from hLb.bf (Bf.drew w0))
  have HT := Lib.hid hta
  have HTB' := Lib.hid htb
  have HW0 := Lib.hid hw0
  have HE1 := Lib.hid hV1'
  have HE2 := Lib.hid hV2'
  obtain ⟨sa, hsa⟩ : ∃ s : ByteArray, s = ⟨(put a.er).toArray⟩ := ⟨_, rfl⟩
  obtain ⟨sb, hsb⟩ : ∃ s : ByteArray, s = ⟨(put b.er).toArray⟩ := ⟨_, rfl⟩
  have HSA := Lib.hid hsa
  have HSB := Lib.hid hsb
  show Calls _ _ #[.agg a.cells, .agg b.cells] w _
  rw [← hcs, ← hds]
  clear hV1 hV2 es hbw hLa hLb ha hb hta htb hcs hds hw0 hsa hsb hV1' hV2'
  go_enter Tryz.func22, Tryz.ntmps22
  go_wp2
  try rw [← HW0.out]
  rw [← HE2.out, ← HE1.out]
  refine wp_region_held_drew (S := (fun w' : World => Vr w' V1 a ∧ Vr w' V2 b)) (by kernel_rfl) ⟨HVAd.out, HVBd.out⟩ (fun hHeld => ?_)
  try simp only [Act.put, List.getElem_toArray, List.getElem_cons_succ, List.getElem_cons_zero, List.setIfInBounds_toArray, List.set_cons_zero, List.set_cons_succ]
  refine wpAnyH_take (i := 0) (v := ?_) rfl (by kernel_rfl) (by kernel_rfl) (by kernel_rfl) (fun _ _ _ h => h) (Or.inl ⟨by rfl, ?_⟩) (by assumption) ?_
  rotate_left
  · (intro w hSw; (try dsimp only at hSw); refine run_load_op _ (.tmp 2) ?_ ?_ hSw.1 <;> rfl)
  try simp only [Act.put, List.getElem_toArray, List.getElem_cons_zero, List.setIfInBounds_toArray, List.set_cons_zero, List.set_cons_succ]
  refine wpAnyH_take (i := 3) (v := ?_) rfl (by kernel_rfl) (by kernel_rfl) (by kernel_rfl) (fun _ _ _ h => h) (Or.inl ⟨by rfl, ?_⟩) (by assumption) ?_
  rotate_left
  · (intro w hSw; (try dsimp only at hSw); refine run_load_op _ (.tmp 3) ?_ ?_ hSw.2 <;> rfl)
  try simp only [Act.put, List.getElem_toArray, List.getElem_cons_succ, List.getElem_cons_zero, List.setIfInBounds_toArray, List.set_cons_zero, List.set_cons_succ]
  refine wpAnyH_ready (rs := [1]) (by kernel_rfl) (by simp) ?_
  refine AllReadyH.cons rfl (fun K hK => ?_) AllReadyH.nil
  go_simp
  have HC := Lib.hid (rput_any a HLAd.out HT.out)
  refine (HC.out).mono ?_
  rintro e x1 ⟨y1, rfl, hyl, hgy, hb⟩
  have VA1 := Lib.hid (HVAd.out.below hb (Blk.lt HVAd.out))
  have VB1 := Lib.hid (HVBd.out.below hb (Blk.lt HVBd.out))
  have LA1 := Lib.hid (HLAd.out.below hb)
  have LB1 := Lib.hid (HLBd.out.below hb)
  have BB1 := Lib.hid (HBd.out.trans (hb.mono HBd.out.size))
  have TN1 := Lib.hid (hgy.lz (F := No) fun _ h => h.elim)
  have YL1 := Lib.hid hyl
  clear hb HC hyl hgy HVAd HVBd HLAd HLBd HBd
  try go_simp
  refine hK.out _ _ ⟨VA1.out, VB1.out⟩ (fun hHeld1 => ?_)
  clear hK K
  try simp only [Act.put, List.getElem_toArray, List.getElem_cons_succ, List.getElem_cons_zero, List.setIfInBounds_toArray, List.set_cons_zero, List.set_cons_succ]
  refine wpAnyH_and' (fun w' => Lz kU8 No w' y1) _ _ _ _ ?_
  have hHeld : (Vr x1 V1 a ∧ Vr x1 V2 b) ∧ Lz kU8 No x1 y1 := ⟨⟨VA1.out, VB1.out⟩, TN1.out⟩
  refine wpAnyH_take (i := 2) (v := ?_) rfl (by kernel_rfl) (by kernel_rfl) (by kernel_rfl) (fun _ _ _ h => h) (Or.inl ⟨by rfl, ?_⟩) (by assumption) ?_
  rotate_left
  · (intro w hSw; (try dsimp only at hSw); have cv : (convert 28 9 y1.v).run Tryz.prog w = .ok (.string sa) w := (by rw [HSA.out, ← (show y1.l = put a.er from YL1.out)]; exact cu_conv_rd y1.A y1.l.length y1.c _ _ y1.l rfl (hSw.2).rd8); go_simp; try (with_reducible rfl))
  try simp only [Act.put, List.getElem_toArray, List.getElem_cons_succ, List.getElem_cons_zero, List.setIfInBounds_toArray, List.set_cons_zero, List.set_cons_succ]
  refine wpAnyH_ready (rs := [4]) (by kernel_rfl) (by simp) ?_
  refine AllReadyH.cons rfl (fun K hK => ?_) AllReadyH.nil
  go_simp
  have HC := Lib.hid (rput_any b LB1.out HTB'.out)
  refine (HC.out).mono ?_
  rintro e x2 ⟨y2, rfl, hyl, hgy, hb⟩
  have VA2 := Lib.hid (VA1.out.below hb (Blk.lt VA1.out))
  have VB2 := Lib.hid (VB1.out.below hb (Blk.lt VB1.out))
  have LA2 := Lib.hid (LA1.out.below hb)
  have LB2 := Lib.hid (LB1.out.below hb)
  have BB2 := Lib.hid (BB1.out.trans (hb.mono BB1.out.size))
  have T2_0 := Lib.hid (TN1.out.bf (F := No) (Bf.below hb))
  have TN2 := Lib.hid (hgy.lz (F := No) fun _ h => h.elim)
  have YL2 := Lib.hid hyl
  clear hb HC hyl hgy VA1 VB1 LA1 LB1 BB1 TN1
  try go_simp
  refine hK.out _ _ ⟨⟨VA2.out, VB2.out⟩, T2_0.out⟩ (fun hHeld1 => ?_)
  clear hK K
  try simp only [Act.put, List.getElem_toArray, List.getElem_cons_succ, List.getElem_cons_zero, List.setIfInBounds_toArray, List.set_cons_zero, List.set_cons_succ]
  refine wpAnyH_and' (fun w' => Lz kU8 No w' y2) _ _ _ _ ?_
  have hHeld : ((Vr x2 V1 a ∧ Vr x2 V2 b) ∧ Lz kU8 No x2 y1) ∧ Lz kU8 No x2 y2 := ⟨⟨⟨VA2.out, VB2.out⟩, T2_0.out⟩, TN2.out⟩
  refine wpAnyH_take (i := 5) (v := ?_) rfl (by kernel_rfl) (by kernel_rfl) (by kernel_rfl) (fun _ _ _ h => h) (Or.inl ⟨by rfl, ?_⟩) (by assumption) ?_
  rotate_left
  · (intro w hSw; (try dsimp only at hSw); have cv : (convert 28 9 y2.v).run Tryz.prog w = .ok (.string sb) w := (by rw [HSB.out, ← (show y2.l = put b.er from YL2.out)]; exact cu_conv_rd y2.A y2.l.length y2.c _ _ y2.l rfl (hSw.2).rd8); go_simp; try (with_reducible rfl))
  try simp only [Act.put, List.getElem_toArray, List.getElem_cons_succ, List.getElem_cons_zero, List.setIfInBounds_toArray, List.set_cons_zero, List.set_cons_succ]
  refine wpAnyH_take (i := 6) (v := ?_) rfl (by kernel_rfl) (by kernel_rfl) (by kernel_rfl) (fun _ _ _ h => h) (Or.inl ⟨by rfl, ?_⟩) (by assumption) ?_
  rotate_left
  · (intro w hSw; (try dsimp only at hSw); go_simp; try (with_reducible rfl))
  try simp only [Act.put, List.getElem_toArray, List.getElem_cons_succ, List.getElem_cons_zero, List.setIfInBounds_toArray, List.set_cons_zero, List.set_cons_succ]
  refine wpAnyH_take (i := 7) (v := ?_) rfl (by kernel_rfl) (by kernel_rfl) (by kernel_rfl) (fun _ _ _ h => h) (Or.inl ⟨by rfl, ?_⟩) (by assumption) ?_
  rotate_left
  · (intro w hSw; (try dsimp only at hSw); go_simp; try (with_reducible rfl))
  try simp only [Act.put, List.getElem_toArray, List.getElem_cons_succ, List.getElem_cons_zero, List.setIfInBounds_toArray, List.set_cons_zero, List.set_cons_succ]
  refine wpAnyH_done (by kernel_rfl) ?_ _
  go_wp2
  go_ret
  exact ⟨by rw [HSA.out, HSB.out, bytes_same]; rfl, BB2.out⟩

end Ot
end Go.Proofs.YtkicjjcangkneaaGreatDoor

/-
  slices.Clone, bytes.Clone of each kind of list: the same items, in memory of its own; nil stays nil. For lists of at most a million items.
-/
namespace Go.Proofs.YtkicjjcangkneaaGreatDoor
open Go.RowKit
set_option linter.unusedSimpArgs false
attribute [local go_sem ↓] Go.wp_at_zero Go.wp_at_succ
set_option maxRecDepth 100000
namespace Ot
/-- A state is laid out behind a step. -/
theorem lays : (∀ (a : Act) (d : Tmp) (v : Value), a.put (some d) v = { tmps := a.tmps.setIfInBounds d v, defers := a.defers }) ∧ (∀ (a : Act) (v : Value), a.put none v = a) ∧ (∀ (l : List Value) (i : Nat) (v : Value), l.toArray.setIfInBounds i v = (l.set i v).toArray) ∧
    (∀ (x : Value) (l : List Value) (v : Value), (x :: l).set 0 v = v :: l) ∧ (∀ (x : Value) (l : List Value) (n : Nat) (v : Value), (x :: l).set (n + 1) v = x :: l.set n v) :=
  ⟨fun _ _ _ => rfl, fun _ _ => rfl, fun _ _ _ => by simp, fun _ _ _ => rfl, fun _ _ _ _ => rfl⟩
/-- A new list without an item. -/
theorem gr_new0 {α : Type} (K : Kd α) (w : World) : Gr K w.heap.size (w.alloc (.cells #[] K.ty)) ⟨[], some ⟨w.heap.size, 0, none⟩, 0⟩ :=
  ⟨by rw [K.cells_len], .inr ⟨w.heap.size, 0, #[], rfl, Nat.le_refl _, heap_alloc_new w _, Nat.le_refl _, by unfold maxLen; omega, by simp, by simp [K.cells_nil]⟩⟩
/-- A clone: the same items, of its own. -/
def Cl {α : Type} (K : Kd α) (w : World) (l : List α) (e : Ending) (w' : World) : Prop := ∃ z : Ls α, e = .returned (.slice z.A z.l.length z.c) ∧ z.l = l ∧ Gr K w.heap.size w' z ∧ Below w.heap.size w w'

set_option maxHeartbeats 1000000 in
theorem clone_nm {w : World} (x : Ls Pk.Nm) (hx : Lz kNm No w x) (hn : x.l.length ≤ 1000000) : Calls Tryz.prog 150 #[x.v] w (Cl kNm w x.l) := by
  have q : ∀ (w : World) (a : Option Addr) (n c n' c' : Nat), (binOp .eql 23 (.slice a n c) (.slice none n' c')).run Tryz.prog w = .ok (.bool a.isNone) w := fun w a n c n' c' => Lib.run_eql_slice_nil w _ _ a n c n' c' Tryz.underlying23
  obtain ⟨l, A, c⟩ := x
  rcases A with _ | ad
  · obtain ⟨h0, h1⟩ := hx.none_ rfl
    have hl : l = [] := List.eq_nil_of_length_eq_zero h0
    subst hl
    have h1 : c = 0 := h1
    subst h1
    show Calls _ _ #[.slice none 0 0] w (Cl kNm w [])
    clear h0 hx hn
    obtain ⟨Q, hQ⟩ : ∃ Q, Q = Cl kNm w [] := ⟨_, rfl⟩
    have HE := Lib.hid (show Q (.returned (.slice none 0 0)) w from hQ ▸ ⟨Ls.nil, rfl, rfl, Gr.nil _ _, Below.refl _ _⟩)
    rw [← hQ]
    clear hQ
    go_enter Tryz.func150, Tryz.ntmps150
    go_wp2
    exact HE.out
  · have HEM := Lib.hid (gr_new0 kNm w)
    have HLZ := Lib.hid (hx.bf (F := No) (Bf.alloc w (.cells #[] 27)))
    obtain ⟨m, hm⟩ : ∃ m, m = l.length := ⟨_, rfl⟩
    have HM := Lib.hid hm
    have HV := Lib.hid (show Value.slice (some ad) m c = Ls.v ⟨l, some ad, c⟩ by rw [hm]; rfl)
    have HN := Lib.hid (show l.length ≤ 1000000 from hn)
    show Calls _ _ #[.slice (some ad) l.length c] w (Cl kNm w l)
    rw [← hm]
    clear hm hx hn
    go_enter Tryz.func150, Tryz.ntmps150
    go_wp2_with (at_builtin; refine wpList_push_ls ki_nm rfl _ _ rfl w.heap.size ⟨[], some ⟨w.heap.size, 0, none⟩, 0⟩ ⟨l, some ad, c⟩ HEM.out rfl HLZ.out HV.out (by have h := HN.out; show 0 + l.length ≤ _; omega) (by simp) ?_; intro z w1 hz hgz hbz _; have HZ := Lib.hid hz; have HG := Lib.hid hgz; have HB := Lib.hid hbz; clear hz hgz hbz)
    go_ret
    exact ⟨z, rfl, HZ.out, HG.out, ((Below.refl _ w).alloc (Nat.le_refl _) _).trans HB.out⟩

set_option maxHeartbeats 1000000 in
theorem clone_nd {w : World} (x : Ls LNd) (hx : Lz kNd No w x) (hn : x.l.length ≤ 1000000) : Calls Tryz.prog 151 #[x.v] w (Cl kNd w x.l) := by
  have q : ∀ (w : World) (a : Option Addr) (n c n' c' : Nat), (binOp .eql 24 (.slice a n c) (.slice none n' c')).run Tryz.prog w = .ok (.bool a.isNone) w := fun w a n c n' c' => Lib.run_eql_slice_nil w _ _ a n c n' c' Tryz.underlying24
  obtain ⟨l, A, c⟩ := x
  rcases A with _ | ad
  · obtain ⟨h0, h1⟩ := hx.none_ rfl
    have hl : l = [] := List.eq_nil_of_length_eq_zero h0
    subst hl
    have h1 : c = 0 := h1
    subst h1
    show Calls _ _ #[.slice none 0 0] w (Cl kNd w [])
    clear h0 hx hn
    obtain ⟨Q, hQ⟩ : ∃ Q, Q = Cl kNd w [] := ⟨_, rfl⟩
    have HE := Lib.hid (show Q (.returned (.slice none 0 0)) w from hQ ▸ ⟨Ls.nil, rfl, rfl, Gr.nil _ _, Below.refl _ _⟩)
    rw [← hQ]
    clear hQ
    go_enter Tryz.func151, Tryz.ntmps151
    go_wp2
    exact HE.out
  · have HEM := Lib.hid (gr_new0 kNd w)
    have HLZ := Lib.hid (hx.bf (F := No) (Bf.alloc w (.cells #[] 66)))
    obtain ⟨m, hm⟩ : ∃ m, m = l.length := ⟨_, rfl⟩
    have HM := Lib.hid hm
    have HV := Lib.hid (show Value.slice (some ad) m c = Ls.v ⟨l, some ad, c⟩ by rw [hm]; rfl)
    have HN := Lib.hid (show l.length ≤ 1000000 from hn)
    show Calls _ _ #[.slice (some ad) l.length c] w (Cl kNd w l)
    rw [← hm]
    clear hm hx hn
    go_enter Tryz.func151, Tryz.ntmps151
    go_wp2_with (at_builtin; refine wpList_push_ls ki_nd rfl _ _ rfl w.heap.size ⟨[], some ⟨w.heap.size, 0, none⟩, 0⟩ ⟨l, some ad, c⟩ HEM.out rfl HLZ.out HV.out (by have h := HN.out; show 0 + l.length ≤ _; omega) (by simp) ?_; intro z w1 hz hgz hbz _; have HZ := Lib.hid hz; have HG := Lib.hid hgz; have HB := Lib.hid hbz; clear hz hgz hbz)
    go_ret
    exact ⟨z, rfl, HZ.out, HG.out, ((Below.refl _ w).alloc (Nat.le_refl _) _).trans HB.out⟩

set_option maxHeartbeats 1000000 in
theorem clone_bx {w : World} (x : Ls Bx) (hx : Lz kBx No w x) (hn : x.l.length ≤ 1000000) : Calls Tryz.prog 152 #[x.v] w (Cl kBx w x.l) := by
  have q : ∀ (w : World) (a : Option Addr) (n c n' c' : Nat), (binOp .eql 30 (.slice a n c) (.slice none n' c')).run Tryz.prog w = .ok (.bool a.isNone) w := fun w a n c n' c' => Lib.run_eql_slice_nil w _ _ a n c n' c' Tryz.underlying30
  obtain ⟨l, A, c⟩ := x
  rcases A with _ | ad
  · obtain ⟨h0, h1⟩ := hx.none_ rfl
    have hl : l = [] := List.eq_nil_of_length_eq_zero h0
    subst hl
    have h1 : c = 0 := h1
    subst h1
    show Calls _ _ #[.slice none 0 0] w (Cl kBx w [])
    clear h0 hx hn
    obtain ⟨Q, hQ⟩ : ∃ Q, Q = Cl kBx w [] := ⟨_, rfl⟩
    have HE := Lib.hid (show Q (.returned (.slice none 0 0)) w from hQ ▸ ⟨Ls.nil, rfl, rfl, Gr.nil _ _, Below.refl _ _⟩)
    rw [← hQ]
    clear hQ
    go_enter Tryz.func152, Tryz.ntmps152
    go_wp2
    exact HE.out
  · have HEM := Lib.hid (gr_new0 kBx w)
    have HLZ := Lib.hid (hx.bf (F := No) (Bf.alloc w (.cells #[] 68)))
    obtain ⟨m, hm⟩ : ∃ m, m = l.length := ⟨_, rfl⟩
    have HM := Lib.hid hm
    have HV := Lib.hid (show Value.slice (some ad) m c = Ls.v ⟨l, some ad, c⟩ by rw [hm]; rfl)
    have HN := Lib.hid (show l.length ≤ 1000000 from hn)
    show Calls _ _ #[.slice (some ad) l.length c] w (Cl kBx w l)
    rw [← hm]
    clear hm hx hn
    go_enter Tryz.func152, Tryz.ntmps152
    go_wp2_with (at_builtin; refine wpList_push_ls ki_bx rfl _ _ rfl w.heap.size ⟨[], some ⟨w.heap.size, 0, none⟩, 0⟩ ⟨l, some ad, c⟩ HEM.out rfl HLZ.out HV.out (by have h := HN.out; show 0 + l.length ≤ _; omega) (by simp) ?_; intro z w1 hz hgz hbz _; have HZ := Lib.hid hz; have HG := Lib.hid hgz; have HB := Lib.hid hbz; clear hz hgz hbz)
    go_ret
    exact ⟨z, rfl, HZ.out, HG.out, ((Below.refl _ w).alloc (Nat.le_refl _) _).trans HB.out⟩

set_option maxHeartbeats 1000000 in
theorem clone_sd {w : World} (x : Ls LSd) (hx : Lz kSd No w x) (hn : x.l.length ≤ 1000000) : Calls Tryz.prog 156 #[x.v] w (Cl kSd w x.l) := by
  have q : ∀ (w : World) (a : Option Addr) (n c n' c' : Nat), (binOp .eql 31 (.slice a n c) (.slice none n' c')).run Tryz.prog w = .ok (.bool a.isNone) w := fun w a n c n' c' => Lib.run_eql_slice_nil w _ _ a n c n' c' Tryz.underlying31
  obtain ⟨l, A, c⟩ := x
  rcases A with _ | ad
  · obtain ⟨h0, h1⟩ := hx.none_ rfl
    have hl : l = [] := List.eq_nil_of_length_eq_zero h0
    subst hl
    have h1 : c = 0 := h1
    subst h1
    show Calls _ _ #[.slice none 0 0] w (Cl kSd w [])
    clear h0 hx hn
    obtain ⟨Q, hQ⟩ : ∃ Q, Q = Cl kSd w [] := ⟨_, rfl⟩
    have HE := Lib.hid (show Q (.returned (.slice none 0 0)) w from hQ ▸ ⟨Ls.nil, rfl, rfl, Gr.nil _ _, Below.refl _ _⟩)
    rw [← hQ]
    clear hQ
    go_enter Tryz.func156, Tryz.ntmps156
    go_wp2
    exact HE.out
  · have HEM := Lib.hid (gr_new0 kSd w)
    have HLZ := Lib.hid (hx.bf (F := No) (Bf.alloc w (.cells #[] 81)))
    obtain ⟨m, hm⟩ : ∃ m, m = l.length := ⟨_, rfl⟩
    have HM := Lib.hid hm
    have HV := Lib.hid (show Value.slice (some ad) m c = Ls.v ⟨l, some ad, c⟩ by rw [hm]; rfl)
    have HN := Lib.hid (show l.length ≤ 1000000 from hn)
    show Calls _ _ #[.slice (some ad) l.length c] w (Cl kSd w l)
    rw [← hm]
    clear hm hx hn
    go_enter Tryz.func156, Tryz.ntmps156
    go_wp2_with (at_builtin; refine wpList_push_ls ki_sd rfl _ _ rfl w.heap.size ⟨[], some ⟨w.heap.size, 0, none⟩, 0⟩ ⟨l, some ad, c⟩ HEM.out rfl HLZ.out HV.out (by have h := HN.out; show 0 + l.length ≤ _; omega) (by simp) ?_; intro z w1 hz hgz hbz _; have HZ := Lib.hid hz; have HG := Lib.hid hgz; have HB := Lib.hid hbz; clear hz hgz hbz)
    go_ret
    exact ⟨z, rfl, HZ.out, HG.out, ((Below.refl _ w).alloc (Nat.le_refl _) _).trans HB.out⟩

set_option maxHeartbeats 1000000 in
theorem clone_u64 {w : World} (x : Ls Nat) (hx : Lz kU64 No w x) (hn : x.l.length ≤ 1000000) : Calls Tryz.prog 154 #[x.v] w (Cl kU64 w x.l) := by
  have q : ∀ (w : World) (a : Option Addr) (n c n' c' : Nat), (binOp .eql 29 (.slice a n c) (.slice none n' c')).run Tryz.prog w = .ok (.bool a.isNone) w := fun w a n c n' c' => Lib.run_eql_slice_nil w _ _ a n c n' c' Tryz.underlying29
  obtain ⟨l, A, c⟩ := x
  rcases A with _ | ad
  · obtain ⟨h0, h1⟩ := hx.none_ rfl
    have hl : l = [] := List.eq_nil_of_length_eq_zero h0
    subst hl
    have h1 : c = 0 := h1
    subst h1
    show Calls _ _ #[.slice none 0 0] w (Cl kU64 w [])
    clear h0 hx hn
    obtain ⟨Q, hQ⟩ : ∃ Q, Q = Cl kU64 w [] := ⟨_, rfl⟩
    have HE := Lib.hid (show Q (.returned (.slice none 0 0)) w from hQ ▸ ⟨Ls.nil, rfl, rfl, Gr.nil _ _, Below.refl _ _⟩)
    rw [← hQ]
    clear hQ
    go_enter Tryz.func154, Tryz.ntmps154
    go_wp2
    exact HE.out
  · have HEM := Lib.hid (gr_new0 kU64 w)
    have HLZ := Lib.hid (hx.bf (F := No) (Bf.alloc w (.cells #[] 25)))
    obtain ⟨m, hm⟩ : ∃ m, m = l.length := ⟨_, rfl⟩
    have HM := Lib.hid hm
    have HV := Lib.hid (show Value.slice (some ad) m c = Ls.v ⟨l, some ad, c⟩ by rw [hm]; rfl)
    have HN := Lib.hid (show l.length ≤ 1000000 from hn)
    show Calls _ _ #[.slice (some ad) l.length c] w (Cl kU64 w l)
    rw [← hm]
    clear hm hx hn
    go_enter Tryz.func154, Tryz.ntmps154
    go_wp2_with (at_builtin; refine wpList_push_ls ki_u64 rfl _ _ rfl w.heap.size ⟨[], some ⟨w.heap.size, 0, none⟩, 0⟩ ⟨l, some ad, c⟩ HEM.out rfl HLZ.out HV.out (by have h := HN.out; show 0 + l.length ≤ _; omega) (by simp) ?_; intro z w1 hz hgz hbz _; have HZ := Lib.hid hz; have HG := Lib.hid hgz; have HB := Lib.hid hbz; clear hz hgz hbz)
    go_ret
    exact ⟨z, rfl, HZ.out, HG.out, ((Below.refl _ w).alloc (Nat.le_refl _) _).trans HB.out⟩

set_option maxHeartbeats 1000000 in
theorem clone_int {w : World} (x : Ls Int) (hx : Lz kInt No w x) (hn : x.l.length ≤ 1000000) : Calls Tryz.prog 155 #[x.v] w (Cl kInt w x.l) := by
  have q : ∀ (w : World) (a : Option Addr) (n c n' c' : Nat), (binOp .eql 22 (.slice a n c) (.slice none n' c')).run Tryz.prog w = .ok (.bool a.isNone) w := fun w a n c n' c' => Lib.run_eql_slice_nil w _ _ a n c n' c' Tryz.underlying22
  obtain ⟨l, A, c⟩ := x
  rcases A with _ | ad
  · obtain ⟨h0, h1⟩ := hx.none_ rfl
    have hl : l = [] := List.eq_nil_of_length_eq_zero h0
    subst hl
    have h1 : c = 0 := h1
    subst h1
    show Calls _ _ #[.slice none 0 0] w (Cl kInt w [])
    clear h0 hx hn
    obtain ⟨Q, hQ⟩ : ∃ Q, Q = Cl kInt w [] := ⟨_, rfl⟩
    have HE := Lib.hid (show Q (.returned (.slice none 0 0)) w from hQ ▸ ⟨Ls.nil, rfl, rfl, Gr.nil _ _, Below.refl _ _⟩)
    rw [← hQ]
    clear hQ
    go_enter Tryz.func155, Tryz.ntmps155
    go_wp2
    exact HE.out
  · have HEM := Lib.hid (gr_new0 kInt w)
    have HLZ := Lib.hid (hx.bf (F := No) (Bf.alloc w (.cells #[] 3)))
    obtain ⟨m, hm⟩ : ∃ m, m = l.length := ⟨_, rfl⟩
    have HM := Lib.hid hm
    have HV := Lib.hid (show Value.slice (some ad) m c = Ls.v ⟨l, some ad, c⟩ by rw [hm]; rfl)
    have HN := Lib.hid (show l.length ≤ 1000000 from hn)
    show Calls _ _ #[.slice (some ad) l.length c] w (Cl kInt w l)
    rw [← hm]
    clear hm hx hn
    go_enter Tryz.func155, Tryz.ntmps155
    go_wp2_with (at_builtin; refine wpList_push_ls ki_int rfl _ _ rfl w.heap.size ⟨[], some ⟨w.heap.size, 0, none⟩, 0⟩ ⟨l, some ad, c⟩ HEM.out rfl HLZ.out HV.out (by have h := HN.out; show 0 + l.length ≤ _; omega) (by simp) ?_; intro z w1 hz hgz hbz _; have HZ := Lib.hid hz; have HG := Lib.hid hgz; have HB := Lib.hid hbz; clear hz hgz hbz)
    go_ret
    exact ⟨z, rfl, HZ.out, HG.out, ((Below.refl _ w).alloc (Nat.le_refl _) _).trans HB.out⟩

set_option maxHeartbeats 1000000 in
theorem clone_u8 {w : World} (x : Ls UInt8) (hx : Lz kU8 No w x) (hn : x.l.length ≤ 1000000) : Calls Tryz.prog 153 #[x.v] w (Cl kU8 w x.l) := by
  have q : ∀ (w : World) (a : Option Addr) (n c n' c' : Nat), (binOp .eql 28 (.slice a n c) (.slice none n' c')).run Tryz.prog w = .ok (.bool a.isNone) w := fun w a n c n' c' => Lib.run_eql_slice_nil w _ _ a n c n' c' Tryz.underlying28
  obtain ⟨l, A, c⟩ := x
  rcases A with _ | ad
  · obtain ⟨h0, h1⟩ := hx.none_ rfl
    have hl : l = [] := List.eq_nil_of_length_eq_zero h0
    subst hl
    have h1 : c = 0 := h1
    subst h1
    show Calls _ _ #[.slice none 0 0] w (Cl kU8 w [])
    clear h0 hx hn
    obtain ⟨Q, hQ⟩ : ∃ Q, Q = Cl kU8 w [] := ⟨_, rfl⟩
    have HE := Lib.hid (show Q (.returned (.slice none 0 0)) w from hQ ▸ ⟨Ls.nil, rfl, rfl, Gr.nil _ _, Below.refl _ _⟩)
    rw [← hQ]
    clear hQ
    go_enter Tryz.func153, Tryz.ntmps153
    go_wp2
    exact HE.out
  · have HEM := Lib.hid (gr_new0 kU8 w)
    have HLZ := Lib.hid (hx.bf (F := No) (Bf.alloc w (.cells #[] 5)))
    obtain ⟨m, hm⟩ : ∃ m, m = l.length := ⟨_, rfl⟩
    have HM := Lib.hid hm
    have HV := Lib.hid (show Value.slice (some ad) m c = Ls.v ⟨l, some ad, c⟩ by rw [hm]; rfl)
    have HN := Lib.hid (show l.length ≤ 1000000 from hn)
    show Calls _ _ #[.slice (some ad) l.length c] w (Cl kU8 w l)
    rw [← hm]
    clear hm hx hn
    go_enter Tryz.func153, Tryz.ntmps153
    go_wp2_with (at_builtin; refine wpList_push_ls ki_u8 rfl _ _ rfl w.heap.size ⟨[], some ⟨w.heap.size, 0, none⟩, 0⟩ ⟨l, some ad, c⟩ HEM.out rfl HLZ.out HV.out (by have h := HN.out; show 0 + l.length ≤ _; omega) (by simp) ?_; intro z w1 hz hgz hbz _; have HZ := Lib.hid hz; have HG := Lib.hid hgz; have HB := Lib.hid hbz; clear hz hgz hbz)
    go_ret
    exact ⟨z, rfl, HZ.out, HG.out, ((Below.refl _ w).alloc (Nat.le_refl _) _).trans HB.out⟩
end Ot
end Go.Proofs.YtkicjjcangkneaaGreatDoor

/-
  op.clone: the same operation, all of its lists in memory of its own. For operations of few items.
-/
namespace Go.Proofs.YtkicjjcangkneaaGreatDoor
open Go.RowKit
set_option linter.unusedSimpArgs false
set_option linter.unusedVariables false
attribute [local go_sem ↓] Go.wp_at_zero Go.wp_at_succ
set_option maxRecDepth 100000
namespace Ot
/-- All of an operation's lists lie in memory of one's own. -/
structure Own (B : Nat) (w : World) (o : LOp) : Prop where
  past : Gr kNm B w o.past
  path : Gr kNd B w o.path
  pathB : ∀ n ∈ o.path.l, Gr kBx B w n.boxes
  body : Gr kU8 B w o.body
  refs : Gr kU64 B w o.refs
  guards : Gr kInt B w o.guards
  boxes : Gr kBx B w o.boxes
  hist : Gr kSd B w o.hist
  histB : ∀ s ∈ o.hist.l, Gr kU8 B w s.body
/-- The function's variables: the operation, as far as it is cloned, and the answer. -/
structure Cn (V : Nat) (w W : World) (o c : LOp) : Prop where
  vr : Vr W V c
  res : Vr W (V + 1) LOp.zero
  src : Lies (fun k => V ≤ k) W o
  bel : Below V w W
  size : V + 2 ≤ W.heap.size
theorem Cn.below {V : Nat} {w W W' : World} {o c : LOp} (h : Cn V w W o c) (hb : Below (V + 2) W W') : Cn V w W' o c :=
  ⟨h.vr.below hb (by omega), h.res.below hb (by omega), h.src.bf (Bf.belowN hb fun k _ hk => by show V ≤ k; omega), h.bel.trans (hb.mono (by omega)), Nat.le_trans h.size hb.size⟩
theorem Cn.put {V : Nat} {w W : World} {o c : LOp} (h : Cn V w W o c) (i : Nat) (u : Value) (c' : LOp) (e : c.cells.setIfInBounds i u = c'.cells) : Cn V w (W.setCell ⟨V, i, none⟩ u) o c' := by
  have hb : Bf (fun k => k = V) W (W.setCell ⟨V, i, none⟩ u) := Bf.set W rfl
  exact ⟨Vr.set h.vr i u c' e, h.res.bf hb (by show ¬ V + 1 = V; omega), h.src.bf (hb.weak fun k _ hk => by have hk : k = V := hk; show V ≤ k; omega), Below.trans h.bel (hb.dn (by have := h.size; omega) fun k hk => by have hk : k = V := hk; omega), Nat.le_trans h.size hb.size⟩
theorem Gr.put {α : Type} {K : Kd α} {B V : Nat} {W : World} {x : Ls α} (h : Gr K B W x) (hB : V < B) (i : Nat) (u : Value) : Gr K B (W.setCell ⟨V, i, none⟩ u) x :=
  h.bf (F := fun k => k = V) (Bf.set W rfl) fun k hk => by have hk : k = V := hk; omega
/-- One cell of one item is another one. -/
theorem Kd.cells_set {α : Type} (K : Kd α) {y y' : α} {u : Value} {j : Nat} (hj : j < K.k) (he : K.enc y' = (K.enc y).set j u) : ∀ (l : List α) (i : Nat), l[i]? = some y → K.cells (l.set i y') = (K.cells l).set (i * K.k + j) u
  | [], i, h => by simp at h
  | x :: l, 0, h => by
    simp at h
    subst h
    rw [List.set_cons_zero, K.cells_cons, K.cells_cons, Nat.zero_mul, Nat.zero_add, List.set_append_left _ _ (by rw [K.len]; exact hj), he]
  | x :: l, i + 1, h => by
    have ih := Kd.cells_set K hj he l i (by simpa using h)
    rw [List.set_cons_succ, K.cells_cons, K.cells_cons, ih, List.set_append_right _ _ (by rw [K.len, Nat.succ_mul]; omega), K.len, show (i + 1) * K.k + j - K.k = i * K.k + j by rw [Nat.succ_mul]; omega]
theorem take_set1 {α : Type} (l : List α) (n i : Nat) (v : α) (h : i < n) : (l.set i v).take n = (l.take n).set i v := by
  apply List.ext_getElem?
  intro j
  rw [List.getElem?_take, List.getElem?_set, List.getElem?_set, List.getElem?_take, List.length_take]
  by_cases c1 : j < n
  · rw [if_pos c1, if_pos c1]
    by_cases c2 : i = j
    · subst c2
      rw [if_pos rfl, if_pos rfl]
      by_cases c3 : i < l.length
      · rw [if_pos c3, if_pos (by omega)]
      · rw [if_neg c3, if_neg (by omega)]
    · rw [if_neg c2, if_neg c2]
  · rw [if_neg c1, if_neg c1, if_neg (by omega : ¬ i = j)]
theorem Gr.setAt {α : Type} {K : Kd α} {B : Nat} {W : World} {l : List α} {A : Option Addr} {c : Nat} (h : Gr K B W ⟨l, A, c⟩) {i j : Nat} {y y' : α} {u : Value} (hi : l[i]? = some y) (hj : j < K.k) (he : K.enc y' = (K.enc y).set j u) :
    ∃ g, A = some ⟨g, 0, none⟩ ∧ B ≤ g ∧ g < W.heap.size ∧ (∃ cs, Blk W g K.ty cs ∧ i * K.k + j < cs.size) ∧ (∀ q v, (K.enc y)[q]? = some v → W.cell? ⟨g, i * K.k + q, none⟩ = some v) ∧ Gr K B (W.setCell ⟨g, i * K.k + j, none⟩ u) ⟨l.set i y', A, c⟩ := by
  have hlt := h.lt
  have hil : i < l.length := (List.getElem?_eq_some_iff.1 hi).1
  have hcl := fun g => h.cells (g := g)
  obtain ⟨h1, h2⟩ := h
  rcases h2 with ⟨_, h0⟩ | ⟨g, cap, cur, e, hg, hh, hn, hm, hsz, htk⟩
  · have h0 : l.length = 0 := h0; omega
  · have hn : l.length ≤ cap := hn
    have e' : Value.slice A l.length c = .slice (some ⟨g, 0, none⟩) l.length cap := e
    injection e' with e1 _ e3
    subst e1 e3
    have hgs := (hlt g rfl).2
    have htk : cur.toList.take (l.length * K.k) = K.cells l := htk
    have hsz : cur.size = c * K.k := hsz
    have hp : i * K.k + j < l.length * K.k := by
      have h3 : (i + 1) * K.k ≤ l.length * K.k := Nat.mul_le_mul_right _ hil
      rw [Nat.succ_mul] at h3
      omega
    have hp2 : l.length * K.k ≤ c * K.k := Nat.mul_le_mul_right _ hn
    refine ⟨g, rfl, hg, hgs, ⟨cur, hh, by omega⟩, fun q v hq => hcl g rfl _ v (K.cells_at l i y q v hi hq), ?_⟩
    refine ⟨by rw [K.cells_len, List.length_set], .inr ⟨g, c, cur.setIfInBounds (i * K.k + j) u, ?_, hg, heap_setCell_same W g _ cur _ _ hh, by show (l.set i y').length ≤ c; rw [List.length_set]; exact hn, hm, ?_, ?_⟩⟩
    · show Value.slice _ (l.set i y').length _ = _
      rw [List.length_set]
    · rw [Array.size_setIfInBounds]; exact hsz
    · show (cur.setIfInBounds (i * K.k + j) u).toList.take ((l.set i y').length * K.k) = K.cells (l.set i y')
      rw [List.length_set, K.cells_set hj he l i hi, ← htk, ← take_set1 _ _ _ _ hp, Array.toList_setIfInBounds]
/-- A list of one's own of another kind stays. -/
theorem Gr.other {α : Type} {K : Kd α} {B g t : Nat} {W : World} {x : Ls α} {cs : Array Value} (h : Gr K B W x) (hb : Blk W g t cs) (ht : K.ty ≠ t) (i : Nat) (u : Value) : Gr K B (W.setCell ⟨g, i, none⟩ u) x :=
  World.ownsRow.kept h (only_set (only_refl W (some g)) i u) (by
    cases e : x.v.ownBlock with
    | none => exact .inl rfl
    | some b =>
      refine .inr fun e2 => ht ?_
      injection e2 with e2
      subst e2
      rcases h.2 with ⟨e3, _⟩ | ⟨g2, cap, cur, e3, _, hh, _⟩
      · rw [e3] at e; cases e
      · rw [e3] at e
        have e : some g2 = some b := e
        injection e with e
        subst e
        have h4 : some (Obj.cells cur K.ty) = some (Obj.cells cs t) := by
          have h5 : W.heap[g2]? = some (Obj.cells cs t (0, 0)) := hb
          have h6 := hh
          rw [h5] at h6
          injection h6 with h6
          injection h6 with h7 h8
          rw [← h7, h8]
        injection h4 with h4
        injection h4)
theorem Cn.start (w : World) (o : LOp) (hx : Lies No w o) : Cn w.heap.size w ((w.alloc (.cells o.cells 35)).alloc (.cells LOp.zero.cells 35)) o o := by
  have e : (w.alloc (.cells o.cells 35)).heap.size = w.heap.size + 1 := by simp
  have hb : Below w.heap.size w ((w.alloc (.cells o.cells 35)).alloc (.cells LOp.zero.cells 35)) := ((Below.refl _ w).alloc (Nat.le_refl _) _).alloc (by omega) _
  refine ⟨blk_alloc (blk_new w _ _) _, ?_, (hx.weak (G := fun k => w.heap.size ≤ k) fun k hk hf => by have hf : w.heap.size ≤ k := hf; omega).bf (Bf.below hb), hb, by simp⟩
  have := Vr.new (w.alloc (.cells o.cells 35)) LOp.zero
  rw [e] at this
  exact this

/-- A list whose items hold lists of their own, of which the first k are cloned. -/
structure Lp {α β γ : Type} (K : Kd α) (KS : Kd β) (sub : α → Ls β) (er : α → γ) (V : Nat) (w : World) (o : LOp) (orig : List α) (mk : Ls α → LOp) (A : Option Addr) (c n : Nat) (W : World) (k : Nat) (cl : List α) : Prop where
  len : cl.length = n
  cn : Cn V w W o (mk ⟨cl, A, c⟩)
  gr : Gr K (V + 2) W ⟨cl, A, c⟩
  own : ∀ j, j < k → ∃ x y, cl[j]? = some x ∧ orig[j]? = some y ∧ er x = er y ∧ Gr KS (V + 2) W (sub x)
  rest : ∀ j, k ≤ j → cl[j]? = orig[j]?
section
variable {α β γ : Type} {K : Kd α} {KS : Kd β} {sub : α → Ls β} {er : α → γ} {V : Nat} {w : World} {o : LOp} {orig : List α} {mk : Ls α → LOp} {A : Option Addr} {c n : Nat} {W W' : World} {k : Nat} {cl : List α}
theorem Lp.below (h : Lp K KS sub er V w o orig mk A c n W k cl) (hb : Below W.heap.size W W') : Lp K KS sub er V w o orig mk A c n W' k cl :=
  ⟨h.len, h.cn.below (hb.mono h.cn.size), h.gr.below hb, fun j hj => by
    obtain ⟨x, y, h1, h2, h3, h4⟩ := h.own j hj
    exact ⟨x, y, h1, h2, h3, h4.below hb⟩, h.rest⟩
theorem Lp.put (h : Lp K KS sub er V w o orig mk A c n W k cl) {y y' : α} {j : Nat} {u : Value} (hy : orig[k]? = some y) (hj : j < K.k) (he : K.enc y' = (K.enc y).set j u) (her : er y' = er y) (hz : Gr KS (V + 2) W (sub y')) (hne : KS.ty ≠ K.ty)
    (hmk : ∀ l l' : List α, l.length = l'.length → (mk ⟨l, A, c⟩).cells = (mk ⟨l', A, c⟩).cells) {g : Nat} (hA : A = some ⟨g, 0, none⟩) : Lp K KS sub er V w o orig mk A c n (W.setCell ⟨g, k * K.k + j, none⟩ u) (k + 1) (cl.set k y') := by
  have hk : cl[k]? = some y := (h.rest k (Nat.le_refl _)).trans hy
  have hkl : k < cl.length := (List.getElem?_eq_some_iff.1 hk).1
  obtain ⟨g', hA', hB, hgs, ⟨cs, hcs, _⟩, _, hgr⟩ := h.gr.setAt hk hj he
  have hgg : g' = g := by rw [hA] at hA'; injection hA' with e; injection e with e; exact e.symm
  subst hgg
  have hbf : Bf (fun q => q = g') W (W.setCell ⟨g', k * K.k + j, none⟩ u) := Bf.set W rfl
  have hc := h.cn
  refine ⟨by rw [List.length_set]; exact h.len, ⟨?_, hc.res.bf hbf (by show ¬ V + 1 = g'; omega), hc.src.bf (hbf.weak fun q _ hq => by have hq : q = g' := hq; show V ≤ q; omega), Below.trans hc.bel (hbf.dn (by have := hc.size; omega) fun q hq => by have hq : q = g' := hq; omega), Nat.le_trans hc.size hbf.size⟩, hgr, fun i hi => ?_, fun i hi => ?_⟩
  · have h1 := hc.vr.bf hbf (by show ¬ V = g'; omega)
    unfold Vr at h1 ⊢
    rw [hmk _ cl (by rw [List.length_set])]
    exact h1
  · by_cases e : i = k
    · subst e
      exact ⟨y', y, by rw [List.getElem?_set_self hkl], hy, her, hz.other hcs hne _ _⟩
    · obtain ⟨x, y0, h1, h2, h3, h4⟩ := h.own i (by omega)
      exact ⟨x, y0, by rw [List.getElem?_set_ne (fun e2 => e e2.symm)]; exact h1, h2, h3, h4.other hcs hne _ _⟩
  · rw [List.getElem?_set_ne (by omega)]
    exact h.rest i (by omega)
end
theorem lp_own {α β γ : Type} {K : Kd α} {KS : Kd β} {sub : α → Ls β} {er : α → γ} {V : Nat} {w : World} {o : LOp} {orig : List α} {mk : Ls α → LOp} {A : Option Addr} {c n : Nat} {W : World} {cl : List α} (h : Lp K KS sub er V w o orig mk A c n W n cl) : ∀ x ∈ cl, Gr KS (V + 2) W (sub x) := fun x hx => by
  obtain ⟨j, hj⟩ := List.mem_iff_getElem?.1 hx
  have hjl : j < cl.length := (List.getElem?_eq_some_iff.1 hj).1
  obtain ⟨x', y, h1, _, _, h4⟩ := h.own j (by rw [← h.len]; exact hjl)
  rw [hj] at h1
  injection h1 with h1
  rw [h1]
  exact h4
theorem lp_er {α β γ : Type} {K : Kd α} {KS : Kd β} {sub : α → Ls β} {er : α → γ} {V : Nat} {w : World} {o : LOp} {orig : List α} {mk : Ls α → LOp} {A : Option Addr} {c n : Nat} {W : World} {cl : List α} (h : Lp K KS sub er V w o orig mk A c n W n cl) (hn : n = orig.length) : cl.map er = orig.map er := by
  apply List.ext_getElem?
  intro j
  rw [List.getElem?_map, List.getElem?_map]
  by_cases hj : j < n
  · obtain ⟨x, y, h1, h2, h3, _⟩ := h.own j hj
    rw [h1, h2]
    exact congrArg some h3
  · rw [List.getElem?_eq_none (by rw [h.len]; omega), List.getElem?_eq_none (by omega)]

set_option maxHeartbeats 8000000 in
theorem clone_any {w : World} (o : LOp) (hx : Lies No w o) (ht : Tiny o.er) :
    Calls Tryz.prog 65 #[o.v] w fun e w' => ∃ z : LOp, e = .returned z.v ∧ z.er = o.er ∧ Own w.heap.size w' z ∧ Below w.heap.size w w' := by
  obtain ⟨cs, hcs⟩ : ∃ cs, cs = o.cells := ⟨_, rfl⟩
  have hC := Cn.start w o hx
  obtain ⟨V, hV⟩ : ∃ V, V = w.heap.size := ⟨_, rfl⟩
  have HV := Lib.hid hV
  have HC := Lib.hid (show Cn V w ((w.alloc (.cells cs 35)).alloc (.cells LOp.zero.cells 35)) o o from by rw [hV, hcs]; exact hC)
  have HT := Lib.hid ht
  show Calls _ _ #[.agg o.cells] w _
  rw [← hcs]
  clear hx ht hcs hC hV
  go_enter Tryz.func65, Tryz.ntmps65
  go_upto_region 1 with fail
  rw [zc]
  obtain ⟨w0, hw⟩ : ∃ W, W = ((w.alloc (.cells cs 35)).alloc (.cells LOp.zero.cells 35)) := ⟨_, rfl⟩
  rw [← hw] at HC ⊢
  rw [← HV.out]
  clear hw
  have k1 := (show World.cell? w0 ⟨V, 4, none⟩ = some (.slice o.past.A o.past.l.length o.past.c) from (HC.out.vr.cell 4).trans (LOp.c4 _))
  have HL := Lib.hid (clone_nm o.past HC.out.src.no.past (Nat.le_trans (show o.past.l.length ≤ 300 from Nat.le_trans HT.out.past (by decide)) (by decide)))
  go_wp2_with fail
  refine (HL.out).mono ?_
  rintro e u4 ⟨z4, rfl, hzl, hzg, hb⟩
  have HC1 := Lib.hid (HC.out.below (hb.mono HC.out.size))
  have HZLz4 := Lib.hid hzl
  have HG1 := Lib.hid (hzg.base (B' := V + 2) HC.out.size)
  have kk := (HC1.out.vr.cell 4).trans (LOp.c4 _)
  have kf := HC1.out.vr.frozen 4
  clear k1 hzl hzg hb HL HC 
  go_upto_region 2 with fail
  clear kk kf
  have HC_4 := Lib.hid (show Cn V w (u4.setCell ⟨V, 4, none⟩ (.slice z4.A z4.l.length z4.c)) o { o with past := z4 } from HC1.out.put 4 _ _ rfl)
  have G_z4_4 := Lib.hid (show Gr kNm (V + 2) (u4.setCell ⟨V, 4, none⟩ (.slice z4.A z4.l.length z4.c)) z4 from HG1.out.put (by omega) _ _)
  clear HC1 HG1 
  obtain ⟨w4, hw⟩ : ∃ W, W = (u4.setCell ⟨V, 4, none⟩ (.slice z4.A z4.l.length z4.c)) := ⟨_, rfl⟩
  rw [← hw] at HC_4 G_z4_4 ⊢
  clear hw
  have k1 := (show World.cell? w4 ⟨V, 9, none⟩ = some (.slice o.path.A o.path.l.length o.path.c) from (HC_4.out.vr.cell 9).trans (LOp.c9 _))
  have HL := Lib.hid (clone_nd o.path HC_4.out.src.no.path (Nat.le_trans (show o.path.l.length ≤ 300 from (by have h := HT.out.path; unfold LOp.er at h; rw [List.length_map] at h; omega)) (by decide)))
  go_wp2_with fail
  refine (HL.out).mono ?_
  rintro e u9 ⟨z9, rfl, hzl, hzg, hb⟩
  have HC1 := Lib.hid (HC_4.out.below (hb.mono HC_4.out.size))
  have HZLz9 := Lib.hid hzl
  have HG1 := Lib.hid (hzg.base (B' := V + 2) HC_4.out.size)
  have O0 := Lib.hid (G_z4_4.out.below hb)
  have kk := (HC1.out.vr.cell 9).trans (LOp.c9 _)
  have kf := HC1.out.vr.frozen 9
  clear k1 hzl hzg hb HL HC_4 G_z4_4
  go_upto_region 3 with fail
  clear kk kf
  have HC_9 := Lib.hid (show Cn V w (u9.setCell ⟨V, 9, none⟩ (.slice z9.A z9.l.length z9.c)) o { o with past := z4, path := z9 } from HC1.out.put 9 _ _ rfl)
  have G_z4_9 := Lib.hid (show Gr kNm (V + 2) (u9.setCell ⟨V, 9, none⟩ (.slice z9.A z9.l.length z9.c)) z4 from O0.out.put (by omega) _ _)
  have G_z9_9 := Lib.hid (show Gr kNd (V + 2) (u9.setCell ⟨V, 9, none⟩ (.slice z9.A z9.l.length z9.c)) z9 from HG1.out.put (by omega) _ _)
  clear HC1 HG1 O0
  obtain ⟨w9, hw⟩ : ∃ W, W = (u9.setCell ⟨V, 9, none⟩ (.slice z9.A z9.l.length z9.c)) := ⟨_, rfl⟩
  rw [← hw] at HC_9 G_z4_9 G_z9_9 ⊢
  clear hw
  obtain ⟨n9, hn⟩ : ∃ n, n = o.path.l.length := ⟨_, rfl⟩
  obtain ⟨z9l, z9A, z9c⟩ := z9
  have HZ := Lib.hid (show z9l = o.path.l from HZLz9.out)
  have HN := Lib.hid hn
  have hv : (Value.slice z9A z9l.length z9c) = .slice z9A n9 z9c := by rw [HZ.out, ← HN.out]
  have k1 : World.cell? w9 ⟨V, 9, none⟩ = some (.slice z9A n9 z9c) := by rw [← hv]; exact (HC_9.out.vr.cell 9).trans (LOp.c9 _)
  have hnn : n9 ≤ 300 := by rw [hn]; have h : o.path.l.length ≤ 300 := (by have h := HT.out.path; unfold LOp.er at h; rw [List.length_map] at h; omega); exact h
  clear hn hv HZLz9
  go_wp2_with fail
  have HLP := Lib.hid (show Lp kNd kBx LNd.boxes LNd.er V w o o.path.l (fun p => { o with past := z4, path := p }) z9A z9c n9 w9 0 z9l from ⟨by rw [HZ.out, ← HN.out], HC_9.out, G_z9_9.out, fun j hj => absurd hj (Nat.not_lt_zero _), fun j _ => by rw [HZ.out]⟩)
  have hkz : (Value.slice z9A n9 z9c) = .slice z9A n9 z9c := rfl
  clear hkz
  go_loopw [18] (fun i wr => ∃ (k : Nat) (cl : List LNd), k ≤ n9 ∧ i = .int .i64 (k : Int) ∧ Lp kNd kBx LNd.boxes LNd.er V w o o.path.l (fun p => { o with past := z4, path := p }) z9A z9c n9 wr k cl ∧ Gr kNm (V + 2) wr z4) (fun i _ => n9 - (intOf i).toNat)
  case atStart => exact ⟨0, z9l, Nat.zero_le _, rfl, HLP.out, G_z4_9.out⟩
  case round =>
    obtain ⟨k, cl, hkn, rfl, hlp, g0_⟩ := hrel
    clear HLP HC_9 G_z9_9 G_z4_9 k1
    by_cases hlt : k < n9
    · obtain ⟨y, hy⟩ : ∃ y, o.path.l[k]? = some y := ⟨_, List.getElem?_eq_getElem (by rw [← HN.out]; exact hlt)⟩
      obtain ⟨g, hA, hgB, hgs, ⟨gcs, hgcs, hgsz⟩, hgc, -⟩ := hlp.gr.setAt (y' := y) (j := 1) (u := (LNd.boxes y).v) ((hlp.rest k (Nat.le_refl _)).trans hy) (by decide) rfl
      subst hA
      obtain ⟨wo, rfl⟩ : ∃ wo, wo = wr := ⟨_, rfl⟩
      have n0 : World.cell? wo ⟨g, k * 2, none⟩ = some (.int .u64 (y.pub : Int)) := hgc 0 _ rfl
      have n1 : World.cell? wo ⟨g, k * 2 + 1, none⟩ = some (.slice y.boxes.A y.boxes.l.length y.boxes.c) := hgc 1 _ rfl
      have kv := (show World.cell? wo ⟨V, 9, none⟩ = some (.slice (some ⟨g, 0, none⟩) n9 z9c) from by have h := (hlp.cn.vr.cell 9).trans (LOp.c9 _); rw [h]; show some (Value.slice _ cl.length _) = _; rw [hlp.len])
      have HLP := Lib.hid hlp
      have G0 := Lib.hid g0_
      have HGC := Lib.hid (And.intro hgB (And.intro hgs (And.intro hgcs hgsz)))
      have HY := Lib.hid hy
      have q0_ : (0 : Int) ≤ (k : Int) := by omega
      have q1_ : (k : Int) < (n9 : Int) := by omega
      clear hlp g0_ hgB hgs hgcs hgsz hgc hy hkn
      go_wp2_with fail
      obtain ⟨nb, hnb⟩ : ∃ nb, nb = wo.heap.size := ⟨_, rfl⟩
      have hblk := blk_new wo 66 #[.int .u64 (y.pub : Int), .slice y.boxes.A y.boxes.l.length y.boxes.c]
      have hba := (Below.refl wo.heap.size wo).alloc (Nat.le_refl _) (.cells #[.int .u64 (y.pub : Int), .slice y.boxes.A y.boxes.l.length y.boxes.c] 66)
      obtain ⟨w5, hw5⟩ : ∃ W, W = wo.alloc (.cells #[.int .u64 (y.pub : Int), .slice y.boxes.A y.boxes.l.length y.boxes.c] 66) := ⟨_, rfl⟩
      rw [← hw5] at hblk hba ⊢
      rw [← hnb] at hblk ⊢
      have HNB := Lib.hid (show Blk w5.drew nb 66 #[.int .u64 (y.pub : Int), .slice y.boxes.A y.boxes.l.length y.boxes.c] from hblk)
      have HBA := Lib.hid (show Below wo.heap.size wo w5.drew from hba.trans (below_drewN w5 1 _))
      have HL5 := Lib.hid (HLP.out.below HBA.out)
      have F0 := Lib.hid (G0.out.below HBA.out)
      have HG5 := Lib.hid (show V + 2 ≤ g ∧ g < nb ∧ Blk w5.drew g 66 gcs ∧ k * 2 + 1 < gcs.size from ⟨HGC.out.1, hnb ▸ HGC.out.2.1, HGC.out.2.2.1.below HBA.out HGC.out.2.1, HGC.out.2.2.2⟩)
      have kv5 : World.cell? w5.drew ⟨V, 9, none⟩ = some (.slice (some ⟨g, 0, none⟩) n9 z9c) := by have h := (HL5.out.cn.vr.cell 9).trans (LOp.c9 _); rw [h]; show some (Value.slice _ cl.length _) = _; rw [HL5.out.len]
      have kb5 : World.cell? w5.drew ⟨nb, 1, none⟩ = some (.slice y.boxes.A y.boxes.l.length y.boxes.c) := HNB.out.cell 1
      have HSZ := Lib.hid (show nb < w5.drew.heap.size from HNB.out.lt)
      clear hnb hblk hba hw5 HBA HLP HGC n0 n1 kv G0
      refine wp_region_held_drew (S := (fun w' : World => w'.cell? ⟨V, 9, none⟩ = some (.slice (some ⟨g, 0, none⟩) n9 z9c) ∧ w'.cell? ⟨nb, 1, none⟩ = some (.slice y.boxes.A y.boxes.l.length y.boxes.c))) (by kernel_rfl) ⟨kv5, kb5⟩ (fun hHeld => ?_)
      try simp only [lays]
      refine wpAnyH_take (i := 0) (v := ?_) rfl (by kernel_rfl) (by kernel_rfl) (by kernel_rfl) (fun _ _ _ h => h) (Or.inl ⟨by rfl, ?_⟩) (by assumption) ?_
      rotate_left
      · (intro w hSw; (try dsimp only at hSw); obtain ⟨s0, s1⟩ := hSw; go_simp; try (with_reducible rfl))
      try simp only [lays]
      refine wpAnyH_take (i := 1) (v := ?_) rfl (by kernel_rfl) (by kernel_rfl) (by kernel_rfl) (fun _ _ _ h => h) (Or.inl ⟨by rfl, ?_⟩) (by assumption) ?_
      rotate_left
      · (intro w hSw; (try dsimp only at hSw); obtain ⟨s0, s1⟩ := hSw; go_simp; try (with_reducible rfl))
      try simp only [lays]
      refine wpAnyH_take (i := 2) (v := ?_) rfl (by kernel_rfl) (by kernel_rfl) (by kernel_rfl) (fun _ _ _ h => h) (Or.inl ⟨by rfl, ?_⟩) (by assumption) ?_
      rotate_left
      · (intro w hSw; (try dsimp only at hSw); obtain ⟨s0, s1⟩ := hSw; go_simp; try (with_reducible rfl))
      try simp only [lays]
      refine wpAnyH_take (i := 3) (v := ?_) rfl (by kernel_rfl) (by kernel_rfl) (by kernel_rfl) (fun _ _ _ h => h) (Or.inl ⟨by rfl, ?_⟩) (by assumption) ?_
      rotate_left
      · (intro w hSw; (try dsimp only at hSw); obtain ⟨s0, s1⟩ := hSw; go_simp; try (with_reducible rfl))
      try simp only [lays]
      refine wpAnyH_take (i := 4) (v := ?_) rfl (by kernel_rfl) (by kernel_rfl) (by kernel_rfl) (fun _ _ _ h => h) (Or.inl ⟨by rfl, ?_⟩) (by assumption) ?_
      rotate_left
      · (intro w hSw; (try dsimp only at hSw); obtain ⟨s0, s1⟩ := hSw; go_simp; try (with_reducible rfl))
      try simp only [lays]
      refine wpAnyH_ready (rs := [5]) (by kernel_rfl) (by simp) ?_
      refine AllReadyH.cons rfl (fun K hK => ?_) AllReadyH.nil
      clear kv5 kb5
      go_simp
      have HC5 := Lib.hid (clone_bx y.boxes (HL5.out.cn.src.pathB y (List.mem_of_getElem? HY.out)).no (Nat.le_trans (show y.boxes.l.length ≤ 20 from HT.out.pathB y.er (List.mem_map_of_mem (List.mem_of_getElem? HY.out))) (by decide)))
      refine (HC5.out).mono ?_
      rintro e w6 ⟨z, rfl, hzl, hzg, hb⟩
      have HL6 := Lib.hid (HL5.out.below hb)
      have E0 := Lib.hid (F0.out.below hb)
      have HG6 := Lib.hid (show V + 2 ≤ g ∧ g < nb ∧ Blk w6 g 66 gcs ∧ k * 2 + 1 < gcs.size from ⟨HG5.out.1, HG5.out.2.1, HG5.out.2.2.1.below hb (HG5.out.2.2.1.lt), HG5.out.2.2.2⟩)
      have HNB6 := Lib.hid (HNB.out.below hb HNB.out.lt)
      have HZZ := Lib.hid (hzg.base (B' := V + 2) (HL5.out.cn.size))
      have HZL := Lib.hid hzl
      have kv6 : World.cell? w6 ⟨V, 9, none⟩ = some (.slice (some ⟨g, 0, none⟩) n9 z9c) := by have h := (HL6.out.cn.vr.cell 9).trans (LOp.c9 _); rw [h]; show some (Value.slice _ cl.length _) = _; rw [HL6.out.len]
      have kb6 : World.cell? w6 ⟨nb, 1, none⟩ = some (.slice y.boxes.A y.boxes.l.length y.boxes.c) := HNB6.out.cell 1
      clear hb hzl hzg HC5 HL5 HG5 HNB HSZ F0
      try go_simp
      refine hK.out _ _ ⟨kv6, kb6⟩ (fun hHeld1 => ?_)
      clear hK K
      try simp only [lays]
      refine wpAnyH_take (i := 6) (v := ?_) rfl (by kernel_rfl) (by kernel_rfl) (by kernel_rfl) (fun _ _ _ h => h) (Or.inl ⟨by rfl, ?_⟩) (by assumption) ?_
      rotate_left
      · (intro w hSw; (try dsimp only at hSw); obtain ⟨s0, s1⟩ := hSw; go_simp; try (with_reducible rfl))
      try simp only [lays]
      refine wpAnyH_take (i := 7) (v := ?_) rfl (by kernel_rfl) (by kernel_rfl) (by kernel_rfl) (fun _ _ _ h => h) (Or.inl ⟨by rfl, ?_⟩) (by assumption) ?_
      rotate_left
      · (intro w hSw; (try dsimp only at hSw); obtain ⟨s0, s1⟩ := hSw; go_simp; try (with_reducible rfl))
      try simp only [lays]
      obtain ⟨gu, hgu⟩ : ∃ u, gcs[k * 2 + 1]? = some u := ⟨_, Array.getElem?_eq_getElem HG6.out.2.2.2⟩
      have kk : World.cell? w6 ⟨g, k * 2 + 1, none⟩ = some gu := (HG6.out.2.2.1.cell _).trans hgu
      have kf := HG6.out.2.2.1.frozen (k * 2 + 1)
      have HL7 := Lib.hid (HL6.out.put (y' := { y with boxes := z }) (j := 1) (u := .slice z.A z.l.length z.c) HY.out (by decide) rfl (by show Nd.mk y.pub z.l = Nd.mk y.pub y.boxes.l; rw [HZL.out]) HZZ.out (by decide) (fun l l' h => by simp only [LOp.cells, Ls.v, h]) rfl)
      have hbf : Bf (fun q => q = g) w6 (w6.setCell ⟨g, k * 2 + 1, none⟩ (.slice z.A z.l.length z.c)) := Bf.set w6 rfl
      have D0 := Lib.hid (E0.out.other HG6.out.2.2.1 (by decide) (k * 2 + 1) (.slice z.A z.l.length z.c))
      have HNB7 := Lib.hid (hbf.blk HNB6.out (by have := HG6.out.2.1; show ¬ nb = g; omega))
      have kv7 : World.cell? (w6.setCell ⟨g, k * 2 + 1, none⟩ (.slice z.A z.l.length z.c)) ⟨V, 9, none⟩ = some (.slice (some ⟨g, 0, none⟩) n9 z9c) := (show World.cell? (w6.setCell ⟨g, k * 2 + 1, none⟩ (.slice z.A z.l.length z.c)) ⟨V, 9, none⟩ = some (Value.slice (some ⟨g, 0, none⟩) (List.set cl k { y with boxes := z }).length z9c) from (HL7.out.cn.vr.cell 9).trans (LOp.c9 _)).trans (by rw [HL7.out.len])
      have kb7 : World.cell? (w6.setCell ⟨g, k * 2 + 1, none⟩ (.slice z.A z.l.length z.c)) ⟨nb, 1, none⟩ = some (.slice y.boxes.A y.boxes.l.length y.boxes.c) := HNB7.out.cell 1
      have HKV := Lib.hid (And.intro kv7 kb7)
      clear hbf hgu kv6 kb6 kv7 kb7 HL6 HZZ HZL HG6 HNB6 HNB7 E0
      refine wpAnyH_ready (rs := [8]) (by kernel_rfl) (by simp) ?_
      refine AllReadyH.cons rfl (fun K hK => ?_) AllReadyH.nil
      go_simp
      refine hK.out _ _ HKV.out (fun hHeld2 => ?_)
      clear hK K kk kf HKV
      try simp only [lays]
      refine wpAnyH_done (by kernel_rfl) ?_ _
      clear hHeld hHeld1 hHeld2
      go_wp2
      go_roundw
      case rel => exact ⟨k + 1, _, by omega, by go_num, HL7.out, D0.out⟩
      case measure => simp [intOf]; omega
    · have hkq : k = n9 := by omega
      subst hkq
      obtain ⟨w10_, rfl⟩ : ∃ W, W = wr := ⟨_, rfl⟩
      obtain ⟨q9, hzq⟩ : ∃ q : Ls LNd, q = ⟨cl, z9A, z9c⟩ := ⟨_, rfl⟩
      have HC_n9 := Lib.hid (show Cn V w w10_ o { o with past := z4, path := q9 } from hzq ▸ hlp.cn)
      have HG_n9 := Lib.hid (show Gr kNd (V + 2) w10_ q9 from hzq ▸ hlp.gr)
      have HER9 := Lib.hid (show q9.l.map LNd.er = o.path.l.map LNd.er from by rw [hzq]; exact lp_er hlp HN.out)
      have HOW9 := Lib.hid (show ∀ n ∈ q9.l, Gr kBx (V + 2) w10_ (LNd.boxes n) from by rw [hzq]; exact lp_own hlp)
      have H_z4_n9 := Lib.hid g0_
      clear hlp hkn hlt hzq g0_
      have k1 := (show World.cell? w10_ ⟨V, 14, none⟩ = some (.slice o.body.A o.body.l.length o.body.c) from (HC_n9.out.vr.cell 14).trans (LOp.c14 _))
      have HL := Lib.hid (clone_u8 o.body HC_n9.out.src.no.body (Nat.le_trans (show o.body.l.length ≤ 300 from Nat.le_trans HT.out.body (by decide)) (by decide)))
      go_wp2_with fail
      refine (HL.out).mono ?_
      rintro e u14 ⟨z14, rfl, hzl, hzg, hb⟩
      have HC1 := Lib.hid (HC_n9.out.below (hb.mono HC_n9.out.size))
      have HZLz14 := Lib.hid hzl
      have HG1 := Lib.hid (hzg.base (B' := V + 2) HC_n9.out.size)
      have O0 := Lib.hid (H_z4_n9.out.below hb)
      have O1 := Lib.hid (HG_n9.out.below hb)
      have A0 := Lib.hid (show ∀ n ∈ q9.l, Gr kBx (V + 2) u14 (LNd.boxes n) from fun n hn => (HOW9.out n hn).below hb)
      have kk := (HC1.out.vr.cell 14).trans (LOp.c14 _)
      have kf := HC1.out.vr.frozen 14
      clear k1 hzl hzg hb HL HC_n9 H_z4_n9 HG_n9 HOW9
      go_upto_region 9 with fail
      clear kk kf
      have HC_14 := Lib.hid (show Cn V w (u14.setCell ⟨V, 14, none⟩ (.slice z14.A z14.l.length z14.c)) o { o with past := z4, path := q9, body := z14 } from HC1.out.put 14 _ _ rfl)
      have G_z4_14 := Lib.hid (show Gr kNm (V + 2) (u14.setCell ⟨V, 14, none⟩ (.slice z14.A z14.l.length z14.c)) z4 from O0.out.put (by omega) _ _)
      have G_q9_14 := Lib.hid (show Gr kNd (V + 2) (u14.setCell ⟨V, 14, none⟩ (.slice z14.A z14.l.length z14.c)) q9 from O1.out.put (by omega) _ _)
      have G_z14_14 := Lib.hid (show Gr kU8 (V + 2) (u14.setCell ⟨V, 14, none⟩ (.slice z14.A z14.l.length z14.c)) z14 from HG1.out.put (by omega) _ _)
      have A_path_14 := Lib.hid (show ∀ n ∈ q9.l, Gr kBx (V + 2) (u14.setCell ⟨V, 14, none⟩ (.slice z14.A z14.l.length z14.c)) (LNd.boxes n) from fun n hn => (A0.out n hn).put (by omega) _ _)
      clear HC1 HG1 O0 O1 A0
      obtain ⟨w14, hw⟩ : ∃ W, W = (u14.setCell ⟨V, 14, none⟩ (.slice z14.A z14.l.length z14.c)) := ⟨_, rfl⟩
      rw [← hw] at HC_14 G_z4_14 G_q9_14 G_z14_14 A_path_14 ⊢
      clear hw
      have k1 := (show World.cell? w14 ⟨V, 15, none⟩ = some (.slice o.refs.A o.refs.l.length o.refs.c) from (HC_14.out.vr.cell 15).trans (LOp.c15 _))
      have HL := Lib.hid (clone_u64 o.refs HC_14.out.src.no.refs (Nat.le_trans (show o.refs.l.length ≤ 300 from Nat.le_trans HT.out.refs (by decide)) (by decide)))
      go_wp2_with fail
      refine (HL.out).mono ?_
      rintro e u15 ⟨z15, rfl, hzl, hzg, hb⟩
      have HC1 := Lib.hid (HC_14.out.below (hb.mono HC_14.out.size))
      have HZLz15 := Lib.hid hzl
      have HG1 := Lib.hid (hzg.base (B' := V + 2) HC_14.out.size)
      have O0 := Lib.hid (G_z4_14.out.below hb)
      have O1 := Lib.hid (G_q9_14.out.below hb)
      have O2 := Lib.hid (G_z14_14.out.below hb)
      have A0 := Lib.hid (show ∀ n ∈ q9.l, Gr kBx (V + 2) u15 (LNd.boxes n) from fun n hn => (A_path_14.out n hn).below hb)
      have kk := (HC1.out.vr.cell 15).trans (LOp.c15 _)
      have kf := HC1.out.vr.frozen 15
      clear k1 hzl hzg hb HL HC_14 G_z4_14 G_q9_14 G_z14_14 A_path_14
      go_upto_region 10 with fail
      clear kk kf
      have HC_15 := Lib.hid (show Cn V w (u15.setCell ⟨V, 15, none⟩ (.slice z15.A z15.l.length z15.c)) o { o with past := z4, path := q9, body := z14, refs := z15 } from HC1.out.put 15 _ _ rfl)
      have G_z4_15 := Lib.hid (show Gr kNm (V + 2) (u15.setCell ⟨V, 15, none⟩ (.slice z15.A z15.l.length z15.c)) z4 from O0.out.put (by omega) _ _)
      have G_q9_15 := Lib.hid (show Gr kNd (V + 2) (u15.setCell ⟨V, 15, none⟩ (.slice z15.A z15.l.length z15.c)) q9 from O1.out.put (by omega) _ _)
      have G_z14_15 := Lib.hid (show Gr kU8 (V + 2) (u15.setCell ⟨V, 15, none⟩ (.slice z15.A z15.l.length z15.c)) z14 from O2.out.put (by omega) _ _)
      have G_z15_15 := Lib.hid (show Gr kU64 (V + 2) (u15.setCell ⟨V, 15, none⟩ (.slice z15.A z15.l.length z15.c)) z15 from HG1.out.put (by omega) _ _)
      have A_path_15 := Lib.hid (show ∀ n ∈ q9.l, Gr kBx (V + 2) (u15.setCell ⟨V, 15, none⟩ (.slice z15.A z15.l.length z15.c)) (LNd.boxes n) from fun n hn => (A0.out n hn).put (by omega) _ _)
      clear HC1 HG1 O0 O1 O2 A0
      obtain ⟨w15, hw⟩ : ∃ W, W = (u15.setCell ⟨V, 15, none⟩ (.slice z15.A z15.l.length z15.c)) := ⟨_, rfl⟩
      rw [← hw] at HC_15 G_z4_15 G_q9_15 G_z14_15 G_z15_15 A_path_15 ⊢
      clear hw
      have k1 := (show World.cell? w15 ⟨V, 19, none⟩ = some (.slice o.guards.A o.guards.l.length o.guards.c) from (HC_15.out.vr.cell 19).trans (LOp.c19 _))
      have HL := Lib.hid (clone_int o.guards HC_15.out.src.no.guards (Nat.le_trans (show o.guards.l.length ≤ 300 from Nat.le_trans HT.out.guards (by decide)) (by decide)))
      go_wp2_with fail
      refine (HL.out).mono ?_
      rintro e u19 ⟨z19, rfl, hzl, hzg, hb⟩
      have HC1 := Lib.hid (HC_15.out.below (hb.mono HC_15.out.size))
      have HZLz19 := Lib.hid hzl
      have HG1 := Lib.hid (hzg.base (B' := V + 2) HC_15.out.size)
      have O0 := Lib.hid (G_z4_15.out.below hb)
      have O1 := Lib.hid (G_q9_15.out.below hb)
      have O2 := Lib.hid (G_z14_15.out.below hb)
      have O3 := Lib.hid (G_z15_15.out.below hb)
      have A0 := Lib.hid (show ∀ n ∈ q9.l, Gr kBx (V + 2) u19 (LNd.boxes n) from fun n hn => (A_path_15.out n hn).below hb)
      have kk := (HC1.out.vr.cell 19).trans (LOp.c19 _)
      have kf := HC1.out.vr.frozen 19
      clear k1 hzl hzg hb HL HC_15 G_z4_15 G_q9_15 G_z14_15 G_z15_15 A_path_15
      go_upto_region 11 with fail
      clear kk kf
      have HC_19 := Lib.hid (show Cn V w (u19.setCell ⟨V, 19, none⟩ (.slice z19.A z19.l.length z19.c)) o { o with past := z4, path := q9, body := z14, refs := z15, guards := z19 } from HC1.out.put 19 _ _ rfl)
      have G_z4_19 := Lib.hid (show Gr kNm (V + 2) (u19.setCell ⟨V, 19, none⟩ (.slice z19.A z19.l.length z19.c)) z4 from O0.out.put (by omega) _ _)
      have G_q9_19 := Lib.hid (show Gr kNd (V + 2) (u19.setCell ⟨V, 19, none⟩ (.slice z19.A z19.l.length z19.c)) q9 from O1.out.put (by omega) _ _)
      have G_z14_19 := Lib.hid (show Gr kU8 (V + 2) (u19.setCell ⟨V, 19, none⟩ (.slice z19.A z19.l.length z19.c)) z14 from O2.out.put (by omega) _ _)
      have G_z15_19 := Lib.hid (show Gr kU64 (V + 2) (u19.setCell ⟨V, 19, none⟩ (.slice z19.A z19.l.length z19.c)) z15 from O3.out.put (by omega) _ _)
      have G_z19_19 := Lib.hid (show Gr kInt (V + 2) (u19.setCell ⟨V, 19, none⟩ (.slice z19.A z19.l.length z19.c)) z19 from HG1.out.put (by omega) _ _)
      have A_path_19 := Lib.hid (show ∀ n ∈ q9.l, Gr kBx (V + 2) (u19.setCell ⟨V, 19, none⟩ (.slice z19.A z19.l.length z19.c)) (LNd.boxes n) from fun n hn => (A0.out n hn).put (by omega) _ _)
      clear HC1 HG1 O0 O1 O2 O3 A0
      obtain ⟨w19, hw⟩ : ∃ W, W = (u19.setCell ⟨V, 19, none⟩ (.slice z19.A z19.l.length z19.c)) := ⟨_, rfl⟩
      rw [← hw] at HC_19 G_z4_19 G_q9_19 G_z14_19 G_z15_19 G_z19_19 A_path_19 ⊢
      clear hw
      have k1 := (show World.cell? w19 ⟨V, 22, none⟩ = some (.slice o.boxes.A o.boxes.l.length o.boxes.c) from (HC_19.out.vr.cell 22).trans (LOp.c22 _))
      have HL := Lib.hid (clone_bx o.boxes HC_19.out.src.no.boxes (Nat.le_trans (show o.boxes.l.length ≤ 300 from Nat.le_trans HT.out.boxes (by decide)) (by decide)))
      go_wp2_with fail
      refine (HL.out).mono ?_
      rintro e u22 ⟨z22, rfl, hzl, hzg, hb⟩
      have HC1 := Lib.hid (HC_19.out.below (hb.mono HC_19.out.size))
      have HZLz22 := Lib.hid hzl
      have HG1 := Lib.hid (hzg.base (B' := V + 2) HC_19.out.size)
      have O0 := Lib.hid (G_z4_19.out.below hb)
      have O1 := Lib.hid (G_q9_19.out.below hb)
      have O2 := Lib.hid (G_z14_19.out.below hb)
      have O3 := Lib.hid (G_z15_19.out.below hb)
      have O4 := Lib.hid (G_z19_19.out.below hb)
      have A0 := Lib.hid (show ∀ n ∈ q9.l, Gr kBx (V + 2) u22 (LNd.boxes n) from fun n hn => (A_path_19.out n hn).below hb)
      have kk := (HC1.out.vr.cell 22).trans (LOp.c22 _)
      have kf := HC1.out.vr.frozen 22
      clear k1 hzl hzg hb HL HC_19 G_z4_19 G_q9_19 G_z14_19 G_z15_19 G_z19_19 A_path_19
      go_upto_region 12 with fail
      clear kk kf
      have HC_22 := Lib.hid (show Cn V w (u22.setCell ⟨V, 22, none⟩ (.slice z22.A z22.l.length z22.c)) o { o with past := z4, path := q9, body := z14, refs := z15, guards := z19, boxes := z22 } from HC1.out.put 22 _ _ rfl)
      have G_z4_22 := Lib.hid (show Gr kNm (V + 2) (u22.setCell ⟨V, 22, none⟩ (.slice z22.A z22.l.length z22.c)) z4 from O0.out.put (by omega) _ _)
      have G_q9_22 := Lib.hid (show Gr kNd (V + 2) (u22.setCell ⟨V, 22, none⟩ (.slice z22.A z22.l.length z22.c)) q9 from O1.out.put (by omega) _ _)
      have G_z14_22 := Lib.hid (show Gr kU8 (V + 2) (u22.setCell ⟨V, 22, none⟩ (.slice z22.A z22.l.length z22.c)) z14 from O2.out.put (by omega) _ _)
      have G_z15_22 := Lib.hid (show Gr kU64 (V + 2) (u22.setCell ⟨V, 22, none⟩ (.slice z22.A z22.l.length z22.c)) z15 from O3.out.put (by omega) _ _)
      have G_z19_22 := Lib.hid (show Gr kInt (V + 2) (u22.setCell ⟨V, 22, none⟩ (.slice z22.A z22.l.length z22.c)) z19 from O4.out.put (by omega) _ _)
      have G_z22_22 := Lib.hid (show Gr kBx (V + 2) (u22.setCell ⟨V, 22, none⟩ (.slice z22.A z22.l.length z22.c)) z22 from HG1.out.put (by omega) _ _)
      have A_path_22 := Lib.hid (show ∀ n ∈ q9.l, Gr kBx (V + 2) (u22.setCell ⟨V, 22, none⟩ (.slice z22.A z22.l.length z22.c)) (LNd.boxes n) from fun n hn => (A0.out n hn).put (by omega) _ _)
      clear HC1 HG1 O0 O1 O2 O3 O4 A0
      obtain ⟨w22, hw⟩ : ∃ W, W = (u22.setCell ⟨V, 22, none⟩ (.slice z22.A z22.l.length z22.c)) := ⟨_, rfl⟩
      rw [← hw] at HC_22 G_z4_22 G_q9_22 G_z14_22 G_z15_22 G_z19_22 G_z22_22 A_path_22 ⊢
      clear hw
      have k1 := (show World.cell? w22 ⟨V, 24, none⟩ = some (.slice o.hist.A o.hist.l.length o.hist.c) from (HC_22.out.vr.cell 24).trans (LOp.c24 _))
      have HL := Lib.hid (clone_sd o.hist HC_22.out.src.no.hist (Nat.le_trans (show o.hist.l.length ≤ 300 from (by have h := HT.out.hist; unfold LOp.er at h; rw [List.length_map] at h; omega)) (by decide)))
      go_wp2_with fail
      refine (HL.out).mono ?_
      rintro e u24 ⟨z24, rfl, hzl, hzg, hb⟩
      have HC1 := Lib.hid (HC_22.out.below (hb.mono HC_22.out.size))
      have HZLz24 := Lib.hid hzl
      have HG1 := Lib.hid (hzg.base (B' := V + 2) HC_22.out.size)
      have O0 := Lib.hid (G_z4_22.out.below hb)
      have O1 := Lib.hid (G_q9_22.out.below hb)
      have O2 := Lib.hid (G_z14_22.out.below hb)
      have O3 := Lib.hid (G_z15_22.out.below hb)
      have O4 := Lib.hid (G_z19_22.out.below hb)
      have O5 := Lib.hid (G_z22_22.out.below hb)
      have A0 := Lib.hid (show ∀ n ∈ q9.l, Gr kBx (V + 2) u24 (LNd.boxes n) from fun n hn => (A_path_22.out n hn).below hb)
      have kk := (HC1.out.vr.cell 24).trans (LOp.c24 _)
      have kf := HC1.out.vr.frozen 24
      clear k1 hzl hzg hb HL HC_22 G_z4_22 G_q9_22 G_z14_22 G_z15_22 G_z19_22 G_z22_22 A_path_22
      go_upto_region 13 with fail
      clear kk kf
      have HC_24 := Lib.hid (show Cn V w (u24.setCell ⟨V, 24, none⟩ (.slice z24.A z24.l.length z24.c)) o { o with past := z4, path := q9, body := z14, refs := z15, guards := z19, boxes := z22, hist := z24 } from HC1.out.put 24 _ _ rfl)
      have G_z4_24 := Lib.hid (show Gr kNm (V + 2) (u24.setCell ⟨V, 24, none⟩ (.slice z24.A z24.l.length z24.c)) z4 from O0.out.put (by omega) _ _)
      have G_q9_24 := Lib.hid (show Gr kNd (V + 2) (u24.setCell ⟨V, 24, none⟩ (.slice z24.A z24.l.length z24.c)) q9 from O1.out.put (by omega) _ _)
      have G_z14_24 := Lib.hid (show Gr kU8 (V + 2) (u24.setCell ⟨V, 24, none⟩ (.slice z24.A z24.l.length z24.c)) z14 from O2.out.put (by omega) _ _)
      have G_z15_24 := Lib.hid (show Gr kU64 (V + 2) (u24.setCell ⟨V, 24, none⟩ (.slice z24.A z24.l.length z24.c)) z15 from O3.out.put (by omega) _ _)
      have G_z19_24 := Lib.hid (show Gr kInt (V + 2) (u24.setCell ⟨V, 24, none⟩ (.slice z24.A z24.l.length z24.c)) z19 from O4.out.put (by omega) _ _)
      have G_z22_24 := Lib.hid (show Gr kBx (V + 2) (u24.setCell ⟨V, 24, none⟩ (.slice z24.A z24.l.length z24.c)) z22 from O5.out.put (by omega) _ _)
      have G_z24_24 := Lib.hid (show Gr kSd (V + 2) (u24.setCell ⟨V, 24, none⟩ (.slice z24.A z24.l.length z24.c)) z24 from HG1.out.put (by omega) _ _)
      have A_path_24 := Lib.hid (show ∀ n ∈ q9.l, Gr kBx (V + 2) (u24.setCell ⟨V, 24, none⟩ (.slice z24.A z24.l.length z24.c)) (LNd.boxes n) from fun n hn => (A0.out n hn).put (by omega) _ _)
      clear HC1 HG1 O0 O1 O2 O3 O4 O5 A0
      obtain ⟨w24, hw⟩ : ∃ W, W = (u24.setCell ⟨V, 24, none⟩ (.slice z24.A z24.l.length z24.c)) := ⟨_, rfl⟩
      rw [← hw] at HC_24 G_z4_24 G_q9_24 G_z14_24 G_z15_24 G_z19_24 G_z22_24 G_z24_24 A_path_24 ⊢
      clear hw
      obtain ⟨n24, hn⟩ : ∃ n, n = o.hist.l.length := ⟨_, rfl⟩
      obtain ⟨z24l, z24A, z24c⟩ := z24
      have HZ := Lib.hid (show z24l = o.hist.l from HZLz24.out)
      have HN := Lib.hid hn
      have hv : (Value.slice z24A z24l.length z24c) = .slice z24A n24 z24c := by rw [HZ.out, ← HN.out]
      have k1 : World.cell? w24 ⟨V, 24, none⟩ = some (.slice z24A n24 z24c) := by rw [← hv]; exact (HC_24.out.vr.cell 24).trans (LOp.c24 _)
      have hnn : n24 ≤ 300 := by rw [hn]; have h : o.hist.l.length ≤ 300 := (by have h := HT.out.hist; unfold LOp.er at h; rw [List.length_map] at h; omega); exact h
      clear hn hv HZLz24
      go_wp2_with fail
      have HLP := Lib.hid (show Lp kSd kU8 LSd.body LSd.er V w o o.hist.l (fun p => { o with past := z4, path := q9, body := z14, refs := z15, guards := z19, boxes := z22, hist := p }) z24A z24c n24 w24 0 z24l from ⟨by rw [HZ.out, ← HN.out], HC_24.out, G_z24_24.out, fun j hj => absurd hj (Nat.not_lt_zero _), fun j _ => by rw [HZ.out]⟩)
      have hkz : (Value.slice z24A n24 z24c) = .slice z24A n24 z24c := rfl
      clear hkz
      go_loopw [55] (fun i wr => ∃ (k : Nat) (cl : List LSd), k ≤ n24 ∧ i = .int .i64 (k : Int) ∧ Lp kSd kU8 LSd.body LSd.er V w o o.hist.l (fun p => { o with past := z4, path := q9, body := z14, refs := z15, guards := z19, boxes := z22, hist := p }) z24A z24c n24 wr k cl ∧ Gr kNm (V + 2) wr z4 ∧ Gr kNd (V + 2) wr q9 ∧ Gr kU8 (V + 2) wr z14 ∧ Gr kU64 (V + 2) wr z15 ∧ Gr kInt (V + 2) wr z19 ∧ Gr kBx (V + 2) wr z22 ∧ (∀ n ∈ q9.l, Gr kBx (V + 2) wr (LNd.boxes n))) (fun i _ => n24 - (intOf i).toNat)
      case atStart => exact ⟨0, z24l, Nat.zero_le _, rfl, HLP.out, G_z4_24.out, G_q9_24.out, G_z14_24.out, G_z15_24.out, G_z19_24.out, G_z22_24.out, A_path_24.out⟩
      case round =>
    obtain ⟨k, cl, hkn, rfl, hlp, g0_, g1_, g2_, g3_, g4_, g5_, g6_⟩ := hrel
    clear HLP HC_24 G_z24_24 G_z4_24 G_q9_24 G_z14_24 G_z15_24 G_z19_24 G_z22_24 A_path_24 k1
    by_cases hlt : k < n24
    · obtain ⟨y, hy⟩ : ∃ y, o.hist.l[k]? = some y := ⟨_, List.getElem?_eq_getElem (by rw [← HN.out]; exact hlt)⟩
      obtain ⟨g, hA, hgB, hgs, ⟨gcs, hgcs, hgsz⟩, hgc, -⟩ := hlp.gr.setAt (y' := y) (j := 3) (u := (LSd.body y).v) ((hlp.rest k (Nat.le_refl _)).trans hy) (by decide) rfl
      subst hA
      obtain ⟨wo, rfl⟩ : ∃ wo, wo = wr := ⟨_, rfl⟩
      have n0 : World.cell? wo ⟨g, k * 4, none⟩ = some (.int .i64 y.nm.a) := hgc 0 _ rfl
      have n1 : World.cell? wo ⟨g, k * 4 + 1, none⟩ = some (.int .i64 y.nm.b) := hgc 1 _ rfl
      have n2 : World.cell? wo ⟨g, k * 4 + 2, none⟩ = some (.int .u64 (y.nm.c : Int)) := hgc 2 _ rfl
      have n3 : World.cell? wo ⟨g, k * 4 + 3, none⟩ = some (.slice y.body.A y.body.l.length y.body.c) := hgc 3 _ rfl
      have kv := (show World.cell? wo ⟨V, 24, none⟩ = some (.slice (some ⟨g, 0, none⟩) n24 z24c) from by have h := (hlp.cn.vr.cell 24).trans (LOp.c24 _); rw [h]; show some (Value.slice _ cl.length _) = _; rw [hlp.len])
      have HLP := Lib.hid hlp
      have G0 := Lib.hid g0_
      have G1 := Lib.hid g1_
      have G2 := Lib.hid g2_
      have G3 := Lib.hid g3_
      have G4 := Lib.hid g4_
      have G5 := Lib.hid g5_
      have G6 := Lib.hid g6_
      have HGC := Lib.hid (And.intro hgB (And.intro hgs (And.intro hgcs hgsz)))
      have HY := Lib.hid hy
      have q0_ : (0 : Int) ≤ (k : Int) := by omega
      have q1_ : (k : Int) < (n24 : Int) := by omega
      clear hlp g0_ g1_ g2_ g3_ g4_ g5_ g6_ hgB hgs hgcs hgsz hgc hy hkn
      go_wp2_with fail
      obtain ⟨nb, hnb⟩ : ∃ nb, nb = wo.heap.size := ⟨_, rfl⟩
      have hblk := blk_new wo 81 #[.int .i64 y.nm.a, .int .i64 y.nm.b, .int .u64 (y.nm.c : Int), .slice y.body.A y.body.l.length y.body.c]
      have hba := (Below.refl wo.heap.size wo).alloc (Nat.le_refl _) (.cells #[.int .i64 y.nm.a, .int .i64 y.nm.b, .int .u64 (y.nm.c : Int), .slice y.body.A y.body.l.length y.body.c] 81)
      obtain ⟨w5, hw5⟩ : ∃ W, W = wo.alloc (.cells #[.int .i64 y.nm.a, .int .i64 y.nm.b, .int .u64 (y.nm.c : Int), .slice y.body.A y.body.l.length y.body.c] 81) := ⟨_, rfl⟩
      rw [← hw5] at hblk hba ⊢
      rw [← hnb] at hblk ⊢
      have HNB := Lib.hid (show Blk w5.drew nb 81 #[.int .i64 y.nm.a, .int .i64 y.nm.b, .int .u64 (y.nm.c : Int), .slice y.body.A y.body.l.length y.body.c] from hblk)
      have HBA := Lib.hid (show Below wo.heap.size wo w5.drew from hba.trans (below_drewN w5 1 _))
      have HL5 := Lib.hid (HLP.out.below HBA.out)
      have F0 := Lib.hid (G0.out.below HBA.out)
      have F1 := Lib.hid (G1.out.below HBA.out)
      have F2 := Lib.hid (G2.out.below HBA.out)
      have F3 := Lib.hid (G3.out.below HBA.out)
      have F4 := Lib.hid (G4.out.below HBA.out)
      have F5 := Lib.hid (G5.out.below HBA.out)
      have F6 := Lib.hid (show ∀ n ∈ q9.l, Gr kBx (V + 2) w5.drew (LNd.boxes n) from fun n hn => (G6.out n hn).below HBA.out)
      have HG5 := Lib.hid (show V + 2 ≤ g ∧ g < nb ∧ Blk w5.drew g 81 gcs ∧ k * 4 + 3 < gcs.size from ⟨HGC.out.1, hnb ▸ HGC.out.2.1, HGC.out.2.2.1.below HBA.out HGC.out.2.1, HGC.out.2.2.2⟩)
      have kv5 : World.cell? w5.drew ⟨V, 24, none⟩ = some (.slice (some ⟨g, 0, none⟩) n24 z24c) := by have h := (HL5.out.cn.vr.cell 24).trans (LOp.c24 _); rw [h]; show some (Value.slice _ cl.length _) = _; rw [HL5.out.len]
      have kb5 : World.cell? w5.drew ⟨nb, 3, none⟩ = some (.slice y.body.A y.body.l.length y.body.c) := HNB.out.cell 3
      have HSZ := Lib.hid (show nb < w5.drew.heap.size from HNB.out.lt)
      clear hnb hblk hba hw5 HBA HLP HGC n0 n1 n2 n3 kv G0 G1 G2 G3 G4 G5 G6
      refine wp_region_held_drew (S := (fun w' : World => w'.cell? ⟨V, 24, none⟩ = some (.slice (some ⟨g, 0, none⟩) n24 z24c) ∧ w'.cell? ⟨nb, 3, none⟩ = some (.slice y.body.A y.body.l.length y.body.c))) (by kernel_rfl) ⟨kv5, kb5⟩ (fun hHeld => ?_)
      try simp only [lays]
      refine wpAnyH_take (i := 0) (v := ?_) rfl (by kernel_rfl) (by kernel_rfl) (by kernel_rfl) (fun _ _ _ h => h) (Or.inl ⟨by rfl, ?_⟩) (by assumption) ?_
      rotate_left
      · (intro w hSw; (try dsimp only at hSw); obtain ⟨s0, s1⟩ := hSw; go_simp; try (with_reducible rfl))
      try simp only [lays]
      refine wpAnyH_take (i := 1) (v := ?_) rfl (by kernel_rfl) (by kernel_rfl) (by kernel_rfl) (fun _ _ _ h => h) (Or.inl ⟨by rfl, ?_⟩) (by assumption) ?_
      rotate_left
      · (intro w hSw; (try dsimp only at hSw); obtain ⟨s0, s1⟩ := hSw; go_simp; try (with_reducible rfl))
      try simp only [lays]
      refine wpAnyH_take (i := 2) (v := ?_) rfl (by kernel_rfl) (by kernel_rfl) (by kernel_rfl) (fun _ _ _ h => h) (Or.inl ⟨by rfl, ?_⟩) (by assumption) ?_
      rotate_left
      · (intro w hSw; (try dsimp only at hSw); obtain ⟨s0, s1⟩ := hSw; go_simp; try (with_reducible rfl))
      try simp only [lays]
      refine wpAnyH_take (i := 3) (v := ?_) rfl (by kernel_rfl) (by kernel_rfl) (by kernel_rfl) (fun _ _ _ h => h) (Or.inl ⟨by rfl, ?_⟩) (by assumption) ?_
      rotate_left
      · (intro w hSw; (try dsimp only at hSw); obtain ⟨s0, s1⟩ := hSw; go_simp; try (with_reducible rfl))
      try simp only [lays]
      refine wpAnyH_take (i := 4) (v := ?_) rfl (by kernel_rfl) (by kernel_rfl) (by kernel_rfl) (fun _ _ _ h => h) (Or.inl ⟨by rfl, ?_⟩) (by assumption) ?_
      rotate_left
      · (intro w hSw; (try dsimp only at hSw); obtain ⟨s0, s1⟩ := hSw; go_simp; try (with_reducible rfl))
      try simp only [lays]
      refine wpAnyH_ready (rs := [5]) (by kernel_rfl) (by simp) ?_
      refine AllReadyH.cons rfl (fun K hK => ?_) AllReadyH.nil
      clear kv5 kb5
      go_simp
      have HC5 := Lib.hid (clone_u8 y.body (HL5.out.cn.src.histB y (List.mem_of_getElem? HY.out)).no (Nat.le_trans (show y.body.l.length ≤ 300 from HT.out.histB y.er (List.mem_map_of_mem (List.mem_of_getElem? HY.out))) (by decide)))
      refine (HC5.out).mono ?_
      rintro e w6 ⟨z, rfl, hzl, hzg, hb⟩
      have HL6 := Lib.hid (HL5.out.below hb)
      have E0 := Lib.hid (F0.out.below hb)
      have E1 := Lib.hid (F1.out.below hb)
      have E2 := Lib.hid (F2.out.below hb)
      have E3 := Lib.hid (F3.out.below hb)
      have E4 := Lib.hid (F4.out.below hb)
      have E5 := Lib.hid (F5.out.below hb)
      have E6 := Lib.hid (show ∀ n ∈ q9.l, Gr kBx (V + 2) w6 (LNd.boxes n) from fun n hn => (F6.out n hn).below hb)
      have HG6 := Lib.hid (show V + 2 ≤ g ∧ g < nb ∧ Blk w6 g 81 gcs ∧ k * 4 + 3 < gcs.size from ⟨HG5.out.1, HG5.out.2.1, HG5.out.2.2.1.below hb (HG5.out.2.2.1.lt), HG5.out.2.2.2⟩)
      have HNB6 := Lib.hid (HNB.out.below hb HNB.out.lt)
      have HZZ := Lib.hid (hzg.base (B' := V + 2) (HL5.out.cn.size))
      have HZL := Lib.hid hzl
      have kv6 : World.cell? w6 ⟨V, 24, none⟩ = some (.slice (some ⟨g, 0, none⟩) n24 z24c) := by have h := (HL6.out.cn.vr.cell 24).trans (LOp.c24 _); rw [h]; show some (Value.slice _ cl.length _) = _; rw [HL6.out.len]
      have kb6 : World.cell? w6 ⟨nb, 3, none⟩ = some (.slice y.body.A y.body.l.length y.body.c) := HNB6.out.cell 3
      clear hb hzl hzg HC5 HL5 HG5 HNB HSZ F0 F1 F2 F3 F4 F5 F6
      try go_simp
      refine hK.out _ _ ⟨kv6, kb6⟩ (fun hHeld1 => ?_)
      clear hK K
      try simp only [lays]
      refine wpAnyH_take (i := 6) (v := ?_) rfl (by kernel_rfl) (by kernel_rfl) (by kernel_rfl) (fun _ _ _ h => h) (Or.inl ⟨by rfl, ?_⟩) (by assumption) ?_
      rotate_left
      · (intro w hSw; (try dsimp only at hSw); obtain ⟨s0, s1⟩ := hSw; go_simp; try (with_reducible rfl))
      try simp only [lays]
      refine wpAnyH_take (i := 7) (v := ?_) rfl (by kernel_rfl) (by kernel_rfl) (by kernel_rfl) (fun _ _ _ h => h) (Or.inl ⟨by rfl, ?_⟩) (by assumption) ?_
      rotate_left
      · (intro w hSw; (try dsimp only at hSw); obtain ⟨s0, s1⟩ := hSw; go_simp; try (with_reducible rfl))
      try simp only [lays]
      obtain ⟨gu, hgu⟩ : ∃ u, gcs[k * 4 + 3]? = some u := ⟨_, Array.getElem?_eq_getElem HG6.out.2.2.2⟩
      have kk : World.cell? w6 ⟨g, k * 4 + 3, none⟩ = some gu := (HG6.out.2.2.1.cell _).trans hgu
      have kf := HG6.out.2.2.1.frozen (k * 4 + 3)
      have HL7 := Lib.hid (HL6.out.put (y' := { y with body := z }) (j := 3) (u := .slice z.A z.l.length z.c) HY.out (by decide) rfl (by show Sd.mk y.nm z.l = Sd.mk y.nm y.body.l; rw [HZL.out]) HZZ.out (by decide) (fun l l' h => by simp only [LOp.cells, Ls.v, h]) rfl)
      have hbf : Bf (fun q => q = g) w6 (w6.setCell ⟨g, k * 4 + 3, none⟩ (.slice z.A z.l.length z.c)) := Bf.set w6 rfl
      have D0 := Lib.hid (E0.out.other HG6.out.2.2.1 (by decide) (k * 4 + 3) (.slice z.A z.l.length z.c))
      have D1 := Lib.hid (E1.out.other HG6.out.2.2.1 (by decide) (k * 4 + 3) (.slice z.A z.l.length z.c))
      have D2 := Lib.hid (E2.out.other HG6.out.2.2.1 (by decide) (k * 4 + 3) (.slice z.A z.l.length z.c))
      have D3 := Lib.hid (E3.out.other HG6.out.2.2.1 (by decide) (k * 4 + 3) (.slice z.A z.l.length z.c))
      have D4 := Lib.hid (E4.out.other HG6.out.2.2.1 (by decide) (k * 4 + 3) (.slice z.A z.l.length z.c))
      have D5 := Lib.hid (E5.out.other HG6.out.2.2.1 (by decide) (k * 4 + 3) (.slice z.A z.l.length z.c))
      have D6 := Lib.hid (show ∀ n ∈ q9.l, Gr kBx (V + 2) (w6.setCell ⟨g, k * 4 + 3, none⟩ (.slice z.A z.l.length z.c)) (LNd.boxes n) from fun n hn => (E6.out n hn).other HG6.out.2.2.1 (by decide) (k * 4 + 3) (.slice z.A z.l.length z.c))
      have HNB7 := Lib.hid (hbf.blk HNB6.out (by have := HG6.out.2.1; show ¬ nb = g; omega))
      have kv7 : World.cell? (w6.setCell ⟨g, k * 4 + 3, none⟩ (.slice z.A z.l.length z.c)) ⟨V, 24, none⟩ = some (.slice (some ⟨g, 0, none⟩) n24 z24c) := (show World.cell? (w6.setCell ⟨g, k * 4 + 3, none⟩ (.slice z.A z.l.length z.c)) ⟨V, 24, none⟩ = some (Value.slice (some ⟨g, 0, none⟩) (List.set cl k { y with body := z }).length z24c) from (HL7.out.cn.vr.cell 24).trans (LOp.c24 _)).trans (by rw [HL7.out.len])
      have kb7 : World.cell? (w6.setCell ⟨g, k * 4 + 3, none⟩ (.slice z.A z.l.length z.c)) ⟨nb, 3, none⟩ = some (.slice y.body.A y.body.l.length y.body.c) := HNB7.out.cell 3
      have HKV := Lib.hid (And.intro kv7 kb7)
      clear hbf hgu kv6 kb6 kv7 kb7 HL6 HZZ HZL HG6 HNB6 HNB7 E0 E1 E2 E3 E4 E5 E6
      refine wpAnyH_ready (rs := [8]) (by kernel_rfl) (by simp) ?_
      refine AllReadyH.cons rfl (fun K hK => ?_) AllReadyH.nil
      go_simp
      refine hK.out _ _ HKV.out (fun hHeld2 => ?_)
      clear hK K kk kf HKV
      try simp only [lays]
      refine wpAnyH_done (by kernel_rfl) ?_ _
      clear hHeld hHeld1 hHeld2
      go_wp2
      go_roundw
      case rel => exact ⟨k + 1, _, by omega, by go_num, HL7.out, D0.out, D1.out, D2.out, D3.out, D4.out, D5.out, D6.out⟩
      case measure => simp [intOf]; omega
    · have hkq : k = n24 := by omega
      subst hkq
      obtain ⟨w25_, rfl⟩ : ∃ W, W = wr := ⟨_, rfl⟩
      obtain ⟨q24, hzq⟩ : ∃ q : Ls LSd, q = ⟨cl, z24A, z24c⟩ := ⟨_, rfl⟩
      have HC_n24 := Lib.hid (show Cn V w w25_ o { o with past := z4, path := q9, body := z14, refs := z15, guards := z19, boxes := z22, hist := q24 } from hzq ▸ hlp.cn)
      have HG_n24 := Lib.hid (show Gr kSd (V + 2) w25_ q24 from hzq ▸ hlp.gr)
      have HER24 := Lib.hid (show q24.l.map LSd.er = o.hist.l.map LSd.er from by rw [hzq]; exact lp_er hlp HN.out)
      have HOW24 := Lib.hid (show ∀ n ∈ q24.l, Gr kU8 (V + 2) w25_ (LSd.body n) from by rw [hzq]; exact lp_own hlp)
      have H_z4_n24 := Lib.hid g0_
      have H_q9_n24 := Lib.hid g1_
      have H_z14_n24 := Lib.hid g2_
      have H_z15_n24 := Lib.hid g3_
      have H_z19_n24 := Lib.hid g4_
      have H_z22_n24 := Lib.hid g5_
      have A_path_n24 := Lib.hid (show ∀ n ∈ q9.l, Gr kBx (V + 2) w25_ (LNd.boxes n) from g6_)
      clear hlp hkn hlt hzq g0_ g1_ g2_ g3_ g4_ g5_ g6_
      obtain ⟨c, hc⟩ : ∃ c : LOp, c = { o with past := z4, path := q9, body := z14, refs := z15, guards := z19, boxes := z22, hist := q24 } := ⟨_, rfl⟩
      have HCC := Lib.hid (show Cn V w w25_ o c from hc ▸ HC_n24.out)
      have HOW := Lib.hid (show Own (V + 2) w25_ c from hc ▸ ⟨H_z4_n24.out, H_q9_n24.out, A_path_n24.out, H_z14_n24.out, H_z15_n24.out, H_z19_n24.out, H_z22_n24.out, HG_n24.out, HOW24.out⟩)
      have HEE := Lib.hid (show c.er = o.er from by rw [hc]; unfold LOp.er; simp only; rw [show z4.l = o.past.l from HZLz4.out, show q9.l.map LNd.er = o.path.l.map LNd.er from HER9.out, show z14.l = o.body.l from HZLz14.out, show z15.l = o.refs.l from HZLz15.out, show z19.l = o.guards.l from HZLz19.out, show z22.l = o.boxes.l from HZLz22.out, show q24.l.map LSd.er = o.hist.l.map LSd.er from HER24.out])
      clear hc HC_n24 H_z4_n24 H_q9_n24 H_z14_n24 H_z15_n24 H_z19_n24 H_z22_n24 HG_n24 A_path_n24 HOW24
      go_wp2_with (first | (refine wpList_load_op rfl _ rfl rfl HCC.out.vr ?_) | (refine wpList_store_op (o' := c) rfl _ _ rfl rfl rfl HCC.out.res ?_))
      refine bodyPost_ret (v := c.v) (results_op rfl rfl _ rfl (HCC.out.res.setRow c)) rfl ?_
      have hs : Bf (fun k => k = V + 1) w25_ (w25_.setRow (V + 1) c.cells) := Bf.setRow _ rfl
      have hO := HOW.out
      have hS : ∀ {α : Type} {K : Kd α} {x : Ls α}, Gr K (V + 2) w25_ x → Gr K w.heap.size (w25_.setRow (V + 1) c.cells) x := fun h => (h.bf hs (fun k hk => by have hk : k = V + 1 := hk; omega)).base (by have := HV.out; omega)
      refine ⟨c, rfl, HEE.out, ⟨hS hO.past, hS hO.path, fun n hn => hS (hO.pathB n hn), hS hO.body, hS hO.refs, hS hO.guards, hS hO.boxes, hS hO.hist, fun n hn => hS (hO.histB n hn)⟩, ?_⟩
      have hb := Below.trans HCC.out.bel (hs.dn (by have := HCC.out.size; omega) (fun k hk => by have hk : k = V + 1 := hk; omega))
      rw [HV.out] at hb ⊢
      exact hb
end Ot
end Go.Proofs.YtkicjjcangkneaaGreatDoor

/-
  op.Sign, the reference's Secret and Signed: an operation, signed by a secret. For operations of few items.
-/
namespace Go.Proofs.YtkicjjcangkneaaGreatDoor
open Go.RowKit
set_option linter.unusedSimpArgs false
set_option linter.unusedVariables false
attribute [local go_sem ↓] Go.wp_at_zero Go.wp_at_succ
set_option maxRecDepth 100000
namespace Ot
theorem Lz.bt {F : Nat → Prop} {w : World} {x : Ls UInt8} (h : Lz kU8 F w x) : Bt w x.A x.l.length x.c x.l := ⟨rfl, h.cap, h.nil, h.rd8⟩
theorem Gr.other2 {α : Type} {K : Kd α} {B g t : Nat} {W W' : World} {x : Ls α} {cs : Array Value} (h : Gr K B W x) (hb : Blk W g t cs) (ht : K.ty ≠ t) (hg : W.grownBy W' (some g)) : Gr K B W' x :=
  World.ownsRow.kept h hg (by
    cases e : x.v.ownBlock with
    | none => exact .inl rfl
    | some b =>
      refine .inr fun e2 => ht ?_
      injection e2 with e2
      subst e2
      rcases h.2 with ⟨e3, _⟩ | ⟨g2, cap, cur, e3, _, hh, _⟩
      · rw [e3] at e; cases e
      · rw [e3] at e
        have e : some g2 = some b := e
        injection e with e
        subst e
        have h5 : W.heap[g2]? = some (Obj.cells cs t (0, 0)) := hb
        have h6 := hh
        rw [h5] at h6
        injection h6 with h6
        injection h6 with h7 h8
        exact h8.symm)
theorem Own.map {B B' : Nat} {W W' : World} {o : LOp} (h : Own B W o) (f : ∀ {α : Type} {K : Kd α} {x : Ls α}, Gr K B W x → Gr K B' W' x) : Own B' W' o :=
  ⟨f h.past, f h.path, fun n hn => f (h.pathB n hn), f h.body, f h.refs, f h.guards, f h.boxes, f h.hist, fun n hn => f (h.histB n hn)⟩
theorem Own.below {B : Nat} {W W' : World} {o : LOp} (h : Own B W o) (hb : Below W.heap.size W W') : Own B W' o := h.map fun g => g.below hb
theorem Own.kept {B V : Nat} {W W' : World} {o : LOp} {cs : Array Value} (h : Own B W o) (hV : Blk W V 35 cs) (hg : W.grownBy W' (some V)) : Own B W' o :=
  ⟨h.past.other2 hV (by decide) hg, h.path.other2 hV (by decide) hg, fun n hn => (h.pathB n hn).other2 hV (by decide) hg, h.body.other2 hV (by decide) hg, h.refs.other2 hV (by decide) hg, h.guards.other2 hV (by decide) hg, h.boxes.other2 hV (by decide) hg, h.hist.other2 hV (by decide) hg, fun n hn => (h.histB n hn).other2 hV (by decide) hg⟩
theorem Own.sig {B : Nat} {W : World} {o : LOp} (h : Own B W o) (r s : Nat) : Own B W { o with r := r, s := s } := ⟨h.past, h.path, h.pathB, h.body, h.refs, h.guards, h.boxes, h.hist, h.histB⟩
theorem Own.lies {B : Nat} {W : World} {o : LOp} (h : Own B W o) : Lies (fun k => k < B) W o :=
  ⟨h.past.lz fun _ hk => hk, h.path.lz fun _ hk => hk, fun n hn => (h.pathB n hn).lz fun _ hk => hk, h.body.lz fun _ hk => hk, h.refs.lz fun _ hk => hk, h.guards.lz fun _ hk => hk, h.boxes.lz fun _ hk => hk, h.hist.lz fun _ hk => hk, fun n hn => (h.histB n hn).lz fun _ hk => hk⟩
/-- A signature's operation. -/
def sgd (o : Er) (s : Nat) : Er := { o with r := Sg.R s (Sg.msg (con o)), s := Sg.S s (Sg.msg (con o)) }
theorem con_len2 {o : Er} (h : Tiny o) : (con o).length ≤ 30000 := by
  have := put_len h
  unfold put at this
  rw [List.length_append] at this
  omega

set_option maxHeartbeats 4000000 in
theorem opsign_any {w : World} (s : Nat) (hs : u64 s) (o : LOp) (hx : Lies No w o) (ht : Tiny o.er) :
    Calls Tryz.prog 25 #[.int .u64 (s : Int), o.v] w fun e w' => ∃ z : LOp, e = .returned z.v ∧ z.er = sgd o.er s ∧ Own w.heap.size w' z ∧ Below w.heap.size w w' := by
  obtain ⟨cs, hcs⟩ : ∃ cs, cs = o.cells := ⟨_, rfl⟩
  have hC := Cn.start w o hx
  obtain ⟨V, hV⟩ : ∃ V, V = w.heap.size := ⟨_, rfl⟩
  have HV := Lib.hid hV
  have HC := Lib.hid (show Cn V w ((w.alloc (.cells cs 35)).alloc (.cells LOp.zero.cells 35)) o o from by rw [hV, hcs]; exact hC)
  have HT := Lib.hid ht
  have HS := Lib.hid hs
  show Calls _ _ #[_, .agg o.cells] w _
  rw [← hcs]
  clear hx ht hcs hC hV hs
  go_enter Tryz.func25, Tryz.ntmps25
  go_upto_region 1 with fail
  rw [zc]
  obtain ⟨w0, hw⟩ : ∃ W, W = ((w.alloc (.cells cs 35)).alloc (.cells LOp.zero.cells 35)) := ⟨_, rfl⟩
  rw [← hw] at HC ⊢
  rw [← HV.out]
  clear hw
  have HL := Lib.hid (clone_any o HC.out.src.no HT.out)
  go_wp2_with (refine wpList_load_op rfl _ rfl rfl HC.out.vr ?_)
  refine (HL.out).mono ?_
  rintro e w1 ⟨z, rfl, hze, hzo, hb⟩
  have HVZ := Lib.hid (Vr.new w1 LOp.zero)
  have HVN := Lib.hid (var_new w1 z)
  have hb2 := hb.trans (var_below w1 LOp.zero z hb.size)
  have HO := Lib.hid (hzo.below (var_below w1 LOp.zero z (Nat.le_refl _)))
  have HC2 := Lib.hid (HC.out.below (hb2.mono HC.out.size))
  have HZE := Lib.hid hze
  have HSZ := Lib.hid (show V + 2 ≤ w0.heap.size ∧ w0.heap.size ≤ w1.heap.size from ⟨HC.out.size, hb.size⟩)
  clear hze hzo hb hb2 HL HC
  go_upto_region 2 with (refine wpList_store_op (o' := z) rfl _ _ rfl rfl rfl HVZ.out ?_)
  rw [zc]
  obtain ⟨S, hS⟩ : ∃ V, V = w1.heap.size := ⟨_, rfl⟩
  obtain ⟨w2, hw2⟩ : ∃ W, W = (w1.alloc (.cells LOp.zero.cells 35)).setRow w1.heap.size z.cells := ⟨_, rfl⟩
  rw [← hw2] at HVN HO HC2 ⊢
  rw [← hS] at HVN HSZ ⊢
  clear hw2 hS HVZ
  have HL := Lib.hid (content_any o HC2.out.src.no HT.out.small (by have := con_len2 HT.out; omega))
  go_wp2_with (refine wpList_load_op rfl _ rfl rfl HC2.out.vr ?_)
  refine (HL.out).mono ?_
  rintro e w3 ⟨y, rfl, hyl, hgy, hb⟩
  have HVN3 := Lib.hid (HVN.out.below hb (Blk.lt HVN.out))
  have HO3 := Lib.hid (HO.out.below hb)
  have HC3 := Lib.hid (HC2.out.below (hb.mono HC2.out.size))
  have HSI := Lib.hid (show Calls Tryz.prog 66 #[.int .u64 (s : Int), y.v] w3 _ from sign_any (hgy.lz (F := No) fun _ h => h.elim).bt (by rw [hyl]; have := con_len2 HT.out; omega) s HS.out)
  have HYL := Lib.hid hyl
  clear hyl hgy hb HL HVN HO HC2
  go_wp2_with fail
  refine (HSI.out).mono ?_
  rintro e w4 ⟨rfl, hb⟩
  have HVN4 := Lib.hid (HVN3.out.below hb (Blk.lt HVN3.out))
  have HO4 := Lib.hid (HO3.out.below hb)
  have HC4 := Lib.hid (HC3.out.below (hb.mono HC3.out.size))
  rw [HYL.out]
  obtain ⟨R1, hR1⟩ : ∃ r, r = Sg.R s (Sg.msg (con o.er)) := ⟨_, rfl⟩
  obtain ⟨S1, hS1⟩ : ∃ r, r = Sg.S s (Sg.msg (con o.er)) := ⟨_, rfl⟩
  rw [← hR1, ← hS1]
  have HRS := Lib.hid (And.intro hR1 hS1)
  clear hb HSI HVN3 HO3 HC3 HYL hR1 hS1
  go_upto_region 3 with (refine wpList_store_sig rfl (.tmp 12) (.tmp 11) rfl (r := R1) (s := S1) rfl rfl HVN4.out ?_; intro w5 hv5 hg5; have HV5 := Lib.hid hv5; have HO5 := Lib.hid ((HO4.out.kept HVN4.out hg5).sig R1 S1); have HC5 := Lib.hid (show Vr w5 (V + 1) LOp.zero ∧ Below V w w5 ∧ V + 2 ≤ w5.heap.size from ⟨blk_grown HC4.out.res hg5 (fun eg => by injection eg with eg; have := HSZ.out; omega), HC4.out.bel.grown hg5 (by have := HC4.out.size; omega) (fun g eg => by injection eg with eg; have := HSZ.out; omega), Nat.le_trans HC4.out.size hg5.size⟩); clear hv5 hg5)
  obtain ⟨c, hc⟩ : ∃ c : LOp, c = { z with r := R1, s := S1 } := ⟨_, rfl⟩
  rw [← hc] at HV5 HO5
  have HEE := Lib.hid (show c.er = sgd o.er s from by rw [hc]; unfold sgd; rw [← HRS.out.1, ← HRS.out.2, ← HZE.out]; rfl)
  clear hc HVN4 HO4 HC4 HZE HRS
  go_wp2_with (first | (refine wpList_load_op rfl _ rfl rfl HV5.out ?_) | (refine wpList_store_op (o' := c) rfl _ _ rfl rfl rfl HC5.out.1 ?_))
  refine bodyPost_ret (v := c.v) (results_op rfl rfl _ rfl (HC5.out.1.setRow c)) rfl ?_
  have hs : Bf (fun k => k = V + 1) w5 (w5.setRow (V + 1) c.cells) := Bf.setRow _ rfl
  refine ⟨c, rfl, HEE.out, HO5.out.map (fun h => (h.bf hs (fun k hk => by have hk : k = V + 1 := hk; have := HSZ.out; omega)).base (by have := HV.out; have := HSZ.out; omega)), ?_⟩
  have hb := Below.trans HC5.out.2.1 (hs.dn (by have := HC5.out.2.2; omega) (fun k hk => by have hk : k = V + 1 := hk; omega))
  rw [HV.out] at hb ⊢
  exact hb
end Ot
end Go.Proofs.YtkicjjcangkneaaGreatDoor

/-
  The reference's Secret and Signed, and op.Verify: whose signature an operation bears. For operations of few items.
-/
namespace Go.Proofs.YtkicjjcangkneaaGreatDoor
open Go.RowKit
set_option linter.unusedSimpArgs false
set_option linter.unusedVariables false
attribute [local go_sem ↓] Go.wp_at_zero Go.wp_at_succ
set_option maxRecDepth 100000
namespace Ot
open List (getElem_toArray getElem_cons_succ getElem_cons_zero setIfInBounds_toArray set_cons_zero set_cons_succ)
/-- A device's secret, of a kind of key. -/
def sec11 (s : ByteArray) (d : Int) : Nat := Hsh.secret s.data.toList [(IntKind.u64.wrap d).toNat]
theorem sec11_lt (s : ByteArray) (d : Int) : sec11 s d < 18446744073709551616 := by
  unfold sec11 Hsh.secret
  omega
theorem secret11_any (s : ByteArray) (hs : s.size ≤ 1000000) (d : Int) (w : World) :
    Calls Tryz.prog 26 #[.string s, .int .i64 d] w fun e w' => e = .returned (.int .u64 (sec11 s d : Nat)) ∧ Below w.heap.size w w' := by
  obtain ⟨uz, huz⟩ : ∃ u : Nat, IntKind.u64.wrap d = (u : Int) := ⟨(IntKind.u64.wrap d).toNat, (Int.toNat_of_nonneg (by rw [IntKind.wrap_u64]; omega)).symm⟩
  obtain ⟨x, hx⟩ : ∃ x, x = sec11 s d := ⟨_, rfl⟩
  have H := Lib.hid (show Calls Tryz.prog 67 #[.string s, .slice (some ⟨w.heap.size, 0, none⟩) 1 1] (w.alloc (.cells #[.int .u64 (uz : Int)] 25)) _ from rsecret_any s [uz] (some ⟨w.heap.size, 0, none⟩) 1 1 _ hs rfl (by omega) (Sl.rd_blk (blk_new w 25 #[.int .u64 (uz : Int)]) rfl))
  have HX := Lib.hid (show Hsh.secret s.data.toList [uz] = x from by rw [hx]; unfold sec11; rw [huz, Int.toNat_natCast])
  rw [← hx]
  clear hx hs
  go_enter Tryz.func26, Tryz.ntmps26
  go_wp2_with fail
  refine (H.out).mono ?_
  rintro e w1 ⟨rfl, hb⟩
  rw [HX.out]
  have HB := Lib.hid hb
  clear hb H HX
  go_wp2
  go_ret
  exact ⟨rfl, ((Below.refl _ w).alloc (Nat.le_refl _) _).trans (HB.out.mono (by simp))⟩
/-- A store of a signature, as one step of a region. -/
theorem step_store_sig {ops : Array Oper} {op : Oper} {a : Act} {w : World} {G : Act → World → Prop} {Q : Exit → Act → World → Prop} {E : Prop} (hgd : op.guard = none) (x y : Operand) (ho : op.op = .store 33 x y)
    {V r s : Nat} {o : LOp} (hx : a.eval x = .pointer (some ⟨V, 25, none⟩)) (hy : a.eval y = .agg #[.int .u64 (r : Int), .int .u64 (s : Int)]) (hV : Vr w V o)
    (h : ∀ w', Vr w' V { o with r := r, s := s } → w.grownBy w' (some V) → G (a.put op.dst undef) w') : if Region.wanted op (yielded ops a.tmps) = true then Oper.wp Tryz.prog op a w G Q else E := by
  rw [if_pos (by simp [Region.wanted, hgd])]
  exact wp_store_mid 33 x y ho V 25 _ hx hy (hV.there 25 2 (by omega)) sig_info (by simp [Value.oneCell'])
    (h _ ((hV.set 25 (.int .u64 (r : Int)) { o with r := r } rfl).set 26 (.int .u64 (s : Int)) { o with r := r, s := s } rfl) (only_set (only_set (only_refl _ _) 25 _) 26 _))

set_option maxHeartbeats 4000000 in
theorem signed_any {w : World} (o : LOp) (hx : Lies No w o) (ht : Tiny o.er) :
    Calls Tryz.prog 27 #[o.v] w fun e w' => ∃ z : LOp, e = .returned z.v ∧ z.er = sgd o.er (sec11 ⟨#[115, 105, 103, 110]⟩ o.by_) ∧ Lies No w' z ∧ Below w.heap.size w w' := by
  obtain ⟨cs, hcs⟩ : ∃ cs, cs = o.cells := ⟨_, rfl⟩
  have hC := Cn.start w o hx
  obtain ⟨V, hV⟩ : ∃ V, V = w.heap.size := ⟨_, rfl⟩
  have HV := Lib.hid hV
  have HC := Lib.hid (show Cn V w ((w.alloc (.cells cs 35)).alloc (.cells LOp.zero.cells 35)) o o from by rw [hV, hcs]; exact hC)
  have HT := Lib.hid ht
  show Calls _ _ #[.agg o.cells] w _
  rw [← hcs]
  clear hx ht hcs hC hV
  go_enter Tryz.func27, Tryz.ntmps27
  go_upto_region 1 with fail
  rw [zc]
  obtain ⟨w0, hw⟩ : ∃ W, W = ((w.alloc (.cells cs 35)).alloc (.cells LOp.zero.cells 35)) := ⟨_, rfl⟩
  rw [← hw] at HC ⊢
  rw [← HV.out]
  clear hw
  have HC1 := Lib.hid (show Cn V w w0.drew o o from HC.out.below (below_drewN w0 1 _))
  obtain ⟨x, hx⟩ : ∃ x, x = sec11 ⟨#[115, 105, 103, 110]⟩ o.by_ := ⟨_, rfl⟩
  have HX := Lib.hid hx
  have HXL := Lib.hid (show x < 18446744073709551616 from hx ▸ sec11_lt _ _)
  clear hx HC
  refine Ord.start (by kernel_rfl) ?_
  try simp only [Act.put, getElem_toArray, getElem_cons_zero, setIfInBounds_toArray, set_cons_zero, set_cons_succ]
  refine wpAny_take (i := 0) (v := ?_) rfl (by kernel_rfl) (by kernel_rfl) (by kernel_rfl) (fun _ _ _ h => h) (Or.inl ⟨by rfl, ?_⟩) ?_
  rotate_left
  · (intro w; go_simp; try (with_reducible rfl))
  try simp only [Act.put, getElem_toArray, getElem_cons_zero, setIfInBounds_toArray, set_cons_zero, set_cons_succ]
  refine Ord.load_first [7] (fun w' : World => Vr w' V o) (i := 1) (v := ?_) rfl (by kernel_rfl) (by kernel_rfl) (by kernel_rfl) (by kernel_rfl) (by kernel_rfl) (fun _ _ _ h => h) (Or.inl ⟨by rfl, ?_⟩) HC1.out.vr ?_
  rotate_left
  · (intro w hSw; (try dsimp only at hSw); have c0 := (hSw.cell 0).trans o.c0; clear hSw; go_simp; try (with_reducible rfl))
  try simp only [Act.put, getElem_toArray, getElem_cons_succ, getElem_cons_zero, setIfInBounds_toArray, set_cons_zero, set_cons_succ]
  refine Ord.AnyR.load (i := 3) (v := ?_) rfl (by kernel_rfl) (by kernel_rfl) (by kernel_rfl) (by kernel_rfl) (by kernel_rfl) (fun _ _ _ h => h) (Or.inl ⟨by rfl, ?_⟩) HC1.out.vr ?_
  rotate_left
  · (intro w hSw; (try dsimp only at hSw); refine run_load_op _ (.tmp 1) ?_ ?_ hSw <;> rfl)
  try simp only [Act.put, getElem_toArray, getElem_cons_succ, getElem_cons_zero, setIfInBounds_toArray, set_cons_zero, set_cons_succ]
  refine Ord.AnyR.ready1 (i := 2) (by kernel_rfl) rfl (fun K hK => ?_)
  go_simp
  have H := Lib.hid (secret11_any ⟨#[115, 105, 103, 110]⟩ (by decide) o.by_ w0.drew)
  rw [← HX.out] at H
  refine (H.out).mono ?_
  rintro e w1 ⟨rfl, hb⟩
  have HC2 := Lib.hid (HC1.out.below (hb.mono HC1.out.size))
  clear hb H HC1
  try go_simp
  refine hK.out _ _ (fun _ _ => HC2.out.vr) ?_
  clear hK K
  try simp only [Act.put, getElem_toArray, getElem_cons_succ, getElem_cons_zero, setIfInBounds_toArray, set_cons_zero, set_cons_succ]
  refine Ord.AnyR.ready1 (i := 4) (by kernel_rfl) rfl (fun K hK => ?_)
  go_simp
  have H := Lib.hid (rcon_any o HC2.out.src.no HT.out)
  refine (H.out).mono ?_
  rintro e w2 ⟨y, rfl, hyl, hgy, hb⟩
  have HC3 := Lib.hid (HC2.out.below (hb.mono HC2.out.size))
  have HSI := Lib.hid (show Calls Tryz.prog 68 #[.int .u64 (x : Int), y.v] w2 _ from r8sign_any (hgy.lz (F := No) fun _ h => h.elim).bt (by rw [hyl]; have := con_len2 HT.out; omega) x HXL.out)
  have HYL := Lib.hid hyl
  clear hb hyl hgy H HC2
  try go_simp
  refine hK.out _ _ (fun _ _ => HC3.out.vr) ?_
  clear hK K
  try simp only [Act.put, getElem_toArray, getElem_cons_succ, getElem_cons_zero, setIfInBounds_toArray, set_cons_zero, set_cons_succ]
  refine Ord.AnyR.ready1 (i := 5) (by kernel_rfl) rfl (fun K hK => ?_)
  go_simp
  refine (HSI.out).mono ?_
  rintro e w3 ⟨rfl, hb⟩
  have HC4 := Lib.hid (HC3.out.below (hb.mono HC3.out.size))
  rw [HYL.out]
  obtain ⟨R1, hR1⟩ : ∃ r, r = Sg.R x (Sg.msg (con o.er)) := ⟨_, rfl⟩
  obtain ⟨S1, hS1⟩ : ∃ r, r = Sg.S x (Sg.msg (con o.er)) := ⟨_, rfl⟩
  rw [← hR1, ← hS1]
  have HRS := Lib.hid (And.intro hR1 hS1)
  clear hb HSI HC3 HYL hR1 hS1
  try go_simp
  refine hK.out _ _ (fun _ _ => HC4.out.vr) ?_
  clear hK K
  try simp only [Act.put, getElem_toArray, getElem_cons_succ, getElem_cons_zero, setIfInBounds_toArray, set_cons_zero, set_cons_succ]
  refine Ord.AnyR.take (i := 6) (v := ?_) rfl (by kernel_rfl) (by kernel_rfl) (by kernel_rfl) (fun _ _ _ h => h) (fun _ _ h => h) (Or.inl ⟨by rfl, ?_⟩) ?_
  rotate_left
  · (intro w; go_simp; try (with_reducible rfl))
  try simp only [Act.put, getElem_toArray, getElem_cons_succ, getElem_cons_zero, setIfInBounds_toArray, set_cons_zero, set_cons_succ]
  refine Ord.AnyR.ready1 (i := 7) (by kernel_rfl) rfl (fun K hK => ?_)
  refine step_store_sig rfl (.tmp 9) (.tmp 8) rfl (r := R1) (s := S1) rfl rfl HC4.out.vr ?_
  intro w5 hv5 hg5
  have HV5 := Lib.hid hv5
  have HC5 := Lib.hid (show Vr w5 (V + 1) LOp.zero ∧ Below V w w5 ∧ V + 2 ≤ w5.heap.size ∧ Lies (fun k => V ≤ k) w5 o from ⟨blk_grown HC4.out.res hg5 (fun eg => by injection eg with eg; omega), HC4.out.bel.grown hg5 (by have := HC4.out.size; omega) (fun g eg => by injection eg with eg; omega), Nat.le_trans HC4.out.size hg5.size, HC4.out.src.bf (Bf.grown hg5 fun g eg => by injection eg with eg; show V ≤ g; omega)⟩)
  clear hv5 hg5 HC4
  refine hK.out _ _ (fun h => absurd h (by decide)) ?_
  clear hK K
  try simp only [Act.put, getElem_toArray, getElem_cons_succ, getElem_cons_zero, setIfInBounds_toArray, set_cons_zero, set_cons_succ]
  refine Ord.AnyR.end_ (by kernel_rfl) ?_ _
  obtain ⟨c, hc⟩ : ∃ c : LOp, c = { o with r := R1, s := S1 } := ⟨_, rfl⟩
  rw [← hc] at HV5
  have HEE := Lib.hid (show c.er = sgd o.er x from by rw [hc]; unfold sgd; rw [← HRS.out.1, ← HRS.out.2]; rfl)
  have HLC := Lib.hid (show Lies (fun k => V ≤ k) w5 c from hc ▸ (HC5.out.2.2.2.sig R1 S1))
  clear hc HRS
  go_wp2_with (first | (refine wpList_load_op rfl _ rfl rfl HV5.out ?_) | (refine wpList_store_op (o' := c) rfl _ _ rfl rfl rfl HC5.out.1 ?_))
  refine bodyPost_ret (v := c.v) (results_op rfl rfl _ rfl (HC5.out.1.setRow c)) rfl ?_
  have hs : Bf (fun k => k = V + 1) w5 (w5.setRow (V + 1) c.cells) := Bf.setRow _ rfl
  refine ⟨c, rfl, HEE.out.trans (by rw [HX.out]), (HLC.out.bf (hs.weak fun k _ hk => by have hk : k = V + 1 := hk; show V ≤ k; omega)).no, ?_⟩
  have hb := Below.trans HC5.out.2.1 (hs.dn (by have := HC5.out.2.2.1; omega) (fun k hk => by have hk : k = V + 1 := hk; omega))
  rw [HV.out] at hb ⊢
  exact hb

set_option maxHeartbeats 4000000 in
theorem verify_any {w : World} (d m : Int) (l k g : Nat) (hg : u64 g) (o : LOp) (hx : Lies No w o) (ht : Tiny o.er) :
    Calls Tryz.prog 28 #[.agg #[.int .i64 d, .int .i64 m, .int .u64 (l : Int), .int .u64 (k : Int), .int .u64 (g : Int)], o.v] w fun e w' => e = .returned (.bool (decide (o.by_ = d) && Sg.chk g (Sg.msg (con o.er)) o.r o.s)) ∧ Below w.heap.size w w' := by
  obtain ⟨cs, hcs⟩ : ∃ cs, cs = o.cells := ⟨_, rfl⟩
  obtain ⟨C, hCC⟩ : ∃ C, C = w.heap.size := ⟨_, rfl⟩
  have es : (w.alloc (.cells #[.int .i64 d, .int .i64 m, .int .u64 (l : Int), .int .u64 (k : Int), .int .u64 (g : Int)] 61)).heap.size = w.heap.size + 1 := by simp
  have hB := ((Below.refl w.heap.size w).alloc (Nat.le_refl _) (.cells #[.int .i64 d, .int .i64 m, .int .u64 (l : Int), .int .u64 (k : Int), .int .u64 (g : Int)] 61)).alloc (by simp) (.cells cs 35)
  have hN := blk_alloc (blk_new w 61 #[.int .i64 d, .int .i64 m, .int .u64 (l : Int), .int .u64 (k : Int), .int .u64 (g : Int)]) (.cells cs 35)
  have hV := blk_new (w.alloc (.cells #[.int .i64 d, .int .i64 m, .int .u64 (l : Int), .int .u64 (k : Int), .int .u64 (g : Int)] 61)) 35 cs
  rw [es, ← hCC] at hV
  rw [← hCC] at hN
  obtain ⟨w0, hw0⟩ : ∃ W, W = (w.alloc (.cells #[.int .i64 d, .int .i64 m, .int .u64 (l : Int), .int .u64 (k : Int), .int .u64 (g : Int)] 61)).alloc (.cells cs 35) := ⟨_, rfl⟩
  rw [← hw0] at hB hN hV
  have HW0 := Lib.hid hw0
  have HCC := Lib.hid hCC
  have HBd := Lib.hid (show Below w.heap.size w w0.drew from hB.trans (below_drewN w0 1 _))
  have HVd := Lib.hid (show Vr w0.drew (C + 1) o from by unfold Vr; rw [← hcs]; exact hV)
  have HNd := Lib.hid (show Blk w0.drew C 61 #[.int .i64 d, .int .i64 m, .int .u64 (l : Int), .int .u64 (k : Int), .int .u64 (g : Int)] from hN)
  have HLd := Lib.hid (hx.bf (F := No) (Bf.below HBd.out))
  have HT := Lib.hid ht
  have HG := Lib.hid hg
  show Calls _ _ #[_, .agg o.cells] w _
  rw [← hcs]
  clear hx ht hg hcs hCC es hB hN hV hw0
  by_cases hd : o.by_ = d
  · have hq : (o.by_ == d) = true := by rw [beq_iff_eq]; exact hd
    rw [decide_eq_true hd, Bool.true_and]
    clear hd
    obtain ⟨ck, hck⟩ : ∃ b, b = Sg.chk g (Sg.msg (con o.er)) o.r o.s := ⟨_, rfl⟩
    have HCK := Lib.hid hck
    rw [← hck]
    clear hck
    go_enter Tryz.func28, Tryz.ntmps28
    go_upto_region 1 with fail
    rw [← HW0.out, ← HCC.out]
    refine wp_region_held_drew (S := (fun w' : World => Vr w' (C + 1) o ∧ Blk w' C 61 #[.int .i64 d, .int .i64 m, .int .u64 (l : Int), .int .u64 (k : Int), .int .u64 (g : Int)])) (by kernel_rfl) ⟨HVd.out, HNd.out⟩ (fun hHeld => ?_)
    try simp only [Act.put, getElem_toArray, getElem_cons_zero, setIfInBounds_toArray, set_cons_zero, set_cons_succ]
    refine wpAnyH_take (i := 0) (v := ?_) rfl (by kernel_rfl) (by kernel_rfl) (by kernel_rfl) (fun _ _ _ h => h) (Or.inl ⟨by rfl, ?_⟩) (by assumption) ?_
    rotate_left
    · (intro w hSw; (try dsimp only at hSw); clear hSw; go_simp; try (with_reducible rfl))
    try simp only [Act.put, getElem_toArray, getElem_cons_zero, setIfInBounds_toArray, set_cons_zero, set_cons_succ]
    refine wpAnyH_take (i := 1) (v := ?_) rfl (by kernel_rfl) (by kernel_rfl) (by kernel_rfl) (fun _ _ _ h => h) (Or.inl ⟨by rfl, ?_⟩) (by assumption) ?_
    rotate_left
    · (intro w hSw; (try dsimp only at hSw); have c0 := (hSw.1.cell 0).trans o.c0; clear hSw; go_simp; try (with_reducible rfl))
    try simp only [Act.put, getElem_toArray, getElem_cons_succ, getElem_cons_zero, setIfInBounds_toArray, set_cons_zero, set_cons_succ]
    refine wpAnyH_take (i := 2) (v := ?_) rfl (by kernel_rfl) (by kernel_rfl) (by kernel_rfl) (fun _ _ _ h => h) (Or.inl ⟨by rfl, ?_⟩) (by assumption) ?_
    rotate_left
    · (intro w hSw; (try dsimp only at hSw); clear hSw; go_simp; try (with_reducible rfl))
    try simp only [Act.put, getElem_toArray, getElem_cons_succ, getElem_cons_zero, setIfInBounds_toArray, set_cons_zero, set_cons_succ]
    refine wpAnyH_take (i := 3) (v := ?_) rfl (by kernel_rfl) (by kernel_rfl) (by kernel_rfl) (fun _ _ _ h => h) (Or.inl ⟨by rfl, ?_⟩) (by assumption) ?_
    rotate_left
    · (intro w hSw; (try dsimp only at hSw); have c0 := (hSw.2.cell 0); clear hSw; go_simp; try (with_reducible rfl))
    try simp only [Act.put, getElem_toArray, getElem_cons_succ, getElem_cons_zero, setIfInBounds_toArray, set_cons_zero, set_cons_succ]
    refine wpAnyH_take (i := 4) (v := ?_) rfl (by kernel_rfl) (by kernel_rfl) (by kernel_rfl) (fun _ _ _ h => h) (Or.inl ⟨by rfl, ?_⟩) (by assumption) ?_
    rotate_left
    · (intro w hSw; (try dsimp only at hSw); clear hSw; go_simp; try (with_reducible rfl))
    try simp only [Act.put, getElem_toArray, getElem_cons_succ, getElem_cons_zero, setIfInBounds_toArray, set_cons_zero, set_cons_succ]
    refine wpAnyH_take (i := 5) (v := ?_) rfl (by kernel_rfl) (by kernel_rfl) (by kernel_rfl) (fun _ _ _ h => h) (Or.inl ⟨by rfl, ?_⟩) (by assumption) ?_
    rotate_left
    · (intro w hSw; (try dsimp only at hSw); clear hSw; go_simp; try (with_reducible rfl))
    try simp only [Act.put, getElem_toArray, getElem_cons_succ, getElem_cons_zero, setIfInBounds_toArray, set_cons_zero, set_cons_succ]
    refine wpAnyH_take (i := 6) (v := ?_) rfl (by kernel_rfl) (by kernel_rfl) (by kernel_rfl) (fun _ _ _ h => h) (Or.inl ⟨by rfl, ?_⟩) (by assumption) ?_
    rotate_left
    · (intro w hSw; (try dsimp only at hSw); clear hSw; go_simp; try (with_reducible rfl))
    try simp only [Act.put, getElem_toArray, getElem_cons_succ, getElem_cons_zero, setIfInBounds_toArray, set_cons_zero, set_cons_succ]
    refine wpAnyH_take (i := 7) (v := ?_) rfl (by kernel_rfl) (by kernel_rfl) (by kernel_rfl) (fun _ _ _ h => h) (Or.inl ⟨by rfl, ?_⟩) (by assumption) ?_
    rotate_left
    · (intro w hSw; (try dsimp only at hSw); have c4 := (hSw.2.cell 4); clear hSw; go_simp; try (with_reducible rfl))
    try simp only [Act.put, getElem_toArray, getElem_cons_succ, getElem_cons_zero, setIfInBounds_toArray, set_cons_zero, set_cons_succ]
    refine wpAnyH_take (i := 8) (v := ?_) rfl (by kernel_rfl) (by kernel_rfl) (by kernel_rfl) (fun _ _ _ h => h) (Or.inl ⟨by rfl, ?_⟩) (by assumption) ?_
    rotate_left
    · (intro w hSw; (try dsimp only at hSw); refine run_load_op _ (.tmp 3) ?_ ?_ hSw.1 <;> rfl)
    try simp only [Act.put, getElem_toArray, getElem_cons_succ, getElem_cons_zero, setIfInBounds_toArray, set_cons_zero, set_cons_succ]
    refine wpAnyH_take (i := 10) (v := ?_) rfl (by kernel_rfl) (by kernel_rfl) (by kernel_rfl) (fun _ _ _ h => h) (Or.inl ⟨by rfl, ?_⟩) (by assumption) ?_
    rotate_left
    · (intro w hSw; (try dsimp only at hSw); clear hSw; go_simp; try (with_reducible rfl))
    try simp only [Act.put, getElem_toArray, getElem_cons_succ, getElem_cons_zero, setIfInBounds_toArray, set_cons_zero, set_cons_succ]
    refine wpAnyH_take (i := 11) (v := ?_) rfl (by kernel_rfl) (by kernel_rfl) (by kernel_rfl) (fun _ _ _ h => h) (Or.inl ⟨by rfl, ?_⟩) (by assumption) ?_
    rotate_left
    · (intro w hSw; (try dsimp only at hSw); have c25 := (hSw.1.cell 25).trans o.c25; have c26 := (hSw.1.cell 26).trans o.c26; clear hSw; go_simp; try (with_reducible rfl))
    try simp only [Act.put, getElem_toArray, getElem_cons_succ, getElem_cons_zero, setIfInBounds_toArray, set_cons_zero, set_cons_succ]
    refine wpAnyH_ready (rs := [9]) (by kernel_rfl) (by simp) ?_
    refine AllReadyH.cons rfl (fun K hK => ?_) AllReadyH.nil
    go_simp
    have H := Lib.hid (content_any o HLd.out HT.out.small (by have := con_len2 HT.out; omega))
    refine (H.out).mono ?_
    rintro e w2 ⟨y, rfl, hyl, hgy, hb⟩
    have HV2 := Lib.hid (HVd.out.below hb (Blk.lt HVd.out))
    have HN2 := Lib.hid (HNd.out.below hb HNd.out.lt)
    have HB2 := Lib.hid (HBd.out.trans (hb.mono HBd.out.size))
    have HCH := Lib.hid (show Calls Tryz.prog 29 #[.int .u64 (g : Int), y.v, .agg #[.int .u64 (o.r : Int), .int .u64 (o.s : Int)]] w2 _ from check_any (hgy.lz (F := No) fun _ h => h.elim).bt (by rw [hyl]; have := con_len2 HT.out; omega) g o.r o.s HG.out HT.out.ok.r HT.out.ok.s)
    have HYL := Lib.hid hyl
    clear hb hyl hgy H HVd HNd HBd
    try go_simp
    refine hK.out _ _ ⟨HV2.out, HN2.out⟩ (fun hHeld => ?_)
    clear hK K
    try simp only [Act.put, getElem_toArray, getElem_cons_succ, getElem_cons_zero, setIfInBounds_toArray, set_cons_zero, set_cons_succ]
    refine wpAnyH_ready (rs := [12]) (by kernel_rfl) (by simp) ?_
    refine AllReadyH.cons rfl (fun K hK => ?_) AllReadyH.nil
    go_simp
    refine (HCH.out).mono ?_
    rintro e w3 ⟨rfl, hb⟩
    have HV3 := Lib.hid (HV2.out.below hb (Blk.lt HV2.out))
    have HN3 := Lib.hid (HN2.out.below hb HN2.out.lt)
    have HB3 := Lib.hid (HB2.out.trans (hb.mono HB2.out.size))
    rw [HYL.out, ← HCK.out]
    clear hb HCH HYL HV2 HN2 HB2
    try go_simp
    refine hK.out _ _ ⟨HV3.out, HN3.out⟩ (fun hHeld => ?_)
    clear hK K
    try simp only [Act.put, getElem_toArray, getElem_cons_succ, getElem_cons_zero, setIfInBounds_toArray, set_cons_zero, set_cons_succ]
    refine wpAnyH_take (i := 13) (v := ?_) rfl (by kernel_rfl) (by kernel_rfl) (by kernel_rfl) (fun _ _ _ h => h) (Or.inl ⟨by rfl, ?_⟩) (by assumption) ?_
    rotate_left
    · (intro w hSw; (try dsimp only at hSw); clear hSw; go_simp; try (with_reducible rfl))
    try simp only [Act.put, getElem_toArray, getElem_cons_succ, getElem_cons_zero, setIfInBounds_toArray, set_cons_zero, set_cons_succ]
    refine wpAnyH_take (i := 14) (v := ?_) rfl (by kernel_rfl) (by kernel_rfl) (by kernel_rfl) (fun _ _ _ h => h) (Or.inl ⟨by rfl, ?_⟩) (by assumption) ?_
    rotate_left
    · (intro w hSw; (try dsimp only at hSw); clear hSw; go_simp; try (with_reducible rfl))
    try simp only [Act.put, getElem_toArray, getElem_cons_succ, getElem_cons_zero, setIfInBounds_toArray, set_cons_zero, set_cons_succ]
    refine wpAnyH_done (by kernel_rfl) ?_ _
    go_wp2
    go_ret
    exact ⟨rfl, HB3.out⟩
  · have hq : (o.by_ == d) = false := by rw [beq_eq_false_iff_ne]; exact hd
    rw [decide_eq_false hd, Bool.false_and]
    clear hd
    go_enter Tryz.func28, Tryz.ntmps28
    go_upto_region 1 with fail
    rw [← HW0.out, ← HCC.out]
    refine wp_region_held_drew (S := (fun w' : World => Vr w' (C + 1) o ∧ Blk w' C 61 #[.int .i64 d, .int .i64 m, .int .u64 (l : Int), .int .u64 (k : Int), .int .u64 (g : Int)])) (by kernel_rfl) ⟨HVd.out, HNd.out⟩ (fun hHeld => ?_)
    try simp only [Act.put, getElem_toArray, getElem_cons_zero, setIfInBounds_toArray, set_cons_zero, set_cons_succ]
    refine wpAnyH_take (i := 0) (v := ?_) rfl (by kernel_rfl) (by kernel_rfl) (by kernel_rfl) (fun _ _ _ h => h) (Or.inl ⟨by rfl, ?_⟩) (by assumption) ?_
    rotate_left
    · (intro w hSw; (try dsimp only at hSw); clear hSw; go_simp; try (with_reducible rfl))
    try simp only [Act.put, getElem_toArray, getElem_cons_zero, setIfInBounds_toArray, set_cons_zero, set_cons_succ]
    refine wpAnyH_take (i := 1) (v := ?_) rfl (by kernel_rfl) (by kernel_rfl) (by kernel_rfl) (fun _ _ _ h => h) (Or.inl ⟨by rfl, ?_⟩) (by assumption) ?_
    rotate_left
    · (intro w hSw; (try dsimp only at hSw); have c0 := (hSw.1.cell 0).trans o.c0; clear hSw; go_simp; try (with_reducible rfl))
    try simp only [Act.put, getElem_toArray, getElem_cons_succ, getElem_cons_zero, setIfInBounds_toArray, set_cons_zero, set_cons_succ]
    refine wpAnyH_take (i := 2) (v := ?_) rfl (by kernel_rfl) (by kernel_rfl) (by kernel_rfl) (fun _ _ _ h => h) (Or.inl ⟨by rfl, ?_⟩) (by assumption) ?_
    rotate_left
    · (intro w hSw; (try dsimp only at hSw); clear hSw; go_simp; try (with_reducible rfl))
    try simp only [Act.put, getElem_toArray, getElem_cons_succ, getElem_cons_zero, setIfInBounds_toArray, set_cons_zero, set_cons_succ]
    refine wpAnyH_take (i := 3) (v := ?_) rfl (by kernel_rfl) (by kernel_rfl) (by kernel_rfl) (fun _ _ _ h => h) (Or.inl ⟨by rfl, ?_⟩) (by assumption) ?_
    rotate_left
    · (intro w hSw; (try dsimp only at hSw); have c0 := (hSw.2.cell 0); clear hSw; go_simp; try (with_reducible rfl))
    try simp only [Act.put, getElem_toArray, getElem_cons_succ, getElem_cons_zero, setIfInBounds_toArray, set_cons_zero, set_cons_succ]
    refine wpAnyH_take (i := 4) (v := ?_) rfl (by kernel_rfl) (by kernel_rfl) (by kernel_rfl) (fun _ _ _ h => h) (Or.inl ⟨by rfl, ?_⟩) (by assumption) ?_
    rotate_left
    · (intro w hSw; (try dsimp only at hSw); clear hSw; go_simp; try (with_reducible rfl))
    try simp only [Act.put, getElem_toArray, getElem_cons_succ, getElem_cons_zero, setIfInBounds_toArray, set_cons_zero, set_cons_succ]
    refine wpAnyH_take (i := 5) (v := ?_) rfl (by kernel_rfl) (by kernel_rfl) (by kernel_rfl) (fun _ _ _ h => h) (Or.inl ⟨by rfl, ?_⟩) (by assumption) ?_
    rotate_left
    · (intro w hSw; (try dsimp only at hSw); clear hSw; go_simp; try (with_reducible rfl))
    try simp only [Act.put, getElem_toArray, getElem_cons_succ, getElem_cons_zero, setIfInBounds_toArray, set_cons_zero, set_cons_succ]
    refine wpAnyH_take (i := 6) (v := undef) rfl (by kernel_rfl) (by kernel_rfl) (by kernel_rfl) (fun _ _ _ h => h) (Or.inr ⟨by rfl, rfl⟩) (by assumption) ?_
    try simp only [Act.put, getElem_toArray, getElem_cons_succ, getElem_cons_zero, setIfInBounds_toArray, set_cons_zero, set_cons_succ]
    refine wpAnyH_take (i := 7) (v := undef) rfl (by kernel_rfl) (by kernel_rfl) (by kernel_rfl) (fun _ _ _ h => h) (Or.inr ⟨by rfl, rfl⟩) (by assumption) ?_
    try simp only [Act.put, getElem_toArray, getElem_cons_succ, getElem_cons_zero, setIfInBounds_toArray, set_cons_zero, set_cons_succ]
    refine wpAnyH_take (i := 8) (v := undef) rfl (by kernel_rfl) (by kernel_rfl) (by kernel_rfl) (fun _ _ _ h => h) (Or.inr ⟨by rfl, rfl⟩) (by assumption) ?_
    try simp only [Act.put, getElem_toArray, getElem_cons_succ, getElem_cons_zero, setIfInBounds_toArray, set_cons_zero, set_cons_succ]
    refine wpAnyH_take (i := 9) (v := undef) rfl (by kernel_rfl) (by kernel_rfl) (by kernel_rfl) (fun _ _ _ h => h) (Or.inr ⟨by rfl, rfl⟩) (by assumption) ?_
    try simp only [Act.put, getElem_toArray, getElem_cons_succ, getElem_cons_zero, setIfInBounds_toArray, set_cons_zero, set_cons_succ]
    refine wpAnyH_take (i := 10) (v := undef) rfl (by kernel_rfl) (by kernel_rfl) (by kernel_rfl) (fun _ _ _ h => h) (Or.inr ⟨by rfl, rfl⟩) (by assumption) ?_
    try simp only [Act.put, getElem_toArray, getElem_cons_succ, getElem_cons_zero, setIfInBounds_toArray, set_cons_zero, set_cons_succ]
    refine wpAnyH_take (i := 11) (v := undef) rfl (by kernel_rfl) (by kernel_rfl) (by kernel_rfl) (fun _ _ _ h => h) (Or.inr ⟨by rfl, rfl⟩) (by assumption) ?_
    try simp only [Act.put, getElem_toArray, getElem_cons_succ, getElem_cons_zero, setIfInBounds_toArray, set_cons_zero, set_cons_succ]
    refine wpAnyH_take (i := 12) (v := undef) rfl (by kernel_rfl) (by kernel_rfl) (by kernel_rfl) (fun _ _ _ h => h) (Or.inr ⟨by rfl, rfl⟩) (by assumption) ?_
    try simp only [Act.put, getElem_toArray, getElem_cons_succ, getElem_cons_zero, setIfInBounds_toArray, set_cons_zero, set_cons_succ]
    refine wpAnyH_take (i := 13) (v := ?_) rfl (by kernel_rfl) (by kernel_rfl) (by kernel_rfl) (fun _ _ _ h => h) (Or.inl ⟨by rfl, ?_⟩) (by assumption) ?_
    rotate_left
    · (intro w hSw; (try dsimp only at hSw); clear hSw; go_simp; try (with_reducible rfl))
    try simp only [Act.put, getElem_toArray, getElem_cons_succ, getElem_cons_zero, setIfInBounds_toArray, set_cons_zero, set_cons_succ]
    refine wpAnyH_take (i := 14) (v := ?_) rfl (by kernel_rfl) (by kernel_rfl) (by kernel_rfl) (fun _ _ _ h => h) (Or.inl ⟨by rfl, ?_⟩) (by assumption) ?_
    rotate_left
    · (intro w hSw; (try dsimp only at hSw); clear hSw; go_simp; try (with_reducible rfl))
    try simp only [Act.put, getElem_toArray, getElem_cons_succ, getElem_cons_zero, setIfInBounds_toArray, set_cons_zero, set_cons_succ]
    refine wpAnyH_done (by kernel_rfl) ?_ _
    go_wp2
    go_ret
    exact ⟨rfl, HBd.out⟩

end Ot
end Go.Proofs.YtkicjjcangkneaaGreatDoor

/-
  The reference's Cards: a device's number, its owner, and its three public keys. For up to 100 owners.
-/
namespace Go.Proofs.YtkicjjcangkneaaGreatDoor
open Go.RowKit
set_option linter.unusedSimpArgs false
set_option linter.unusedVariables false
attribute [local go_sem ↓] Go.wp_at_zero Go.wp_at_succ
set_option maxRecDepth 100000
namespace Ot
structure Cd where
  dev : Int
  mem : Int
  lead : Nat
  keep : Nat
  sg : Nat
def kCd : Kd Cd := ⟨fun x => [.int .i64 x.dev, .int .i64 x.mem, .int .u64 (x.lead : Int), .int .u64 (x.keep : Int), .int .u64 (x.sg : Int)], 5, 61, fun _ => rfl, fun x u hu => by simp at hu; rcases hu with rfl | rfl | rfl | rfl | rfl <;> rfl⟩
theorem ki_cd : Nonempty (KI Tryz.prog kCd 54) := KI.of Tryz.underlying54 (z := .agg #[.int .i64 0, .int .i64 0, .int .u64 0, .int .u64 0, .int .u64 0]) (bytes := 40) (by kernel_rfl) rfl (by decide) (by decide)
def cdAt (m : Int) (i : Nat) : Cd := ⟨(i : Int) + 1, m, Bx.pub (sec11 ⟨#[108, 101, 97, 100]⟩ ((i : Int) + 1)), Bx.pub (sec11 ⟨#[107, 101, 101, 112]⟩ ((i : Int) + 1)), Bx.pub (sec11 ⟨#[115, 105, 103, 110]⟩ ((i : Int) + 1))⟩
def cds (l : List Int) (k : Nat) : List Cd := (List.range k).map fun i => cdAt (l.getD i 0) i
theorem cds_len (l : List Int) (k : Nat) : (cds l k).length = k := by simp [cds]
theorem cds_succ (l : List Int) (k : Nat) : cds l (k + 1) = cds l k ++ [cdAt (l.getD k 0) k] := by simp [cds, List.range_succ]
theorem lz_one {α : Type} (K : Kd α) {F : Nat → Prop} (w : World) (x : α) (hF : ¬ F w.heap.size) (cs : Array Value) (hcs : cs.toList = K.enc x) : Lz K F (w.alloc (.cells cs K.ty)) ⟨[x], some ⟨w.heap.size, 0, none⟩, 1⟩ :=
  ⟨fun _ => ⟨w.heap.size, 0, rfl, by simp, hF, fun i u hu => by
    have hu : (K.cells [x])[i]? = some u := hu
    rw [K.cells_one, ← hcs] at hu
    have := cell_new w cs K.ty i u hu
    rw [Addr.add_lit] at this
    exact this⟩, Nat.le_refl 1, fun h => nomatch h⟩

set_option maxHeartbeats 4000000 in
theorem cards_any {w : World} (l : Ls Int) (hl : Lz kInt No w l) (hn : l.l.length ≤ 100) :
    Calls Tryz.prog 24 #[l.v] w fun e w' => ∃ z : Ls Cd, e = .returned (.slice z.A z.l.length z.c) ∧ z.l = cds l.l l.l.length ∧ Gr kCd w.heap.size w' z ∧ Below w.heap.size w w' := by
  obtain ⟨xs, xA, xc⟩ := l
  obtain ⟨n, hnn⟩ : ∃ n, n = xs.length := ⟨_, rfl⟩
  have hn : xs.length ≤ 100 := hn
  have hn2 : n ≤ 100 := by omega
  have HN := Lib.hid hnn
  obtain ⟨B, hB⟩ : ∃ B, B = w.heap.size := ⟨_, rfl⟩
  have HB := Lib.hid hB
  have HL := Lib.hid (show Lz kInt (fun k => B ≤ k) w ⟨xs, xA, xc⟩ from hl.weak fun k hk hf => by have hf : B ≤ k := hf; omega)
  show Calls _ _ #[.slice xA xs.length xc] w _
  rw [← hnn]
  clear hl hn hnn hB
  go_enter Tryz.func24, Tryz.ntmps24
  go_wp2_with fail
  go_loopw [3, 4] (fun ov iv wr => ∃ (z : Ls Cd) (k : Nat), ov = .slice z.A k z.c ∧ iv = .int .i64 (k : Int) ∧ k ≤ n ∧ z.l = cds xs k ∧ Gr kCd B wr z ∧ Below B w wr) (fun _ iv _ => n - (intOf iv).toNat)
  case atStart => exact ⟨Ls.nil, 0, rfl, rfl, Nat.zero_le _, rfl, Gr.nil _ _, Below.refl _ _⟩
  case round =>
    obtain ⟨z, k, rfl, rfl, hkn, hzl, hgz, hbl⟩ := hrel
    by_cases hlt : k < n
    · obtain ⟨y, hy⟩ : ∃ y, xs[k]? = some y := ⟨_, List.getElem?_eq_getElem (by have := HN.out; omega)⟩
      have hlw := HL.out.bf (Bf.belowN (F := fun k => B ≤ k) hbl fun k _ h => h)
      obtain ⟨b, off, rfl, hbb, _, c0⟩ := hlw.int hy
      obtain ⟨wo, rfl⟩ : ∃ wo, wo = wr := ⟨_, rfl⟩
      have hbB : b < B := by
        obtain ⟨b2, off2, e, _, hf, _⟩ := hlw.rd (by show 0 < xs.length; have := HN.out; omega)
        have e : some ⟨b, off, none⟩ = some (⟨b2, off2, none⟩ : Addr) := e
        injection e with e
        injection e with e
        have hf : ¬ B ≤ b2 := hf
        omega
      have hzlen : z.l.length = k := by rw [hzl]; exact cds_len _ _
      have HZL := Lib.hid hzl
      have HZN := Lib.hid hzlen
      have HGZ := Lib.hid hgz
      have HBL := Lib.hid hbl
      have HBB := Lib.hid hbb
      have HKN := Lib.hid (show cdAt (xs.getD k 0) k = cdAt y k from by rw [List.getD_eq_getElem?_getD, hy]; rfl)
      have q0_ : (0 : Int) ≤ (k : Int) := by omega
      have q1_ : (k : Int) < (n : Int) := by omega
      have q2_ : IntKind.i64.wrap ((k : Int) + 1) = (k : Int) + 1 := by rw [IntKind.wrap_i64]; omega
      have c0d : wo.drew.cell? ⟨b, off + k, none⟩ = some (.int .i64 y) := c0
      have HBd := Lib.hid (show Below B w wo.drew from hbl.trans (below_drewN wo 1 _))
      have HGd := Lib.hid (show Gr kCd B wo.drew z from hgz.below (below_drewN wo 1 _))
      have HBBd := Lib.hid (show b < wo.drew.heap.size ∧ b < B from ⟨hbb, hbB⟩)
      have HBS := Lib.hid (show B ≤ wo.drew.heap.size from HB.out ▸ HBd.out.size)
      clear hzl hgz hbl hbb hbB hlw hzlen hy HGZ HBL HBB
      go_upto_region 6 with fail
      refine wp_region_held_drew (S := (fun w' : World => w'.cell? ⟨b, off + k, none⟩ = some (.int .i64 y))) (by kernel_rfl) c0d (fun hHeld => ?_)
      try simp only [lays]
      refine wpAnyH_take (i := 0) (v := ?_) rfl (by kernel_rfl) (by kernel_rfl) (by kernel_rfl) (fun _ _ _ h => h) (Or.inl ⟨by rfl, ?_⟩) (by assumption) ?_
      rotate_left
      · (intro w hSw; (try dsimp only at hSw); clear hSw; go_simp; try (with_reducible rfl))
      try simp only [lays]
      refine wpAnyH_take (i := 1) (v := ?_) rfl (by kernel_rfl) (by kernel_rfl) (by kernel_rfl) (fun _ _ _ h => h) (Or.inl ⟨by rfl, ?_⟩) (by assumption) ?_
      rotate_left
      · (intro w hSw; (try dsimp only at hSw); clear hSw; go_simp; try (with_reducible rfl))
      try simp only [lays]
      refine wpAnyH_take (i := 2) (v := ?_) rfl (by kernel_rfl) (by kernel_rfl) (by kernel_rfl) (fun _ _ _ h => h) (Or.inl ⟨by rfl, ?_⟩) (by assumption) ?_
      rotate_left
      · (intro w hSw; (try dsimp only at hSw); clear hSw; go_simp; try (with_reducible rfl))
      try simp only [lays]
      refine wpAnyH_take (i := 3) (v := ?_) rfl (by kernel_rfl) (by kernel_rfl) (by kernel_rfl) (fun _ _ _ h => h) (Or.inl ⟨by rfl, ?_⟩) (by assumption) ?_
      rotate_left
      · (intro w hSw; (try dsimp only at hSw); clear hSw; go_simp; try (with_reducible rfl))
      try simp only [lays]
      refine wpAnyH_take (i := 4) (v := ?_) rfl (by kernel_rfl) (by kernel_rfl) (by kernel_rfl) (fun _ _ _ h => h) (Or.inl ⟨by rfl, ?_⟩) (by assumption) ?_
      rotate_left
      · (intro w hSw; (try dsimp only at hSw); clear hSw; go_simp; try (with_reducible rfl))
      try simp only [lays]
      refine wpAnyH_take (i := 5) (v := ?_) rfl (by kernel_rfl) (by kernel_rfl) (by kernel_rfl) (fun _ _ _ h => h) (Or.inl ⟨by rfl, ?_⟩) (by assumption) ?_
      rotate_left
      · (intro w hSw; (try dsimp only at hSw); go_simp; try (with_reducible rfl))
      try simp only [lays]
      refine wpAnyH_take (i := 6) (v := ?_) rfl (by kernel_rfl) (by kernel_rfl) (by kernel_rfl) (fun _ _ _ h => h) (Or.inl ⟨by rfl, ?_⟩) (by assumption) ?_
      rotate_left
      · (intro w hSw; (try dsimp only at hSw); clear hSw; go_simp; try (with_reducible rfl))
      try simp only [lays]
      refine wpAnyH_take (i := 9) (v := ?_) rfl (by kernel_rfl) (by kernel_rfl) (by kernel_rfl) (fun _ _ _ h => h) (Or.inl ⟨by rfl, ?_⟩) (by assumption) ?_
      rotate_left
      · (intro w hSw; (try dsimp only at hSw); clear hSw; go_simp; try (with_reducible rfl))
      try simp only [lays]
      refine wpAnyH_take (i := 12) (v := ?_) rfl (by kernel_rfl) (by kernel_rfl) (by kernel_rfl) (fun _ _ _ h => h) (Or.inl ⟨by rfl, ?_⟩) (by assumption) ?_
      rotate_left
      · (intro w hSw; (try dsimp only at hSw); clear hSw; go_simp; try (with_reducible rfl))
      try simp only [lays]
      refine wpAnyH_ready (rs := [7]) (by kernel_rfl) (by simp) ?_
      refine AllReadyH.cons rfl (fun K hK => ?_) AllReadyH.nil
      go_simp
      have H := Lib.hid (secret11_any ⟨#[108, 101, 97, 100]⟩ (by decide) ((k : Int) + 1) wo.drew)
      refine (H.out).mono ?_
      rintro e x1 ⟨rfl, hb⟩
      have B1 := Lib.hid (HBd.out.trans (hb.mono (by have := HBS.out; omega)))
      have G1 := Lib.hid (HGd.out.below hb)
      have S1 := Lib.hid (Nat.le_trans HBS.out hb.size)
      have L1 := Lib.hid (show b < x1.heap.size ∧ b < B from ⟨Nat.lt_of_lt_of_le HBBd.out.1 hb.size, HBBd.out.2⟩)
      have C1 := Lib.hid ((hb.cell (p := ⟨b, off + k, none⟩) HBBd.out.1).trans c0d)
      clear hb H HBd HGd HBS HBBd c0d
      try go_simp
      refine hK.out _ _ C1.out (fun hHeld => ?_)
      clear hK K
      try simp only [lays]
      refine wpAnyH_ready (rs := [8]) (by kernel_rfl) (by simp) ?_
      refine AllReadyH.cons rfl (fun K hK => ?_) AllReadyH.nil
      go_simp
      have H := Lib.hid (r8pub_any (sec11 ⟨#[108, 101, 97, 100]⟩ ((k : Int) + 1)) x1 (sec11_lt _ _))
      refine (H.out).mono ?_
      rintro e x2 ⟨rfl, hb⟩
      have B2 := Lib.hid (B1.out.trans (hb.mono (by have := S1.out; omega)))
      have G2 := Lib.hid (G1.out.below hb)
      have S2 := Lib.hid (Nat.le_trans S1.out hb.size)
      have L2 := Lib.hid (show b < x2.heap.size ∧ b < B from ⟨Nat.lt_of_lt_of_le L1.out.1 hb.size, L1.out.2⟩)
      have C2 := Lib.hid ((hb.cell (p := ⟨b, off + k, none⟩) L1.out.1).trans C1.out)
      clear hb H B1 G1 S1 L1 C1
      try go_simp
      refine hK.out _ _ C2.out (fun hHeld => ?_)
      clear hK K
      try simp only [lays]
      refine wpAnyH_ready (rs := [10]) (by kernel_rfl) (by simp) ?_
      refine AllReadyH.cons rfl (fun K hK => ?_) AllReadyH.nil
      go_simp
      have H := Lib.hid (secret11_any ⟨#[107, 101, 101, 112]⟩ (by decide) ((k : Int) + 1) x2)
      refine (H.out).mono ?_
      rintro e x3 ⟨rfl, hb⟩
      have B3 := Lib.hid (B2.out.trans (hb.mono (by have := S2.out; omega)))
      have G3 := Lib.hid (G2.out.below hb)
      have S3 := Lib.hid (Nat.le_trans S2.out hb.size)
      have L3 := Lib.hid (show b < x3.heap.size ∧ b < B from ⟨Nat.lt_of_lt_of_le L2.out.1 hb.size, L2.out.2⟩)
      have C3 := Lib.hid ((hb.cell (p := ⟨b, off + k, none⟩) L2.out.1).trans C2.out)
      clear hb H B2 G2 S2 L2 C2
      try go_simp
      refine hK.out _ _ C3.out (fun hHeld => ?_)
      clear hK K
      try simp only [lays]
      refine wpAnyH_ready (rs := [11]) (by kernel_rfl) (by simp) ?_
      refine AllReadyH.cons rfl (fun K hK => ?_) AllReadyH.nil
      go_simp
      have H := Lib.hid (r8pub_any (sec11 ⟨#[107, 101, 101, 112]⟩ ((k : Int) + 1)) x3 (sec11_lt _ _))
      refine (H.out).mono ?_
      rintro e x4 ⟨rfl, hb⟩
      have B4 := Lib.hid (B3.out.trans (hb.mono (by have := S3.out; omega)))
      have G4 := Lib.hid (G3.out.below hb)
      have S4 := Lib.hid (Nat.le_trans S3.out hb.size)
      have L4 := Lib.hid (show b < x4.heap.size ∧ b < B from ⟨Nat.lt_of_lt_of_le L3.out.1 hb.size, L3.out.2⟩)
      have C4 := Lib.hid ((hb.cell (p := ⟨b, off + k, none⟩) L3.out.1).trans C3.out)
      clear hb H B3 G3 S3 L3 C3
      try go_simp
      refine hK.out _ _ C4.out (fun hHeld => ?_)
      clear hK K
      try simp only [lays]
      refine wpAnyH_ready (rs := [13]) (by kernel_rfl) (by simp) ?_
      refine AllReadyH.cons rfl (fun K hK => ?_) AllReadyH.nil
      go_simp
      have H := Lib.hid (secret11_any ⟨#[115, 105, 103, 110]⟩ (by decide) ((k : Int) + 1) x4)
      refine (H.out).mono ?_
      rintro e x5 ⟨rfl, hb⟩
      have B5 := Lib.hid (B4.out.trans (hb.mono (by have := S4.out; omega)))
      have G5 := Lib.hid (G4.out.below hb)
      have S5 := Lib.hid (Nat.le_trans S4.out hb.size)
      have L5 := Lib.hid (show b < x5.heap.size ∧ b < B from ⟨Nat.lt_of_lt_of_le L4.out.1 hb.size, L4.out.2⟩)
      have C5 := Lib.hid ((hb.cell (p := ⟨b, off + k, none⟩) L4.out.1).trans C4.out)
      clear hb H B4 G4 S4 L4 C4
      try go_simp
      refine hK.out _ _ C5.out (fun hHeld => ?_)
      clear hK K
      try simp only [lays]
      refine wpAnyH_ready (rs := [14]) (by kernel_rfl) (by simp) ?_
      refine AllReadyH.cons rfl (fun K hK => ?_) AllReadyH.nil
      go_simp
      have H := Lib.hid (r8pub_any (sec11 ⟨#[115, 105, 103, 110]⟩ ((k : Int) + 1)) x5 (sec11_lt _ _))
      refine (H.out).mono ?_
      rintro e x6 ⟨rfl, hb⟩
      have B6 := Lib.hid (B5.out.trans (hb.mono (by have := S5.out; omega)))
      have G6 := Lib.hid (G5.out.below hb)
      have S6 := Lib.hid (Nat.le_trans S5.out hb.size)
      have L6 := Lib.hid (show b < x6.heap.size ∧ b < B from ⟨Nat.lt_of_lt_of_le L5.out.1 hb.size, L5.out.2⟩)
      have C6 := Lib.hid ((hb.cell (p := ⟨b, off + k, none⟩) L5.out.1).trans C5.out)
      clear hb H B5 G5 S5 L5 C5
      try go_simp
      refine hK.out _ _ C6.out (fun hHeld => ?_)
      clear hK K
      try simp only [lays]
      refine wpAnyH_take (i := 15) (v := ?_) rfl (by kernel_rfl) (by kernel_rfl) (by kernel_rfl) (fun _ _ _ h => h) (Or.inl ⟨by rfl, ?_⟩) (by assumption) ?_
      rotate_left
      · (intro w hSw; (try dsimp only at hSw); clear hSw; go_simp; try (with_reducible rfl))
      try simp only [lays]
      refine wpAnyH_ready (rs := [16]) (by kernel_rfl) (by simp) ?_
      refine AllReadyH.cons rfl (fun K hK => ?_) AllReadyH.nil
      go_simp
      have hba := (Below.refl x6.heap.size x6).alloc (Nat.le_refl _) (.cells #[.int .i64 ((k : Int) + 1), .int .i64 y, .int .u64 (Bx.pub (sec11 ⟨#[108, 101, 97, 100]⟩ ((k : Int) + 1)) : Nat), .int .u64 (Bx.pub (sec11 ⟨#[107, 101, 101, 112]⟩ ((k : Int) + 1)) : Nat), .int .u64 (Bx.pub (sec11 ⟨#[115, 105, 103, 110]⟩ ((k : Int) + 1)) : Nat)] 61)
      have HONE := Lib.hid (show Lz kCd No (x6.alloc (.cells #[.int .i64 ((k : Int) + 1), .int .i64 y, .int .u64 (Bx.pub (sec11 ⟨#[108, 101, 97, 100]⟩ ((k : Int) + 1)) : Nat), .int .u64 (Bx.pub (sec11 ⟨#[107, 101, 101, 112]⟩ ((k : Int) + 1)) : Nat), .int .u64 (Bx.pub (sec11 ⟨#[115, 105, 103, 110]⟩ ((k : Int) + 1)) : Nat)] 61)) ⟨[cdAt y k], some ⟨x6.heap.size, 0, none⟩, 1⟩ from lz_one kCd x6 (cdAt y k) (fun h => h.elim) _ rfl)
      have B7 := Lib.hid (B6.out.trans (hba.mono S6.out))
      have G7 := Lib.hid (G6.out.below hba)
      have S7 := Lib.hid (Nat.le_trans S6.out hba.size)
      have C7 := Lib.hid ((hba.cell (p := ⟨b, off + k, none⟩) L6.out.1).trans C6.out)
      have L7 := Lib.hid (show b < (x6.alloc (.cells #[.int .i64 ((k : Int) + 1), .int .i64 y, .int .u64 (Bx.pub (sec11 ⟨#[108, 101, 97, 100]⟩ ((k : Int) + 1)) : Nat), .int .u64 (Bx.pub (sec11 ⟨#[107, 101, 101, 112]⟩ ((k : Int) + 1)) : Nat), .int .u64 (Bx.pub (sec11 ⟨#[115, 105, 103, 110]⟩ ((k : Int) + 1)) : Nat)] 61)).heap.size ∧ b < B from ⟨Nat.lt_of_lt_of_le L6.out.1 hba.size, L6.out.2⟩)
      clear hba B6 G6 S6 C6 L6
      refine hK.out _ _ C7.out (fun hHeld => ?_)
      clear hK K
      try simp only [lays]
      obtain ⟨nb, hnb⟩ : ∃ nb, nb = x6.heap.size := ⟨_, rfl⟩
      obtain ⟨x7, hx7⟩ : ∃ x7, x7 = x6.alloc (.cells #[.int .i64 ((k : Int) + 1), .int .i64 y, .int .u64 (Bx.pub (sec11 ⟨#[108, 101, 97, 100]⟩ ((k : Int) + 1)) : Nat), .int .u64 (Bx.pub (sec11 ⟨#[107, 101, 101, 112]⟩ ((k : Int) + 1)) : Nat), .int .u64 (Bx.pub (sec11 ⟨#[115, 105, 103, 110]⟩ ((k : Int) + 1)) : Nat)] 61) := ⟨_, rfl⟩
      rw [← hx7] at HONE B7 G7 S7 C7 L7 hHeld ⊢
      rw [← hnb] at HONE ⊢
      clear hx7 hnb
      refine wpAnyH_ready (rs := [17]) (by kernel_rfl) (by simp) ?_
      refine AllReadyH.cons rfl (fun K hK => ?_) AllReadyH.nil
      refine step_push_ls ki_cd rfl (.tmp 14) (.tmp 30) rfl B z ⟨[cdAt y k], some ⟨nb, 0, none⟩, 1⟩ G7.out (by rw [show z.v = Value.slice z.A k z.c from by show Value.slice _ z.l.length _ = _; rw [HZN.out]]; rfl) HONE.out rfl (by rw [HZN.out]; show k + 1 ≤ _; omega) S7.out ?_
      intro z2 x8 hz2 hg2 hgw
      have hbk : ∀ g, z.v.ownBlock = some g → B ≤ g := fun g e => (G7.out.lt g e).1
      have C8 := Lib.hid ((Bf.cell (F := fun q => B ≤ q) (Bf.grown hgw hbk) (p := ⟨b, off + k, none⟩) L7.out.1 (by have := L7.out.2; show ¬ B ≤ b; omega)).trans C7.out)
      have HZ2 := Lib.hid (show z2.l = cds xs (k + 1) from by rw [hz2, HZL.out, cds_succ, HKN.out])
      have HZ2N := Lib.hid (show z2.l.length = k + 1 from by rw [hz2, List.length_append, HZN.out]; rfl)
      have HG2 := Lib.hid hg2
      have HB2 := Lib.hid (B7.out.grown hgw (by have := S7.out; omega) hbk)
      clear hz2 hg2 hgw hbk HONE B7 G7 S7 C7 L7
      rw [show z2.v = Value.slice z2.A (k + 1) z2.c from by show Value.slice _ z2.l.length _ = _; rw [HZ2N.out]]
      refine hK.out _ _ C8.out (fun hHeld => ?_)
      clear hK K
      try simp only [lays]
      refine wpAnyH_take (i := 18) (v := ?_) rfl (by kernel_rfl) (by kernel_rfl) (by kernel_rfl) (fun _ _ _ h => h) (Or.inl ⟨by rfl, ?_⟩) (by assumption) ?_
      rotate_left
      · (intro w hSw; (try dsimp only at hSw); clear hSw; go_simp; try (with_reducible rfl))
      try simp only [lays]
      refine wpAnyH_done (by kernel_rfl) ?_ _
      clear hHeld C8 HZ2N HZN HZL HKN c0
      go_wp2
      go_roundw
      case rel => exact ⟨z2, k + 1, rfl, by go_num, by omega, HZ2.out, HG2.out, HB2.out⟩
      case measure => simp [intOf]; omega
    · have hk : k = n := by omega
      subst hk
      have HZL := Lib.hid hzl
      have HG := Lib.hid hgz
      have HBL := Lib.hid hbl
      have HZN := Lib.hid (show z.l.length = k from by rw [hzl]; exact cds_len _ _)
      clear hzl hgz hbl
      go_wp2
      go_ret
      exact ⟨z, congrArg (fun q => Ending.returned (Value.slice z.A q z.c)) HZN.out.symm, HZL.out, by rw [← HB.out]; exact HG.out, by rw [← HB.out]; exact HBL.out⟩
end Ot
end Go.Proofs.YtkicjjcangkneaaGreatDoor

/-
  What is signed by a card's secret is that card's device's, and keeps its name; of another card, or with something else in it, it is not as it was (P11.4, P11.6): 'huddlelaw11.OpSigns' returns true. The table of kinds reads as it was laid.
-/
namespace Go.Proofs.YtkicjjcangkneaaGreatDoor
open Go.RowKit
set_option linter.unusedSimpArgs false
set_option linter.unusedVariables false
attribute [local go_sem ↓] Go.wp_at_zero Go.wp_at_succ
set_option maxRecDepth 100000
namespace Ot
open List (getElem_toArray getElem_cons_succ getElem_cons_zero setIfInBounds_toArray set_cons_zero set_cons_succ)
/-- An operation and the same, signed, each in a variable; all of the signed one's lists are its own. -/
structure S3 (lo : Nat) (w0 w : World) (V1 V2 B : Nat) (o s : LOp) (x : Nat) : Prop where
  v1 : Vr w V1 o
  v2 : Vr w V2 s
  v12 : V1 < V2
  v1B : V1 < B
  src : Lies (fun k => B ≤ k) w o
  srcV : Lies (fun k => k = V2) w o
  own : Own B w s
  er : s.er = sgd o.er x
  bel : Below lo w0 w
  loV : lo ≤ V2
  loB : lo ≤ B
theorem step_store_op {ops : Array Oper} {op : Oper} {a : Act} {w : World} {G : Act → World → Prop} {Q : Exit → Act → World → Prop} {E : Prop} (hgd : op.guard = none) (x y : Operand) (ho : op.op = .store 35 x y)
    {V : Nat} {o o' : LOp} (hx : a.eval x = .pointer (some ⟨V, 0, none⟩)) (hy : a.eval y = o'.v) (hV : Vr w V o)
    (h : G (a.put op.dst undef) (w.setRow V o'.cells)) : if Region.wanted op (yielded ops a.tmps) = true then Oper.wp Tryz.prog op a w G Q else E := by
  rw [if_pos (by simp [Region.wanted, hgd])]
  exact wp_store_row 35 x y ho V o'.cells hx hy 35 o.cells hV (by rw [o'.size]; exact op_info) rfl o'.one h
theorem sgd_tiny {o : Er} (h : Tiny o) (x : Nat) : Tiny (sgd o x) := by
  unfold sgd
  obtain ⟨r, hr⟩ : ∃ r, r = Sg.R x (Sg.msg (con o)) := ⟨_, rfl⟩
  obtain ⟨s, hs⟩ : ∃ r, r = Sg.S x (Sg.msg (con o)) := ⟨_, rfl⟩
  have h1 : u64 r := by rw [hr]; exact Nat.lt_trans (Sg.R_lt _ _) (by decide)
  have h2 : u64 s := by rw [hs]; exact Nat.lt_trans (Sg.S_lt _ _) (by decide)
  rw [← hr, ← hs]
  exact ⟨⟨h.ok.by_, h.ok.seq, h.ok.kind, h.ok.at_, h.ok.past, h.ok.dev, h.ok.old, h.ok.mem, h.ok.role, h.ok.path, h.ok.epoch, h.ok.n, h.ok.body, h.ok.refs, h.ok.of_, h.ok.guards, h.ok.need, h.ok.wait, h.ok.boxes, h.ok.pub, h.ok.hist, h1, h2⟩, h.past, h.path, h.pathB, h.body, h.refs, h.guards, h.boxes, h.hist, h.histB⟩

theorem GOp.room7 {xs : List Int} {o : LOp} (h : GOp xs o) : Roomy 7 o := by
  obtain ⟨r0, r3, o1, o2, o3, h0, h3, p1, p2, p3, p4⟩ := h
  have a1 := p1.few
  have a2 := p2.few
  have a3 := p4.few
  have e4 := p4.eq
  have hp : o2.past = o1.past := by rw [p2.eq]
  have hg : o2.guards.l = [] := by rw [p2.eq, p1.eq]; rfl
  have hb : o2.boxes.l = [] := by rw [p2.eq, p1.eq]; rfl
  have key : o3.past.l.length ≤ 7 ∧ o3.path.l.length ≤ 7 ∧ o3.guards.l.length ≤ 7 ∧ o3.boxes.l.length ≤ 7 := by
    have b1 : o2.past.l.length ≤ 7 := by rw [hp]; omega
    have b2 : o2.path.l.length ≤ 7 := by omega
    have b3 : o2.guards.l.length ≤ 7 := by rw [hg]; exact Nat.zero_le _
    have b4 : o2.boxes.l.length ≤ 7 := by rw [hb]; exact Nat.zero_le _
    cases p3 with
    | guard g n t p b hk h0 h1 h2 h3 h4 h5 h6 h7 => exact ⟨b1, b2, by show g.l.length ≤ 7; omega, by show b.l.length ≤ 7; omega⟩
    | refresh e b hk h0 h1 h2 => exact ⟨b1, b2, b3, by show b.l.length ≤ 7; omega⟩
    | vouch e d b hk h0 h3 h1 h2 => exact ⟨b1, b2, b3, by show b.l.length ≤ 7; omega⟩
    | _ => exact ⟨b1, b2, b3, b4⟩
  refine ⟨?_, ?_, ?_, ?_, by omega⟩
  · rw [e4]; exact key.1
  · rw [e4]; exact key.2.1
  · rw [e4]; exact key.2.2.1
  · rw [e4]; exact key.2.2.2
def ows : List Int := [1, 1, 2, 2, 3, 3]
theorem GOp.by6 {xs : List Int} {o : LOp} (h : GOp xs o) : ∃ j : Nat, j < 6 ∧ o.by_ = (j : Int) + 1 := ⟨nx xs (0 + 1) 6, nx_lt _ _ (by omega), by rw [h.head.1]; omega⟩
theorem roomy_sgd {m : Nat} {s o : LOp} {x : Nat} (h : s.er = sgd o.er x) (hr : Roomy m o) : Roomy m s := by
  obtain ⟨h1, h2, h3, h4, h5⟩ := hr
  have e1 : s.past.l = o.past.l := congrArg Er.past h
  have e2 : s.path.l.map LNd.er = o.path.l.map LNd.er := congrArg Er.path h
  have e3 : s.guards.l = o.guards.l := congrArg Er.guards h
  have e4 : s.boxes.l = o.boxes.l := congrArg Er.boxes h
  have e5 : s.hist.l.map LSd.er = o.hist.l.map LSd.er := congrArg Er.hist h
  have l2 : s.path.l.length = o.path.l.length := by have := congrArg List.length e2; simpa using this
  have l5 : s.hist.l.length = o.hist.l.length := by have := congrArg List.length e5; simpa using this
  exact ⟨by rw [e1]; exact h1, by rw [l2]; exact h2, by rw [e3]; exact h3, by rw [e4]; exact h4, by rw [l5]; exact h5⟩
theorem max0 (x j : Nat) (hj : j = x) (W : World) : (Builtin.max_ #[3, 3] 3 #[.int .i64 (x : Int), .int .i64 0]).run Tryz.prog W = .ok (.int .i64 (j : Int)) W := by
  have e : (if (x : Int) < (0 : Int) then (0 : Int) else (x : Int)) = (j : Int) := by
    split <;> omega
  simp only [Builtin.max_, Builtin.max2, List.foldlM, bind_pure]
  rw [← e]
  rfl
theorem min5 (x j : Nat) (hj : j = x) (hx : x < 6) (W : World) : (Builtin.min_ #[3, 3] 3 #[.int .i64 (x : Int), .int .i64 5]).run Tryz.prog W = .ok (.int .i64 (j : Int)) W := by
  have e : (if (5 : Int) < (x : Int) then (5 : Int) else (x : Int)) = (j : Int) := by
    split <;> omega
  simp only [Builtin.min_, Builtin.min2, List.foldlM, bind_pure]
  rw [← e]
  rfl
theorem cds_at {l : List Int} {n k : Nat} {y : Cd} (hk : k < n) (h : (cds l n)[k]? = some y) : y = cdAt (l.getD k 0) k := by
  unfold cds at h
  rw [List.getElem?_map, List.getElem?_range hk] at h
  injection h with h
  exact h.symm
theorem cd_cells {F : Nat → Prop} {w : World} {zl : List Cd} {b off zcp k : Nat} {dv mm : Int} {le ke sg : Nat} (h : Lz kCd F w ⟨zl, some ⟨b, off, none⟩, zcp⟩) (hy : zl[k]? = some ⟨dv, mm, le, ke, sg⟩) :
    w.cell? ⟨b, off + k * 5, none⟩ = some (.int .i64 dv) ∧ w.cell? ⟨b, off + k * 5 + 1, none⟩ = some (.int .i64 mm) ∧ w.cell? ⟨b, off + k * 5 + 2, none⟩ = some (.int .u64 (le : Int)) ∧ w.cell? ⟨b, off + k * 5 + 3, none⟩ = some (.int .u64 (ke : Int)) ∧ w.cell? ⟨b, off + k * 5 + 4, none⟩ = some (.int .u64 (sg : Int)) := by
  obtain ⟨b', off', e, _, _, h3⟩ := h.at_ hy
  have e : some (⟨b, off, none⟩ : Addr) = some ⟨b', off', none⟩ := e
  injection e with e
  injection e with e1 e2
  subst e1 e2
  exact ⟨h3 0 _ rfl, h3 1 _ rfl, h3 2 _ rfl, h3 3 _ rfl, h3 4 _ rfl⟩
theorem ver_q {s o : LOp} {x sg : Nat} {dv : Int} {L : ByteArray} (hse : s.er = sgd o.er x) (hx : x = sec11 L o.by_) (hsg : sg = Bx.pub (sec11 L dv)) : (decide (s.by_ = dv) && Sg.chk sg (Sg.msg (con s.er)) s.r s.s) = (dv == o.by_) := by
  have e1 : s.by_ = o.by_ := congrArg Er.by_ hse
  have e2 : s.r = Sg.R x (Sg.msg (con o.er)) := congrArg Er.r hse
  have e3 : s.s = Sg.S x (Sg.msg (con o.er)) := congrArg Er.s hse
  have e4 : con s.er = con o.er := by rw [hse]; rfl
  by_cases h : o.by_ = dv
  · subst h
    rw [e1, e2, e3, e4, hsg, ← hx, decide_eq_true rfl, Sg.chk_sign, Bool.true_and, beq_self_eq_true]
  · rw [e1, decide_eq_false h, Bool.false_and]
    exact (beq_eq_false_iff_ne.2 (fun e => h e.symm)).symm
set_option maxHeartbeats 16000000 in
theorem opsigns_any {w : World} (l : Ls Int) (how n : Int) (hl : Lz kInt No w l) (hok : ∀ y ∈ l.l, i64 y) (hln : l.l.length ≤ 9223372036854775807) (hhow : i64 how) (hn : i64 n) (hk : Kds w) :
    Calls Tryz.prog 6 #[l.v, .int .i64 how, .int .i64 n] w fun e w' => e = .returned (.bool true) ∧ Below w.heap.size w w' := by
  have hcs : Lz kInt No (w.alloc (.cells #[.int .i64 1, .int .i64 1, .int .i64 2, .int .i64 2, .int .i64 3, .int .i64 3] 3)) ⟨ows, some ⟨w.heap.size, 0, none⟩, 6⟩ := by
    refine ⟨fun _ => ⟨w.heap.size, 0, rfl, by simp, fun h => h, fun i u hu => ?_⟩, Nat.le_refl 6, fun h => nomatch h⟩
    have := cell_new w #[.int .i64 1, .int .i64 1, .int .i64 2, .int .i64 2, .int .i64 3, .int .i64 3] 3 i u hu
    rw [Addr.add_lit] at this
    exact this
  have HCA := Lib.hid (show Calls Tryz.prog 24 #[.slice (some ⟨w.heap.size, 0, none⟩) 6 6] (w.alloc (.cells #[.int .i64 1, .int .i64 1, .int .i64 2, .int .i64 2, .int .i64 3, .int .i64 3] 3)) _ from cards_any ⟨ows, some ⟨w.heap.size, 0, none⟩, 6⟩ hcs (by show 6 ≤ 100; omega))
  have hb0 := (Below.refl w.heap.size w).alloc (Nat.le_refl _) (.cells #[.int .i64 1, .int .i64 1, .int .i64 2, .int .i64 2, .int .i64 3, .int .i64 3] 3)
  have HB0 := Lib.hid hb0
  have HL := Lib.hid (hl.bf (F := No) (Bf.below hb0))
  have HLO := Lib.hid (And.intro hok hln)
  have HK := Lib.hid hk
  have HHN := Lib.hid (And.intro hhow hn)
  clear hcs hb0 hl hok hln hk hhow hn
  go_enter Tryz.func6, Tryz.ntmps6
  go_wp2_with fail
  refine (HCA.out).mono ?_
  rintro e w1 ⟨z, rfl, hzl, hzg, hb⟩
  have HZL := Lib.hid (show z.l = cds ows 6 from hzl)
  have HZ := Lib.hid (hzg.lz (F := No) fun _ h => h.elim)
  have HB1 := Lib.hid (HB0.out.trans (hb.mono (by simp)))
  have HOP := Lib.hid (op_any l (HL.out.bf (F := No) (Bf.below hb)) HLO.out.1 HLO.out.2)
  clear hzl hzg hb HCA HB0 HL HLO
  go_wp2_with fail
  refine (HOP.out).mono ?_
  rintro e w2 ⟨o, rfl, hg, hlo, hb⟩
  have HT := Lib.hid hg.tiny
  have HRO := Lib.hid hg.room7
  have HBY := Lib.hid hg.by6
  have HVZ := Lib.hid (Vr.new w2 LOp.zero)
  have HVN := Lib.hid (var_new w2 o)
  have hb2 := hb.trans (var_below w2 LOp.zero o hb.size)
  have HLO := Lib.hid (var_lies (F := No) hlo LOp.zero o)
  have HZ2 := Lib.hid (HZ.out.bf (F := No) (Bf.below hb2))
  have HB2 := Lib.hid (HB1.out.trans (hb2.mono HB1.out.size))
  clear hg hlo hb hb2 HOP HZ HB1
  go_upto_region 3 with (refine wpList_store_op (o' := o) rfl _ _ rfl rfl rfl HVZ.out ?_)
  rw [zc]
  obtain ⟨V1, hV1⟩ : ∃ V, V = w2.heap.size := ⟨_, rfl⟩
  obtain ⟨w3, hw3⟩ : ∃ W, W = (w2.alloc (.cells LOp.zero.cells 35)).setRow w2.heap.size o.cells := ⟨_, rfl⟩
  rw [← hw3] at HVN HLO HZ2 HB2 ⊢
  rw [← hV1] at HVN ⊢
  clear hw3 hV1 HVZ
  obtain ⟨x, hx⟩ : ∃ x, x = sec11 ⟨#[115, 105, 103, 110]⟩ o.by_ := ⟨_, rfl⟩
  have HX := Lib.hid hx
  have HXL := Lib.hid (show x < 18446744073709551616 from hx ▸ sec11_lt _ _)
  clear hx
  try simp only [Act.put, getElem_toArray, getElem_cons_succ, getElem_cons_zero, setIfInBounds_toArray, set_cons_zero, set_cons_succ]
  go_cut [9] (fun t wx => ∃ (V2 B : Nat) (s : LOp), t = .pointer (some ⟨V2, 0, none⟩) ∧ S3 w.heap.size w wx V1 V2 B o s x ∧ Lz kCd (fun k => k = V2) wx z)
  case first =>
    have VAd := Lib.hid (show Vr w3.drew V1 o from HVN.out)
    have LAd := Lib.hid (show Lies No w3.drew o from HLO.out.bf (Bf.drew w3))
    have Bd := Lib.hid (show Below w.heap.size w w3.drew from HB2.out.trans (below_drewN w3 1 _))
    have Ed0 := Lib.hid (show Lz kCd No w3.drew z from HZ2.out.bf (Bf.drew w3))
    clear HVN HLO HB2 HZ2
    refine wp_region_held_drew (S := (fun w' : World => Vr w' V1 o)) (by kernel_rfl) VAd.out (fun hHeld => ?_)
    try simp only [Act.put, getElem_toArray, getElem_cons_zero, setIfInBounds_toArray, set_cons_zero, set_cons_succ]
    obtain ⟨wd, hwd⟩ : ∃ wd, wd = w3.drew := ⟨_, rfl⟩
    rw [← hwd] at hHeld VAd LAd Bd Ed0 ⊢
    clear hwd
    refine wpAnyH_take (i := 0) (v := ?_) rfl (by kernel_rfl) (by kernel_rfl) (by kernel_rfl) (fun _ _ _ h => h) (Or.inl ⟨by rfl, ?_⟩) (by assumption) ?_
    rotate_left
    · (intro w hSw; (try dsimp only at hSw); clear hSw; go_simp; try (with_reducible rfl))
    try simp only [Act.put, getElem_toArray, getElem_cons_zero, setIfInBounds_toArray, set_cons_zero, set_cons_succ]
    refine wpAnyH_take (i := 1) (v := ?_) rfl (by kernel_rfl) (by kernel_rfl) (by kernel_rfl) (fun _ _ _ h => h) (Or.inl ⟨by rfl, ?_⟩) (by assumption) ?_
    rotate_left
    · (intro w hSw; (try dsimp only at hSw); have c0 := (hSw.cell 0).trans o.c0; clear hSw; go_simp; try (with_reducible rfl))
    try simp only [Act.put, getElem_toArray, getElem_cons_succ, getElem_cons_zero, setIfInBounds_toArray, set_cons_zero, set_cons_succ]
    refine wpAnyH_take (i := 3) (v := ?_) rfl (by kernel_rfl) (by kernel_rfl) (by kernel_rfl) (fun _ _ _ h => h) (Or.inl ⟨by rfl, ?_⟩) (by assumption) ?_
    rotate_left
    · (intro w hSw; (try dsimp only at hSw); refine run_load_op _ (.tmp 8) ?_ ?_ hSw <;> rfl)
    try simp only [Act.put, getElem_toArray, getElem_cons_succ, getElem_cons_zero, setIfInBounds_toArray, set_cons_zero, set_cons_succ]
    refine wpAnyH_ready (rs := [2, 5]) (by kernel_rfl) (by simp) ?_
    refine AllReadyH.cons rfl (fun K hK => ?_) (AllReadyH.cons rfl (fun K hK => ?_) AllReadyH.nil)
    · skip
      go_simp
      have H := Lib.hid (secret11_any ⟨#[115, 105, 103, 110]⟩ (by decide) o.by_ wd)
      rw [← HX.out] at H
      refine (H.out).mono ?_
      rintro e x1_ ⟨rfl, hb⟩
      have VA2_ := Lib.hid (VAd.out.below hb (Blk.lt VAd.out))
      have LA3_ := Lib.hid (LAd.out.bf (F := No) (Bf.below hb))
      have B4_ := Lib.hid (Bd.out.trans (hb.mono Bd.out.size))
      have E05_ := Lib.hid (Ed0.out.bf (F := No) (Bf.below hb))
      clear VAd LAd Bd Ed0
      clear hb H
      try go_simp
      refine hK.out _ _ VA2_.out (fun hHeld => ?_)
      clear hK K
      try simp only [Act.put, getElem_toArray, getElem_cons_succ, getElem_cons_zero, setIfInBounds_toArray, set_cons_zero, set_cons_succ]
      refine wpAnyH_ready (rs := [4, 5]) (by kernel_rfl) (by simp) ?_
      refine AllReadyH.cons rfl (fun K hK => ?_) (AllReadyH.cons rfl (fun K hK => ?_) AllReadyH.nil)
      · skip
        go_simp
        have H := Lib.hid (opsign_any x HXL.out o LA3_.out.no HT.out)
        obtain ⟨B, hB⟩ : ∃ B, B = x1_.heap.size := ⟨_, rfl⟩
        refine (H.out).mono ?_
        rintro e x6_ ⟨s, rfl, hse, hso, hb⟩
        have HV1B := Lib.hid (show V1 < B from hB ▸ Blk.lt VA2_.out)
        have HLOB := Lib.hid (show w.heap.size ≤ B from hB ▸ B4_.out.size)
        have LA7_ := Lib.hid (LA3_.out.weak (G := fun k => B ≤ k) fun k hk hf => by have hf : B ≤ k := hf; omega)
        clear LA3_
        have VA8_ := Lib.hid (VA2_.out.below hb (Blk.lt VA2_.out))
        have LA9_ := Lib.hid (LA7_.out.bf (F := fun k => B ≤ k) (Bf.below hb))
        have B10_ := Lib.hid (B4_.out.trans (hb.mono B4_.out.size))
        have E011_ := Lib.hid (E05_.out.bf (F := No) (Bf.below hb))
        clear VA2_ LA7_ B4_ E05_
        have HOW0 := Lib.hid (show Own B x6_ s from hB ▸ hso)
        have HSE := Lib.hid hse
        have HBS := Lib.hid (show B ≤ x6_.heap.size from hB ▸ hb.size)
        clear hb hse hso H hB
        try go_simp
        refine hK.out _ _ VA8_.out (fun hHeld => ?_)
        clear hK K
        try simp only [Act.put, getElem_toArray, getElem_cons_succ, getElem_cons_zero, setIfInBounds_toArray, set_cons_zero, set_cons_succ]
        refine wpAnyH_ready (rs := [5]) (by kernel_rfl) (by simp) ?_
        refine AllReadyH.cons rfl (fun K hK => ?_) AllReadyH.nil
        go_simp
        rw [zc]
        have hb := (Below.refl x6_.heap.size x6_).alloc (Nat.le_refl _) (.cells LOp.zero.cells 35)
        have hvz := Vr.new x6_ LOp.zero
        obtain ⟨V2, hV2⟩ : ∃ V2, V2 = x6_.heap.size := ⟨_, rfl⟩
        have HBV2 := Lib.hid (show B ≤ V2 from hV2 ▸ HBS.out)
        have E13_ := Lib.hid (E011_.out.weak (G := fun k => V2 ≤ k) fun k hk hf => by have hf : V2 ≤ k := hf; omega)
        have HV12 := Lib.hid (show V1 < V2 from hV2 ▸ Blk.lt VA8_.out)
        have HLOV := Lib.hid (show w.heap.size ≤ V2 from hV2 ▸ B10_.out.size)
        clear E011_
        obtain ⟨x12_, hw2⟩ : ∃ u, u = x6_.alloc (.cells LOp.zero.cells 35) := ⟨_, rfl⟩
        rw [← hw2] at hb hvz ⊢
        rw [← hV2] at hvz ⊢
        have VA14_ := Lib.hid (VA8_.out.below hb (Blk.lt VA8_.out))
        have LA15_ := Lib.hid (LA9_.out.bf (F := fun k => B ≤ k) (Bf.below hb))
        have B16_ := Lib.hid (B10_.out.trans (hb.mono B10_.out.size))
        have OW17_ := Lib.hid (HOW0.out.below hb)
        have E018_ := Lib.hid (E13_.out.bf (F := fun k => V2 ≤ k) (Bf.below hb))
        clear VA8_ LA9_ B10_ HOW0 E13_
        have HVZ0 := Lib.hid hvz
        clear hb hvz hw2 hV2
        refine hK.out _ _ VA14_.out (fun hHeld => ?_)
        clear hK K
        try simp only [Act.put, getElem_toArray, getElem_cons_succ, getElem_cons_zero, setIfInBounds_toArray, set_cons_zero, set_cons_succ]
        refine wpAnyH_ready (rs := [6]) (by kernel_rfl) (by simp) ?_
        refine AllReadyH.cons rfl (fun K hK => ?_) AllReadyH.nil
        refine step_store_op (o' := s) rfl (.tmp 9) (.tmp 21) rfl rfl rfl HVZ0.out ?_
        have hbf : Bf (fun k => k = V2) x12_ (x12_.setRow V2 s.cells) := Bf.setRow _ rfl
        have va := VA14_.out.bf hbf (by have := HV12.out; show ¬ V1 = V2; omega)
        have src := LA15_.out.bf (hbf.weak (G := fun k => B ≤ k) fun k _ h => by have h : k = V2 := h; have := HBV2.out; show B ≤ k; omega)
        have srcV := src.weak (G := fun k => k = V2) fun k _ h => by have h : k = V2 := h; have := HBV2.out; show B ≤ k; omega
        have own := OW17_.out.kept HVZ0.out (grown_setRow x12_ V2 s.cells)
        have bel := Below.trans B16_.out (hbf.dn (B16_.out.size) (fun k h => by have h : k = V2 := h; have := HLOV.out; omega))
        have ex0 := (E018_.out.bf (hbf.weak (G := fun k => V2 ≤ k) fun k _ h => by have h : k = V2 := h; show V2 ≤ k; omega)).weak (G := fun k => k = V2) fun k _ h => by have h : k = V2 := h; show V2 ≤ k; omega
        have HFIN := Lib.hid (show S3 w.heap.size w (x12_.setRow V2 s.cells) V1 V2 B o s x ∧ Lz kCd (fun k => k = V2) (x12_.setRow V2 s.cells) z from ⟨⟨va, HVZ0.out.setRow s, HV12.out, HV1B.out, src, srcV, own, HSE.out, bel, HLOV.out, HLOB.out⟩, ex0⟩)
        clear hbf va src srcV own bel ex0
        refine hK.out _ _ HFIN.out.1.v1 (fun _ => ?_)
        clear hK K
        try simp only [Act.put, getElem_toArray, getElem_cons_succ, getElem_cons_zero, setIfInBounds_toArray, set_cons_zero, set_cons_succ]
        refine wpAnyH_done (by kernel_rfl) ?_ _
        go_wp2_with fail
        go_meet
        exact ⟨V2, B, s, rfl, HFIN.out⟩
      · skip
        go_simp
        rw [zc]
        have hb := (Below.refl x1_.heap.size x1_).alloc (Nat.le_refl _) (.cells LOp.zero.cells 35)
        have hvz := Vr.new x1_ LOp.zero
        obtain ⟨V2, hV2⟩ : ∃ V2, V2 = x1_.heap.size := ⟨_, rfl⟩
        have LA20_ := Lib.hid (LA3_.out.weak (G := fun k => V2 ≤ k) fun k hk hf => by have hf : V2 ≤ k := hf; omega)
        have E21_ := Lib.hid (E05_.out.weak (G := fun k => V2 ≤ k) fun k hk hf => by have hf : V2 ≤ k := hf; omega)
        have HV12 := Lib.hid (show V1 < V2 from hV2 ▸ Blk.lt VA2_.out)
        have HLOV := Lib.hid (show w.heap.size ≤ V2 from hV2 ▸ B4_.out.size)
        clear LA3_ E05_
        obtain ⟨x19_, hw2⟩ : ∃ u, u = x1_.alloc (.cells LOp.zero.cells 35) := ⟨_, rfl⟩
        rw [← hw2] at hb hvz ⊢
        rw [← hV2] at hvz ⊢
        have VA22_ := Lib.hid (VA2_.out.below hb (Blk.lt VA2_.out))
        have LA23_ := Lib.hid (LA20_.out.bf (F := fun k => V2 ≤ k) (Bf.below hb))
        have B24_ := Lib.hid (B4_.out.trans (hb.mono B4_.out.size))
        have E025_ := Lib.hid (E21_.out.bf (F := fun k => V2 ≤ k) (Bf.below hb))
        clear VA2_ LA20_ B4_ E21_
        have HVZ0 := Lib.hid hvz
        clear hb hvz hw2 hV2
        refine hK.out _ _ VA22_.out (fun hHeld => ?_)
        clear hK K
        try simp only [Act.put, getElem_toArray, getElem_cons_succ, getElem_cons_zero, setIfInBounds_toArray, set_cons_zero, set_cons_succ]
        refine wpAnyH_ready (rs := [4]) (by kernel_rfl) (by simp) ?_
        refine AllReadyH.cons rfl (fun K hK => ?_) AllReadyH.nil
        go_simp
        have H := Lib.hid (opsign_any x HXL.out o LA23_.out.no HT.out)
        obtain ⟨B, hB⟩ : ∃ B, B = x19_.heap.size := ⟨_, rfl⟩
        refine (H.out).mono ?_
        rintro e x26_ ⟨s, rfl, hse, hso, hb⟩
        have HV1B := Lib.hid (show V1 < B from hB ▸ Blk.lt VA22_.out)
        have HLOB := Lib.hid (show w.heap.size ≤ B from hB ▸ B24_.out.size)
        have HV2B := Lib.hid (show V2 < B from hB ▸ Blk.lt HVZ0.out)
        have VA27_ := Lib.hid (VA22_.out.below hb (Blk.lt VA22_.out))
        have LA28_ := Lib.hid (LA23_.out.bf (F := fun k => V2 ≤ k) (Bf.below hb))
        have B29_ := Lib.hid (B24_.out.trans (hb.mono B24_.out.size))
        have VZ30_ := Lib.hid (HVZ0.out.below hb (Blk.lt HVZ0.out))
        have E031_ := Lib.hid (E025_.out.bf (F := fun k => V2 ≤ k) (Bf.below hb))
        clear VA22_ LA23_ B24_ HVZ0 E025_
        have HOW0 := Lib.hid (show Own B x26_ s from hB ▸ hso)
        have HSE := Lib.hid hse
        clear hb hse hso H hB
        try go_simp
        refine hK.out _ _ VA27_.out (fun hHeld => ?_)
        clear hK K
        try simp only [Act.put, getElem_toArray, getElem_cons_succ, getElem_cons_zero, setIfInBounds_toArray, set_cons_zero, set_cons_succ]
        refine wpAnyH_ready (rs := [6]) (by kernel_rfl) (by simp) ?_
        refine AllReadyH.cons rfl (fun K hK => ?_) AllReadyH.nil
        refine step_store_op (o' := s) rfl (.tmp 9) (.tmp 21) rfl rfl rfl VZ30_.out ?_
        have hbf : Bf (fun k => k = V2) x26_ (x26_.setRow V2 s.cells) := Bf.setRow _ rfl
        have va := VA27_.out.bf hbf (by have := HV12.out; show ¬ V1 = V2; omega)
        have la := LA28_.out.bf (hbf.weak (G := fun k => V2 ≤ k) fun k _ h => by have h : k = V2 := h; show V2 ≤ k; omega)
        have src := la.weak (G := fun k => B ≤ k) fun k _ h => by have h : B ≤ k := h; have := HV2B.out; show V2 ≤ k; omega
        have srcV := la.weak (G := fun k => k = V2) fun k _ h => by have h : k = V2 := h; show V2 ≤ k; omega
        have own := HOW0.out.kept VZ30_.out (grown_setRow x26_ V2 s.cells)
        have bel := Below.trans B29_.out (hbf.dn (B29_.out.size) (fun k h => by have h : k = V2 := h; have := HLOV.out; omega))
        have ex0 := (E031_.out.bf (hbf.weak (G := fun k => V2 ≤ k) fun k _ h => by have h : k = V2 := h; show V2 ≤ k; omega)).weak (G := fun k => k = V2) fun k _ h => by have h : k = V2 := h; show V2 ≤ k; omega
        have HFIN := Lib.hid (show S3 w.heap.size w (x26_.setRow V2 s.cells) V1 V2 B o s x ∧ Lz kCd (fun k => k = V2) (x26_.setRow V2 s.cells) z from ⟨⟨va, VZ30_.out.setRow s, HV12.out, HV1B.out, src, srcV, own, HSE.out, bel, HLOV.out, HLOB.out⟩, ex0⟩)
        clear hbf va la src srcV own bel ex0
        refine hK.out _ _ HFIN.out.1.v1 (fun _ => ?_)
        clear hK K
        try simp only [Act.put, getElem_toArray, getElem_cons_succ, getElem_cons_zero, setIfInBounds_toArray, set_cons_zero, set_cons_succ]
        refine wpAnyH_done (by kernel_rfl) ?_ _
        go_wp2_with fail
        go_meet
        exact ⟨V2, B, s, rfl, HFIN.out⟩
    · skip
      go_simp
      rw [zc]
      have hb := (Below.refl wd.heap.size wd).alloc (Nat.le_refl _) (.cells LOp.zero.cells 35)
      have hvz := Vr.new wd LOp.zero
      obtain ⟨V2, hV2⟩ : ∃ V2, V2 = wd.heap.size := ⟨_, rfl⟩
      have LA33_ := Lib.hid (LAd.out.weak (G := fun k => V2 ≤ k) fun k hk hf => by have hf : V2 ≤ k := hf; omega)
      have E34_ := Lib.hid (Ed0.out.weak (G := fun k => V2 ≤ k) fun k hk hf => by have hf : V2 ≤ k := hf; omega)
      have HV12 := Lib.hid (show V1 < V2 from hV2 ▸ Blk.lt VAd.out)
      have HLOV := Lib.hid (show w.heap.size ≤ V2 from hV2 ▸ Bd.out.size)
      clear LAd Ed0
      obtain ⟨x32_, hw2⟩ : ∃ u, u = wd.alloc (.cells LOp.zero.cells 35) := ⟨_, rfl⟩
      rw [← hw2] at hb hvz ⊢
      rw [← hV2] at hvz ⊢
      have VA35_ := Lib.hid (VAd.out.below hb (Blk.lt VAd.out))
      have LA36_ := Lib.hid (LA33_.out.bf (F := fun k => V2 ≤ k) (Bf.below hb))
      have B37_ := Lib.hid (Bd.out.trans (hb.mono Bd.out.size))
      have E038_ := Lib.hid (E34_.out.bf (F := fun k => V2 ≤ k) (Bf.below hb))
      clear VAd LA33_ Bd E34_
      have HVZ0 := Lib.hid hvz
      clear hb hvz hw2 hV2
      refine hK.out _ _ VA35_.out (fun hHeld => ?_)
      clear hK K
      try simp only [Act.put, getElem_toArray, getElem_cons_succ, getElem_cons_zero, setIfInBounds_toArray, set_cons_zero, set_cons_succ]
      refine wpAnyH_ready (rs := [2]) (by kernel_rfl) (by simp) ?_
      refine AllReadyH.cons rfl (fun K hK => ?_) AllReadyH.nil
      go_simp
      have H := Lib.hid (secret11_any ⟨#[115, 105, 103, 110]⟩ (by decide) o.by_ x32_)
      rw [← HX.out] at H
      refine (H.out).mono ?_
      rintro e x39_ ⟨rfl, hb⟩
      have VA40_ := Lib.hid (VA35_.out.below hb (Blk.lt VA35_.out))
      have LA41_ := Lib.hid (LA36_.out.bf (F := fun k => V2 ≤ k) (Bf.below hb))
      have B42_ := Lib.hid (B37_.out.trans (hb.mono B37_.out.size))
      have VZ43_ := Lib.hid (HVZ0.out.below hb (Blk.lt HVZ0.out))
      have E044_ := Lib.hid (E038_.out.bf (F := fun k => V2 ≤ k) (Bf.below hb))
      clear VA35_ LA36_ B37_ HVZ0 E038_
      clear hb H
      try go_simp
      refine hK.out _ _ VA40_.out (fun hHeld => ?_)
      clear hK K
      try simp only [Act.put, getElem_toArray, getElem_cons_succ, getElem_cons_zero, setIfInBounds_toArray, set_cons_zero, set_cons_succ]
      refine wpAnyH_ready (rs := [4]) (by kernel_rfl) (by simp) ?_
      refine AllReadyH.cons rfl (fun K hK => ?_) AllReadyH.nil
      go_simp
      have H := Lib.hid (opsign_any x HXL.out o LA41_.out.no HT.out)
      obtain ⟨B, hB⟩ : ∃ B, B = x39_.heap.size := ⟨_, rfl⟩
      refine (H.out).mono ?_
      rintro e x45_ ⟨s, rfl, hse, hso, hb⟩
      have HV1B := Lib.hid (show V1 < B from hB ▸ Blk.lt VA40_.out)
      have HLOB := Lib.hid (show w.heap.size ≤ B from hB ▸ B42_.out.size)
      have HV2B := Lib.hid (show V2 < B from hB ▸ Blk.lt VZ43_.out)
      have VA46_ := Lib.hid (VA40_.out.below hb (Blk.lt VA40_.out))
      have LA47_ := Lib.hid (LA41_.out.bf (F := fun k => V2 ≤ k) (Bf.below hb))
      have B48_ := Lib.hid (B42_.out.trans (hb.mono B42_.out.size))
      have VZ49_ := Lib.hid (VZ43_.out.below hb (Blk.lt VZ43_.out))
      have E050_ := Lib.hid (E044_.out.bf (F := fun k => V2 ≤ k) (Bf.below hb))
      clear VA40_ LA41_ B42_ VZ43_ E044_
      have HOW0 := Lib.hid (show Own B x45_ s from hB ▸ hso)
      have HSE := Lib.hid hse
      clear hb hse hso H hB
      try go_simp
      refine hK.out _ _ VA46_.out (fun hHeld => ?_)
      clear hK K
      try simp only [Act.put, getElem_toArray, getElem_cons_succ, getElem_cons_zero, setIfInBounds_toArray, set_cons_zero, set_cons_succ]
      refine wpAnyH_ready (rs := [6]) (by kernel_rfl) (by simp) ?_
      refine AllReadyH.cons rfl (fun K hK => ?_) AllReadyH.nil
      refine step_store_op (o' := s) rfl (.tmp 9) (.tmp 21) rfl rfl rfl VZ49_.out ?_
      have hbf : Bf (fun k => k = V2) x45_ (x45_.setRow V2 s.cells) := Bf.setRow _ rfl
      have va := VA46_.out.bf hbf (by have := HV12.out; show ¬ V1 = V2; omega)
      have la := LA47_.out.bf (hbf.weak (G := fun k => V2 ≤ k) fun k _ h => by have h : k = V2 := h; show V2 ≤ k; omega)
      have src := la.weak (G := fun k => B ≤ k) fun k _ h => by have h : B ≤ k := h; have := HV2B.out; show V2 ≤ k; omega
      have srcV := la.weak (G := fun k => k = V2) fun k _ h => by have h : k = V2 := h; show V2 ≤ k; omega
      have own := HOW0.out.kept VZ49_.out (grown_setRow x45_ V2 s.cells)
      have bel := Below.trans B48_.out (hbf.dn (B48_.out.size) (fun k h => by have h : k = V2 := h; have := HLOV.out; omega))
      have ex0 := (E050_.out.bf (hbf.weak (G := fun k => V2 ≤ k) fun k _ h => by have h : k = V2 := h; show V2 ≤ k; omega)).weak (G := fun k => k = V2) fun k _ h => by have h : k = V2 := h; show V2 ≤ k; omega
      have HFIN := Lib.hid (show S3 w.heap.size w (x45_.setRow V2 s.cells) V1 V2 B o s x ∧ Lz kCd (fun k => k = V2) (x45_.setRow V2 s.cells) z from ⟨⟨va, VZ49_.out.setRow s, HV12.out, HV1B.out, src, srcV, own, HSE.out, bel, HLOV.out, HLOB.out⟩, ex0⟩)
      clear hbf va la src srcV own bel ex0
      refine hK.out _ _ HFIN.out.1.v1 (fun _ => ?_)
      clear hK K
      try simp only [Act.put, getElem_toArray, getElem_cons_succ, getElem_cons_zero, setIfInBounds_toArray, set_cons_zero, set_cons_succ]
      refine wpAnyH_done (by kernel_rfl) ?_ _
      go_wp2_with fail
      go_meet
      exact ⟨V2, B, s, rfl, HFIN.out⟩
  case rest =>
    obtain ⟨V2, B, s, rfl, hs3, hzz⟩ := hcut
    obtain ⟨w4, rfl⟩ : ∃ W, W = wc := ⟨_, rfl⟩
    have HVA := Lib.hid hs3.v1
    have HVS := Lib.hid hs3.v2
    have HLA := Lib.hid hs3.src.no
    have HLS := Lib.hid hs3.own.lies.no
    have HSE := Lib.hid hs3.er
    have HB := Lib.hid hs3.bel
    have HZ4 := Lib.hid (hzz.weak (G := No) fun _ _ h => h.elim)
    have HTS := Lib.hid (show Tiny s.er from hs3.er ▸ sgd_tiny HT.out x)
    clear hs3 hzz HXL
    try clear HZ2 HVN HLO HB2
    have hq1 := fun W => idn_neq ⟨o.by_, o.seq, sumOf o.er⟩ ⟨o.by_, o.seq, sumOf o.er⟩ W
    rw [(nmAlike_iff _ _).2 rfl] at hq1
    unfold nmv at hq1
    have hfr := fun op a b xs ys W => idn_free op a b xs ys W
    go_upto_region 4 with fail
    have V1_ := Lib.hid (show Vr w4.drew V1 o from HVA.out)
    have V2_ := Lib.hid (show Vr w4.drew V2 s from HVS.out)
    have L3_ := Lib.hid (show Lies No w4.drew o from HLA.out.bf (Bf.drew w4))
    have L4_ := Lib.hid (show Lies No w4.drew s from HLS.out.bf (Bf.drew w4))
    have Z5_ := Lib.hid (show Lz kCd No w4.drew z from HZ4.out.bf (Bf.drew w4))
    have B6_ := Lib.hid (show Below w.heap.size w w4.drew from HB.out.trans (below_drewN w4 1 _))
    clear HVA HVS HLA HLS HZ4 HB 
    refine wp_region_held_drew (S := (fun w' : World => Vr w' V1 o ∧ Vr w' V2 s)) (by kernel_rfl) ⟨V1_.out, V2_.out⟩ (fun hHeld => ?_)
    try simp only [Act.put, getElem_toArray, getElem_cons_zero, setIfInBounds_toArray, set_cons_zero, set_cons_succ]
    refine wpAnyH_take (i := 0) (v := ?_) rfl (by kernel_rfl) (by kernel_rfl) (by kernel_rfl) (fun _ _ _ h => h) (Or.inl ⟨by rfl, ?_⟩) (by assumption) ?_
    rotate_left
    · (intro w hSw; (try dsimp only at hSw); refine run_load_op _ (.tmp 9) ?_ ?_ hSw.2 <;> rfl)
    try simp only [Act.put, getElem_toArray, getElem_cons_zero, setIfInBounds_toArray, set_cons_zero, set_cons_succ]
    refine wpAnyH_take (i := 1) (v := ?_) rfl (by kernel_rfl) (by kernel_rfl) (by kernel_rfl) (fun _ _ _ h => h) (Or.inl ⟨by rfl, ?_⟩) (by assumption) ?_
    rotate_left
    · (intro w hSw; (try dsimp only at hSw); refine run_load_op _ (.tmp 8) ?_ ?_ hSw.1 <;> rfl)
    try simp only [Act.put, getElem_toArray, getElem_cons_succ, getElem_cons_zero, setIfInBounds_toArray, set_cons_zero, set_cons_succ]
    refine wpAnyH_ready (rs := [2]) (by kernel_rfl) (by simp) ?_
    refine AllReadyH.cons rfl (fun K hK => ?_) AllReadyH.nil
    go_simp
    have HC := Lib.hid (signed_any o L3_.out HT.out)
    refine (HC.out).mono ?_
    rintro e x7_ ⟨g, rfl, hge, hgl, hb⟩
    have HGE := Lib.hid (show g.er = s.er from hge.trans (by rw [HSE.out, HX.out]))
    have HGL := Lib.hid hgl
    clear hge hgl
    clear HC
    have V8_ := Lib.hid (V1_.out.below hb (Blk.lt V1_.out))
    have V9_ := Lib.hid (V2_.out.below hb (Blk.lt V2_.out))
    have L10_ := Lib.hid (L3_.out.below hb)
    have L11_ := Lib.hid (L4_.out.below hb)
    have Z12_ := Lib.hid (Z5_.out.bf (F := No) (Bf.below hb))
    have B13_ := Lib.hid (B6_.out.trans (hb.mono B6_.out.size))
    clear V1_ V2_ L3_ L4_ Z5_ B6_ hb
    try go_simp
    refine hK.out _ _ ⟨V8_.out, V9_.out⟩ (fun hHeld => ?_)
    clear hK K
    try simp only [Act.put, getElem_toArray, getElem_cons_succ, getElem_cons_zero, setIfInBounds_toArray, set_cons_zero, set_cons_succ]
    refine wpAnyH_ready (rs := [3]) (by kernel_rfl) (by simp) ?_
    refine AllReadyH.cons rfl (fun K hK => ?_) AllReadyH.nil
    go_simp
    have HC := Lib.hid (sameop_any s g L11_.out HGL.out HTS.out (HGE.out ▸ HTS.out))
    refine (HC.out).mono ?_
    rintro e x14_ ⟨rfl, hb⟩
    rw [decide_eq_true (congrArg put HGE.out.symm)]
    clear HGL HGE
    clear HC
    have V15_ := Lib.hid (V8_.out.below hb (Blk.lt V8_.out))
    have V16_ := Lib.hid (V9_.out.below hb (Blk.lt V9_.out))
    have L17_ := Lib.hid (L10_.out.below hb)
    have L18_ := Lib.hid (L11_.out.below hb)
    have Z19_ := Lib.hid (Z12_.out.bf (F := No) (Bf.below hb))
    have B20_ := Lib.hid (B13_.out.trans (hb.mono B13_.out.size))
    clear V8_ V9_ L10_ L11_ Z12_ B13_ hb
    try go_simp
    refine hK.out _ _ ⟨V15_.out, V16_.out⟩ (fun hHeld => ?_)
    clear hK K
    try simp only [Act.put, getElem_toArray, getElem_cons_succ, getElem_cons_zero, setIfInBounds_toArray, set_cons_zero, set_cons_succ]
    refine wpAnyH_take (i := 4) (v := ?_) rfl (by kernel_rfl) (by kernel_rfl) (by kernel_rfl) (fun _ _ _ h => h) (Or.inl ⟨by rfl, ?_⟩) (by assumption) ?_
    rotate_left
    · (intro w hSw; (try dsimp only at hSw); clear hSw; go_simp; try (with_reducible rfl))
    try simp only [Act.put, getElem_toArray, getElem_cons_succ, getElem_cons_zero, setIfInBounds_toArray, set_cons_zero, set_cons_succ]
    refine wpAnyH_take (i := 5) (v := ?_) rfl (by kernel_rfl) (by kernel_rfl) (by kernel_rfl) (fun _ _ _ h => h) (Or.inl ⟨by rfl, ?_⟩) (by assumption) ?_
    rotate_left
    · (intro w hSw; (try dsimp only at hSw); clear hSw; go_simp; try (with_reducible rfl))
    try simp only [Act.put, getElem_toArray, getElem_cons_succ, getElem_cons_zero, setIfInBounds_toArray, set_cons_zero, set_cons_succ]
    refine wpAnyH_take (i := 6) (v := ?_) rfl (by kernel_rfl) (by kernel_rfl) (by kernel_rfl) (fun _ _ _ h => h) (Or.inl ⟨by rfl, ?_⟩) (by assumption) ?_
    rotate_left
    · (intro w hSw; (try dsimp only at hSw); refine run_load_op _ (.tmp 9) ?_ ?_ hSw.2 <;> rfl)
    try simp only [Act.put, getElem_toArray, getElem_cons_succ, getElem_cons_zero, setIfInBounds_toArray, set_cons_zero, set_cons_succ]
    refine wpAnyH_take (i := 8) (v := ?_) rfl (by kernel_rfl) (by kernel_rfl) (by kernel_rfl) (fun _ _ _ h => h) (Or.inl ⟨by rfl, ?_⟩) (by assumption) ?_
    rotate_left
    · (intro w hSw; (try dsimp only at hSw); refine run_load_op _ (.tmp 8) ?_ ?_ hSw.1 <;> rfl)
    try simp only [Act.put, getElem_toArray, getElem_cons_succ, getElem_cons_zero, setIfInBounds_toArray, set_cons_zero, set_cons_succ]
    refine wpAnyH_ready (rs := [7]) (by kernel_rfl) (by simp) ?_
    refine AllReadyH.cons rfl (fun K hK => ?_) AllReadyH.nil
    go_simp
    have HC := Lib.hid ((show Calls Tryz.prog 19 #[s.v] x14_ fun e w' => e = .returned (.agg #[.int .i64 o.by_, .int .i64 o.seq, .int .u64 (sumOf o.er : Nat)]) ∧ Below x14_.heap.size x14_ w' from by have h := id_any s L18_.out HTS.out; rw [HSE.out, show s.by_ = o.by_ from congrArg Er.by_ HSE.out, show s.seq = o.seq from congrArg Er.seq HSE.out] at h; exact h))
    refine (HC.out).mono ?_
    rintro e x21_ ⟨rfl, hb⟩
    clear HC
    have V22_ := Lib.hid (V15_.out.below hb (Blk.lt V15_.out))
    have V23_ := Lib.hid (V16_.out.below hb (Blk.lt V16_.out))
    have L24_ := Lib.hid (L17_.out.below hb)
    have L25_ := Lib.hid (L18_.out.below hb)
    have Z26_ := Lib.hid (Z19_.out.bf (F := No) (Bf.below hb))
    have B27_ := Lib.hid (B20_.out.trans (hb.mono B20_.out.size))
    clear V15_ V16_ L17_ L18_ Z19_ B20_ hb
    try go_simp
    refine hK.out _ _ ⟨V22_.out, V23_.out⟩ (fun hHeld => ?_)
    clear hK K
    try simp only [Act.put, getElem_toArray, getElem_cons_succ, getElem_cons_zero, setIfInBounds_toArray, set_cons_zero, set_cons_succ]
    refine wpAnyH_ready (rs := [9]) (by kernel_rfl) (by simp) ?_
    refine AllReadyH.cons rfl (fun K hK => ?_) AllReadyH.nil
    go_simp
    have HC := Lib.hid (id_any o L24_.out HT.out)
    refine (HC.out).mono ?_
    rintro e x28_ ⟨rfl, hb⟩
    clear HC
    have V29_ := Lib.hid (V22_.out.below hb (Blk.lt V22_.out))
    have V30_ := Lib.hid (V23_.out.below hb (Blk.lt V23_.out))
    have L31_ := Lib.hid (L24_.out.below hb)
    have L32_ := Lib.hid (L25_.out.below hb)
    have Z33_ := Lib.hid (Z26_.out.bf (F := No) (Bf.below hb))
    have B34_ := Lib.hid (B27_.out.trans (hb.mono B27_.out.size))
    clear V22_ V23_ L24_ L25_ Z26_ B27_ hb
    try go_simp
    refine hK.out _ _ ⟨V29_.out, V30_.out⟩ (fun hHeld => ?_)
    clear hK K
    try simp only [Act.put, getElem_toArray, getElem_cons_succ, getElem_cons_zero, setIfInBounds_toArray, set_cons_zero, set_cons_succ]
    refine wpAnyH_take (i := 10) (v := ?_) rfl (by kernel_rfl) (by kernel_rfl) (by kernel_rfl) (fun _ _ _ h => h) (Or.inl ⟨by rfl, ?_⟩) (by assumption) ?_
    rotate_left
    · (intro w hSw; (try dsimp only at hSw); clear hSw; go_simp; try (with_reducible rfl))
    try simp only [Act.put, getElem_toArray, getElem_cons_succ, getElem_cons_zero, setIfInBounds_toArray, set_cons_zero, set_cons_succ]
    refine wpAnyH_take (i := 11) (v := ?_) rfl (by kernel_rfl) (by kernel_rfl) (by kernel_rfl) (fun _ _ _ h => h) (Or.inl ⟨by rfl, ?_⟩) (by assumption) ?_
    rotate_left
    · (intro w hSw; (try dsimp only at hSw); clear hSw; go_simp; try (with_reducible rfl))
    try simp only [Act.put, getElem_toArray, getElem_cons_succ, getElem_cons_zero, setIfInBounds_toArray, set_cons_zero, set_cons_succ]
    refine wpAnyH_done (by kernel_rfl) ?_ _
    clear hHeld hq1 hfr
    obtain ⟨w5, hwq⟩ : ∃ W, W = x28_ := ⟨_, rfl⟩
    rw [← hwq] at V29_ V30_ L31_ L32_ Z33_ B34_ ⊢
    clear hwq
    obtain ⟨zl, zA, zcp⟩ := z
    have HZ6 := Lib.hid (show zl = cds ows 6 from HZL.out)
    have hzn : zl.length = 6 := by rw [HZ6.out]; exact cds_len _ _
    obtain ⟨b, off, hzA, -⟩ := Z33_.out.rd (by show 0 < zl.length; omega)
    have hzA : zA = some ⟨b, off, none⟩ := hzA
    subst hzA
    have hzv : Value.slice (some ⟨b, off, none⟩) zl.length zcp = .slice (some ⟨b, off, none⟩) 6 zcp := by rw [hzn]
    dsimp only
    try rw [hzn]
    clear hzv HZL
    go_wp2_with fail
    go_loopw [10] (fun i wr => ∃ k : Nat, k ≤ 6 ∧ i = .int .i64 (k : Int) ∧ Vr wr V1 o ∧ Vr wr V2 s ∧ Lies No wr o ∧ Lies No wr s ∧ Lz kCd No wr (⟨zl, some ⟨b, off, none⟩, zcp⟩ : Ls Cd) ∧ Below w.heap.size w wr) (fun i _ => 6 - (intOf i).toNat)
    case atStart => exact ⟨0, Nat.zero_le _, rfl, V29_.out, V30_.out, L31_.out, L32_.out, Z33_.out, B34_.out⟩
    case round =>
      obtain ⟨k, hk6, rfl, f1, f2, f3, f4, f5, f6⟩ := hrel
      clear V29_ V30_ L31_ L32_ Z33_ B34_
      have F1 := Lib.hid f1
      have F2 := Lib.hid f2
      have F3 := Lib.hid f3
      have F4 := Lib.hid f4
      have F5 := Lib.hid f5
      have F6 := Lib.hid f6
      clear f1 f2 f3 f4 f5 f6
      obtain ⟨wo, rfl⟩ : ∃ wo, wo = wr := ⟨_, rfl⟩
      by_cases hlt : k < 6
      · obtain ⟨⟨dv, mm, le, ke, sg⟩, hy⟩ : ∃ y, zl[k]? = some y := ⟨_, List.getElem?_eq_getElem (by omega)⟩
        have hyy := cds_at (l := ows) hlt (HZ6.out ▸ hy)
        have HDV := Lib.hid (show dv = (k : Int) + 1 ∧ sg = Bx.pub (sec11 ⟨#[115, 105, 103, 110]⟩ dv) from by injection hyy with e1 e2 e3 e4 e5; exact ⟨e1, by rw [e5, e1]⟩)
        have HY := Lib.hid hy
        obtain ⟨q, hq⟩ : ∃ q, (dv == o.by_) = q := ⟨_, rfl⟩
        have HVQ := Lib.hid (show (decide (s.by_ = dv) && Sg.chk sg (Sg.msg (con s.er)) s.r s.s) = q from by rw [← hq]; exact ver_q HSE.out HX.out HDV.out.2)
        have HSG := Lib.hid (show sg < 18446744073709551616 from by rw [HDV.out.2]; exact Nat.lt_trans (Bx.pub_lt _) (by decide))
        have HLT := Lib.hid hlt
        have q0_ : (0 : Int) ≤ (k : Int) := by omega
        have q1_ : (k : Int) < 6 := by omega
        clear hyy hy hk6
        go_upto_region 9 with fail
        have V35_ := Lib.hid (show Vr wo.drew V1 o from F1.out)
        have V36_ := Lib.hid (show Vr wo.drew V2 s from F2.out)
        have L37_ := Lib.hid (show Lies No wo.drew o from F3.out.bf (Bf.drew wo))
        have L38_ := Lib.hid (show Lies No wo.drew s from F4.out.bf (Bf.drew wo))
        have Z39_ := Lib.hid (show Lz kCd No wo.drew (⟨zl, some ⟨b, off, none⟩, zcp⟩ : Ls Cd) from F5.out.bf (Bf.drew wo))
        have B40_ := Lib.hid (show Below w.heap.size w wo.drew from F6.out.trans (below_drewN wo 1 _))
        clear F1 F2 F3 F4 F5 F6 
        refine wp_region_held_drew (S := (fun w' : World => Vr w' V1 o ∧ Vr w' V2 s ∧ Lz kCd No w' (⟨zl, some ⟨b, off, none⟩, zcp⟩ : Ls Cd))) (by kernel_rfl) ⟨V35_.out, V36_.out, Z39_.out⟩ (fun hHeld => ?_)
        try simp only [Act.put, getElem_toArray, getElem_cons_zero, setIfInBounds_toArray, set_cons_zero, set_cons_succ]
        refine wpAnyH_take (i := 0) (v := ?_) rfl (by kernel_rfl) (by kernel_rfl) (by kernel_rfl) (fun _ _ _ h => h) (Or.inl ⟨by rfl, ?_⟩) (by assumption) ?_
        rotate_left
        · (intro w hSw; (try dsimp only at hSw); clear hSw; go_simp; try (with_reducible rfl))
        try simp only [Act.put, getElem_toArray, getElem_cons_zero, setIfInBounds_toArray, set_cons_zero, set_cons_succ]
        refine wpAnyH_take (i := 1) (v := ?_) rfl (by kernel_rfl) (by kernel_rfl) (by kernel_rfl) (fun _ _ _ h => h) (Or.inl ⟨by rfl, ?_⟩) (by assumption) ?_
        rotate_left
        · (intro w hSw; (try dsimp only at hSw); clear hSw; go_simp; try (with_reducible rfl))
        try simp only [Act.put, getElem_toArray, getElem_cons_succ, getElem_cons_zero, setIfInBounds_toArray, set_cons_zero, set_cons_succ]
        refine wpAnyH_take (i := 2) (v := ?_) rfl (by kernel_rfl) (by kernel_rfl) (by kernel_rfl) (fun _ _ _ h => h) (Or.inl ⟨by rfl, ?_⟩) (by assumption) ?_
        rotate_left
        · (intro w hSw; (try dsimp only at hSw); clear hSw; go_simp; try (with_reducible rfl))
        try simp only [Act.put, getElem_toArray, getElem_cons_succ, getElem_cons_zero, setIfInBounds_toArray, set_cons_zero, set_cons_succ]
        refine wpAnyH_take (i := 3) (v := ?_) rfl (by kernel_rfl) (by kernel_rfl) (by kernel_rfl) (fun _ _ _ h => h) (Or.inl ⟨by rfl, ?_⟩) (by assumption) ?_
        rotate_left
        · (intro w hSw; (try dsimp only at hSw); obtain ⟨d0, d1, d2, d3, d4⟩ := cd_cells hSw.2.2 HY.out; clear hSw; go_simp; try (with_reducible rfl))
        try simp only [Act.put, getElem_toArray, getElem_cons_succ, getElem_cons_zero, setIfInBounds_toArray, set_cons_zero, set_cons_succ]
        refine wpAnyH_take (i := 4) (v := ?_) rfl (by kernel_rfl) (by kernel_rfl) (by kernel_rfl) (fun _ _ _ h => h) (Or.inl ⟨by rfl, ?_⟩) (by assumption) ?_
        rotate_left
        · (intro w hSw; (try dsimp only at hSw); refine run_load_op _ (.tmp 9) ?_ ?_ hSw.2.1 <;> rfl)
        try simp only [Act.put, getElem_toArray, getElem_cons_succ, getElem_cons_zero, setIfInBounds_toArray, set_cons_zero, set_cons_succ]
        refine wpAnyH_take (i := 6) (v := ?_) rfl (by kernel_rfl) (by kernel_rfl) (by kernel_rfl) (fun _ _ _ h => h) (Or.inl ⟨by rfl, ?_⟩) (by assumption) ?_
        rotate_left
        · (intro w hSw; (try dsimp only at hSw); clear hSw; go_simp; try (with_reducible rfl))
        try simp only [Act.put, getElem_toArray, getElem_cons_succ, getElem_cons_zero, setIfInBounds_toArray, set_cons_zero, set_cons_succ]
        refine wpAnyH_take (i := 7) (v := ?_) rfl (by kernel_rfl) (by kernel_rfl) (by kernel_rfl) (fun _ _ _ h => h) (Or.inl ⟨by rfl, ?_⟩) (by assumption) ?_
        rotate_left
        · (intro w hSw; (try dsimp only at hSw); clear hSw; go_simp; try (with_reducible rfl))
        try simp only [Act.put, getElem_toArray, getElem_cons_succ, getElem_cons_zero, setIfInBounds_toArray, set_cons_zero, set_cons_succ]
        refine wpAnyH_take (i := 8) (v := ?_) rfl (by kernel_rfl) (by kernel_rfl) (by kernel_rfl) (fun _ _ _ h => h) (Or.inl ⟨by rfl, ?_⟩) (by assumption) ?_
        rotate_left
        · (intro w hSw; (try dsimp only at hSw); clear hSw; go_simp; try (with_reducible rfl))
        try simp only [Act.put, getElem_toArray, getElem_cons_succ, getElem_cons_zero, setIfInBounds_toArray, set_cons_zero, set_cons_succ]
        refine wpAnyH_take (i := 9) (v := ?_) rfl (by kernel_rfl) (by kernel_rfl) (by kernel_rfl) (fun _ _ _ h => h) (Or.inl ⟨by rfl, ?_⟩) (by assumption) ?_
        rotate_left
        · (intro w hSw; (try dsimp only at hSw); clear hSw; go_simp; try (with_reducible rfl))
        try simp only [Act.put, getElem_toArray, getElem_cons_succ, getElem_cons_zero, setIfInBounds_toArray, set_cons_zero, set_cons_succ]
        refine wpAnyH_take (i := 10) (v := ?_) rfl (by kernel_rfl) (by kernel_rfl) (by kernel_rfl) (fun _ _ _ h => h) (Or.inl ⟨by rfl, ?_⟩) (by assumption) ?_
        rotate_left
        · (intro w hSw; (try dsimp only at hSw); obtain ⟨d0, d1, d2, d3, d4⟩ := cd_cells hSw.2.2 HY.out; clear hSw; go_simp; try (with_reducible rfl))
        try simp only [Act.put, getElem_toArray, getElem_cons_succ, getElem_cons_zero, setIfInBounds_toArray, set_cons_zero, set_cons_succ]
        refine wpAnyH_take (i := 11) (v := ?_) rfl (by kernel_rfl) (by kernel_rfl) (by kernel_rfl) (fun _ _ _ h => h) (Or.inl ⟨by rfl, ?_⟩) (by assumption) ?_
        rotate_left
        · (intro w hSw; (try dsimp only at hSw); clear hSw; go_simp; try (with_reducible rfl))
        try simp only [Act.put, getElem_toArray, getElem_cons_succ, getElem_cons_zero, setIfInBounds_toArray, set_cons_zero, set_cons_succ]
        refine wpAnyH_take (i := 12) (v := ?_) rfl (by kernel_rfl) (by kernel_rfl) (by kernel_rfl) (fun _ _ _ h => h) (Or.inl ⟨by rfl, ?_⟩) (by assumption) ?_
        rotate_left
        · (intro w hSw; (try dsimp only at hSw); have c0 := (hSw.1.cell 0).trans o.c0; clear hSw; go_simp; try (with_reducible rfl))
        try simp only [Act.put, getElem_toArray, getElem_cons_succ, getElem_cons_zero, setIfInBounds_toArray, set_cons_zero, set_cons_succ]
        refine wpAnyH_take (i := 13) (v := ?_) rfl (by kernel_rfl) (by kernel_rfl) (by kernel_rfl) (fun _ _ _ h => h) (Or.inl ⟨by rfl, ?_⟩) (by assumption) ?_
        rotate_left
        · (intro w hSw; (try dsimp only at hSw); clear hSw; go_simp; try (with_reducible rfl))
        try simp only [Act.put, getElem_toArray, getElem_cons_succ, getElem_cons_zero, setIfInBounds_toArray, set_cons_zero, set_cons_succ]
        refine wpAnyH_ready (rs := [5]) (by kernel_rfl) (by simp) ?_
        refine AllReadyH.cons rfl (fun K hK => ?_) AllReadyH.nil
        go_simp
        have HC := Lib.hid (verify_any dv mm le ke sg HSG.out s L38_.out HTS.out)
        refine (HC.out).mono ?_
        rintro e x41_ ⟨rfl, hb⟩
        rw [HVQ.out]
        clear HC
        have V42_ := Lib.hid (V35_.out.below hb (Blk.lt V35_.out))
        have V43_ := Lib.hid (V36_.out.below hb (Blk.lt V36_.out))
        have L44_ := Lib.hid (L37_.out.below hb)
        have L45_ := Lib.hid (L38_.out.below hb)
        have Z46_ := Lib.hid (Z39_.out.bf (F := No) (Bf.below hb))
        have B47_ := Lib.hid (B40_.out.trans (hb.mono B40_.out.size))
        clear V35_ V36_ L37_ L38_ Z39_ B40_ hb
        try go_simp
        refine hK.out _ _ ⟨V42_.out, V43_.out, Z46_.out⟩ (fun hHeld => ?_)
        clear hK K
        try simp only [Act.put, getElem_toArray, getElem_cons_succ, getElem_cons_zero, setIfInBounds_toArray, set_cons_zero, set_cons_succ]
        refine wpAnyH_take (i := 14) (v := ?_) rfl (by kernel_rfl) (by kernel_rfl) (by kernel_rfl) (fun _ _ _ h => h) (Or.inl ⟨by rfl, ?_⟩) (by assumption) ?_
        rotate_left
        · (intro w hSw; (try dsimp only at hSw); clear hSw; go_simp; try (with_reducible rfl))
        try simp only [Act.put, getElem_toArray, getElem_cons_succ, getElem_cons_zero, setIfInBounds_toArray, set_cons_zero, set_cons_succ]
        refine wpAnyH_done (by kernel_rfl) ?_ _
        clear hHeld
        obtain ⟨w6, hwq⟩ : ∃ W, W = x41_ := ⟨_, rfl⟩
        rw [← hwq] at V42_ V43_ L44_ L45_ Z46_ B47_ ⊢
        clear hwq
        clear HVQ HSG HDV HY hq
        go_wp2
        go_roundw
        case rel => exact ⟨k + 1, by have := HLT.out; omega, by go_num, V42_.out, V43_.out, L44_.out, L45_.out, Z46_.out, B47_.out⟩
        case measure => simp [intOf]; omega
      · have hk : k = 6 := by omega
        subst hk
        obtain ⟨j, hj, hby⟩ := HBY.out
        obtain ⟨⟨dv, mm, le, ke, sg⟩, hy⟩ : ∃ y, zl[j]? = some y := ⟨_, List.getElem?_eq_getElem (by omega)⟩
        have hyy := cds_at (l := ows) hj (HZ6.out ▸ hy)
        have HDV := Lib.hid (show dv = o.by_ ∧ sg = Bx.pub x from by injection hyy with e1 e2 e3 e4 e5; exact ⟨by rw [e1, hby], by rw [e5, HX.out, hby]⟩)
        have hcc := cd_cells F5.out hy
        obtain ⟨d0, d1, d2, d3, d4⟩ := hcc
        have c0 := (F1.out.cell 0).trans o.c0
        have HBJ := Lib.hid hby
        rw [hby] at c0
        have hmx := fun W => max0 j j rfl W
        have hmn := fun W => min5 j j rfl hj W
        have q0_ : (0 : Int) ≤ (j : Int) := by omega
        have q1_ : (j : Int) < 6 := by omega
        have q2_ : IntKind.i64.wrap (j : Int) = (j : Int) := by rw [IntKind.wrap_i64]; omega
        clear hyy hy hby hk6 hlt
        go_upto_region 12 with fail
        clear d0 d1 d2 d3 d4 c0 hmx hmn q0_ q1_ q2_
        have hbc := blk_new wo 61 #[.int .i64 dv, .int .i64 mm, .int .u64 (le : Int), .int .u64 (ke : Int), .int .u64 (sg : Int)]
        have hb := (Below.refl wo.heap.size wo).alloc (Nat.le_refl _) (.cells #[.int .i64 dv, .int .i64 mm, .int .u64 (le : Int), .int .u64 (ke : Int), .int .u64 (sg : Int)] 61)
        obtain ⟨C, hC⟩ : ∃ C, C = wo.heap.size := ⟨_, rfl⟩
        obtain ⟨w7, hw7⟩ : ∃ W, W = wo.alloc (.cells #[.int .i64 dv, .int .i64 mm, .int .u64 (le : Int), .int .u64 (ke : Int), .int .u64 (sg : Int)] 61) := ⟨_, rfl⟩
        rw [← hw7] at hb hbc ⊢
        rw [← hC] at hbc ⊢
        have V48_ := Lib.hid (F1.out.below hb (Blk.lt F1.out))
        have V49_ := Lib.hid (F2.out.below hb (Blk.lt F2.out))
        have L50_ := Lib.hid (F3.out.below hb)
        have L51_ := Lib.hid (F4.out.below hb)
        have Z52_ := Lib.hid (F5.out.bf (F := No) (Bf.below hb))
        have B53_ := Lib.hid (F6.out.trans (hb.mono F6.out.size))
        clear F1 F2 F3 F4 F5 F6 hb
        have HBC := Lib.hid hbc
        clear hbc hw7 hC
        have HBT := Lib.hid (bent_any s L51_.out HTS.out 7 (by omega) (roomy_sgd HSE.out HRO.out) how n HHN.out.1 HHN.out.2)
        go_wp2_with (refine wpList_load_op rfl _ rfl rfl V49_.out ?_)
        refine (HBT.out).mono ?_
        rintro e w8 ⟨od, rfl, hlo, hto, -, hb⟩
        have HTO := Lib.hid hto
        have HLOD := Lib.hid hlo
        clear hlo hto HBT
        have V54_ := Lib.hid (V48_.out.below hb (Blk.lt V48_.out))
        have V55_ := Lib.hid (V49_.out.below hb (Blk.lt V49_.out))
        have L56_ := Lib.hid (L50_.out.below hb)
        have L57_ := Lib.hid (L51_.out.below hb)
        have Z58_ := Lib.hid (Z52_.out.bf (F := No) (Bf.below hb))
        have K59_ := Lib.hid (HBC.out.below hb HBC.out.lt)
        have B60_ := Lib.hid (B53_.out.trans (hb.mono B53_.out.size))
        clear V48_ V49_ L50_ L51_ Z52_ HBC B53_ hb
        have HVZ := Lib.hid (Vr.new w8 LOp.zero)
        have HVN := Lib.hid (var_new w8 od)
        have hbv := var_below w8 LOp.zero od (Nat.le_refl w8.heap.size)
        have V61_ := Lib.hid (V54_.out.below hbv (Blk.lt V54_.out))
        have V62_ := Lib.hid (V55_.out.below hbv (Blk.lt V55_.out))
        have L63_ := Lib.hid (L56_.out.below hbv)
        have L64_ := Lib.hid (L57_.out.below hbv)
        have L65_ := Lib.hid (HLOD.out.below hbv)
        have Z66_ := Lib.hid (Z58_.out.bf (F := No) (Bf.below hbv))
        have K67_ := Lib.hid (K59_.out.below hbv K59_.out.lt)
        have B68_ := Lib.hid (B60_.out.trans (hbv.mono B60_.out.size))
        clear V54_ V55_ L56_ L57_ HLOD Z58_ K59_ B60_ hbv
        go_upto_region 13 with (refine wpList_store_op (o' := od) rfl _ _ rfl rfl rfl HVZ.out ?_)
        rw [zc]
        obtain ⟨V3, hV3⟩ : ∃ V, V = w8.heap.size := ⟨_, rfl⟩
        obtain ⟨w9, hw9⟩ : ∃ W, W = ((w8.alloc (.cells LOp.zero.cells 35)).setRow w8.heap.size od.cells) := ⟨_, rfl⟩
        rw [← hw9] at HVN V61_ V62_ L63_ L64_ L65_ Z66_ K67_ B68_ ⊢
        rw [← hV3] at HVN ⊢
        clear hw9 hV3 HVZ
        have HSG := Lib.hid (show sg < 18446744073709551616 from by rw [HDV.out.2]; exact Nat.lt_trans (Bx.pub_lt _) (by decide))
        have V69_ := Lib.hid (show Vr w9.drew V1 o from V61_.out)
        have V70_ := Lib.hid (show Vr w9.drew V2 s from V62_.out)
        have V71_ := Lib.hid (show Vr w9.drew V3 od from HVN.out)
        have L72_ := Lib.hid (show Lies No w9.drew o from L63_.out.bf (Bf.drew w9))
        have L73_ := Lib.hid (show Lies No w9.drew s from L64_.out.bf (Bf.drew w9))
        have L74_ := Lib.hid (show Lies No w9.drew od from L65_.out.bf (Bf.drew w9))
        have Z75_ := Lib.hid (show Lz kCd No w9.drew (⟨zl, some ⟨b, off, none⟩, zcp⟩ : Ls Cd) from Z66_.out.bf (Bf.drew w9))
        have K76_ := Lib.hid (show Blk w9.drew C 61 #[.int .i64 dv, .int .i64 mm, .int .u64 (le : Int), .int .u64 (ke : Int), .int .u64 (sg : Int)] from K67_.out)
        have B77_ := Lib.hid (show Below w.heap.size w w9.drew from B68_.out.trans (below_drewN w9 1 _))
        clear V61_ V62_ HVN L63_ L64_ L65_ Z66_ K67_ B68_ 
        by_cases hd : od.by_ = dv
        · have hq : (od.by_ == dv) = true := by rw [beq_iff_eq]; exact hd
          obtain ⟨ck, hck⟩ : ∃ c, Sg.chk sg (Sg.msg (con od.er)) od.r od.s = c := ⟨_, rfl⟩
          have HCK := Lib.hid hck
          have HVQ := Lib.hid (show (decide (od.by_ = dv) && Sg.chk sg (Sg.msg (con od.er)) od.r od.s) = ck from by rw [decide_eq_true hd, Bool.true_and]; exact hck)
          clear hd hck
          refine wp_region_held_drew (S := (fun w' : World => Vr w' V3 od ∧ Blk w' C 61 #[.int .i64 dv, .int .i64 mm, .int .u64 (le : Int), .int .u64 (ke : Int), .int .u64 (sg : Int)])) (by kernel_rfl) ⟨V71_.out, K76_.out⟩ (fun hHeld => ?_)
          try simp only [Act.put, getElem_toArray, getElem_cons_zero, setIfInBounds_toArray, set_cons_zero, set_cons_succ]
          refine wpAnyH_take (i := 0) (v := ?_) rfl (by kernel_rfl) (by kernel_rfl) (by kernel_rfl) (fun _ _ _ h => h) (Or.inl ⟨by rfl, ?_⟩) (by assumption) ?_
          rotate_left
          · (intro w hSw; (try dsimp only at hSw); have d0 := hSw.2.cell 0; have d1 := hSw.2.cell 1; have d2 := hSw.2.cell 2; have d3 := hSw.2.cell 3; have d4 := hSw.2.cell 4; clear hSw; go_simp; try (with_reducible rfl))
          try simp only [Act.put, getElem_toArray, getElem_cons_zero, setIfInBounds_toArray, set_cons_zero, set_cons_succ]
          refine wpAnyH_take (i := 1) (v := ?_) rfl (by kernel_rfl) (by kernel_rfl) (by kernel_rfl) (fun _ _ _ h => h) (Or.inl ⟨by rfl, ?_⟩) (by assumption) ?_
          rotate_left
          · (intro w hSw; (try dsimp only at hSw); refine run_load_op _ (.tmp 12) ?_ ?_ hSw.1 <;> rfl)
          try simp only [Act.put, getElem_toArray, getElem_cons_succ, getElem_cons_zero, setIfInBounds_toArray, set_cons_zero, set_cons_succ]
          refine wpAnyH_take (i := 3) (v := ?_) rfl (by kernel_rfl) (by kernel_rfl) (by kernel_rfl) (fun _ _ _ h => h) (Or.inl ⟨by rfl, ?_⟩) (by assumption) ?_
          rotate_left
          · (intro w hSw; (try dsimp only at hSw); clear hSw; go_simp; try (with_reducible rfl))
          try simp only [Act.put, getElem_toArray, getElem_cons_succ, getElem_cons_zero, setIfInBounds_toArray, set_cons_zero, set_cons_succ]
          refine wpAnyH_take (i := 4) (v := ?_) rfl (by kernel_rfl) (by kernel_rfl) (by kernel_rfl) (fun _ _ _ h => h) (Or.inl ⟨by rfl, ?_⟩) (by assumption) ?_
          rotate_left
          · (intro w hSw; (try dsimp only at hSw); have c0 := (hSw.1.cell 0).trans od.c0; clear hSw; go_simp; try (with_reducible rfl))
          try simp only [Act.put, getElem_toArray, getElem_cons_succ, getElem_cons_zero, setIfInBounds_toArray, set_cons_zero, set_cons_succ]
          refine wpAnyH_take (i := 5) (v := ?_) rfl (by kernel_rfl) (by kernel_rfl) (by kernel_rfl) (fun _ _ _ h => h) (Or.inl ⟨by rfl, ?_⟩) (by assumption) ?_
          rotate_left
          · (intro w hSw; (try dsimp only at hSw); clear hSw; go_simp; try (with_reducible rfl))
          try simp only [Act.put, getElem_toArray, getElem_cons_succ, getElem_cons_zero, setIfInBounds_toArray, set_cons_zero, set_cons_succ]
          refine wpAnyH_take (i := 6) (v := ?_) rfl (by kernel_rfl) (by kernel_rfl) (by kernel_rfl) (fun _ _ _ h => h) (Or.inl ⟨by rfl, ?_⟩) (by assumption) ?_
          rotate_left
          · (intro w hSw; (try dsimp only at hSw); have d0 := hSw.2.cell 0; clear hSw; go_simp; try (with_reducible rfl))
          try simp only [Act.put, getElem_toArray, getElem_cons_succ, getElem_cons_zero, setIfInBounds_toArray, set_cons_zero, set_cons_succ]
          refine wpAnyH_take (i := 7) (v := ?_) rfl (by kernel_rfl) (by kernel_rfl) (by kernel_rfl) (fun _ _ _ h => h) (Or.inl ⟨by rfl, ?_⟩) (by assumption) ?_
          rotate_left
          · (intro w hSw; (try dsimp only at hSw); clear hSw; go_simp; try (with_reducible rfl))
          try simp only [Act.put, getElem_toArray, getElem_cons_succ, getElem_cons_zero, setIfInBounds_toArray, set_cons_zero, set_cons_succ]
          refine wpAnyH_ready (rs := [2]) (by kernel_rfl) (by simp) ?_
          refine AllReadyH.cons rfl (fun K hK => ?_) AllReadyH.nil
          go_simp
          have HC := Lib.hid (verify_any dv mm le ke sg HSG.out od L74_.out HTO.out)
          refine (HC.out).mono ?_
          rintro e x78_ ⟨rfl, hb⟩
          rw [HVQ.out]
          clear HC
          have V79_ := Lib.hid (V69_.out.below hb (Blk.lt V69_.out))
          have V80_ := Lib.hid (V70_.out.below hb (Blk.lt V70_.out))
          have V81_ := Lib.hid (V71_.out.below hb (Blk.lt V71_.out))
          have L82_ := Lib.hid (L72_.out.below hb)
          have L83_ := Lib.hid (L73_.out.below hb)
          have L84_ := Lib.hid (L74_.out.below hb)
          have Z85_ := Lib.hid (Z75_.out.bf (F := No) (Bf.below hb))
          have K86_ := Lib.hid (K76_.out.below hb K76_.out.lt)
          have B87_ := Lib.hid (B77_.out.trans (hb.mono B77_.out.size))
          clear V69_ V70_ V71_ L72_ L73_ L74_ Z75_ K76_ B77_ hb
          try go_simp
          refine hK.out _ _ ⟨V81_.out, K86_.out⟩ (fun hHeld => ?_)
          clear hK K
          try simp only [Act.put, getElem_toArray, getElem_cons_succ, getElem_cons_zero, setIfInBounds_toArray, set_cons_zero, set_cons_succ]
          refine wpAnyH_take (i := 8) (v := ?_) rfl (by kernel_rfl) (by kernel_rfl) (by kernel_rfl) (fun _ _ _ h => h) (Or.inl ⟨by rfl, ?_⟩) (by assumption) ?_
          rotate_left
          · (intro w hSw; (try dsimp only at hSw); clear hSw; go_simp; try (with_reducible rfl))
          try simp only [Act.put, getElem_toArray, getElem_cons_succ, getElem_cons_zero, setIfInBounds_toArray, set_cons_zero, set_cons_succ]
          refine wpAnyH_take (i := 9) (v := ?_) rfl (by kernel_rfl) (by kernel_rfl) (by kernel_rfl) (fun _ _ _ h => h) (Or.inl ⟨by rfl, ?_⟩) (by assumption) ?_
          rotate_left
          · (intro w hSw; (try dsimp only at hSw); clear hSw; go_simp; try (with_reducible rfl))
          try simp only [Act.put, getElem_toArray, getElem_cons_succ, getElem_cons_zero, setIfInBounds_toArray, set_cons_zero, set_cons_succ]
          refine wpAnyH_take (i := 10) (v := ?_) rfl (by kernel_rfl) (by kernel_rfl) (by kernel_rfl) (fun _ _ _ h => h) (Or.inl ⟨by rfl, ?_⟩) (by assumption) ?_
          rotate_left
          · (intro w hSw; (try dsimp only at hSw); have d4 := hSw.2.cell 4; clear hSw; go_simp; try (with_reducible rfl))
          try simp only [Act.put, getElem_toArray, getElem_cons_succ, getElem_cons_zero, setIfInBounds_toArray, set_cons_zero, set_cons_succ]
          refine wpAnyH_take (i := 11) (v := ?_) rfl (by kernel_rfl) (by kernel_rfl) (by kernel_rfl) (fun _ _ _ h => h) (Or.inl ⟨by rfl, ?_⟩) (by assumption) ?_
          rotate_left
          · (intro w hSw; (try dsimp only at hSw); refine run_load_op _ (.tmp 12) ?_ ?_ hSw.1 <;> rfl)
          try simp only [Act.put, getElem_toArray, getElem_cons_succ, getElem_cons_zero, setIfInBounds_toArray, set_cons_zero, set_cons_succ]
          refine wpAnyH_take (i := 13) (v := ?_) rfl (by kernel_rfl) (by kernel_rfl) (by kernel_rfl) (fun _ _ _ h => h) (Or.inl ⟨by rfl, ?_⟩) (by assumption) ?_
          rotate_left
          · (intro w hSw; (try dsimp only at hSw); clear hSw; go_simp; try (with_reducible rfl))
          try simp only [Act.put, getElem_toArray, getElem_cons_succ, getElem_cons_zero, setIfInBounds_toArray, set_cons_zero, set_cons_succ]
          refine wpAnyH_take (i := 14) (v := ?_) rfl (by kernel_rfl) (by kernel_rfl) (by kernel_rfl) (fun _ _ _ h => h) (Or.inl ⟨by rfl, ?_⟩) (by assumption) ?_
          rotate_left
          · (intro w hSw; (try dsimp only at hSw); have c25 := (hSw.1.cell 25).trans od.c25; have c26 := (hSw.1.cell 26).trans od.c26; clear hSw; go_simp; try (with_reducible rfl))
          try simp only [Act.put, getElem_toArray, getElem_cons_succ, getElem_cons_zero, setIfInBounds_toArray, set_cons_zero, set_cons_succ]
          refine wpAnyH_ready (rs := [12]) (by kernel_rfl) (by simp) ?_
          refine AllReadyH.cons rfl (fun K hK => ?_) AllReadyH.nil
          go_simp
          have HC := Lib.hid (rcon_any od L84_.out HTO.out)
          refine (HC.out).mono ?_
          rintro e x88_ ⟨yy, rfl, hyl, hgy, hb⟩
          have HYZ := Lib.hid (hgy.lz (F := No) fun _ h => h.elim).bt
          have HYL := Lib.hid hyl
          clear hyl hgy
          clear HC
          have V89_ := Lib.hid (V79_.out.below hb (Blk.lt V79_.out))
          have V90_ := Lib.hid (V80_.out.below hb (Blk.lt V80_.out))
          have V91_ := Lib.hid (V81_.out.below hb (Blk.lt V81_.out))
          have L92_ := Lib.hid (L82_.out.below hb)
          have L93_ := Lib.hid (L83_.out.below hb)
          have L94_ := Lib.hid (L84_.out.below hb)
          have Z95_ := Lib.hid (Z85_.out.bf (F := No) (Bf.below hb))
          have K96_ := Lib.hid (K86_.out.below hb K86_.out.lt)
          have B97_ := Lib.hid (B87_.out.trans (hb.mono B87_.out.size))
          clear V79_ V80_ V81_ L82_ L83_ L84_ Z85_ K86_ B87_ hb
          try go_simp
          refine hK.out _ _ ⟨V91_.out, K96_.out⟩ (fun hHeld => ?_)
          clear hK K
          try simp only [Act.put, getElem_toArray, getElem_cons_succ, getElem_cons_zero, setIfInBounds_toArray, set_cons_zero, set_cons_succ]
          have HCH := Lib.hid (show Calls Tryz.prog 29 #[.int .u64 (sg : Int), yy.v, .agg #[.int .u64 (od.r : Int), .int .u64 (od.s : Int)]] x88_ _ from check_any HYZ.out (by rw [HYL.out]; have := con_len2 HTO.out; omega) sg od.r od.s HSG.out HTO.out.ok.r HTO.out.ok.s)
          refine wpAnyH_ready (rs := [15]) (by kernel_rfl) (by simp) ?_
          refine AllReadyH.cons rfl (fun K hK => ?_) AllReadyH.nil
          go_simp
          have HC := Lib.hid (HCH.out)
          refine (HC.out).mono ?_
          rintro e x98_ ⟨rfl, hb⟩
          rw [HYL.out, HCK.out]
          clear HC
          have V99_ := Lib.hid (V89_.out.below hb (Blk.lt V89_.out))
          have V100_ := Lib.hid (V90_.out.below hb (Blk.lt V90_.out))
          have V101_ := Lib.hid (V91_.out.below hb (Blk.lt V91_.out))
          have L102_ := Lib.hid (L92_.out.below hb)
          have L103_ := Lib.hid (L93_.out.below hb)
          have L104_ := Lib.hid (L94_.out.below hb)
          have Z105_ := Lib.hid (Z95_.out.bf (F := No) (Bf.below hb))
          have K106_ := Lib.hid (K96_.out.below hb K96_.out.lt)
          have B107_ := Lib.hid (B97_.out.trans (hb.mono B97_.out.size))
          clear V89_ V90_ V91_ L92_ L93_ L94_ Z95_ K96_ B97_ hb
          try go_simp
          refine hK.out _ _ ⟨V101_.out, K106_.out⟩ (fun hHeld => ?_)
          clear hK K
          try simp only [Act.put, getElem_toArray, getElem_cons_succ, getElem_cons_zero, setIfInBounds_toArray, set_cons_zero, set_cons_succ]
          refine wpAnyH_take (i := 16) (v := ?_) rfl (by kernel_rfl) (by kernel_rfl) (by kernel_rfl) (fun _ _ _ h => h) (Or.inl ⟨by rfl, ?_⟩) (by assumption) ?_
          rotate_left
          · (intro w hSw; (try dsimp only at hSw); clear hSw; go_simp; try (with_reducible rfl))
          try simp only [Act.put, getElem_toArray, getElem_cons_succ, getElem_cons_zero, setIfInBounds_toArray, set_cons_zero, set_cons_succ]
          refine wpAnyH_take (i := 17) (v := ?_) rfl (by kernel_rfl) (by kernel_rfl) (by kernel_rfl) (fun _ _ _ h => h) (Or.inl ⟨by rfl, ?_⟩) (by assumption) ?_
          rotate_left
          · (intro w hSw; (try dsimp only at hSw); clear hSw; go_simp; try (with_reducible rfl))
          try simp only [Act.put, getElem_toArray, getElem_cons_succ, getElem_cons_zero, setIfInBounds_toArray, set_cons_zero, set_cons_succ]
          refine wpAnyH_take (i := 18) (v := ?_) rfl (by kernel_rfl) (by kernel_rfl) (by kernel_rfl) (fun _ _ _ h => h) (Or.inl ⟨by rfl, ?_⟩) (by assumption) ?_
          rotate_left
          · (intro w hSw; (try dsimp only at hSw); clear hSw; go_simp; try (with_reducible rfl))
          try simp only [Act.put, getElem_toArray, getElem_cons_succ, getElem_cons_zero, setIfInBounds_toArray, set_cons_zero, set_cons_succ]
          refine wpAnyH_ready (rs := [19]) (by kernel_rfl) (by simp) ?_
          refine AllReadyH.cons rfl (fun K hK => ?_) AllReadyH.nil
          go_simp
          have HC := Lib.hid (lives_any (HK.out.below B107_.out))
          refine (HC.out).mono ?_
          rintro e x108_ ⟨rfl, hb⟩
          clear HC
          have V109_ := Lib.hid (V99_.out.below hb (Blk.lt V99_.out))
          have V110_ := Lib.hid (V100_.out.below hb (Blk.lt V100_.out))
          have V111_ := Lib.hid (V101_.out.below hb (Blk.lt V101_.out))
          have L112_ := Lib.hid (L102_.out.below hb)
          have L113_ := Lib.hid (L103_.out.below hb)
          have L114_ := Lib.hid (L104_.out.below hb)
          have Z115_ := Lib.hid (Z105_.out.bf (F := No) (Bf.below hb))
          have K116_ := Lib.hid (K106_.out.below hb K106_.out.lt)
          have B117_ := Lib.hid (B107_.out.trans (hb.mono B107_.out.size))
          clear V99_ V100_ V101_ L102_ L103_ L104_ Z105_ K106_ B107_ hb
          try go_simp
          refine hK.out _ _ ⟨V111_.out, K116_.out⟩ (fun hHeld => ?_)
          clear hK K
          try simp only [Act.put, getElem_toArray, getElem_cons_succ, getElem_cons_zero, setIfInBounds_toArray, set_cons_zero, set_cons_succ]
          refine wpAnyH_take (i := 20) (v := ?_) rfl (by kernel_rfl) (by kernel_rfl) (by kernel_rfl) (fun _ _ _ h => h) (Or.inl ⟨by rfl, ?_⟩) (by assumption) ?_
          rotate_left
          · (intro w hSw; (try dsimp only at hSw); clear hSw; go_simp; try (with_reducible rfl))
          try simp only [Act.put, getElem_toArray, getElem_cons_succ, getElem_cons_zero, setIfInBounds_toArray, set_cons_zero, set_cons_succ]
          refine wpAnyH_take (i := 21) (v := ?_) rfl (by kernel_rfl) (by kernel_rfl) (by kernel_rfl) (fun _ _ _ h => h) (Or.inl ⟨by rfl, ?_⟩) (by assumption) ?_
          rotate_left
          · (intro w hSw; (try dsimp only at hSw); clear hSw; go_simp; try (with_reducible rfl))
          try simp only [Act.put, getElem_toArray, getElem_cons_succ, getElem_cons_zero, setIfInBounds_toArray, set_cons_zero, set_cons_succ]
          refine wpAnyH_done (by kernel_rfl) ?_ _
          clear hHeld
          go_wp2
          go_ret
          exact ⟨rfl, B117_.out⟩
        · have hq : (od.by_ == dv) = false := by rw [beq_eq_false_iff_ne]; exact hd
          have HVQ := Lib.hid (show (decide (od.by_ = dv) && Sg.chk sg (Sg.msg (con od.er)) od.r od.s) = false from by rw [decide_eq_false hd, Bool.false_and])
          clear hd
          refine wp_region_held_drew (S := (fun w' : World => Vr w' V3 od ∧ Blk w' C 61 #[.int .i64 dv, .int .i64 mm, .int .u64 (le : Int), .int .u64 (ke : Int), .int .u64 (sg : Int)])) (by kernel_rfl) ⟨V71_.out, K76_.out⟩ (fun hHeld => ?_)
          try simp only [Act.put, getElem_toArray, getElem_cons_zero, setIfInBounds_toArray, set_cons_zero, set_cons_succ]
          refine wpAnyH_take (i := 0) (v := ?_) rfl (by kernel_rfl) (by kernel_rfl) (by kernel_rfl) (fun _ _ _ h => h) (Or.inl ⟨by rfl, ?_⟩) (by assumption) ?_
          rotate_left
          · (intro w hSw; (try dsimp only at hSw); have d0 := hSw.2.cell 0; have d1 := hSw.2.cell 1; have d2 := hSw.2.cell 2; have d3 := hSw.2.cell 3; have d4 := hSw.2.cell 4; clear hSw; go_simp; try (with_reducible rfl))
          try simp only [Act.put, getElem_toArray, getElem_cons_zero, setIfInBounds_toArray, set_cons_zero, set_cons_succ]
          refine wpAnyH_take (i := 1) (v := ?_) rfl (by kernel_rfl) (by kernel_rfl) (by kernel_rfl) (fun _ _ _ h => h) (Or.inl ⟨by rfl, ?_⟩) (by assumption) ?_
          rotate_left
          · (intro w hSw; (try dsimp only at hSw); refine run_load_op _ (.tmp 12) ?_ ?_ hSw.1 <;> rfl)
          try simp only [Act.put, getElem_toArray, getElem_cons_succ, getElem_cons_zero, setIfInBounds_toArray, set_cons_zero, set_cons_succ]
          refine wpAnyH_take (i := 3) (v := ?_) rfl (by kernel_rfl) (by kernel_rfl) (by kernel_rfl) (fun _ _ _ h => h) (Or.inl ⟨by rfl, ?_⟩) (by assumption) ?_
          rotate_left
          · (intro w hSw; (try dsimp only at hSw); clear hSw; go_simp; try (with_reducible rfl))
          try simp only [Act.put, getElem_toArray, getElem_cons_succ, getElem_cons_zero, setIfInBounds_toArray, set_cons_zero, set_cons_succ]
          refine wpAnyH_take (i := 4) (v := ?_) rfl (by kernel_rfl) (by kernel_rfl) (by kernel_rfl) (fun _ _ _ h => h) (Or.inl ⟨by rfl, ?_⟩) (by assumption) ?_
          rotate_left
          · (intro w hSw; (try dsimp only at hSw); have c0 := (hSw.1.cell 0).trans od.c0; clear hSw; go_simp; try (with_reducible rfl))
          try simp only [Act.put, getElem_toArray, getElem_cons_succ, getElem_cons_zero, setIfInBounds_toArray, set_cons_zero, set_cons_succ]
          refine wpAnyH_take (i := 5) (v := ?_) rfl (by kernel_rfl) (by kernel_rfl) (by kernel_rfl) (fun _ _ _ h => h) (Or.inl ⟨by rfl, ?_⟩) (by assumption) ?_
          rotate_left
          · (intro w hSw; (try dsimp only at hSw); clear hSw; go_simp; try (with_reducible rfl))
          try simp only [Act.put, getElem_toArray, getElem_cons_succ, getElem_cons_zero, setIfInBounds_toArray, set_cons_zero, set_cons_succ]
          refine wpAnyH_take (i := 6) (v := ?_) rfl (by kernel_rfl) (by kernel_rfl) (by kernel_rfl) (fun _ _ _ h => h) (Or.inl ⟨by rfl, ?_⟩) (by assumption) ?_
          rotate_left
          · (intro w hSw; (try dsimp only at hSw); have d0 := hSw.2.cell 0; clear hSw; go_simp; try (with_reducible rfl))
          try simp only [Act.put, getElem_toArray, getElem_cons_succ, getElem_cons_zero, setIfInBounds_toArray, set_cons_zero, set_cons_succ]
          refine wpAnyH_take (i := 7) (v := ?_) rfl (by kernel_rfl) (by kernel_rfl) (by kernel_rfl) (fun _ _ _ h => h) (Or.inl ⟨by rfl, ?_⟩) (by assumption) ?_
          rotate_left
          · (intro w hSw; (try dsimp only at hSw); clear hSw; go_simp; try (with_reducible rfl))
          try simp only [Act.put, getElem_toArray, getElem_cons_succ, getElem_cons_zero, setIfInBounds_toArray, set_cons_zero, set_cons_succ]
          refine wpAnyH_ready (rs := [2]) (by kernel_rfl) (by simp) ?_
          refine AllReadyH.cons rfl (fun K hK => ?_) AllReadyH.nil
          go_simp
          have HC := Lib.hid (verify_any dv mm le ke sg HSG.out od L74_.out HTO.out)
          refine (HC.out).mono ?_
          rintro e x118_ ⟨rfl, hb⟩
          rw [HVQ.out]
          clear HC
          have V119_ := Lib.hid (V69_.out.below hb (Blk.lt V69_.out))
          have V120_ := Lib.hid (V70_.out.below hb (Blk.lt V70_.out))
          have V121_ := Lib.hid (V71_.out.below hb (Blk.lt V71_.out))
          have L122_ := Lib.hid (L72_.out.below hb)
          have L123_ := Lib.hid (L73_.out.below hb)
          have L124_ := Lib.hid (L74_.out.below hb)
          have Z125_ := Lib.hid (Z75_.out.bf (F := No) (Bf.below hb))
          have K126_ := Lib.hid (K76_.out.below hb K76_.out.lt)
          have B127_ := Lib.hid (B77_.out.trans (hb.mono B77_.out.size))
          clear V69_ V70_ V71_ L72_ L73_ L74_ Z75_ K76_ B77_ hb
          try go_simp
          refine hK.out _ _ ⟨V121_.out, K126_.out⟩ (fun hHeld => ?_)
          clear hK K
          try simp only [Act.put, getElem_toArray, getElem_cons_succ, getElem_cons_zero, setIfInBounds_toArray, set_cons_zero, set_cons_succ]
          refine wpAnyH_take (i := 8) (v := ?_) rfl (by kernel_rfl) (by kernel_rfl) (by kernel_rfl) (fun _ _ _ h => h) (Or.inl ⟨by rfl, ?_⟩) (by assumption) ?_
          rotate_left
          · (intro w hSw; (try dsimp only at hSw); clear hSw; go_simp; try (with_reducible rfl))
          try simp only [Act.put, getElem_toArray, getElem_cons_succ, getElem_cons_zero, setIfInBounds_toArray, set_cons_zero, set_cons_succ]
          refine wpAnyH_take (i := 9) (v := undef) rfl (by kernel_rfl) (by kernel_rfl) (by kernel_rfl) (fun _ _ _ h => h) (Or.inr ⟨by rfl, rfl⟩) (by assumption) ?_
          try simp only [Act.put, getElem_toArray, getElem_cons_succ, getElem_cons_zero, setIfInBounds_toArray, set_cons_zero, set_cons_succ]
          refine wpAnyH_take (i := 10) (v := undef) rfl (by kernel_rfl) (by kernel_rfl) (by kernel_rfl) (fun _ _ _ h => h) (Or.inr ⟨by rfl, rfl⟩) (by assumption) ?_
          try simp only [Act.put, getElem_toArray, getElem_cons_succ, getElem_cons_zero, setIfInBounds_toArray, set_cons_zero, set_cons_succ]
          refine wpAnyH_take (i := 11) (v := undef) rfl (by kernel_rfl) (by kernel_rfl) (by kernel_rfl) (fun _ _ _ h => h) (Or.inr ⟨by rfl, rfl⟩) (by assumption) ?_
          try simp only [Act.put, getElem_toArray, getElem_cons_succ, getElem_cons_zero, setIfInBounds_toArray, set_cons_zero, set_cons_succ]
          refine wpAnyH_take (i := 12) (v := undef) rfl (by kernel_rfl) (by kernel_rfl) (by kernel_rfl) (fun _ _ _ h => h) (Or.inr ⟨by rfl, rfl⟩) (by assumption) ?_
          try simp only [Act.put, getElem_toArray, getElem_cons_succ, getElem_cons_zero, setIfInBounds_toArray, set_cons_zero, set_cons_succ]
          refine wpAnyH_take (i := 13) (v := undef) rfl (by kernel_rfl) (by kernel_rfl) (by kernel_rfl) (fun _ _ _ h => h) (Or.inr ⟨by rfl, rfl⟩) (by assumption) ?_
          try simp only [Act.put, getElem_toArray, getElem_cons_succ, getElem_cons_zero, setIfInBounds_toArray, set_cons_zero, set_cons_succ]
          refine wpAnyH_take (i := 14) (v := undef) rfl (by kernel_rfl) (by kernel_rfl) (by kernel_rfl) (fun _ _ _ h => h) (Or.inr ⟨by rfl, rfl⟩) (by assumption) ?_
          try simp only [Act.put, getElem_toArray, getElem_cons_succ, getElem_cons_zero, setIfInBounds_toArray, set_cons_zero, set_cons_succ]
          refine wpAnyH_take (i := 15) (v := undef) rfl (by kernel_rfl) (by kernel_rfl) (by kernel_rfl) (fun _ _ _ h => h) (Or.inr ⟨by rfl, rfl⟩) (by assumption) ?_
          try simp only [Act.put, getElem_toArray, getElem_cons_succ, getElem_cons_zero, setIfInBounds_toArray, set_cons_zero, set_cons_succ]
          refine wpAnyH_take (i := 16) (v := ?_) rfl (by kernel_rfl) (by kernel_rfl) (by kernel_rfl) (fun _ _ _ h => h) (Or.inl ⟨by rfl, ?_⟩) (by assumption) ?_
          rotate_left
          · (intro w hSw; (try dsimp only at hSw); clear hSw; go_simp; try (with_reducible rfl))
          try simp only [Act.put, getElem_toArray, getElem_cons_succ, getElem_cons_zero, setIfInBounds_toArray, set_cons_zero, set_cons_succ]
          refine wpAnyH_take (i := 17) (v := ?_) rfl (by kernel_rfl) (by kernel_rfl) (by kernel_rfl) (fun _ _ _ h => h) (Or.inl ⟨by rfl, ?_⟩) (by assumption) ?_
          rotate_left
          · (intro w hSw; (try dsimp only at hSw); clear hSw; go_simp; try (with_reducible rfl))
          try simp only [Act.put, getElem_toArray, getElem_cons_succ, getElem_cons_zero, setIfInBounds_toArray, set_cons_zero, set_cons_succ]
          refine wpAnyH_take (i := 18) (v := ?_) rfl (by kernel_rfl) (by kernel_rfl) (by kernel_rfl) (fun _ _ _ h => h) (Or.inl ⟨by rfl, ?_⟩) (by assumption) ?_
          rotate_left
          · (intro w hSw; (try dsimp only at hSw); clear hSw; go_simp; try (with_reducible rfl))
          try simp only [Act.put, getElem_toArray, getElem_cons_succ, getElem_cons_zero, setIfInBounds_toArray, set_cons_zero, set_cons_succ]
          refine wpAnyH_ready (rs := [19]) (by kernel_rfl) (by simp) ?_
          refine AllReadyH.cons rfl (fun K hK => ?_) AllReadyH.nil
          go_simp
          have HC := Lib.hid (lives_any (HK.out.below B127_.out))
          refine (HC.out).mono ?_
          rintro e x128_ ⟨rfl, hb⟩
          clear HC
          have V129_ := Lib.hid (V119_.out.below hb (Blk.lt V119_.out))
          have V130_ := Lib.hid (V120_.out.below hb (Blk.lt V120_.out))
          have V131_ := Lib.hid (V121_.out.below hb (Blk.lt V121_.out))
          have L132_ := Lib.hid (L122_.out.below hb)
          have L133_ := Lib.hid (L123_.out.below hb)
          have L134_ := Lib.hid (L124_.out.below hb)
          have Z135_ := Lib.hid (Z125_.out.bf (F := No) (Bf.below hb))
          have K136_ := Lib.hid (K126_.out.below hb K126_.out.lt)
          have B137_ := Lib.hid (B127_.out.trans (hb.mono B127_.out.size))
          clear V119_ V120_ V121_ L122_ L123_ L124_ Z125_ K126_ B127_ hb
          try go_simp
          refine hK.out _ _ ⟨V131_.out, K136_.out⟩ (fun hHeld => ?_)
          clear hK K
          try simp only [Act.put, getElem_toArray, getElem_cons_succ, getElem_cons_zero, setIfInBounds_toArray, set_cons_zero, set_cons_succ]
          refine wpAnyH_take (i := 20) (v := ?_) rfl (by kernel_rfl) (by kernel_rfl) (by kernel_rfl) (fun _ _ _ h => h) (Or.inl ⟨by rfl, ?_⟩) (by assumption) ?_
          rotate_left
          · (intro w hSw; (try dsimp only at hSw); clear hSw; go_simp; try (with_reducible rfl))
          try simp only [Act.put, getElem_toArray, getElem_cons_succ, getElem_cons_zero, setIfInBounds_toArray, set_cons_zero, set_cons_succ]
          refine wpAnyH_take (i := 21) (v := ?_) rfl (by kernel_rfl) (by kernel_rfl) (by kernel_rfl) (fun _ _ _ h => h) (Or.inl ⟨by rfl, ?_⟩) (by assumption) ?_
          rotate_left
          · (intro w hSw; (try dsimp only at hSw); clear hSw; go_simp; try (with_reducible rfl))
          try simp only [Act.put, getElem_toArray, getElem_cons_succ, getElem_cons_zero, setIfInBounds_toArray, set_cons_zero, set_cons_succ]
          refine wpAnyH_done (by kernel_rfl) ?_ _
          clear hHeld
          go_wp2
          go_ret
          exact ⟨rfl, B137_.out⟩
end Ot
end Go.Proofs.YtkicjjcangkneaaGreatDoor
