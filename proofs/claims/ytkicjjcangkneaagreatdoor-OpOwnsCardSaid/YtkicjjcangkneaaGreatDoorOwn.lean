/-
  Joined texts: Ouh Ocl Ocn Osn Osv Gtx Oxo.
-/
import Derived.Test.YtkicjjcangkneaaGreatDoorRft
import Derived.Test.YtkicjjcangkneaaGreatDoorOrk
import Derived.Test.YtkicjjcangkneaaGreatDoorOtm
import Derived.Lib.SliceRun
import Derived.Test.YtkicjjcangkneaaGreatDoorOtv
import Derived.Test.YtkicjjcangkneaaGreatDoorOtk
import Derived.Deep.DeepCutAuto
import Derived.Test.YtkicjjcangkneaaGreatDoorVar
import Derived.Test.YtkicjjcangkneaaGreatDoorSgx

/-
  The reference's SameOp: two operations are the same just if their rows of bytes are.
-/
namespace Go.Proofs.YtkicjjcangkneaaGreatDoor
open Go.RowKit
set_option linter.unusedSimpArgs false
set_option linter.unusedVariables false
attribute [local go_sem ↓] Go.wp_at_zero Go.wp_at_succ
set_option maxRecDepth 100000
namespace Ot
/-- What is asked of worlds may be made more on the way. -/
theorem wpAnyH_and' {P : Program} {ops : Array Oper} {Q : Exit → Act → World → Prop} {md : Region.Mode} {S : World → Prop} (T : World → Prop) : ∀ (fuel : Nat) (listed : Array Bool) (a : Act) (w : World), wpAnyH P md ops Q (fun w' => S w' ∧ T w') fuel listed a w → wpAnyH P md ops Q S fuel listed a w
  | 0, _, _, _, h => h
  | fuel + 1, _, _, _, h => ⟨h.1, fun i hi => wpOp_mono (fun a' w' h' => ⟨h'.1.1, wpAnyH_and' T fuel _ a' w' h'.2⟩) (h.2 i hi)⟩

theorem bytes_same (xs ys : List UInt8) : ((⟨xs.toArray⟩ : ByteArray).toList == (⟨ys.toArray⟩ : ByteArray).toList) = decide (xs = ys) := by
  rw [ByteArray.toList_eq, ByteArray.toList_eq]
  by_cases h : xs = ys
  · subst h; simp
  · rw [decide_eq_false h]
    simpa using h

set_option maxHeartbeats 4000000 in
theorem sameop_any {w : World} (a b : LOp) (ha : Lies No w a) (hb : Lies No w b) (hta : Tiny a.er) (htb : Tiny b.er) :
    Calls Tryz.prog 22 #[a.v, b.v] w fun e w' => e = .returned (.bool (decide (put a.er = put b.er))) ∧ Below w.heap.size w w' := by
  obtain ⟨cs, hcs⟩ : ∃ cs, cs = a.cells := ⟨_, rfl⟩
  obtain ⟨ds, hds⟩ : ∃ ds, ds = b.cells := ⟨_, rfl⟩
  have es : (w.alloc (.cells cs 35)).heap.size = w.heap.size + 1 := by simp
  have hV1 : Vr ((w.alloc (.cells cs 35)).alloc (.cells ds 35)) w.heap.size a := by
    unfold Vr
    rw [← hcs]
    exact blk_alloc (blk_new w 35 cs) _
  have hV2 : Vr ((w.alloc (.cells cs 35)).alloc (.cells ds 35)) (w.heap.size + 1) b := by
    unfold Vr
    rw [← hds, ← es]
    exact blk_new _ _ _
  have hbw : Below w.heap.size w ((w.alloc (.cells cs 35)).alloc (.cells ds 35)) := ((Below.refl _ w).alloc (Nat.le_refl _) _).alloc (by simp) _
  have hLa := (ha.alloc (.cells cs 35)).alloc (.cells ds 35)
  have hLb := (hb.alloc (.cells cs 35)).alloc (.cells ds 35)
  obtain ⟨w0, hw0⟩ : ∃ w0, w0 = (w.alloc (.cells cs 35)).alloc (.cells ds 35) := ⟨_, rfl⟩
  rw [← hw0] at hV1 hV2 hbw hLa hLb
  obtain ⟨V1, hV1'⟩ : ∃ V1, V1 = w.heap.size := ⟨_, rfl⟩
  obtain ⟨V2, hV2'⟩ : ∃ V2, V2 = w.heap.size + 1 := ⟨_, rfl⟩
  have HVAd := Lib.hid (show Vr w0.drew V1 a from hV1' ▸ hV1)
  have HVBd := Lib.hid (show Vr w0.drew V2 b from hV2' ▸ hV2)
  have HBd := Lib.hid (show Below w.heap.size w w0.drew from hbw.trans (below_drewN w0 1 w.heap.size))
  have HLAd := Lib.hid (show Lies No w0.drew a from hLa.bf (Bf.drew w0))
  have HLBd := Lib.hid (show Lies No w0.drew b from hLb.bf (Bf.drew w0))
  have HT := Lib.hid hta
  have HTB' := Lib.hid htb
  have HW0 := Lib.hid hw0
  have HE1 := Lib.hid hV1'
  have HE2 := Lib.hid hV2'
  obtain ⟨sa, hsa⟩ : ∃ s : ByteArray, s = ⟨(put a.er).toArray⟩ := ⟨_, rfl⟩
  obtain ⟨sb, hsb⟩ : ∃ s : ByteArray, s = ⟨(put b.er).toArray⟩ := ⟨_, rfl⟩
  have HSA := Lib.hid hsa
  have HSB := Lib.hid hsb
  show Calls _ _ #[.agg a.cells, .agg b.cells] w _
  rw [← hcs, ← hds]
  clear hV1 hV2 es hbw hLa hLb ha hb hta htb hcs hds hw0 hsa hsb hV1' hV2'
  go_enter Tryz.func22, Tryz.ntmps22
  go_wp2
  try rw [← HW0.out]
  rw [← HE2.out, ← HE1.out]
  refine wp_region_held_drew (S := (fun w' : World => Vr w' V1 a ∧ Vr w' V2 b)) (by kernel_rfl) ⟨HVAd.out, HVBd.out⟩ (fun hHeld => ?_)
  try simp only [Act.put, List.getElem_toArray, List.getElem_cons_succ, List.getElem_cons_zero, List.setIfInBounds_toArray, List.set_cons_zero, List.set_cons_succ]
  refine wpAnyH_take (i := 0) (v := ?_) rfl (by kernel_rfl) (by kernel_rfl) (by kernel_rfl) (fun _ _ _ h => h) (Or.inl ⟨by rfl, ?_⟩) (by assumption) ?_
  rotate_left
  · (intro w hSw; (try dsimp only at hSw); refine run_load_op _ (.tmp 2) ?_ ?_ hSw.1 <;> rfl)
  try simp only [Act.put, List.getElem_toArray, List.getElem_cons_zero, List.setIfInBounds_toArray, List.set_cons_zero, List.set_cons_succ]
  refine wpAnyH_take (i := 3) (v := ?_) rfl (by kernel_rfl) (by kernel_rfl) (by kernel_rfl) (fun _ _ _ h => h) (Or.inl ⟨by rfl, ?_⟩) (by assumption) ?_
  rotate_left
  · (intro w hSw; (try dsimp only at hSw); refine run_load_op _ (.tmp 3) ?_ ?_ hSw.2 <;> rfl)
  try simp only [Act.put, List.getElem_toArray, List.getElem_cons_succ, List.getElem_cons_zero, List.setIfInBounds_toArray, List.set_cons_zero, List.set_cons_succ]
  refine wpAnyH_ready (rs := [1]) (by kernel_rfl) (by simp) ?_
  refine AllReadyH.cons rfl (fun K hK => ?_) AllReadyH.nil
  go_simp
  have HC := Lib.hid (rput_any a HLAd.out HT.out)
  refine (HC.out).mono ?_
  rintro e x1 ⟨y1, rfl, hyl, hgy, hb⟩
  have VA1 := Lib.hid (HVAd.out.below hb (Blk.lt HVAd.out))
  have VB1 := Lib.hid (HVBd.out.below hb (Blk.lt HVBd.out))
  have LA1 := Lib.hid (HLAd.out.below hb)
  have LB1 := Lib.hid (HLBd.out.below hb)
  have BB1 := Lib.hid (HBd.out.trans (hb.mono HBd.out.size))
  have TN1 := Lib.hid (hgy.lz (F := No) fun _ h => h.elim)
  have YL1 := Lib.hid hyl
  clear hb HC hyl hgy HVAd HVBd HLAd HLBd HBd
  try go_simp
  refine hK.out _ _ ⟨VA1.out, VB1.out⟩ (fun hHeld1 => ?_)
  clear hK K
  try simp only [Act.put, List.getElem_toArray, List.getElem_cons_succ, List.getElem_cons_zero, List.setIfInBounds_toArray, List.set_cons_zero, List.set_cons_succ]
  refine wpAnyH_and' (fun w' => Lz kU8 No w' y1) _ _ _ _ ?_
  have hHeld : (Vr x1 V1 a ∧ Vr x1 V2 b) ∧ Lz kU8 No x1 y1 := ⟨⟨VA1.out, VB1.out⟩, TN1.out⟩
  refine wpAnyH_take (i := 2) (v := ?_) rfl (by kernel_rfl) (by kernel_rfl) (by kernel_rfl) (fun _ _ _ h => h) (Or.inl ⟨by rfl, ?_⟩) (by assumption) ?_
  rotate_left
  · (intro w hSw; (try dsimp only at hSw); have cv : (convert 28 9 y1.v).run Tryz.prog w = .ok (.string sa) w := (by rw [HSA.out, ← (show y1.l = put a.er from YL1.out)]; exact cu_conv_rd y1.A y1.l.length y1.c _ _ y1.l rfl (hSw.2).rd8); go_simp; try (with_reducible rfl))
  try simp only [Act.put, List.getElem_toArray, List.getElem_cons_succ, List.getElem_cons_zero, List.setIfInBounds_toArray, List.set_cons_zero, List.set_cons_succ]
  refine wpAnyH_ready (rs := [4]) (by kernel_rfl) (by simp) ?_
  refine AllReadyH.cons rfl (fun K hK => ?_) AllReadyH.nil
  go_simp
  have HC := Lib.hid (rput_any b LB1.out HTB'.out)
  refine (HC.out).mono ?_
  rintro e x2 ⟨y2, rfl, hyl, hgy, hb⟩
  have VA2 := Lib.hid (VA1.out.below hb (Blk.lt VA1.out))
  have VB2 := Lib.hid (VB1.out.below hb (Blk.lt VB1.out))
  have LA2 := Lib.hid (LA1.out.below hb)
  have LB2 := Lib.hid (LB1.out.below hb)
  have BB2 := Lib.hid (BB1.out.trans (hb.mono BB1.out.size))
  have T2_0 := Lib.hid (TN1.out.bf (F := No) (Bf.below hb))
  have TN2 := Lib.hid (hgy.lz (F := No) fun _ h => h.elim)
  have YL2 := Lib.hid hyl
  clear hb HC hyl hgy VA1 VB1 LA1 LB1 BB1 TN1
  try go_simp
  refine hK.out _ _ ⟨⟨VA2.out, VB2.out⟩, T2_0.out⟩ (fun hHeld1 => ?_)
  clear hK K
  try simp only [Act.put, List.getElem_toArray, List.getElem_cons_succ, List.getElem_cons_zero, List.setIfInBounds_toArray, List.set_cons_zero, List.set_cons_succ]
  refine wpAnyH_and' (fun w' => Lz kU8 No w' y2) _ _ _ _ ?_
  have hHeld : ((Vr x2 V1 a ∧ Vr x2 V2 b) ∧ Lz kU8 No x2 y1) ∧ Lz kU8 No x2 y2 := ⟨⟨⟨VA2.out, VB2.out⟩, T2_0.out⟩, TN2.out⟩
  refine wpAnyH_take (i := 5) (v := ?_) rfl (by kernel_rfl) (by kernel_rfl) (by kernel_rfl) (fun _ _ _ h => h) (Or.inl ⟨by rfl, ?_⟩) (by assumption) ?_
  rotate_left
  · (intro w hSw; (try dsimp only at hSw); have cv : (convert 28 9 y2.v).run Tryz.prog w = .ok (.string sb) w := (by rw [HSB.out, ← (show y2.l = put b.er from YL2.out)]; exact cu_conv_rd y2.A y2.l.length y2.c _ _ y2.l rfl (hSw.2).rd8); go_simp; try (with_reducible rfl))
  try simp only [Act.put, List.getElem_toArray, List.getElem_cons_succ, List.getElem_cons_zero, List.setIfInBounds_toArray, List.set_cons_zero, List.set_cons_succ]
  refine wpAnyH_take (i := 6) (v := ?_) rfl (by kernel_rfl) (by kernel_rfl) (by kernel_rfl) (fun _ _ _ h => h) (Or.inl ⟨by rfl, ?_⟩) (by assumption) ?_
  rotate_left
  · (intro w hSw; (try dsimp only at hSw); go_simp; try (with_reducible rfl))
  try simp only [Act.put, List.getElem_toArray, List.getElem_cons_succ, List.getElem_cons_zero, List.setIfInBounds_toArray, List.set_cons_zero, List.set_cons_succ]
  refine wpAnyH_take (i := 7) (v := ?_) rfl (by kernel_rfl) (by kernel_rfl) (by kernel_rfl) (fun _ _ _ h => h) (Or.inl ⟨by rfl, ?_⟩) (by assumption) ?_
  rotate_left
  · (intro w hSw; (try dsimp only at hSw); go_simp; try (with_reducible rfl))
  try simp only [Act.put, List.getElem_toArray, List.getElem_cons_succ, List.getElem_cons_zero, List.setIfInBounds_toArray, List.set_cons_zero, List.set_cons_succ]
  refine wpAnyH_done (by kernel_rfl) ?_ _
  go_wp2
  go_ret
  exact ⟨by rw [HSA.out, HSB.out, bytes_same]; rfl, BB2.out⟩

end Ot
end Go.Proofs.YtkicjjcangkneaaGreatDoor

/-
  slices.Clone, bytes.Clone of each kind of list: the same items, in memory of its own; nil stays nil. For lists of at most a million items.
-/
namespace Go.Proofs.YtkicjjcangkneaaGreatDoor
open Go.RowKit
set_option linter.unusedSimpArgs false
attribute [local go_sem ↓] Go.wp_at_zero Go.wp_at_succ
set_option maxRecDepth 100000
namespace Ot
/-- A state is laid out behind a step. -/
theorem lays : (∀ (a : Act) (d : Tmp) (v : Value), a.put (some d) v = { tmps := a.tmps.setIfInBounds d v, defers := a.defers }) ∧ (∀ (a : Act) (v : Value), a.put none v = a) ∧ (∀ (l : List Value) (i : Nat) (v : Value), l.toArray.setIfInBounds i v = (l.set i v).toArray) ∧
    (∀ (x : Value) (l : List Value) (v : Value), (x :: l).set 0 v = v :: l) ∧ (∀ (x : Value) (l : List Value) (n : Nat) (v : Value), (x :: l).set (n + 1) v = x :: l.set n v) :=
  ⟨fun _ _ _ => rfl, fun _ _ => rfl, fun _ _ _ => by simp, fun _ _ _ => rfl, fun _ _ _ _ => rfl⟩
/-- A new list without an item. -/
theorem gr_new0 {α : Type} (K : Kd α) (w : World) : Gr K w.heap.size (w.alloc (.cells #[] K.ty)) ⟨[], some ⟨w.heap.size, 0, none⟩, 0⟩ :=
  ⟨by rw [K.cells_len], .inr ⟨w.heap.size, 0, #[], rfl, Nat.le_refl _, heap_alloc_new w _, Nat.le_refl _, by unfold maxLen; omega, by simp, by simp [K.cells_nil]⟩⟩
/-- A clone: the same items, of its own. -/
def Cl {α : Type} (K : Kd α) (w : World) (l : List α) (e : Ending) (w' : World) : Prop := ∃ z : Ls α, e = .returned (.slice z.A z.l.length z.c) ∧ z.l = l ∧ Gr K w.heap.size w' z ∧ Below w.heap.size w w'

set_option maxHeartbeats 1000000 in
theorem clone_nm {w : World} (x : Ls Pk.Nm) (hx : Lz kNm No w x) (hn : x.l.length ≤ 1000000) : Calls Tryz.prog 150 #[x.v] w (Cl kNm w x.l) := by
  have q : ∀ (w : World) (a : Option Addr) (n c n' c' : Nat), (binOp .eql 23 (.slice a n c) (.slice none n' c')).run Tryz.prog w = .ok (.bool a.isNone) w := fun w a n c n' c' => Lib.run_eql_slice_nil w _ _ a n c n' c' Tryz.underlying23
  obtain ⟨l, A, c⟩ := x
  rcases A with _ | ad
  · obtain ⟨h0, h1⟩ := hx.none_ rfl
    have hl : l = [] := List.eq_nil_of_length_eq_zero h0
    subst hl
    have h1 : c = 0 := h1
    subst h1
    show Calls _ _ #[.slice none 0 0] w (Cl kNm w [])
    clear h0 hx hn
    obtain ⟨Q, hQ⟩ : ∃ Q, Q = Cl kNm w [] := ⟨_, rfl⟩
    have HE := Lib.hid (show Q (.returned (.slice none 0 0)) w from hQ ▸ ⟨Ls.nil, rfl, rfl, Gr.nil _ _, Below.refl _ _⟩)
    rw [← hQ]
    clear hQ
    go_enter Tryz.func150, Tryz.ntmps150
    go_wp2
    exact HE.out
  · have HEM := Lib.hid (gr_new0 kNm w)
    have HLZ := Lib.hid (hx.bf (F := No) (Bf.alloc w (.cells #[] 27)))
    obtain ⟨m, hm⟩ : ∃ m, m = l.length := ⟨_, rfl⟩
    have HM := Lib.hid hm
    have HV := Lib.hid (show Value.slice (some ad) m c = Ls.v ⟨l, some ad, c⟩ by rw [hm]; rfl)
    have HN := Lib.hid (show l.length ≤ 1000000 from hn)
    show Calls _ _ #[.slice (some ad) l.length c] w (Cl kNm w l)
    rw [← hm]
    clear hm hx hn
    go_enter Tryz.func150, Tryz.ntmps150
    go_wp2_with (at_builtin; refine wpList_push_ls ki_nm rfl _ _ rfl w.heap.size ⟨[], some ⟨w.heap.size, 0, none⟩, 0⟩ ⟨l, some ad, c⟩ HEM.out rfl HLZ.out HV.out (by have h := HN.out; show 0 + l.length ≤ _; omega) (by simp) ?_; intro z w1 hz hgz hbz _; have HZ := Lib.hid hz; have HG := Lib.hid hgz; have HB := Lib.hid hbz; clear hz hgz hbz)
    go_ret
    exact ⟨z, rfl, HZ.out, HG.out, ((Below.refl _ w).alloc (Nat.le_refl _) _).trans HB.out⟩

set_option maxHeartbeats 1000000 in
theorem clone_nd {w : World} (x : Ls LNd) (hx : Lz kNd No w x) (hn : x.l.length ≤ 1000000) : Calls Tryz.prog 151 #[x.v] w (Cl kNd w x.l) := by
  have q : ∀ (w : World) (a : Option Addr) (n c n' c' : Nat), (binOp .eql 24 (.slice a n c) (.slice none n' c')).run Tryz.prog w = .ok (.bool a.isNone) w := fun w a n c n' c' => Lib.run_eql_slice_nil w _ _ a n c n' c' Tryz.underlying24
  obtain ⟨l, A, c⟩ := x
  rcases A with _ | ad
  · obtain ⟨h0, h1⟩ := hx.none_ rfl
    have hl : l = [] := List.eq_nil_of_length_eq_zero h0
    subst hl
    have h1 : c = 0 := h1
    subst h1
    show Calls _ _ #[.slice none 0 0] w (Cl kNd w [])
    clear h0 hx hn
    obtain ⟨Q, hQ⟩ : ∃ Q, Q = Cl kNd w [] := ⟨_, rfl⟩
    have HE := Lib.hid (show Q (.returned (.slice none 0 0)) w from hQ ▸ ⟨Ls.nil, rfl, rfl, Gr.nil _ _, Below.refl _ _⟩)
    rw [← hQ]
    clear hQ
    go_enter Tryz.func151, Tryz.ntmps151
    go_wp2
    exact HE.out
  · have HEM := Lib.hid (gr_new0 kNd w)
    have HLZ := Lib.hid (hx.bf (F := No) (Bf.alloc w (.cells #[] 66)))
    obtain ⟨m, hm⟩ : ∃ m, m = l.length := ⟨_, rfl⟩
    have HM := Lib.hid hm
    have HV := Lib.hid (show Value.slice (some ad) m c = Ls.v ⟨l, some ad, c⟩ by rw [hm]; rfl)
    have HN := Lib.hid (show l.length ≤ 1000000 from hn)
    show Calls _ _ #[.slice (some ad) l.length c] w (Cl kNd w l)
    rw [← hm]
    clear hm hx hn
    go_enter Tryz.func151, Tryz.ntmps151
    go_wp2_with (at_builtin; refine wpList_push_ls ki_nd rfl _ _ rfl w.heap.size ⟨[], some ⟨w.heap.size, 0, none⟩, 0⟩ ⟨l, some ad, c⟩ HEM.out rfl HLZ.out HV.out (by have h := HN.out; show 0 + l.length ≤ _; omega) (by simp) ?_; intro z w1 hz hgz hbz _; have HZ := Lib.hid hz; have HG := Lib.hid hgz; have HB := Lib.hid hbz; clear hz hgz hbz)
    go_ret
    exact ⟨z, rfl, HZ.out, HG.out, ((Below.refl _ w).alloc (Nat.le_refl _) _).trans HB.out⟩

set_option maxHeartbeats 1000000 in
theorem clone_bx {w : World} (x : Ls Bx) (hx : Lz kBx No w x) (hn : x.l.length ≤ 1000000) : Calls Tryz.prog 152 #[x.v] w (Cl kBx w x.l) := by
  have q : ∀ (w : World) (a : Option Addr) (n c n' c' : Nat), (binOp .eql 30 (.slice a n c) (.slice none n' c')).run Tryz.prog w = .ok (.bool a.isNone) w := fun w a n c n' c' => Lib.run_eql_slice_nil w _ _ a n c n' c' Tryz.underlying30
  obtain ⟨l, A, c⟩ := x
  rcases A with _ | ad
  · obtain ⟨h0, h1⟩ := hx.none_ rfl
    have hl : l = [] := List.eq_nil_of_length_eq_zero h0
    subst hl
    have h1 : c = 0 := h1
    subst h1
    show Calls _ _ #[.slice none 0 0] w (Cl kBx w [])
    clear h0 hx hn
    obtain ⟨Q, hQ⟩ : ∃ Q, Q = Cl kBx w [] := ⟨_, rfl⟩
    have HE := Lib.hid (show Q (.returned (.slice none 0 0)) w from hQ ▸ ⟨Ls.nil, rfl, rfl, Gr.nil _ _, Below.refl _ _⟩)
    rw [← hQ]
    clear hQ
    go_enter Tryz.func152, Tryz.ntmps152
    go_wp2
    exact HE.out
  · have HEM := Lib.hid (gr_new0 kBx w)
    have HLZ := Lib.hid (hx.bf (F := No) (Bf.alloc w (.cells #[] 68)))
    obtain ⟨m, hm⟩ : ∃ m, m = l.length := ⟨_, rfl⟩
    have HM := Lib.hid hm
    have HV := Lib.hid (show Value.slice (some ad) m c = Ls.v ⟨l, some ad, c⟩ by rw [hm]; rfl)
    have HN := Lib.hid (show l.length ≤ 1000000 from hn)
    show Calls _ _ #[.slice (some ad) l.length c] w (Cl kBx w l)
    rw [← hm]
    clear hm hx hn
    go_enter Tryz.func152, Tryz.ntmps152
    go_wp2_with (at_builtin; refine wpList_push_ls ki_bx rfl _ _ rfl w.heap.size ⟨[], some ⟨w.heap.size, 0, none⟩, 0⟩ ⟨l, some ad, c⟩ HEM.out rfl HLZ.out HV.out (by have h := HN.out; show 0 + l.length ≤ _; omega) (by simp) ?_; intro z w1 hz hgz hbz _; have HZ := Lib.hid hz; have HG := Lib.hid hgz; have HB := Lib.hid hbz; clear hz hgz hbz)
    go_ret
    exact ⟨z, rfl, HZ.out, HG.out, ((Below.refl _ w).alloc (Nat.le_refl _) _).trans HB.out⟩

set_option maxHeartbeats 1000000 in
theorem clone_sd {w : World} (x : Ls LSd) (hx : Lz kSd No w x) (hn : x.l.length ≤ 1000000) : Calls Tryz.prog 156 #[x.v] w (Cl kSd w x.l) := by
  have q : ∀ (w : World) (a : Option Addr) (n c n' c' : Nat), (binOp .eql 31 (.slice a n c) (.slice none n' c')).run Tryz.prog w = .ok (.bool a.isNone) w := fun w a n c n' c' => Lib.run_eql_slice_nil w _ _ a n c n' c' Tryz.underlying31
  obtain ⟨l, A, c⟩ := x
  rcases A with _ | ad
  · obtain ⟨h0, h1⟩ := hx.none_ rfl
    have hl : l = [] := List.eq_nil_of_length_eq_zero h0
    subst hl
    have h1 : c = 0 := h1
    subst h1
    show Calls _ _ #[.slice none 0 0] w (Cl kSd w [])
    clear h0 hx hn
    obtain ⟨Q, hQ⟩ : ∃ Q, Q = Cl kSd w [] := ⟨_, rfl⟩
    have HE := Lib.hid (show Q (.returned (.slice none 0 0)) w from hQ ▸ ⟨Ls.nil, rfl, rfl, Gr.nil _ _, Below.refl _ _⟩)
    rw [← hQ]
    clear hQ
    go_enter Tryz.func156, Tryz.ntmps156
    go_wp2
    exact HE.out
  · have HEM := Lib.hid (gr_new0 kSd w)
    have HLZ := Lib.hid (hx.bf (F := No) (Bf.alloc w (.cells #[] 81)))
    obtain ⟨m, hm⟩ : ∃ m, m = l.length := ⟨_, rfl⟩
    have HM := Lib.hid hm
    have HV := Lib.hid (show Value.slice (some ad) m c = Ls.v ⟨l, some ad, c⟩ by rw [hm]; rfl)
    have HN := Lib.hid (show l.length ≤ 1000000 from hn)
    show Calls _ _ #[.slice (some ad) l.length c] w (Cl kSd w l)
    rw [← hm]
    clear hm hx hn
    go_enter Tryz.func156, Tryz.ntmps156
    go_wp2_with (at_builtin; refine wpList_push_ls ki_sd rfl _ _ rfl w.heap.size ⟨[], some ⟨w.heap.size, 0, none⟩, 0⟩ ⟨l, some ad, c⟩ HEM.out rfl HLZ.out HV.out (by have h := HN.out; show 0 + l.length ≤ _; omega) (by simp) ?_; intro z w1 hz hgz hbz _; have HZ := Lib.hid hz; have HG := Lib.hid hgz; have HB := Lib.hid hbz; clear hz hgz hbz)
    go_ret
    exact ⟨z, rfl, HZ.out, HG.out, ((Below.refl _ w).alloc (Nat.le_refl _) _).trans HB.out⟩

set_option maxHeartbeats 1000000 in
theorem clone_u64 {w : World} (x : Ls Nat) (hx : Lz kU64 No w x) (hn : x.l.length ≤ 1000000) : Calls Tryz.prog 154 #[x.v] w (Cl kU64 w x.l) := by
  have q : ∀ (w : World) (a : Option Addr) (n c n' c' : Nat), (binOp .eql 29 (.slice a n c) (.slice none n' c')).run Tryz.prog w = .ok (.bool a.isNone) w := fun w a n c n' c' => Lib.run_eql_slice_nil w _ _ a n c n' c' Tryz.underlying29
  obtain ⟨l, A, c⟩ := x
  rcases A with _ | ad
  · obtain ⟨h0, h1⟩ := hx.none_ rfl
    have hl : l = [] := List.eq_nil_of_length_eq_zero h0
    subst hl
    have h1 : c = 0 := h1
    subst h1
    show Calls _ _ #[.slice none 0 0] w (Cl kU64 w [])
    clear h0 hx hn
    obtain ⟨Q, hQ⟩ : ∃ Q, Q = Cl kU64 w [] := ⟨_, rfl⟩
    have HE := Lib.hid (show Q (.returned (.slice none 0 0)) w from hQ ▸ ⟨Ls.nil, rfl, rfl, Gr.nil _ _, Below.refl _ _⟩)
    rw [← hQ]
    clear hQ
    go_enter Tryz.func154, Tryz.ntmps154
    go_wp2
    exact HE.out
  · have HEM := Lib.hid (gr_new0 kU64 w)
    have HLZ := Lib.hid (hx.bf (F := No) (Bf.alloc w (.cells #[] 25)))
    obtain ⟨m, hm⟩ : ∃ m, m = l.length := ⟨_, rfl⟩
    have HM := Lib.hid hm
    have HV := Lib.hid (show Value.slice (some ad) m c = Ls.v ⟨l, some ad, c⟩ by rw [hm]; rfl)
    have HN := Lib.hid (show l.length ≤ 1000000 from hn)
    show Calls _ _ #[.slice (some ad) l.length c] w (Cl kU64 w l)
    rw [← hm]
    clear hm hx hn
    go_enter Tryz.func154, Tryz.ntmps154
    go_wp2_with (at_builtin; refine wpList_push_ls ki_u64 rfl _ _ rfl w.heap.size ⟨[], some ⟨w.heap.size, 0, none⟩, 0⟩ ⟨l, some ad, c⟩ HEM.out rfl HLZ.out HV.out (by have h := HN.out; show 0 + l.length ≤ _; omega) (by simp) ?_; intro z w1 hz hgz hbz _; have HZ := Lib.hid hz; have HG := Lib.hid hgz; have HB := Lib.hid hbz; clear hz hgz hbz)
    go_ret
    exact ⟨z, rfl, HZ.out, HG.out, ((Below.refl _ w).alloc (Nat.le_refl _) _).trans HB.out⟩

set_option maxHeartbeats 1000000 in
theorem clone_int {w : World} (x : Ls Int) (hx : Lz kInt No w x) (hn : x.l.length ≤ 1000000) : Calls Tryz.prog 155 #[x.v] w (Cl kInt w x.l) := by
  have q : ∀ (w : World) (a : Option Addr) (n c n' c' : Nat), (binOp .eql 22 (.slice a n c) (.slice none n' c')).run Tryz.prog w = .ok (.bool a.isNone) w := fun w a n c n' c' => Lib.run_eql_slice_nil w _ _ a n c n' c' Tryz.underlying22
  obtain ⟨l, A, c⟩ := x
  rcases A with _ | ad
  · obtain ⟨h0, h1⟩ := hx.none_ rfl
    have hl : l = [] := List.eq_nil_of_length_eq_zero h0
    subst hl
    have h1 : c = 0 := h1
    subst h1
    show Calls _ _ #[.slice none 0 0] w (Cl kInt w [])
    clear h0 hx hn
    obtain ⟨Q, hQ⟩ : ∃ Q, Q = Cl kInt w [] := ⟨_, rfl⟩
    have HE := Lib.hid (show Q (.returned (.slice none 0 0)) w from hQ ▸ ⟨Ls.nil, rfl, rfl, Gr.nil _ _, Below.refl _ _⟩)
    rw [← hQ]
    clear hQ
    go_enter Tryz.func155, Tryz.ntmps155
    go_wp2
    exact HE.out
  · have HEM := Lib.hid (gr_new0 kInt w)
    have HLZ := Lib.hid (hx.bf (F := No) (Bf.alloc w (.cells #[] 3)))
    obtain ⟨m, hm⟩ : ∃ m, m = l.length := ⟨_, rfl⟩
    have HM := Lib.hid hm
    have HV := Lib.hid (show Value.slice (some ad) m c = Ls.v ⟨l, some ad, c⟩ by rw [hm]; rfl)
    have HN := Lib.hid (show l.length ≤ 1000000 from hn)
    show Calls _ _ #[.slice (some ad) l.length c] w (Cl kInt w l)
    rw [← hm]
    clear hm hx hn
    go_enter Tryz.func155, Tryz.ntmps155
    go_wp2_with (at_builtin; refine wpList_push_ls ki_int rfl _ _ rfl w.heap.size ⟨[], some ⟨w.heap.size, 0, none⟩, 0⟩ ⟨l, some ad, c⟩ HEM.out rfl HLZ.out HV.out (by have h := HN.out; show 0 + l.length ≤ _; omega) (by simp) ?_; intro z w1 hz hgz hbz _; have HZ := Lib.hid hz; have HG := Lib.hid hgz; have HB := Lib.hid hbz; clear hz hgz hbz)
    go_ret
    exact ⟨z, rfl, HZ.out, HG.out, ((Below.refl _ w).alloc (Nat.le_refl _) _).trans HB.out⟩

set_option maxHeartbeats 1000000 in
theorem clone_u8 {w : World} (x : Ls UInt8) (hx : Lz kU8 No w x) (hn : x.l.length ≤ 1000000) : Calls Tryz.prog 153 #[x.v] w (Cl kU8 w x.l) := by
  have q : ∀ (w : World) (a : Option Addr) (n c n' c' : Nat), (binOp .eql 28 (.slice a n c) (.slice none n' c')).run Tryz.prog w = .ok (.bool a.isNone) w := fun w a n c n' c' => Lib.run_eql_slice_nil w _ _ a n c n' c' Tryz.underlying28
  obtain ⟨l, A, c⟩ := x
  rcases A with _ | ad
  · obtain ⟨h0, h1⟩ := hx.none_ rfl
    have hl : l = [] := List.eq_nil_of_length_eq_zero h0
    subst hl
    have h1 : c = 0 := h1
    subst h1
    show Calls _ _ #[.slice none 0 0] w (Cl kU8 w [])
    clear h0 hx hn
    obtain ⟨Q, hQ⟩ : ∃ Q, Q = Cl kU8 w [] := ⟨_, rfl⟩
    have HE := Lib.hid (show Q (.returned (.slice none 0 0)) w from hQ ▸ ⟨Ls.nil, rfl, rfl, Gr.nil _ _, Below.refl _ _⟩)
    rw [← hQ]
    clear hQ
    go_enter Tryz.func153, Tryz.ntmps153
    go_wp2
    exact HE.out
  · have HEM := Lib.hid (gr_new0 kU8 w)
    have HLZ := Lib.hid (hx.bf (F := No) (Bf.alloc w (.cells #[] 5)))
    obtain ⟨m, hm⟩ : ∃ m, m = l.length := ⟨_, rfl⟩
    have HM := Lib.hid hm
    have HV := Lib.hid (show Value.slice (some ad) m c = Ls.v ⟨l, some ad, c⟩ by rw [hm]; rfl)
    have HN := Lib.hid (show l.length ≤ 1000000 from hn)
    show Calls _ _ #[.slice (some ad) l.length c] w (Cl kU8 w l)
    rw [← hm]
    clear hm hx hn
    go_enter Tryz.func153, Tryz.ntmps153
    go_wp2_with (at_builtin; refine wpList_push_ls ki_u8 rfl _ _ rfl w.heap.size ⟨[], some ⟨w.heap.size, 0, none⟩, 0⟩ ⟨l, some ad, c⟩ HEM.out rfl HLZ.out HV.out (by have h := HN.out; show 0 + l.length ≤ _; omega) (by simp) ?_; intro z w1 hz hgz hbz _; have HZ := Lib.hid hz; have HG := Lib.hid hgz; have HB := Lib.hid hbz; clear hz hgz hbz)
    go_ret
    exact ⟨z, rfl, HZ.out, HG.out, ((Below.refl _ w).alloc (Nat.le_refl _) _).trans HB.out⟩
end Ot
end Go.Proofs.YtkicjjcangkneaaGreatDoor

/-
  op.clone: the same operation, all of its lists in memory of its own. For operations of few items.
-/
namespace Go.Proofs.YtkicjjcangkneaaGreatDoor
open Go.RowKit
set_option linter.unusedSimpArgs false
set_option linter.unusedVariables false
attribute [local go_sem ↓] Go.wp_at_zero Go.wp_at_succ
set_option maxRecDepth 100000
namespace Ot
/-- All of an operation's lists lie in memory of one's own. -/
structure Own (B : Nat) (w : World) (o : LOp) : Prop where
  past : Gr kNm B w o.past
  path : Gr kNd B w o.path
  pathB : ∀ n ∈ o.path.l, Gr kBx B w n.boxes
  body : Gr kU8 B w o.body
  refs : Gr kU64 B w o.refs
  guards : Gr kInt B w o.guards
  boxes : Gr kBx B w o.boxes
  hist : Gr kSd B w o.hist
  histB : ∀ s ∈ o.hist.l, Gr kU8 B w s.body
/-- The function's variables: the operation, as far as it is cloned, and the answer. -/
structure Cn (V : Nat) (w W : World) (o c : LOp) : Prop where
  vr : Vr W V c
  res : Vr W (V + 1) LOp.zero
  src : Lies (fun k => V ≤ k) W o
  bel : Below V w W
  size : V + 2 ≤ W.heap.size
theorem Cn.below {V : Nat} {w W W' : World} {o c : LOp} (h : Cn V w W o c) (hb : Below (V + 2) W W') : Cn V w W' o c :=
  ⟨h.vr.below hb (by omega), h.res.below hb (by omega), h.src.bf (Bf.belowN hb fun k _ hk => by show V ≤ k; omega), h.bel.trans (hb.mono (by omega)), Nat.le_trans h.size hb.size⟩
theorem Cn.put {V : Nat} {w W : World} {o c : LOp} (h : Cn V w W o c) (i : Nat) (u : Value) (c' : LOp) (e : c.cells.setIfInBounds i u = c'.cells) : Cn V w (W.setCell ⟨V, i, none⟩ u) o c' := by
  have hb : Bf (fun k => k = V) W (W.setCell ⟨V, i, none⟩ u) := Bf.set W rfl
  exact ⟨Vr.set h.vr i u c' e, h.res.bf hb (by show ¬ V + 1 = V; omega), h.src.bf (hb.weak fun k _ hk => by have hk : k = V := hk; show V ≤ k; omega), Below.trans h.bel (hb.dn (by have := h.size; omega) fun k hk => by have hk : k = V := hk; omega), Nat.le_trans h.size hb.size⟩
theorem Gr.put {α : Type} {K : Kd α} {B V : Nat} {W : World} {x : Ls α} (h : Gr K B W x) (hB : V < B) (i : Nat) (u : Value) : Gr K B (W.setCell ⟨V, i, none⟩ u) x :=
  h.bf (F := fun k => k = V) (Bf.set W rfl) fun k hk => by have hk : k = V := hk; omega
/-- One cell of one item is another one. -/
theorem Kd.cells_set {α : Type} (K : Kd α) {y y' : α} {u : Value} {j : Nat} (hj : j < K.k) (he : K.enc y' = (K.enc y).set j u) : ∀ (l : List α) (i : Nat), l[i]? = some y → K.cells (l.set i y') = (K.cells l).set (i * K.k + j) u
  | [], i, h => by simp at h
  | x :: l, 0, h => by
    simp at h
    subst h
    rw [List.set_cons_zero, K.cells_cons, K.cells_cons, Nat.zero_mul, Nat.zero_add, List.set_append_left _ _ (by rw [K.len]; exact hj), he]
  | x :: l, i + 1, h => by
    have ih := Kd.cells_set K hj he l i (by simpa using h)
    rw [List.set_cons_succ, K.cells_cons, K.cells_cons, ih, List.set_append_right _ _ (by rw [K.len, Nat.succ_mul]; omega), K.len, show (i + 1) * K.k + j - K.k = i * K.k + j by rw [Nat.succ_mul]; omega]
theorem take_set1 {α : Type} (l : List α) (n i : Nat) (v : α) (h : i < n) : (l.set i v).take n = (l.take n).set i v := by
  apply List.ext_getElem?
  intro j
  rw [List.getElem?_take, List.getElem?_set, List.getElem?_set, List.getElem?_take, List.length_take]
  by_cases c1 : j < n
  · rw [if_pos c1, if_pos c1]
    by_cases c2 : i = j
    · subst c2
      rw [if_pos rfl, if_pos rfl]
      by_cases c3 : i < l.length
      · rw [if_pos c3, if_pos (by omega)]
      · rw [if_neg c3, if_neg (by omega)]
    · rw [if_neg c2, if_neg c2]
  · rw [if_neg c1, if_neg c1, if_neg (by omega : ¬ i = j)]
theorem Gr.setAt {α : Type} {K : Kd α} {B : Nat} {W : World} {l : List α} {A : Option Addr} {c : Nat} (h : Gr K B W ⟨l, A, c⟩) {i j : Nat} {y y' : α} {u : Value} (hi : l[i]? = some y) (hj : j < K.k) (he : K.enc y' = (K.enc y).set j u) :
    ∃ g, A = some ⟨g, 0, none⟩ ∧ B ≤ g ∧ g < W.heap.size ∧ (∃ cs, Blk W g K.ty cs ∧ i * K.k + j < cs.size) ∧ (∀ q v, (K.enc y)[q]? = some v → W.cell? ⟨g, i * K.k + q, none⟩ = some v) ∧ Gr K B (W.setCell ⟨g, i * K.k + j, none⟩ u) ⟨l.set i y', A, c⟩ := by
  have hlt := h.lt
  have hil : i < l.length := (List.getElem?_eq_some_iff.1 hi).1
  have hcl := fun g => h.cells (g := g)
  obtain ⟨h1, h2⟩ := h
  rcases h2 with ⟨_, h0⟩ | ⟨g, cap, cur, e, hg, hh, hn, hm, hsz, htk⟩
  · have h0 : l.length = 0 := h0; omega
  · have hn : l.length ≤ cap := hn
    have e' : Value.slice A l.length c = .slice (some ⟨g, 0, none⟩) l.length cap := e
    injection e' with e1 _ e3
    subst e1 e3
    have hgs := (hlt g rfl).2
    have htk : cur.toList.take (l.length * K.k) = K.cells l := htk
    have hsz : cur.size = c * K.k := hsz
    have hp : i * K.k + j < l.length * K.k := by
      have h3 : (i + 1) * K.k ≤ l.length * K.k := Nat.mul_le_mul_right _ hil
      rw [Nat.succ_mul] at h3
      omega
    have hp2 : l.length * K.k ≤ c * K.k := Nat.mul_le_mul_right _ hn
    refine ⟨g, rfl, hg, hgs, ⟨cur, hh, by omega⟩, fun q v hq => hcl g rfl _ v (K.cells_at l i y q v hi hq), ?_⟩
    refine ⟨by rw [K.cells_len, List.length_set], .inr ⟨g, c, cur.setIfInBounds (i * K.k + j) u, ?_, hg, heap_setCell_same W g _ cur _ _ hh, by show (l.set i y').length ≤ c; rw [List.length_set]; exact hn, hm, ?_, ?_⟩⟩
    · show Value.slice _ (l.set i y').length _ = _
      rw [List.length_set]
    · rw [Array.size_setIfInBounds]; exact hsz
    · show (cur.setIfInBounds (i * K.k + j) u).toList.take ((l.set i y').length * K.k) = K.cells (l.set i y')
      rw [List.length_set, K.cells_set hj he l i hi, ← htk, ← take_set1 _ _ _ _ hp, Array.toList_setIfInBounds]
/-- A list of one's own of another kind stays. -/
theorem Gr.other {α : Type} {K : Kd α} {B g t : Nat} {W : World} {x : Ls α} {cs : Array Value} (h : Gr K B W x) (hb : Blk W g t cs) (ht : K.ty ≠ t) (i : Nat) (u : Value) : Gr K B (W.setCell ⟨g, i, none⟩ u) x :=
  World.ownsRow.kept h (only_set (only_refl W (some g)) i u) (by
    cases e : x.v.ownBlock with
    | none => exact .inl rfl
    | some b =>
      refine .inr fun e2 => ht ?_
      injection e2 with e2
      subst e2
      rcases h.2 with ⟨e3, _⟩ | ⟨g2, cap, cur, e3, _, hh, _⟩
      · rw [e3] at e; cases e
      · rw [e3] at e
        have e : some g2 = some b := e
        injection e with e
        subst e
        have h4 : some (Obj.cells cur K.ty) = some (Obj.cells cs t) := by
          have h5 : W.heap[g2]? = some (Obj.cells cs t (0, 0)) := hb
          have h6 := hh
          rw [h5] at h6
          injection h6 with h6
          injection h6 with h7 h8
          rw [← h7, h8]
        injection h4 with h4
        injection h4)
theorem Cn.start (w : World) (o : LOp) (hx : Lies No w o) : Cn w.heap.size w ((w.alloc (.cells o.cells 35)).alloc (.cells LOp.zero.cells 35)) o o := by
  have e : (w.alloc (.cells o.cells 35)).heap.size = w.heap.size + 1 := by simp
  have hb : Below w.heap.size w ((w.alloc (.cells o.cells 35)).alloc (.cells LOp.zero.cells 35)) := ((Below.refl _ w).alloc (Nat.le_refl _) _).alloc (by omega) _
  refine ⟨blk_alloc (blk_new w _ _) _, ?_, (hx.weak (G := fun k => w.heap.size ≤ k) fun k hk hf => by have hf : w.heap.size ≤ k := hf; omega).bf (Bf.below hb), hb, by simp⟩
  have := Vr.new (w.alloc (.cells o.cells 35)) LOp.zero
  rw [e] at this
  exact this

/-- A list whose items hold lists of their own, of which the first k are cloned. -/
structure Lp {α β γ : Type} (K : Kd α) (KS : Kd β) (sub : α → Ls β) (er : α → γ) (V : Nat) (w : World) (o : LOp) (orig : List α) (mk : Ls α → LOp) (A : Option Addr) (c n : Nat) (W : World) (k : Nat) (cl : List α) : Prop where
  len : cl.length = n
  cn : Cn V w W o (mk ⟨cl, A, c⟩)
  gr : Gr K (V + 2) W ⟨cl, A, c⟩
  own : ∀ j, j < k → ∃ x y, cl[j]? = some x ∧ orig[j]? = some y ∧ er x = er y ∧ Gr KS (V + 2) W (sub x)
  rest : ∀ j, k ≤ j → cl[j]? = orig[j]?
section
variable {α β γ : Type} {K : Kd α} {KS : Kd β} {sub : α → Ls β} {er : α → γ} {V : Nat} {w : World} {o : LOp} {orig : List α} {mk : Ls α → LOp} {A : Option Addr} {c n : Nat} {W W' : World} {k : Nat} {cl : List α}
theorem Lp.below (h : Lp K KS sub er V w o orig mk A c n W k cl) (hb : Below W.heap.size W W') : Lp K KS sub er V w o orig mk A c n W' k cl :=
  ⟨h.len, h.cn.below (hb.mono h.cn.size), h.gr.below hb, fun j hj => by
    obtain ⟨x, y, h1, h2, h3, h4⟩ := h.own j hj
    exact ⟨x, y, h1, h2, h3, h4.below hb⟩, h.rest⟩
theorem Lp.put (h : Lp K KS sub er V w o orig mk A c n W k cl) {y y' : α} {j : Nat} {u : Value} (hy : orig[k]? = some y) (hj : j < K.k) (he : K.enc y' = (K.enc y).set j u) (her : er y' = er y) (hz : Gr KS (V + 2) W (sub y')) (hne : KS.ty ≠ K.ty)
    (hmk : ∀ l l' : List α, l.length = l'.length → (mk ⟨l, A, c⟩).cells = (mk ⟨l', A, c⟩).cells) {g : Nat} (hA : A = some ⟨g, 0, none⟩) : Lp K KS sub er V w o orig mk A c n (W.setCell ⟨g, k * K.k + j, none⟩ u) (k + 1) (cl.set k y') := by
  have hk : cl[k]? = some y := (h.rest k (Nat.le_refl _)).trans hy
  have hkl : k < cl.length := (List.getElem?_eq_some_iff.1 hk).1
  obtain ⟨g', hA', hB, hgs, ⟨cs, hcs, _⟩, _, hgr⟩ := h.gr.setAt hk hj he
  have hgg : g' = g := by rw [hA] at hA'; injection hA' with e; injection e with e; exact e.symm
  subst hgg
  have hbf : Bf (fun q => q = g') W (W.setCell ⟨g', k * K.k + j, none⟩ u) := Bf.set W rfl
  have hc := h.cn
  refine ⟨by rw [List.length_set]; exact h.len, ⟨?_, hc.res.bf hbf (by show ¬ V + 1 = g'; omega), hc.src.bf (hbf.weak fun q _ hq => by have hq : q = g' := hq; show V ≤ q; omega), Below.trans hc.bel (hbf.dn (by have := hc.size; omega) fun q hq => by have hq : q = g' := hq; omega), Nat.le_trans hc.size hbf.size⟩, hgr, fun i hi => ?_, fun i hi => ?_⟩
  · have h1 := hc.vr.bf hbf (by show ¬ V = g'; omega)
    unfold Vr at h1 ⊢
    rw [hmk _ cl (by rw [List.length_set])]
    exact h1
  · by_cases e : i = k
    · subst e
      exact ⟨y', y, by rw [List.getElem?_set_self hkl], hy, her, hz.other hcs hne _ _⟩
    · obtain ⟨x, y0, h1, h2, h3, h4⟩ := h.own i (by omega)
      exact ⟨x, y0, by rw [List.getElem?_set_ne (fun e2 => e e2.symm)]; exact h1, h2, h3, h4.other hcs hne _ _⟩
  · rw [List.getElem?_set_ne (by omega)]
    exact h.rest i (by omega)
end
theorem lp_own {α β γ : Type} {K : Kd α} {KS : Kd β} {sub : α → Ls β} {er : α → γ} {V : Nat} {w : World} {o : LOp} {orig : List α} {mk : Ls α → LOp} {A : Option Addr} {c n : Nat} {W : World} {cl : List α} (h : Lp K KS sub er V w o orig mk A c n W n cl) : ∀ x ∈ cl, Gr KS (V + 2) W (sub x) := fun x hx => by
  obtain ⟨j, hj⟩ := List.mem_iff_getElem?.1 hx
  have hjl : j < cl.length := (List.getElem?_eq_some_iff.1 hj).1
  obtain ⟨x', y, h1, _, _, h4⟩ := h.own j (by rw [← h.len]; exact hjl)
  rw [hj] at h1
  injection h1 with h1
  rw [h1]
  exact h4
theorem lp_er {α β γ : Type} {K : Kd α} {KS : Kd β} {sub : α → Ls β} {er : α → γ} {V : Nat} {w : World} {o : LOp} {orig : List α} {mk : Ls α → LOp} {A : Option Addr} {c n : Nat} {W : World} {cl : List α} (h : Lp K KS sub er V w o orig mk A c n W n cl) (hn : n = orig.length) : cl.map er = orig.map er := by
  apply List.ext_getElem?
  intro j
  rw [List.getElem?_map, List.getElem?_map]
  by_cases hj : j < n
  · obtain ⟨x, y, h1, h2, h3, _⟩ := h.own j hj
    rw [h1, h2]
    exact congrArg some h3
  · rw [List.getElem?_eq_none (by rw [h.len]; omega), List.getElem?_eq_none (by omega)]

set_option maxHeartbeats 8000000 in
theorem clone_any {w : World} (o : LOp) (hx : Lies No w o) (ht : Tiny o.er) :
    Calls Tryz.prog 65 #[o.v] w fun e w' => ∃ z : LOp, e = .returned z.v ∧ z.er = o.er ∧ Own w.heap.size w' z ∧ Below w.heap.size w w' := by
  obtain ⟨cs, hcs⟩ : ∃ cs, cs = o.cells := ⟨_, rfl⟩
  have hC := Cn.start w o hx
  obtain ⟨V, hV⟩ : ∃ V, V = w.heap.size := ⟨_, rfl⟩
  have HV := Lib.hid hV
  have HC := Lib.hid (show Cn V w ((w.alloc (.cells cs 35)).alloc (.cells LOp.zero.cells 35)) o o from by rw [hV, hcs]; exact hC)
  have HT := Lib.hid ht
  show Calls _ _ #[.agg o.cells] w _
  rw [← hcs]
  clear hx ht hcs hC hV
  go_enter Tryz.func65, Tryz.ntmps65
  go_upto_region 1 with fail
  rw [zc]
  obtain ⟨w0, hw⟩ : ∃ W, W = ((w.alloc (.cells cs 35)).alloc (.cells LOp.zero.cells 35)) := ⟨_, rfl⟩
  rw [← hw] at HC ⊢
  rw [← HV.out]
  clear hw
  have k1 := (show World.cell? w0 ⟨V, 4, none⟩ = some (.slice o.past.A o.past.l.length o.past.c) from (HC.out.vr.cell 4).trans (LOp.c4 _))
  have HL := Lib.hid (clone_nm o.past HC.out.src.no.past (Nat.le_trans (show o.past.l.length ≤ 300 from Nat.le_trans HT.out.past (by decide)) (by decide)))
  go_wp2_with fail
  refine (HL.out).mono ?_
  rintro e u4 ⟨z4, rfl, hzl, hzg, hb⟩
  have HC1 := Lib.hid (HC.out.below (hb.mono HC.out.size))
  have HZLz4 := Lib.hid hzl
  have HG1 := Lib.hid (hzg.base (B' := V + 2) HC.out.size)
  have kk := (HC1.out.vr.cell 4).trans (LOp.c4 _)
  have kf := HC1.out.vr.frozen 4
  clear k1 hzl hzg hb HL HC 
  go_upto_region 2 with fail
  clear kk kf
  have HC_4 := Lib.hid (show Cn V w (u4.setCell ⟨V, 4, none⟩ (.slice z4.A z4.l.length z4.c)) o { o with past := z4 } from HC1.out.put 4 _ _ rfl)
  have G_z4_4 := Lib.hid (show Gr kNm (V + 2) (u4.setCell ⟨V, 4, none⟩ (.slice z4.A z4.l.length z4.c)) z4 from HG1.out.put (by omega) _ _)
  clear HC1 HG1 
  obtain ⟨w4, hw⟩ : ∃ W, W = (u4.setCell ⟨V, 4, none⟩ (.slice z4.A z4.l.length z4.c)) := ⟨_, rfl⟩
  rw [← hw] at HC_4 G_z4_4 ⊢
  clear hw
  have k1 := (show World.cell? w4 ⟨V, 9, none⟩ = some (.slice o.path.A o.path.l.length o.path.c) from (HC_4.out.vr.cell 9).trans (LOp.c9 _))
  have HL := Lib.hid (clone_nd o.path HC_4.out.src.no.path (Nat.le_trans (show o.path.l.length ≤ 300 from (by have h := HT.out.path; unfold LOp.er at h; rw [List.length_map] at h; omega)) (by decide)))
  go_wp2_with fail
  refine (HL.out).mono ?_
  rintro e u9 ⟨z9, rfl, hzl, hzg, hb⟩
  have HC1 := Lib.hid (HC_4.out.below (hb.mono HC_4.out.size))
  have HZLz9 := Lib.hid hzl
  have HG1 := Lib.hid (hzg.base (B' := V + 2) HC_4.out.size)
  have O0 := Lib.hid (G_z4_4.out.below hb)
  have kk := (HC1.out.vr.cell 9).trans (LOp.c9 _)
  have kf := HC1.out.vr.frozen 9
  clear k1 hzl hzg hb HL HC_4 G_z4_4
  go_upto_region 3 with fail
  clear kk kf
  have HC_9 := Lib.hid (show Cn V w (u9.setCell ⟨V, 9, none⟩ (.slice z9.A z9.l.length z9.c)) o { o with past := z4, path := z9 } from HC1.out.put 9 _ _ rfl)
  have G_z4_9 := Lib.hid (show Gr kNm (V + 2) (u9.setCell ⟨V, 9, none⟩ (.slice z9.A z9.l.length z9.c)) z4 from O0.out.put (by omega) _ _)
  have G_z9_9 := Lib.hid (show Gr kNd (V + 2) (u9.setCell ⟨V, 9, none⟩ (.slice z9.A z9.l.length z9.c)) z9 from HG1.out.put (by omega) _ _)
  clear HC1 HG1 O0
  obtain ⟨w9, hw⟩ : ∃ W, W = (u9.setCell ⟨V, 9, none⟩ (.slice z9.A z9.l.length z9.c)) := ⟨_, rfl⟩
  rw [← hw] at HC_9 G_z4_9 G_z9_9 ⊢
  clear hw
  obtain ⟨n9, hn⟩ : ∃ n, n = o.path.l.length := ⟨_, rfl⟩
  obtain ⟨z9l, z9A, z9c⟩ := z9
  have HZ := Lib.hid (show z9l = o.path.l from HZLz9.out)
  have HN := Lib.hid hn
  have hv : (Value.slice z9A z9l.length z9c) = .slice z9A n9 z9c := by rw [HZ.out, ← HN.out]
  have k1 : World.cell? w9 ⟨V, 9, none⟩ = some (.slice z9A n9 z9c) := by rw [← hv]; exact (HC_9.out.vr.cell 9).trans (LOp.c9 _)
  have hnn : n9 ≤ 300 := by rw [hn]; have h : o.path.l.length ≤ 300 := (by have h := HT.out.path; unfold LOp.er at h; rw [List.length_map] at h; omega); exact h
  clear hn hv HZLz9
  go_wp2_with fail
  have HLP := Lib.hid (show Lp kNd kBx LNd.boxes LNd.er V w o o.path.l (fun p => { o with past := z4, path := p }) z9A z9c n9 w9 0 z9l from ⟨by rw [HZ.out, ← HN.out], HC_9.out, G_z9_9.out, fun j hj => absurd hj (Nat.not_lt_zero _), fun j _ => by rw [HZ.out]⟩)
  have hkz : (Value.slice z9A n9 z9c) = .slice z9A n9 z9c := rfl
  clear hkz
  go_loopw [18] (fun i wr => ∃ (k : Nat) (cl : List LNd), k ≤ n9 ∧ i = .int .i64 (k : Int) ∧ Lp kNd kBx LNd.boxes LNd.er V w o o.path.l (fun p => { o with past := z4, path := p }) z9A z9c n9 wr k cl ∧ Gr kNm (V + 2) wr z4) (fun i _ => n9 - (intOf i).toNat)
  case atStart => exact ⟨0, z9l, Nat.zero_le _, rfl, HLP.out, G_z4_9.out⟩
  case round =>
    obtain ⟨k, cl, hkn, rfl, hlp, g0_⟩ := hrel
    clear HLP HC_9 G_z9_9 G_z4_9 k1
    by_cases hlt : k < n9
    · obtain ⟨y, hy⟩ : ∃ y, o.path.l[k]? = some y := ⟨_, List.getElem?_eq_getElem (by rw [← HN.out]; exact hlt)⟩
      obtain ⟨g, hA, hgB, hgs, ⟨gcs, hgcs, hgsz⟩, hgc, -⟩ := hlp.gr.setAt (y' := y) (j := 1) (u := (LNd.boxes y).v) ((hlp.rest k (Nat.le_refl _)).trans hy) (by decide) rfl
      subst hA
      obtain ⟨wo, rfl⟩ : ∃ wo, wo = wr := ⟨_, rfl⟩
      have n0 : World.cell? wo ⟨g, k * 2, none⟩ = some (.int .u64 (y.pub : Int)) := hgc 0 _ rfl
      have n1 : World.cell? wo ⟨g, k * 2 + 1, none⟩ = some (.slice y.boxes.A y.boxes.l.length y.boxes.c) := hgc 1 _ rfl
      have kv := (show World.cell? wo ⟨V, 9, none⟩ = some (.slice (some ⟨g, 0, none⟩) n9 z9c) from by have h := (hlp.cn.vr.cell 9).trans (LOp.c9 _); rw [h]; show some (Value.slice _ cl.length _) = _; rw [hlp.len])
      have HLP := Lib.hid hlp
      have G0 := Lib.hid g0_
      have HGC := Lib.hid (And.intro hgB (And.intro hgs (And.intro hgcs hgsz)))
      have HY := Lib.hid hy
      have q0_ : (0 : Int) ≤ (k : Int) := by omega
      have q1_ : (k : Int) < (n9 : Int) := by omega
      clear hlp g0_ hgB hgs hgcs hgsz hgc hy hkn
      go_wp2_with fail
      obtain ⟨nb, hnb⟩ : ∃ nb, nb = wo.heap.size := ⟨_, rfl⟩
      have hblk := blk_new wo 66 #[.int .u64 (y.pub : Int), .slice y.boxes.A y.boxes.l.length y.boxes.c]
      have hba := (Below.refl wo.heap.size wo).alloc (Nat.le_refl _) (.cells #[.int .u64 (y.pub : Int), .slice y.boxes.A y.boxes.l.length y.boxes.c] 66)
      obtain ⟨w5, hw5⟩ : ∃ W, W = wo.alloc (.cells #[.int .u64 (y.pub : Int), .slice y.boxes.A y.boxes.l.length y.boxes.c] 66) := ⟨_, rfl⟩
      rw [← hw5] at hblk hba ⊢
      rw [← hnb] at hblk ⊢
      have HNB := Lib.hid (show Blk w5.drew nb 66 #[.int .u64 (y.pub : Int), .slice y.boxes.A y.boxes.l.length y.boxes.c] from hblk)
      have HBA := Lib.hid (show Below wo.heap.size wo w5.drew from hba.trans (below_drewN w5 1 _))
      have HL5 := Lib.hid (HLP.out.below HBA.out)
      have F0 := Lib.hid (G0.out.below HBA.out)
      have HG5 := Lib.hid (show V + 2 ≤ g ∧ g < nb ∧ Blk w5.drew g 66 gcs ∧ k * 2 + 1 < gcs.size from ⟨HGC.out.1, hnb ▸ HGC.out.2.1, HGC.out.2.2.1.below HBA.out HGC.out.2.1, HGC.out.2.2.2⟩)
      have kv5 : World.cell? w5.drew ⟨V, 9, none⟩ = some (.slice (some ⟨g, 0, none⟩) n9 z9c) := by have h := (HL5.out.cn.vr.cell 9).trans (LOp.c9 _); rw [h]; show some (Value.slice _ cl.length _) = _; rw [HL5.out.len]
      have kb5 : World.cell? w5.drew ⟨nb, 1, none⟩ = some (.slice y.boxes.A y.boxes.l.length y.boxes.c) := HNB.out.cell 1
      have HSZ := Lib.hid (show nb < w5.drew.heap.size from HNB.out.lt)
      clear hnb hblk hba hw5 HBA HLP HGC n0 n1 kv G0
      refine wp_region_held_drew (S := (fun w' : World => w'.cell? ⟨V, 9, none⟩ = some (.slice (some ⟨g, 0, none⟩) n9 z9c) ∧ w'.cell? ⟨nb, 1, none⟩ = some (.slice y.boxes.A y.boxes.l.length y.boxes.c))) (by kernel_rfl) ⟨kv5, kb5⟩ (fun hHeld => ?_)
      try simp only [lays]
      refine wpAnyH_take (i := 0) (v := ?_) rfl (by kernel_rfl) (by kernel_rfl) (by kernel_rfl) (fun _ _ _ h => h) (Or.inl ⟨by rfl, ?_⟩) (by assumption) ?_
      rotate_left
      · (intro w hSw; (try dsimp only at hSw); obtain ⟨s0, s1⟩ := hSw; go_simp; try (with_reducible rfl))
      try simp only [lays]
      refine wpAnyH_take (i := 1) (v := ?_) rfl (by kernel_rfl) (by kernel_rfl) (by kernel_rfl) (fun _ _ _ h => h) (Or.inl ⟨by rfl, ?_⟩) (by assumption) ?_
      rotate_left
      · (intro w hSw; (try dsimp only at hSw); obtain ⟨s0, s1⟩ := hSw; go_simp; try (with_reducible rfl))
      try simp only [lays]
      refine wpAnyH_take (i := 2) (v := ?_) rfl (by kernel_rfl) (by kernel_rfl) (by kernel_rfl) (fun _ _ _ h => h) (Or.inl ⟨by rfl, ?_⟩) (by assumption) ?_
      rotate_left
      · (intro w hSw; (try dsimp only at hSw); obtain ⟨s0, s1⟩ := hSw; go_simp; try (with_reducible rfl))
      try simp only [lays]
      refine wpAnyH_take (i := 3) (v := ?_) rfl (by kernel_rfl) (by kernel_rfl) (by kernel_rfl) (fun _ _ _ h => h) (Or.inl ⟨by rfl, ?_⟩) (by assumption) ?_
      rotate_left
      · (intro w hSw; (try dsimp only at hSw); obtain ⟨s0, s1⟩ := hSw; go_simp; try (with_reducible rfl))
      try simp only [lays]
      refine wpAnyH_take (i := 4) (v := ?_) rfl (by kernel_rfl) (by kernel_rfl) (by kernel_rfl) (fun _ _ _ h => h) (Or.inl ⟨by rfl, ?_⟩) (by assumption) ?_
      rotate_left
      · (intro w hSw; (try dsimp only at hSw); obtain ⟨s0, s1⟩ := hSw; go_simp; try (with_reducible rfl))
      try simp only [lays]
      refine wpAnyH_ready (rs := [5]) (by kernel_rfl) (by simp) ?_
      refine AllReadyH.cons rfl (fun K hK => ?_) AllReadyH.nil
      clear kv5 kb5
      go_simp
      have HC5 := Lib.hid (clone_bx y.boxes (HL5.out.cn.src.pathB y (List.mem_of_getElem? HY.out)).no (Nat.le_trans (show y.boxes.l.length ≤ 20 from HT.out.pathB y.er (List.mem_map_of_mem (List.mem_of_getElem? HY.out))) (by decide)))
      refine (HC5.out).mono ?_
      rintro e w6 ⟨z, rfl, hzl, hzg, hb⟩
      have HL6 := Lib.hid (HL5.out.below hb)
      have E0 := Lib.hid (F0.out.below hb)
      have HG6 := Lib.hid (show V + 2 ≤ g ∧ g < nb ∧ Blk w6 g 66 gcs ∧ k * 2 + 1 < gcs.size from ⟨HG5.out.1, HG5.out.2.1, HG5.out.2.2.1.below hb (HG5.out.2.2.1.lt), HG5.out.2.2.2⟩)
      have HNB6 := Lib.hid (HNB.out.below hb HNB.out.lt)
      have HZZ := Lib.hid (hzg.base (B' := V + 2) (HL5.out.cn.size))
      have HZL := Lib.hid hzl
      have kv6 : World.cell? w6 ⟨V, 9, none⟩ = some (.slice (some ⟨g, 0, none⟩) n9 z9c) := by have h := (HL6.out.cn.vr.cell 9).trans (LOp.c9 _); rw [h]; show some (Value.slice _ cl.length _) = _; rw [HL6.out.len]
      have kb6 : World.cell? w6 ⟨nb, 1, none⟩ = some (.slice y.boxes.A y.boxes.l.length y.boxes.c) := HNB6.out.cell 1
      clear hb hzl hzg HC5 HL5 HG5 HNB HSZ F0
      try go_simp
      refine hK.out _ _ ⟨kv6, kb6⟩ (fun hHeld1 => ?_)
      clear hK K
      try simp only [lays]
      refine wpAnyH_take (i := 6) (v := ?_) rfl (by kernel_rfl) (by kernel_rfl) (by kernel_rfl) (fun _ _ _ h => h) (Or.inl ⟨by rfl, ?_⟩) (by assumption) ?_
      rotate_left
      · (intro w hSw; (try dsimp only at hSw); obtain ⟨s0, s1⟩ := hSw; go_simp; try (with_reducible rfl))
      try simp only [lays]
      refine wpAnyH_take (i := 7) (v := ?_) rfl (by kernel_rfl) (by kernel_rfl) (by kernel_rfl) (fun _ _ _ h => h) (Or.inl ⟨by rfl, ?_⟩) (by assumption) ?_
      rotate_left
      · (intro w hSw; (try dsimp only at hSw); obtain ⟨s0, s1⟩ := hSw; go_simp; try (with_reducible rfl))
      try simp only [lays]
      obtain ⟨gu, hgu⟩ : ∃ u, gcs[k * 2 + 1]? = some u := ⟨_, Array.getElem?_eq_getElem HG6.out.2.2.2⟩
      have kk : World.cell? w6 ⟨g, k * 2 + 1, none⟩ = some gu := (HG6.out.2.2.1.cell _).trans hgu
      have kf := HG6.out.2.2.1.frozen (k * 2 + 1)
      have HL7 := Lib.hid (HL6.out.put (y' := { y with boxes := z }) (j := 1) (u := .slice z.A z.l.length z.c) HY.out (by decide) rfl (by show Nd.mk y.pub z.l = Nd.mk y.pub y.boxes.l; rw [HZL.out]) HZZ.out (by decide) (fun l l' h => by simp only [LOp.cells, Ls.v, h]) rfl)
      have hbf : Bf (fun q => q = g) w6 (w6.setCell ⟨g, k * 2 + 1, none⟩ (.slice z.A z.l.length z.c)) := Bf.set w6 rfl
      have D0 := Lib.hid (E0.out.other HG6.out.2.2.1 (by decide) (k * 2 + 1) (.slice z.A z.l.length z.c))
      have HNB7 := Lib.hid (hbf.blk HNB6.out (by have := HG6.out.2.1; show ¬ nb = g; omega))
      have kv7 : World.cell? (w6.setCell ⟨g, k * 2 + 1, none⟩ (.slice z.A z.l.length z.c)) ⟨V, 9, none⟩ = some (.slice (some ⟨g, 0, none⟩) n9 z9c) := (show World.cell? (w6.setCell ⟨g, k * 2 + 1, none⟩ (.slice z.A z.l.length z.c)) ⟨V, 9, none⟩ = some (Value.slice (some ⟨g, 0, none⟩) (List.set cl k { y with boxes := z }).length z9c) from (HL7.out.cn.vr.cell 9).trans (LOp.c9 _)).trans (by rw [HL7.out.len])
      have kb7 : World.cell? (w6.setCell ⟨g, k * 2 + 1, none⟩ (.slice z.A z.l.length z.c)) ⟨nb, 1, none⟩ = some (.slice y.boxes.A y.boxes.l.length y.boxes.c) := HNB7.out.cell 1
      have HKV := Lib.hid (And.intro kv7 kb7)
      clear hbf hgu kv6 kb6 kv7 kb7 HL6 HZZ HZL HG6 HNB6 HNB7 E0
      refine wpAnyH_ready (rs := [8]) (by kernel_rfl) (by simp) ?_
      refine AllReadyH.cons rfl (fun K hK => ?_) AllReadyH.nil
      go_simp
      refine hK.out _ _ HKV.out (fun hHeld2 => ?_)
      clear hK K kk kf HKV
      try simp only [lays]
      refine wpAnyH_done (by kernel_rfl) ?_ _
      clear hHeld hHeld1 hHeld2
      go_wp2
      go_roundw
      case rel => exact ⟨k + 1, _, by omega, by go_num, HL7.out, D0.out⟩
      case measure => simp [intOf]; omega
    · have hkq : k = n9 := by omega
      subst hkq
      obtain ⟨w10_, rfl⟩ : ∃ W, W = wr := ⟨_, rfl⟩
      obtain ⟨q9, hzq⟩ : ∃ q : Ls LNd, q = ⟨cl, z9A, z9c⟩ := ⟨_, rfl⟩
      have HC_n9 := Lib.hid (show Cn V w w10_ o { o with past := z4, path := q9 } from hzq ▸ hlp.cn)
      have HG_n9 := Lib.hid (show Gr kNd (V + 2) w10_ q9 from hzq ▸ hlp.gr)
      have HER9 := Lib.hid (show q9.l.map LNd.er = o.path.l.map LNd.er from by rw [hzq]; exact lp_er hlp HN.out)
      have HOW9 := Lib.hid (show ∀ n ∈ q9.l, Gr kBx (V + 2) w10_ (LNd.boxes n) from by rw [hzq]; exact lp_own hlp)
      have H_z4_n9 := Lib.hid g0_
      clear hlp hkn hlt hzq g0_
      have k1 := (show World.cell? w10_ ⟨V, 14, none⟩ = some (.slice o.body.A o.body.l.length o.body.c) from (HC_n9.out.vr.cell 14).trans (LOp.c14 _))
      have HL := Lib.hid (clone_u8 o.body HC_n9.out.src.no.body (Nat.le_trans (show o.body.l.length ≤ 300 from Nat.le_trans HT.out.body (by decide)) (by decide)))
      go_wp2_with fail
      refine (HL.out).mono ?_
      rintro e u14 ⟨z14, rfl, hzl, hzg, hb⟩
      have HC1 := Lib.hid (HC_n9.out.below (hb.mono HC_n9.out.size))
      have HZLz14 := Lib.hid hzl
      have HG1 := Lib.hid (hzg.base (B' := V + 2) HC_n9.out.size)
      have O0 := Lib.hid (H_z4_n9.out.below hb)
      have O1 := Lib.hid (HG_n9.out.below hb)
      have A0 := Lib.hid (show ∀ n ∈ q9.l, Gr kBx (V + 2) u14 (LNd.boxes n) from fun n hn => (HOW9.out n hn).below hb)
      have kk := (HC1.out.vr.cell 14).trans (LOp.c14 _)
      have kf := HC1.out.vr.frozen 14
      clear k1 hzl hzg hb HL HC_n9 H_z4_n9 HG_n9 HOW9
      go_upto_region 9 with fail
      clear kk kf
      have HC_14 := Lib.hid (show Cn V w (u14.setCell ⟨V, 14, none⟩ (.slice z14.A z14.l.length z14.c)) o { o with past := z4, path := q9, body := z14 } from HC1.out.put 14 _ _ rfl)
      have G_z4_14 := Lib.hid (show Gr kNm (V + 2) (u14.setCell ⟨V, 14, none⟩ (.slice z14.A z14.l.length z14.c)) z4 from O0.out.put (by omega) _ _)
      have G_q9_14 := Lib.hid (show Gr kNd (V + 2) (u14.setCell ⟨V, 14, none⟩ (.slice z14.A z14.l.length z14.c)) q9 from O1.out.put (by omega) _ _)
      have G_z14_14 := Lib.hid (show Gr kU8 (V + 2) (u14.setCell ⟨V, 14, none⟩ (.slice z14.A z14.l.length z14.c)) z14 from HG1.out.put (by omega) _ _)
      have A_path_14 := Lib.hid (show ∀ n ∈ q9.l, Gr kBx (V + 2) (u14.setCell ⟨V, 14, none⟩ (.slice z14.A z14.l.length z14.c)) (LNd.boxes n) from fun n hn => (A0.out n hn).put (by omega) _ _)
      clear HC1 HG1 O0 O1 A0
      obtain ⟨w14, hw⟩ : ∃ W, W = (u14.setCell ⟨V, 14, none⟩ (.slice z14.A z14.l.length z14.c)) := ⟨_, rfl⟩
      rw [← hw] at HC_14 G_z4_14 G_q9_14 G_z14_14 A_path_14 ⊢
      clear hw
      have k1 := (show World.cell? w14 ⟨V, 15, none⟩ = some (.slice o.refs.A o.refs.l.length o.refs.c) from (HC_14.out.vr.cell 15).trans (LOp.c15 _))
      have HL := Lib.hid (clone_u64 o.refs HC_14.out.src.no.refs (Nat.le_trans (show o.refs.l.length ≤ 300 from Nat.le_trans HT.out.refs (by decide)) (by decide)))
      go_wp2_with fail
      refine (HL.out).mono ?_
      rintro e u15 ⟨z15, rfl, hzl, hzg, hb⟩
      have HC1 := Lib.hid (HC_14.out.below (hb.mono HC_14.out.size))
      have HZLz15 := Lib.hid hzl
      have HG1 := Lib.hid (hzg.base (B' := V + 2) HC_14.out.size)
      have O0 := Lib.hid (G_z4_14.out.below hb)
      have O1 := Lib.hid (G_q9_14.out.below hb)
      have O2 := Lib.hid (G_z14_14.out.below hb)
      have A0 := Lib.hid (show ∀ n ∈ q9.l, Gr kBx (V + 2) u15 (LNd.boxes n) from fun n hn => (A_path_14.out n hn).below hb)
      have kk := (HC1.out.vr.cell 15).trans (LOp.c15 _)
      have kf := HC1.out.vr.frozen 15
      clear k1 hzl hzg hb HL HC_14 G_z4_14 G_q9_14 G_z14_14 A_path_14
      go_upto_region 10 with fail
      clear kk kf
      have HC_15 := Lib.hid (show Cn V w (u15.setCell ⟨V, 15, none⟩ (.slice z15.A z15.l.length z15.c)) o { o with past := z4, path := q9, body := z14, refs := z15 } from HC1.out.put 15 _ _ rfl)
      have G_z4_15 := Lib.hid (show Gr kNm (V + 2) (u15.setCell ⟨V, 15, none⟩ (.slice z15.A z15.l.length z15.c)) z4 from O0.out.put (by omega) _ _)
      have G_q9_15 := Lib.hid (show Gr kNd (V + 2) (u15.setCell ⟨V, 15, none⟩ (.slice z15.A z15.l.length z15.c)) q9 from O1.out.put (by omega) _ _)
      have G_z14_15 := Lib.hid (show Gr kU8 (V + 2) (u15.setCell ⟨V, 15, none⟩ (.slice z15.A z15.l.length z15.c)) z14 from O2.out.put (by omega) _ _)
      have G_z15_15 := Lib.hid (show Gr kU64 (V + 2) (u15.setCell ⟨V, 15, none⟩ (.slice z15.A z15.l.length z15.c)) z15 from HG1.out.put (by omega) _ _)
      have A_path_15 := Lib.hid (show ∀ n ∈ q9.l, Gr kBx (V + 2) (u15.setCell ⟨V, 15, none⟩ (.slice z15.A z15.l.length z15.c)) (LNd.boxes n) from fun n hn => (A0.out n hn).put (by omega) _ _)
      clear HC1 HG1 O0 O1 O2 A0
      obtain ⟨w15, hw⟩ : ∃ W, W = (u15.setCell ⟨V, 15, none⟩ (.slice z15.A z15.l.length z15.c)) := ⟨_, rfl⟩
      rw [← hw] at HC_15 G_z4_15 G_q9_15 G_z14_15 G_z15_15 A_path_15 ⊢
      clear hw
      have k1 := (show World.cell? w15 ⟨V, 19, none⟩ = some (.slice o.guards.A o.guards.l.length o.guards.c) from (HC_15.out.vr.cell 19).trans (LOp.c19 _))
      have HL := Lib.hid (clone_int o.guards HC_15.out.src.no.guards (Nat.le_trans (show o.guards.l.length ≤ 300 from Nat.le_trans HT.out.guards (by decide)) (by decide)))
      go_wp2_with fail
      refine (HL.out).mono ?_
      rintro e u19 ⟨z19, rfl, hzl, hzg, hb⟩
      have HC1 := Lib.hid (HC_15.out.below (hb.mono HC_15.out.size))
      have HZLz19 := Lib.hid hzl
      have HG1 := Lib.hid (hzg.base (B' := V + 2) HC_15.out.size)
      have O0 := Lib.hid (G_z4_15.out.below hb)
      have O1 := Lib.hid (G_q9_15.out.below hb)
      have O2 := Lib.hid (G_z14_15.out.below hb)
      have O3 := Lib.hid (G_z15_15.out.below hb)
      have A0 := Lib.hid (show ∀ n ∈ q9.l, Gr kBx (V + 2) u19 (LNd.boxes n) from fun n hn => (A_path_15.out n hn).below hb)
      have kk := (HC1.out.vr.cell 19).trans (LOp.c19 _)
      have kf := HC1.out.vr.frozen 19
      clear k1 hzl hzg hb HL HC_15 G_z4_15 G_q9_15 G_z14_15 G_z15_15 A_path_15
      go_upto_region 11 with fail
      clear kk kf
      have HC_19 := Lib.hid (show Cn V w (u19.setCell ⟨V, 19, none⟩ (.slice z19.A z19.l.length z19.c)) o { o with past := z4, path := q9, body := z14, refs := z15, guards := z19 } from HC1.out.put 19 _ _ rfl)
      have G_z4_19 := Lib.hid (show Gr kNm (V + 2) (u19.setCell ⟨V, 19, none⟩ (.slice z19.A z19.l.length z19.c)) z4 from O0.out.put (by omega) _ _)
      have G_q9_19 := Lib.hid (show Gr kNd (V + 2) (u19.setCell ⟨V, 19, none⟩ (.slice z19.A z19.l.length z19.c)) q9 from O1.out.put (by omega) _ _)
      have G_z14_19 := Lib.hid (show Gr kU8 (V + 2) (u19.setCell ⟨V, 19, none⟩ (.slice z19.A z19.l.length z19.c)) z14 from O2.out.put (by omega) _ _)
      have G_z15_19 := Lib.hid (show Gr kU64 (V + 2) (u19.setCell ⟨V, 19, none⟩ (.slice z19.A z19.l.length z19.c)) z15 from O3.out.put (by omega) _ _)
      have G_z19_19 := Lib.hid (show Gr kInt (V + 2) (u19.setCell ⟨V, 19, none⟩ (.slice z19.A z19.l.length z19.c)) z19 from HG1.out.put (by omega) _ _)
      have A_path_19 := Lib.hid (show ∀ n ∈ q9.l, Gr kBx (V + 2) (u19.setCell ⟨V, 19, none⟩ (.slice z19.A z19.l.length z19.c)) (LNd.boxes n) from fun n hn => (A0.out n hn).put (by omega) _ _)
      clear HC1 HG1 O0 O1 O2 O3 A0
      obtain ⟨w19, hw⟩ : ∃ W, W = (u19.setCell ⟨V, 19, none⟩ (.slice z19.A z19.l.length z19.c)) := ⟨_, rfl⟩
      rw [← hw] at HC_19 G_z4_19 G_q9_19 G_z14_19 G_z15_19 G_z19_19 A_path_19 ⊢
      clear hw
      have k1 := (show World.cell? w19 ⟨V, 22, none⟩ = some (.slice o.boxes.A o.boxes.l.length o.boxes.c) from (HC_19.out.vr.cell 22).trans (LOp.c22 _))
      have HL := Lib.hid (clone_bx o.boxes HC_19.out.src.no.boxes (Nat.le_trans (show o.boxes.l.length ≤ 300 from Nat.le_trans HT.out.boxes (by decide)) (by decide)))
      go_wp2_with fail
      refine (HL.out).mono ?_
      rintro e u22 ⟨z22, rfl, hzl, hzg, hb⟩
      have HC1 := Lib.hid (HC_19.out.below (hb.mono HC_19.out.size))
      have HZLz22 := Lib.hid hzl
      have HG1 := Lib.hid (hzg.base (B' := V + 2) HC_19.out.size)
      have O0 := Lib.hid (G_z4_19.out.below hb)
      have O1 := Lib.hid (G_q9_19.out.below hb)
      have O2 := Lib.hid (G_z14_19.out.below hb)
      have O3 := Lib.hid (G_z15_19.out.below hb)
      have O4 := Lib.hid (G_z19_19.out.below hb)
      have A0 := Lib.hid (show ∀ n ∈ q9.l, Gr kBx (V + 2) u22 (LNd.boxes n) from fun n hn => (A_path_19.out n hn).below hb)
      have kk := (HC1.out.vr.cell 22).trans (LOp.c22 _)
      have kf := HC1.out.vr.frozen 22
      clear k1 hzl hzg hb HL HC_19 G_z4_19 G_q9_19 G_z14_19 G_z15_19 G_z19_19 A_path_19
      go_upto_region 12 with fail
      clear kk kf
      have HC_22 := Lib.hid (show Cn V w (u22.setCell ⟨V, 22, none⟩ (.slice z22.A z22.l.length z22.c)) o { o with past := z4, path := q9, body := z14, refs := z15, guards := z19, boxes := z22 } from HC1.out.put 22 _ _ rfl)
      have G_z4_22 := Lib.hid (show Gr kNm (V + 2) (u22.setCell ⟨V, 22, none⟩ (.slice z22.A z22.l.length z22.c)) z4 from O0.out.put (by omega) _ _)
      have G_q9_22 := Lib.hid (show Gr kNd (V + 2) (u22.setCell ⟨V, 22, none⟩ (.slice z22.A z22.l.length z22.c)) q9 from O1.out.put (by omega) _ _)
      have G_z14_22 := Lib.hid (show Gr kU8 (V + 2) (u22.setCell ⟨V, 22, none⟩ (.slice z22.A z22.l.length z22.c)) z14 from O2.out.put (by omega) _ _)
      have G_z15_22 := Lib.hid (show Gr kU64 (V + 2) (u22.setCell ⟨V, 22, none⟩ (.slice z22.A z22.l.length z22.c)) z15 from O3.out.put (by omega) _ _)
      have G_z19_22 := Lib.hid (show Gr kInt (V + 2) (u22.setCell ⟨V, 22, none⟩ (.slice z22.A z22.l.length z22.c)) z19 from O4.out.put (by omega) _ _)
      have G_z22_22 := Lib.hid (show Gr kBx (V + 2) (u22.setCell ⟨V, 22, none⟩ (.slice z22.A z22.l.length z22.c)) z22 from HG1.out.put (by omega) _ _)
      have A_path_22 := Lib.hid (show ∀ n ∈ q9.l, Gr kBx (V + 2) (u22.setCell ⟨V, 22, none⟩ (.slice z22.A z22.l.length z22.c)) (LNd.boxes n) from fun n hn => (A0.out n hn).put (by omega) _ _)
      clear HC1 HG1 O0 O1 O2 O3 O4 A0
      obtain ⟨w22, hw⟩ : ∃ W, W = (u22.setCell ⟨V, 22, none⟩ (.slice z22.A z22.l.length z22.c)) := ⟨_, rfl⟩
      rw [← hw] at HC_22 G_z4_22 G_q9_22 G_z14_22 G_z15_22 G_z19_22 G_z22_22 A_path_22 ⊢
      clear hw
      have k1 := (show World.cell? w22 ⟨V, 24, none⟩ = some (.slice o.hist.A o.hist.l.length o.hist.c) from (HC_22.out.vr.cell 24).trans (LOp.c24 _))
      have HL := Lib.hid (clone_sd o.hist HC_22.out.src.no.hist (Nat.le_trans (show o.hist.l.length ≤ 300 from (by have h := HT.out.hist; unfold LOp.er at h; rw [List.length_map] at h; omega)) (by decide)))
      go_wp2_with fail
      refine (HL.out).mono ?_
      rintro e u24 ⟨z24, rfl, hzl, hzg, hb⟩
      have HC1 := Lib.hid (HC_22.out.below (hb.mono HC_22.out.size))
      have HZLz24 := Lib.hid hzl
      have HG1 := Lib.hid (hzg.base (B' := V + 2) HC_22.out.size)
      have O0 := Lib.hid (G_z4_22.out.below hb)
      have O1 := Lib.hid (G_q9_22.out.below hb)
      have O2 := Lib.hid (G_z14_22.out.below hb)
      have O3 := Lib.hid (G_z15_22.out.below hb)
      have O4 := Lib.hid (G_z19_22.out.below hb)
      have O5 := Lib.hid (G_z22_22.out.below hb)
      have A0 := Lib.hid (show ∀ n ∈ q9.l, Gr kBx (V + 2) u24 (LNd.boxes n) from fun n hn => (A_path_22.out n hn).below hb)
      have kk := (HC1.out.vr.cell 24).trans (LOp.c24 _)
      have kf := HC1.out.vr.frozen 24
      clear k1 hzl hzg hb HL HC_22 G_z4_22 G_q9_22 G_z14_22 G_z15_22 G_z19_22 G_z22_22 A_path_22
      go_upto_region 13 with fail
      clear kk kf
      have HC_24 := Lib.hid (show Cn V w (u24.setCell ⟨V, 24, none⟩ (.slice z24.A z24.l.length z24.c)) o { o with past := z4, path := q9, body := z14, refs := z15, guards := z19, boxes := z22, hist := z24 } from HC1.out.put 24 _ _ rfl)
      have G_z4_24 := Lib.hid (show Gr kNm (V + 2) (u24.setCell ⟨V, 24, none⟩ (.slice z24.A z24.l.length z24.c)) z4 from O0.out.put (by omega) _ _)
      have G_q9_24 := Lib.hid (show Gr kNd (V + 2) (u24.setCell ⟨V, 24, none⟩ (.slice z24.A z24.l.length z24.c)) q9 from O1.out.put (by omega) _ _)
      have G_z14_24 := Lib.hid (show Gr kU8 (V + 2) (u24.setCell ⟨V, 24, none⟩ (.slice z24.A z24.l.length z24.c)) z14 from O2.out.put (by omega) _ _)
      have G_z15_24 := Lib.hid (show Gr kU64 (V + 2) (u24.setCell ⟨V, 24, none⟩ (.slice z24.A z24.l.length z24.c)) z15 from O3.out.put (by omega) _ _)
      have G_z19_24 := Lib.hid (show Gr kInt (V + 2) (u24.setCell ⟨V, 24, none⟩ (.slice z24.A z24.l.length z24.c)) z19 from O4.out.put (by omega) _ _)
      have G_z22_24 := Lib.hid (show Gr kBx (V + 2) (u24.setCell ⟨V, 24, none⟩ (.slice z24.A z24.l.length z24.c)) z22 from O5.out.put (by omega) _ _)
      have G_z24_24 := Lib.hid (show Gr kSd (V + 2) (u24.setCell ⟨V, 24, none⟩ (.slice z24.A z24.l.length z24.c)) z24 from HG1.out.put (by omega) _ _)
      have A_path_24 := Lib.hid (show ∀ n ∈ q9.l, Gr kBx (V + 2) (u24.setCell ⟨V, 24, none⟩ (.slice z24.A z24.l.length z24.c)) (LNd.boxes n) from fun n hn => (A0.out n hn).put (by omega) _ _)
      clear HC1 HG1 O0 O1 O2 O3 O4 O5 A0
      obtain ⟨w24, hw⟩ : ∃ W, W = (u24.setCell ⟨V, 24, none⟩ (.slice z24.A z24.l.length z24.c)) := ⟨_, rfl⟩
      rw [← hw] at HC_24 G_z4_24 G_q9_24 G_z14_24 G_z15_24 G_z19_24 G_z22_24 G_z24_24 A_path_24 ⊢
      clear hw
      obtain ⟨n24, hn⟩ : ∃ n, n = o.hist.l.length := ⟨_, rfl⟩
      obtain ⟨z24l, z24A, z24c⟩ := z24
      have HZ := Lib.hid (show z24l = o.hist.l from HZLz24.out)
      have HN := Lib.hid hn
      have hv : (Value.slice z24A z24l.length z24c) = .slice z24A n24 z24c := by rw [HZ.out, ← HN.out]
      have k1 : World.cell? w24 ⟨V, 24, none⟩ = some (.slice z24A n24 z24c) := by rw [← hv]; exact (HC_24.out.vr.cell 24).trans (LOp.c24 _)
      have hnn : n24 ≤ 300 := by rw [hn]; have h : o.hist.l.length ≤ 300 := (by have h := HT.out.hist; unfold LOp.er at h; rw [List.length_map] at h; omega); exact h
      clear hn hv HZLz24
      go_wp2_with fail
      have HLP := Lib.hid (show Lp kSd kU8 LSd.body LSd.er V w o o.hist.l (fun p => { o with past := z4, path := q9, body := z14, refs := z15, guards := z19, boxes := z22, hist := p }) z24A z24c n24 w24 0 z24l from ⟨by rw [HZ.out, ← HN.out], HC_24.out, G_z24_24.out, fun j hj => absurd hj (Nat.not_lt_zero _), fun j _ => by rw [HZ.out]⟩)
      have hkz : (Value.slice z24A n24 z24c) = .slice z24A n24 z24c := rfl
      clear hkz
      go_loopw [55] (fun i wr => ∃ (k : Nat) (cl : List LSd), k ≤ n24 ∧ i = .int .i64 (k : Int) ∧ Lp kSd kU8 LSd.body LSd.er V w o o.hist.l (fun p => { o with past := z4, path := q9, body := z14, refs := z15, guards := z19, boxes := z22, hist := p }) z24A z24c n24 wr k cl ∧ Gr kNm (V + 2) wr z4 ∧ Gr kNd (V + 2) wr q9 ∧ Gr kU8 (V + 2) wr z14 ∧ Gr kU64 (V + 2) wr z15 ∧ Gr kInt (V + 2) wr z19 ∧ Gr kBx (V + 2) wr z22 ∧ (∀ n ∈ q9.l, Gr kBx (V + 2) wr (LNd.boxes n))) (fun i _ => n24 - (intOf i).toNat)
      case atStart => exact ⟨0, z24l, Nat.zero_le _, rfl, HLP.out, G_z4_24.out, G_q9_24.out, G_z14_24.out, G_z15_24.out, G_z19_24.out, G_z22_24.out, A_path_24.out⟩
      case round =>
    obtain ⟨k, cl, hkn, rfl, hlp, g0_, g1_, g2_, g3_, g4_, g5_, g6_⟩ := hrel
    clear HLP HC_24 G_z24_24 G_z4_24 G_q9_24 G_z14_24 G_z15_24 G_z19_24 G_z22_24 A_path_24 k1
    by_cases hlt : k < n24
    · obtain ⟨y, hy⟩ : ∃ y, o.hist.l[k]? = some y := ⟨_, List.getElem?_eq_getElem (by rw [← HN.out]; exact hlt)⟩
      obtain ⟨g, hA, hgB, hgs, ⟨gcs, hgcs, hgsz⟩, hgc, -⟩ := hlp.gr.setAt (y' := y) (j := 3) (u := (LSd.body y).v) ((hlp.rest k (Nat.le_refl _)).trans hy) (by decide) rfl
      subst hA
      obtain ⟨wo, rfl⟩ : ∃ wo, wo = wr := ⟨_, rfl⟩
      have n0 : World.cell? wo ⟨g, k * 4, none⟩ = some (.int .i64 y.nm.a) := hgc 0 _ rfl
      have n1 : World.cell? wo ⟨g, k * 4 + 1, none⟩ = some (.int .i64 y.nm.b) := hgc 1 _ rfl
      have n2 : World.cell? wo ⟨g, k * 4 + 2, none⟩ = some (.int .u64 (y.nm.c : Int)) := hgc 2 _ rfl
      have n3 : World.cell? wo ⟨g, k * 4 + 3, none⟩ = some (.slice y.body.A y.body.l.length y.body.c) := hgc 3 _ rfl
      have kv := (show World.cell? wo ⟨V, 24, none⟩ = some (.slice (some ⟨g, 0, none⟩) n24 z24c) from by have h := (hlp.cn.vr.cell 24).trans (LOp.c24 _); rw [h]; show some (Value.slice _ cl.length _) = _; rw [hlp.len])
      have HLP := Lib.hid hlp
      have G0 := Lib.hid g0_
      have G1 := Lib.hid g1_
      have G2 := Lib.hid g2_
      have G3 := Lib.hid g3_
      have G4 := Lib.hid g4_
      have G5 := Lib.hid g5_
      have G6 := Lib.hid g6_
      have HGC := Lib.hid (And.intro hgB (And.intro hgs (And.intro hgcs hgsz)))
      have HY := Lib.hid hy
      have q0_ : (0 : Int) ≤ (k : Int) := by omega
      have q1_ : (k : Int) < (n24 : Int) := by omega
      clear hlp g0_ g1_ g2_ g3_ g4_ g5_ g6_ hgB hgs hgcs hgsz hgc hy hkn
      go_wp2_with fail
      obtain ⟨nb, hnb⟩ : ∃ nb, nb = wo.heap.size := ⟨_, rfl⟩
      have hblk := blk_new wo 81 #[.int .i64 y.nm.a, .int .i64 y.nm.b, .int .u64 (y.nm.c : Int), .slice y.body.A y.body.l.length y.body.c]
      have hba := (Below.refl wo.heap.size wo).alloc (Nat.le_refl _) (.cells #[.int .i64 y.nm.a, .int .i64 y.nm.b, .int .u64 (y.nm.c : Int), .slice y.body.A y.body.l.length y.body.c] 81)
      obtain ⟨w5, hw5⟩ : ∃ W, W = wo.alloc (.cells #[.int .i64 y.nm.a, .int .i64 y.nm.b, .int .u64 (y.nm.c : Int), .slice y.body.A y.body.l.length y.body.c] 81) := ⟨_, rfl⟩
      rw [← hw5] at hblk hba ⊢
      rw [← hnb] at hblk ⊢
      have HNB := Lib.hid (show Blk w5.drew nb 81 #[.int .i64 y.nm.a, .int .i64 y.nm.b, .int .u64 (y.nm.c : Int), .slice y.body.A y.body.l.length y.body.c] from hblk)
      have HBA := Lib.hid (show Below wo.heap.size wo w5.drew from hba.trans (below_drewN w5 1 _))
      have HL5 := Lib.hid (HLP.out.below HBA.out)
      have F0 := Lib.hid (G0.out.below HBA.out)
      have F1 := Lib.hid (G1.out.below HBA.out)
      have F2 := Lib.hid (G2.out.below HBA.out)
      have F3 := Lib.hid (G3.out.below HBA.out)
      have F4 := Lib.hid (G4.out.below HBA.out)
      have F5 := Lib.hid (G5.out.below HBA.out)
      have F6 := Lib.hid (show ∀ n ∈ q9.l, Gr kBx (V + 2) w5.drew (LNd.boxes n) from fun n hn => (G6.out n hn).below HBA.out)
      have HG5 := Lib.hid (show V + 2 ≤ g ∧ g < nb ∧ Blk w5.drew g 81 gcs ∧ k * 4 + 3 < gcs.size from ⟨HGC.out.1, hnb ▸ HGC.out.2.1, HGC.out.2.2.1.below HBA.out HGC.out.2.1, HGC.out.2.2.2⟩)
      have kv5 : World.cell? w5.drew ⟨V, 24, none⟩ = some (.slice (some ⟨g, 0, none⟩) n24 z24c) := by have h := (HL5.out.cn.vr.cell 24).trans (LOp.c24 _); rw [h]; show some (Value.slice _ cl.length _) = _; rw [HL5.out.len]
      have kb5 : World.cell? w5.drew ⟨nb, 3, none⟩ = some (.slice y.body.A y.body.l.length y.body.c) := HNB.out.cell 3
      have HSZ := Lib.hid (show nb < w5.drew.heap.size from HNB.out.lt)
      clear hnb hblk hba hw5 HBA HLP HGC n0 n1 n2 n3 kv G0 G1 G2 G3 G4 G5 G6
      refine wp_region_held_drew (S := (fun w' : World => w'.cell? ⟨V, 24, none⟩ = some (.slice (some ⟨g, 0, none⟩) n24 z24c) ∧ w'.cell? ⟨nb, 3, none⟩ = some (.slice y.body.A y.body.l.length y.body.c))) (by kernel_rfl) ⟨kv5, kb5⟩ (fun hHeld => ?_)
      try simp only [lays]
      refine wpAnyH_take (i := 0) (v := ?_) rfl (by kernel_rfl) (by kernel_rfl) (by kernel_rfl) (fun _ _ _ h => h) (Or.inl ⟨by rfl, ?_⟩) (by assumption) ?_
      rotate_left
      · (intro w hSw; (try dsimp only at hSw); obtain ⟨s0, s1⟩ := hSw; go_simp; try (with_reducible rfl))
      try simp only [lays]
      refine wpAnyH_take (i := 1) (v := ?_) rfl (by kernel_rfl) (by kernel_rfl) (by kernel_rfl) (fun _ _ _ h => h) (Or.inl ⟨by rfl, ?_⟩) (by assumption) ?_
      rotate_left
      · (intro w hSw; (try dsimp only at hSw); obtain ⟨s0, s1⟩ := hSw; go_simp; try (with_reducible rfl))
      try simp only [lays]
      refine wpAnyH_take (i := 2) (v := ?_) rfl (by kernel_rfl) (by kernel_rfl) (by kernel_rfl) (fun _ _ _ h => h) (Or.inl ⟨by rfl, ?_⟩) (by assumption) ?_
      rotate_left
      · (intro w hSw; (try dsimp only at hSw); obtain ⟨s0, s1⟩ := hSw; go_simp; try (with_reducible rfl))
      try simp only [lays]
      refine wpAnyH_take (i := 3) (v := ?_) rfl (by kernel_rfl) (by kernel_rfl) (by kernel_rfl) (fun _ _ _ h => h) (Or.inl ⟨by rfl, ?_⟩) (by assumption) ?_
      rotate_left
      · (intro w hSw; (try dsimp only at hSw); obtain ⟨s0, s1⟩ := hSw; go_simp; try (with_reducible rfl))
      try simp only [lays]
      refine wpAnyH_take (i := 4) (v := ?_) rfl (by kernel_rfl) (by kernel_rfl) (by kernel_rfl) (fun _ _ _ h => h) (Or.inl ⟨by rfl, ?_⟩) (by assumption) ?_
      rotate_left
      · (intro w hSw; (try dsimp only at hSw); obtain ⟨s0, s1⟩ := hSw; go_simp; try (with_reducible rfl))
      try simp only [lays]
      refine wpAnyH_ready (rs := [5]) (by kernel_rfl) (by simp) ?_
      refine AllReadyH.cons rfl (fun K hK => ?_) AllReadyH.nil
      clear kv5 kb5
      go_simp
      have HC5 := Lib.hid (clone_u8 y.body (HL5.out.cn.src.histB y (List.mem_of_getElem? HY.out)).no (Nat.le_trans (show y.body.l.length ≤ 300 from HT.out.histB y.er (List.mem_map_of_mem (List.mem_of_getElem? HY.out))) (by decide)))
      refine (HC5.out).mono ?_
      rintro e w6 ⟨z, rfl, hzl, hzg, hb⟩
      have HL6 := Lib.hid (HL5.out.below hb)
      have E0 := Lib.hid (F0.out.below hb)
      have E1 := Lib.hid (F1.out.below hb)
      have E2 := Lib.hid (F2.out.below hb)
      have E3 := Lib.hid (F3.out.below hb)
      have E4 := Lib.hid (F4.out.below hb)
      have E5 := Lib.hid (F5.out.below hb)
      have E6 := Lib.hid (show ∀ n ∈ q9.l, Gr kBx (V + 2) w6 (LNd.boxes n) from fun n hn => (F6.out n hn).below hb)
      have HG6 := Lib.hid (show V + 2 ≤ g ∧ g < nb ∧ Blk w6 g 81 gcs ∧ k * 4 + 3 < gcs.size from ⟨HG5.out.1, HG5.out.2.1, HG5.out.2.2.1.below hb (HG5.out.2.2.1.lt), HG5.out.2.2.2⟩)
      have HNB6 := Lib.hid (HNB.out.below hb HNB.out.lt)
      have HZZ := Lib.hid (hzg.base (B' := V + 2) (HL5.out.cn.size))
      have HZL := Lib.hid hzl
      have kv6 : World.cell? w6 ⟨V, 24, none⟩ = some (.slice (some ⟨g, 0, none⟩) n24 z24c) := by have h := (HL6.out.cn.vr.cell 24).trans (LOp.c24 _); rw [h]; show some (Value.slice _ cl.length _) = _; rw [HL6.out.len]
      have kb6 : World.cell? w6 ⟨nb, 3, none⟩ = some (.slice y.body.A y.body.l.length y.body.c) := HNB6.out.cell 3
      clear hb hzl hzg HC5 HL5 HG5 HNB HSZ F0 F1 F2 F3 F4 F5 F6
      try go_simp
      refine hK.out _ _ ⟨kv6, kb6⟩ (fun hHeld1 => ?_)
      clear hK K
      try simp only [lays]
      refine wpAnyH_take (i := 6) (v := ?_) rfl (by kernel_rfl) (by kernel_rfl) (by kernel_rfl) (fun _ _ _ h => h) (Or.inl ⟨by rfl, ?_⟩) (by assumption) ?_
      rotate_left
      · (intro w hSw; (try dsimp only at hSw); obtain ⟨s0, s1⟩ := hSw; go_simp; try (with_reducible rfl))
      try simp only [lays]
      refine wpAnyH_take (i := 7) (v := ?_) rfl (by kernel_rfl) (by kernel_rfl) (by kernel_rfl) (fun _ _ _ h => h) (Or.inl ⟨by rfl, ?_⟩) (by assumption) ?_
      rotate_left
      · (intro w hSw; (try dsimp only at hSw); obtain ⟨s0, s1⟩ := hSw; go_simp; try (with_reducible rfl))
      try simp only [lays]
      obtain ⟨gu, hgu⟩ : ∃ u, gcs[k * 4 + 3]? = some u := ⟨_, Array.getElem?_eq_getElem HG6.out.2.2.2⟩
      have kk : World.cell? w6 ⟨g, k * 4 + 3, none⟩ = some gu := (HG6.out.2.2.1.cell _).trans hgu
      have kf := HG6.out.2.2.1.frozen (k * 4 + 3)
      have HL7 := Lib.hid (HL6.out.put (y' := { y with body := z }) (j := 3) (u := .slice z.A z.l.length z.c) HY.out (by decide) rfl (by show Sd.mk y.nm z.l = Sd.mk y.nm y.body.l; rw [HZL.out]) HZZ.out (by decide) (fun l l' h => by simp only [LOp.cells, Ls.v, h]) rfl)
      have hbf : Bf (fun q => q = g) w6 (w6.setCell ⟨g, k * 4 + 3, none⟩ (.slice z.A z.l.length z.c)) := Bf.set w6 rfl
      have D0 := Lib.hid (E0.out.other HG6.out.2.2.1 (by decide) (k * 4 + 3) (.slice z.A z.l.length z.c))
      have D1 := Lib.hid (E1.out.other HG6.out.2.2.1 (by decide) (k * 4 + 3) (.slice z.A z.l.length z.c))
      have D2 := Lib.hid (E2.out.other HG6.out.2.2.1 (by decide) (k * 4 + 3) (.slice z.A z.l.length z.c))
      have D3 := Lib.hid (E3.out.other HG6.out.2.2.1 (by decide) (k * 4 + 3) (.slice z.A z.l.length z.c))
      have D4 := Lib.hid (E4.out.other HG6.out.2.2.1 (by decide) (k * 4 + 3) (.slice z.A z.l.length z.c))
      have D5 := Lib.hid (E5.out.other HG6.out.2.2.1 (by decide) (k * 4 + 3) (.slice z.A z.l.length z.c))
      have D6 := Lib.hid (show ∀ n ∈ q9.l, Gr kBx (V + 2) (w6.setCell ⟨g, k * 4 + 3, none⟩ (.slice z.A z.l.length z.c)) (LNd.boxes n) from fun n hn => (E6.out n hn).other HG6.out.2.2.1 (by decide) (k * 4 + 3) (.slice z.A z.l.length z.c))
      have HNB7 := Lib.hid (hbf.blk HNB6.out (by have := HG6.out.2.1; show ¬ nb = g; omega))
      have kv7 : World.cell? (w6.setCell ⟨g, k * 4 + 3, none⟩ (.slice z.A z.l.length z.c)) ⟨V, 24, none⟩ = some (.slice (some ⟨g, 0, none⟩) n24 z24c) := (show World.cell? (w6.setCell ⟨g, k * 4 + 3, none⟩ (.slice z.A z.l.length z.c)) ⟨V, 24, none⟩ = some (Value.slice (some ⟨g, 0, none⟩) (List.set cl k { y with body := z }).length z24c) from (HL7.out.cn.vr.cell 24).trans (LOp.c24 _)).trans (by rw [HL7.out.len])
      have kb7 : World.cell? (w6.setCell ⟨g, k * 4 + 3, none⟩ (.slice z.A z.l.length z.c)) ⟨nb, 3, none⟩ = some (.slice y.body.A y.body.l.length y.body.c) := HNB7.out.cell 3
      have HKV := Lib.hid (And.intro kv7 kb7)
      clear hbf hgu kv6 kb6 kv7 kb7 HL6 HZZ HZL HG6 HNB6 HNB7 E0 E1 E2 E3 E4 E5 E6
      refine wpAnyH_ready (rs := [8]) (by kernel_rfl) (by simp) ?_
      refine AllReadyH.cons rfl (fun K hK => ?_) AllReadyH.nil
      go_simp
      refine hK.out _ _ HKV.out (fun hHeld2 => ?_)
      clear hK K kk kf HKV
      try simp only [lays]
      refine wpAnyH_done (by kernel_rfl) ?_ _
      clear hHeld hHeld1 hHeld2
      go_wp2
      go_roundw
      case rel => exact ⟨k + 1, _, by omega, by go_num, HL7.out, D0.out, D1.out, D2.out, D3.out, D4.out, D5.out, D6.out⟩
      case measure => simp [intOf]; omega
    · have hkq : k = n24 := by omega
      subst hkq
      obtain ⟨w25_, rfl⟩ : ∃ W, W = wr := ⟨_, rfl⟩
      obtain ⟨q24, hzq⟩ : ∃ q : Ls LSd, q = ⟨cl, z24A, z24c⟩ := ⟨_, rfl⟩
      have HC_n24 := Lib.hid (show Cn V w w25_ o { o with past := z4, path := q9, body := z14, refs := z15, guards := z19, boxes := z22, hist := q24 } from hzq ▸ hlp.cn)
      have HG_n24 := Lib.hid (show Gr kSd (V + 2) w25_ q24 from hzq ▸ hlp.gr)
      have HER24 := Lib.hid (show q24.l.map LSd.er = o.hist.l.map LSd.er from by rw [hzq]; exact lp_er hlp HN.out)
      have HOW24 := Lib.hid (show ∀ n ∈ q24.l, Gr kU8 (V + 2) w25_ (LSd.body n) from by rw [hzq]; exact lp_own hlp)
      have H_z4_n24 := Lib.hid g0_
      have H_q9_n24 := Lib.hid g1_
      have H_z14_n24 := Lib.hid g2_
      have H_z15_n24 := Lib.hid g3_
      have H_z19_n24 := Lib.hid g4_
      have H_z22_n24 := Lib.hid g5_
      have A_path_n24 := Lib.hid (show ∀ n ∈ q9.l, Gr kBx (V + 2) w25_ (LNd.boxes n) from g6_)
      clear hlp hkn hlt hzq g0_ g1_ g2_ g3_ g4_ g5_ g6_
      obtain ⟨c, hc⟩ : ∃ c : LOp, c = { o with past := z4, path := q9, body := z14, refs := z15, guards := z19, boxes := z22, hist := q24 } := ⟨_, rfl⟩
      have HCC := Lib.hid (show Cn V w w25_ o c from hc ▸ HC_n24.out)
      have HOW := Lib.hid (show Own (V + 2) w25_ c from hc ▸ ⟨H_z4_n24.out, H_q9_n24.out, A_path_n24.out, H_z14_n24.out, H_z15_n24.out, H_z19_n24.out, H_z22_n24.out, HG_n24.out, HOW24.out⟩)
      have HEE := Lib.hid (show c.er = o.er from by rw [hc]; unfold LOp.er; simp only; rw [show z4.l = o.past.l from HZLz4.out, show q9.l.map LNd.er = o.path.l.map LNd.er from HER9.out, show z14.l = o.body.l from HZLz14.out, show z15.l = o.refs.l from HZLz15.out, show z19.l = o.guards.l from HZLz19.out, show z22.l = o.boxes.l from HZLz22.out, show q24.l.map LSd.er = o.hist.l.map LSd.er from HER24.out])
      clear hc HC_n24 H_z4_n24 H_q9_n24 H_z14_n24 H_z15_n24 H_z19_n24 H_z22_n24 HG_n24 A_path_n24 HOW24
      go_wp2_with (first | (refine wpList_load_op rfl _ rfl rfl HCC.out.vr ?_) | (refine wpList_store_op (o' := c) rfl _ _ rfl rfl rfl HCC.out.res ?_))
      refine bodyPost_ret (v := c.v) (results_op rfl rfl _ rfl (HCC.out.res.setRow c)) rfl ?_
      have hs : Bf (fun k => k = V + 1) w25_ (w25_.setRow (V + 1) c.cells) := Bf.setRow _ rfl
      have hO := HOW.out
      have hS : ∀ {α : Type} {K : Kd α} {x : Ls α}, Gr K (V + 2) w25_ x → Gr K w.heap.size (w25_.setRow (V + 1) c.cells) x := fun h => (h.bf hs (fun k hk => by have hk : k = V + 1 := hk; omega)).base (by have := HV.out; omega)
      refine ⟨c, rfl, HEE.out, ⟨hS hO.past, hS hO.path, fun n hn => hS (hO.pathB n hn), hS hO.body, hS hO.refs, hS hO.guards, hS hO.boxes, hS hO.hist, fun n hn => hS (hO.histB n hn)⟩, ?_⟩
      have hb := Below.trans HCC.out.bel (hs.dn (by have := HCC.out.size; omega) (fun k hk => by have hk : k = V + 1 := hk; omega))
      rw [HV.out] at hb ⊢
      exact hb
end Ot
end Go.Proofs.YtkicjjcangkneaaGreatDoor

/-
  op.Sign, the reference's Secret and Signed: an operation, signed by a secret. For operations of few items.
-/
namespace Go.Proofs.YtkicjjcangkneaaGreatDoor
open Go.RowKit
set_option linter.unusedSimpArgs false
set_option linter.unusedVariables false
attribute [local go_sem ↓] Go.wp_at_zero Go.wp_at_succ
set_option maxRecDepth 100000
namespace Ot
theorem Lz.bt {F : Nat → Prop} {w : World} {x : Ls UInt8} (h : Lz kU8 F w x) : Bt w x.A x.l.length x.c x.l := ⟨rfl, h.cap, h.nil, h.rd8⟩
theorem Gr.other2 {α : Type} {K : Kd α} {B g t : Nat} {W W' : World} {x : Ls α} {cs : Array Value} (h : Gr K B W x) (hb : Blk W g t cs) (ht : K.ty ≠ t) (hg : W.grownBy W' (some g)) : Gr K B W' x :=
  World.ownsRow.kept h hg (by
    cases e : x.v.ownBlock with
    | none => exact .inl rfl
    | some b =>
      refine .inr fun e2 => ht ?_
      injection e2 with e2
      subst e2
      rcases h.2 with ⟨e3, _⟩ | ⟨g2, cap, cur, e3, _, hh, _⟩
      · rw [e3] at e; cases e
      · rw [e3] at e
        have e : some g2 = some b := e
        injection e with e
        subst e
        have h5 : W.heap[g2]? = some (Obj.cells cs t (0, 0)) := hb
        have h6 := hh
        rw [h5] at h6
        injection h6 with h6
        injection h6 with h7 h8
        exact h8.symm)
theorem Own.map {B B' : Nat} {W W' : World} {o : LOp} (h : Own B W o) (f : ∀ {α : Type} {K : Kd α} {x : Ls α}, Gr K B W x → Gr K B' W' x) : Own B' W' o :=
  ⟨f h.past, f h.path, fun n hn => f (h.pathB n hn), f h.body, f h.refs, f h.guards, f h.boxes, f h.hist, fun n hn => f (h.histB n hn)⟩
theorem Own.below {B : Nat} {W W' : World} {o : LOp} (h : Own B W o) (hb : Below W.heap.size W W') : Own B W' o := h.map fun g => g.below hb
theorem Own.kept {B V : Nat} {W W' : World} {o : LOp} {cs : Array Value} (h : Own B W o) (hV : Blk W V 35 cs) (hg : W.grownBy W' (some V)) : Own B W' o :=
  ⟨h.past.other2 hV (by decide) hg, h.path.other2 hV (by decide) hg, fun n hn => (h.pathB n hn).other2 hV (by decide) hg, h.body.other2 hV (by decide) hg, h.refs.other2 hV (by decide) hg, h.guards.other2 hV (by decide) hg, h.boxes.other2 hV (by decide) hg, h.hist.other2 hV (by decide) hg, fun n hn => (h.histB n hn).other2 hV (by decide) hg⟩
theorem Own.sig {B : Nat} {W : World} {o : LOp} (h : Own B W o) (r s : Nat) : Own B W { o with r := r, s := s } := ⟨h.past, h.path, h.pathB, h.body, h.refs, h.guards, h.boxes, h.hist, h.histB⟩
theorem Own.lies {B : Nat} {W : World} {o : LOp} (h : Own B W o) : Lies (fun k => k < B) W o :=
  ⟨h.past.lz fun _ hk => hk, h.path.lz fun _ hk => hk, fun n hn => (h.pathB n hn).lz fun _ hk => hk, h.body.lz fun _ hk => hk, h.refs.lz fun _ hk => hk, h.guards.lz fun _ hk => hk, h.boxes.lz fun _ hk => hk, h.hist.lz fun _ hk => hk, fun n hn => (h.histB n hn).lz fun _ hk => hk⟩
/-- A signature's operation. -/
def sgd (o : Er) (s : Nat) : Er := { o with r := Sg.R s (Sg.msg (con o)), s := Sg.S s (Sg.msg (con o)) }
theorem con_len2 {o : Er} (h : Tiny o) : (con o).length ≤ 30000 := by
  have := put_len h
  unfold put at this
  rw [List.length_append] at this
  omega

set_option maxHeartbeats 4000000 in
theorem opsign_any {w : World} (s : Nat) (hs : u64 s) (o : LOp) (hx : Lies No w o) (ht : Tiny o.er) :
    Calls Tryz.prog 25 #[.int .u64 (s : Int), o.v] w fun e w' => ∃ z : LOp, e = .returned z.v ∧ z.er = sgd o.er s ∧ Own w.heap.size w' z ∧ Below w.heap.size w w' := by
  obtain ⟨cs, hcs⟩ : ∃ cs, cs = o.cells := ⟨_, rfl⟩
  have hC := Cn.start w o hx
  obtain ⟨V, hV⟩ : ∃ V, V = w.heap.size := ⟨_, rfl⟩
  have HV := Lib.hid hV
  have HC := Lib.hid (show Cn V w ((w.alloc (.cells cs 35)).alloc (.cells LOp.zero.cells 35)) o o from by rw [hV, hcs]; exact hC)
  have HT := Lib.hid ht
  have HS := Lib.hid hs
  show Calls _ _ #[_, .agg o.cells] w _
  rw [← hcs]
  clear hx ht hcs hC hV hs
  go_enter Tryz.func25, Tryz.ntmps25
  go_upto_region 1 with fail
  rw [zc]
  obtain ⟨w0, hw⟩ : ∃ W, W = ((w.alloc (.cells cs 35)).alloc (.cells LOp.zero.cells 35)) := ⟨_, rfl⟩
  rw [← hw] at HC ⊢
  rw [← HV.out]
  clear hw
  have HL := Lib.hid (clone_any o HC.out.src.no HT.out)
  go_wp2_with (refine wpList_load_op rfl _ rfl rfl HC.out.vr ?_)
  refine (HL.out).mono ?_
  rintro e w1 ⟨z, rfl, hze, hzo, hb⟩
  have HVZ := Lib.hid (Vr.new w1 LOp.zero)
  have HVN := Lib.hid (var_new w1 z)
  have hb2 := hb.trans (var_below w1 LOp.zero z hb.size)
  have HO := Lib.hid (hzo.below (var_below w1 LOp.zero z (Nat.le_refl _)))
  have HC2 := Lib.hid (HC.out.below (hb2.mono HC.out.size))
  have HZE := Lib.hid hze
  have HSZ := Lib.hid (show V + 2 ≤ w0.heap.size ∧ w0.heap.size ≤ w1.heap.size from ⟨HC.out.size, hb.size⟩)
  clear hze hzo hb hb2 HL HC
  go_upto_region 2 with (refine wpList_store_op (o' := z) rfl _ _ rfl rfl rfl HVZ.out ?_)
  rw [zc]
  obtain ⟨S, hS⟩ : ∃ V, V = w1.heap.size := ⟨_, rfl⟩
  obtain ⟨w2, hw2⟩ : ∃ W, W = (w1.alloc (.cells LOp.zero.cells 35)).setRow w1.heap.size z.cells := ⟨_, rfl⟩
  rw [← hw2] at HVN HO HC2 ⊢
  rw [← hS] at HVN HSZ ⊢
  clear hw2 hS HVZ
  have HL := Lib.hid (content_any o HC2.out.src.no HT.out.small (by have := con_len2 HT.out; omega))
  go_wp2_with (refine wpList_load_op rfl _ rfl rfl HC2.out.vr ?_)
  refine (HL.out).mono ?_
  rintro e w3 ⟨y, rfl, hyl, hgy, hb⟩
  have HVN3 := Lib.hid (HVN.out.below hb (Blk.lt HVN.out))
  have HO3 := Lib.hid (HO.out.below hb)
  have HC3 := Lib.hid (HC2.out.below (hb.mono HC2.out.size))
  have HSI := Lib.hid (show Calls Tryz.prog 66 #[.int .u64 (s : Int), y.v] w3 _ from sign_any (hgy.lz (F := No) fun _ h => h.elim).bt (by rw [hyl]; have := con_len2 HT.out; omega) s HS.out)
  have HYL := Lib.hid hyl
  clear hyl hgy hb HL HVN HO HC2
  go_wp2_with fail
  refine (HSI.out).mono ?_
  rintro e w4 ⟨rfl, hb⟩
  have HVN4 := Lib.hid (HVN3.out.below hb (Blk.lt HVN3.out))
  have HO4 := Lib.hid (HO3.out.below hb)
  have HC4 := Lib.hid (HC3.out.below (hb.mono HC3.out.size))
  rw [HYL.out]
  obtain ⟨R1, hR1⟩ : ∃ r, r = Sg.R s (Sg.msg (con o.er)) := ⟨_, rfl⟩
  obtain ⟨S1, hS1⟩ : ∃ r, r = Sg.S s (Sg.msg (con o.er)) := ⟨_, rfl⟩
  rw [← hR1, ← hS1]
  have HRS := Lib.hid (And.intro hR1 hS1)
  clear hb HSI HVN3 HO3 HC3 HYL hR1 hS1
  go_upto_region 3 with (refine wpList_store_sig rfl (.tmp 12) (.tmp 11) rfl (r := R1) (s := S1) rfl rfl HVN4.out ?_; intro w5 hv5 hg5; have HV5 := Lib.hid hv5; have HO5 := Lib.hid ((HO4.out.kept HVN4.out hg5).sig R1 S1); have HC5 := Lib.hid (show Vr w5 (V + 1) LOp.zero ∧ Below V w w5 ∧ V + 2 ≤ w5.heap.size from ⟨blk_grown HC4.out.res hg5 (fun eg => by injection eg with eg; have := HSZ.out; omega), HC4.out.bel.grown hg5 (by have := HC4.out.size; omega) (fun g eg => by injection eg with eg; have := HSZ.out; omega), Nat.le_trans HC4.out.size hg5.size⟩); clear hv5 hg5)
  obtain ⟨c, hc⟩ : ∃ c : LOp, c = { z with r := R1, s := S1 } := ⟨_, rfl⟩
  rw [← hc] at HV5 HO5
  have HEE := Lib.hid (show c.er = sgd o.er s from by rw [hc]; unfold sgd; rw [← HRS.out.1, ← HRS.out.2, ← HZE.out]; rfl)
  clear hc HVN4 HO4 HC4 HZE HRS
  go_wp2_with (first | (refine wpList_load_op rfl _ rfl rfl HV5.out ?_) | (refine wpList_store_op (o' := c) rfl _ _ rfl rfl rfl HC5.out.1 ?_))
  refine bodyPost_ret (v := c.v) (results_op rfl rfl _ rfl (HC5.out.1.setRow c)) rfl ?_
  have hs : Bf (fun k => k = V + 1) w5 (w5.setRow (V + 1) c.cells) := Bf.setRow _ rfl
  refine ⟨c, rfl, HEE.out, HO5.out.map (fun h => (h.bf hs (fun k hk => by have hk : k = V + 1 := hk; have := HSZ.out; omega)).base (by have := HV.out; have := HSZ.out; omega)), ?_⟩
  have hb := Below.trans HC5.out.2.1 (hs.dn (by have := HC5.out.2.2; omega) (fun k hk => by have hk : k = V + 1 := hk; omega))
  rw [HV.out] at hb ⊢
  exact hb
end Ot
end Go.Proofs.YtkicjjcangkneaaGreatDoor

/-
  The reference's Secret and Signed, and op.Verify: whose signature an operation bears. For operations of few items.
-/
namespace Go.Proofs.YtkicjjcangkneaaGreatDoor
open Go.RowKit
set_option linter.unusedSimpArgs false
set_option linter.unusedVariables false
attribute [local go_sem ↓] Go.wp_at_zero Go.wp_at_succ
set_option maxRecDepth 100000
namespace Ot
open List (getElem_toArray getElem_cons_succ getElem_cons_zero setIfInBounds_toArray set_cons_zero set_cons_succ)
/-- A device's secret, of a kind of key. -/
def sec11 (s : ByteArray) (d : Int) : Nat := Hsh.secret s.data.toList [(IntKind.u64.wrap d).toNat]
theorem sec11_lt (s : ByteArray) (d : Int) : sec11 s d < 18446744073709551616 := by
  unfold sec11 Hsh.secret
  omega
theorem secret11_any (s : ByteArray) (hs : s.size ≤ 1000000) (d : Int) (w : World) :
    Calls Tryz.prog 26 #[.string s, .int .i64 d] w fun e w' => e = .returned (.int .u64 (sec11 s d : Nat)) ∧ Below w.heap.size w w' := by
  obtain ⟨uz, huz⟩ : ∃ u : Nat, IntKind.u64.wrap d = (u : Int) := ⟨(IntKind.u64.wrap d).toNat, (Int.toNat_of_nonneg (by rw [IntKind.wrap_u64]; omega)).symm⟩
  obtain ⟨x, hx⟩ : ∃ x, x = sec11 s d := ⟨_, rfl⟩
  have H := Lib.hid (show Calls Tryz.prog 67 #[.string s, .slice (some ⟨w.heap.size, 0, none⟩) 1 1] (w.alloc (.cells #[.int .u64 (uz : Int)] 25)) _ from rsecret_any s [uz] (some ⟨w.heap.size, 0, none⟩) 1 1 _ hs rfl (by omega) (Sl.rd_blk (blk_new w 25 #[.int .u64 (uz : Int)]) rfl))
  have HX := Lib.hid (show Hsh.secret s.data.toList [uz] = x from by rw [hx]; unfold sec11; rw [huz, Int.toNat_natCast])
  rw [← hx]
  clear hx hs
  go_enter Tryz.func26, Tryz.ntmps26
  go_wp2_with fail
  refine (H.out).mono ?_
  rintro e w1 ⟨rfl, hb⟩
  rw [HX.out]
  have HB := Lib.hid hb
  clear hb H HX
  go_wp2
  go_ret
  exact ⟨rfl, ((Below.refl _ w).alloc (Nat.le_refl _) _).trans (HB.out.mono (by simp))⟩
/-- A store of a signature, as one step of a region. -/
theorem step_store_sig {ops : Array Oper} {op : Oper} {a : Act} {w : World} {G : Act → World → Prop} {Q : Exit → Act → World → Prop} {E : Prop} (hgd : op.guard = none) (x y : Operand) (ho : op.op = .store 33 x y)
    {V r s : Nat} {o : LOp} (hx : a.eval x = .pointer (some ⟨V, 25, none⟩)) (hy : a.eval y = .agg #[.int .u64 (r : Int), .int .u64 (s : Int)]) (hV : Vr w V o)
    (h : ∀ w', Vr w' V { o with r := r, s := s } → w.grownBy w' (some V) → G (a.put op.dst undef) w') : if Region.wanted op (yielded ops a.tmps) = true then Oper.wp Tryz.prog op a w G Q else E := by
  rw [if_pos (by simp [Region.wanted, hgd])]
  exact wp_store_mid 33 x y ho V 25 _ hx hy (hV.there 25 2 (by omega)) sig_info (by simp [Value.oneCell'])
    (h _ ((hV.set 25 (.int .u64 (r : Int)) { o with r := r } rfl).set 26 (.int .u64 (s : Int)) { o with r := r, s := s } rfl) (only_set (only_set (only_refl _ _) 25 _) 26 _))

set_option maxHeartbeats 4000000 in
theorem signed_any {w : World} (o : LOp) (hx : Lies No w o) (ht : Tiny o.er) :
    Calls Tryz.prog 27 #[o.v] w fun e w' => ∃ z : LOp, e = .returned z.v ∧ z.er = sgd o.er (sec11 ⟨#[115, 105, 103, 110]⟩ o.by_) ∧ Lies No w' z ∧ Below w.heap.size w w' := by
  obtain ⟨cs, hcs⟩ : ∃ cs, cs = o.cells := ⟨_, rfl⟩
  have hC := Cn.start w o hx
  obtain ⟨V, hV⟩ : ∃ V, V = w.heap.size := ⟨_, rfl⟩
  have HV := Lib.hid hV
  have HC := Lib.hid (show Cn V w ((w.alloc (.cells cs 35)).alloc (.cells LOp.zero.cells 35)) o o from by rw [hV, hcs]; exact hC)
  have HT := Lib.hid ht
  show Calls _ _ #[.agg o.cells] w _
  rw [← hcs]
  clear hx ht hcs hC hV
  go_enter Tryz.func27, Tryz.ntmps27
  go_upto_region 1 with fail
  rw [zc]
  obtain ⟨w0, hw⟩ : ∃ W, W = ((w.alloc (.cells cs 35)).alloc (.cells LOp.zero.cells 35)) := ⟨_, rfl⟩
  rw [← hw] at HC ⊢
  rw [← HV.out]
  clear hw
  have HC1 := Lib.hid (show Cn V w w0.drew o o from HC.out.below (below_drewN w0 1 _))
  obtain ⟨x, hx⟩ : ∃ x, x = sec11 ⟨#[115, 105, 103, 110]⟩ o.by_ := ⟨_, rfl⟩
  have HX := Lib.hid hx
  have HXL := Lib.hid (show x < 18446744073709551616 from hx ▸ sec11_lt _ _)
  clear hx HC
  refine Ord.start (by kernel_rfl) ?_
  try simp only [Act.put, getElem_toArray, getElem_cons_zero, setIfInBounds_toArray, set_cons_zero, set_cons_succ]
  refine wpAny_take (i := 0) (v := ?_) rfl (by kernel_rfl) (by kernel_rfl) (by kernel_rfl) (fun _ _ _ h => h) (Or.inl ⟨by rfl, ?_⟩) ?_
  rotate_left
  · (intro w; go_simp; try (with_reducible rfl))
  try simp only [Act.put, getElem_toArray, getElem_cons_zero, setIfInBounds_toArray, set_cons_zero, set_cons_succ]
  refine Ord.load_first [7] (fun w' : World => Vr w' V o) (i := 1) (v := ?_) rfl (by kernel_rfl) (by kernel_rfl) (by kernel_rfl) (by kernel_rfl) (by kernel_rfl) (fun _ _ _ h => h) (Or.inl ⟨by rfl, ?_⟩) HC1.out.vr ?_
  rotate_left
  · (intro w hSw; (try dsimp only at hSw); have c0 := (hSw.cell 0).trans o.c0; clear hSw; go_simp; try (with_reducible rfl))
  try simp only [Act.put, getElem_toArray, getElem_cons_succ, getElem_cons_zero, setIfInBounds_toArray, set_cons_zero, set_cons_succ]
  refine Ord.AnyR.load (i := 3) (v := ?_) rfl (by kernel_rfl) (by kernel_rfl) (by kernel_rfl) (by kernel_rfl) (by kernel_rfl) (fun _ _ _ h => h) (Or.inl ⟨by rfl, ?_⟩) HC1.out.vr ?_
  rotate_left
  · (intro w hSw; (try dsimp only at hSw); refine run_load_op _ (.tmp 1) ?_ ?_ hSw <;> rfl)
  try simp only [Act.put, getElem_toArray, getElem_cons_succ, getElem_cons_zero, setIfInBounds_toArray, set_cons_zero, set_cons_succ]
  refine Ord.AnyR.ready1 (i := 2) (by kernel_rfl) rfl (fun K hK => ?_)
  go_simp
  have H := Lib.hid (secret11_any ⟨#[115, 105, 103, 110]⟩ (by decide) o.by_ w0.drew)
  rw [← HX.out] at H
  refine (H.out).mono ?_
  rintro e w1 ⟨rfl, hb⟩
  have HC2 := Lib.hid (HC1.out.below (hb.mono HC1.out.size))
  clear hb H HC1
  try go_simp
  refine hK.out _ _ (fun _ _ => HC2.out.vr) ?_
  clear hK K
  try simp only [Act.put, getElem_toArray, getElem_cons_succ, getElem_cons_zero, setIfInBounds_toArray, set_cons_zero, set_cons_succ]
  refine Ord.AnyR.ready1 (i := 4) (by kernel_rfl) rfl (fun K hK => ?_)
  go_simp
  have H := Lib.hid (rcon_any o HC2.out.src.no HT.out)
  refine (H.out).mono ?_
  rintro e w2 ⟨y, rfl, hyl, hgy, hb⟩
  have HC3 := Lib.hid (HC2.out.below (hb.mono HC2.out.size))
  have HSI := Lib.hid (show Calls Tryz.prog 68 #[.int .u64 (x : Int), y.v] w2 _ from r8sign_any (hgy.lz (F := No) fun _ h => h.elim).bt (by rw [hyl]; have := con_len2 HT.out; omega) x HXL.out)
  have HYL := Lib.hid hyl
  clear hb hyl hgy H HC2
  try go_simp
  refine hK.out _ _ (fun _ _ => HC3.out.vr) ?_
  clear hK K
  try simp only [Act.put, getElem_toArray, getElem_cons_succ, getElem_cons_zero, setIfInBounds_toArray, set_cons_zero, set_cons_succ]
  refine Ord.AnyR.ready1 (i := 5) (by kernel_rfl) rfl (fun K hK => ?_)
  go_simp
  refine (HSI.out).mono ?_
  rintro e w3 ⟨rfl, hb⟩
  have HC4 := Lib.hid (HC3.out.below (hb.mono HC3.out.size))
  rw [HYL.out]
  obtain ⟨R1, hR1⟩ : ∃ r, r = Sg.R x (Sg.msg (con o.er)) := ⟨_, rfl⟩
  obtain ⟨S1, hS1⟩ : ∃ r, r = Sg.S x (Sg.msg (con o.er)) := ⟨_, rfl⟩
  rw [← hR1, ← hS1]
  have HRS := Lib.hid (And.intro hR1 hS1)
  clear hb HSI HC3 HYL hR1 hS1
  try go_simp
  refine hK.out _ _ (fun _ _ => HC4.out.vr) ?_
  clear hK K
  try simp only [Act.put, getElem_toArray, getElem_cons_succ, getElem_cons_zero, setIfInBounds_toArray, set_cons_zero, set_cons_succ]
  refine Ord.AnyR.take (i := 6) (v := ?_) rfl (by kernel_rfl) (by kernel_rfl) (by kernel_rfl) (fun _ _ _ h => h) (fun _ _ h => h) (Or.inl ⟨by rfl, ?_⟩) ?_
  rotate_left
  · (intro w; go_simp; try (with_reducible rfl))
  try simp only [Act.put, getElem_toArray, getElem_cons_succ, getElem_cons_zero, setIfInBounds_toArray, set_cons_zero, set_cons_succ]
  refine Ord.AnyR.ready1 (i := 7) (by kernel_rfl) rfl (fun K hK => ?_)
  refine step_store_sig rfl (.tmp 9) (.tmp 8) rfl (r := R1) (s := S1) rfl rfl HC4.out.vr ?_
  intro w5 hv5 hg5
  have HV5 := Lib.hid hv5
  have HC5 := Lib.hid (show Vr w5 (V + 1) LOp.zero ∧ Below V w w5 ∧ V + 2 ≤ w5.heap.size ∧ Lies (fun k => V ≤ k) w5 o from ⟨blk_grown HC4.out.res hg5 (fun eg => by injection eg with eg; omega), HC4.out.bel.grown hg5 (by have := HC4.out.size; omega) (fun g eg => by injection eg with eg; omega), Nat.le_trans HC4.out.size hg5.size, HC4.out.src.bf (Bf.grown hg5 fun g eg => by injection eg with eg; show V ≤ g; omega)⟩)
  clear hv5 hg5 HC4
  refine hK.out _ _ (fun h => absurd h (by decide)) ?_
  clear hK K
  try simp only [Act.put, getElem_toArray, getElem_cons_succ, getElem_cons_zero, setIfInBounds_toArray, set_cons_zero, set_cons_succ]
  refine Ord.AnyR.end_ (by kernel_rfl) ?_ _
  obtain ⟨c, hc⟩ : ∃ c : LOp, c = { o with r := R1, s := S1 } := ⟨_, rfl⟩
  rw [← hc] at HV5
  have HEE := Lib.hid (show c.er = sgd o.er x from by rw [hc]; unfold sgd; rw [← HRS.out.1, ← HRS.out.2]; rfl)
  have HLC := Lib.hid (show Lies (fun k => V ≤ k) w5 c from hc ▸ (HC5.out.2.2.2.sig R1 S1))
  clear hc HRS
  go_wp2_with (first | (refine wpList_load_op rfl _ rfl rfl HV5.out ?_) | (refine wpList_store_op (o' := c) rfl _ _ rfl rfl rfl HC5.out.1 ?_))
  refine bodyPost_ret (v := c.v) (results_op rfl rfl _ rfl (HC5.out.1.setRow c)) rfl ?_
  have hs : Bf (fun k => k = V + 1) w5 (w5.setRow (V + 1) c.cells) := Bf.setRow _ rfl
  refine ⟨c, rfl, HEE.out.trans (by rw [HX.out]), (HLC.out.bf (hs.weak fun k _ hk => by have hk : k = V + 1 := hk; show V ≤ k; omega)).no, ?_⟩
  have hb := Below.trans HC5.out.2.1 (hs.dn (by have := HC5.out.2.2.1; omega) (fun k hk => by have hk : k = V + 1 := hk; omega))
  rw [HV.out] at hb ⊢
  exact hb

set_option maxHeartbeats 4000000 in
theorem verify_any {w : World} (d m : Int) (l k g : Nat) (hg : u64 g) (o : LOp) (hx : Lies No w o) (ht : Tiny o.er) :
    Calls Tryz.prog 28 #[.agg #[.int .i64 d, .int .i64 m, .int .u64 (l : Int), .int .u64 (k : Int), .int .u64 (g : Int)], o.v] w fun e w' => e = .returned (.bool (decide (o.by_ = d) && Sg.chk g (Sg.msg (con o.er)) o.r o.s)) ∧ Below w.heap.size w w' := by
  obtain ⟨cs, hcs⟩ : ∃ cs, cs = o.cells := ⟨_, rfl⟩
  obtain ⟨C, hCC⟩ : ∃ C, C = w.heap.size := ⟨_, rfl⟩
  have es : (w.alloc (.cells #[.int .i64 d, .int .i64 m, .int .u64 (l : Int), .int .u64 (k : Int), .int .u64 (g : Int)] 61)).heap.size = w.heap.size + 1 := by simp
  have hB := ((Below.refl w.heap.size w).alloc (Nat.le_refl _) (.cells #[.int .i64 d, .int .i64 m, .int .u64 (l : Int), .int .u64 (k : Int), .int .u64 (g : Int)] 61)).alloc (by simp) (.cells cs 35)
  have hN := blk_alloc (blk_new w 61 #[.int .i64 d, .int .i64 m, .int .u64 (l : Int), .int .u64 (k : Int), .int .u64 (g : Int)]) (.cells cs 35)
  have hV := blk_new (w.alloc (.cells #[.int .i64 d, .int .i64 m, .int .u64 (l : Int), .int .u64 (k : Int), .int .u64 (g : Int)] 61)) 35 cs
  rw [es, ← hCC] at hV
  rw [← hCC] at hN
  obtain ⟨w0, hw0⟩ : ∃ W, W = (w.alloc (.cells #[.int .i64 d, .int .i64 m, .int .u64 (l : Int), .int .u64 (k : Int), .int .u64 (g : Int)] 61)).alloc (.cells cs 35) := ⟨_, rfl⟩
  rw [← hw0] at hB hN hV
  have HW0 := Lib.hid hw0
  have HCC := Lib.hid hCC
  have HBd := Lib.hid (show Below w.heap.size w w0.drew from hB.trans (below_drewN w0 1 _))
  have HVd := Lib.hid (show Vr w0.drew (C + 1) o from by unfold Vr; rw [← hcs]; exact hV)
  have HNd := Lib.hid (show Blk w0.drew C 61 #[.int .i64 d, .int .i64 m, .int .u64 (l : Int), .int .u64 (k : Int), .int .u64 (g : Int)] from hN)
  have HLd := Lib.hid (hx.bf (F := No) (Bf.below HBd.out))
  have HT := Lib.hid ht
  have HG := Lib.hid hg
  show Calls _ _ #[_, .agg o.cells] w _
  rw [← hcs]
  clear hx ht hg hcs hCC es hB hN hV hw0
  by_cases hd : o.by_ = d
  · have hq : (o.by_ == d) = true := by rw [beq_iff_eq]; exact hd
    rw [decide_eq_true hd, Bool.true_and]
    clear hd
    obtain ⟨ck, hck⟩ : ∃ b, b = Sg.chk g (Sg.msg (con o.er)) o.r o.s := ⟨_, rfl⟩
    have HCK := Lib.hid hck
    rw [← hck]
    clear hck
    go_enter Tryz.func28, Tryz.ntmps28
    go_upto_region 1 with fail
    rw [← HW0.out, ← HCC.out]
    refine wp_region_held_drew (S := (fun w' : World => Vr w' (C + 1) o ∧ Blk w' C 61 #[.int .i64 d, .int .i64 m, .int .u64 (l : Int), .int .u64 (k : Int), .int .u64 (g : Int)])) (by kernel_rfl) ⟨HVd.out, HNd.out⟩ (fun hHeld => ?_)
    try simp only [Act.put, getElem_toArray, getElem_cons_zero, setIfInBounds_toArray, set_cons_zero, set_cons_succ]
    refine wpAnyH_take (i := 0) (v := ?_) rfl (by kernel_rfl) (by kernel_rfl) (by kernel_rfl) (fun _ _ _ h => h) (Or.inl ⟨by rfl, ?_⟩) (by assumption) ?_
    rotate_left
    · (intro w hSw; (try dsimp only at hSw); clear hSw; go_simp; try (with_reducible rfl))
    try simp only [Act.put, getElem_toArray, getElem_cons_zero, setIfInBounds_toArray, set_cons_zero, set_cons_succ]
    refine wpAnyH_take (i := 1) (v := ?_) rfl (by kernel_rfl) (by kernel_rfl) (by kernel_rfl) (fun _ _ _ h => h) (Or.inl ⟨by rfl, ?_⟩) (by assumption) ?_
    rotate_left
    · (intro w hSw; (try dsimp only at hSw); have c0 := (hSw.1.cell 0).trans o.c0; clear hSw; go_simp; try (with_reducible rfl))
    try simp only [Act.put, getElem_toArray, getElem_cons_succ, getElem_cons_zero, setIfInBounds_toArray, set_cons_zero, set_cons_succ]
    refine wpAnyH_take (i := 2) (v := ?_) rfl (by kernel_rfl) (by kernel_rfl) (by kernel_rfl) (fun _ _ _ h => h) (Or.inl ⟨by rfl, ?_⟩) (by assumption) ?_
    rotate_left
    · (intro w hSw; (try dsimp only at hSw); clear hSw; go_simp; try (with_reducible rfl))
    try simp only [Act.put, getElem_toArray, getElem_cons_succ, getElem_cons_zero, setIfInBounds_toArray, set_cons_zero, set_cons_succ]
    refine wpAnyH_take (i := 3) (v := ?_) rfl (by kernel_rfl) (by kernel_rfl) (by kernel_rfl) (fun _ _ _ h => h) (Or.inl ⟨by rfl, ?_⟩) (by assumption) ?_
    rotate_left
    · (intro w hSw; (try dsimp only at hSw); have c0 := (hSw.2.cell 0); clear hSw; go_simp; try (with_reducible rfl))
    try simp only [Act.put, getElem_toArray, getElem_cons_succ, getElem_cons_zero, setIfInBounds_toArray, set_cons_zero, set_cons_succ]
    refine wpAnyH_take (i := 4) (v := ?_) rfl (by kernel_rfl) (by kernel_rfl) (by kernel_rfl) (fun _ _ _ h => h) (Or.inl ⟨by rfl, ?_⟩) (by assumption) ?_
    rotate_left
    · (intro w hSw; (try dsimp only at hSw); clear hSw; go_simp; try (with_reducible rfl))
    try simp only [Act.put, getElem_toArray, getElem_cons_succ, getElem_cons_zero, setIfInBounds_toArray, set_cons_zero, set_cons_succ]
    refine wpAnyH_take (i := 5) (v := ?_) rfl (by kernel_rfl) (by kernel_rfl) (by kernel_rfl) (fun _ _ _ h => h) (Or.inl ⟨by rfl, ?_⟩) (by assumption) ?_
    rotate_left
    · (intro w hSw; (try dsimp only at hSw); clear hSw; go_simp; try (with_reducible rfl))
    try simp only [Act.put, getElem_toArray, getElem_cons_succ, getElem_cons_zero, setIfInBounds_toArray, set_cons_zero, set_cons_succ]
    refine wpAnyH_take (i := 6) (v := ?_) rfl (by kernel_rfl) (by kernel_rfl) (by kernel_rfl) (fun _ _ _ h => h) (Or.inl ⟨by rfl, ?_⟩) (by assumption) ?_
    rotate_left
    · (intro w hSw; (try dsimp only at hSw); clear hSw; go_simp; try (with_reducible rfl))
    try simp only [Act.put, getElem_toArray, getElem_cons_succ, getElem_cons_zero, setIfInBounds_toArray, set_cons_zero, set_cons_succ]
    refine wpAnyH_take (i := 7) (v := ?_) rfl (by kernel_rfl) (by kernel_rfl) (by kernel_rfl) (fun _ _ _ h => h) (Or.inl ⟨by rfl, ?_⟩) (by assumption) ?_
    rotate_left
    · (intro w hSw; (try dsimp only at hSw); have c4 := (hSw.2.cell 4); clear hSw; go_simp; try (with_reducible rfl))
    try simp only [Act.put, getElem_toArray, getElem_cons_succ, getElem_cons_zero, setIfInBounds_toArray, set_cons_zero, set_cons_succ]
    refine wpAnyH_take (i := 8) (v := ?_) rfl (by kernel_rfl) (by kernel_rfl) (by kernel_rfl) (fun _ _ _ h => h) (Or.inl ⟨by rfl, ?_⟩) (by assumption) ?_
    rotate_left
    · (intro w hSw; (try dsimp only at hSw); refine run_load_op _ (.tmp 3) ?_ ?_ hSw.1 <;> rfl)
    try simp only [Act.put, getElem_toArray, getElem_cons_succ, getElem_cons_zero, setIfInBounds_toArray, set_cons_zero, set_cons_succ]
    refine wpAnyH_take (i := 10) (v := ?_) rfl (by kernel_rfl) (by kernel_rfl) (by kernel_rfl) (fun _ _ _ h => h) (Or.inl ⟨by rfl, ?_⟩) (by assumption) ?_
    rotate_left
    · (intro w hSw; (try dsimp only at hSw); clear hSw; go_simp; try (with_reducible rfl))
    try simp only [Act.put, getElem_toArray, getElem_cons_succ, getElem_cons_zero, setIfInBounds_toArray, set_cons_zero, set_cons_succ]
    refine wpAnyH_take (i := 11) (v := ?_) rfl (by kernel_rfl) (by kernel_rfl) (by kernel_rfl) (fun _ _ _ h => h) (Or.inl ⟨by rfl, ?_⟩) (by assumption) ?_
    rotate_left
    · (intro w hSw; (try dsimp only at hSw); have c25 := (hSw.1.cell 25).trans o.c25; have c26 := (hSw.1.cell 26).trans o.c26; clear hSw; go_simp; try (with_reducible rfl))
    try simp only [Act.put, getElem_toArray, getElem_cons_succ, getElem_cons_zero, setIfInBounds_toArray, set_cons_zero, set_cons_succ]
    refine wpAnyH_ready (rs := [9]) (by kernel_rfl) (by simp) ?_
    refine AllReadyH.cons rfl (fun K hK => ?_) AllReadyH.nil
    go_simp
    have H := Lib.hid (content_any o HLd.out HT.out.small (by have := con_len2 HT.out; omega))
    refine (H.out).mono ?_
    rintro e w2 ⟨y, rfl, hyl, hgy, hb⟩
    have HV2 := Lib.hid (HVd.out.below hb (Blk.lt HVd.out))
    have HN2 := Lib.hid (HNd.out.below hb HNd.out.lt)
    have HB2 := Lib.hid (HBd.out.trans (hb.mono HBd.out.size))
    have HCH := Lib.hid (show Calls Tryz.prog 29 #[.int .u64 (g : Int), y.v, .agg #[.int .u64 (o.r : Int), .int .u64 (o.s : Int)]] w2 _ from check_any (hgy.lz (F := No) fun _ h => h.elim).bt (by rw [hyl]; have := con_len2 HT.out; omega) g o.r o.s HG.out HT.out.ok.r HT.out.ok.s)
    have HYL := Lib.hid hyl
    clear hb hyl hgy H HVd HNd HBd
    try go_simp
    refine hK.out _ _ ⟨HV2.out, HN2.out⟩ (fun hHeld => ?_)
    clear hK K
    try simp only [Act.put, getElem_toArray, getElem_cons_succ, getElem_cons_zero, setIfInBounds_toArray, set_cons_zero, set_cons_succ]
    refine wpAnyH_ready (rs := [12]) (by kernel_rfl) (by simp) ?_
    refine AllReadyH.cons rfl (fun K hK => ?_) AllReadyH.nil
    go_simp
    refine (HCH.out).mono ?_
    rintro e w3 ⟨rfl, hb⟩
    have HV3 := Lib.hid (HV2.out.below hb (Blk.lt HV2.out))
    have HN3 := Lib.hid (HN2.out.below hb HN2.out.lt)
    have HB3 := Lib.hid (HB2.out.trans (hb.mono HB2.out.size))
    rw [HYL.out, ← HCK.out]
    clear hb HCH HYL HV2 HN2 HB2
    try go_simp
    refine hK.out _ _ ⟨HV3.out, HN3.out⟩ (fun hHeld => ?_)
    clear hK K
    try simp only [Act.put, getElem_toArray, getElem_cons_succ, getElem_cons_zero, setIfInBounds_toArray, set_cons_zero, set_cons_succ]
    refine wpAnyH_take (i := 13) (v := ?_) rfl (by kernel_rfl) (by kernel_rfl) (by kernel_rfl) (fun _ _ _ h => h) (Or.inl ⟨by rfl, ?_⟩) (by assumption) ?_
    rotate_left
    · (intro w hSw; (try dsimp only at hSw); clear hSw; go_simp; try (with_reducible rfl))
    try simp only [Act.put, getElem_toArray, getElem_cons_succ, getElem_cons_zero, setIfInBounds_toArray, set_cons_zero, set_cons_succ]
    refine wpAnyH_take (i := 14) (v := ?_) rfl (by kernel_rfl) (by kernel_rfl) (by kernel_rfl) (fun _ _ _ h => h) (Or.inl ⟨by rfl, ?_⟩) (by assumption) ?_
    rotate_left
    · (intro w hSw; (try dsimp only at hSw); clear hSw; go_simp; try (with_reducible rfl))
    try simp only [Act.put, getElem_toArray, getElem_cons_succ, getElem_cons_zero, setIfInBounds_toArray, set_cons_zero, set_cons_succ]
    refine wpAnyH_done (by kernel_rfl) ?_ _
    go_wp2
    go_ret
    exact ⟨rfl, HB3.out⟩
  · have hq : (o.by_ == d) = false := by rw [beq_eq_false_iff_ne]; exact hd
    rw [decide_eq_false hd, Bool.false_and]
    clear hd
    go_enter Tryz.func28, Tryz.ntmps28
    go_upto_region 1 with fail
    rw [← HW0.out, ← HCC.out]
    refine wp_region_held_drew (S := (fun w' : World => Vr w' (C + 1) o ∧ Blk w' C 61 #[.int .i64 d, .int .i64 m, .int .u64 (l : Int), .int .u64 (k : Int), .int .u64 (g : Int)])) (by kernel_rfl) ⟨HVd.out, HNd.out⟩ (fun hHeld => ?_)
    try simp only [Act.put, getElem_toArray, getElem_cons_zero, setIfInBounds_toArray, set_cons_zero, set_cons_succ]
    refine wpAnyH_take (i := 0) (v := ?_) rfl (by kernel_rfl) (by kernel_rfl) (by kernel_rfl) (fun _ _ _ h => h) (Or.inl ⟨by rfl, ?_⟩) (by assumption) ?_
    rotate_left
    · (intro w hSw; (try dsimp only at hSw); clear hSw; go_simp; try (with_reducible rfl))
    try simp only [Act.put, getElem_toArray, getElem_cons_zero, setIfInBounds_toArray, set_cons_zero, set_cons_succ]
    refine wpAnyH_take (i := 1) (v := ?_) rfl (by kernel_rfl) (by kernel_rfl) (by kernel_rfl) (fun _ _ _ h => h) (Or.inl ⟨by rfl, ?_⟩) (by assumption) ?_
    rotate_left
    · (intro w hSw; (try dsimp only at hSw); have c0 := (hSw.1.cell 0).trans o.c0; clear hSw; go_simp; try (with_reducible rfl))
    try simp only [Act.put, getElem_toArray, getElem_cons_succ, getElem_cons_zero, setIfInBounds_toArray, set_cons_zero, set_cons_succ]
    refine wpAnyH_take (i := 2) (v := ?_) rfl (by kernel_rfl) (by kernel_rfl) (by kernel_rfl) (fun _ _ _ h => h) (Or.inl ⟨by rfl, ?_⟩) (by assumption) ?_
    rotate_left
    · (intro w hSw; (try dsimp only at hSw); clear hSw; go_simp; try (with_reducible rfl))
    try simp only [Act.put, getElem_toArray, getElem_cons_succ, getElem_cons_zero, setIfInBounds_toArray, set_cons_zero, set_cons_succ]
    refine wpAnyH_take (i := 3) (v := ?_) rfl (by kernel_rfl) (by kernel_rfl) (by kernel_rfl) (fun _ _ _ h => h) (Or.inl ⟨by rfl, ?_⟩) (by assumption) ?_
    rotate_left
    · (intro w hSw; (try dsimp only at hSw); have c0 := (hSw.2.cell 0); clear hSw; go_simp; try (with_reducible rfl))
    try simp only [Act.put, getElem_toArray, getElem_cons_succ, getElem_cons_zero, setIfInBounds_toArray, set_cons_zero, set_cons_succ]
    refine wpAnyH_take (i := 4) (v := ?_) rfl (by kernel_rfl) (by kernel_rfl) (by kernel_rfl) (fun _ _ _ h => h) (Or.inl ⟨by rfl, ?_⟩) (by assumption) ?_
    rotate_left
    · (intro w hSw; (try dsimp only at hSw); clear hSw; go_simp; try (with_reducible rfl))
    try simp only [Act.put, getElem_toArray, getElem_cons_succ, getElem_cons_zero, setIfInBounds_toArray, set_cons_zero, set_cons_succ]
    refine wpAnyH_take (i := 5) (v := ?_) rfl (by kernel_rfl) (by kernel_rfl) (by kernel_rfl) (fun _ _ _ h => h) (Or.inl ⟨by rfl, ?_⟩) (by assumption) ?_
    rotate_left
    · (intro w hSw; (try dsimp only at hSw); clear hSw; go_simp; try (with_reducible rfl))
    try simp only [Act.put, getElem_toArray, getElem_cons_succ, getElem_cons_zero, setIfInBounds_toArray, set_cons_zero, set_cons_succ]
    refine wpAnyH_take (i := 6) (v := undef) rfl (by kernel_rfl) (by kernel_rfl) (by kernel_rfl) (fun _ _ _ h => h) (Or.inr ⟨by rfl, rfl⟩) (by assumption) ?_
    try simp only [Act.put, getElem_toArray, getElem_cons_succ, getElem_cons_zero, setIfInBounds_toArray, set_cons_zero, set_cons_succ]
    refine wpAnyH_take (i := 7) (v := undef) rfl (by kernel_rfl) (by kernel_rfl) (by kernel_rfl) (fun _ _ _ h => h) (Or.inr ⟨by rfl, rfl⟩) (by assumption) ?_
    try simp only [Act.put, getElem_toArray, getElem_cons_succ, getElem_cons_zero, setIfInBounds_toArray, set_cons_zero, set_cons_succ]
    refine wpAnyH_take (i := 8) (v := undef) rfl (by kernel_rfl) (by kernel_rfl) (by kernel_rfl) (fun _ _ _ h => h) (Or.inr ⟨by rfl, rfl⟩) (by assumption) ?_
    try simp only [Act.put, getElem_toArray, getElem_cons_succ, getElem_cons_zero, setIfInBounds_toArray, set_cons_zero, set_cons_succ]
    refine wpAnyH_take (i := 9) (v := undef) rfl (by kernel_rfl) (by kernel_rfl) (by kernel_rfl) (fun _ _ _ h => h) (Or.inr ⟨by rfl, rfl⟩) (by assumption) ?_
    try simp only [Act.put, getElem_toArray, getElem_cons_succ, getElem_cons_zero, setIfInBounds_toArray, set_cons_zero, set_cons_succ]
    refine wpAnyH_take (i := 10) (v := undef) rfl (by kernel_rfl) (by kernel_rfl) (by kernel_rfl) (fun _ _ _ h => h) (Or.inr ⟨by rfl, rfl⟩) (by assumption) ?_
    try simp only [Act.put, getElem_toArray, getElem_cons_succ, getElem_cons_zero, setIfInBounds_toArray, set_cons_zero, set_cons_succ]
    refine wpAnyH_take (i := 11) (v := undef) rfl (by kernel_rfl) (by kernel_rfl) (by kernel_rfl) (fun _ _ _ h => h) (Or.inr ⟨by rfl, rfl⟩) (by assumption) ?_
    try simp only [Act.put, getElem_toArray, getElem_cons_succ, getElem_cons_zero, setIfInBounds_toArray, set_cons_zero, set_cons_succ]
    refine wpAnyH_take (i := 12) (v := undef) rfl (by kernel_rfl) (by kernel_rfl) (by kernel_rfl) (fun _ _ _ h => h) (Or.inr ⟨by rfl, rfl⟩) (by assumption) ?_
    try simp only [Act.put, getElem_toArray, getElem_cons_succ, getElem_cons_zero, setIfInBounds_toArray, set_cons_zero, set_cons_succ]
    refine wpAnyH_take (i := 13) (v := ?_) rfl (by kernel_rfl) (by kernel_rfl) (by kernel_rfl) (fun _ _ _ h => h) (Or.inl ⟨by rfl, ?_⟩) (by assumption) ?_
    rotate_left
    · (intro w hSw; (try dsimp only at hSw); clear hSw; go_simp; try (with_reducible rfl))
    try simp only [Act.put, getElem_toArray, getElem_cons_succ, getElem_cons_zero, setIfInBounds_toArray, set_cons_zero, set_cons_succ]
    refine wpAnyH_take (i := 14) (v := ?_) rfl (by kernel_rfl) (by kernel_rfl) (by kernel_rfl) (fun _ _ _ h => h) (Or.inl ⟨by rfl, ?_⟩) (by assumption) ?_
    rotate_left
    · (intro w hSw; (try dsimp only at hSw); clear hSw; go_simp; try (with_reducible rfl))
    try simp only [Act.put, getElem_toArray, getElem_cons_succ, getElem_cons_zero, setIfInBounds_toArray, set_cons_zero, set_cons_succ]
    refine wpAnyH_done (by kernel_rfl) ?_ _
    go_wp2
    go_ret
    exact ⟨rfl, HBd.out⟩

end Ot
end Go.Proofs.YtkicjjcangkneaaGreatDoor

/-
  Package op's Get: what it tells lies in memory of its own. For up to a million bytes.
-/
namespace Go.Proofs.YtkicjjcangkneaaGreatDoor
open Go.RowKit
attribute [local go_sem ↓] Go.wp_at_zero Go.wp_at_succ
set_option maxRecDepth 100000
namespace Ot
/-- What Get tells, in memory of its own. -/
def Gown (w : World) (l : List UInt8) (x : Ending) (w' : World) : Prop :=
  ∃ o : LOp, x = .returned (.tuple #[o.v, .int .i64 (wrong l)]) ∧ Lies (fun k => k < w.heap.size) w' o ∧ Ok o.er ∧ (wrong l = 0 → o.er = (pOp l).v) ∧ Below w.heap.size w w'
set_option maxHeartbeats 4000000 in
theorem get_own {w : World} (b : Ls UInt8) (hb : Lz kU8 No w b) (hl : b.l.length ≤ 1000000) :
    Calls Tryz.prog 21 #[b.v] w (Gown w b.l) := by
  obtain ⟨l, A, c⟩ := b
  obtain ⟨m, hm⟩ : ∃ m, m = l.length := ⟨_, rfl⟩
  have hb1 := hb.bf (Bf.alloc w (.cells LOp.zero.cells 35))
  have hop := open_any A l m c (w.alloc (.cells LOp.zero.cells 35)) hm (by rw [hm]; exact hl) hb1.rd8 (fun e => by
    obtain ⟨h1, h2⟩ := hb.none_ e
    exact ⟨by rw [hm]; exact h1, h2⟩)
  have HOP := Lib.hid hop
  have HR := Lib.hid (Vr.new w LOp.zero)
  have HB0 := Lib.hid ((Below.refl w.heap.size w).alloc (Nat.le_refl _) (.cells LOp.zero.cells 35))
  have hs0 : (w.alloc (.cells LOp.zero.cells 35)).heap.size = w.heap.size + 1 := by simp
  obtain ⟨w0, hw0⟩ : ∃ w0, w0 = w.alloc (.cells LOp.zero.cells 35) := ⟨_, rfl⟩
  rw [← hw0] at HOP HR HB0 hs0
  show Calls _ _ #[.slice A l.length c] w (Gown w l)
  rw [← hm]
  have HW0 := Lib.hid hw0
  have HM := Lib.hid hm
  have HS0 := Lib.hid hs0
  clear hb hl hb1 hop hw0 hm hs0
  go_enter Tryz.func21, Tryz.ntmps21
  go_wp2_with fail
  rw [zc, ← HW0.out]
  refine (HOP.out).mono ?_
  rintro x w1 ⟨C, rfl, hC, hcu1, hb1⟩
  have HRD := Lib.hid (read_any hcu1)
  have HR1 := Lib.hid (Vr.below HR.out hb1 (by have := HS0.out; omega))
  have HB1 := Lib.hid (HB0.out.trans (hb1.mono (by have := HS0.out; omega)))
  have HC := Lib.hid (show w.heap.size < C by have := HS0.out; omega)
  have HL := Lib.hid (show C < w1.heap.size from hcu1.lt)
  clear hcu1 hb1 hC HOP HR HB0
  go_wp2_with fail
  refine (HRD.out).mono ?_
  rintro x w2 ⟨o, rfl, hlies, hok, hr0, hs0, k1, e1, hcu2, hrok, hg2⟩
  have HLI := Lib.hid hlies
  have HOK := Lib.hid hok
  have HRO := Lib.hid hrok
  have HR2 := Lib.hid (show Vr w2 w.heap.size LOp.zero from blk_grown HR1.out hg2 (fun eg => by injection eg with eg; have := HC.out; omega))
  have HB2 := Lib.hid (HB1.out.grown hg2 (by have := HB1.out.size; omega) (fun j ej => by injection ej with ej; have := HC.out; omega))
  have HS2 := Lib.hid (show w1.heap.size ≤ w2.heap.size from hg2.size)
  have HCU2 := Lib.hid hcu2
  obtain ⟨ov, hov⟩ : ∃ ov, ov = o.v := ⟨_, rfl⟩
  rw [← hov]
  have HOV := Lib.hid hov
  have HV5 := Lib.hid (Vr.new w2 LOp.zero)
  clear hlies hok hrok hg2 hcu2 HRD HR1 HB1 hov hr0 hs0
  go_wp2_with (refine wpList_store_op rfl _ _ rfl rfl HOV.out HV5.out ?_)
  obtain ⟨w3, hw3⟩ : ∃ w3, w3 = (w2.alloc (.cells LOp.zero.cells 35)).setRow w2.heap.size o.cells := ⟨_, rfl⟩
  have hv3 : Vr w3 w2.heap.size o := hw3 ▸ HV5.out.setRow o
  have hbf : Bf (fun k => k = w2.heap.size) w2 w3 := by
    rw [hw3]
    exact (Bf.alloc w2 _).trans (Bf.setRow _ rfl)
  have hg3 : w2.grownBy w3 none := by
    rw [hw3]
    exact (World.grownBy_alloc w2 _ none).andThen (grown_setRow _ _ _) fun j ej => by injection ej with ej; exact .inl (by omega)
  have hcu3 : Cu C 165 w3 C l k1 e1 := HCU2.out.grown hg3 fun g eg => by cases eg
  have hr3 : Vr w3 w.heap.size LOp.zero := blk_grown HR2.out hg3 (fun eg => by cases eg)
  have HLI3 := Lib.hid ((HLI.out.weak (G := Oth w1.heap.size w2.heap.size) fun k hk h => h.elim id fun h => by omega).bf (Bf.grown hg3 fun g eg => by cases eg))
  have HB3 := Lib.hid (HB2.out.grown hg3 (by have := HB2.out.size; omega) (fun j ej => by cases ej))
  have HS3 := Lib.hid (show w2.heap.size < w3.heap.size from Blk.lt hv3)
  rw [zc, ← hw3]
  have HRD := Lib.hid (rd_num hcu3)
  have HV3 := Lib.hid hv3
  have HR3 := Lib.hid hr3
  have hCV : C ≠ w2.heap.size := by have := HL.out; have := HS2.out; omega
  have hRV : w.heap.size ≠ w2.heap.size := by have := HL.out; have := HS2.out; have := HC.out; omega
  have hRC : w.heap.size ≠ C := by have := HC.out; omega
  have HLT := Lib.hid (show C < w1.heap.size ∧ w1.heap.size ≤ w2.heap.size ∧ w.heap.size < C from ⟨HL.out, HS2.out, HC.out⟩)
  clear hw3 hv3 hbf hg3 hcu3 hr3 HV5 HCU2 HR2 HLI HB2 HL HS2 HC
  go_wp2_with fail
  refine (HRD.out).mono ?_
  rintro x w4 ⟨r, rfl, hr, k2, e2, hcu4, hrok2, hg4⟩
  have HRR := Lib.hid hr
  have HRO2 := Lib.hid hrok2
  have HV4 := Lib.hid (show Vr w4 w2.heap.size o from blk_grown HV3.out hg4 (fun eg => by injection eg with eg; exact hCV eg.symm))
  have HR4 := Lib.hid (show Vr w4 w.heap.size LOp.zero from blk_grown HR3.out hg4 (fun eg => by injection eg with eg; exact hRC eg))
  have HLI4 := Lib.hid (HLI3.out.bf (Bf.grown hg4 fun g eg => by injection eg with eg; exact .inl (eg ▸ HLT.out.1)))
  have HB4 := Lib.hid (HB3.out.grown hg4 (by have := HB3.out.size; omega) (fun j ej => by injection ej with ej; have := HLT.out.2.2; omega))
  have HRD2 := Lib.hid (rd_num hcu4)
  clear hr hcu4 hrok2 hg4 HV3 HR3 HLI3 HB3 HRD
  go_wp2_with fail
  refine (HRD2.out).mono ?_
  rintro x w5 ⟨s, rfl, hs, k3, e3, hcu5, hrok3, hg5⟩
  have HSS := Lib.hid hs
  have HRO3 := Lib.hid hrok3
  have HV5 := Lib.hid (show Vr w5 w2.heap.size o from blk_grown HV4.out hg5 (fun eg => by injection eg with eg; exact hCV eg.symm))
  have HR5 := Lib.hid (show Vr w5 w.heap.size LOp.zero from blk_grown HR4.out hg5 (fun eg => by injection eg with eg; exact hRC eg))
  have HLI5 := Lib.hid (HLI4.out.bf (Bf.grown hg5 fun g eg => by injection eg with eg; exact .inl (eg ▸ HLT.out.1)))
  have HB5 := Lib.hid (HB4.out.grown hg5 (by have := HB4.out.size; omega) (fun j ej => by injection ej with ej; have := HLT.out.2.2; omega))
  have HCU5 := Lib.hid hcu5
  clear hs hcu5 hrok3 hg5 HV4 HR4 HLI4 HB4 HRD2
  go_wp2_with (refine wpList_store_sig rfl _ _ rfl rfl rfl HV5.out ?_; intro w6 hv6 hg6; have HV6 := Lib.hid hv6; have HG6 := Lib.hid hg6; clear hv6 hg6)
  have hcu6 := HCU5.out.grown HG6.out fun g eg => by injection eg with eg; have := HLT.out; omega
  have HR6 := Lib.hid (show Vr w6 w.heap.size LOp.zero from blk_grown HR5.out HG6.out (fun eg => by injection eg with eg; exact hRV eg))
  have HLI6 := Lib.hid (HLI5.out.bf (Bf.grown HG6.out fun g eg => by injection eg with eg; exact .inr (Nat.le_of_eq eg)))
  have HB6 := Lib.hid (HB5.out.grown HG6.out (by have := HB5.out.size; omega) (fun j ej => by injection ej with ej; have := HLT.out; omega))
  have HEN := Lib.hid (in_end hcu6)
  have hew := endd_wrong HRO.out HRO2.out HRO3.out
  have HEW := Lib.hid hew
  clear hew hcu6 HCU5 HLI5 HR5 HV5 HB5
  obtain ⟨z, hz⟩ : ∃ z, z = wrong l := ⟨_, rfl⟩
  rw [HEW.out.1, ← hz] at HEN
  have HZ := Lib.hid hz
  clear hz
  go_wp2_with fail
  refine (HEN.out).mono ?_
  rintro x w7 ⟨rfl, n, rfl⟩
  have HR7 := Lib.hid (show Vr (w6.drewN n) w.heap.size LOp.zero from HR6.out)
  have HV7 := Lib.hid (show Vr (w6.drewN n) w2.heap.size { o with r := r, s := s } from HV6.out)
  have HLI7 := Lib.hid (show Lies (Oth w1.heap.size w2.heap.size) (w6.drewN n) o from HLI6.out.bf ⟨rfl, rfl, rfl, Nat.le_refl _, fun _ _ _ => rfl⟩)
  have HB7 := Lib.hid (show Below w.heap.size w (w6.drewN n) from ⟨HB6.out.os, HB6.out.tape, HB6.out.output, HB6.out.size, HB6.out.block⟩)
  obtain ⟨w7, hw7⟩ : ∃ w7, w7 = w6.drewN n := ⟨_, rfl⟩
  rw [← hw7] at HR7 HV7 HLI7 HB7 ⊢
  obtain ⟨o2, ho2⟩ : ∃ o2 : LOp, o2 = { o with r := r, s := s } := ⟨_, rfl⟩
  rw [← ho2] at HV7
  have HO2 := Lib.hid ho2
  clear HEN HR6 HV6 HLI6 HB6 hw7 ho2
  by_cases hq0 : z = 0
  · have hq : (z != 0) = false := by rw [hq0]; rfl
    have hq1 : (z == 0) = true := by rw [hq0]; rfl
    have HQ := Lib.hid hq0
    clear hq0
    go_wp2_with (first | refine wpList_load_op rfl _ rfl rfl HV7.out ?_ | (refine wpList_store_op rfl _ _ rfl rfl rfl HR7.out ?_))
    have hvr := HR7.out.setRow o2
    have hbr : Below w.heap.size w (w7.setRow w.heap.size o2.cells) := HB7.out.grown (grown_setRow _ _ _) (by have := HB7.out.size; omega) (fun j ej => by injection ej with ej; omega)
    have hlr := (HLI7.out.bf (Bf.grown (grown_setRow w7 w.heap.size o2.cells) fun g eg => by injection eg with eg; have := HLT.out; exact .inl (by omega))).weak (G := fun k => k < w.heap.size) fun k _ hk => .inl (by have hk : k < w.heap.size := hk; have := HLT.out; omega)
    refine bodyPost_ret (v := .tuple #[o2.v, .int .i64 0]) (results_op_tmp rfl rfl _ _ rfl rfl hvr) rfl ?_
    have hz := HZ.out
    have hz0 := HQ.out
    rw [hz] at hz0
    refine ⟨o2, by rw [hz0], ?_, ?_, fun h => ?_, hbr⟩
    · rw [HO2.out]; exact (HO2.out ▸ hlr).sig r s
    · rw [HO2.out]; exact HOK.out.sig HRR.out HSS.out
    · rw [HO2.out, er_sig]; exact HEW.out.2 h
  · have hq : (z != 0) = true := by rw [bne_iff_ne]; exact hq0
    have hq1 : (z == 0) = false := by rw [beq_eq_false_iff_ne]; exact hq0
    have HQ := Lib.hid hq0
    clear hq0
    go_wp2_with (first | refine wpList_build_zero rfl rfl ?_ | (refine wpList_store_op rfl _ _ rfl rfl rfl HR7.out ?_))
    have hvr := HR7.out.setRow LOp.zero
    have hbr : Below w.heap.size w (w7.setRow w.heap.size LOp.zero.cells) := HB7.out.grown (grown_setRow _ _ _) (by have := HB7.out.size; omega) (fun j ej => by injection ej with ej; omega)
    refine bodyPost_ret (v := .tuple #[LOp.zero.v, .int .i64 z]) (results_op_tmp rfl rfl _ _ rfl rfl hvr) rfl ?_
    have hz := HZ.out
    exact ⟨LOp.zero, by rw [hz], Lies.zero _ _, zero_ok, fun h => absurd (hz.trans h) HQ.out, hbr⟩
end Ot
end Go.Proofs.YtkicjjcangkneaaGreatDoor

/-
  What was handed in may be changed, and what is answered, too (P11.3, P11.4): 'huddlelaw11.OpOwns' returns true. The table of kinds reads as it was laid.
-/
namespace Go.Proofs.YtkicjjcangkneaaGreatDoor
open Go.RowKit
set_option linter.unusedSimpArgs false
set_option linter.unusedVariables false
attribute [local go_sem ↓] Go.wp_at_zero Go.wp_at_succ
set_option maxRecDepth 100000
namespace Ot
open List (getElem_toArray getElem_cons_succ getElem_cons_zero setIfInBounds_toArray set_cons_zero set_cons_succ)
/-- An operation and the same, signed, each in a variable; all of the signed one's lists are its own. -/
structure S3 (lo : Nat) (w0 w : World) (V1 V2 B : Nat) (o s : LOp) (x : Nat) : Prop where
  v1 : Vr w V1 o
  v2 : Vr w V2 s
  v12 : V1 < V2
  v1B : V1 < B
  src : Lies (fun k => B ≤ k) w o
  srcV : Lies (fun k => k = V2) w o
  own : Own B w s
  er : s.er = sgd o.er x
  bel : Below lo w0 w
  loV : lo ≤ V2
  loB : lo ≤ B
theorem step_store_op {ops : Array Oper} {op : Oper} {a : Act} {w : World} {G : Act → World → Prop} {Q : Exit → Act → World → Prop} {E : Prop} (hgd : op.guard = none) (x y : Operand) (ho : op.op = .store 35 x y)
    {V : Nat} {o o' : LOp} (hx : a.eval x = .pointer (some ⟨V, 0, none⟩)) (hy : a.eval y = o'.v) (hV : Vr w V o)
    (h : G (a.put op.dst undef) (w.setRow V o'.cells)) : if Region.wanted op (yielded ops a.tmps) = true then Oper.wp Tryz.prog op a w G Q else E := by
  rw [if_pos (by simp [Region.wanted, hgd])]
  exact wp_store_row 35 x y ho V o'.cells hx hy 35 o.cells hV (by rw [o'.size]; exact op_info) rfl o'.one h
theorem sgd_tiny {o : Er} (h : Tiny o) (x : Nat) : Tiny (sgd o x) := by
  unfold sgd
  obtain ⟨r, hr⟩ : ∃ r, r = Sg.R x (Sg.msg (con o)) := ⟨_, rfl⟩
  obtain ⟨s, hs⟩ : ∃ r, r = Sg.S x (Sg.msg (con o)) := ⟨_, rfl⟩
  have h1 : u64 r := by rw [hr]; exact Nat.lt_trans (Sg.R_lt _ _) (by decide)
  have h2 : u64 s := by rw [hs]; exact Nat.lt_trans (Sg.S_lt _ _) (by decide)
  rw [← hr, ← hs]
  exact ⟨⟨h.ok.by_, h.ok.seq, h.ok.kind, h.ok.at_, h.ok.past, h.ok.dev, h.ok.old, h.ok.mem, h.ok.role, h.ok.path, h.ok.epoch, h.ok.n, h.ok.body, h.ok.refs, h.ok.of_, h.ok.guards, h.ok.need, h.ok.wait, h.ok.boxes, h.ok.pub, h.ok.hist, h1, h2⟩, h.past, h.path, h.pathB, h.body, h.refs, h.guards, h.boxes, h.hist, h.histB⟩

theorem put_pos1 (o : Er) : 0 < (put o).length := by
  have h : ∃ R, put o = Pk.nInt o.by_ ++ R := ⟨_, by unfold put con; rw [List.append_assoc]⟩
  obtain ⟨R, h⟩ := h
  have := Pk.num_pos (Pk.zig o.by_)
  rw [h, List.length_append]
  unfold Pk.nInt
  omega
/-- A list of one's own that may be written. -/
def Wb {α : Type} (K : Kd α) (B : Nat) (w : World) (x : Ls α) : Prop := 0 < x.l.length → ∃ g cs, x.A = some ⟨g, 0, none⟩ ∧ B ≤ g ∧ Blk w g K.ty cs ∧ x.l.length * K.k ≤ cs.size
theorem Gr.wb {α : Type} {K : Kd α} {B : Nat} {w : World} {x : Ls α} (h : Gr K B w x) : Wb K B w x := fun hp => by
  rcases h.2 with ⟨_, h0⟩ | ⟨g, cap, cur, e, hg, hh, hn, hm, hsz, htk⟩
  · omega
  · unfold Ls.v at e
    injection e with e1 _ e3
    exact ⟨g, cur, e1, hg, hh, by rw [hsz]; exact Nat.mul_le_mul_right _ hn⟩
theorem blk_set {w : World} {g g' t : Nat} {cs : Array Value} (h : Blk w g t cs) (i : Nat) (u : Value) : ∃ cs', Blk (w.setCell ⟨g', i, none⟩ u) g t cs' ∧ cs'.size = cs.size := by
  by_cases e : g = g'
  · subst e
    exact ⟨_, heap_setCell_same w g i cs _ _ h, Array.size_setIfInBounds⟩
  · exact ⟨cs, (Bf.set (F := fun k => k = g') w (u := u) rfl).blk h e, rfl⟩
theorem Wb.set {α : Type} {K : Kd α} {B : Nat} {w : World} {x : Ls α} (h : Wb K B w x) (g i : Nat) (u : Value) : Wb K B (w.setCell ⟨g, i, none⟩ u) x := fun hp => by
  obtain ⟨b, cs, e, hb, hc, hs⟩ := h hp
  obtain ⟨cs', h1, h2⟩ := blk_set (g' := g) hc i u
  exact ⟨b, cs', e, hb, h1, by omega⟩
theorem Wb.below {α : Type} {K : Kd α} {B : Nat} {w w' : World} {x : Ls α} (h : Wb K B w x) (hb : Below w.heap.size w w') : Wb K B w' x := fun hp => by
  obtain ⟨b, cs, e, hB, hc, hs⟩ := h hp
  exact ⟨b, cs, e, hB, hc.below hb hc.lt, hs⟩
/-- What stays while what was signed is changed. -/
structure Ow (lo : Nat) (w0 w : World) (V1 V2 B : Nat) (o s : LOp) (wa : Ls UInt8) : Prop where
  v1 : Vr w V1 o
  v2 : Vr w V2 s
  src : Lies (fun k => B ≤ k) w o
  wa : Lz kU8 (fun k => B ≤ k) w wa
  bel : Below lo w0 w
  past : Wb kNm B w s.past
  path : Wb kNd B w s.path
  pathB : ∀ n ∈ s.path.l, Wb kBx B w n.boxes
  body : Wb kU8 B w s.body
  guards : Wb kInt B w s.guards
  hd : ∀ i y, s.path.l[i]? = some y → ∀ g, s.path.A = some ⟨g, 0, none⟩ → w.cell? ⟨g, i * 2 + 1, none⟩ = some (.slice y.boxes.A y.boxes.l.length y.boxes.c)
  v1B : V1 < B
  loB : lo ≤ B
theorem blk_ty {w : World} {g t t' : Nat} {cs cs' : Array Value} (h : Blk w g t cs) (h' : Blk w g t' cs') : t = t' := by
  unfold Blk at h h'
  rw [h] at h'
  injection h' with h'
  injection h' with h1 h2
theorem Ow.set {lo : Nat} {w0 w : World} {V1 V2 B : Nat} {o s : LOp} {wa : Ls UInt8} (h : Ow lo w0 w V1 V2 B o s wa) {g t i : Nat} {cs : Array Value} (u : Value) (hg : B ≤ g) (hb : Blk w g t cs) (ht : t ≠ 35) (hi : t ≠ 66 ∨ ∀ j, i ≠ j * 2 + 1) : Ow lo w0 (w.setCell ⟨g, i, none⟩ u) V1 V2 B o s wa := by
  have hf : Bf (fun k => k = g) w (w.setCell ⟨g, i, none⟩ u) := Bf.set w rfl
  have hf2 := hf.weak (G := fun k => B ≤ k) fun k _ hk => by have hk : k = g := hk; show B ≤ k; omega
  have hgs : g < w.heap.size := hb.lt
  refine ⟨h.v1.bf hf (by have := h.v1B; show ¬ V1 = g; omega), h.v2.bf hf (fun e => ht (by have e : V2 = g := e; subst e; exact blk_ty hb h.v2)), h.src.bf hf2, h.wa.bf hf2, Below.trans h.bel (hf.dn (Nat.le_trans h.loB (by omega)) fun k hk => by have hk : k = g := hk; have := h.loB; omega), h.past.set _ _ _, h.path.set _ _ _, fun n hn => (h.pathB n hn).set _ _ _, h.body.set _ _ _, h.guards.set _ _ _, fun j y hy g' hA => ?_, h.v1B, h.loB⟩
  have h0 := h.hd j y hy g' hA
  obtain ⟨g2, cs2, e2, _, hc2, _⟩ := h.path (by have := (List.getElem?_eq_some_iff.1 hy).1; omega)
  rw [hA] at e2
  injection e2 with e2
  injection e2 with e2
  subst e2
  by_cases e : g' = g
  · subst e
    have htn : t = 66 := blk_ty hb hc2
    rcases hi with hi | hi
    · exact absurd htn hi
    · rw [← h0]
      exact World.cell?_setCell_other w _ _ u (fun e => hi j (by injection e))
  · rw [← h0]
    exact hf.cell (p := ⟨g', j * 2 + 1, none⟩) hc2.lt e
theorem Own.ow {lo : Nat} {w0 w : World} {V1 V2 B x : Nat} {o s : LOp} {wa : Ls UInt8} (h : S3 lo w0 w V1 V2 B o s x) (hw : Lz kU8 (fun k => B ≤ k) w wa) : Ow lo w0 w V1 V2 B o s wa :=
  ⟨h.v1, h.v2, h.src, hw, h.bel, h.own.past.wb, h.own.path.wb, fun n hn => (h.own.pathB n hn).wb, h.own.body.wb, h.own.guards.wb, fun i y hy g hA => by
    have := h.own.path.cells (g := g) (by unfold Ls.v; rw [hA]; rfl) (i * kNd.k + 1) _ (kNd.cells_at _ i y 1 _ hy rfl)
    exact this, h.v1B, h.loB⟩
theorem Ow.below {lo : Nat} {w0 w w' : World} {V1 V2 B : Nat} {o s : LOp} {wa : Ls UInt8} (h : Ow lo w0 w V1 V2 B o s wa) (hb : Below w.heap.size w w') (hlo : lo ≤ w.heap.size) : Ow lo w0 w' V1 V2 B o s wa :=
  ⟨h.v1.below hb (Blk.lt h.v1), h.v2.below hb (Blk.lt h.v2), h.src.below hb, h.wa.bf (Bf.below hb), h.bel.trans (hb.mono hlo), h.past.below hb, h.path.below hb, fun n hn => (h.pathB n hn).below hb, h.body.below hb, h.guards.below hb, fun i y hy g hA => by
    obtain ⟨g2, cs2, e2, _, hc2, _⟩ := h.path (by have := (List.getElem?_eq_some_iff.1 hy).1; omega)
    rw [hA] at e2
    injection e2 with e2
    injection e2 with e2
    subst e2
    exact (hb.cell (p := ⟨g, i * 2 + 1, none⟩) hc2.lt).trans (h.hd i y hy g hA), h.v1B, h.loB⟩

/-- What stays while the bytes are changed. -/
structure O5 (lo : Nat) (w0 w : World) (V1 V3 gp n : Nat) (o x : LOp) (wa : Ls UInt8) : Prop where
  v1 : Vr w V1 o
  v3 : Vr w V3 x
  lo_ : Lies (fun k => k = gp) w o
  lx : Lies (fun k => k = gp) w x
  wa : Lz kU8 (fun k => k = gp) w wa
  pb : ∃ cs, Blk w gp 5 cs ∧ n ≤ cs.size
  bel : Below lo w0 w
  n1 : V1 ≠ gp
  n3 : V3 ≠ gp
  le : lo ≤ gp
theorem O5.set {lo : Nat} {w0 w : World} {V1 V3 gp n : Nat} {o x : LOp} {wa : Ls UInt8} (h : O5 lo w0 w V1 V3 gp n o x wa) (i : Nat) (u : Value) : O5 lo w0 (w.setCell ⟨gp, i, none⟩ u) V1 V3 gp n o x wa := by
  have hf : Bf (fun k => k = gp) w (w.setCell ⟨gp, i, none⟩ u) := Bf.set w rfl
  obtain ⟨cs, hc, hs⟩ := h.pb
  obtain ⟨cs', h1, h2⟩ := blk_set (g' := gp) hc i u
  have hgs : gp < w.heap.size := hc.lt
  exact ⟨h.v1.bf hf h.n1, h.v3.bf hf h.n3, h.lo_.bf hf, h.lx.bf hf, h.wa.bf hf, ⟨cs', h1, by omega⟩, Below.trans h.bel (hf.dn (by have := h.le; omega) fun k hk => by have hk : k = gp := hk; have := h.le; omega), h.n1, h.n3, h.le⟩
set_option maxHeartbeats 16000000 in
theorem opowns_any {w : World} (l : Ls Int) (hl : Lz kInt No w l) (hok : ∀ y ∈ l.l, i64 y) (hln : l.l.length ≤ 9223372036854775807) (hk : Kds w) :
    Calls Tryz.prog 8 #[l.v] w fun e w' => e = .returned (.bool true) ∧ Below w.heap.size w w' := by
  have HOP := Lib.hid (op_any l hl hok hln)
  have HK := Lib.hid hk
  clear hl hok hln hk
  go_enter Tryz.func8, Tryz.ntmps8
  go_wp2_with fail
  refine (HOP.out).mono ?_
  rintro e w1 ⟨o, rfl, hg, hlo, hb⟩
  have HT := Lib.hid hg.tiny
  have HVZ := Lib.hid (Vr.new w1 LOp.zero)
  have HVN := Lib.hid (var_new w1 o)
  have hb2 := hb.trans (var_below w1 LOp.zero o hb.size)
  have HLO := Lib.hid (var_lies (F := No) hlo LOp.zero o)
  have HB2 := Lib.hid hb2
  clear hg hlo hb hb2 HOP
  go_upto_region 2 with (refine wpList_store_op (o' := o) rfl _ _ rfl rfl rfl HVZ.out ?_)
  rw [zc]
  obtain ⟨V1, hV1⟩ : ∃ V, V = w1.heap.size := ⟨_, rfl⟩
  obtain ⟨w2, hw2⟩ : ∃ W, W = (w1.alloc (.cells LOp.zero.cells 35)).setRow w1.heap.size o.cells := ⟨_, rfl⟩
  rw [← hw2] at HVN HLO HB2 ⊢
  rw [← hV1] at HVN ⊢
  clear hw2 hV1 HVZ
  have HP := Lib.hid (rput_any o HLO.out HT.out)
  go_wp2_with (refine wpList_load_op rfl _ rfl rfl HVN.out ?_)
  refine (HP.out).mono ?_
  rintro e w3 ⟨wa, rfl, hwl, hwg, hb⟩
  have HWL := Lib.hid hwl
  have HWA := Lib.hid (hwg.lz (F := No) fun _ h => h.elim)
  have HVA := Lib.hid (HVN.out.below hb (Blk.lt HVN.out))
  have HLA := Lib.hid (HLO.out.below hb)
  have HB3 := Lib.hid (HB2.out.trans (hb.mono HB2.out.size))
  clear hwl hwg hb HP HVN HLO HB2
  go_upto_region 3 with fail
  obtain ⟨x, hx⟩ : ∃ x, x = sec11 ⟨#[115, 105, 103, 110]⟩ o.by_ := ⟨_, rfl⟩
  have HX := Lib.hid hx
  have HXL := Lib.hid (show x < 18446744073709551616 from hx ▸ sec11_lt _ _)
  clear hx
  try simp only [Act.put, getElem_toArray, getElem_cons_succ, getElem_cons_zero, setIfInBounds_toArray, set_cons_zero, set_cons_succ]
  go_cut [5] (fun t wx => ∃ (V2 B : Nat) (s : LOp), t = .pointer (some ⟨V2, 0, none⟩) ∧ S3 w.heap.size w wx V1 V2 B o s x ∧ Lz kU8 (fun k => B ≤ k) wx wa)
  case first =>
    have VAd := Lib.hid (show Vr w3.drew V1 o from HVA.out)
    have LAd := Lib.hid (show Lies No w3.drew o from HLA.out.bf (Bf.drew w3))
    have Bd := Lib.hid (show Below w.heap.size w w3.drew from HB3.out.trans (below_drewN w3 1 _))
    have Ed0 := Lib.hid (show Lz kU8 No w3.drew wa from HWA.out.bf (Bf.drew w3))
    clear HVA HLA HB3 HWA
    refine wp_region_held_drew (S := (fun w' : World => Vr w' V1 o)) (by kernel_rfl) VAd.out (fun hHeld => ?_)
    try simp only [Act.put, getElem_toArray, getElem_cons_zero, setIfInBounds_toArray, set_cons_zero, set_cons_succ]
    obtain ⟨wd, hwd⟩ : ∃ wd, wd = w3.drew := ⟨_, rfl⟩
    rw [← hwd] at hHeld VAd LAd Bd Ed0 ⊢
    clear hwd
    refine wpAnyH_take (i := 0) (v := ?_) rfl (by kernel_rfl) (by kernel_rfl) (by kernel_rfl) (fun _ _ _ h => h) (Or.inl ⟨by rfl, ?_⟩) (by assumption) ?_
    rotate_left
    · (intro w hSw; (try dsimp only at hSw); clear hSw; go_simp; try (with_reducible rfl))
    try simp only [Act.put, getElem_toArray, getElem_cons_zero, setIfInBounds_toArray, set_cons_zero, set_cons_succ]
    refine wpAnyH_take (i := 1) (v := ?_) rfl (by kernel_rfl) (by kernel_rfl) (by kernel_rfl) (fun _ _ _ h => h) (Or.inl ⟨by rfl, ?_⟩) (by assumption) ?_
    rotate_left
    · (intro w hSw; (try dsimp only at hSw); have c0 := (hSw.cell 0).trans o.c0; clear hSw; go_simp; try (with_reducible rfl))
    try simp only [Act.put, getElem_toArray, getElem_cons_succ, getElem_cons_zero, setIfInBounds_toArray, set_cons_zero, set_cons_succ]
    refine wpAnyH_take (i := 3) (v := ?_) rfl (by kernel_rfl) (by kernel_rfl) (by kernel_rfl) (fun _ _ _ h => h) (Or.inl ⟨by rfl, ?_⟩) (by assumption) ?_
    rotate_left
    · (intro w hSw; (try dsimp only at hSw); refine run_load_op _ (.tmp 3) ?_ ?_ hSw <;> rfl)
    try simp only [Act.put, getElem_toArray, getElem_cons_succ, getElem_cons_zero, setIfInBounds_toArray, set_cons_zero, set_cons_succ]
    refine wpAnyH_ready (rs := [2, 5]) (by kernel_rfl) (by simp) ?_
    refine AllReadyH.cons rfl (fun K hK => ?_) (AllReadyH.cons rfl (fun K hK => ?_) AllReadyH.nil)
    · skip
      go_simp
      have H := Lib.hid (secret11_any ⟨#[115, 105, 103, 110]⟩ (by decide) o.by_ wd)
      rw [← HX.out] at H
      refine (H.out).mono ?_
      rintro e x1_ ⟨rfl, hb⟩
      have VA2_ := Lib.hid (VAd.out.below hb (Blk.lt VAd.out))
      have LA3_ := Lib.hid (LAd.out.bf (F := No) (Bf.below hb))
      have B4_ := Lib.hid (Bd.out.trans (hb.mono Bd.out.size))
      have E05_ := Lib.hid (Ed0.out.bf (F := No) (Bf.below hb))
      clear VAd LAd Bd Ed0
      clear hb H
      try go_simp
      refine hK.out _ _ VA2_.out (fun hHeld => ?_)
      clear hK K
      try simp only [Act.put, getElem_toArray, getElem_cons_succ, getElem_cons_zero, setIfInBounds_toArray, set_cons_zero, set_cons_succ]
      refine wpAnyH_ready (rs := [4, 5]) (by kernel_rfl) (by simp) ?_
      refine AllReadyH.cons rfl (fun K hK => ?_) (AllReadyH.cons rfl (fun K hK => ?_) AllReadyH.nil)
      · skip
        go_simp
        have H := Lib.hid (opsign_any x HXL.out o LA3_.out.no HT.out)
        obtain ⟨B, hB⟩ : ∃ B, B = x1_.heap.size := ⟨_, rfl⟩
        refine (H.out).mono ?_
        rintro e x6_ ⟨s, rfl, hse, hso, hb⟩
        have HV1B := Lib.hid (show V1 < B from hB ▸ Blk.lt VA2_.out)
        have HLOB := Lib.hid (show w.heap.size ≤ B from hB ▸ B4_.out.size)
        have LA7_ := Lib.hid (LA3_.out.weak (G := fun k => B ≤ k) fun k hk hf => by have hf : B ≤ k := hf; omega)
        clear LA3_
        have E8_ := Lib.hid (E05_.out.weak (G := fun k => B ≤ k) fun k hk hf => by have hf : B ≤ k := hf; omega)
        clear E05_
        have VA9_ := Lib.hid (VA2_.out.below hb (Blk.lt VA2_.out))
        have LA10_ := Lib.hid (LA7_.out.bf (F := fun k => B ≤ k) (Bf.below hb))
        have B11_ := Lib.hid (B4_.out.trans (hb.mono B4_.out.size))
        have E012_ := Lib.hid (E8_.out.bf (F := fun k => B ≤ k) (Bf.below hb))
        clear VA2_ LA7_ B4_ E8_
        have HOW0 := Lib.hid (show Own B x6_ s from hB ▸ hso)
        have HSE := Lib.hid hse
        have HBS := Lib.hid (show B ≤ x6_.heap.size from hB ▸ hb.size)
        clear hb hse hso H hB
        try go_simp
        refine hK.out _ _ VA9_.out (fun hHeld => ?_)
        clear hK K
        try simp only [Act.put, getElem_toArray, getElem_cons_succ, getElem_cons_zero, setIfInBounds_toArray, set_cons_zero, set_cons_succ]
        refine wpAnyH_ready (rs := [5]) (by kernel_rfl) (by simp) ?_
        refine AllReadyH.cons rfl (fun K hK => ?_) AllReadyH.nil
        go_simp
        rw [zc]
        have hb := (Below.refl x6_.heap.size x6_).alloc (Nat.le_refl _) (.cells LOp.zero.cells 35)
        have hvz := Vr.new x6_ LOp.zero
        obtain ⟨V2, hV2⟩ : ∃ V2, V2 = x6_.heap.size := ⟨_, rfl⟩
        have HBV2 := Lib.hid (show B ≤ V2 from hV2 ▸ HBS.out)
        have HV12 := Lib.hid (show V1 < V2 from hV2 ▸ Blk.lt VA9_.out)
        have HLOV := Lib.hid (show w.heap.size ≤ V2 from hV2 ▸ B11_.out.size)
        obtain ⟨x13_, hw2⟩ : ∃ u, u = x6_.alloc (.cells LOp.zero.cells 35) := ⟨_, rfl⟩
        rw [← hw2] at hb hvz ⊢
        rw [← hV2] at hvz ⊢
        have VA14_ := Lib.hid (VA9_.out.below hb (Blk.lt VA9_.out))
        have LA15_ := Lib.hid (LA10_.out.bf (F := fun k => B ≤ k) (Bf.below hb))
        have B16_ := Lib.hid (B11_.out.trans (hb.mono B11_.out.size))
        have OW17_ := Lib.hid (HOW0.out.below hb)
        have E018_ := Lib.hid (E012_.out.bf (F := fun k => B ≤ k) (Bf.below hb))
        clear VA9_ LA10_ B11_ HOW0 E012_
        have HVZ0 := Lib.hid hvz
        clear hb hvz hw2 hV2
        refine hK.out _ _ VA14_.out (fun hHeld => ?_)
        clear hK K
        try simp only [Act.put, getElem_toArray, getElem_cons_succ, getElem_cons_zero, setIfInBounds_toArray, set_cons_zero, set_cons_succ]
        refine wpAnyH_ready (rs := [6]) (by kernel_rfl) (by simp) ?_
        refine AllReadyH.cons rfl (fun K hK => ?_) AllReadyH.nil
        refine step_store_op (o' := s) rfl (.tmp 5) (.tmp 23) rfl rfl rfl HVZ0.out ?_
        have hbf : Bf (fun k => k = V2) x13_ (x13_.setRow V2 s.cells) := Bf.setRow _ rfl
        have va := VA14_.out.bf hbf (by have := HV12.out; show ¬ V1 = V2; omega)
        have src := LA15_.out.bf (hbf.weak (G := fun k => B ≤ k) fun k _ h => by have h : k = V2 := h; have := HBV2.out; show B ≤ k; omega)
        have srcV := src.weak (G := fun k => k = V2) fun k _ h => by have h : k = V2 := h; have := HBV2.out; show B ≤ k; omega
        have own := OW17_.out.kept HVZ0.out (grown_setRow x13_ V2 s.cells)
        have bel := Below.trans B16_.out (hbf.dn (B16_.out.size) (fun k h => by have h : k = V2 := h; have := HLOV.out; omega))
        have ex0 := E018_.out.bf (hbf.weak (G := fun k => B ≤ k) fun k _ h => by have h : k = V2 := h; have := HBV2.out; show B ≤ k; omega)
        have HFIN := Lib.hid (show S3 w.heap.size w (x13_.setRow V2 s.cells) V1 V2 B o s x ∧ Lz kU8 (fun k => B ≤ k) (x13_.setRow V2 s.cells) wa from ⟨⟨va, HVZ0.out.setRow s, HV12.out, HV1B.out, src, srcV, own, HSE.out, bel, HLOV.out, HLOB.out⟩, ex0⟩)
        clear hbf va src srcV own bel ex0
        refine hK.out _ _ HFIN.out.1.v1 (fun _ => ?_)
        clear hK K
        try simp only [Act.put, getElem_toArray, getElem_cons_succ, getElem_cons_zero, setIfInBounds_toArray, set_cons_zero, set_cons_succ]
        refine wpAnyH_done (by kernel_rfl) ?_ _
        go_wp2_with fail
        go_meet
        exact ⟨V2, B, s, rfl, HFIN.out⟩
      · skip
        go_simp
        rw [zc]
        have hb := (Below.refl x1_.heap.size x1_).alloc (Nat.le_refl _) (.cells LOp.zero.cells 35)
        have hvz := Vr.new x1_ LOp.zero
        obtain ⟨V2, hV2⟩ : ∃ V2, V2 = x1_.heap.size := ⟨_, rfl⟩
        have LA20_ := Lib.hid (LA3_.out.weak (G := fun k => V2 ≤ k) fun k hk hf => by have hf : V2 ≤ k := hf; omega)
        have E21_ := Lib.hid (E05_.out.weak (G := fun k => V2 ≤ k) fun k hk hf => by have hf : V2 ≤ k := hf; omega)
        have HV12 := Lib.hid (show V1 < V2 from hV2 ▸ Blk.lt VA2_.out)
        have HLOV := Lib.hid (show w.heap.size ≤ V2 from hV2 ▸ B4_.out.size)
        clear LA3_ E05_
        obtain ⟨x19_, hw2⟩ : ∃ u, u = x1_.alloc (.cells LOp.zero.cells 35) := ⟨_, rfl⟩
        rw [← hw2] at hb hvz ⊢
        rw [← hV2] at hvz ⊢
        have VA22_ := Lib.hid (VA2_.out.below hb (Blk.lt VA2_.out))
        have LA23_ := Lib.hid (LA20_.out.bf (F := fun k => V2 ≤ k) (Bf.below hb))
        have B24_ := Lib.hid (B4_.out.trans (hb.mono B4_.out.size))
        have E025_ := Lib.hid (E21_.out.bf (F := fun k => V2 ≤ k) (Bf.below hb))
        clear VA2_ LA20_ B4_ E21_
        have HVZ0 := Lib.hid hvz
        clear hb hvz hw2 hV2
        refine hK.out _ _ VA22_.out (fun hHeld => ?_)
        clear hK K
        try simp only [Act.put, getElem_toArray, getElem_cons_succ, getElem_cons_zero, setIfInBounds_toArray, set_cons_zero, set_cons_succ]
        refine wpAnyH_ready (rs := [4]) (by kernel_rfl) (by simp) ?_
        refine AllReadyH.cons rfl (fun K hK => ?_) AllReadyH.nil
        go_simp
        have H := Lib.hid (opsign_any x HXL.out o LA23_.out.no HT.out)
        obtain ⟨B, hB⟩ : ∃ B, B = x19_.heap.size := ⟨_, rfl⟩
        refine (H.out).mono ?_
        rintro e x26_ ⟨s, rfl, hse, hso, hb⟩
        have HV1B := Lib.hid (show V1 < B from hB ▸ Blk.lt VA22_.out)
        have HLOB := Lib.hid (show w.heap.size ≤ B from hB ▸ B24_.out.size)
        have HV2B := Lib.hid (show V2 < B from hB ▸ Blk.lt HVZ0.out)
        have VA27_ := Lib.hid (VA22_.out.below hb (Blk.lt VA22_.out))
        have LA28_ := Lib.hid (LA23_.out.bf (F := fun k => V2 ≤ k) (Bf.below hb))
        have B29_ := Lib.hid (B24_.out.trans (hb.mono B24_.out.size))
        have VZ30_ := Lib.hid (HVZ0.out.below hb (Blk.lt HVZ0.out))
        have E031_ := Lib.hid (E025_.out.bf (F := fun k => V2 ≤ k) (Bf.below hb))
        clear VA22_ LA23_ B24_ HVZ0 E025_
        have HOW0 := Lib.hid (show Own B x26_ s from hB ▸ hso)
        have HSE := Lib.hid hse
        clear hb hse hso H hB
        try go_simp
        refine hK.out _ _ VA27_.out (fun hHeld => ?_)
        clear hK K
        try simp only [Act.put, getElem_toArray, getElem_cons_succ, getElem_cons_zero, setIfInBounds_toArray, set_cons_zero, set_cons_succ]
        refine wpAnyH_ready (rs := [6]) (by kernel_rfl) (by simp) ?_
        refine AllReadyH.cons rfl (fun K hK => ?_) AllReadyH.nil
        refine step_store_op (o' := s) rfl (.tmp 5) (.tmp 23) rfl rfl rfl VZ30_.out ?_
        have hbf : Bf (fun k => k = V2) x26_ (x26_.setRow V2 s.cells) := Bf.setRow _ rfl
        have va := VA27_.out.bf hbf (by have := HV12.out; show ¬ V1 = V2; omega)
        have la := LA28_.out.bf (hbf.weak (G := fun k => V2 ≤ k) fun k _ h => by have h : k = V2 := h; show V2 ≤ k; omega)
        have src := la.weak (G := fun k => B ≤ k) fun k _ h => by have h : B ≤ k := h; have := HV2B.out; show V2 ≤ k; omega
        have srcV := la.weak (G := fun k => k = V2) fun k _ h => by have h : k = V2 := h; show V2 ≤ k; omega
        have own := HOW0.out.kept VZ30_.out (grown_setRow x26_ V2 s.cells)
        have bel := Below.trans B29_.out (hbf.dn (B29_.out.size) (fun k h => by have h : k = V2 := h; have := HLOV.out; omega))
        have ea0 := E031_.out.bf (hbf.weak (G := fun k => V2 ≤ k) fun k _ h => by have h : k = V2 := h; show V2 ≤ k; omega)
        have ex0 := ea0.weak (G := fun k => B ≤ k) fun k _ h => by have h : B ≤ k := h; have := HV2B.out; show V2 ≤ k; omega
        clear ea0
        have HFIN := Lib.hid (show S3 w.heap.size w (x26_.setRow V2 s.cells) V1 V2 B o s x ∧ Lz kU8 (fun k => B ≤ k) (x26_.setRow V2 s.cells) wa from ⟨⟨va, VZ30_.out.setRow s, HV12.out, HV1B.out, src, srcV, own, HSE.out, bel, HLOV.out, HLOB.out⟩, ex0⟩)
        clear hbf va la src srcV own bel ex0
        refine hK.out _ _ HFIN.out.1.v1 (fun _ => ?_)
        clear hK K
        try simp only [Act.put, getElem_toArray, getElem_cons_succ, getElem_cons_zero, setIfInBounds_toArray, set_cons_zero, set_cons_succ]
        refine wpAnyH_done (by kernel_rfl) ?_ _
        go_wp2_with fail
        go_meet
        exact ⟨V2, B, s, rfl, HFIN.out⟩
    · skip
      go_simp
      rw [zc]
      have hb := (Below.refl wd.heap.size wd).alloc (Nat.le_refl _) (.cells LOp.zero.cells 35)
      have hvz := Vr.new wd LOp.zero
      obtain ⟨V2, hV2⟩ : ∃ V2, V2 = wd.heap.size := ⟨_, rfl⟩
      have LA33_ := Lib.hid (LAd.out.weak (G := fun k => V2 ≤ k) fun k hk hf => by have hf : V2 ≤ k := hf; omega)
      have E34_ := Lib.hid (Ed0.out.weak (G := fun k => V2 ≤ k) fun k hk hf => by have hf : V2 ≤ k := hf; omega)
      have HV12 := Lib.hid (show V1 < V2 from hV2 ▸ Blk.lt VAd.out)
      have HLOV := Lib.hid (show w.heap.size ≤ V2 from hV2 ▸ Bd.out.size)
      clear LAd Ed0
      obtain ⟨x32_, hw2⟩ : ∃ u, u = wd.alloc (.cells LOp.zero.cells 35) := ⟨_, rfl⟩
      rw [← hw2] at hb hvz ⊢
      rw [← hV2] at hvz ⊢
      have VA35_ := Lib.hid (VAd.out.below hb (Blk.lt VAd.out))
      have LA36_ := Lib.hid (LA33_.out.bf (F := fun k => V2 ≤ k) (Bf.below hb))
      have B37_ := Lib.hid (Bd.out.trans (hb.mono Bd.out.size))
      have E038_ := Lib.hid (E34_.out.bf (F := fun k => V2 ≤ k) (Bf.below hb))
      clear VAd LA33_ Bd E34_
      have HVZ0 := Lib.hid hvz
      clear hb hvz hw2 hV2
      refine hK.out _ _ VA35_.out (fun hHeld => ?_)
      clear hK K
      try simp only [Act.put, getElem_toArray, getElem_cons_succ, getElem_cons_zero, setIfInBounds_toArray, set_cons_zero, set_cons_succ]
      refine wpAnyH_ready (rs := [2]) (by kernel_rfl) (by simp) ?_
      refine AllReadyH.cons rfl (fun K hK => ?_) AllReadyH.nil
      go_simp
      have H := Lib.hid (secret11_any ⟨#[115, 105, 103, 110]⟩ (by decide) o.by_ x32_)
      rw [← HX.out] at H
      refine (H.out).mono ?_
      rintro e x39_ ⟨rfl, hb⟩
      have VA40_ := Lib.hid (VA35_.out.below hb (Blk.lt VA35_.out))
      have LA41_ := Lib.hid (LA36_.out.bf (F := fun k => V2 ≤ k) (Bf.below hb))
      have B42_ := Lib.hid (B37_.out.trans (hb.mono B37_.out.size))
      have VZ43_ := Lib.hid (HVZ0.out.below hb (Blk.lt HVZ0.out))
      have E044_ := Lib.hid (E038_.out.bf (F := fun k => V2 ≤ k) (Bf.below hb))
      clear VA35_ LA36_ B37_ HVZ0 E038_
      clear hb H
      try go_simp
      refine hK.out _ _ VA40_.out (fun hHeld => ?_)
      clear hK K
      try simp only [Act.put, getElem_toArray, getElem_cons_succ, getElem_cons_zero, setIfInBounds_toArray, set_cons_zero, set_cons_succ]
      refine wpAnyH_ready (rs := [4]) (by kernel_rfl) (by simp) ?_
      refine AllReadyH.cons rfl (fun K hK => ?_) AllReadyH.nil
      go_simp
      have H := Lib.hid (opsign_any x HXL.out o LA41_.out.no HT.out)
      obtain ⟨B, hB⟩ : ∃ B, B = x39_.heap.size := ⟨_, rfl⟩
      refine (H.out).mono ?_
      rintro e x45_ ⟨s, rfl, hse, hso, hb⟩
      have HV1B := Lib.hid (show V1 < B from hB ▸ Blk.lt VA40_.out)
      have HLOB := Lib.hid (show w.heap.size ≤ B from hB ▸ B42_.out.size)
      have HV2B := Lib.hid (show V2 < B from hB ▸ Blk.lt VZ43_.out)
      have VA46_ := Lib.hid (VA40_.out.below hb (Blk.lt VA40_.out))
      have LA47_ := Lib.hid (LA41_.out.bf (F := fun k => V2 ≤ k) (Bf.below hb))
      have B48_ := Lib.hid (B42_.out.trans (hb.mono B42_.out.size))
      have VZ49_ := Lib.hid (VZ43_.out.below hb (Blk.lt VZ43_.out))
      have E050_ := Lib.hid (E044_.out.bf (F := fun k => V2 ≤ k) (Bf.below hb))
      clear VA40_ LA41_ B42_ VZ43_ E044_
      have HOW0 := Lib.hid (show Own B x45_ s from hB ▸ hso)
      have HSE := Lib.hid hse
      clear hb hse hso H hB
      try go_simp
      refine hK.out _ _ VA46_.out (fun hHeld => ?_)
      clear hK K
      try simp only [Act.put, getElem_toArray, getElem_cons_succ, getElem_cons_zero, setIfInBounds_toArray, set_cons_zero, set_cons_succ]
      refine wpAnyH_ready (rs := [6]) (by kernel_rfl) (by simp) ?_
      refine AllReadyH.cons rfl (fun K hK => ?_) AllReadyH.nil
      refine step_store_op (o' := s) rfl (.tmp 5) (.tmp 23) rfl rfl rfl VZ49_.out ?_
      have hbf : Bf (fun k => k = V2) x45_ (x45_.setRow V2 s.cells) := Bf.setRow _ rfl
      have va := VA46_.out.bf hbf (by have := HV12.out; show ¬ V1 = V2; omega)
      have la := LA47_.out.bf (hbf.weak (G := fun k => V2 ≤ k) fun k _ h => by have h : k = V2 := h; show V2 ≤ k; omega)
      have src := la.weak (G := fun k => B ≤ k) fun k _ h => by have h : B ≤ k := h; have := HV2B.out; show V2 ≤ k; omega
      have srcV := la.weak (G := fun k => k = V2) fun k _ h => by have h : k = V2 := h; show V2 ≤ k; omega
      have own := HOW0.out.kept VZ49_.out (grown_setRow x45_ V2 s.cells)
      have bel := Below.trans B48_.out (hbf.dn (B48_.out.size) (fun k h => by have h : k = V2 := h; have := HLOV.out; omega))
      have ea0 := E050_.out.bf (hbf.weak (G := fun k => V2 ≤ k) fun k _ h => by have h : k = V2 := h; show V2 ≤ k; omega)
      have ex0 := ea0.weak (G := fun k => B ≤ k) fun k _ h => by have h : B ≤ k := h; have := HV2B.out; show V2 ≤ k; omega
      clear ea0
      have HFIN := Lib.hid (show S3 w.heap.size w (x45_.setRow V2 s.cells) V1 V2 B o s x ∧ Lz kU8 (fun k => B ≤ k) (x45_.setRow V2 s.cells) wa from ⟨⟨va, VZ49_.out.setRow s, HV12.out, HV1B.out, src, srcV, own, HSE.out, bel, HLOV.out, HLOB.out⟩, ex0⟩)
      clear hbf va la src srcV own bel ex0
      refine hK.out _ _ HFIN.out.1.v1 (fun _ => ?_)
      clear hK K
      try simp only [Act.put, getElem_toArray, getElem_cons_succ, getElem_cons_zero, setIfInBounds_toArray, set_cons_zero, set_cons_succ]
      refine wpAnyH_done (by kernel_rfl) ?_ _
      go_wp2_with fail
      go_meet
      exact ⟨V2, B, s, rfl, HFIN.out⟩
  case rest =>
    obtain ⟨V2, B, s, rfl, hs3, hww⟩ := hcut
    obtain ⟨w4, rfl⟩ : ∃ W, W = wc := ⟨_, rfl⟩
    have HOW := Lib.hid (Own.ow hs3 hww)
    have HER := Lib.hid hs3.er
    have HTS := Lib.hid (show Tiny s.er from hs3.er ▸ sgd_tiny HT.out x)
    clear hs3 hww HXL HX HER
    try clear HVA HLA HB3 HWA
    obtain ⟨np, hnp⟩ : ∃ n, n = s.past.l.length := ⟨_, rfl⟩
    have Hnp := Lib.hid hnp
    have nple : np ≤ 300 := by rw [hnp]; exact Nat.le_trans (show s.past.l.length ≤ 300 from Nat.le_trans HTS.out.past (by decide)) (Nat.le_refl _)
    clear hnp
    have hnd := (show ∀ n ∈ s.path.l, n.boxes.l.length ≤ 300 from fun n hn => Nat.le_trans (show n.boxes.l.length ≤ 20 from HTS.out.pathB n.er (List.mem_map_of_mem hn)) (by decide))
    have HND := Lib.hid hnd
    clear hnd
    obtain ⟨nq, hnq⟩ : ∃ n, n = s.path.l.length := ⟨_, rfl⟩
    have Hnq := Lib.hid hnq
    have nqle : nq ≤ 300 := by rw [hnq]; have h := HTS.out.path; unfold LOp.er at h; rw [List.length_map] at h; omega
    clear hnq
    obtain ⟨nb, hnb⟩ : ∃ n, n = s.body.l.length := ⟨_, rfl⟩
    have Hnb := Lib.hid hnb
    have nble : nb ≤ 300 := by rw [hnb]; exact HTS.out.body
    clear hnb
    obtain ⟨ng, hng⟩ : ∃ n, n = s.guards.l.length := ⟨_, rfl⟩
    have Hng := Lib.hid hng
    have ngle : ng ≤ 300 := by rw [hng]; exact Nat.le_trans (show s.guards.l.length ≤ 300 from Nat.le_trans HTS.out.guards (by decide)) (Nat.le_refl _)
    clear hng
    go_wp2_with fail
    try clear ce
    go_loopw [6] (fun i wr => ∃ k : Nat, k ≤ np ∧ i = .int .i64 (k : Int) ∧ Ow w.heap.size w wr V1 V2 B o s wa) (fun i _ => np - (intOf i).toNat)
    case atStart => exact ⟨0, Nat.zero_le _, rfl, HOW.out⟩
    case round =>
      obtain ⟨k, hkn, rfl, how⟩ := hrel
      clear HOW
      have ce := (show World.cell? wr ⟨V2, 4, none⟩ = some (.slice s.past.A np s.past.c) from by have h := (how.v2.cell 4).trans s.c4; rw [← Hnp.out] at h; exact h)
      by_cases hlt : k < np
      · obtain ⟨g, gcs, hA, hgB, hgb, hgz⟩ := how.past (by rw [← Hnp.out]; omega)
        rw [hA] at ce
        have hsz : k * 3 + 1 < gcs.size := by rw [← Hnp.out] at hgz; have hgz : np * 3 ≤ gcs.size := hgz; omega
        obtain ⟨gu, hgu⟩ : ∃ u, gcs[k * 3 + 1]? = some u := ⟨_, Array.getElem?_eq_getElem hsz⟩
        have kw : World.cell? wr ⟨g, k * 3 + 1, none⟩ = some gu := by have h := (hgb.cell (k * 3 + 1)).trans hgu;  exact h
        have kf := hgb.frozen (k * 3 + 1)
        have HO := Lib.hid (how.set (i := k * 3 + 1) (.int .i64 77) hgB hgb (by decide) (.inl (by decide)))
        have HLT := Lib.hid hlt
        have q0_ : (0 : Int) ≤ (k : Int) := by omega
        have q1_ : (k : Int) < (np : Int) := by omega
        clear how hA hgB hgb hgz hsz hgu hkn
        go_wp2
        go_roundw
        case rel => exact ⟨k + 1, by have := HLT.out; omega, by go_num, HO.out⟩
        case measure => simp [intOf]; omega
      · have hk : k = np := by omega
        subst hk
        obtain ⟨wA, rfl⟩ : ∃ W, W = wr := ⟨_, rfl⟩
        have HOW := Lib.hid how
        clear how hkn hlt
        go_wp2_with fail
        try clear ce
        go_loopw [7] (fun i wr => ∃ k : Nat, k ≤ nq ∧ i = .int .i64 (k : Int) ∧ Ow w.heap.size w wr V1 V2 B o s wa) (fun i _ => nq - (intOf i).toNat)
        case atStart => exact ⟨0, Nat.zero_le _, rfl, HOW.out⟩
        case round =>
          obtain ⟨k, hkn, rfl, how⟩ := hrel
          clear HOW
          have ce := (show World.cell? wr ⟨V2, 9, none⟩ = some (.slice s.path.A nq s.path.c) from by have h := (how.v2.cell 9).trans s.c9; rw [← Hnq.out] at h; exact h)
          by_cases hlt : k < nq
          · obtain ⟨g, gcs, hA, hgB, hgb, hgz⟩ := how.path (by rw [← Hnq.out]; omega)
            obtain ⟨y, hy⟩ : ∃ y, s.path.l[k]? = some y := ⟨_, List.getElem?_eq_getElem (by rw [← Hnq.out]; exact hlt)⟩
            rw [hA] at ce
            have hsz : k * 2 < gcs.size := by rw [← Hnq.out] at hgz; have hgz : nq * 2 ≤ gcs.size := hgz; omega
            obtain ⟨gu, hgu⟩ : ∃ u, gcs[k * 2]? = some u := ⟨_, Array.getElem?_eq_getElem hsz⟩
            have kw : World.cell? wr ⟨g, k * 2, none⟩ = some gu := (hgb.cell (k * 2)).trans hgu
            have kf := hgb.frozen (k * 2)
            have HO := Lib.hid (how.set (i := k * 2) (.int .u64 77) hgB hgb (by decide) (.inr fun j => by omega))
            have HLT := Lib.hid hlt
            have HY := Lib.hid hy
            have HA := Lib.hid hA
            obtain ⟨nx_, hnx⟩ : ∃ n, n = y.boxes.l.length := ⟨_, rfl⟩
            have HNX := Lib.hid hnx
            have nxle : nx_ ≤ 300 := by rw [hnx]; exact HND.out y (List.mem_of_getElem? hy)
            have q0_ : (0 : Int) ≤ (k : Int) := by omega
            have q1_ : (k : Int) < (nq : Int) := by omega
            obtain ⟨wo, rfl⟩ : ∃ wo, wo = wr := ⟨_, rfl⟩
            clear how hA hgB hgb hgz hsz hgu hkn hy hnx
            go_upto_region 12 with fail
            clear ce kw kf
            obtain ⟨wi, hwi⟩ : ∃ W, W = wo.setCell ⟨g, k * 2, none⟩ (.int .u64 77) := ⟨_, rfl⟩
            rw [← hwi] at HO ⊢
            clear hwi
            go_wp2_with fail
            go_loopw [8] (fun i w2 => ∃ q : Nat, q ≤ nx_ ∧ i = .int .i64 (q : Int) ∧ Ow w.heap.size w w2 V1 V2 B o s wa) (fun i _ => nx_ - (intOf i).toNat)
            case atStart => exact ⟨0, Nat.zero_le _, rfl, HO.out⟩
            case round =>
              obtain ⟨q, hqn, rfl, how2⟩ := hrel
              clear HO
              have ce := (show World.cell? wr ⟨V2, 9, none⟩ = some (.slice (some ⟨g, 0, none⟩) nq s.path.c) from by have h := (how2.v2.cell 9).trans s.c9; rw [← Hnq.out, HA.out] at h; exact h)
              have ch := how2.hd k y HY.out g HA.out
              rw [← HNX.out] at ch
              by_cases hq : q < nx_
              · obtain ⟨gb, bcs, hbA, hbB, hbb, hbz⟩ := how2.pathB y (List.mem_of_getElem? HY.out) (by rw [← HNX.out]; omega)
                rw [hbA] at ch
                have hsz : q * 4 + 3 < bcs.size := by rw [← HNX.out] at hbz; have hbz : nx_ * 4 ≤ bcs.size := hbz; omega
                obtain ⟨gu, hgu⟩ : ∃ u, bcs[q * 4 + 3]? = some u := ⟨_, Array.getElem?_eq_getElem hsz⟩
                have kw : World.cell? wr ⟨gb, q * 4 + 3, none⟩ = some gu := (hbb.cell (q * 4 + 3)).trans hgu
                have kf := hbb.frozen (q * 4 + 3)
                have HO2 := Lib.hid (how2.set (i := q * 4 + 3) (.int .u64 77) hbB hbb (by decide) (.inl (by decide)))
                have HLQ := Lib.hid hq
                have q2_ : (0 : Int) ≤ (q : Int) := by omega
                have q3_ : (q : Int) < (nx_ : Int) := by omega
                clear how2 hbA hbB hbb hbz hsz hgu hqn
                go_wp2
                go_roundw
                case rel => exact ⟨q + 1, by have := HLQ.out; omega, by go_num, HO2.out⟩
                case measure => simp [intOf]; omega
              · have hqk : q = nx_ := by omega
                subst hqk
                have HO2 := Lib.hid how2
                clear how2 hqn hq
                go_wp2
                go_roundw
                case rel => exact ⟨k + 1, by have := HLT.out; omega, by go_num, HO2.out⟩
                case measure => simp [intOf]; omega
          · have hk : k = nq := by omega
            subst hk
            obtain ⟨wB, rfl⟩ : ∃ W, W = wr := ⟨_, rfl⟩
            have HOW := Lib.hid how
            clear how hkn hlt
            go_wp2_with fail
            try clear ce
            go_loopw [9] (fun i wr => ∃ k : Nat, k ≤ nb ∧ i = .int .i64 (k : Int) ∧ Ow w.heap.size w wr V1 V2 B o s wa) (fun i _ => nb - (intOf i).toNat)
            case atStart => exact ⟨0, Nat.zero_le _, rfl, HOW.out⟩
            case round =>
              obtain ⟨k, hkn, rfl, how⟩ := hrel
              clear HOW
              have ce := (show World.cell? wr ⟨V2, 14, none⟩ = some (.slice s.body.A nb s.body.c) from by have h := (how.v2.cell 14).trans s.c14; rw [← Hnb.out] at h; exact h)
              by_cases hlt : k < nb
              · obtain ⟨g, gcs, hA, hgB, hgb, hgz⟩ := how.body (by rw [← Hnb.out]; omega)
                rw [hA] at ce
                have hsz : k * 1 + 0 < gcs.size := by rw [← Hnb.out] at hgz; have hgz : nb * 1 ≤ gcs.size := hgz; omega
                obtain ⟨gu, hgu⟩ : ∃ u, gcs[k * 1 + 0]? = some u := ⟨_, Array.getElem?_eq_getElem hsz⟩
                have kw : World.cell? wr ⟨g, k, none⟩ = some gu := by have h := (hgb.cell (k * 1 + 0)).trans hgu; rw [show k * 1 + 0 = k from by omega] at h; exact h
                have kf := hgb.frozen (k)
                have HO := Lib.hid (how.set (i := k) (.int .u8 77) hgB hgb (by decide) (.inl (by decide)))
                have HLT := Lib.hid hlt
                have q0_ : (0 : Int) ≤ (k : Int) := by omega
                have q1_ : (k : Int) < (nb : Int) := by omega
                clear how hA hgB hgb hgz hsz hgu hkn
                go_wp2
                go_roundw
                case rel => exact ⟨k + 1, by have := HLT.out; omega, by go_num, HO.out⟩
                case measure => simp [intOf]; omega
              · have hk : k = nb := by omega
                subst hk
                obtain ⟨wC, rfl⟩ : ∃ W, W = wr := ⟨_, rfl⟩
                have HOW := Lib.hid how
                clear how hkn hlt
                go_wp2_with fail
                try clear ce
                go_loopw [10] (fun i wr => ∃ k : Nat, k ≤ ng ∧ i = .int .i64 (k : Int) ∧ Ow w.heap.size w wr V1 V2 B o s wa) (fun i _ => ng - (intOf i).toNat)
                case atStart => exact ⟨0, Nat.zero_le _, rfl, HOW.out⟩
                case round =>
                  obtain ⟨k, hkn, rfl, how⟩ := hrel
                  clear HOW
                  have ce := (show World.cell? wr ⟨V2, 19, none⟩ = some (.slice s.guards.A ng s.guards.c) from by have h := (how.v2.cell 19).trans s.c19; rw [← Hng.out] at h; exact h)
                  by_cases hlt : k < ng
                  · obtain ⟨g, gcs, hA, hgB, hgb, hgz⟩ := how.guards (by rw [← Hng.out]; omega)
                    rw [hA] at ce
                    have hsz : k * 1 + 0 < gcs.size := by rw [← Hng.out] at hgz; have hgz : ng * 1 ≤ gcs.size := hgz; omega
                    obtain ⟨gu, hgu⟩ : ∃ u, gcs[k * 1 + 0]? = some u := ⟨_, Array.getElem?_eq_getElem hsz⟩
                    have kw : World.cell? wr ⟨g, k, none⟩ = some gu := by have h := (hgb.cell (k * 1 + 0)).trans hgu; rw [show k * 1 + 0 = k from by omega] at h; exact h
                    have kf := hgb.frozen (k)
                    have HO := Lib.hid (how.set (i := k) (.int .i64 77) hgB hgb (by decide) (.inl (by decide)))
                    have HLT := Lib.hid hlt
                    have q0_ : (0 : Int) ≤ (k : Int) := by omega
                    have q1_ : (k : Int) < (ng : Int) := by omega
                    clear how hA hgB hgb hgz hsz hgu hkn
                    go_wp2
                    go_roundw
                    case rel => exact ⟨k + 1, by have := HLT.out; omega, by go_num, HO.out⟩
                    case measure => simp [intOf]; omega
                  · have hk : k = ng := by omega
                    subst hk
                    obtain ⟨wD, rfl⟩ : ∃ W, W = wr := ⟨_, rfl⟩
                    have HOW := Lib.hid how
                    clear how hkn hlt
                    have HP := Lib.hid (put_any o HOW.out.src.no HT.out.small HT.out.put9)
                    obtain ⟨N, hN⟩ : ∃ N, N = wD.heap.size := ⟨_, rfl⟩
                    have HLN := Lib.hid (HOW.out.src.weak (G := fun k => N ≤ k) fun k hk h => by have h : N ≤ k := h; omega)
                    have HWN := Lib.hid (HOW.out.wa.weak (G := fun k => N ≤ k) fun k hk h => by have h : N ≤ k := h; omega)
                    have HVN := Lib.hid (show V1 < N from hN ▸ Blk.lt HOW.out.v1)
                    have HVA := Lib.hid HOW.out.v1
                    have HB := Lib.hid HOW.out.bel
                    have HWN0 := Lib.hid (show w.heap.size ≤ N from hN ▸ HOW.out.bel.size)
                    clear HOW
                    go_wp2_with (refine wpList_load_op rfl _ rfl rfl HVA.out ?_)
                    clear ce
                    refine (HP.out).mono ?_
                    rintro e w6 ⟨pb, rfl, hpl, hpg, hb⟩
                    have HV6 := Lib.hid (HVA.out.below hb (Blk.lt HVA.out))
                    have HL6 := Lib.hid (HLN.out.below hb)
                    have HW6 := Lib.hid (HWN.out.bf (F := fun k => N ≤ k) (Bf.below hb))
                    have HB6 := Lib.hid (HB.out.trans (hb.mono HB.out.size))
                    have hpp : 0 < pb.l.length := by rw [hpl]; exact put_pos1 _
                    obtain ⟨gp, pcs, hpA, hpB, hpb, hps⟩ := hpg.wb hpp
                    have HLZ := Lib.hid (hpg.lz (F := No) fun _ h => h.elim)
                    obtain ⟨pl, pA, pc⟩ := pb
                    have hpA : pA = some ⟨gp, 0, none⟩ := hpA
                    subst hpA
                    obtain ⟨n, hn⟩ : ∃ n, n = pl.length := ⟨_, rfl⟩
                    have hps : pl.length * 1 ≤ pcs.size := hps
                    have hpl : pl = put o.er := hpl
                    have nle : n ≤ 30000 := by rw [hn, hpl]; exact put_len HT.out
                    have HPB := Lib.hid (show ∃ cs, Blk w6 gp 5 cs ∧ n ≤ cs.size from ⟨pcs, hpb, by omega⟩)
                    have HNG := Lib.hid (show N ≤ gp ∧ gp < w6.heap.size from ⟨hN ▸ hpB, hpb.lt⟩)
                    have HGT := Lib.hid (show Calls Tryz.prog 21 #[.slice (some ⟨gp, 0, none⟩) n pc] w6 (Gown w6 pl) from by rw [hn]; exact get_own ⟨pl, some ⟨gp, 0, none⟩, pc⟩ HLZ.out (by show pl.length ≤ 1000000; omega))
                    have HW0 := Lib.hid (show wrong pl = 0 from hpl ▸ (wrong_put o.er HT.out.ok).1)
                    have HPO := Lib.hid (show (pOp pl).v = o.er from hpl ▸ (wrong_put o.er HT.out.ok).2)
                    have hbv : (Ls.v ⟨pl, some ⟨gp, 0, none⟩, pc⟩ : Value) = .slice (some ⟨gp, 0, none⟩) n pc := by rw [hn]; rfl
                    rw [hbv]
                    clear hb hpl hpg hpp hpB hpb hps hn hbv HVA HLN HWN HB HLZ HP hN
                    go_wp2_with fail
                    refine (HGT.out).mono ?_
                    rintro e w7 ⟨xo, rfl, hxl, hxk, hx0, hb⟩
                    rw [HW0.out]
                    have HXE := Lib.hid (show xo.er = o.er from (hx0 HW0.out).trans HPO.out)
                    have HVZ := Lib.hid (Vr.new w7 LOp.zero)
                    have HVX := Lib.hid (var_new w7 xo)
                    have hb2 := hb.trans (var_below w7 LOp.zero xo hb.size)
                    have HO5 := Lib.hid (show O5 w.heap.size w ((w7.alloc (.cells LOp.zero.cells 35)).setRow w7.heap.size xo.cells) V1 w7.heap.size gp n o xo wa from ⟨HV6.out.below hb2 (Blk.lt HV6.out), HVX.out, (HL6.out.below hb2).weak fun k _ h => (by have h : k = gp := h; have := HNG.out.1; show N ≤ k; omega), var_lies (hxl.weak fun k _ h => (by have h : k = gp := h; have := HNG.out.2; show k < w6.heap.size; omega)) LOp.zero xo, (HW6.out.bf (F := fun k => N ≤ k) (Bf.below hb2)).weak fun k _ h => (by have h : k = gp := h; have := HNG.out.1; show N ≤ k; omega), (by obtain ⟨cs, h1, h2⟩ := HPB.out; exact ⟨cs, h1.below hb2 h1.lt, h2⟩), HB6.out.trans (hb2.mono HB6.out.size), (by have := HVN.out; have := HNG.out.1; omega), (by have h1 := HNG.out.2; have h2 := hb.size; omega), (by have h1 := HNG.out.1; have h2 := HWN0.out; omega)⟩)
                    clear hxl hxk hx0 hb hb2 HGT HPO HV6 HL6 HW6 HB6 HPB HVN HWN0 HW0 HNG
                    go_upto_region 26 with (refine wpList_store_op (o' := xo) rfl _ _ rfl rfl rfl HVZ.out ?_)
                    rw [zc]
                    obtain ⟨V3, hV3⟩ : ∃ V, V = w7.heap.size := ⟨_, rfl⟩
                    obtain ⟨w8, hw8⟩ : ∃ W, W = ((w7.alloc (.cells LOp.zero.cells 35)).setRow w7.heap.size xo.cells) := ⟨_, rfl⟩
                    rw [← hw8] at HO5 HVX ⊢
                    rw [← hV3] at HO5 HVX ⊢
                    clear hw8 hV3 HVZ HVX
                    go_wp2_with fail
                    go_loopw [14] (fun i wr => ∃ k : Nat, k ≤ n ∧ i = .int .i64 (k : Int) ∧ O5 w.heap.size w wr V1 V3 gp n o xo wa) (fun i _ => n - (intOf i).toNat)
                    case atStart => exact ⟨0, Nat.zero_le _, rfl, HO5.out⟩
                    case round =>
                      obtain ⟨k, hkn, rfl, ho5⟩ := hrel
                      clear HO5
                      by_cases hlt : k < n
                      · obtain ⟨cs, hc, hs⟩ := ho5.pb
                        obtain ⟨gu, hgu⟩ : ∃ u, cs[k]? = some u := ⟨_, Array.getElem?_eq_getElem (by omega)⟩
                        have kw : World.cell? wr ⟨gp, k, none⟩ = some gu := (hc.cell k).trans hgu
                        have kf := hc.frozen k
                        have HO := Lib.hid (ho5.set k (.int .u8 77))
                        have HLT := Lib.hid hlt
                        have q0_ : (0 : Int) ≤ (k : Int) := by omega
                        have q1_ : (k : Int) < (n : Int) := by omega
                        clear ho5 hc hs hgu hkn
                        go_wp2
                        go_roundw
                        case rel => exact ⟨k + 1, by have := HLT.out; omega, by go_num, HO.out⟩
                        case measure => simp [intOf]; omega
                      · have hk : k = n := by omega
                        subst hk
                        obtain ⟨w9, rfl⟩ : ∃ W, W = wr := ⟨_, rfl⟩
                        have HV1 := Lib.hid (show Vr w9.drew V1 o from ho5.v1)
                        have HV3 := Lib.hid (show Vr w9.drew V3 xo from ho5.v3)
                        have HL1 := Lib.hid (show Lies No w9.drew o from ho5.lo_.no.bf (Bf.drew w9))
                        have HL3 := Lib.hid (show Lies No w9.drew xo from ho5.lx.no.bf (Bf.drew w9))
                        have HWA := Lib.hid (show Lz kU8 No w9.drew wa from (ho5.wa.weak (G := No) fun _ _ h => h.elim).bf (Bf.drew w9))
                        have HB := Lib.hid (show Below w.heap.size w w9.drew from ho5.bel.trans (below_drewN w9 1 _))
                        have HTX := Lib.hid (show Tiny xo.er from HXE.out ▸ HT.out)
                        obtain ⟨sa, hsa⟩ : ∃ s : ByteArray, s = ⟨(put o.er).toArray⟩ := ⟨_, rfl⟩
                        have HSA := Lib.hid hsa
                        clear ho5 hkn hlt hsa
                        go_upto_region 30 with fail
                        refine wp_region_held_drew (S := (fun w' : World => Vr w' V1 o ∧ Vr w' V3 xo ∧ Lz kU8 No w' wa)) (by kernel_rfl) ⟨HV1.out, HV3.out, HWA.out⟩ (fun hHeld => ?_)
                        try simp only [Act.put, getElem_toArray, getElem_cons_zero, setIfInBounds_toArray, set_cons_zero, set_cons_succ]
                        refine wpAnyH_take (i := 0) (v := ?_) rfl (by kernel_rfl) (by kernel_rfl) (by kernel_rfl) (fun _ _ _ h => h) (Or.inl ⟨by rfl, ?_⟩) (by assumption) ?_
                        rotate_left
                        · (intro w hSw; (try dsimp only at hSw); clear hSw; go_simp; try (with_reducible rfl))
                        try simp only [Act.put, getElem_toArray, getElem_cons_zero, setIfInBounds_toArray, set_cons_zero, set_cons_succ]
                        refine wpAnyH_take (i := 1) (v := ?_) rfl (by kernel_rfl) (by kernel_rfl) (by kernel_rfl) (fun _ _ _ h => h) (Or.inl ⟨by rfl, ?_⟩) (by assumption) ?_
                        rotate_left
                        · (intro w hSw; (try dsimp only at hSw); clear hSw; go_simp; try (with_reducible rfl))
                        try simp only [Act.put, getElem_toArray, getElem_cons_succ, getElem_cons_zero, setIfInBounds_toArray, set_cons_zero, set_cons_succ]
                        refine wpAnyH_take (i := 2) (v := ?_) rfl (by kernel_rfl) (by kernel_rfl) (by kernel_rfl) (fun _ _ _ h => h) (Or.inl ⟨by rfl, ?_⟩) (by assumption) ?_
                        rotate_left
                        · (intro w hSw; (try dsimp only at hSw); clear hSw; go_simp; try (with_reducible rfl))
                        try simp only [Act.put, getElem_toArray, getElem_cons_succ, getElem_cons_zero, setIfInBounds_toArray, set_cons_zero, set_cons_succ]
                        refine wpAnyH_take (i := 3) (v := ?_) rfl (by kernel_rfl) (by kernel_rfl) (by kernel_rfl) (fun _ _ _ h => h) (Or.inl ⟨by rfl, ?_⟩) (by assumption) ?_
                        rotate_left
                        · (intro w hSw; (try dsimp only at hSw); refine run_load_op _ (.tmp 3) ?_ ?_ hSw.1 <;> rfl)
                        try simp only [Act.put, getElem_toArray, getElem_cons_succ, getElem_cons_zero, setIfInBounds_toArray, set_cons_zero, set_cons_succ]
                        refine wpAnyH_take (i := 6) (v := ?_) rfl (by kernel_rfl) (by kernel_rfl) (by kernel_rfl) (fun _ _ _ h => h) (Or.inl ⟨by rfl, ?_⟩) (by assumption) ?_
                        rotate_left
                        · (intro w hSw; (try dsimp only at hSw); clear hSw; go_simp; try (with_reducible rfl))
                        try simp only [Act.put, getElem_toArray, getElem_cons_succ, getElem_cons_zero, setIfInBounds_toArray, set_cons_zero, set_cons_succ]
                        refine wpAnyH_take (i := 7) (v := ?_) rfl (by kernel_rfl) (by kernel_rfl) (by kernel_rfl) (fun _ _ _ h => h) (Or.inl ⟨by rfl, ?_⟩) (by assumption) ?_
                        rotate_left
                        · (intro w hSw; (try dsimp only at hSw); have cv : (convert 28 9 wa.v).run Tryz.prog w = .ok (.string sa) w := (by rw [HSA.out, ← (show wa.l = put o.er from HWL.out)]; exact cu_conv_rd wa.A wa.l.length wa.c _ _ wa.l rfl hSw.2.2.rd8); clear hSw; go_simp; try (with_reducible rfl))
                        try simp only [Act.put, getElem_toArray, getElem_cons_succ, getElem_cons_zero, setIfInBounds_toArray, set_cons_zero, set_cons_succ]
                        refine wpAnyH_ready (rs := [4]) (by kernel_rfl) (by simp) ?_
                        refine AllReadyH.cons rfl (fun K hK => ?_) AllReadyH.nil
                        go_simp
                        have HC := Lib.hid (rput_any o HL1.out HT.out)
                        refine (HC.out).mono ?_
                        rintro e z4 ⟨y4, rfl, hyl, hgy, hb⟩
                        have V1_4 := Lib.hid (HV1.out.below hb (Blk.lt HV1.out))
                        have V3_4 := Lib.hid (HV3.out.below hb (Blk.lt HV3.out))
                        have L1_4 := Lib.hid (HL1.out.below hb)
                        have L3_4 := Lib.hid (HL3.out.below hb)
                        have WA_4 := Lib.hid (HWA.out.bf (F := No) (Bf.below hb))
                        have B_4 := Lib.hid (HB.out.trans (hb.mono HB.out.size))
                        have TN4 := Lib.hid (hgy.lz (F := No) fun _ h => h.elim)
                        have YL4 := Lib.hid hyl
                        clear hgy hyl
                        clear hb HC HV1 HV3 HL1 HL3 HWA HB 
                        try go_simp
                        refine hK.out _ _ ⟨V1_4.out, V3_4.out, WA_4.out⟩ (fun hHeld => ?_)
                        clear hK K
                        try simp only [Act.put, getElem_toArray, getElem_cons_succ, getElem_cons_zero, setIfInBounds_toArray, set_cons_zero, set_cons_succ]
                        refine wpAnyH_and' (fun w' => Lz kU8 No w' y4) _ _ _ _ ?_
                        have hHeld : (Vr z4 V1 o ∧ Vr z4 V3 xo ∧ Lz kU8 No z4 wa) ∧ Lz kU8 No z4 y4 := ⟨⟨V1_4.out, V3_4.out, WA_4.out⟩, TN4.out⟩
                        refine wpAnyH_take (i := 5) (v := ?_) rfl (by kernel_rfl) (by kernel_rfl) (by kernel_rfl) (fun _ _ _ h => h) (Or.inl ⟨by rfl, ?_⟩) (by assumption) ?_
                        rotate_left
                        · (intro w hSw; (try dsimp only at hSw); have cv : (convert 28 9 y4.v).run Tryz.prog w = .ok (.string sa) w := (by rw [HSA.out, ← (show y4.l = put o.er from YL4.out)]; exact cu_conv_rd y4.A y4.l.length y4.c _ _ y4.l rfl hSw.2.rd8); clear hSw; go_simp; try (with_reducible rfl))
                        try simp only [Act.put, getElem_toArray, getElem_cons_succ, getElem_cons_zero, setIfInBounds_toArray, set_cons_zero, set_cons_succ]
                        refine wpAnyH_take (i := 8) (v := ?_) rfl (by kernel_rfl) (by kernel_rfl) (by kernel_rfl) (fun _ _ _ h => h) (Or.inl ⟨by rfl, ?_⟩) (by assumption) ?_
                        rotate_left
                        · (intro w hSw; (try dsimp only at hSw); clear hSw; go_simp; try (with_reducible rfl))
                        try simp only [Act.put, getElem_toArray, getElem_cons_succ, getElem_cons_zero, setIfInBounds_toArray, set_cons_zero, set_cons_succ]
                        refine wpAnyH_take (i := 9) (v := ?_) rfl (by kernel_rfl) (by kernel_rfl) (by kernel_rfl) (fun _ _ _ h => h) (Or.inl ⟨by rfl, ?_⟩) (by assumption) ?_
                        rotate_left
                        · (intro w hSw; (try dsimp only at hSw); clear hSw; go_simp; try (with_reducible rfl))
                        try simp only [Act.put, getElem_toArray, getElem_cons_succ, getElem_cons_zero, setIfInBounds_toArray, set_cons_zero, set_cons_succ]
                        refine wpAnyH_take (i := 10) (v := ?_) rfl (by kernel_rfl) (by kernel_rfl) (by kernel_rfl) (fun _ _ _ h => h) (Or.inl ⟨by rfl, ?_⟩) (by assumption) ?_
                        rotate_left
                        · (intro w hSw; (try dsimp only at hSw); clear hSw; go_simp; try (with_reducible rfl))
                        try simp only [Act.put, getElem_toArray, getElem_cons_succ, getElem_cons_zero, setIfInBounds_toArray, set_cons_zero, set_cons_succ]
                        refine wpAnyH_take (i := 11) (v := ?_) rfl (by kernel_rfl) (by kernel_rfl) (by kernel_rfl) (fun _ _ _ h => h) (Or.inl ⟨by rfl, ?_⟩) (by assumption) ?_
                        rotate_left
                        · (intro w hSw; (try dsimp only at hSw); refine run_load_op _ (.tmp 12) ?_ ?_ hSw.1.2.1 <;> rfl)
                        try simp only [Act.put, getElem_toArray, getElem_cons_succ, getElem_cons_zero, setIfInBounds_toArray, set_cons_zero, set_cons_succ]
                        refine wpAnyH_take (i := 14) (v := ?_) rfl (by kernel_rfl) (by kernel_rfl) (by kernel_rfl) (fun _ _ _ h => h) (Or.inl ⟨by rfl, ?_⟩) (by assumption) ?_
                        rotate_left
                        · (intro w hSw; (try dsimp only at hSw); clear hSw; go_simp; try (with_reducible rfl))
                        try simp only [Act.put, getElem_toArray, getElem_cons_succ, getElem_cons_zero, setIfInBounds_toArray, set_cons_zero, set_cons_succ]
                        refine wpAnyH_take (i := 15) (v := ?_) rfl (by kernel_rfl) (by kernel_rfl) (by kernel_rfl) (fun _ _ _ h => h) (Or.inl ⟨by rfl, ?_⟩) (by assumption) ?_
                        rotate_left
                        · (intro w hSw; (try dsimp only at hSw); have cv : (convert 28 9 wa.v).run Tryz.prog w = .ok (.string sa) w := (by rw [HSA.out, ← (show wa.l = put o.er from HWL.out)]; exact cu_conv_rd wa.A wa.l.length wa.c _ _ wa.l rfl hSw.1.2.2.rd8); clear hSw; go_simp; try (with_reducible rfl))
                        try simp only [Act.put, getElem_toArray, getElem_cons_succ, getElem_cons_zero, setIfInBounds_toArray, set_cons_zero, set_cons_succ]
                        refine wpAnyH_ready (rs := [12]) (by kernel_rfl) (by simp) ?_
                        refine AllReadyH.cons rfl (fun K hK => ?_) AllReadyH.nil
                        go_simp
                        have HC := Lib.hid (rput_any xo L3_4.out HTX.out)
                        refine (HC.out).mono ?_
                        rintro e z12 ⟨y12, rfl, hyl, hgy, hb⟩
                        have V1_12 := Lib.hid (V1_4.out.below hb (Blk.lt V1_4.out))
                        have V3_12 := Lib.hid (V3_4.out.below hb (Blk.lt V3_4.out))
                        have L1_12 := Lib.hid (L1_4.out.below hb)
                        have L3_12 := Lib.hid (L3_4.out.below hb)
                        have WA_12 := Lib.hid (WA_4.out.bf (F := No) (Bf.below hb))
                        have B_12 := Lib.hid (B_4.out.trans (hb.mono B_4.out.size))
                        have T12_0 := Lib.hid (TN4.out.bf (F := No) (Bf.below hb))
                        have TN12 := Lib.hid (hgy.lz (F := No) fun _ h => h.elim)
                        have YL12 := Lib.hid hyl
                        clear hgy hyl
                        clear hb HC V1_4 V3_4 L1_4 L3_4 WA_4 B_4  TN4
                        try go_simp
                        refine hK.out _ _ ⟨⟨V1_12.out, V3_12.out, WA_12.out⟩, T12_0.out⟩ (fun hHeld => ?_)
                        clear hK K
                        try simp only [Act.put, getElem_toArray, getElem_cons_succ, getElem_cons_zero, setIfInBounds_toArray, set_cons_zero, set_cons_succ]
                        refine wpAnyH_and' (fun w' => Lz kU8 No w' y12) _ _ _ _ ?_
                        have hHeld : ((Vr z12 V1 o ∧ Vr z12 V3 xo ∧ Lz kU8 No z12 wa) ∧ Lz kU8 No z12 y4) ∧ Lz kU8 No z12 y12 := ⟨⟨⟨V1_12.out, V3_12.out, WA_12.out⟩, T12_0.out⟩, TN12.out⟩
                        refine wpAnyH_take (i := 13) (v := ?_) rfl (by kernel_rfl) (by kernel_rfl) (by kernel_rfl) (fun _ _ _ h => h) (Or.inl ⟨by rfl, ?_⟩) (by assumption) ?_
                        rotate_left
                        · (intro w hSw; (try dsimp only at hSw); have cv : (convert 28 9 y12.v).run Tryz.prog w = .ok (.string sa) w := (by rw [HSA.out, ← (show y12.l = put o.er from YL12.out.trans (congrArg put HXE.out))]; exact cu_conv_rd y12.A y12.l.length y12.c _ _ y12.l rfl hSw.2.rd8); clear hSw; go_simp; try (with_reducible rfl))
                        try simp only [Act.put, getElem_toArray, getElem_cons_succ, getElem_cons_zero, setIfInBounds_toArray, set_cons_zero, set_cons_succ]
                        refine wpAnyH_take (i := 16) (v := ?_) rfl (by kernel_rfl) (by kernel_rfl) (by kernel_rfl) (fun _ _ _ h => h) (Or.inl ⟨by rfl, ?_⟩) (by assumption) ?_
                        rotate_left
                        · (intro w hSw; (try dsimp only at hSw); clear hSw; go_simp; try (with_reducible rfl))
                        try simp only [Act.put, getElem_toArray, getElem_cons_succ, getElem_cons_zero, setIfInBounds_toArray, set_cons_zero, set_cons_succ]
                        refine wpAnyH_take (i := 17) (v := ?_) rfl (by kernel_rfl) (by kernel_rfl) (by kernel_rfl) (fun _ _ _ h => h) (Or.inl ⟨by rfl, ?_⟩) (by assumption) ?_
                        rotate_left
                        · (intro w hSw; (try dsimp only at hSw); clear hSw; go_simp; try (with_reducible rfl))
                        try simp only [Act.put, getElem_toArray, getElem_cons_succ, getElem_cons_zero, setIfInBounds_toArray, set_cons_zero, set_cons_succ]
                        refine wpAnyH_take (i := 18) (v := ?_) rfl (by kernel_rfl) (by kernel_rfl) (by kernel_rfl) (fun _ _ _ h => h) (Or.inl ⟨by rfl, ?_⟩) (by assumption) ?_
                        rotate_left
                        · (intro w hSw; (try dsimp only at hSw); clear hSw; go_simp; try (with_reducible rfl))
                        try simp only [Act.put, getElem_toArray, getElem_cons_succ, getElem_cons_zero, setIfInBounds_toArray, set_cons_zero, set_cons_succ]
                        refine wpAnyH_ready (rs := [19]) (by kernel_rfl) (by simp) ?_
                        refine AllReadyH.cons rfl (fun K hK => ?_) AllReadyH.nil
                        go_simp
                        have HC := Lib.hid (lives_any (HK.out.below B_12.out))
                        refine (HC.out).mono ?_
                        rintro e z19 ⟨rfl, hb⟩
                        have V1_19 := Lib.hid (V1_12.out.below hb (Blk.lt V1_12.out))
                        have V3_19 := Lib.hid (V3_12.out.below hb (Blk.lt V3_12.out))
                        have L1_19 := Lib.hid (L1_12.out.below hb)
                        have L3_19 := Lib.hid (L3_12.out.below hb)
                        have WA_19 := Lib.hid (WA_12.out.bf (F := No) (Bf.below hb))
                        have B_19 := Lib.hid (B_12.out.trans (hb.mono B_12.out.size))
                        have T19_0 := Lib.hid (T12_0.out.bf (F := No) (Bf.below hb))
                        have T19_1 := Lib.hid (TN12.out.bf (F := No) (Bf.below hb))
                        clear hb HC V1_12 V3_12 L1_12 L3_12 WA_12 B_12  T12_0 TN12
                        try go_simp
                        refine hK.out _ _ ⟨⟨⟨V1_19.out, V3_19.out, WA_19.out⟩, T19_0.out⟩, T19_1.out⟩ (fun hHeld => ?_)
                        clear hK K
                        try simp only [Act.put, getElem_toArray, getElem_cons_succ, getElem_cons_zero, setIfInBounds_toArray, set_cons_zero, set_cons_succ]
                        refine wpAnyH_take (i := 20) (v := ?_) rfl (by kernel_rfl) (by kernel_rfl) (by kernel_rfl) (fun _ _ _ h => h) (Or.inl ⟨by rfl, ?_⟩) (by assumption) ?_
                        rotate_left
                        · (intro w hSw; (try dsimp only at hSw); clear hSw; go_simp; try (with_reducible rfl))
                        try simp only [Act.put, getElem_toArray, getElem_cons_succ, getElem_cons_zero, setIfInBounds_toArray, set_cons_zero, set_cons_succ]
                        refine wpAnyH_take (i := 21) (v := ?_) rfl (by kernel_rfl) (by kernel_rfl) (by kernel_rfl) (fun _ _ _ h => h) (Or.inl ⟨by rfl, ?_⟩) (by assumption) ?_
                        rotate_left
                        · (intro w hSw; (try dsimp only at hSw); clear hSw; go_simp; try (with_reducible rfl))
                        try simp only [Act.put, getElem_toArray, getElem_cons_succ, getElem_cons_zero, setIfInBounds_toArray, set_cons_zero, set_cons_succ]
                        refine wpAnyH_done (by kernel_rfl) ?_ _
                        clear hHeld
                        go_wp2
                        go_ret
                        exact ⟨rfl, B_19.out⟩
end Ot
end Go.Proofs.YtkicjjcangkneaaGreatDoor
