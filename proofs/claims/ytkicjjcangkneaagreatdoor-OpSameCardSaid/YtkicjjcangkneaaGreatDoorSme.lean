/-
  Joined texts: Ouh Osk Osm Oss.
-/
import Derived.Test.YtkicjjcangkneaaGreatDoorRft
import Derived.Test.YtkicjjcangkneaaGreatDoorOrk
import Derived.Test.YtkicjjcangkneaaGreatDoorOtm
import Derived.Test.YtkicjjcangkneaaGreatDoorOug

/-
  The reference's SameOp: two operations are the same just if their rows of bytes are.
-/
namespace Go.Proofs.YtkicjjcangkneaaGreatDoor
open Go.RowKit
set_option linter.unusedSimpArgs false
set_option linter.unusedVariables false
attribute [local go_sem ↓] Go.wp_at_zero Go.wp_at_succ
set_option maxRecDepth 100000
namespace Ot
/-- What is asked of worlds may be made more on the way. -/
theorem wpAnyH_and' {P : Program} {ops : Array Oper} {Q : Exit → Act → World → Prop} {md : Region.Mode} {S : World → Prop} (T : World → Prop) : ∀ (fuel : Nat) (listed : Array Bool) (a : Act) (w : World), wpAnyH P md ops Q (fun w' => S w' ∧ T w') fuel listed a w → wpAnyH P md ops Q S fuel listed a w
  | 0, _, _, _, h => h
  | fuel + 1, _, _, _, h => ⟨h.1, fun i hi => wpOp_mono (fun a' w' h' => ⟨h'.1.1, wpAnyH_and' T fuel _ a' w' h'.2⟩) (h.2 i hi)⟩

theorem bytes_same (xs ys : List UInt8) : ((⟨xs.toArray⟩ : ByteArray).toList == (⟨ys.toArray⟩ : ByteArray).toList) = decide (xs = ys) := by
  rw [ByteArray.toList_eq, ByteArray.toList_eq]
  by_cases h : xs = ys
  · subst h; simp
  · rw [decide_eq_false h]
    simpa using h

set_option maxHeartbeats 4000000 in
theorem sameop_any {w : World} (a b : LOp) (ha : Lies No w a) (hb : Lies No w b) (hta : Tiny a.er) (htb : Tiny b.er) :
    Calls Tryz.prog 22 #[a.v, b.v] w fun e w' => e = .returned (.bool (decide (put a.er = put b.er))) ∧ Below w.heap.size w w' := by
  obtain ⟨cs, hcs⟩ : ∃ cs, cs = a.cells := ⟨_, rfl⟩
  obtain ⟨ds, hds⟩ : ∃ ds, ds = b.cells := ⟨_, rfl⟩
  have es : (w.alloc (.cells cs 35)).heap.size = w.heap.size + 1 := by simp
  have hV1 : Vr ((w.alloc (.cells cs 35)).alloc (.cells ds 35)) w.heap.size a := by
    unfold Vr
    rw [← hcs]
    exact blk_alloc (blk_new w 35 cs) _
  have hV2 : Vr ((w.alloc (.cells cs 35)).alloc (.cells ds 35)) (w.heap.size + 1) b := by
    unfold Vr
    rw [← hds, ← es]
    exact blk_new _ _ _
  have hbw : Below w.heap.size w ((w.alloc (.cells cs 35)).alloc (.cells ds 35)) := ((Below.refl _ w).alloc (Nat.le_refl _) _).alloc (by simp) _
  have hLa := (ha.alloc (.cells cs 35)).alloc (.cells ds 35)
  have hLb := (hb.alloc (.cells cs 35)).alloc (.cells ds 35)
  obtain ⟨w0, hw0⟩ : ∃ w0, w0 = (w.alloc (.cells cs 35)).alloc (.cells ds 35) := ⟨_, rfl⟩
  rw [← hw0] at hV1 hV2 hbw hLa hLb
  obtain ⟨V1, hV1'⟩ : ∃ V1, V1 = w.heap.size := ⟨_, rfl⟩
  obtain ⟨V2, hV2'⟩ : ∃ V2, V2 = w.heap.size + 1 := ⟨_, rfl⟩
  have HVAd := Lib.hid (show Vr w0.drew V1 a from hV1' ▸ hV1)
  have HVBd := Lib.hid (show Vr w0.drew V2 b from hV2' ▸ hV2)
  have HBd := Lib.hid (show Below w.heap.size w w0.drew from hbw.trans (below_drewN w0 1 w.heap.size))
  have HLAd := Lib.hid (show Lies No w0.drew a from hLa.bf (Bf.drew w0))
  have HLBd := Lib.hid (show Lies No w0.drew b from hLb.bf (Bf.drew w0))
  have HT := Lib.hid hta
  have HTB' := Lib.hid htb
  have HW0 := Lib.hid hw0
  have HE1 := Lib.hid hV1'
  have HE2 := Lib.hid hV2'
  obtain ⟨sa, hsa⟩ : ∃ s : ByteArray, s = ⟨(put a.er).toArray⟩ := ⟨_, rfl⟩
  obtain ⟨sb, hsb⟩ : ∃ s : ByteArray, s = ⟨(put b.er).toArray⟩ := ⟨_, rfl⟩
  have HSA := Lib.hid hsa
  have HSB := Lib.hid hsb
  show Calls _ _ #[.agg a.cells, .agg b.cells] w _
  rw [← hcs, ← hds]
  clear hV1 hV2 es hbw hLa hLb ha hb hta htb hcs hds hw0 hsa hsb hV1' hV2'
  go_enter Tryz.func22, Tryz.ntmps22
  go_wp2
  try rw [← HW0.out]
  rw [← HE2.out, ← HE1.out]
  refine wp_region_held_drew (S := (fun w' : World => Vr w' V1 a ∧ Vr w' V2 b)) (by kernel_rfl) ⟨HVAd.out, HVBd.out⟩ (fun hHeld => ?_)
  try simp only [Act.put, List.getElem_toArray, List.getElem_cons_succ, List.getElem_cons_zero, List.setIfInBounds_toArray, List.set_cons_zero, List.set_cons_succ]
  refine wpAnyH_take (i := 0) (v := ?_) rfl (by kernel_rfl) (by kernel_rfl) (by kernel_rfl) (fun _ _ _ h => h) (Or.inl ⟨by rfl, ?_⟩) (by assumption) ?_
  rotate_left
  · (intro w hSw; (try dsimp only at hSw); refine run_load_op _ (.tmp 2) ?_ ?_ hSw.1 <;> rfl)
  try simp only [Act.put, List.getElem_toArray, List.getElem_cons_zero, List.setIfInBounds_toArray, List.set_cons_zero, List.set_cons_succ]
  refine wpAnyH_take (i := 3) (v := ?_) rfl (by kernel_rfl) (by kernel_rfl) (by kernel_rfl) (fun _ _ _ h => h) (Or.inl ⟨by rfl, ?_⟩) (by assumption) ?_
  rotate_left
  · (intro w hSw; (try dsimp only at hSw); refine run_load_op _ (.tmp 3) ?_ ?_ hSw.2 <;> rfl)
  try simp only [Act.put, List.getElem_toArray, List.getElem_cons_succ, List.getElem_cons_zero, List.setIfInBounds_toArray, List.set_cons_zero, List.set_cons_succ]
  refine wpAnyH_ready (rs := [1]) (by kernel_rfl) (by simp) ?_
  refine AllReadyH.cons rfl (fun K hK => ?_) AllReadyH.nil
  go_simp
  have HC := Lib.hid (rput_any a HLAd.out HT.out)
  refine (HC.out).mono ?_
  rintro e x1 ⟨y1, rfl, hyl, hgy, hb⟩
  have VA1 := Lib.hid (HVAd.out.below hb (Blk.lt HVAd.out))
  have VB1 := Lib.hid (HVBd.out.below hb (Blk.lt HVBd.out))
  have LA1 := Lib.hid (HLAd.out.below hb)
  have LB1 := Lib.hid (HLBd.out.below hb)
  have BB1 := Lib.hid (HBd.out.trans (hb.mono HBd.out.size))
  have TN1 := Lib.hid (hgy.lz (F := No) fun _ h => h.elim)
  have YL1 := Lib.hid hyl
  clear hb HC hyl hgy HVAd HVBd HLAd HLBd HBd
  try go_simp
  refine hK.out _ _ ⟨VA1.out, VB1.out⟩ (fun hHeld1 => ?_)
  clear hK K
  try simp only [Act.put, List.getElem_toArray, List.getElem_cons_succ, List.getElem_cons_zero, List.setIfInBounds_toArray, List.set_cons_zero, List.set_cons_succ]
  refine wpAnyH_and' (fun w' => Lz kU8 No w' y1) _ _ _ _ ?_
  have hHeld : (Vr x1 V1 a ∧ Vr x1 V2 b) ∧ Lz kU8 No x1 y1 := ⟨⟨VA1.out, VB1.out⟩, TN1.out⟩
  refine wpAnyH_take (i := 2) (v := ?_) rfl (by kernel_rfl) (by kernel_rfl) (by kernel_rfl) (fun _ _ _ h => h) (Or.inl ⟨by rfl, ?_⟩) (by assumption) ?_
  rotate_left
  · (intro w hSw; (try dsimp only at hSw); have cv : (convert 28 9 y1.v).run Tryz.prog w = .ok (.string sa) w := (by rw [HSA.out, ← (show y1.l = put a.er from YL1.out)]; exact cu_conv_rd y1.A y1.l.length y1.c _ _ y1.l rfl (hSw.2).rd8); go_simp; try (with_reducible rfl))
  try simp only [Act.put, List.getElem_toArray, List.getElem_cons_succ, List.getElem_cons_zero, List.setIfInBounds_toArray, List.set_cons_zero, List.set_cons_succ]
  refine wpAnyH_ready (rs := [4]) (by kernel_rfl) (by simp) ?_
  refine AllReadyH.cons rfl (fun K hK => ?_) AllReadyH.nil
  go_simp
  have HC := Lib.hid (rput_any b LB1.out HTB'.out)
  refine (HC.out).mono ?_
  rintro e x2 ⟨y2, rfl, hyl, hgy, hb⟩
  have VA2 := Lib.hid (VA1.out.below hb (Blk.lt VA1.out))
  have VB2 := Lib.hid (VB1.out.below hb (Blk.lt VB1.out))
  have LA2 := Lib.hid (LA1.out.below hb)
  have LB2 := Lib.hid (LB1.out.below hb)
  have BB2 := Lib.hid (BB1.out.trans (hb.mono BB1.out.size))
  have T2_0 := Lib.hid (TN1.out.bf (F := No) (Bf.below hb))
  have TN2 := Lib.hid (hgy.lz (F := No) fun _ h => h.elim)
  have YL2 := Lib.hid hyl
  clear hb HC hyl hgy VA1 VB1 LA1 LB1 BB1 TN1
  try go_simp
  refine hK.out _ _ ⟨⟨VA2.out, VB2.out⟩, T2_0.out⟩ (fun hHeld1 => ?_)
  clear hK K
  try simp only [Act.put, List.getElem_toArray, List.getElem_cons_succ, List.getElem_cons_zero, List.setIfInBounds_toArray, List.set_cons_zero, List.set_cons_succ]
  refine wpAnyH_and' (fun w' => Lz kU8 No w' y2) _ _ _ _ ?_
  have hHeld : ((Vr x2 V1 a ∧ Vr x2 V2 b) ∧ Lz kU8 No x2 y1) ∧ Lz kU8 No x2 y2 := ⟨⟨⟨VA2.out, VB2.out⟩, T2_0.out⟩, TN2.out⟩
  refine wpAnyH_take (i := 5) (v := ?_) rfl (by kernel_rfl) (by kernel_rfl) (by kernel_rfl) (fun _ _ _ h => h) (Or.inl ⟨by rfl, ?_⟩) (by assumption) ?_
  rotate_left
  · (intro w hSw; (try dsimp only at hSw); have cv : (convert 28 9 y2.v).run Tryz.prog w = .ok (.string sb) w := (by rw [HSB.out, ← (show y2.l = put b.er from YL2.out)]; exact cu_conv_rd y2.A y2.l.length y2.c _ _ y2.l rfl (hSw.2).rd8); go_simp; try (with_reducible rfl))
  try simp only [Act.put, List.getElem_toArray, List.getElem_cons_succ, List.getElem_cons_zero, List.setIfInBounds_toArray, List.set_cons_zero, List.set_cons_succ]
  refine wpAnyH_take (i := 6) (v := ?_) rfl (by kernel_rfl) (by kernel_rfl) (by kernel_rfl) (fun _ _ _ h => h) (Or.inl ⟨by rfl, ?_⟩) (by assumption) ?_
  rotate_left
  · (intro w hSw; (try dsimp only at hSw); go_simp; try (with_reducible rfl))
  try simp only [Act.put, List.getElem_toArray, List.getElem_cons_succ, List.getElem_cons_zero, List.setIfInBounds_toArray, List.set_cons_zero, List.set_cons_succ]
  refine wpAnyH_take (i := 7) (v := ?_) rfl (by kernel_rfl) (by kernel_rfl) (by kernel_rfl) (fun _ _ _ h => h) (Or.inl ⟨by rfl, ?_⟩) (by assumption) ?_
  rotate_left
  · (intro w hSw; (try dsimp only at hSw); go_simp; try (with_reducible rfl))
  try simp only [Act.put, List.getElem_toArray, List.getElem_cons_succ, List.getElem_cons_zero, List.setIfInBounds_toArray, List.set_cons_zero, List.set_cons_succ]
  refine wpAnyH_done (by kernel_rfl) ?_ _
  go_wp2
  go_ret
  exact ⟨by rw [HSA.out, HSB.out, bytes_same]; rfl, BB2.out⟩

end Ot
end Go.Proofs.YtkicjjcangkneaaGreatDoor

/-
  A row of '&&' whose first part is false: all behind it is passed by. No condition.
-/
namespace Go.Proofs.YtkicjjcangkneaaGreatDoor
namespace Ot
/-- The slots of which it is known that they hold false, behind a row of operations that are all passed by, or pass false on. -/
def dead (n : Nat) (ops : Array Oper) : List Oper → List Nat → Option (List Nat)
  | [], k => some k
  | o :: rest, k =>
    match o.guard with
    | some (j, true) =>
      match (ops[j]?).bind (·.dst) with
      | some t => if k.contains t then dead n ops rest (match o.dst with | some d => k.filter (fun s => s != d) | none => k) else none
      | none => none
    | some (_, false) => none
    | none =>
      match o.dst, o.op with
      | some d, .move (.tmp s) => if k.contains s && decide (d < n) then dead n ops rest (d :: k) else none
      | some d, .assign (.tmp s) => if k.contains s && decide (d < n) then dead n ops rest (d :: k) else none
      | some d, .pick (.tmp s) _ (.const (.bool false)) => if k.contains s && decide (d < n) then dead n ops rest (d :: k) else none
      | _, _ => none
def Dd (n : Nat) (k : List Nat) (a : Act) : Prop := a.tmps.size = n ∧ ∀ s ∈ k, a.tmps[s]? = some (.bool false)
theorem Dd.none_ {n : Nat} {k : List Nat} {a : Act} (h : Dd n k a) (d : Nat) : Dd n (k.filter fun s => s != d) (a.put (some d) undef) := by
  refine ⟨by show (a.tmps.setIfInBounds d undef).size = n; rw [Array.size_setIfInBounds]; exact h.1, fun s hs => ?_⟩
  obtain ⟨h1, h2⟩ := List.mem_filter.1 hs
  have h2 : s ≠ d := by simpa using h2
  show (a.tmps.setIfInBounds d undef)[s]? = _
  rw [Array.getElem?_setIfInBounds_ne (Ne.symm h2)]
  exact h.2 s h1
theorem Dd.set {n : Nat} {k : List Nat} {a : Act} (h : Dd n k a) {d : Nat} (hd : d < n) : Dd n (d :: k) (a.put (some d) (.bool false)) := by
  refine ⟨by show (a.tmps.setIfInBounds d _).size = n; rw [Array.size_setIfInBounds]; exact h.1, fun s hs => ?_⟩
  show (a.tmps.setIfInBounds d _)[s]? = _
  by_cases e : d = s
  · subst e
    rw [Array.getElem?_setIfInBounds_self_of_lt (by rw [h.1]; exact hd)]
  · rw [Array.getElem?_setIfInBounds_ne e]
    rcases List.mem_cons.1 hs with h1 | h1
    · exact absurd h1.symm e
    · exact h.2 s h1
theorem Dd.eval {n : Nat} {k : List Nat} {a : Act} (h : Dd n k a) {s : Nat} (hs : k.contains s = true) : a.eval (.tmp s) = .bool false := by
  have := h.2 s (by simpa using hs)
  simp [Act.eval, this]
theorem Dd.off {n : Nat} {k : List Nat} {a : Act} (h : Dd n k a) {ops : Array Oper} {o : Oper} {j t : Nat} (hg : o.guard = some (j, true)) (hj : (ops[j]?).bind (·.dst) = some t) (ht : k.contains t = true) : Region.wanted o (yielded ops a.tmps) = false := by
  have := h.2 t (by simpa using ht)
  simp [Region.wanted, hg, yielded, hj, this]
theorem wpList_dead {P : Program} {ops : Array Oper} {Q : Exit → Act → World → Prop} {n : Nat} : ∀ (rest : List Oper) (k k' : List Nat) (a : Act) (w : World), dead n ops rest k = some k' → Dd n k a →
    (∀ a', a'.defers = a.defers → Dd n k' a' → Q .normal a' w) → wpList P ops Q rest a w
  | [], k, k', a, w, h, hk, H => by
    simp only [dead, Option.some.injEq] at h
    subst h
    exact wpList_nil (H a rfl hk)
  | o :: rest, k, k', a, w, h, hk, H => by
    unfold dead at h
    refine wpList_step fun K hK => ?_
    split at h
    · rename_i j hg
      split at h
      · rename_i t hj
        split at h
        · rename_i ht
          rw [if_neg (by rw [hk.off hg hj ht]; exact Bool.false_ne_true)]
          refine hK _ _ (wpList_dead rest _ k' _ w h ?_ fun a' hd hs => H a' (hd.trans ?_) hs)
          · cases hdst : o.dst with
            | none => exact hk
            | some d => exact hk.none_ d
          · cases o.dst <;> rfl
        · cases h
      · cases h
    · cases h
    · rename_i hg
      rw [if_pos (by simp [Region.wanted, hg])]
      split at h
      · rename_i d s hdst hop
        split at h
        · rename_i hc
          simp only [Bool.and_eq_true, decide_eq_true_eq] at hc
          have he := hk.eval hc.1
          have hr : (execOp a.eval o).run P w = .ok (.value (.bool false)) w := by
            simp only [Act.eval] at he
            simp [execOp, hop, go_sem]
            simpa using he
          unfold Oper.wp
          rw [hr, Oper.upon_value, hdst]
          exact hK _ _ (wpList_dead rest _ k' _ w h (hk.set hc.2) fun a' hd hs => H a' hd hs)
        · cases h
      · rename_i d s hdst hop
        split at h
        · rename_i hc
          simp only [Bool.and_eq_true, decide_eq_true_eq] at hc
          have he := hk.eval hc.1
          have hr : (execOp a.eval o).run P w = .ok (.value (.bool false)) w := by
            simp only [Act.eval] at he
            simp [execOp, hop, go_sem]
            simpa using he
          unfold Oper.wp
          rw [hr, Oper.upon_value, hdst]
          exact hK _ _ (wpList_dead rest _ k' _ w h (hk.set hc.2) fun a' hd hs => H a' hd hs)
        · cases h
      · rename_i d s y hdst hop
        split at h
        · rename_i hc
          simp only [Bool.and_eq_true, decide_eq_true_eq] at hc
          have he := hk.eval hc.1
          have hr : (execOp a.eval o).run P w = .ok (.value (.bool false)) w := by
            have h2 := hk.2 s (by simpa using hc.1)
            simp [execOp, hop, go_sem, h2]
          unfold Oper.wp
          rw [hr, Oper.upon_value, hdst]
          exact hK _ _ (wpList_dead rest _ k' _ w h (hk.set hc.2) fun a' hd hs => H a' hd hs)
        · cases h
      · cases h
def deadTo (n : Nat) (ops : Array Oper) (rest : List Oper) (s r : Nat) : Bool :=
  match dead n ops rest [s] with
  | some k => k.contains r
  | none => false
theorem wpList_off {P : Program} {ops : Array Oper} {Q : Exit → Act → World → Prop} {rest : List Oper} {a : Act} {w : World} (n s r : Nat) (hd : deadTo n ops rest s r = true) (hn : a.tmps.size = n) (hs : a.tmps[s]? = some (.bool false))
    (H : ∀ a', a'.defers = a.defers → a'.tmps.getD r undef = .bool false → Q .normal a' w) : wpList P ops Q rest a w := by
  unfold deadTo at hd
  split at hd
  · rename_i k hk
    refine wpList_dead rest [s] k a w hk ⟨hn, fun t ht => by rw [List.mem_singleton.1 ht]; exact hs⟩ fun a' h1 h2 => H a' h1 ?_
    exact h2.eval hd
  · cases hd
end Ot
end Go.Proofs.YtkicjjcangkneaaGreatDoor

/-
  Package op's Same (P11.5): two are the same just if all their fields and items are. No condition but what fits memory.
-/
namespace Go.Proofs.YtkicjjcangkneaaGreatDoor
open Go.RowKit
set_option linter.unusedSimpArgs false
set_option linter.unusedVariables false
attribute [local go_sem ↓] Go.wp_at_zero Go.wp_at_succ
set_option maxRecDepth 100000
namespace Ot
theorem int_ne {a b : Int} (h : ¬ a = b) : (a == b) = false := by rw [beq_eq_false_iff_ne]; exact h
theorem nat_ne {a b : Nat} (h : ¬ a = b) : ((a : Int) == (b : Int)) = false := by rw [beq_eq_false_iff_ne]; omega
theorem nm_off {x y : Pk.Nm} (h : ¬ x = y) : nmAlike x y = false := by rw [← Bool.not_eq_true, nmAlike_iff]; exact h

theorem er_eq {a b : Er} (h0 : a.by_ = b.by_) (h1 : a.seq = b.seq) (h2 : a.kind = b.kind) (h3 : a.at_ = b.at_) (h4 : a.past = b.past) (h5 : a.dev = b.dev) (h6 : a.old = b.old) (h7 : a.mem = b.mem) (h8 : a.role = b.role) (h9 : a.path = b.path) (h10 : a.epoch = b.epoch) (h11 : a.n = b.n) (h12 : a.body = b.body) (h13 : a.refs = b.refs) (h14 : a.of_ = b.of_) (h15 : a.guards = b.guards) (h16 : a.need = b.need) (h17 : a.wait = b.wait) (h18 : a.boxes = b.boxes) (h19 : a.pub = b.pub) (h20 : a.hist = b.hist) (h21 : a.r = b.r) (h22 : a.s = b.s) : a = b := by
  obtain ⟨f1, f2, f3, f4, f5, f6, f7, f8, f9, f10, f11, f12, f13, f14, f15, f16, f17, f18, f19, f20, f21, f22, f23⟩ := a
  obtain ⟨g1, g2, g3, g4, g5, g6, g7, g8, g9, g10, g11, g12, g13, g14, g15, g16, g17, g18, g19, g20, g21, g22, g23⟩ := b
  simp only at h0 h1 h2 h3 h4 h5 h6 h7 h8 h9 h10 h11 h12 h13 h14 h15 h16 h17 h18 h19 h20 h21 h22
  subst h0 h1 h2 h3 h4 h5 h6 h7 h8 h9 h10 h11 h12 h13 h14 h15 h16 h17 h18 h19 h20 h21 h22
  rfl

/-- Is told: whether all is alike. -/
def Sm (w : World) (a b : Er) (e : Ending) (w' : World) : Prop := ∃ r : Bool, e = .returned (.bool r) ∧ (r = true ↔ a = b) ∧ Below w.heap.size w w'
theorem Sm.no {w w' : World} {a b : Er} (h : ¬ a = b) (hb : Below w.heap.size w w') : Sm w a b (.returned (.bool false)) w' := ⟨false, rfl, ⟨fun e => (by cases e), fun e => absurd e h⟩, hb⟩
theorem Sm.yes {w w' : World} {a b : Er} (h : a = b) (hb : Below w.heap.size w w') : Sm w a b (.returned (.bool true)) w' := ⟨true, rfl, ⟨fun _ => h, fun _ => rfl⟩, hb⟩

set_option maxHeartbeats 16000000 in
theorem same_any {w : World} (o o' : LOp) (hx : Lies No w o) (hy : Lies No w o') (hk : Ok o.er) (hk' : Ok o'.er) :
    Calls Tryz.prog 31 #[o.v, o'.v] w (Sm w o.er o'.er) := by
  have hb := ((Below.refl w.heap.size w).alloc (Nat.le_refl _) (.cells o.cells 35)).alloc (by simp) (.cells o'.cells 35)
  have hP1 := blk_alloc (blk_new w 35 o.cells) (.cells o'.cells 35)
  have hP2 := blk_new (w.alloc (.cells o.cells 35)) 35 o'.cells
  rw [show (w.alloc (.cells o.cells 35)).heap.size = w.heap.size + 1 from by simp] at hP2
  obtain ⟨Q, hQ⟩ : ∃ Q, Q = Sm w o.er o'.er := ⟨_, rfl⟩
  rw [← hQ]
  have HQN := Lib.hid (fun (w' : World) (h : ¬ o.er = o'.er) (hb : Below w.heap.size w w') => (hQ ▸ Sm.no h hb : Q (.returned (.bool false)) w'))
  have HQY := Lib.hid (fun (w' : World) (h : o.er = o'.er) (hb : Below w.heap.size w w') => (hQ ▸ Sm.yes h hb : Q (.returned (.bool true)) w'))
  show Calls _ _ #[.agg o.cells, .agg o'.cells] w _
  obtain ⟨cs, hcs⟩ : ∃ cs, cs = o.cells := ⟨_, rfl⟩
  obtain ⟨cs', hcs'⟩ : ∃ cs', cs' = o'.cells := ⟨_, rfl⟩
  rw [← hcs, ← hcs'] at hP1 hP2 hb ⊢
  have HCS := Lib.hid hcs
  have HCS' := Lib.hid hcs'
  have HP1 := Lib.hid hP1
  have HP2 := Lib.hid hP2
  have HB := Lib.hid hb
  have HX := Lib.hid hx
  have HY := Lib.hid hy
  have HK := Lib.hid hk
  have HK' := Lib.hid hk'
  have hsx := fun W => idn_eql o.epoch o'.epoch W
  have hsf := fun W => idn_eql o.of_ o'.of_ W
  have hss := fun W => sg_eql o.r o.s o'.r o'.s W
  have hfr := fun op a b xs ys W => idn_free op a b xs ys W
  have hfs := fun op a b xs ys W => sg_free op a b xs ys W
  unfold nmv at hsx hsf
  clear hQ hcs hcs' hP1 hP2 hb hx hy hk hk'
  go_enter Tryz.func31, Tryz.ntmps31
  go_upto_region 1 with fail
  refine wp_region_list ?_
  simp only [List.append_toArray, List.append_eq, List.cons_append, List.nil_append]
  have c0 := (HP1.out.cell 0).trans (at_cs HCS.out o.c0)
  have d0 := (HP2.out.cell 0).trans (at_cs HCS'.out o'.c0)
  refine wpList_step (fun K hK => ?_)
  go_simp
  refine hK _ _ ?_
  clear hK K
  refine wpList_step (fun K hK => ?_)
  go_simp
  refine hK _ _ ?_
  clear hK K
  refine wpList_step (fun K hK => ?_)
  go_simp
  refine hK _ _ ?_
  clear hK K
  refine wpList_step (fun K hK => ?_)
  go_simp
  refine hK _ _ ?_
  clear hK K
  clear c0 d0
  by_cases q : o.by_ = o'.by_
  rotate_left
  · as_aux_lemma =>
      have qb := int_ne q
      have Hq := Lib.hid q
      clear q
      refine wpList_step (fun K hK => ?_)
      go_simp
      refine hK _ _ ?_
      clear hK K
      refine wpList_off 157 9 4 (by kernel_rfl) rfl rfl ?_
      intro a' hd' hs'
      go_wp2
      refine bodyPost_ret (results_tmp rfl _ _ _) hd' ?_
      rw [hs']
      exact HQN.out _ (fun h => Hq.out (congrArg Er.by_ h)) HB.out
  have H_by_ := Lib.hid q
  rw [← q]
  clear q
  refine wpList_step (fun K hK => ?_)
  go_simp
  refine hK _ _ ?_
  clear hK K
  refine wpList_step (fun K hK => ?_)
  go_simp
  refine hK _ _ ?_
  clear hK K
  have c1 := (HP1.out.cell 1).trans (at_cs HCS.out o.c1)
  have d1 := (HP2.out.cell 1).trans (at_cs HCS'.out o'.c1)
  refine wpList_step (fun K hK => ?_)
  go_simp
  refine hK _ _ ?_
  clear hK K
  refine wpList_step (fun K hK => ?_)
  go_simp
  refine hK _ _ ?_
  clear hK K
  refine wpList_step (fun K hK => ?_)
  go_simp
  refine hK _ _ ?_
  clear hK K
  refine wpList_step (fun K hK => ?_)
  go_simp
  refine hK _ _ ?_
  clear hK K
  clear c1 d1
  by_cases q : o.seq = o'.seq
  rotate_left
  · as_aux_lemma =>
      have qb := int_ne q
      have Hq := Lib.hid q
      clear q
      refine wpList_step (fun K hK => ?_)
      go_simp
      refine hK _ _ ?_
      clear hK K
      refine wpList_step (fun K hK => ?_)
      go_simp
      refine hK _ _ ?_
      clear hK K
      refine wpList_off 157 16 4 (by kernel_rfl) rfl rfl ?_
      intro a' hd' hs'
      go_wp2
      refine bodyPost_ret (results_tmp rfl _ _ _) hd' ?_
      rw [hs']
      exact HQN.out _ (fun h => Hq.out (congrArg Er.seq h)) HB.out
  have H_seq := Lib.hid q
  rw [← q]
  clear q
  refine wpList_step (fun K hK => ?_)
  go_simp
  refine hK _ _ ?_
  clear hK K
  refine wpList_step (fun K hK => ?_)
  go_simp
  refine hK _ _ ?_
  clear hK K
  refine wpList_step (fun K hK => ?_)
  go_simp
  refine hK _ _ ?_
  clear hK K
  have c2 := (HP1.out.cell 2).trans (at_cs HCS.out o.c2)
  have d2 := (HP2.out.cell 2).trans (at_cs HCS'.out o'.c2)
  refine wpList_step (fun K hK => ?_)
  go_simp
  refine hK _ _ ?_
  clear hK K
  refine wpList_step (fun K hK => ?_)
  go_simp
  refine hK _ _ ?_
  clear hK K
  refine wpList_step (fun K hK => ?_)
  go_simp
  refine hK _ _ ?_
  clear hK K
  refine wpList_step (fun K hK => ?_)
  go_simp
  refine hK _ _ ?_
  clear hK K
  clear c2 d2
  by_cases q : o.kind = o'.kind
  rotate_left
  · as_aux_lemma =>
      have qb := int_ne q
      have Hq := Lib.hid q
      clear q
      refine wpList_step (fun K hK => ?_)
      go_simp
      refine hK _ _ ?_
      clear hK K
      refine wpList_step (fun K hK => ?_)
      go_simp
      refine hK _ _ ?_
      clear hK K
      refine wpList_off 157 23 4 (by kernel_rfl) rfl rfl ?_
      intro a' hd' hs'
      go_wp2
      refine bodyPost_ret (results_tmp rfl _ _ _) hd' ?_
      rw [hs']
      exact HQN.out _ (fun h => Hq.out (congrArg Er.kind h)) HB.out
  have H_kind := Lib.hid q
  rw [← q]
  clear q
  refine wpList_step (fun K hK => ?_)
  go_simp
  refine hK _ _ ?_
  clear hK K
  refine wpList_step (fun K hK => ?_)
  go_simp
  refine hK _ _ ?_
  clear hK K
  refine wpList_step (fun K hK => ?_)
  go_simp
  refine hK _ _ ?_
  clear hK K
  have c3 := (HP1.out.cell 3).trans (at_cs HCS.out o.c3)
  have d3 := (HP2.out.cell 3).trans (at_cs HCS'.out o'.c3)
  refine wpList_step (fun K hK => ?_)
  go_simp
  refine hK _ _ ?_
  clear hK K
  refine wpList_step (fun K hK => ?_)
  go_simp
  refine hK _ _ ?_
  clear hK K
  refine wpList_step (fun K hK => ?_)
  go_simp
  refine hK _ _ ?_
  clear hK K
  refine wpList_step (fun K hK => ?_)
  go_simp
  refine hK _ _ ?_
  clear hK K
  clear c3 d3
  by_cases q : o.at_ = o'.at_
  rotate_left
  · as_aux_lemma =>
      have qb := int_ne q
      have Hq := Lib.hid q
      clear q
      refine wpList_step (fun K hK => ?_)
      go_simp
      refine hK _ _ ?_
      clear hK K
      refine wpList_step (fun K hK => ?_)
      go_simp
      refine hK _ _ ?_
      clear hK K
      refine wpList_off 157 30 4 (by kernel_rfl) rfl rfl ?_
      intro a' hd' hs'
      go_wp2
      refine bodyPost_ret (results_tmp rfl _ _ _) hd' ?_
      rw [hs']
      exact HQN.out _ (fun h => Hq.out (congrArg Er.at_ h)) HB.out
  have H_at_ := Lib.hid q
  rw [← q]
  clear q
  refine wpList_step (fun K hK => ?_)
  go_simp
  refine hK _ _ ?_
  clear hK K
  refine wpList_step (fun K hK => ?_)
  go_simp
  refine hK _ _ ?_
  clear hK K
  refine wpList_step (fun K hK => ?_)
  go_simp
  refine hK _ _ ?_
  clear hK K
  have c4 := (HP1.out.cell 4).trans (at_cs HCS.out o.c4)
  have d4 := (HP2.out.cell 4).trans (at_cs HCS'.out o'.c4)
  refine wpList_step (fun K hK => ?_)
  go_simp
  refine hK _ _ ?_
  clear hK K
  refine wpList_step (fun K hK => ?_)
  go_simp
  refine hK _ _ ?_
  clear hK K
  refine wpList_step (fun K hK => ?_)
  go_simp
  refine hK _ _ ?_
  clear hK K
  refine wpList_step (fun K hK => ?_)
  go_simp
  refine hK _ _ ?_
  clear hK K
  clear c4 d4
  have HC := Lib.hid (eq_nm o.past o'.past (HX.out.past.bf (Bf.below HB.out)) (HY.out.past.bf (Bf.below HB.out)) (Nat.le_trans HK.out.past.1 (by decide)) (Nat.le_trans HK'.out.past.1 (by decide)))
  refine wpList_step (fun K hK => ?_)
  go_simp
  refine (HC.out).mono ?_
  rintro e w1 ⟨r, rfl, hr, hb⟩
  have HR := Lib.hid hr
  have HP1' := Lib.hid (HP1.out.below hb HP1.out.lt)
  have HP2' := Lib.hid (HP2.out.below hb HP2.out.lt)
  have HB' := Lib.hid (HB.out.trans (hb.mono HB.out.size))
  clear HP1 HP2 HB HC hr hb
  have HP1 := HP1'
  have HP2 := HP2'
  have HB := HB'
  clear HP1' HP2' HB'
  try go_simp
  refine hK _ _ ?_
  clear hK K
  cases r
  · as_aux_lemma =>
      refine wpList_step (fun K hK => ?_)
      go_simp
      refine hK _ _ ?_
      clear hK K
      refine wpList_off 157 37 4 (by kernel_rfl) rfl rfl ?_
      intro a' hd' hs'
      go_wp2
      refine bodyPost_ret (results_tmp rfl _ _ _) hd' ?_
      rw [hs']
      exact HQN.out _ (fun h => (by have h1 := HR.out.2 (congrArg Er.past h); cases h1)) HB.out
  have H_past := Lib.hid (HR.out.1 rfl)
  clear HR
  refine wpList_step (fun K hK => ?_)
  go_simp
  refine hK _ _ ?_
  clear hK K
  refine wpList_step (fun K hK => ?_)
  go_simp
  refine hK _ _ ?_
  clear hK K
  have c5 := (HP1.out.cell 5).trans (at_cs HCS.out o.c5)
  have d5 := (HP2.out.cell 5).trans (at_cs HCS'.out o'.c5)
  refine wpList_step (fun K hK => ?_)
  go_simp
  refine hK _ _ ?_
  clear hK K
  refine wpList_step (fun K hK => ?_)
  go_simp
  refine hK _ _ ?_
  clear hK K
  refine wpList_step (fun K hK => ?_)
  go_simp
  refine hK _ _ ?_
  clear hK K
  refine wpList_step (fun K hK => ?_)
  go_simp
  refine hK _ _ ?_
  clear hK K
  clear c5 d5
  by_cases q : o.dev = o'.dev
  rotate_left
  · as_aux_lemma =>
      have qb := int_ne q
      have Hq := Lib.hid q
      clear q
      refine wpList_step (fun K hK => ?_)
      go_simp
      refine hK _ _ ?_
      clear hK K
      refine wpList_step (fun K hK => ?_)
      go_simp
      refine hK _ _ ?_
      clear hK K
      refine wpList_off 157 44 4 (by kernel_rfl) rfl rfl ?_
      intro a' hd' hs'
      go_wp2
      refine bodyPost_ret (results_tmp rfl _ _ _) hd' ?_
      rw [hs']
      exact HQN.out _ (fun h => Hq.out (congrArg Er.dev h)) HB.out
  have H_dev := Lib.hid q
  rw [← q]
  clear q
  refine wpList_step (fun K hK => ?_)
  go_simp
  refine hK _ _ ?_
  clear hK K
  refine wpList_step (fun K hK => ?_)
  go_simp
  refine hK _ _ ?_
  clear hK K
  refine wpList_step (fun K hK => ?_)
  go_simp
  refine hK _ _ ?_
  clear hK K
  have c6 := (HP1.out.cell 6).trans (at_cs HCS.out o.c6)
  have d6 := (HP2.out.cell 6).trans (at_cs HCS'.out o'.c6)
  refine wpList_step (fun K hK => ?_)
  go_simp
  refine hK _ _ ?_
  clear hK K
  refine wpList_step (fun K hK => ?_)
  go_simp
  refine hK _ _ ?_
  clear hK K
  refine wpList_step (fun K hK => ?_)
  go_simp
  refine hK _ _ ?_
  clear hK K
  refine wpList_step (fun K hK => ?_)
  go_simp
  refine hK _ _ ?_
  clear hK K
  clear c6 d6
  by_cases q : o.old = o'.old
  rotate_left
  · as_aux_lemma =>
      have qb := int_ne q
      have Hq := Lib.hid q
      clear q
      refine wpList_step (fun K hK => ?_)
      go_simp
      refine hK _ _ ?_
      clear hK K
      refine wpList_step (fun K hK => ?_)
      go_simp
      refine hK _ _ ?_
      clear hK K
      refine wpList_off 157 51 4 (by kernel_rfl) rfl rfl ?_
      intro a' hd' hs'
      go_wp2
      refine bodyPost_ret (results_tmp rfl _ _ _) hd' ?_
      rw [hs']
      exact HQN.out _ (fun h => Hq.out (congrArg Er.old h)) HB.out
  have H_old := Lib.hid q
  rw [← q]
  clear q
  refine wpList_step (fun K hK => ?_)
  go_simp
  refine hK _ _ ?_
  clear hK K
  refine wpList_step (fun K hK => ?_)
  go_simp
  refine hK _ _ ?_
  clear hK K
  refine wpList_step (fun K hK => ?_)
  go_simp
  refine hK _ _ ?_
  clear hK K
  have c7 := (HP1.out.cell 7).trans (at_cs HCS.out o.c7)
  have d7 := (HP2.out.cell 7).trans (at_cs HCS'.out o'.c7)
  refine wpList_step (fun K hK => ?_)
  go_simp
  refine hK _ _ ?_
  clear hK K
  refine wpList_step (fun K hK => ?_)
  go_simp
  refine hK _ _ ?_
  clear hK K
  refine wpList_step (fun K hK => ?_)
  go_simp
  refine hK _ _ ?_
  clear hK K
  refine wpList_step (fun K hK => ?_)
  go_simp
  refine hK _ _ ?_
  clear hK K
  clear c7 d7
  by_cases q : o.mem = o'.mem
  rotate_left
  · as_aux_lemma =>
      have qb := int_ne q
      have Hq := Lib.hid q
      clear q
      refine wpList_step (fun K hK => ?_)
      go_simp
      refine hK _ _ ?_
      clear hK K
      refine wpList_step (fun K hK => ?_)
      go_simp
      refine hK _ _ ?_
      clear hK K
      refine wpList_off 157 58 4 (by kernel_rfl) rfl rfl ?_
      intro a' hd' hs'
      go_wp2
      refine bodyPost_ret (results_tmp rfl _ _ _) hd' ?_
      rw [hs']
      exact HQN.out _ (fun h => Hq.out (congrArg Er.mem h)) HB.out
  have H_mem := Lib.hid q
  rw [← q]
  clear q
  refine wpList_step (fun K hK => ?_)
  go_simp
  refine hK _ _ ?_
  clear hK K
  refine wpList_step (fun K hK => ?_)
  go_simp
  refine hK _ _ ?_
  clear hK K
  refine wpList_step (fun K hK => ?_)
  go_simp
  refine hK _ _ ?_
  clear hK K
  have c8 := (HP1.out.cell 8).trans (at_cs HCS.out o.c8)
  have d8 := (HP2.out.cell 8).trans (at_cs HCS'.out o'.c8)
  refine wpList_step (fun K hK => ?_)
  go_simp
  refine hK _ _ ?_
  clear hK K
  refine wpList_step (fun K hK => ?_)
  go_simp
  refine hK _ _ ?_
  clear hK K
  refine wpList_step (fun K hK => ?_)
  go_simp
  refine hK _ _ ?_
  clear hK K
  refine wpList_step (fun K hK => ?_)
  go_simp
  refine hK _ _ ?_
  clear hK K
  clear c8 d8
  by_cases q : o.role = o'.role
  rotate_left
  · as_aux_lemma =>
      have qb := int_ne q
      have Hq := Lib.hid q
      clear q
      refine wpList_step (fun K hK => ?_)
      go_simp
      refine hK _ _ ?_
      clear hK K
      refine wpList_step (fun K hK => ?_)
      go_simp
      refine hK _ _ ?_
      clear hK K
      refine wpList_off 157 65 4 (by kernel_rfl) rfl rfl ?_
      intro a' hd' hs'
      go_wp2
      refine bodyPost_ret (results_tmp rfl _ _ _) hd' ?_
      rw [hs']
      exact HQN.out _ (fun h => Hq.out (congrArg Er.role h)) HB.out
  have H_role := Lib.hid q
  rw [← q]
  clear q
  refine wpList_step (fun K hK => ?_)
  go_simp
  refine hK _ _ ?_
  clear hK K
  refine wpList_step (fun K hK => ?_)
  go_simp
  refine hK _ _ ?_
  clear hK K
  refine wpList_step (fun K hK => ?_)
  go_simp
  refine hK _ _ ?_
  clear hK K
  have c9 := (HP1.out.cell 9).trans (at_cs HCS.out o.c9)
  have d9 := (HP2.out.cell 9).trans (at_cs HCS'.out o'.c9)
  refine wpList_step (fun K hK => ?_)
  go_simp
  refine hK _ _ ?_
  clear hK K
  refine wpList_step (fun K hK => ?_)
  go_simp
  refine hK _ _ ?_
  clear hK K
  refine wpList_step (fun K hK => ?_)
  go_simp
  refine hK _ _ ?_
  clear hK K
  refine wpList_step (fun K hK => ?_)
  go_simp
  refine hK _ _ ?_
  clear hK K
  clear c9 d9
  have HC := Lib.hid (eq_nd o.path o'.path (HX.out.path.bf (Bf.below HB.out)) (HY.out.path.bf (Bf.below HB.out)) (nd_len HK.out) (nd_len HK'.out) (fun z hz => ⟨(HX.out.pathB z hz).bf (Bf.below HB.out), HK.out.path.2 _ (List.mem_map_of_mem hz)⟩) (fun z hz => ⟨(HY.out.pathB z hz).bf (Bf.below HB.out), HK'.out.path.2 _ (List.mem_map_of_mem hz)⟩))
  refine wpList_step (fun K hK => ?_)
  go_simp
  refine (HC.out).mono ?_
  rintro e w2 ⟨r, rfl, hr, hb⟩
  have HR := Lib.hid hr
  have HP1' := Lib.hid (HP1.out.below hb HP1.out.lt)
  have HP2' := Lib.hid (HP2.out.below hb HP2.out.lt)
  have HB' := Lib.hid (HB.out.trans (hb.mono HB.out.size))
  clear HP1 HP2 HB HC hr hb
  have HP1 := HP1'
  have HP2 := HP2'
  have HB := HB'
  clear HP1' HP2' HB'
  try go_simp
  refine hK _ _ ?_
  clear hK K
  cases r
  · as_aux_lemma =>
      refine wpList_step (fun K hK => ?_)
      go_simp
      refine hK _ _ ?_
      clear hK K
      refine wpList_off 157 72 4 (by kernel_rfl) rfl rfl ?_
      intro a' hd' hs'
      go_wp2
      refine bodyPost_ret (results_tmp rfl _ _ _) hd' ?_
      rw [hs']
      exact HQN.out _ (fun h => (by have h1 := HR.out.2 (congrArg Er.path h); cases h1)) HB.out
  have H_path := Lib.hid (HR.out.1 rfl)
  clear HR
  refine wpList_step (fun K hK => ?_)
  go_simp
  refine hK _ _ ?_
  clear hK K
  refine wpList_step (fun K hK => ?_)
  go_simp
  refine hK _ _ ?_
  clear hK K
  have c10 := (HP1.out.cell 10).trans (at_cs HCS.out o.c10)
  have d10 := (HP2.out.cell 10).trans (at_cs HCS'.out o'.c10)
  have c11 := (HP1.out.cell 11).trans (at_cs HCS.out o.c11)
  have d11 := (HP2.out.cell 11).trans (at_cs HCS'.out o'.c11)
  have c12 := (HP1.out.cell 12).trans (at_cs HCS.out o.c12)
  have d12 := (HP2.out.cell 12).trans (at_cs HCS'.out o'.c12)
  refine wpList_step (fun K hK => ?_)
  go_simp
  refine hK _ _ ?_
  clear hK K
  refine wpList_step (fun K hK => ?_)
  go_simp
  refine hK _ _ ?_
  clear hK K
  refine wpList_step (fun K hK => ?_)
  go_simp
  refine hK _ _ ?_
  clear hK K
  refine wpList_step (fun K hK => ?_)
  go_simp
  refine hK _ _ ?_
  clear hK K
  clear c10 d10 c11 d11 c12 d12
  by_cases q : o.epoch = o'.epoch
  rotate_left
  · as_aux_lemma =>
      have Hq := Lib.hid q
      rw [nm_off q] at hsx
      clear q
      refine wpList_step (fun K hK => ?_)
      go_simp
      refine hK _ _ ?_
      clear hK K
      refine wpList_step (fun K hK => ?_)
      go_simp
      refine hK _ _ ?_
      clear hK K
      refine wpList_off 157 79 4 (by kernel_rfl) rfl rfl ?_
      intro a' hd' hs'
      go_wp2
      refine bodyPost_ret (results_tmp rfl _ _ _) hd' ?_
      rw [hs']
      exact HQN.out _ (fun h => Hq.out (congrArg Er.epoch h)) HB.out
  rw [(nmAlike_iff _ _).2 q] at hsx
  have H_epoch := Lib.hid q
  clear q
  refine wpList_step (fun K hK => ?_)
  go_simp
  refine hK _ _ ?_
  clear hK K
  refine wpList_step (fun K hK => ?_)
  go_simp
  refine hK _ _ ?_
  clear hK K
  refine wpList_step (fun K hK => ?_)
  go_simp
  refine hK _ _ ?_
  clear hK K
  have c13 := (HP1.out.cell 13).trans (at_cs HCS.out o.c13)
  have d13 := (HP2.out.cell 13).trans (at_cs HCS'.out o'.c13)
  refine wpList_step (fun K hK => ?_)
  go_simp
  refine hK _ _ ?_
  clear hK K
  refine wpList_step (fun K hK => ?_)
  go_simp
  refine hK _ _ ?_
  clear hK K
  refine wpList_step (fun K hK => ?_)
  go_simp
  refine hK _ _ ?_
  clear hK K
  refine wpList_step (fun K hK => ?_)
  go_simp
  refine hK _ _ ?_
  clear hK K
  clear c13 d13
  by_cases q : o.n = o'.n
  rotate_left
  · as_aux_lemma =>
      have qb := int_ne q
      have Hq := Lib.hid q
      clear q
      refine wpList_step (fun K hK => ?_)
      go_simp
      refine hK _ _ ?_
      clear hK K
      refine wpList_step (fun K hK => ?_)
      go_simp
      refine hK _ _ ?_
      clear hK K
      refine wpList_off 157 86 4 (by kernel_rfl) rfl rfl ?_
      intro a' hd' hs'
      go_wp2
      refine bodyPost_ret (results_tmp rfl _ _ _) hd' ?_
      rw [hs']
      exact HQN.out _ (fun h => Hq.out (congrArg Er.n h)) HB.out
  have H_n := Lib.hid q
  rw [← q]
  clear q
  refine wpList_step (fun K hK => ?_)
  go_simp
  refine hK _ _ ?_
  clear hK K
  refine wpList_step (fun K hK => ?_)
  go_simp
  refine hK _ _ ?_
  clear hK K
  refine wpList_step (fun K hK => ?_)
  go_simp
  refine hK _ _ ?_
  clear hK K
  have c14 := (HP1.out.cell 14).trans (at_cs HCS.out o.c14)
  have d14 := (HP2.out.cell 14).trans (at_cs HCS'.out o'.c14)
  refine wpList_step (fun K hK => ?_)
  go_simp
  refine hK _ _ ?_
  clear hK K
  refine wpList_step (fun K hK => ?_)
  go_simp
  refine hK _ _ ?_
  clear hK K
  refine wpList_step (fun K hK => ?_)
  go_simp
  refine hK _ _ ?_
  clear hK K
  refine wpList_step (fun K hK => ?_)
  go_simp
  refine hK _ _ ?_
  clear hK K
  clear c14 d14
  have HC := Lib.hid (eq_bytes o.body o'.body (HX.out.body.bf (Bf.below HB.out)) (HY.out.body.bf (Bf.below HB.out)))
  refine wpList_step (fun K hK => ?_)
  go_simp
  refine (HC.out).mono ?_
  rintro e w3 ⟨r, rfl, hr, hb⟩
  have HR := Lib.hid hr
  have HP1' := Lib.hid (HP1.out.below hb HP1.out.lt)
  have HP2' := Lib.hid (HP2.out.below hb HP2.out.lt)
  have HB' := Lib.hid (HB.out.trans (hb.mono HB.out.size))
  clear HP1 HP2 HB HC hr hb
  have HP1 := HP1'
  have HP2 := HP2'
  have HB := HB'
  clear HP1' HP2' HB'
  try go_simp
  refine hK _ _ ?_
  clear hK K
  cases r
  · as_aux_lemma =>
      refine wpList_step (fun K hK => ?_)
      go_simp
      refine hK _ _ ?_
      clear hK K
      refine wpList_off 157 93 4 (by kernel_rfl) rfl rfl ?_
      intro a' hd' hs'
      go_wp2
      refine bodyPost_ret (results_tmp rfl _ _ _) hd' ?_
      rw [hs']
      exact HQN.out _ (fun h => (by have h1 := HR.out.2 (congrArg Er.body h); cases h1)) HB.out
  have H_body := Lib.hid (HR.out.1 rfl)
  clear HR
  refine wpList_step (fun K hK => ?_)
  go_simp
  refine hK _ _ ?_
  clear hK K
  refine wpList_step (fun K hK => ?_)
  go_simp
  refine hK _ _ ?_
  clear hK K
  have c15 := (HP1.out.cell 15).trans (at_cs HCS.out o.c15)
  have d15 := (HP2.out.cell 15).trans (at_cs HCS'.out o'.c15)
  refine wpList_step (fun K hK => ?_)
  go_simp
  refine hK _ _ ?_
  clear hK K
  refine wpList_step (fun K hK => ?_)
  go_simp
  refine hK _ _ ?_
  clear hK K
  refine wpList_step (fun K hK => ?_)
  go_simp
  refine hK _ _ ?_
  clear hK K
  refine wpList_step (fun K hK => ?_)
  go_simp
  refine hK _ _ ?_
  clear hK K
  clear c15 d15
  have HC := Lib.hid (eq_u64 o.refs o'.refs (HX.out.refs.bf (Bf.below HB.out)) (HY.out.refs.bf (Bf.below HB.out)) (Nat.le_trans HK.out.refs.1 (by decide)) (Nat.le_trans HK'.out.refs.1 (by decide)))
  refine wpList_step (fun K hK => ?_)
  go_simp
  refine (HC.out).mono ?_
  rintro e w4 ⟨r, rfl, hr, hb⟩
  have HR := Lib.hid hr
  have HP1' := Lib.hid (HP1.out.below hb HP1.out.lt)
  have HP2' := Lib.hid (HP2.out.below hb HP2.out.lt)
  have HB' := Lib.hid (HB.out.trans (hb.mono HB.out.size))
  clear HP1 HP2 HB HC hr hb
  have HP1 := HP1'
  have HP2 := HP2'
  have HB := HB'
  clear HP1' HP2' HB'
  try go_simp
  refine hK _ _ ?_
  clear hK K
  cases r
  · as_aux_lemma =>
      refine wpList_step (fun K hK => ?_)
      go_simp
      refine hK _ _ ?_
      clear hK K
      refine wpList_off 157 100 4 (by kernel_rfl) rfl rfl ?_
      intro a' hd' hs'
      go_wp2
      refine bodyPost_ret (results_tmp rfl _ _ _) hd' ?_
      rw [hs']
      exact HQN.out _ (fun h => (by have h1 := HR.out.2 (congrArg Er.refs h); cases h1)) HB.out
  have H_refs := Lib.hid (HR.out.1 rfl)
  clear HR
  refine wpList_step (fun K hK => ?_)
  go_simp
  refine hK _ _ ?_
  clear hK K
  refine wpList_step (fun K hK => ?_)
  go_simp
  refine hK _ _ ?_
  clear hK K
  have c16 := (HP1.out.cell 16).trans (at_cs HCS.out o.c16)
  have d16 := (HP2.out.cell 16).trans (at_cs HCS'.out o'.c16)
  have c17 := (HP1.out.cell 17).trans (at_cs HCS.out o.c17)
  have d17 := (HP2.out.cell 17).trans (at_cs HCS'.out o'.c17)
  have c18 := (HP1.out.cell 18).trans (at_cs HCS.out o.c18)
  have d18 := (HP2.out.cell 18).trans (at_cs HCS'.out o'.c18)
  refine wpList_step (fun K hK => ?_)
  go_simp
  refine hK _ _ ?_
  clear hK K
  refine wpList_step (fun K hK => ?_)
  go_simp
  refine hK _ _ ?_
  clear hK K
  refine wpList_step (fun K hK => ?_)
  go_simp
  refine hK _ _ ?_
  clear hK K
  refine wpList_step (fun K hK => ?_)
  go_simp
  refine hK _ _ ?_
  clear hK K
  clear c16 d16 c17 d17 c18 d18
  by_cases q : o.of_ = o'.of_
  rotate_left
  · as_aux_lemma =>
      have Hq := Lib.hid q
      rw [nm_off q] at hsf
      clear q
      refine wpList_step (fun K hK => ?_)
      go_simp
      refine hK _ _ ?_
      clear hK K
      refine wpList_step (fun K hK => ?_)
      go_simp
      refine hK _ _ ?_
      clear hK K
      refine wpList_off 157 107 4 (by kernel_rfl) rfl rfl ?_
      intro a' hd' hs'
      go_wp2
      refine bodyPost_ret (results_tmp rfl _ _ _) hd' ?_
      rw [hs']
      exact HQN.out _ (fun h => Hq.out (congrArg Er.of_ h)) HB.out
  rw [(nmAlike_iff _ _).2 q] at hsf
  have H_of_ := Lib.hid q
  clear q
  refine wpList_step (fun K hK => ?_)
  go_simp
  refine hK _ _ ?_
  clear hK K
  refine wpList_step (fun K hK => ?_)
  go_simp
  refine hK _ _ ?_
  clear hK K
  refine wpList_step (fun K hK => ?_)
  go_simp
  refine hK _ _ ?_
  clear hK K
  have c19 := (HP1.out.cell 19).trans (at_cs HCS.out o.c19)
  have d19 := (HP2.out.cell 19).trans (at_cs HCS'.out o'.c19)
  refine wpList_step (fun K hK => ?_)
  go_simp
  refine hK _ _ ?_
  clear hK K
  refine wpList_step (fun K hK => ?_)
  go_simp
  refine hK _ _ ?_
  clear hK K
  refine wpList_step (fun K hK => ?_)
  go_simp
  refine hK _ _ ?_
  clear hK K
  refine wpList_step (fun K hK => ?_)
  go_simp
  refine hK _ _ ?_
  clear hK K
  clear c19 d19
  have HC := Lib.hid (eq_int o.guards o'.guards (HX.out.guards.bf (Bf.below HB.out)) (HY.out.guards.bf (Bf.below HB.out)) (Nat.le_trans HK.out.guards.1 (by decide)) (Nat.le_trans HK'.out.guards.1 (by decide)))
  refine wpList_step (fun K hK => ?_)
  go_simp
  refine (HC.out).mono ?_
  rintro e w5 ⟨r, rfl, hr, hb⟩
  have HR := Lib.hid hr
  have HP1' := Lib.hid (HP1.out.below hb HP1.out.lt)
  have HP2' := Lib.hid (HP2.out.below hb HP2.out.lt)
  have HB' := Lib.hid (HB.out.trans (hb.mono HB.out.size))
  clear HP1 HP2 HB HC hr hb
  have HP1 := HP1'
  have HP2 := HP2'
  have HB := HB'
  clear HP1' HP2' HB'
  try go_simp
  refine hK _ _ ?_
  clear hK K
  cases r
  · as_aux_lemma =>
      refine wpList_step (fun K hK => ?_)
      go_simp
      refine hK _ _ ?_
      clear hK K
      refine wpList_off 157 114 4 (by kernel_rfl) rfl rfl ?_
      intro a' hd' hs'
      go_wp2
      refine bodyPost_ret (results_tmp rfl _ _ _) hd' ?_
      rw [hs']
      exact HQN.out _ (fun h => (by have h1 := HR.out.2 (congrArg Er.guards h); cases h1)) HB.out
  have H_guards := Lib.hid (HR.out.1 rfl)
  clear HR
  refine wpList_step (fun K hK => ?_)
  go_simp
  refine hK _ _ ?_
  clear hK K
  refine wpList_step (fun K hK => ?_)
  go_simp
  refine hK _ _ ?_
  clear hK K
  have c20 := (HP1.out.cell 20).trans (at_cs HCS.out o.c20)
  have d20 := (HP2.out.cell 20).trans (at_cs HCS'.out o'.c20)
  refine wpList_step (fun K hK => ?_)
  go_simp
  refine hK _ _ ?_
  clear hK K
  refine wpList_step (fun K hK => ?_)
  go_simp
  refine hK _ _ ?_
  clear hK K
  refine wpList_step (fun K hK => ?_)
  go_simp
  refine hK _ _ ?_
  clear hK K
  refine wpList_step (fun K hK => ?_)
  go_simp
  refine hK _ _ ?_
  clear hK K
  clear c20 d20
  by_cases q : o.need = o'.need
  rotate_left
  · as_aux_lemma =>
      have qb := int_ne q
      have Hq := Lib.hid q
      clear q
      refine wpList_step (fun K hK => ?_)
      go_simp
      refine hK _ _ ?_
      clear hK K
      refine wpList_step (fun K hK => ?_)
      go_simp
      refine hK _ _ ?_
      clear hK K
      refine wpList_off 157 121 4 (by kernel_rfl) rfl rfl ?_
      intro a' hd' hs'
      go_wp2
      refine bodyPost_ret (results_tmp rfl _ _ _) hd' ?_
      rw [hs']
      exact HQN.out _ (fun h => Hq.out (congrArg Er.need h)) HB.out
  have H_need := Lib.hid q
  rw [← q]
  clear q
  refine wpList_step (fun K hK => ?_)
  go_simp
  refine hK _ _ ?_
  clear hK K
  refine wpList_step (fun K hK => ?_)
  go_simp
  refine hK _ _ ?_
  clear hK K
  refine wpList_step (fun K hK => ?_)
  go_simp
  refine hK _ _ ?_
  clear hK K
  have c21 := (HP1.out.cell 21).trans (at_cs HCS.out o.c21)
  have d21 := (HP2.out.cell 21).trans (at_cs HCS'.out o'.c21)
  refine wpList_step (fun K hK => ?_)
  go_simp
  refine hK _ _ ?_
  clear hK K
  refine wpList_step (fun K hK => ?_)
  go_simp
  refine hK _ _ ?_
  clear hK K
  refine wpList_step (fun K hK => ?_)
  go_simp
  refine hK _ _ ?_
  clear hK K
  refine wpList_step (fun K hK => ?_)
  go_simp
  refine hK _ _ ?_
  clear hK K
  clear c21 d21
  by_cases q : o.wait = o'.wait
  rotate_left
  · as_aux_lemma =>
      have qb := int_ne q
      have Hq := Lib.hid q
      clear q
      refine wpList_step (fun K hK => ?_)
      go_simp
      refine hK _ _ ?_
      clear hK K
      refine wpList_step (fun K hK => ?_)
      go_simp
      refine hK _ _ ?_
      clear hK K
      refine wpList_off 157 128 4 (by kernel_rfl) rfl rfl ?_
      intro a' hd' hs'
      go_wp2
      refine bodyPost_ret (results_tmp rfl _ _ _) hd' ?_
      rw [hs']
      exact HQN.out _ (fun h => Hq.out (congrArg Er.wait h)) HB.out
  have H_wait := Lib.hid q
  rw [← q]
  clear q
  refine wpList_step (fun K hK => ?_)
  go_simp
  refine hK _ _ ?_
  clear hK K
  refine wpList_step (fun K hK => ?_)
  go_simp
  refine hK _ _ ?_
  clear hK K
  refine wpList_step (fun K hK => ?_)
  go_simp
  refine hK _ _ ?_
  clear hK K
  have c22 := (HP1.out.cell 22).trans (at_cs HCS.out o.c22)
  have d22 := (HP2.out.cell 22).trans (at_cs HCS'.out o'.c22)
  refine wpList_step (fun K hK => ?_)
  go_simp
  refine hK _ _ ?_
  clear hK K
  refine wpList_step (fun K hK => ?_)
  go_simp
  refine hK _ _ ?_
  clear hK K
  refine wpList_step (fun K hK => ?_)
  go_simp
  refine hK _ _ ?_
  clear hK K
  refine wpList_step (fun K hK => ?_)
  go_simp
  refine hK _ _ ?_
  clear hK K
  clear c22 d22
  have HC := Lib.hid (eq_bx o.boxes o'.boxes (HX.out.boxes.bf (Bf.below HB.out)) (HY.out.boxes.bf (Bf.below HB.out)) (Nat.le_trans HK.out.boxes.1 (by decide)) (Nat.le_trans HK'.out.boxes.1 (by decide)))
  refine wpList_step (fun K hK => ?_)
  go_simp
  refine (HC.out).mono ?_
  rintro e w6 ⟨r, rfl, hr, hb⟩
  have HR := Lib.hid hr
  have HP1' := Lib.hid (HP1.out.below hb HP1.out.lt)
  have HP2' := Lib.hid (HP2.out.below hb HP2.out.lt)
  have HB' := Lib.hid (HB.out.trans (hb.mono HB.out.size))
  clear HP1 HP2 HB HC hr hb
  have HP1 := HP1'
  have HP2 := HP2'
  have HB := HB'
  clear HP1' HP2' HB'
  try go_simp
  refine hK _ _ ?_
  clear hK K
  cases r
  · as_aux_lemma =>
      refine wpList_step (fun K hK => ?_)
      go_simp
      refine hK _ _ ?_
      clear hK K
      refine wpList_off 157 135 4 (by kernel_rfl) rfl rfl ?_
      intro a' hd' hs'
      go_wp2
      refine bodyPost_ret (results_tmp rfl _ _ _) hd' ?_
      rw [hs']
      exact HQN.out _ (fun h => (by have h1 := HR.out.2 (congrArg Er.boxes h); cases h1)) HB.out
  have H_boxes := Lib.hid (HR.out.1 rfl)
  clear HR
  refine wpList_step (fun K hK => ?_)
  go_simp
  refine hK _ _ ?_
  clear hK K
  refine wpList_step (fun K hK => ?_)
  go_simp
  refine hK _ _ ?_
  clear hK K
  have c23 := (HP1.out.cell 23).trans (at_cs HCS.out o.c23)
  have d23 := (HP2.out.cell 23).trans (at_cs HCS'.out o'.c23)
  refine wpList_step (fun K hK => ?_)
  go_simp
  refine hK _ _ ?_
  clear hK K
  refine wpList_step (fun K hK => ?_)
  go_simp
  refine hK _ _ ?_
  clear hK K
  refine wpList_step (fun K hK => ?_)
  go_simp
  refine hK _ _ ?_
  clear hK K
  refine wpList_step (fun K hK => ?_)
  go_simp
  refine hK _ _ ?_
  clear hK K
  clear c23 d23
  by_cases q : o.pub = o'.pub
  rotate_left
  · as_aux_lemma =>
      have qb := nat_ne q
      have Hq := Lib.hid q
      clear q
      refine wpList_step (fun K hK => ?_)
      go_simp
      refine hK _ _ ?_
      clear hK K
      refine wpList_step (fun K hK => ?_)
      go_simp
      refine hK _ _ ?_
      clear hK K
      refine wpList_off 157 142 4 (by kernel_rfl) rfl rfl ?_
      intro a' hd' hs'
      go_wp2
      refine bodyPost_ret (results_tmp rfl _ _ _) hd' ?_
      rw [hs']
      exact HQN.out _ (fun h => Hq.out (congrArg Er.pub h)) HB.out
  have H_pub := Lib.hid q
  rw [← q]
  clear q
  refine wpList_step (fun K hK => ?_)
  go_simp
  refine hK _ _ ?_
  clear hK K
  refine wpList_step (fun K hK => ?_)
  go_simp
  refine hK _ _ ?_
  clear hK K
  refine wpList_step (fun K hK => ?_)
  go_simp
  refine hK _ _ ?_
  clear hK K
  have c24 := (HP1.out.cell 24).trans (at_cs HCS.out o.c24)
  have d24 := (HP2.out.cell 24).trans (at_cs HCS'.out o'.c24)
  refine wpList_step (fun K hK => ?_)
  go_simp
  refine hK _ _ ?_
  clear hK K
  refine wpList_step (fun K hK => ?_)
  go_simp
  refine hK _ _ ?_
  clear hK K
  refine wpList_step (fun K hK => ?_)
  go_simp
  refine hK _ _ ?_
  clear hK K
  refine wpList_step (fun K hK => ?_)
  go_simp
  refine hK _ _ ?_
  clear hK K
  clear c24 d24
  have HC := Lib.hid (eq_sd o.hist o'.hist (HX.out.hist.bf (Bf.below HB.out)) (HY.out.hist.bf (Bf.below HB.out)) (sd_len HK.out) (sd_len HK'.out) (fun z hz => ⟨(HX.out.histB z hz).bf (Bf.below HB.out), HK.out.hist.2 _ (List.mem_map_of_mem hz)⟩) (fun z hz => ⟨(HY.out.histB z hz).bf (Bf.below HB.out), HK'.out.hist.2 _ (List.mem_map_of_mem hz)⟩))
  refine wpList_step (fun K hK => ?_)
  go_simp
  refine (HC.out).mono ?_
  rintro e w7 ⟨r, rfl, hr, hb⟩
  have HR := Lib.hid hr
  have HP1' := Lib.hid (HP1.out.below hb HP1.out.lt)
  have HP2' := Lib.hid (HP2.out.below hb HP2.out.lt)
  have HB' := Lib.hid (HB.out.trans (hb.mono HB.out.size))
  clear HP1 HP2 HB HC hr hb
  have HP1 := HP1'
  have HP2 := HP2'
  have HB := HB'
  clear HP1' HP2' HB'
  try go_simp
  refine hK _ _ ?_
  clear hK K
  cases r
  · as_aux_lemma =>
      refine wpList_step (fun K hK => ?_)
      go_simp
      refine hK _ _ ?_
      clear hK K
      refine wpList_off 157 149 4 (by kernel_rfl) rfl rfl ?_
      intro a' hd' hs'
      go_wp2
      refine bodyPost_ret (results_tmp rfl _ _ _) hd' ?_
      rw [hs']
      exact HQN.out _ (fun h => (by have h1 := HR.out.2 (congrArg Er.hist h); cases h1)) HB.out
  have H_hist := Lib.hid (HR.out.1 rfl)
  clear HR
  refine wpList_step (fun K hK => ?_)
  go_simp
  refine hK _ _ ?_
  clear hK K
  refine wpList_step (fun K hK => ?_)
  go_simp
  refine hK _ _ ?_
  clear hK K
  have c25 := (HP1.out.cell 25).trans (at_cs HCS.out o.c25)
  have d25 := (HP2.out.cell 25).trans (at_cs HCS'.out o'.c25)
  have c26 := (HP1.out.cell 26).trans (at_cs HCS.out o.c26)
  have d26 := (HP2.out.cell 26).trans (at_cs HCS'.out o'.c26)
  refine wpList_step (fun K hK => ?_)
  go_simp
  refine hK _ _ ?_
  clear hK K
  refine wpList_step (fun K hK => ?_)
  go_simp
  refine hK _ _ ?_
  clear hK K
  refine wpList_step (fun K hK => ?_)
  go_simp
  refine hK _ _ ?_
  clear hK K
  refine wpList_step (fun K hK => ?_)
  go_simp
  refine hK _ _ ?_
  clear hK K
  clear c25 d25 c26 d26
  by_cases q : o.r = o'.r ∧ o.s = o'.s
  rotate_left
  · as_aux_lemma =>
      have Hq := Lib.hid q
      rw [decide_eq_false q] at hss
      clear q
      refine wpList_step (fun K hK => ?_)
      go_simp
      refine hK _ _ ?_
      clear hK K
      refine wpList_step (fun K hK => ?_)
      go_simp
      refine hK _ _ ?_
      clear hK K
      refine wpList_off 157 156 4 (by kernel_rfl) rfl rfl ?_
      intro a' hd' hs'
      go_wp2
      refine bodyPost_ret (results_tmp rfl _ _ _) hd' ?_
      rw [hs']
      exact HQN.out _ (fun h => Hq.out ⟨congrArg Er.r h, congrArg Er.s h⟩) HB.out
  rw [decide_eq_true q] at hss
  have H_sg := Lib.hid q
  clear q
  refine wpList_step (fun K hK => ?_)
  go_simp
  refine hK _ _ ?_
  clear hK K
  refine wpList_step (fun K hK => ?_)
  go_simp
  refine hK _ _ ?_
  clear hK K
  refine wpList_step (fun K hK => ?_)
  go_simp
  refine hK _ _ ?_
  clear hK K
  refine wpList_nil ?_
  go_wp2
  show Q (Ending.returned (Value.bool true)) _
  refine HQY.out _ ?_ HB.out
  exact er_eq H_by_.out H_seq.out H_kind.out H_at_.out H_past.out H_dev.out H_old.out H_mem.out H_role.out H_path.out H_epoch.out H_n.out H_body.out H_refs.out H_of_.out H_guards.out H_need.out H_wait.out H_boxes.out H_pub.out H_hist.out H_sg.out.1 H_sg.out.2
end Ot
end Go.Proofs.YtkicjjcangkneaaGreatDoor

/-
  Two are the same just if all their fields are (P11.4, P11.5): 'huddlelaw11.OpSame' returns true. The table of kinds reads as it was laid.
-/
namespace Go.Proofs.YtkicjjcangkneaaGreatDoor
open Go.RowKit
set_option linter.unusedSimpArgs false
set_option linter.unusedVariables false
attribute [local go_sem ↓] Go.wp_at_zero Go.wp_at_succ
set_option maxRecDepth 100000
namespace Ot
/-- A new list without an item. -/
theorem gr_emp {α : Type} (K : Kd α) {B : Nat} (w : World) (hB : B ≤ w.heap.size) : Gr K B (w.alloc (.cells #[] K.ty)) ⟨[], some ⟨w.heap.size, 0, none⟩, 0⟩ :=
  ⟨by rw [K.cells_len], .inr ⟨w.heap.size, 0, #[], rfl, hB, heap_alloc_new w _, Nat.le_refl _, by unfold maxLen; omega, by simp, by simp [K.cells_nil]⟩⟩
theorem put_iff {a b : Er} (ha : Ok a) (hb : Ok b) : put a = put b ↔ a = b := ⟨fun h => put_inj _ _ ha hb h, fun h => congrArg put h⟩
theorem told_bool {r : Bool} {a b : Er} (ha : Ok a) (hb : Ok b) (h : r = true ↔ a = b) : decide (put a = put b) = r := by
  rw [Bool.eq_iff_iff, decide_eq_true_iff, put_iff ha hb, h]

set_option maxHeartbeats 16000000 in
theorem opsame_any {w : World} (l m : Ls Int) (how n : Int) (hl : Lz kInt No w l) (hok : ∀ y ∈ l.l, i64 y) (hln : l.l.length ≤ 9223372036854775807) (hm : Lz kInt No w m) (hokm : ∀ y ∈ m.l, i64 y) (hmn : m.l.length ≤ 9223372036854775807) (hhow : i64 how) (hn : i64 n) (hk : Kds w) :
    Calls Tryz.prog 7 #[l.v, m.v, .int .i64 how, .int .i64 n] w fun e w' => e = .returned (.bool true) ∧ Below w.heap.size w w' := by
  have HOP := Lib.hid (op_any l hl hok hln)
  have HM := Lib.hid (And.intro hm (And.intro hokm hmn))
  have HK := Lib.hid hk
  have HHN := Lib.hid (And.intro hhow hn)
  clear hl hok hln hhow hn hk hm hokm hmn
  go_enter Tryz.func7, Tryz.ntmps7
  go_upto_region 1 with fail
  go_wp2_with fail
  refine (HOP.out).mono ?_
  rintro e w1 ⟨a, rfl, hg, hlo, hb⟩
  have HTA := Lib.hid hg.tiny
  have HRA := Lib.hid hg.roomy
  have HLA := Lib.hid hlo
  clear hg hlo HOP
  have B_1 := Lib.hid hb
  clear hb
  have HVZ := Lib.hid (Vr.new w1 LOp.zero)
  have HVN := Lib.hid (var_new w1 a)
  have L_2 := Lib.hid (var_lies (F := No) HLA.out LOp.zero a)
  have B_3 := Lib.hid (B_1.out.trans (var_below w1 LOp.zero a B_1.out.size))
  have LT_V1 := Lib.hid (show ∀ U o', Vr w1 U o' → U ≠ w1.heap.size from fun U o' h e => by have := Blk.lt h; omega)
  clear LT_V1 B_1 HLA
  go_upto_region 2 with (refine wpList_store_op (o' := a) rfl _ _ rfl rfl rfl HVZ.out ?_)
  rw [zc]
  obtain ⟨V1, hV⟩ : ∃ V, V = w1.heap.size := ⟨_, rfl⟩
  obtain ⟨w2, hw⟩ : ∃ W, W = (w1.alloc (.cells LOp.zero.cells 35)).setRow w1.heap.size a.cells := ⟨_, rfl⟩
  rw [← hw] at HVN L_2 B_3 ⊢
  rw [← hV] at HVN  ⊢
  clear hw hV HVZ
  have V_4 := HVN
  clear HVN
  have HOP := Lib.hid (op_any m (HM.out.1.bf (F := No) (Bf.below B_3.out)) HM.out.2.1 HM.out.2.2)
  go_wp2_with fail
  refine (HOP.out).mono ?_
  rintro e w3 ⟨b, rfl, hg, hlo, hb⟩
  have HTB := Lib.hid hg.tiny
  have HLB := Lib.hid hlo
  clear hg hlo HOP HM
  have V_5 := Lib.hid (V_4.out.below hb (Blk.lt V_4.out))
  have L_6 := Lib.hid (L_2.out.below hb)
  have B_7 := Lib.hid (B_3.out.trans (hb.mono B_3.out.size))
  clear V_4 L_2 B_3 hb
  have HVZ := Lib.hid (Vr.new w3 LOp.zero)
  have HVN := Lib.hid (var_new w3 b)
  have V_8 := Lib.hid (var_far V_5.out LOp.zero b)
  have L_9 := Lib.hid (var_lies (F := No) L_6.out LOp.zero b)
  have L_10 := Lib.hid (var_lies (F := No) HLB.out LOp.zero b)
  have B_11 := Lib.hid (B_7.out.trans (var_below w3 LOp.zero b B_7.out.size))
  have LT_V2 := Lib.hid (show ∀ U o', Vr w3 U o' → U ≠ w3.heap.size from fun U o' h e => by have := Blk.lt h; omega)
  have NE_12 := Lib.hid (LT_V2.out _ _ V_5.out)
  clear LT_V2 V_5 L_6 B_7 HLB
  go_upto_region 3 with (refine wpList_store_op (o' := b) rfl _ _ rfl rfl rfl HVZ.out ?_)
  rw [zc]
  obtain ⟨V2, hV⟩ : ∃ V, V = w3.heap.size := ⟨_, rfl⟩
  obtain ⟨w4, hw⟩ : ∃ W, W = (w3.alloc (.cells LOp.zero.cells 35)).setRow w3.heap.size b.cells := ⟨_, rfl⟩
  rw [← hw] at HVN V_8 L_9 L_10 B_11 ⊢
  rw [← hV] at HVN NE_12 ⊢
  clear hw hV HVZ
  have V_13 := HVN
  clear HVN
  have HBT := Lib.hid (bent_any a L_9.out HTA.out 7 (by omega) HRA.out how n HHN.out.1 HHN.out.2)
  go_wp2_with (refine wpList_load_op rfl _ rfl rfl V_8.out ?_)
  refine (HBT.out).mono ?_
  rintro e w5 ⟨c, rfl, hlo, ht, -, hb⟩
  have HTC := Lib.hid ht
  have HLC := Lib.hid hlo
  clear ht hlo HBT HRA HHN
  have V_14 := Lib.hid (V_8.out.below hb (Blk.lt V_8.out))
  have V_15 := Lib.hid (V_13.out.below hb (Blk.lt V_13.out))
  have L_16 := Lib.hid (L_9.out.below hb)
  have L_17 := Lib.hid (L_10.out.below hb)
  have B_18 := Lib.hid (B_11.out.trans (hb.mono B_11.out.size))
  clear V_8 V_13 L_9 L_10 B_11 hb
  have HVZ := Lib.hid (Vr.new w5 LOp.zero)
  have HVN := Lib.hid (var_new w5 c)
  have V_19 := Lib.hid (var_far V_14.out LOp.zero c)
  have V_20 := Lib.hid (var_far V_15.out LOp.zero c)
  have L_21 := Lib.hid (var_lies (F := No) L_16.out LOp.zero c)
  have L_22 := Lib.hid (var_lies (F := No) L_17.out LOp.zero c)
  have L_23 := Lib.hid (var_lies (F := No) HLC.out LOp.zero c)
  have B_24 := Lib.hid (B_18.out.trans (var_below w5 LOp.zero c B_18.out.size))
  have LT_V3 := Lib.hid (show ∀ U o', Vr w5 U o' → U ≠ w5.heap.size from fun U o' h e => by have := Blk.lt h; omega)
  have NE_25 := Lib.hid (LT_V3.out _ _ V_14.out)
  have NE_26 := Lib.hid (LT_V3.out _ _ V_15.out)
  clear LT_V3 V_14 V_15 L_16 L_17 B_18 HLC
  go_upto_region 4 with (refine wpList_store_op (o' := c) rfl _ _ rfl rfl rfl HVZ.out ?_)
  rw [zc]
  obtain ⟨V3, hV⟩ : ∃ V, V = w5.heap.size := ⟨_, rfl⟩
  obtain ⟨w6, hw⟩ : ∃ W, W = (w5.alloc (.cells LOp.zero.cells 35)).setRow w5.heap.size c.cells := ⟨_, rfl⟩
  rw [← hw] at HVN V_19 V_20 L_21 L_22 L_23 B_24 ⊢
  rw [← hV] at HVN NE_25 NE_26 ⊢
  clear hw hV HVZ
  have V_27 := HVN
  clear HVN
  have HLAA := Lib.hid (show Lies No w6 a from L_21.out)
  have HVA0 := V_19
  have HVA1 := Lib.hid (blk_alloc HVA0.out (.cells LOp.zero.cells 35))
  have HVZ := Lib.hid (Vr.new w6 LOp.zero)
  have HVN := Lib.hid (var_new w6 a)
  have V_28 := Lib.hid (var_far V_19.out LOp.zero a)
  have V_29 := Lib.hid (var_far V_20.out LOp.zero a)
  have V_30 := Lib.hid (var_far V_27.out LOp.zero a)
  have L_31 := Lib.hid (var_lies (F := fun k => w6.heap.size ≤ k) (L_21.out.weak fun k hk hf => by have hf : w6.heap.size ≤ k := hf; omega) LOp.zero a)
  have L_32 := Lib.hid (var_lies (F := fun k => w6.heap.size ≤ k) (L_22.out.weak fun k hk hf => by have hf : w6.heap.size ≤ k := hf; omega) LOp.zero a)
  have L_33 := Lib.hid (var_lies (F := fun k => w6.heap.size ≤ k) (L_23.out.weak fun k hk hf => by have hf : w6.heap.size ≤ k := hf; omega) LOp.zero a)
  have B_34 := Lib.hid (B_24.out.trans (var_below w6 LOp.zero a B_24.out.size))
  have HW6 := Lib.hid (show w.heap.size ≤ w6.heap.size from B_24.out.size)
  have NE_35 := Lib.hid (show V1 < w6.heap.size from Blk.lt V_19.out)
  have NE_36 := Lib.hid (show V2 < w6.heap.size from Blk.lt V_20.out)
  have NE_37 := Lib.hid (show V3 < w6.heap.size from Blk.lt V_27.out)
  clear HLAA V_19 V_20 V_27 L_21 L_22 L_23 B_24
  go_upto_region 5 with (first | (refine wpList_load_op rfl _ rfl rfl HVA0.out ?_) | (refine wpList_store_op (o' := a) rfl _ _ rfl rfl rfl HVZ.out ?_))
  rw [zc]
  obtain ⟨V4, hV⟩ : ∃ V, V = w6.heap.size := ⟨_, rfl⟩
  obtain ⟨w7, hw⟩ : ∃ W, W = (w6.alloc (.cells LOp.zero.cells 35)).setRow w6.heap.size a.cells := ⟨_, rfl⟩
  rw [← hw] at HVN V_28 V_29 V_30 L_31 L_32 L_33 B_34 ⊢
  rw [← hV] at HVN HW6 L_31 L_32 L_33 NE_35 NE_36 NE_37 ⊢
  clear hw hV HVZ HVA0 HVA1
  have k1 := (V_28.out.cell 15).trans a.c15
  have k2 := ((blk_alloc V_28.out (.cells #[] 25)).cell 15).trans a.c15
  have HEM := Lib.hid (gr_emp kU64 (B := w7.heap.size) w7 (Nat.le_refl _))
  have HLR := Lib.hid (L_31.out.refs.no.bf (F := No) (Bf.alloc w7 (.cells #[] 25)))
  have HLN := Lib.hid (show a.refs.l.length ≤ 1000000 from Nat.le_trans (show a.refs.l.length ≤ 300 from Nat.le_trans HTA.out.refs (by decide)) (by decide))
  have hba := Lib.hid ((Below.refl _ w7).alloc (Nat.le_refl _) (.cells #[] 25))
  have HD1 := Lib.hid (show Vr (w7.alloc (.cells #[] 25)) V4 _ from blk_alloc HVN.out (.cells #[] 25))
  go_upto_region 6 with (at_builtin; refine wpList_push_ls ki_u64 rfl _ _ rfl w7.heap.size ⟨[], some ⟨w7.heap.size, 0, none⟩, 0⟩ a.refs HEM.out rfl HLR.out rfl (by have h := HLN.out; show 0 + a.refs.l.length ≤ _; omega) (by simp) ?_; intro z5 y5 hz hgz hbz _; have HZ := Lib.hid hz; have HGZ := Lib.hid hgz; have HBZ := Lib.hid (hba.out.trans hbz); have HD2 := Lib.hid (HD1.out.below hbz (Blk.lt HVN.out)); have kk := (HD2.out.cell 15).trans (LOp.c15 _); have kf := HD2.out.frozen 15; rw [show z5.v = .slice z5.A z5.l.length z5.c from rfl]; clear hz hgz hbz)
  clear k1 k2 HEM HLR HLN hba HD1 kk kf
  have hbf : Bf (fun k => k = V4) y5 (y5.setCell ⟨V4, 15, none⟩ (.slice z5.A z5.l.length z5.c)) := Bf.set y5 rfl
  have V_38 := Lib.hid ((V_28.out.below HBZ.out (Blk.lt V_28.out)).bf hbf (by have h := NE_35.out; show ¬ V1 = V4; omega))
  have V_39 := Lib.hid ((V_29.out.below HBZ.out (Blk.lt V_29.out)).bf hbf (by have h := NE_36.out; show ¬ V2 = V4; omega))
  have V_40 := Lib.hid ((V_30.out.below HBZ.out (Blk.lt V_30.out)).bf hbf (by have h := NE_37.out; show ¬ V3 = V4; omega))
  have L_41 := Lib.hid ((L_31.out.below HBZ.out).bf (F := fun k => V4 ≤ k) (hbf.weak fun k _ h => by have h : k = V4 := h; show V4 ≤ k; omega))
  have L_42 := Lib.hid ((L_32.out.below HBZ.out).bf (F := fun k => V4 ≤ k) (hbf.weak fun k _ h => by have h : k = V4 := h; show V4 ≤ k; omega))
  have L_43 := Lib.hid ((L_33.out.below HBZ.out).bf (F := fun k => V4 ≤ k) (hbf.weak fun k _ h => by have h : k = V4 := h; show V4 ≤ k; omega))
  have Z_44 := Lib.hid ((HGZ.out.lz (F := fun k => k = V4) (fun k h => by have h : k = V4 := h; have := Blk.lt HVN.out; omega)).bf hbf)
  have B_45 := Lib.hid (Below.trans (B_34.out.trans (HBZ.out.mono B_34.out.size)) (hbf.dn (Nat.le_trans B_34.out.size HBZ.out.size) (fun k h => by have h : k = V4 := h; have h2 := HW6.out; omega)))
  have HD_5 := Lib.hid (show Vr (y5.setCell ⟨V4, 15, none⟩ (.slice z5.A z5.l.length z5.c)) V4 { a with refs := z5 } from HD2.out.set 15 _ _ rfl)
  have HZ5 := HZ
  clear hbf HGZ HBZ HD2 HZ V_28 V_29 V_30 L_31 L_32 L_33 B_34 HVN
  obtain ⟨w8, hw⟩ : ∃ W, W = (y5.setCell ⟨V4, 15, none⟩ (.slice z5.A z5.l.length z5.c)) := ⟨_, rfl⟩
  rw [← hw] at V_38 V_39 V_40 L_41 L_42 L_43 Z_44 B_45 HD_5 ⊢
  clear hw
  have k1 := (V_38.out.cell 4).trans a.c4
  have k2 := ((blk_alloc V_38.out (.cells #[] 27)).cell 4).trans a.c4
  have HEM := Lib.hid (gr_emp kNm (B := w8.heap.size) w8 (Nat.le_refl _))
  have HLR := Lib.hid (L_41.out.past.no.bf (F := No) (Bf.alloc w8 (.cells #[] 27)))
  have HLN := Lib.hid (show a.past.l.length ≤ 1000000 from Nat.le_trans (show a.past.l.length ≤ 300 from Nat.le_trans HTA.out.past (by decide)) (by decide))
  have hba := Lib.hid ((Below.refl _ w8).alloc (Nat.le_refl _) (.cells #[] 27))
  have HD1 := Lib.hid (show Vr (w8.alloc (.cells #[] 27)) V4 _ from blk_alloc HD_5.out (.cells #[] 27))
  go_upto_region 7 with (at_builtin; refine wpList_push_ls ki_nm rfl _ _ rfl w8.heap.size ⟨[], some ⟨w8.heap.size, 0, none⟩, 0⟩ a.past HEM.out rfl HLR.out rfl (by have h := HLN.out; show 0 + a.past.l.length ≤ _; omega) (by simp) ?_; intro z6 y6 hz hgz hbz _; have HZ := Lib.hid hz; have HGZ := Lib.hid hgz; have HBZ := Lib.hid (hba.out.trans hbz); have HD2 := Lib.hid (HD1.out.below hbz (Blk.lt HD_5.out)); have kk := (HD2.out.cell 4).trans (LOp.c4 _); have kf := HD2.out.frozen 4; rw [show z6.v = .slice z6.A z6.l.length z6.c from rfl]; clear hz hgz hbz)
  clear k1 k2 HEM HLR HLN hba HD1 kk kf
  have hbf : Bf (fun k => k = V4) y6 (y6.setCell ⟨V4, 4, none⟩ (.slice z6.A z6.l.length z6.c)) := Bf.set y6 rfl
  have V_46 := Lib.hid ((V_38.out.below HBZ.out (Blk.lt V_38.out)).bf hbf (by have h := NE_35.out; show ¬ V1 = V4; omega))
  have V_47 := Lib.hid ((V_39.out.below HBZ.out (Blk.lt V_39.out)).bf hbf (by have h := NE_36.out; show ¬ V2 = V4; omega))
  have V_48 := Lib.hid ((V_40.out.below HBZ.out (Blk.lt V_40.out)).bf hbf (by have h := NE_37.out; show ¬ V3 = V4; omega))
  have L_49 := Lib.hid ((L_41.out.below HBZ.out).bf (F := fun k => V4 ≤ k) (hbf.weak fun k _ h => by have h : k = V4 := h; show V4 ≤ k; omega))
  have L_50 := Lib.hid ((L_42.out.below HBZ.out).bf (F := fun k => V4 ≤ k) (hbf.weak fun k _ h => by have h : k = V4 := h; show V4 ≤ k; omega))
  have L_51 := Lib.hid ((L_43.out.below HBZ.out).bf (F := fun k => V4 ≤ k) (hbf.weak fun k _ h => by have h : k = V4 := h; show V4 ≤ k; omega))
  have Z_52 := Lib.hid ((Z_44.out.bf (F := fun k => k = V4) (Bf.below HBZ.out)).bf hbf)
  have Z_53 := Lib.hid ((HGZ.out.lz (F := fun k => k = V4) (fun k h => by have h : k = V4 := h; have := Blk.lt HD_5.out; omega)).bf hbf)
  have B_54 := Lib.hid (Below.trans (B_45.out.trans (HBZ.out.mono B_45.out.size)) (hbf.dn (Nat.le_trans B_45.out.size HBZ.out.size) (fun k h => by have h : k = V4 := h; have h2 := HW6.out; omega)))
  have HD_6 := Lib.hid (show Vr (y6.setCell ⟨V4, 4, none⟩ (.slice z6.A z6.l.length z6.c)) V4 { a with refs := z5, past := z6 } from HD2.out.set 4 _ _ rfl)
  have HZ6 := HZ
  clear hbf HGZ HBZ HD2 HZ V_38 V_39 V_40 L_41 L_42 L_43 Z_44 B_45 HD_5
  obtain ⟨w9, hw⟩ : ∃ W, W = (y6.setCell ⟨V4, 4, none⟩ (.slice z6.A z6.l.length z6.c)) := ⟨_, rfl⟩
  rw [← hw] at V_46 V_47 V_48 L_49 L_50 L_51 Z_52 Z_53 B_54 HD_6 ⊢
  clear hw
  have k1 := (V_46.out.cell 14).trans a.c14
  have k2 := ((blk_alloc V_46.out (.cells #[] 5)).cell 14).trans a.c14
  have HEM := Lib.hid (gr_emp kU8 (B := w9.heap.size) w9 (Nat.le_refl _))
  have HLR := Lib.hid (L_49.out.body.no.bf (F := No) (Bf.alloc w9 (.cells #[] 5)))
  have HLN := Lib.hid (show a.body.l.length ≤ 1000000 from Nat.le_trans (show a.body.l.length ≤ 300 from Nat.le_trans HTA.out.body (by decide)) (by decide))
  have hba := Lib.hid ((Below.refl _ w9).alloc (Nat.le_refl _) (.cells #[] 5))
  have HD1 := Lib.hid (show Vr (w9.alloc (.cells #[] 5)) V4 _ from blk_alloc HD_6.out (.cells #[] 5))
  go_upto_region 8 with (at_builtin; refine wpList_push_ls ki_u8 rfl _ _ rfl w9.heap.size ⟨[], some ⟨w9.heap.size, 0, none⟩, 0⟩ a.body HEM.out rfl HLR.out rfl (by have h := HLN.out; show 0 + a.body.l.length ≤ _; omega) (by simp) ?_; intro z7 y7 hz hgz hbz _; have HZ := Lib.hid hz; have HGZ := Lib.hid hgz; have HBZ := Lib.hid (hba.out.trans hbz); have HD2 := Lib.hid (HD1.out.below hbz (Blk.lt HD_6.out)); have kk := (HD2.out.cell 14).trans (LOp.c14 _); have kf := HD2.out.frozen 14; rw [show z7.v = .slice z7.A z7.l.length z7.c from rfl]; clear hz hgz hbz)
  clear k1 k2 HEM HLR HLN hba HD1 kk kf
  have hbf : Bf (fun k => k = V4) y7 (y7.setCell ⟨V4, 14, none⟩ (.slice z7.A z7.l.length z7.c)) := Bf.set y7 rfl
  have V_55 := Lib.hid ((V_46.out.below HBZ.out (Blk.lt V_46.out)).bf hbf (by have h := NE_35.out; show ¬ V1 = V4; omega))
  have V_56 := Lib.hid ((V_47.out.below HBZ.out (Blk.lt V_47.out)).bf hbf (by have h := NE_36.out; show ¬ V2 = V4; omega))
  have V_57 := Lib.hid ((V_48.out.below HBZ.out (Blk.lt V_48.out)).bf hbf (by have h := NE_37.out; show ¬ V3 = V4; omega))
  have L_58 := Lib.hid ((L_49.out.below HBZ.out).bf (F := fun k => V4 ≤ k) (hbf.weak fun k _ h => by have h : k = V4 := h; show V4 ≤ k; omega))
  have L_59 := Lib.hid ((L_50.out.below HBZ.out).bf (F := fun k => V4 ≤ k) (hbf.weak fun k _ h => by have h : k = V4 := h; show V4 ≤ k; omega))
  have L_60 := Lib.hid ((L_51.out.below HBZ.out).bf (F := fun k => V4 ≤ k) (hbf.weak fun k _ h => by have h : k = V4 := h; show V4 ≤ k; omega))
  have Z_61 := Lib.hid ((Z_52.out.bf (F := fun k => k = V4) (Bf.below HBZ.out)).bf hbf)
  have Z_62 := Lib.hid ((Z_53.out.bf (F := fun k => k = V4) (Bf.below HBZ.out)).bf hbf)
  have Z_63 := Lib.hid ((HGZ.out.lz (F := fun k => k = V4) (fun k h => by have h : k = V4 := h; have := Blk.lt HD_6.out; omega)).bf hbf)
  have B_64 := Lib.hid (Below.trans (B_54.out.trans (HBZ.out.mono B_54.out.size)) (hbf.dn (Nat.le_trans B_54.out.size HBZ.out.size) (fun k h => by have h : k = V4 := h; have h2 := HW6.out; omega)))
  have HD_7 := Lib.hid (show Vr (y7.setCell ⟨V4, 14, none⟩ (.slice z7.A z7.l.length z7.c)) V4 { a with refs := z5, past := z6, body := z7 } from HD2.out.set 14 _ _ rfl)
  have HZ7 := HZ
  clear hbf HGZ HBZ HD2 HZ V_46 V_47 V_48 L_49 L_50 L_51 Z_52 Z_53 B_54 HD_6
  obtain ⟨w10, hw⟩ : ∃ W, W = (y7.setCell ⟨V4, 14, none⟩ (.slice z7.A z7.l.length z7.c)) := ⟨_, rfl⟩
  rw [← hw] at V_55 V_56 V_57 L_58 L_59 L_60 Z_61 Z_62 Z_63 B_64 HD_7 ⊢
  clear hw
  have HDD := Lib.hid (show ∃ d : LOp, d = { a with refs := z5, past := z6, body := z7 } from ⟨_, rfl⟩)
  obtain ⟨d, hd⟩ := HDD.out
  have HLD := Lib.hid (show Lies No w10 d from hd ▸ ⟨Z_62.out.no, L_58.out.no.path, L_58.out.no.pathB, Z_63.out.no, Z_61.out.no, L_58.out.no.guards, L_58.out.no.boxes, L_58.out.no.hist, L_58.out.no.histB⟩)
  have HVD := Lib.hid (show Vr w10 V4 d from hd ▸ HD_7.out)
  have HED := Lib.hid (show a.er = d.er from by rw [hd]; unfold LOp.er; simp only; rw [show z5.l = a.refs.l from HZ5.out, show z6.l = a.past.l from HZ6.out, show z7.l = a.body.l from HZ7.out])
  have HTD := Lib.hid (show Tiny d.er from HED.out ▸ HTA.out)
  clear hd HDD HZ5 HZ6 HZ7 HD_7 Z_61 Z_62 Z_63
  have L_65 := Lib.hid (L_58.out.no)
  clear L_58
  have L_66 := Lib.hid (L_59.out.no)
  clear L_59
  have L_67 := Lib.hid (L_60.out.no)
  clear L_60
  clear NE_35 NE_36 NE_37 HW6
  have V_68 := Lib.hid (show Vr w10.drew V1 a from V_55.out)
  have V_69 := Lib.hid (show Vr w10.drew V2 b from V_56.out)
  have V_70 := Lib.hid (show Vr w10.drew V3 c from V_57.out)
  have V_71 := Lib.hid (show Vr w10.drew V4 d from HVD.out)
  have L_72 := Lib.hid (show Lies No w10.drew a from L_65.out.bf (Bf.drew w10))
  have L_73 := Lib.hid (show Lies No w10.drew b from L_66.out.bf (Bf.drew w10))
  have L_74 := Lib.hid (show Lies No w10.drew c from L_67.out.bf (Bf.drew w10))
  have L_75 := Lib.hid (show Lies No w10.drew d from HLD.out.bf (Bf.drew w10))
  have B_76 := Lib.hid (show Below w.heap.size w w10.drew from B_64.out.trans (below_drewN w10 1 w.heap.size))
  clear V_55 V_56 V_57 HVD L_65 L_66 L_67 HLD B_64
  refine wp_region_held_drew (S := (fun w' : World => Vr w' V1 a ∧ Vr w' V2 b ∧ Vr w' V3 c ∧ Vr w' V4 d)) (by kernel_rfl) ⟨V_68.out, V_69.out, V_70.out, V_71.out⟩ (fun hHeld => ?_)
  try simp only [Act.put, List.getElem_toArray, List.getElem_cons_succ, List.getElem_cons_zero, List.setIfInBounds_toArray, List.set_cons_zero, List.set_cons_succ]
  refine wpAnyH_take (i := 0) (v := ?_) rfl (by kernel_rfl) (by kernel_rfl) (by kernel_rfl) (fun _ _ _ h => h) (Or.inl ⟨by rfl, ?_⟩) (by assumption) ?_
  rotate_left
  · (intro w hSw; refine run_load_op _ (.tmp 9) ?_ ?_ hSw.1 <;> rfl)
  try simp only [Act.put, List.getElem_toArray, List.getElem_cons_zero, List.setIfInBounds_toArray, List.set_cons_zero, List.set_cons_succ]
  refine wpAnyH_take (i := 1) (v := ?_) rfl (by kernel_rfl) (by kernel_rfl) (by kernel_rfl) (fun _ _ _ h => h) (Or.inl ⟨by rfl, ?_⟩) (by assumption) ?_
  rotate_left
  · (intro w hSw; refine run_load_op _ (.tmp 10) ?_ ?_ hSw.2.1 <;> rfl)
  try simp only [Act.put, List.getElem_toArray, List.getElem_cons_succ, List.getElem_cons_zero, List.setIfInBounds_toArray, List.set_cons_zero, List.set_cons_succ]
  refine wpAnyH_take (i := 3) (v := ?_) rfl (by kernel_rfl) (by kernel_rfl) (by kernel_rfl) (fun _ _ _ h => h) (Or.inl ⟨by rfl, ?_⟩) (by assumption) ?_
  rotate_left
  · (intro w hSw; refine run_load_op _ (.tmp 9) ?_ ?_ hSw.1 <;> rfl)
  try simp only [Act.put, List.getElem_toArray, List.getElem_cons_succ, List.getElem_cons_zero, List.setIfInBounds_toArray, List.set_cons_zero, List.set_cons_succ]
  refine wpAnyH_take (i := 4) (v := ?_) rfl (by kernel_rfl) (by kernel_rfl) (by kernel_rfl) (fun _ _ _ h => h) (Or.inl ⟨by rfl, ?_⟩) (by assumption) ?_
  rotate_left
  · (intro w hSw; refine run_load_op _ (.tmp 10) ?_ ?_ hSw.2.1 <;> rfl)
  try simp only [Act.put, List.getElem_toArray, List.getElem_cons_succ, List.getElem_cons_zero, List.setIfInBounds_toArray, List.set_cons_zero, List.set_cons_succ]
  refine wpAnyH_ready (rs := [2]) (by kernel_rfl) (by simp) ?_
  refine AllReadyH.cons rfl (fun K hK => ?_) AllReadyH.nil
  go_simp
  have HC := Lib.hid (same_any a b L_72.out L_73.out HTA.out.ok HTB.out.ok)
  refine (HC.out).mono ?_
  rintro e x77 ⟨r1, rfl, hr, hb⟩
  have HRr1 := Lib.hid hr
  clear hr
  clear HC
  have V_78 := Lib.hid (V_68.out.below hb (Blk.lt V_68.out))
  have V_79 := Lib.hid (V_69.out.below hb (Blk.lt V_69.out))
  have V_80 := Lib.hid (V_70.out.below hb (Blk.lt V_70.out))
  have V_81 := Lib.hid (V_71.out.below hb (Blk.lt V_71.out))
  have L_82 := Lib.hid (L_72.out.below hb)
  have L_83 := Lib.hid (L_73.out.below hb)
  have L_84 := Lib.hid (L_74.out.below hb)
  have L_85 := Lib.hid (L_75.out.below hb)
  have B_86 := Lib.hid (B_76.out.trans (hb.mono B_76.out.size))
  clear V_68 V_69 V_70 V_71 L_72 L_73 L_74 L_75 B_76 hb
  try go_simp
  refine hK.out _ _ ⟨V_78.out, V_79.out, V_80.out, V_81.out⟩ (fun hHeld => ?_)
  clear hK K
  try simp only [Act.put, List.getElem_toArray, List.getElem_cons_succ, List.getElem_cons_zero, List.setIfInBounds_toArray, List.set_cons_zero, List.set_cons_succ]
  refine wpAnyH_ready (rs := [5]) (by kernel_rfl) (by simp) ?_
  refine AllReadyH.cons rfl (fun K hK => ?_) AllReadyH.nil
  go_simp
  have HC := Lib.hid ((told_bool HTA.out.ok HTB.out.ok HRr1.out) ▸ sameop_any a b L_82.out L_83.out HTA.out HTB.out)
  refine (HC.out).mono ?_
  rintro e x87 ⟨rfl, hb⟩
  clear HC
  have V_88 := Lib.hid (V_78.out.below hb (Blk.lt V_78.out))
  have V_89 := Lib.hid (V_79.out.below hb (Blk.lt V_79.out))
  have V_90 := Lib.hid (V_80.out.below hb (Blk.lt V_80.out))
  have V_91 := Lib.hid (V_81.out.below hb (Blk.lt V_81.out))
  have L_92 := Lib.hid (L_82.out.below hb)
  have L_93 := Lib.hid (L_83.out.below hb)
  have L_94 := Lib.hid (L_84.out.below hb)
  have L_95 := Lib.hid (L_85.out.below hb)
  have B_96 := Lib.hid (B_86.out.trans (hb.mono B_86.out.size))
  clear V_78 V_79 V_80 V_81 L_82 L_83 L_84 L_85 B_86 hb
  try go_simp
  refine hK.out _ _ ⟨V_88.out, V_89.out, V_90.out, V_91.out⟩ (fun hHeld => ?_)
  clear hK K
  try simp only [Act.put, List.getElem_toArray, List.getElem_cons_succ, List.getElem_cons_zero, List.setIfInBounds_toArray, List.set_cons_zero, List.set_cons_succ]
  refine wpAnyH_take (i := 6) (v := ?_) rfl (by kernel_rfl) (by kernel_rfl) (by kernel_rfl) (fun _ _ _ h => h) (Or.inl ⟨by rfl, ?_⟩) (by assumption) ?_
  rotate_left
  · (intro w hSw; clear hSw; go_simp; try (with_reducible rfl))
  try simp only [Act.put, List.getElem_toArray, List.getElem_cons_succ, List.getElem_cons_zero, List.setIfInBounds_toArray, List.set_cons_zero, List.set_cons_succ]
  refine wpAnyH_take (i := 7) (v := ?_) rfl (by kernel_rfl) (by kernel_rfl) (by kernel_rfl) (fun _ _ _ h => h) (Or.inl ⟨by rfl, ?_⟩) (by assumption) ?_
  rotate_left
  · (intro w hSw; clear hSw; go_simp; try (with_reducible rfl))
  try simp only [Act.put, List.getElem_toArray, List.getElem_cons_succ, List.getElem_cons_zero, List.setIfInBounds_toArray, List.set_cons_zero, List.set_cons_succ]
  refine wpAnyH_take (i := 8) (v := ?_) rfl (by kernel_rfl) (by kernel_rfl) (by kernel_rfl) (fun _ _ _ h => h) (Or.inl ⟨by rfl, ?_⟩) (by assumption) ?_
  rotate_left
  · (intro w hSw; refine run_load_op _ (.tmp 9) ?_ ?_ hSw.1 <;> rfl)
  try simp only [Act.put, List.getElem_toArray, List.getElem_cons_succ, List.getElem_cons_zero, List.setIfInBounds_toArray, List.set_cons_zero, List.set_cons_succ]
  refine wpAnyH_take (i := 9) (v := ?_) rfl (by kernel_rfl) (by kernel_rfl) (by kernel_rfl) (fun _ _ _ h => h) (Or.inl ⟨by rfl, ?_⟩) (by assumption) ?_
  rotate_left
  · (intro w hSw; refine run_load_op _ (.tmp 11) ?_ ?_ hSw.2.2.1 <;> rfl)
  try simp only [Act.put, List.getElem_toArray, List.getElem_cons_succ, List.getElem_cons_zero, List.setIfInBounds_toArray, List.set_cons_zero, List.set_cons_succ]
  refine wpAnyH_take (i := 11) (v := ?_) rfl (by kernel_rfl) (by kernel_rfl) (by kernel_rfl) (fun _ _ _ h => h) (Or.inl ⟨by rfl, ?_⟩) (by assumption) ?_
  rotate_left
  · (intro w hSw; refine run_load_op _ (.tmp 9) ?_ ?_ hSw.1 <;> rfl)
  try simp only [Act.put, List.getElem_toArray, List.getElem_cons_succ, List.getElem_cons_zero, List.setIfInBounds_toArray, List.set_cons_zero, List.set_cons_succ]
  refine wpAnyH_take (i := 12) (v := ?_) rfl (by kernel_rfl) (by kernel_rfl) (by kernel_rfl) (fun _ _ _ h => h) (Or.inl ⟨by rfl, ?_⟩) (by assumption) ?_
  rotate_left
  · (intro w hSw; refine run_load_op _ (.tmp 11) ?_ ?_ hSw.2.2.1 <;> rfl)
  try simp only [Act.put, List.getElem_toArray, List.getElem_cons_succ, List.getElem_cons_zero, List.setIfInBounds_toArray, List.set_cons_zero, List.set_cons_succ]
  refine wpAnyH_ready (rs := [10]) (by kernel_rfl) (by simp) ?_
  refine AllReadyH.cons rfl (fun K hK => ?_) AllReadyH.nil
  go_simp
  have HC := Lib.hid (same_any a c L_92.out L_94.out HTA.out.ok HTC.out.ok)
  refine (HC.out).mono ?_
  rintro e x97 ⟨r2, rfl, hr, hb⟩
  have HRr2 := Lib.hid hr
  clear hr
  clear HC
  have V_98 := Lib.hid (V_88.out.below hb (Blk.lt V_88.out))
  have V_99 := Lib.hid (V_89.out.below hb (Blk.lt V_89.out))
  have V_100 := Lib.hid (V_90.out.below hb (Blk.lt V_90.out))
  have V_101 := Lib.hid (V_91.out.below hb (Blk.lt V_91.out))
  have L_102 := Lib.hid (L_92.out.below hb)
  have L_103 := Lib.hid (L_93.out.below hb)
  have L_104 := Lib.hid (L_94.out.below hb)
  have L_105 := Lib.hid (L_95.out.below hb)
  have B_106 := Lib.hid (B_96.out.trans (hb.mono B_96.out.size))
  clear V_88 V_89 V_90 V_91 L_92 L_93 L_94 L_95 B_96 hb
  try go_simp
  refine hK.out _ _ ⟨V_98.out, V_99.out, V_100.out, V_101.out⟩ (fun hHeld => ?_)
  clear hK K
  try simp only [Act.put, List.getElem_toArray, List.getElem_cons_succ, List.getElem_cons_zero, List.setIfInBounds_toArray, List.set_cons_zero, List.set_cons_succ]
  refine wpAnyH_ready (rs := [13]) (by kernel_rfl) (by simp) ?_
  refine AllReadyH.cons rfl (fun K hK => ?_) AllReadyH.nil
  go_simp
  have HC := Lib.hid ((told_bool HTA.out.ok HTC.out.ok HRr2.out) ▸ sameop_any a c L_102.out L_104.out HTA.out HTC.out)
  refine (HC.out).mono ?_
  rintro e x107 ⟨rfl, hb⟩
  clear HC
  have V_108 := Lib.hid (V_98.out.below hb (Blk.lt V_98.out))
  have V_109 := Lib.hid (V_99.out.below hb (Blk.lt V_99.out))
  have V_110 := Lib.hid (V_100.out.below hb (Blk.lt V_100.out))
  have V_111 := Lib.hid (V_101.out.below hb (Blk.lt V_101.out))
  have L_112 := Lib.hid (L_102.out.below hb)
  have L_113 := Lib.hid (L_103.out.below hb)
  have L_114 := Lib.hid (L_104.out.below hb)
  have L_115 := Lib.hid (L_105.out.below hb)
  have B_116 := Lib.hid (B_106.out.trans (hb.mono B_106.out.size))
  clear V_98 V_99 V_100 V_101 L_102 L_103 L_104 L_105 B_106 hb
  try go_simp
  refine hK.out _ _ ⟨V_108.out, V_109.out, V_110.out, V_111.out⟩ (fun hHeld => ?_)
  clear hK K
  try simp only [Act.put, List.getElem_toArray, List.getElem_cons_succ, List.getElem_cons_zero, List.setIfInBounds_toArray, List.set_cons_zero, List.set_cons_succ]
  refine wpAnyH_take (i := 14) (v := ?_) rfl (by kernel_rfl) (by kernel_rfl) (by kernel_rfl) (fun _ _ _ h => h) (Or.inl ⟨by rfl, ?_⟩) (by assumption) ?_
  rotate_left
  · (intro w hSw; clear hSw; go_simp; try (with_reducible rfl))
  try simp only [Act.put, List.getElem_toArray, List.getElem_cons_succ, List.getElem_cons_zero, List.setIfInBounds_toArray, List.set_cons_zero, List.set_cons_succ]
  refine wpAnyH_take (i := 15) (v := ?_) rfl (by kernel_rfl) (by kernel_rfl) (by kernel_rfl) (fun _ _ _ h => h) (Or.inl ⟨by rfl, ?_⟩) (by assumption) ?_
  rotate_left
  · (intro w hSw; clear hSw; go_simp; try (with_reducible rfl))
  try simp only [Act.put, List.getElem_toArray, List.getElem_cons_succ, List.getElem_cons_zero, List.setIfInBounds_toArray, List.set_cons_zero, List.set_cons_succ]
  refine wpAnyH_take (i := 16) (v := ?_) rfl (by kernel_rfl) (by kernel_rfl) (by kernel_rfl) (fun _ _ _ h => h) (Or.inl ⟨by rfl, ?_⟩) (by assumption) ?_
  rotate_left
  · (intro w hSw; clear hSw; go_simp; try (with_reducible rfl))
  try simp only [Act.put, List.getElem_toArray, List.getElem_cons_succ, List.getElem_cons_zero, List.setIfInBounds_toArray, List.set_cons_zero, List.set_cons_succ]
  refine wpAnyH_take (i := 17) (v := ?_) rfl (by kernel_rfl) (by kernel_rfl) (by kernel_rfl) (fun _ _ _ h => h) (Or.inl ⟨by rfl, ?_⟩) (by assumption) ?_
  rotate_left
  · (intro w hSw; refine run_load_op _ (.tmp 9) ?_ ?_ hSw.1 <;> rfl)
  try simp only [Act.put, List.getElem_toArray, List.getElem_cons_succ, List.getElem_cons_zero, List.setIfInBounds_toArray, List.set_cons_zero, List.set_cons_succ]
  refine wpAnyH_take (i := 18) (v := ?_) rfl (by kernel_rfl) (by kernel_rfl) (by kernel_rfl) (fun _ _ _ h => h) (Or.inl ⟨by rfl, ?_⟩) (by assumption) ?_
  rotate_left
  · (intro w hSw; refine run_load_op _ (.tmp 12) ?_ ?_ hSw.2.2.2 <;> rfl)
  try simp only [Act.put, List.getElem_toArray, List.getElem_cons_succ, List.getElem_cons_zero, List.setIfInBounds_toArray, List.set_cons_zero, List.set_cons_succ]
  refine wpAnyH_ready (rs := [19]) (by kernel_rfl) (by simp) ?_
  refine AllReadyH.cons rfl (fun K hK => ?_) AllReadyH.nil
  go_simp
  have HC := Lib.hid (same_any a d L_112.out L_115.out HTA.out.ok HTD.out.ok)
  refine (HC.out).mono ?_
  rintro e x117 ⟨r3, rfl, hr, hb⟩
  have HRr3 := Lib.hid hr
  clear hr
  have hrt : r3 = true := HRr3.out.2 HED.out
  subst hrt
  clear HRr3
  clear HC
  have V_118 := Lib.hid (V_108.out.below hb (Blk.lt V_108.out))
  have V_119 := Lib.hid (V_109.out.below hb (Blk.lt V_109.out))
  have V_120 := Lib.hid (V_110.out.below hb (Blk.lt V_110.out))
  have V_121 := Lib.hid (V_111.out.below hb (Blk.lt V_111.out))
  have L_122 := Lib.hid (L_112.out.below hb)
  have L_123 := Lib.hid (L_113.out.below hb)
  have L_124 := Lib.hid (L_114.out.below hb)
  have L_125 := Lib.hid (L_115.out.below hb)
  have B_126 := Lib.hid (B_116.out.trans (hb.mono B_116.out.size))
  clear V_108 V_109 V_110 V_111 L_112 L_113 L_114 L_115 B_116 hb
  try go_simp
  refine hK.out _ _ ⟨V_118.out, V_119.out, V_120.out, V_121.out⟩ (fun hHeld => ?_)
  clear hK K
  try simp only [Act.put, List.getElem_toArray, List.getElem_cons_succ, List.getElem_cons_zero, List.setIfInBounds_toArray, List.set_cons_zero, List.set_cons_succ]
  refine wpAnyH_take (i := 20) (v := ?_) rfl (by kernel_rfl) (by kernel_rfl) (by kernel_rfl) (fun _ _ _ h => h) (Or.inl ⟨by rfl, ?_⟩) (by assumption) ?_
  rotate_left
  · (intro w hSw; clear hSw; go_simp; try (with_reducible rfl))
  try simp only [Act.put, List.getElem_toArray, List.getElem_cons_succ, List.getElem_cons_zero, List.setIfInBounds_toArray, List.set_cons_zero, List.set_cons_succ]
  refine wpAnyH_take (i := 21) (v := ?_) rfl (by kernel_rfl) (by kernel_rfl) (by kernel_rfl) (fun _ _ _ h => h) (Or.inl ⟨by rfl, ?_⟩) (by assumption) ?_
  rotate_left
  · (intro w hSw; clear hSw; go_simp; try (with_reducible rfl))
  try simp only [Act.put, List.getElem_toArray, List.getElem_cons_succ, List.getElem_cons_zero, List.setIfInBounds_toArray, List.set_cons_zero, List.set_cons_succ]
  refine wpAnyH_take (i := 22) (v := ?_) rfl (by kernel_rfl) (by kernel_rfl) (by kernel_rfl) (fun _ _ _ h => h) (Or.inl ⟨by rfl, ?_⟩) (by assumption) ?_
  rotate_left
  · (intro w hSw; clear hSw; go_simp; try (with_reducible rfl))
  try simp only [Act.put, List.getElem_toArray, List.getElem_cons_succ, List.getElem_cons_zero, List.setIfInBounds_toArray, List.set_cons_zero, List.set_cons_succ]
  refine wpAnyH_take (i := 23) (v := ?_) rfl (by kernel_rfl) (by kernel_rfl) (by kernel_rfl) (fun _ _ _ h => h) (Or.inl ⟨by rfl, ?_⟩) (by assumption) ?_
  rotate_left
  · (intro w hSw; refine run_load_op _ (.tmp 11) ?_ ?_ hSw.2.2.1 <;> rfl)
  try simp only [Act.put, List.getElem_toArray, List.getElem_cons_succ, List.getElem_cons_zero, List.setIfInBounds_toArray, List.set_cons_zero, List.set_cons_succ]
  refine wpAnyH_take (i := 24) (v := ?_) rfl (by kernel_rfl) (by kernel_rfl) (by kernel_rfl) (fun _ _ _ h => h) (Or.inl ⟨by rfl, ?_⟩) (by assumption) ?_
  rotate_left
  · (intro w hSw; refine run_load_op _ (.tmp 11) ?_ ?_ hSw.2.2.1 <;> rfl)
  try simp only [Act.put, List.getElem_toArray, List.getElem_cons_succ, List.getElem_cons_zero, List.setIfInBounds_toArray, List.set_cons_zero, List.set_cons_succ]
  refine wpAnyH_ready (rs := [25]) (by kernel_rfl) (by simp) ?_
  refine AllReadyH.cons rfl (fun K hK => ?_) AllReadyH.nil
  go_simp
  have HC := Lib.hid (same_any c c L_124.out L_124.out HTC.out.ok HTC.out.ok)
  refine (HC.out).mono ?_
  rintro e x127 ⟨r4, rfl, hr, hb⟩
  have HRr4 := Lib.hid hr
  clear hr
  have hrt : r4 = true := HRr4.out.2 rfl
  subst hrt
  clear HRr4
  clear HC
  have V_128 := Lib.hid (V_118.out.below hb (Blk.lt V_118.out))
  have V_129 := Lib.hid (V_119.out.below hb (Blk.lt V_119.out))
  have V_130 := Lib.hid (V_120.out.below hb (Blk.lt V_120.out))
  have V_131 := Lib.hid (V_121.out.below hb (Blk.lt V_121.out))
  have L_132 := Lib.hid (L_122.out.below hb)
  have L_133 := Lib.hid (L_123.out.below hb)
  have L_134 := Lib.hid (L_124.out.below hb)
  have L_135 := Lib.hid (L_125.out.below hb)
  have B_136 := Lib.hid (B_126.out.trans (hb.mono B_126.out.size))
  clear V_118 V_119 V_120 V_121 L_122 L_123 L_124 L_125 B_126 hb
  try go_simp
  refine hK.out _ _ ⟨V_128.out, V_129.out, V_130.out, V_131.out⟩ (fun hHeld => ?_)
  clear hK K
  try simp only [Act.put, List.getElem_toArray, List.getElem_cons_succ, List.getElem_cons_zero, List.setIfInBounds_toArray, List.set_cons_zero, List.set_cons_succ]
  refine wpAnyH_take (i := 26) (v := ?_) rfl (by kernel_rfl) (by kernel_rfl) (by kernel_rfl) (fun _ _ _ h => h) (Or.inl ⟨by rfl, ?_⟩) (by assumption) ?_
  rotate_left
  · (intro w hSw; clear hSw; go_simp; try (with_reducible rfl))
  try simp only [Act.put, List.getElem_toArray, List.getElem_cons_succ, List.getElem_cons_zero, List.setIfInBounds_toArray, List.set_cons_zero, List.set_cons_succ]
  refine wpAnyH_take (i := 27) (v := ?_) rfl (by kernel_rfl) (by kernel_rfl) (by kernel_rfl) (fun _ _ _ h => h) (Or.inl ⟨by rfl, ?_⟩) (by assumption) ?_
  rotate_left
  · (intro w hSw; clear hSw; go_simp; try (with_reducible rfl))
  try simp only [Act.put, List.getElem_toArray, List.getElem_cons_succ, List.getElem_cons_zero, List.setIfInBounds_toArray, List.set_cons_zero, List.set_cons_succ]
  refine wpAnyH_done (by kernel_rfl) ?_ _
  clear hHeld HRr1 HRr2
  obtain ⟨w11, hw11⟩ : ∃ w11, w11 = x127 := ⟨_, rfl⟩
  rw [← hw11] at V_128 V_129 V_130 V_131 L_132 L_133 L_134 L_135 B_136 ⊢
  clear hw11
  have hq1 := fun W => idn_eql ⟨a.by_, a.seq, sumOf a.er⟩ ⟨a.by_, a.seq, sumOf a.er⟩ W
  rw [(nmAlike_iff _ _).2 rfl] at hq1
  unfold nmv at hq1
  have hfr := fun op a b xs ys W => idn_free op a b xs ys W
  go_upto_region 10 with fail
  have V_137 := Lib.hid (show Vr w11.drew V1 a from V_128.out)
  have V_138 := Lib.hid (show Vr w11.drew V2 b from V_129.out)
  have V_139 := Lib.hid (show Vr w11.drew V3 c from V_130.out)
  have V_140 := Lib.hid (show Vr w11.drew V4 d from V_131.out)
  have L_141 := Lib.hid (show Lies No w11.drew a from L_132.out.bf (Bf.drew w11))
  have L_142 := Lib.hid (show Lies No w11.drew b from L_133.out.bf (Bf.drew w11))
  have L_143 := Lib.hid (show Lies No w11.drew c from L_134.out.bf (Bf.drew w11))
  have L_144 := Lib.hid (show Lies No w11.drew d from L_135.out.bf (Bf.drew w11))
  have B_145 := Lib.hid (show Below w.heap.size w w11.drew from B_136.out.trans (below_drewN w11 1 w.heap.size))
  clear V_128 V_129 V_130 V_131 L_132 L_133 L_134 L_135 B_136
  refine wp_region_held_drew (S := (fun w' : World => Vr w' V1 a ∧ Vr w' V2 b ∧ Vr w' V3 c ∧ Vr w' V4 d)) (by kernel_rfl) ⟨V_137.out, V_138.out, V_139.out, V_140.out⟩ (fun hHeld => ?_)
  try simp only [Act.put, List.getElem_toArray, List.getElem_cons_succ, List.getElem_cons_zero, List.setIfInBounds_toArray, List.set_cons_zero, List.set_cons_succ]
  refine wpAnyH_take (i := 0) (v := ?_) rfl (by kernel_rfl) (by kernel_rfl) (by kernel_rfl) (fun _ _ _ h => h) (Or.inl ⟨by rfl, ?_⟩) (by assumption) ?_
  rotate_left
  · (intro w hSw; refine run_load_op _ (.tmp 9) ?_ ?_ hSw.1 <;> rfl)
  try simp only [Act.put, List.getElem_toArray, List.getElem_cons_zero, List.setIfInBounds_toArray, List.set_cons_zero, List.set_cons_succ]
  refine wpAnyH_take (i := 1) (v := ?_) rfl (by kernel_rfl) (by kernel_rfl) (by kernel_rfl) (fun _ _ _ h => h) (Or.inl ⟨by rfl, ?_⟩) (by assumption) ?_
  rotate_left
  · (intro w hSw; refine run_load_op _ (.tmp 11) ?_ ?_ hSw.2.2.1 <;> rfl)
  try simp only [Act.put, List.getElem_toArray, List.getElem_cons_succ, List.getElem_cons_zero, List.setIfInBounds_toArray, List.set_cons_zero, List.set_cons_succ]
  refine wpAnyH_ready (rs := [2]) (by kernel_rfl) (by simp) ?_
  refine AllReadyH.cons rfl (fun K hK => ?_) AllReadyH.nil
  go_simp
  have HC := Lib.hid (same_any a c L_141.out L_143.out HTA.out.ok HTC.out.ok)
  refine (HC.out).mono ?_
  rintro e x146 ⟨r5, rfl, hr, hb⟩
  have HRr5 := Lib.hid hr
  clear hr
  clear HC
  have V_147 := Lib.hid (V_137.out.below hb (Blk.lt V_137.out))
  have V_148 := Lib.hid (V_138.out.below hb (Blk.lt V_138.out))
  have V_149 := Lib.hid (V_139.out.below hb (Blk.lt V_139.out))
  have V_150 := Lib.hid (V_140.out.below hb (Blk.lt V_140.out))
  have L_151 := Lib.hid (L_141.out.below hb)
  have L_152 := Lib.hid (L_142.out.below hb)
  have L_153 := Lib.hid (L_143.out.below hb)
  have L_154 := Lib.hid (L_144.out.below hb)
  have B_155 := Lib.hid (B_145.out.trans (hb.mono B_145.out.size))
  clear V_137 V_138 V_139 V_140 L_141 L_142 L_143 L_144 B_145 hb
  try go_simp
  refine hK.out _ _ ⟨V_147.out, V_148.out, V_149.out, V_150.out⟩ (fun hHeld => ?_)
  clear hK K
  try simp only [Act.put, List.getElem_toArray, List.getElem_cons_succ, List.getElem_cons_zero, List.setIfInBounds_toArray, List.set_cons_zero, List.set_cons_succ]
  cases r5
  · skip
    refine wpAnyH_take (i := 3) (v := ?_) rfl (by kernel_rfl) (by kernel_rfl) (by kernel_rfl) (fun _ _ _ h => h) (Or.inl ⟨by rfl, ?_⟩) (by assumption) ?_
    rotate_left
    · (intro w hSw; clear hSw; go_simp; try (with_reducible rfl))
    try simp only [Act.put, List.getElem_toArray, List.getElem_cons_succ, List.getElem_cons_zero, List.setIfInBounds_toArray, List.set_cons_zero, List.set_cons_succ]
    refine wpAnyH_take (i := 4) (v := ?_) rfl (by kernel_rfl) (by kernel_rfl) (by kernel_rfl) (fun _ _ _ h => h) (Or.inl ⟨by rfl, ?_⟩) (by assumption) ?_
    rotate_left
    · (intro w hSw; clear hSw; go_simp; try (with_reducible rfl))
    try simp only [Act.put, List.getElem_toArray, List.getElem_cons_succ, List.getElem_cons_zero, List.setIfInBounds_toArray, List.set_cons_zero, List.set_cons_succ]
    refine wpAnyH_take (i := 5) (v := undef) rfl (by kernel_rfl) (by kernel_rfl) (by kernel_rfl) (fun _ _ _ h => h) (Or.inr ⟨by rfl, rfl⟩) (by assumption) ?_
    try simp only [Act.put, List.getElem_toArray, List.getElem_cons_succ, List.getElem_cons_zero, List.setIfInBounds_toArray, List.set_cons_zero, List.set_cons_succ]
    refine wpAnyH_take (i := 6) (v := undef) rfl (by kernel_rfl) (by kernel_rfl) (by kernel_rfl) (fun _ _ _ h => h) (Or.inr ⟨by rfl, rfl⟩) (by assumption) ?_
    try simp only [Act.put, List.getElem_toArray, List.getElem_cons_succ, List.getElem_cons_zero, List.setIfInBounds_toArray, List.set_cons_zero, List.set_cons_succ]
    refine wpAnyH_take (i := 7) (v := undef) rfl (by kernel_rfl) (by kernel_rfl) (by kernel_rfl) (fun _ _ _ h => h) (Or.inr ⟨by rfl, rfl⟩) (by assumption) ?_
    try simp only [Act.put, List.getElem_toArray, List.getElem_cons_succ, List.getElem_cons_zero, List.setIfInBounds_toArray, List.set_cons_zero, List.set_cons_succ]
    refine wpAnyH_take (i := 8) (v := undef) rfl (by kernel_rfl) (by kernel_rfl) (by kernel_rfl) (fun _ _ _ h => h) (Or.inr ⟨by rfl, rfl⟩) (by assumption) ?_
    try simp only [Act.put, List.getElem_toArray, List.getElem_cons_succ, List.getElem_cons_zero, List.setIfInBounds_toArray, List.set_cons_zero, List.set_cons_succ]
    refine wpAnyH_take (i := 9) (v := undef) rfl (by kernel_rfl) (by kernel_rfl) (by kernel_rfl) (fun _ _ _ h => h) (Or.inr ⟨by rfl, rfl⟩) (by assumption) ?_
    try simp only [Act.put, List.getElem_toArray, List.getElem_cons_succ, List.getElem_cons_zero, List.setIfInBounds_toArray, List.set_cons_zero, List.set_cons_succ]
    refine wpAnyH_take (i := 10) (v := ?_) rfl (by kernel_rfl) (by kernel_rfl) (by kernel_rfl) (fun _ _ _ h => h) (Or.inl ⟨by rfl, ?_⟩) (by assumption) ?_
    rotate_left
    · (intro w hSw; clear hSw; go_simp; try (with_reducible rfl))
    try simp only [Act.put, List.getElem_toArray, List.getElem_cons_succ, List.getElem_cons_zero, List.setIfInBounds_toArray, List.set_cons_zero, List.set_cons_succ]
    refine wpAnyH_take (i := 11) (v := ?_) rfl (by kernel_rfl) (by kernel_rfl) (by kernel_rfl) (fun _ _ _ h => h) (Or.inl ⟨by rfl, ?_⟩) (by assumption) ?_
    rotate_left
    · (intro w hSw; clear hSw; go_simp; try (with_reducible rfl))
    try simp only [Act.put, List.getElem_toArray, List.getElem_cons_succ, List.getElem_cons_zero, List.setIfInBounds_toArray, List.set_cons_zero, List.set_cons_succ]
    refine wpAnyH_take (i := 12) (v := ?_) rfl (by kernel_rfl) (by kernel_rfl) (by kernel_rfl) (fun _ _ _ h => h) (Or.inl ⟨by rfl, ?_⟩) (by assumption) ?_
    rotate_left
    · (intro w hSw; refine run_load_op _ (.tmp 9) ?_ ?_ hSw.1 <;> rfl)
    try simp only [Act.put, List.getElem_toArray, List.getElem_cons_succ, List.getElem_cons_zero, List.setIfInBounds_toArray, List.set_cons_zero, List.set_cons_succ]
    refine wpAnyH_take (i := 14) (v := ?_) rfl (by kernel_rfl) (by kernel_rfl) (by kernel_rfl) (fun _ _ _ h => h) (Or.inl ⟨by rfl, ?_⟩) (by assumption) ?_
    rotate_left
    · (intro w hSw; refine run_load_op _ (.tmp 12) ?_ ?_ hSw.2.2.2 <;> rfl)
    try simp only [Act.put, List.getElem_toArray, List.getElem_cons_succ, List.getElem_cons_zero, List.setIfInBounds_toArray, List.set_cons_zero, List.set_cons_succ]
    refine wpAnyH_ready (rs := [13]) (by kernel_rfl) (by simp) ?_
    refine AllReadyH.cons rfl (fun K hK => ?_) AllReadyH.nil
    go_simp
    have HC := Lib.hid (id_any a L_151.out HTA.out)
    refine (HC.out).mono ?_
    rintro e x156 ⟨rfl, hb⟩
    clear HC
    have V_157 := Lib.hid (V_147.out.below hb (Blk.lt V_147.out))
    have V_158 := Lib.hid (V_148.out.below hb (Blk.lt V_148.out))
    have V_159 := Lib.hid (V_149.out.below hb (Blk.lt V_149.out))
    have V_160 := Lib.hid (V_150.out.below hb (Blk.lt V_150.out))
    have L_161 := Lib.hid (L_151.out.below hb)
    have L_162 := Lib.hid (L_152.out.below hb)
    have L_163 := Lib.hid (L_153.out.below hb)
    have L_164 := Lib.hid (L_154.out.below hb)
    have B_165 := Lib.hid (B_155.out.trans (hb.mono B_155.out.size))
    clear V_147 V_148 V_149 V_150 L_151 L_152 L_153 L_154 B_155 hb
    try go_simp
    refine hK.out _ _ ⟨V_157.out, V_158.out, V_159.out, V_160.out⟩ (fun hHeld => ?_)
    clear hK K
    try simp only [Act.put, List.getElem_toArray, List.getElem_cons_succ, List.getElem_cons_zero, List.setIfInBounds_toArray, List.set_cons_zero, List.set_cons_succ]
    have HEQ := HED
    refine wpAnyH_ready (rs := [15]) (by kernel_rfl) (by simp) ?_
    refine AllReadyH.cons rfl (fun K hK => ?_) AllReadyH.nil
    go_simp
    have HC := Lib.hid ((show Calls Tryz.prog 19 #[d.v] x156 fun e w' => e = .returned (.agg #[.int .i64 a.by_, .int .i64 a.seq, .int .u64 (sumOf a.er : Nat)]) ∧ Below x156.heap.size x156 w' from by have h := id_any d L_164.out HTD.out; rw [← HEQ.out, show d.by_ = a.by_ from congrArg Er.by_ HEQ.out.symm, show d.seq = a.seq from congrArg Er.seq HEQ.out.symm] at h; exact h))
    refine (HC.out).mono ?_
    rintro e x166 ⟨rfl, hb⟩
    clear HC
    have V_167 := Lib.hid (V_157.out.below hb (Blk.lt V_157.out))
    have V_168 := Lib.hid (V_158.out.below hb (Blk.lt V_158.out))
    have V_169 := Lib.hid (V_159.out.below hb (Blk.lt V_159.out))
    have V_170 := Lib.hid (V_160.out.below hb (Blk.lt V_160.out))
    have L_171 := Lib.hid (L_161.out.below hb)
    have L_172 := Lib.hid (L_162.out.below hb)
    have L_173 := Lib.hid (L_163.out.below hb)
    have L_174 := Lib.hid (L_164.out.below hb)
    have B_175 := Lib.hid (B_165.out.trans (hb.mono B_165.out.size))
    clear V_157 V_158 V_159 V_160 L_161 L_162 L_163 L_164 B_165 hb
    try go_simp
    refine hK.out _ _ ⟨V_167.out, V_168.out, V_169.out, V_170.out⟩ (fun hHeld => ?_)
    clear hK K
    try simp only [Act.put, List.getElem_toArray, List.getElem_cons_succ, List.getElem_cons_zero, List.setIfInBounds_toArray, List.set_cons_zero, List.set_cons_succ]
    clear HEQ
    refine wpAnyH_take (i := 16) (v := ?_) rfl (by kernel_rfl) (by kernel_rfl) (by kernel_rfl) (fun _ _ _ h => h) (Or.inl ⟨by rfl, ?_⟩) (by assumption) ?_
    rotate_left
    · (intro w hSw; clear hSw; go_simp; try (with_reducible rfl))
    try simp only [Act.put, List.getElem_toArray, List.getElem_cons_succ, List.getElem_cons_zero, List.setIfInBounds_toArray, List.set_cons_zero, List.set_cons_succ]
    refine wpAnyH_take (i := 17) (v := ?_) rfl (by kernel_rfl) (by kernel_rfl) (by kernel_rfl) (fun _ _ _ h => h) (Or.inl ⟨by rfl, ?_⟩) (by assumption) ?_
    rotate_left
    · (intro w hSw; clear hSw; go_simp; try (with_reducible rfl))
    try simp only [Act.put, List.getElem_toArray, List.getElem_cons_succ, List.getElem_cons_zero, List.setIfInBounds_toArray, List.set_cons_zero, List.set_cons_succ]
    refine wpAnyH_take (i := 18) (v := ?_) rfl (by kernel_rfl) (by kernel_rfl) (by kernel_rfl) (fun _ _ _ h => h) (Or.inl ⟨by rfl, ?_⟩) (by assumption) ?_
    rotate_left
    · (intro w hSw; clear hSw; go_simp; try (with_reducible rfl))
    try simp only [Act.put, List.getElem_toArray, List.getElem_cons_succ, List.getElem_cons_zero, List.setIfInBounds_toArray, List.set_cons_zero, List.set_cons_succ]
    refine wpAnyH_take (i := 19) (v := ?_) rfl (by kernel_rfl) (by kernel_rfl) (by kernel_rfl) (fun _ _ _ h => h) (Or.inl ⟨by rfl, ?_⟩) (by assumption) ?_
    rotate_left
    · (intro w hSw; refine run_load_op _ (.tmp 10) ?_ ?_ hSw.2.1 <;> rfl)
    try simp only [Act.put, List.getElem_toArray, List.getElem_cons_succ, List.getElem_cons_zero, List.setIfInBounds_toArray, List.set_cons_zero, List.set_cons_succ]
    refine wpAnyH_take (i := 20) (v := ?_) rfl (by kernel_rfl) (by kernel_rfl) (by kernel_rfl) (fun _ _ _ h => h) (Or.inl ⟨by rfl, ?_⟩) (by assumption) ?_
    rotate_left
    · (intro w hSw; refine run_load_op _ (.tmp 9) ?_ ?_ hSw.1 <;> rfl)
    try simp only [Act.put, List.getElem_toArray, List.getElem_cons_succ, List.getElem_cons_zero, List.setIfInBounds_toArray, List.set_cons_zero, List.set_cons_succ]
    refine wpAnyH_take (i := 22) (v := ?_) rfl (by kernel_rfl) (by kernel_rfl) (by kernel_rfl) (fun _ _ _ h => h) (Or.inl ⟨by rfl, ?_⟩) (by assumption) ?_
    rotate_left
    · (intro w hSw; refine run_load_op _ (.tmp 9) ?_ ?_ hSw.1 <;> rfl)
    try simp only [Act.put, List.getElem_toArray, List.getElem_cons_succ, List.getElem_cons_zero, List.setIfInBounds_toArray, List.set_cons_zero, List.set_cons_succ]
    refine wpAnyH_take (i := 23) (v := ?_) rfl (by kernel_rfl) (by kernel_rfl) (by kernel_rfl) (fun _ _ _ h => h) (Or.inl ⟨by rfl, ?_⟩) (by assumption) ?_
    rotate_left
    · (intro w hSw; refine run_load_op _ (.tmp 10) ?_ ?_ hSw.2.1 <;> rfl)
    try simp only [Act.put, List.getElem_toArray, List.getElem_cons_succ, List.getElem_cons_zero, List.setIfInBounds_toArray, List.set_cons_zero, List.set_cons_succ]
    refine wpAnyH_ready (rs := [21]) (by kernel_rfl) (by simp) ?_
    refine AllReadyH.cons rfl (fun K hK => ?_) AllReadyH.nil
    go_simp
    have HC := Lib.hid (same_any b a L_172.out L_171.out HTB.out.ok HTA.out.ok)
    refine (HC.out).mono ?_
    rintro e x176 ⟨r6, rfl, hr, hb⟩
    have HRr6 := Lib.hid hr
    clear hr
    clear HC
    have V_177 := Lib.hid (V_167.out.below hb (Blk.lt V_167.out))
    have V_178 := Lib.hid (V_168.out.below hb (Blk.lt V_168.out))
    have V_179 := Lib.hid (V_169.out.below hb (Blk.lt V_169.out))
    have V_180 := Lib.hid (V_170.out.below hb (Blk.lt V_170.out))
    have L_181 := Lib.hid (L_171.out.below hb)
    have L_182 := Lib.hid (L_172.out.below hb)
    have L_183 := Lib.hid (L_173.out.below hb)
    have L_184 := Lib.hid (L_174.out.below hb)
    have B_185 := Lib.hid (B_175.out.trans (hb.mono B_175.out.size))
    clear V_167 V_168 V_169 V_170 L_171 L_172 L_173 L_174 B_175 hb
    try go_simp
    refine hK.out _ _ ⟨V_177.out, V_178.out, V_179.out, V_180.out⟩ (fun hHeld => ?_)
    clear hK K
    try simp only [Act.put, List.getElem_toArray, List.getElem_cons_succ, List.getElem_cons_zero, List.setIfInBounds_toArray, List.set_cons_zero, List.set_cons_succ]
    refine wpAnyH_ready (rs := [24]) (by kernel_rfl) (by simp) ?_
    refine AllReadyH.cons rfl (fun K hK => ?_) AllReadyH.nil
    go_simp
    have HC := Lib.hid (same_any a b L_181.out L_182.out HTA.out.ok HTB.out.ok)
    refine (HC.out).mono ?_
    rintro e x186 ⟨r7, rfl, hr, hb⟩
    have HRr7 := Lib.hid hr
    clear hr
    have hrt : r7 = r6 := by rw [Bool.eq_iff_iff, HRr7.out, HRr6.out]; exact ⟨fun h => h.symm, fun h => h.symm⟩
    subst hrt
    clear HRr7
    clear HC
    have V_187 := Lib.hid (V_177.out.below hb (Blk.lt V_177.out))
    have V_188 := Lib.hid (V_178.out.below hb (Blk.lt V_178.out))
    have V_189 := Lib.hid (V_179.out.below hb (Blk.lt V_179.out))
    have V_190 := Lib.hid (V_180.out.below hb (Blk.lt V_180.out))
    have L_191 := Lib.hid (L_181.out.below hb)
    have L_192 := Lib.hid (L_182.out.below hb)
    have L_193 := Lib.hid (L_183.out.below hb)
    have L_194 := Lib.hid (L_184.out.below hb)
    have B_195 := Lib.hid (B_185.out.trans (hb.mono B_185.out.size))
    clear V_177 V_178 V_179 V_180 L_181 L_182 L_183 L_184 B_185 hb
    try go_simp
    refine hK.out _ _ ⟨V_187.out, V_188.out, V_189.out, V_190.out⟩ (fun hHeld => ?_)
    clear hK K
    try simp only [Act.put, List.getElem_toArray, List.getElem_cons_succ, List.getElem_cons_zero, List.setIfInBounds_toArray, List.set_cons_zero, List.set_cons_succ]
    refine wpAnyH_take (i := 25) (v := ?_) rfl (by kernel_rfl) (by kernel_rfl) (by kernel_rfl) (fun _ _ _ h => h) (Or.inl ⟨by rfl, ?_⟩) (by assumption) ?_
    rotate_left
    · (intro w hSw; clear hSw; go_simp; try (with_reducible rfl))
    try simp only [Act.put, List.getElem_toArray, List.getElem_cons_succ, List.getElem_cons_zero, List.setIfInBounds_toArray, List.set_cons_zero, List.set_cons_succ]
    refine wpAnyH_take (i := 26) (v := ?_) rfl (by kernel_rfl) (by kernel_rfl) (by kernel_rfl) (fun _ _ _ h => h) (Or.inl ⟨by rfl, ?_⟩) (by assumption) ?_
    rotate_left
    · (intro w hSw; clear hSw; go_simp; try (with_reducible rfl))
    try simp only [Act.put, List.getElem_toArray, List.getElem_cons_succ, List.getElem_cons_zero, List.setIfInBounds_toArray, List.set_cons_zero, List.set_cons_succ]
    refine wpAnyH_take (i := 27) (v := ?_) rfl (by kernel_rfl) (by kernel_rfl) (by kernel_rfl) (fun _ _ _ h => h) (Or.inl ⟨by rfl, ?_⟩) (by assumption) ?_
    rotate_left
    · (intro w hSw; clear hSw; go_simp; try (with_reducible rfl))
    try simp only [Act.put, List.getElem_toArray, List.getElem_cons_succ, List.getElem_cons_zero, List.setIfInBounds_toArray, List.set_cons_zero, List.set_cons_succ]
    refine wpAnyH_ready (rs := [28]) (by kernel_rfl) (by simp) ?_
    refine AllReadyH.cons rfl (fun K hK => ?_) AllReadyH.nil
    go_simp
    have HC := Lib.hid (lives_any (HK.out.below B_195.out))
    refine (HC.out).mono ?_
    rintro e x196 ⟨rfl, hb⟩
    clear HC
    have V_197 := Lib.hid (V_187.out.below hb (Blk.lt V_187.out))
    have V_198 := Lib.hid (V_188.out.below hb (Blk.lt V_188.out))
    have V_199 := Lib.hid (V_189.out.below hb (Blk.lt V_189.out))
    have V_200 := Lib.hid (V_190.out.below hb (Blk.lt V_190.out))
    have L_201 := Lib.hid (L_191.out.below hb)
    have L_202 := Lib.hid (L_192.out.below hb)
    have L_203 := Lib.hid (L_193.out.below hb)
    have L_204 := Lib.hid (L_194.out.below hb)
    have B_205 := Lib.hid (B_195.out.trans (hb.mono B_195.out.size))
    clear V_187 V_188 V_189 V_190 L_191 L_192 L_193 L_194 B_195 hb
    try go_simp
    refine hK.out _ _ ⟨V_197.out, V_198.out, V_199.out, V_200.out⟩ (fun hHeld => ?_)
    clear hK K
    try simp only [Act.put, List.getElem_toArray, List.getElem_cons_succ, List.getElem_cons_zero, List.setIfInBounds_toArray, List.set_cons_zero, List.set_cons_succ]
    refine wpAnyH_take (i := 29) (v := ?_) rfl (by kernel_rfl) (by kernel_rfl) (by kernel_rfl) (fun _ _ _ h => h) (Or.inl ⟨by rfl, ?_⟩) (by assumption) ?_
    rotate_left
    · (intro w hSw; clear hSw; go_simp; try (with_reducible rfl))
    try simp only [Act.put, List.getElem_toArray, List.getElem_cons_succ, List.getElem_cons_zero, List.setIfInBounds_toArray, List.set_cons_zero, List.set_cons_succ]
    refine wpAnyH_take (i := 30) (v := ?_) rfl (by kernel_rfl) (by kernel_rfl) (by kernel_rfl) (fun _ _ _ h => h) (Or.inl ⟨by rfl, ?_⟩) (by assumption) ?_
    rotate_left
    · (intro w hSw; clear hSw; go_simp; try (with_reducible rfl))
    try simp only [Act.put, List.getElem_toArray, List.getElem_cons_succ, List.getElem_cons_zero, List.setIfInBounds_toArray, List.set_cons_zero, List.set_cons_succ]
    refine wpAnyH_done (by kernel_rfl) ?_ _
    go_wp2
    go_ret
    exact ⟨rfl, B_205.out⟩
  · skip
    have HEQ := Lib.hid (HRr5.out.1 rfl)
    refine wpAnyH_take (i := 3) (v := ?_) rfl (by kernel_rfl) (by kernel_rfl) (by kernel_rfl) (fun _ _ _ h => h) (Or.inl ⟨by rfl, ?_⟩) (by assumption) ?_
    rotate_left
    · (intro w hSw; clear hSw; go_simp; try (with_reducible rfl))
    try simp only [Act.put, List.getElem_toArray, List.getElem_cons_succ, List.getElem_cons_zero, List.setIfInBounds_toArray, List.set_cons_zero, List.set_cons_succ]
    refine wpAnyH_take (i := 4) (v := ?_) rfl (by kernel_rfl) (by kernel_rfl) (by kernel_rfl) (fun _ _ _ h => h) (Or.inl ⟨by rfl, ?_⟩) (by assumption) ?_
    rotate_left
    · (intro w hSw; clear hSw; go_simp; try (with_reducible rfl))
    try simp only [Act.put, List.getElem_toArray, List.getElem_cons_succ, List.getElem_cons_zero, List.setIfInBounds_toArray, List.set_cons_zero, List.set_cons_succ]
    refine wpAnyH_take (i := 5) (v := ?_) rfl (by kernel_rfl) (by kernel_rfl) (by kernel_rfl) (fun _ _ _ h => h) (Or.inl ⟨by rfl, ?_⟩) (by assumption) ?_
    rotate_left
    · (intro w hSw; refine run_load_op _ (.tmp 9) ?_ ?_ hSw.1 <;> rfl)
    try simp only [Act.put, List.getElem_toArray, List.getElem_cons_succ, List.getElem_cons_zero, List.setIfInBounds_toArray, List.set_cons_zero, List.set_cons_succ]
    refine wpAnyH_take (i := 7) (v := ?_) rfl (by kernel_rfl) (by kernel_rfl) (by kernel_rfl) (fun _ _ _ h => h) (Or.inl ⟨by rfl, ?_⟩) (by assumption) ?_
    rotate_left
    · (intro w hSw; refine run_load_op _ (.tmp 11) ?_ ?_ hSw.2.2.1 <;> rfl)
    try simp only [Act.put, List.getElem_toArray, List.getElem_cons_succ, List.getElem_cons_zero, List.setIfInBounds_toArray, List.set_cons_zero, List.set_cons_succ]
    refine wpAnyH_ready (rs := [6]) (by kernel_rfl) (by simp) ?_
    refine AllReadyH.cons rfl (fun K hK => ?_) AllReadyH.nil
    go_simp
    have HC := Lib.hid (id_any a L_151.out HTA.out)
    refine (HC.out).mono ?_
    rintro e x206 ⟨rfl, hb⟩
    clear HC
    have V_207 := Lib.hid (V_147.out.below hb (Blk.lt V_147.out))
    have V_208 := Lib.hid (V_148.out.below hb (Blk.lt V_148.out))
    have V_209 := Lib.hid (V_149.out.below hb (Blk.lt V_149.out))
    have V_210 := Lib.hid (V_150.out.below hb (Blk.lt V_150.out))
    have L_211 := Lib.hid (L_151.out.below hb)
    have L_212 := Lib.hid (L_152.out.below hb)
    have L_213 := Lib.hid (L_153.out.below hb)
    have L_214 := Lib.hid (L_154.out.below hb)
    have B_215 := Lib.hid (B_155.out.trans (hb.mono B_155.out.size))
    clear V_147 V_148 V_149 V_150 L_151 L_152 L_153 L_154 B_155 hb
    try go_simp
    refine hK.out _ _ ⟨V_207.out, V_208.out, V_209.out, V_210.out⟩ (fun hHeld => ?_)
    clear hK K
    try simp only [Act.put, List.getElem_toArray, List.getElem_cons_succ, List.getElem_cons_zero, List.setIfInBounds_toArray, List.set_cons_zero, List.set_cons_succ]
    refine wpAnyH_ready (rs := [8]) (by kernel_rfl) (by simp) ?_
    refine AllReadyH.cons rfl (fun K hK => ?_) AllReadyH.nil
    go_simp
    have HC := Lib.hid ((show Calls Tryz.prog 19 #[c.v] x206 fun e w' => e = .returned (.agg #[.int .i64 a.by_, .int .i64 a.seq, .int .u64 (sumOf a.er : Nat)]) ∧ Below x206.heap.size x206 w' from by have h := id_any c L_213.out HTC.out; rw [← HEQ.out, show c.by_ = a.by_ from congrArg Er.by_ HEQ.out.symm, show c.seq = a.seq from congrArg Er.seq HEQ.out.symm] at h; exact h))
    refine (HC.out).mono ?_
    rintro e x216 ⟨rfl, hb⟩
    clear HC
    have V_217 := Lib.hid (V_207.out.below hb (Blk.lt V_207.out))
    have V_218 := Lib.hid (V_208.out.below hb (Blk.lt V_208.out))
    have V_219 := Lib.hid (V_209.out.below hb (Blk.lt V_209.out))
    have V_220 := Lib.hid (V_210.out.below hb (Blk.lt V_210.out))
    have L_221 := Lib.hid (L_211.out.below hb)
    have L_222 := Lib.hid (L_212.out.below hb)
    have L_223 := Lib.hid (L_213.out.below hb)
    have L_224 := Lib.hid (L_214.out.below hb)
    have B_225 := Lib.hid (B_215.out.trans (hb.mono B_215.out.size))
    clear V_207 V_208 V_209 V_210 L_211 L_212 L_213 L_214 B_215 hb
    try go_simp
    refine hK.out _ _ ⟨V_217.out, V_218.out, V_219.out, V_220.out⟩ (fun hHeld => ?_)
    clear hK K
    try simp only [Act.put, List.getElem_toArray, List.getElem_cons_succ, List.getElem_cons_zero, List.setIfInBounds_toArray, List.set_cons_zero, List.set_cons_succ]
    clear HEQ
    refine wpAnyH_take (i := 9) (v := ?_) rfl (by kernel_rfl) (by kernel_rfl) (by kernel_rfl) (fun _ _ _ h => h) (Or.inl ⟨by rfl, ?_⟩) (by assumption) ?_
    rotate_left
    · (intro w hSw; clear hSw; go_simp; try (with_reducible rfl))
    try simp only [Act.put, List.getElem_toArray, List.getElem_cons_succ, List.getElem_cons_zero, List.setIfInBounds_toArray, List.set_cons_zero, List.set_cons_succ]
    refine wpAnyH_take (i := 10) (v := ?_) rfl (by kernel_rfl) (by kernel_rfl) (by kernel_rfl) (fun _ _ _ h => h) (Or.inl ⟨by rfl, ?_⟩) (by assumption) ?_
    rotate_left
    · (intro w hSw; clear hSw; go_simp; try (with_reducible rfl))
    try simp only [Act.put, List.getElem_toArray, List.getElem_cons_succ, List.getElem_cons_zero, List.setIfInBounds_toArray, List.set_cons_zero, List.set_cons_succ]
    refine wpAnyH_take (i := 11) (v := ?_) rfl (by kernel_rfl) (by kernel_rfl) (by kernel_rfl) (fun _ _ _ h => h) (Or.inl ⟨by rfl, ?_⟩) (by assumption) ?_
    rotate_left
    · (intro w hSw; clear hSw; go_simp; try (with_reducible rfl))
    try simp only [Act.put, List.getElem_toArray, List.getElem_cons_succ, List.getElem_cons_zero, List.setIfInBounds_toArray, List.set_cons_zero, List.set_cons_succ]
    refine wpAnyH_take (i := 12) (v := ?_) rfl (by kernel_rfl) (by kernel_rfl) (by kernel_rfl) (fun _ _ _ h => h) (Or.inl ⟨by rfl, ?_⟩) (by assumption) ?_
    rotate_left
    · (intro w hSw; refine run_load_op _ (.tmp 9) ?_ ?_ hSw.1 <;> rfl)
    try simp only [Act.put, List.getElem_toArray, List.getElem_cons_succ, List.getElem_cons_zero, List.setIfInBounds_toArray, List.set_cons_zero, List.set_cons_succ]
    refine wpAnyH_take (i := 14) (v := ?_) rfl (by kernel_rfl) (by kernel_rfl) (by kernel_rfl) (fun _ _ _ h => h) (Or.inl ⟨by rfl, ?_⟩) (by assumption) ?_
    rotate_left
    · (intro w hSw; refine run_load_op _ (.tmp 12) ?_ ?_ hSw.2.2.2 <;> rfl)
    try simp only [Act.put, List.getElem_toArray, List.getElem_cons_succ, List.getElem_cons_zero, List.setIfInBounds_toArray, List.set_cons_zero, List.set_cons_succ]
    refine wpAnyH_ready (rs := [13]) (by kernel_rfl) (by simp) ?_
    refine AllReadyH.cons rfl (fun K hK => ?_) AllReadyH.nil
    go_simp
    have HC := Lib.hid (id_any a L_221.out HTA.out)
    refine (HC.out).mono ?_
    rintro e x226 ⟨rfl, hb⟩
    clear HC
    have V_227 := Lib.hid (V_217.out.below hb (Blk.lt V_217.out))
    have V_228 := Lib.hid (V_218.out.below hb (Blk.lt V_218.out))
    have V_229 := Lib.hid (V_219.out.below hb (Blk.lt V_219.out))
    have V_230 := Lib.hid (V_220.out.below hb (Blk.lt V_220.out))
    have L_231 := Lib.hid (L_221.out.below hb)
    have L_232 := Lib.hid (L_222.out.below hb)
    have L_233 := Lib.hid (L_223.out.below hb)
    have L_234 := Lib.hid (L_224.out.below hb)
    have B_235 := Lib.hid (B_225.out.trans (hb.mono B_225.out.size))
    clear V_217 V_218 V_219 V_220 L_221 L_222 L_223 L_224 B_225 hb
    try go_simp
    refine hK.out _ _ ⟨V_227.out, V_228.out, V_229.out, V_230.out⟩ (fun hHeld => ?_)
    clear hK K
    try simp only [Act.put, List.getElem_toArray, List.getElem_cons_succ, List.getElem_cons_zero, List.setIfInBounds_toArray, List.set_cons_zero, List.set_cons_succ]
    have HEQ := HED
    refine wpAnyH_ready (rs := [15]) (by kernel_rfl) (by simp) ?_
    refine AllReadyH.cons rfl (fun K hK => ?_) AllReadyH.nil
    go_simp
    have HC := Lib.hid ((show Calls Tryz.prog 19 #[d.v] x226 fun e w' => e = .returned (.agg #[.int .i64 a.by_, .int .i64 a.seq, .int .u64 (sumOf a.er : Nat)]) ∧ Below x226.heap.size x226 w' from by have h := id_any d L_234.out HTD.out; rw [← HEQ.out, show d.by_ = a.by_ from congrArg Er.by_ HEQ.out.symm, show d.seq = a.seq from congrArg Er.seq HEQ.out.symm] at h; exact h))
    refine (HC.out).mono ?_
    rintro e x236 ⟨rfl, hb⟩
    clear HC
    have V_237 := Lib.hid (V_227.out.below hb (Blk.lt V_227.out))
    have V_238 := Lib.hid (V_228.out.below hb (Blk.lt V_228.out))
    have V_239 := Lib.hid (V_229.out.below hb (Blk.lt V_229.out))
    have V_240 := Lib.hid (V_230.out.below hb (Blk.lt V_230.out))
    have L_241 := Lib.hid (L_231.out.below hb)
    have L_242 := Lib.hid (L_232.out.below hb)
    have L_243 := Lib.hid (L_233.out.below hb)
    have L_244 := Lib.hid (L_234.out.below hb)
    have B_245 := Lib.hid (B_235.out.trans (hb.mono B_235.out.size))
    clear V_227 V_228 V_229 V_230 L_231 L_232 L_233 L_234 B_235 hb
    try go_simp
    refine hK.out _ _ ⟨V_237.out, V_238.out, V_239.out, V_240.out⟩ (fun hHeld => ?_)
    clear hK K
    try simp only [Act.put, List.getElem_toArray, List.getElem_cons_succ, List.getElem_cons_zero, List.setIfInBounds_toArray, List.set_cons_zero, List.set_cons_succ]
    clear HEQ
    refine wpAnyH_take (i := 16) (v := ?_) rfl (by kernel_rfl) (by kernel_rfl) (by kernel_rfl) (fun _ _ _ h => h) (Or.inl ⟨by rfl, ?_⟩) (by assumption) ?_
    rotate_left
    · (intro w hSw; clear hSw; go_simp; try (with_reducible rfl))
    try simp only [Act.put, List.getElem_toArray, List.getElem_cons_succ, List.getElem_cons_zero, List.setIfInBounds_toArray, List.set_cons_zero, List.set_cons_succ]
    refine wpAnyH_take (i := 17) (v := ?_) rfl (by kernel_rfl) (by kernel_rfl) (by kernel_rfl) (fun _ _ _ h => h) (Or.inl ⟨by rfl, ?_⟩) (by assumption) ?_
    rotate_left
    · (intro w hSw; clear hSw; go_simp; try (with_reducible rfl))
    try simp only [Act.put, List.getElem_toArray, List.getElem_cons_succ, List.getElem_cons_zero, List.setIfInBounds_toArray, List.set_cons_zero, List.set_cons_succ]
    refine wpAnyH_take (i := 18) (v := ?_) rfl (by kernel_rfl) (by kernel_rfl) (by kernel_rfl) (fun _ _ _ h => h) (Or.inl ⟨by rfl, ?_⟩) (by assumption) ?_
    rotate_left
    · (intro w hSw; clear hSw; go_simp; try (with_reducible rfl))
    try simp only [Act.put, List.getElem_toArray, List.getElem_cons_succ, List.getElem_cons_zero, List.setIfInBounds_toArray, List.set_cons_zero, List.set_cons_succ]
    refine wpAnyH_take (i := 19) (v := ?_) rfl (by kernel_rfl) (by kernel_rfl) (by kernel_rfl) (fun _ _ _ h => h) (Or.inl ⟨by rfl, ?_⟩) (by assumption) ?_
    rotate_left
    · (intro w hSw; refine run_load_op _ (.tmp 10) ?_ ?_ hSw.2.1 <;> rfl)
    try simp only [Act.put, List.getElem_toArray, List.getElem_cons_succ, List.getElem_cons_zero, List.setIfInBounds_toArray, List.set_cons_zero, List.set_cons_succ]
    refine wpAnyH_take (i := 20) (v := ?_) rfl (by kernel_rfl) (by kernel_rfl) (by kernel_rfl) (fun _ _ _ h => h) (Or.inl ⟨by rfl, ?_⟩) (by assumption) ?_
    rotate_left
    · (intro w hSw; refine run_load_op _ (.tmp 9) ?_ ?_ hSw.1 <;> rfl)
    try simp only [Act.put, List.getElem_toArray, List.getElem_cons_succ, List.getElem_cons_zero, List.setIfInBounds_toArray, List.set_cons_zero, List.set_cons_succ]
    refine wpAnyH_take (i := 22) (v := ?_) rfl (by kernel_rfl) (by kernel_rfl) (by kernel_rfl) (fun _ _ _ h => h) (Or.inl ⟨by rfl, ?_⟩) (by assumption) ?_
    rotate_left
    · (intro w hSw; refine run_load_op _ (.tmp 9) ?_ ?_ hSw.1 <;> rfl)
    try simp only [Act.put, List.getElem_toArray, List.getElem_cons_succ, List.getElem_cons_zero, List.setIfInBounds_toArray, List.set_cons_zero, List.set_cons_succ]
    refine wpAnyH_take (i := 23) (v := ?_) rfl (by kernel_rfl) (by kernel_rfl) (by kernel_rfl) (fun _ _ _ h => h) (Or.inl ⟨by rfl, ?_⟩) (by assumption) ?_
    rotate_left
    · (intro w hSw; refine run_load_op _ (.tmp 10) ?_ ?_ hSw.2.1 <;> rfl)
    try simp only [Act.put, List.getElem_toArray, List.getElem_cons_succ, List.getElem_cons_zero, List.setIfInBounds_toArray, List.set_cons_zero, List.set_cons_succ]
    refine wpAnyH_ready (rs := [21]) (by kernel_rfl) (by simp) ?_
    refine AllReadyH.cons rfl (fun K hK => ?_) AllReadyH.nil
    go_simp
    have HC := Lib.hid (same_any b a L_242.out L_241.out HTB.out.ok HTA.out.ok)
    refine (HC.out).mono ?_
    rintro e x246 ⟨r6, rfl, hr, hb⟩
    have HRr6 := Lib.hid hr
    clear hr
    clear HC
    have V_247 := Lib.hid (V_237.out.below hb (Blk.lt V_237.out))
    have V_248 := Lib.hid (V_238.out.below hb (Blk.lt V_238.out))
    have V_249 := Lib.hid (V_239.out.below hb (Blk.lt V_239.out))
    have V_250 := Lib.hid (V_240.out.below hb (Blk.lt V_240.out))
    have L_251 := Lib.hid (L_241.out.below hb)
    have L_252 := Lib.hid (L_242.out.below hb)
    have L_253 := Lib.hid (L_243.out.below hb)
    have L_254 := Lib.hid (L_244.out.below hb)
    have B_255 := Lib.hid (B_245.out.trans (hb.mono B_245.out.size))
    clear V_237 V_238 V_239 V_240 L_241 L_242 L_243 L_244 B_245 hb
    try go_simp
    refine hK.out _ _ ⟨V_247.out, V_248.out, V_249.out, V_250.out⟩ (fun hHeld => ?_)
    clear hK K
    try simp only [Act.put, List.getElem_toArray, List.getElem_cons_succ, List.getElem_cons_zero, List.setIfInBounds_toArray, List.set_cons_zero, List.set_cons_succ]
    refine wpAnyH_ready (rs := [24]) (by kernel_rfl) (by simp) ?_
    refine AllReadyH.cons rfl (fun K hK => ?_) AllReadyH.nil
    go_simp
    have HC := Lib.hid (same_any a b L_251.out L_252.out HTA.out.ok HTB.out.ok)
    refine (HC.out).mono ?_
    rintro e x256 ⟨r7, rfl, hr, hb⟩
    have HRr7 := Lib.hid hr
    clear hr
    have hrt : r7 = r6 := by rw [Bool.eq_iff_iff, HRr7.out, HRr6.out]; exact ⟨fun h => h.symm, fun h => h.symm⟩
    subst hrt
    clear HRr7
    clear HC
    have V_257 := Lib.hid (V_247.out.below hb (Blk.lt V_247.out))
    have V_258 := Lib.hid (V_248.out.below hb (Blk.lt V_248.out))
    have V_259 := Lib.hid (V_249.out.below hb (Blk.lt V_249.out))
    have V_260 := Lib.hid (V_250.out.below hb (Blk.lt V_250.out))
    have L_261 := Lib.hid (L_251.out.below hb)
    have L_262 := Lib.hid (L_252.out.below hb)
    have L_263 := Lib.hid (L_253.out.below hb)
    have L_264 := Lib.hid (L_254.out.below hb)
    have B_265 := Lib.hid (B_255.out.trans (hb.mono B_255.out.size))
    clear V_247 V_248 V_249 V_250 L_251 L_252 L_253 L_254 B_255 hb
    try go_simp
    refine hK.out _ _ ⟨V_257.out, V_258.out, V_259.out, V_260.out⟩ (fun hHeld => ?_)
    clear hK K
    try simp only [Act.put, List.getElem_toArray, List.getElem_cons_succ, List.getElem_cons_zero, List.setIfInBounds_toArray, List.set_cons_zero, List.set_cons_succ]
    refine wpAnyH_take (i := 25) (v := ?_) rfl (by kernel_rfl) (by kernel_rfl) (by kernel_rfl) (fun _ _ _ h => h) (Or.inl ⟨by rfl, ?_⟩) (by assumption) ?_
    rotate_left
    · (intro w hSw; clear hSw; go_simp; try (with_reducible rfl))
    try simp only [Act.put, List.getElem_toArray, List.getElem_cons_succ, List.getElem_cons_zero, List.setIfInBounds_toArray, List.set_cons_zero, List.set_cons_succ]
    refine wpAnyH_take (i := 26) (v := ?_) rfl (by kernel_rfl) (by kernel_rfl) (by kernel_rfl) (fun _ _ _ h => h) (Or.inl ⟨by rfl, ?_⟩) (by assumption) ?_
    rotate_left
    · (intro w hSw; clear hSw; go_simp; try (with_reducible rfl))
    try simp only [Act.put, List.getElem_toArray, List.getElem_cons_succ, List.getElem_cons_zero, List.setIfInBounds_toArray, List.set_cons_zero, List.set_cons_succ]
    refine wpAnyH_take (i := 27) (v := ?_) rfl (by kernel_rfl) (by kernel_rfl) (by kernel_rfl) (fun _ _ _ h => h) (Or.inl ⟨by rfl, ?_⟩) (by assumption) ?_
    rotate_left
    · (intro w hSw; clear hSw; go_simp; try (with_reducible rfl))
    try simp only [Act.put, List.getElem_toArray, List.getElem_cons_succ, List.getElem_cons_zero, List.setIfInBounds_toArray, List.set_cons_zero, List.set_cons_succ]
    refine wpAnyH_ready (rs := [28]) (by kernel_rfl) (by simp) ?_
    refine AllReadyH.cons rfl (fun K hK => ?_) AllReadyH.nil
    go_simp
    have HC := Lib.hid (lives_any (HK.out.below B_265.out))
    refine (HC.out).mono ?_
    rintro e x266 ⟨rfl, hb⟩
    clear HC
    have V_267 := Lib.hid (V_257.out.below hb (Blk.lt V_257.out))
    have V_268 := Lib.hid (V_258.out.below hb (Blk.lt V_258.out))
    have V_269 := Lib.hid (V_259.out.below hb (Blk.lt V_259.out))
    have V_270 := Lib.hid (V_260.out.below hb (Blk.lt V_260.out))
    have L_271 := Lib.hid (L_261.out.below hb)
    have L_272 := Lib.hid (L_262.out.below hb)
    have L_273 := Lib.hid (L_263.out.below hb)
    have L_274 := Lib.hid (L_264.out.below hb)
    have B_275 := Lib.hid (B_265.out.trans (hb.mono B_265.out.size))
    clear V_257 V_258 V_259 V_260 L_261 L_262 L_263 L_264 B_265 hb
    try go_simp
    refine hK.out _ _ ⟨V_267.out, V_268.out, V_269.out, V_270.out⟩ (fun hHeld => ?_)
    clear hK K
    try simp only [Act.put, List.getElem_toArray, List.getElem_cons_succ, List.getElem_cons_zero, List.setIfInBounds_toArray, List.set_cons_zero, List.set_cons_succ]
    refine wpAnyH_take (i := 29) (v := ?_) rfl (by kernel_rfl) (by kernel_rfl) (by kernel_rfl) (fun _ _ _ h => h) (Or.inl ⟨by rfl, ?_⟩) (by assumption) ?_
    rotate_left
    · (intro w hSw; clear hSw; go_simp; try (with_reducible rfl))
    try simp only [Act.put, List.getElem_toArray, List.getElem_cons_succ, List.getElem_cons_zero, List.setIfInBounds_toArray, List.set_cons_zero, List.set_cons_succ]
    refine wpAnyH_take (i := 30) (v := ?_) rfl (by kernel_rfl) (by kernel_rfl) (by kernel_rfl) (fun _ _ _ h => h) (Or.inl ⟨by rfl, ?_⟩) (by assumption) ?_
    rotate_left
    · (intro w hSw; clear hSw; go_simp; try (with_reducible rfl))
    try simp only [Act.put, List.getElem_toArray, List.getElem_cons_succ, List.getElem_cons_zero, List.setIfInBounds_toArray, List.set_cons_zero, List.set_cons_succ]
    refine wpAnyH_done (by kernel_rfl) ?_ _
    go_wp2
    go_ret
    exact ⟨rfl, B_275.out⟩
end Ot
end Go.Proofs.YtkicjjcangkneaaGreatDoor
