/-
  Drawn regions: more loads taken first, two operations that may come up; an append of a list as one step. No condition.
-/
import Derived.Test.YtkicjjcangkneaaGreatDoorOrd
import Derived.Test.YtkicjjcangkneaaGreatDoorOtt
namespace Go.Proofs.YtkicjjcangkneaaGreatDoor
open Go.RowKit
namespace Ord
section
variable {P : Program} {ops : Array Oper} {Q : Exit → Act → World → Prop} {md : Region.Mode} {S : World → Prop}
/-- One more load may be taken first. -/
theorem AnyR.first_load {L : List Nat} {i : Nat} {oi : Oper} {v : Value} (hi : ops[i]? = some oi) (hsel : ∀ (j : Nat) (o : Oper) cs b, ops[j]? = some o → o.op ≠ .select cs b)
    (hQ : ∀ c a w, Q (.panic c) (a.put oi.dst v) w → Q (.panic c) a w)
    (hL : ∀ j ∈ L, ∀ oj, ops[j]? = some oj → ∃ e ∈ oj.after, Region.binds md e = true ∧ (e.on = i ∨ e.on ∈ L)) :
    ∀ (fuel : Nat) (listed : Array Bool) (a : Act) (w : World),
      (∀ j oj, ops[j]? = some oj → j ≠ i → listed.getD j true = false → (∀ e ∈ oj.after, Region.binds md e = true → e.on ≠ i) → oi.apart ops oj = true) →
      i ∈ Region.ready md ops listed → (∀ j ∈ L, listed.getD j false = false) → YieldsIf P ops S oi v a → S w →
      AnyR P md ops Q (fun j w w' => L.contains j = false → S w → S w') fuel (listed.setIfInBounds i true) (a.put oi.dst v) w → AnyR P md ops Q (fun j w w' => L.contains j = false → S w → S w') (fuel + 1) listed a w := by
  intro fuel
  induction fuel with
  | zero =>
    intro listed a w _ hr _ hy hS H
    refine ⟨fun h => (by rw [h] at hr; cases hr), fun j hj => ?_⟩
    by_cases hji : j = i
    · subst hji; exact hy.wpOp hi hS ⟨fun _ h => h, H⟩
    · have := ready_mono hj hji
      rw [H.1] at this
      cases this
  | succ fuel ih =>
    intro listed a w hfree hr hno hy hS H
    refine ⟨fun h => (by rw [h] at hr; cases hr), fun j hj => ?_⟩
    by_cases hji : j = i
    · subst hji; exact hy.wpOp hi hS ⟨fun _ h => h, H⟩
    · have h1 := H.2 j (ready_mono hj hji)
      obtain ⟨hjun, oj, hoj, hall⟩ := mem_ready.1 hj
      have hi0 := (mem_ready.1 hr).1
      have hnot := not_on hoj hall hi0
      have hjL : j ∉ L := fun hm => by
        obtain ⟨e, he, hb, h3⟩ := hL j hm oj hoj
        rcases h3 with h3 | h3
        · exact hnot e he hb h3
        · have h4 := hall e he hb
          rw [hno _ h3] at h4
          cases h4
      have h2 := wpOp_putIf hoj (hfree j oj hoj hji hjun hnot) (fun cs b => hsel i oi cs b hi) (fun cs b => hsel j oj cs b hoj) hQ hy h1
      have hfree' : ∀ k ok, ops[k]? = some ok → k ≠ i → (listed.setIfInBounds j true).getD k true = false →
          (∀ e ∈ ok.after, Region.binds md e = true → e.on ≠ i) → oi.apart ops ok = true := fun k ok hk hki hun hno => by
        refine hfree k ok hk hki ?_ hno
        by_cases hjk : j = k
        · subst hjk; exact hjun
        · rw [getD_set_ne true hjk] at hun; exact hun
      refine wpOp_mono (fun a' w' h3 => ⟨h3.2.1, ih (listed.setIfInBounds j true) a' w' hfree' (ready_mono hr (Ne.symm hji)) (fun k hk => ?_) h3.1 (h3.2.1 (by simpa using hjL) hS) ?_⟩) h2
      · rw [getD_set_ne false (fun e => hjL (by rw [e]; exact hk))]
        exact hno k hk
      · rw [Array.setIfInBounds_comm _ _ hji]
        exact h3.2.2
theorem AnyR.load {L : List Nat} {i : Nat} {oi : Oper} {v : Value} {fuel : Nat} {listed : Array Bool} {a : Act} {w : World} (hi : ops[i]? = some oi)
    (hs : Region.noSelect ops = true) (hf : Region.free md ops listed i = true) (hr : (Region.ready md ops listed).contains i = true) (hw : waits md ops L i = true) (hno : (L.all fun j => !listed.getD j false) = true)
    (hQ : ∀ c a w, Q (.panic c) (a.put oi.dst v) w → Q (.panic c) a w) (hy : YieldsIf P ops S oi v a) (hS : S w)
    (h : AnyR P md ops Q (fun j w w' => L.contains j = false → S w → S w') fuel (listed.setIfInBounds i true) (a.put oi.dst v) w) : AnyR P md ops Q (fun j w w' => L.contains j = false → S w → S w') (fuel + 1) listed a w :=
  AnyR.first_load hi (Region.noSelect_spec hs) hQ (waits_spec hw) fuel listed a w (Region.free_spec hi hf) (by simpa using hr) (fun j hj => by have := List.all_eq_true.1 hno j hj; simpa using this) hy hS h
variable {R : Nat → World → World → Prop}
theorem AnyR.ready2 {i j : Nat} {o o' : Oper} {fuel : Nat} {listed : Array Bool} {a : Act} {w : World} (hr : Region.ready md ops listed = [i, j]) (ho : ops[i]? = some o) (ho' : ops[j]? = some o')
    (h : ∀ K' : Act → World → Prop, Shut (∀ a' w', R i w w' → AnyR P md ops Q R fuel (listed.setIfInBounds i true) a' w' → K' a' w') → if Region.wanted o (yielded ops a.tmps) = true then Oper.wp P o a w K' Q else K' (a.put o.dst undef) w)
    (h' : ∀ K' : Act → World → Prop, Shut (∀ a' w', R j w w' → AnyR P md ops Q R fuel (listed.setIfInBounds j true) a' w' → K' a' w') → if Region.wanted o' (yielded ops a.tmps) = true then Oper.wp P o' a w K' Q else K' (a.put o'.dst undef) w) : AnyR P md ops Q R (fuel + 1) listed a w := by
  refine ⟨fun h0 => (by rw [hr] at h0; cases h0), fun k hk => ?_⟩
  rw [hr] at hk
  rcases List.mem_cons.1 hk with rfl | hk
  · exact wpOp_step ho fun K' hK => h K' fun a' w' h1 h2 => hK a' w' ⟨h1, h2⟩
  · rw [List.mem_singleton.1 hk]
    exact wpOp_step ho' fun K' hK => h' K' fun a' w' h1 h2 => hK a' w' ⟨h1, h2⟩
end
end Ord
namespace Ot
/-- An append of a list that can be read, as one step of a region. -/
theorem step_push_ls {α : Type} {K : Kd α} {P : Program} {T : Nat} (hK : Nonempty (KI P K T)) {ops : Array Oper} {o : Oper} {a : Act} {G : Act → World → Prop} {Q : Exit → Act → World → Prop} {E : Prop} {w : World} (hgd : o.guard = none) (s xo : Operand)
    (ho : o.op = .call { callee := .builtin .append, args := #[s, xo], argTypes := #[T, T] }) (B : Nat) (x y : Ls α) (hg : Gr K B w x) (hs : a.eval s = x.v) {F : Nat → Prop} (hy : Lz K F w y) (hx : a.eval xo = y.v)
    (hb : x.l.length + y.l.length ≤ 1000000000) (hB : B ≤ w.heap.size)
    (h : ∀ z w1, z.l = x.l ++ y.l → Gr K B w1 z → w.grownBy w1 x.v.ownBlock → G (a.put o.dst z.v) w1) : if Region.wanted o (yielded ops a.tmps) = true then Oper.wp P o a w G Q else E := by
  obtain ⟨KI⟩ := hK
  rw [if_pos (by simp [Region.wanted, hgd])]
  obtain ⟨l, A, c⟩ := y
  rcases A with _ | ad
  · obtain ⟨h0, h1⟩ := hy.none_ rfl
    have hl : l = [] := List.eq_nil_of_length_eq_zero h0
    subst hl
    have h1 : c = 0 := h1
    subst h1
    have hrun := run_append_owned_none (P := P) (w := w) B T o.type K.ty KI.i K.k KI.under KI.info x.v x.l.length (K.cells x.l) hg
    have hx' : a.eval xo = .slice none 0 0 := hx
    unfold Oper.wp
    simp [execOp, ho, resolve, invoke, builtin, hs, hx', hrun, Result.andThen]
    exact h x w (by rw [List.append_nil]) hg (World.grownBy.refl w _)
  · have hsrc : ∀ j u, (K.cells l)[j]? = some u → w.cell? (ad.add j) = some u := fun j u hu => by
      have hp : 0 < l.length := by
        have := (List.getElem?_eq_some_iff.1 hu).1
        rw [K.cells_len] at this
        rcases Nat.eq_zero_or_pos l.length with h0 | h0
        · rw [h0, Nat.zero_mul] at this; omega
        · exact h0
      obtain ⟨b, off, e, _, _, hc⟩ := hy.rd hp
      injection e with e
      subst e
      rw [Addr.add_lit]
      exact hc j u hu
    refine wp_append_own w s xo T ho B K.ty KI.i KI.z K.k KI.bytes KI.under KI.info KI.zero KI.size KI.byt KI.zs KI.pos x.v x.l.length (K.cells x.l) hs hg ad l.length c (K.cells l) hx (K.cells_len l) hsrc (K.cells_mem l) (by unfold maxLen; have hb : x.l.length + l.length ≤ 1000000000 := hb; omega) ?_ hB ?_
    · have := KI.few
      have hb : x.l.length + l.length ≤ 1000000000 := hb
      have : (x.l.length + l.length) * KI.bytes ≤ 1000000000 * 100 := Nat.mul_le_mul hb KI.few
      omega
    · intro v' w1 hown hgrow _
      rw [← K.cells_app, ← List.length_append] at hown
      have hv : ∃ A c, v' = .slice A (x.l ++ l).length c := by
        rcases hown.2 with ⟨e, h0⟩ | ⟨g, cap, cur, e, _⟩
        · exact ⟨none, 0, by rw [e, h0]⟩
        · exact ⟨_, cap, e⟩
      obtain ⟨A, c', rfl⟩ := hv
      exact h ⟨x.l ++ l, A, c'⟩ w1 rfl hown hgrow
end Ot
end Go.Proofs.YtkicjjcangkneaaGreatDoor
