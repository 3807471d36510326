/-
  Sketches, without any walk: rows that are solved one by one (which of them tells which unknown, what that keeps), what stands in memory of it, and how unknowns are told from the last on.
-/
import Derived.Test.YtcbcmnbfflaicaaSkc
namespace Go.Proofs.Ytcbcmnbfflaicaa
open Go.RowKit
open Fld (F)

namespace Sk
/-- A row in the place of another one. -/
def upd {α : Type} (f : Nat → α) (j : Nat) (x : α) : Nat → α := fun k => if k = j then x else f k
theorem upd_same {α : Type} (f : Nat → α) (j : Nat) (x : α) : upd f j x j = x := if_pos rfl
theorem upd_ne {α : Type} (f : Nat → α) {j k : Nat} (x : α) (h : k ≠ j) : upd f j x k = f k := if_neg h

theorem dot_sub {u : Nat} {r r' k v : Nat → F} (t : F) (h : ∀ i, i ≤ u → r' i = r i - t * k i) : dot u r' v = dot u r v - t * dot u k v := by
  unfold dot
  rw [sm_congr (g := fun i => r i * v i + (0 - t) * (k i * v i)) (fun i hi => by rw [h i (by omega)]; grind), sm_add, sm_mul]
  grind
theorem dot_mul {u : Nat} {r r' v : Nat → F} (t : F) (h : ∀ i, i ≤ u → r' i = r i * t) : dot u r' v = t * dot u r v := by
  unfold dot
  rw [sm_congr (g := fun i => t * (r i * v i)) (fun i hi => by rw [h i (by omega)]; grind), sm_mul]
theorem dot_top {u : Nat} {r v : Nat → F} (h : ∀ i, i < u → r i = 0) (hv : v u = 1) : dot u r v = r u := by
  unfold dot
  rw [sm_one (j := u) (by omega) (fun i hi hn => by rw [h i (by omega)]; grind), hv]; grind
theorem co_set' {l : List Nat} {h x i : Nat} (hh : h < l.length) : Pl.co (l.set h x) i = Pl.co l i + (if i = h then Fld.to x - Pl.co l h else 0) := by
  rw [Pl.co_set hh]
  by_cases e : i = h
  · rw [if_pos e, if_pos e, e]; grind
  · rw [if_neg e, if_neg e]; grind
theorem dot_set {u h x : Nat} {l : List Nat} {r : Nat → F} (hl : l.length = u + 1) (hh : h ≤ u) : dot u r (Pl.co (l.set h x)) = dot u r (Pl.co l) + r h * (Fld.to x - Pl.co l h) := by
  unfold dot
  rw [sm_congr (g := fun i => r i * Pl.co l i + r i * (if i = h then Fld.to x - Pl.co l h else 0)) (fun i hi => by rw [co_set' (by omega)]; grind), sm_add]
  rw [sm_one (f := fun i => r i * (if i = h then Fld.to x - Pl.co l h else 0)) (j := h) (by omega) (fun i hi hn => by rw [if_neg hn]; grind), if_pos rfl]

/-- All rows that tell an unknown are 0. -/
def TS (u : Nat) (M : Nat → List Nat) (ρ : Nat → Option Nat) (v : Nat → F) : Prop := ∀ i k, i < u → ρ i = some k → dot u (Pl.co (M k)) v = 0
/-- The first j rows are gone through. -/
structure Ech (u n : Nat) (M0 M : Nat → List Nat) (ρ : Nat → Option Nat) (j : Nat) : Prop where
  len : ∀ k, k < n → (M k).length = u + 1 ∧ Pl.Sm (M k)
  rest : ∀ k, j ≤ k → M k = M0 k
  tel : ∀ i k, i < u → ρ i = some k → k < j ∧ Pl.co (M k) i = 1 ∧ ∀ m, m < i → Pl.co (M k) m = 0
  sol : ∀ v : Nat → F, v u = 1 → (TS u M ρ v ↔ ∀ k, k < j → dot u (Pl.co (M0 k)) v = 0)
theorem Ech.start {u n : Nat} {M : Nat → List Nat} (h : ∀ k, k < n → (M k).length = u + 1 ∧ Pl.Sm (M k)) : Ech u n M M (fun _ => none) 0 :=
  ⟨h, fun _ _ => rfl, fun i k _ e => absurd e (by simp), fun v _ => ⟨fun _ k hk => absurd hk (Nat.not_lt_zero k), fun _ i k _ e => absurd e (by simp)⟩⟩
/-- The row at hand, behind the first i unknowns. -/
structure Inn (u : Nat) (M0 M : Nat → List Nat) (ρ : Nat → Option Nat) (j i : Nat) (r : List Nat) : Prop where
  len : r.length = u + 1
  sm : Pl.Sm r
  zer : ∀ m, m < i → Pl.co r m = 0
  eqv : ∀ v : Nat → F, v u = 1 → TS u M ρ v → (dot u (Pl.co r) v = 0 ↔ dot u (Pl.co (M0 j)) v = 0)
theorem Ech.inn {u n j : Nat} {M0 M : Nat → List Nat} {ρ : Nat → Option Nat} (h : Ech u n M0 M ρ j) (hj : j < n) : Inn u M0 M ρ j 0 (M j) :=
  ⟨(h.len j hj).1, (h.len j hj).2, fun m hm => by omega, fun v _ _ => by rw [h.rest j (Nat.le_refl _)]⟩
theorem Inn.zero {u j i : Nat} {M0 M : Nat → List Nat} {ρ : Nat → Option Nat} {r : List Nat} (h : Inn u M0 M ρ j i r) (h0 : r[i]?.getD 0 = 0) : Inn u M0 M ρ j (i + 1) r :=
  ⟨h.len, h.sm, fun m hm => by
    by_cases e : m = i
    · rw [e, Pl.co_at, h0]; rfl
    · exact h.zer m (by omega), h.eqv⟩
theorem Inn.sub {u n j i k : Nat} {M0 M : Nat → List Nat} {ρ : Nat → Option Nat} {r : List Nat} (he : Ech u n M0 M ρ j) (h : Inn u M0 M ρ j i r) (hi : i < u) (hk : ρ i = some k) :
    Inn u M0 M ρ j (i + 1) (chg (fun a x => Fld.sub x (Fld.mul (r[i]?.getD 0) ((M k)[a]?.getD 0))) r r.length) := by
  obtain ⟨h1, h2, h3⟩ := he.tel i k hi hk
  have hc : ∀ a, a ≤ u → Pl.co (chg (fun a x => Fld.sub x (Fld.mul (r[i]?.getD 0) ((M k)[a]?.getD 0))) r r.length) a = Pl.co r a - Pl.co r i * Pl.co (M k) a := fun a ha => by
    rw [chg_co (by rw [h.len]; omega), Fld.to_subF, Fld.to_mulF]; rfl
  refine ⟨by rw [chg_len]; exact h.len, chg_big fun _ _ => Fld.sub_lt _ _, fun m hm => ?_, fun v hv hts => ?_⟩
  · rw [hc m (by omega)]
    by_cases e : m = i
    · rw [e, h2]; grind
    · rw [h.zer m (by omega), h3 m (by omega), Fin.mul_zero, Fld.sub_zero]
  · rw [dot_sub (Pl.co r i) hc, hts i k hi hk, ← h.eqv v hv hts]
    constructor <;> intro e <;> grind
theorem Ech.put {u n j i : Nat} {M0 M : Nat → List Nat} {ρ : Nat → Option Nat} {r : List Nat} (he : Ech u n M0 M ρ j) (h : Inn u M0 M ρ j i r) (hi : i < u) (hk0 : ρ i = none) (ht : r[i]?.getD 0 ≠ 0) :
    Ech u n M0 (upd M j (chg (fun _ x => Fld.mul x (Fld.pow (r[i]?.getD 0) 2305843009213693949)) r r.length)) (upd ρ i (some j)) (j + 1) := by
  have hc : ∀ a, a ≤ u → Pl.co (chg (fun _ x => Fld.mul x (Fld.pow (r[i]?.getD 0) 2305843009213693949)) r r.length) a = Pl.co r a * Fld.iv (Pl.co r i) := fun a ha => by
    rw [chg_co (by rw [h.len]; omega), Fld.to_mulF, Fld.to_powI]; rfl
  have hlt := h.sm.get i
  have hne : Pl.co r i ≠ 0 := fun e => ht ((Pl.to_eq_zero hlt).1 e)
  have hiv := Fld.iv_ne hne
  have hmi := Fld.mul_iv hne
  obtain ⟨r', hr'⟩ : ∃ r', r' = chg (fun _ x => Fld.mul x (Fld.pow (r[i]?.getD 0) 2305843009213693949)) r r.length := ⟨_, rfl⟩
  have hl' : r'.length = u + 1 := by rw [hr', chg_len]; exact h.len
  have hs' : Pl.Sm r' := by rw [hr']; exact chg_big fun _ _ => Fld.mul_lt _ _
  rw [← hr'] at hc ⊢
  have hM : ∀ k, k < j → upd M j r' k = M k := fun k hk => upd_ne M r' (by omega)
  refine ⟨fun k hk => ?_, fun k hk => ?_, fun a k ha hk => ?_, fun v hv => ?_⟩
  · by_cases e : k = j
    · rw [e, upd_same]; exact ⟨hl', hs'⟩
    · rw [upd_ne M r' e]; exact he.len k hk
  · rw [upd_ne M r' (by omega)]; exact he.rest k (by omega)
  · by_cases e : a = i
    · rw [e, upd_same] at hk
      injection hk with hk
      subst hk
      rw [upd_same, e]
      refine ⟨by omega, by rw [hc i (by omega)]; exact hmi, fun m hm => by rw [hc m (by omega), h.zer m hm]; grind⟩
    · rw [upd_ne ρ _ e] at hk
      obtain ⟨h1, h2, h3⟩ := he.tel a k ha hk
      rw [hM k h1]
      exact ⟨by omega, h2, h3⟩
  · have hd : dot u (Pl.co r') v = Fld.iv (Pl.co r i) * dot u (Pl.co r) v := dot_mul _ hc
    have hts : TS u (upd M j r') (upd ρ i (some j)) v ↔ TS u M ρ v ∧ dot u (Pl.co r') v = 0 := by
      constructor
      · intro hh
        refine ⟨fun a k ha hk => ?_, ?_⟩
        · have h1 := hh a k ha (by rw [upd_ne ρ _ (fun e => by rw [e, hk0] at hk; cases hk)]; exact hk)
          rw [hM k (he.tel a k ha hk).1] at h1
          exact h1
        · have h1 := hh i j hi (upd_same _ _ _)
          rw [upd_same] at h1
          exact h1
      · rintro ⟨h1, h2⟩ a k ha hk
        by_cases e : a = i
        · rw [e, upd_same] at hk
          injection hk with hk
          subst hk
          rw [upd_same]; exact h2
        · rw [upd_ne ρ _ e] at hk
          rw [hM k (he.tel a k ha hk).1]
          exact h1 a k ha hk
    rw [hts, hd, Fld.mul_eq_zero]
    constructor
    · rintro ⟨h1, h2⟩ k hk
      have h3 : dot u (Pl.co r) v = 0 := h2.resolve_left hiv
      by_cases e : k = j
      · rw [e]; exact (h.eqv v hv h1).1 h3
      · exact (he.sol v hv).1 h1 k (by omega)
    · intro hh
      have h1 := (he.sol v hv).2 fun k hk => hh k (by omega)
      exact ⟨h1, .inr ((h.eqv v hv h1).2 (hh j (by omega)))⟩
theorem Ech.skip {u n j : Nat} {M0 M : Nat → List Nat} {ρ : Nat → Option Nat} {r : List Nat} (he : Ech u n M0 M ρ j) (h : Inn u M0 M ρ j u r) (h0 : r[u]?.getD 0 = 0) : Ech u n M0 (upd M j r) ρ (j + 1) := by
  have hM : ∀ k, k < j → upd M j r k = M k := fun k hk => upd_ne M r (by omega)
  have hts : ∀ v, TS u (upd M j r) ρ v ↔ TS u M ρ v := fun v => by
    constructor
    · intro hh a k ha hk
      have h1 := hh a k ha hk
      rw [hM k (he.tel a k ha hk).1] at h1
      exact h1
    · intro hh a k ha hk
      rw [hM k (he.tel a k ha hk).1]
      exact hh a k ha hk
  refine ⟨fun k hk => ?_, fun k hk => ?_, fun a k ha hk => ?_, fun v hv => ?_⟩
  · by_cases e : k = j
    · rw [e, upd_same]; exact ⟨h.len, h.sm⟩
    · rw [upd_ne M r e]; exact he.len k hk
  · rw [upd_ne M r (by omega)]; exact he.rest k (by omega)
  · obtain ⟨h1, h2, h3⟩ := he.tel a k ha hk
    rw [hM k h1]
    exact ⟨by omega, h2, h3⟩
  · rw [hts, he.sol v hv]
    constructor
    · intro hh k hk
      by_cases e : k = j
      · rw [e, ← h.eqv v hv ((he.sol v hv).2 hh), dot_top h.zer hv, Pl.co_at, h0]; rfl
      · exact hh k (by omega)
    · intro hh k hk; exact hh k (by omega)
theorem Ech.fail {u n j : Nat} {M0 M : Nat → List Nat} {ρ : Nat → Option Nat} {r : List Nat} (he : Ech u n M0 M ρ j) (h : Inn u M0 M ρ j u r) (h0 : r[u]?.getD 0 ≠ 0) (hj : j < n) : ∀ v : Nat → F, v u = 1 → ¬ ∀ k, k < n → dot u (Pl.co (M0 k)) v = 0 := fun v hv hh => by
  have h1 := (he.sol v hv).2 fun k hk => hh k (by omega)
  have h2 := (h.eqv v hv h1).2 (hh j hj)
  rw [dot_top h.zer hv] at h2
  exact h0 ((Pl.to_eq_zero (h.sm.get u)).1 h2)

/-- Unknowns from i on are told. -/
structure Bck (u : Nat) (M : Nat → List Nat) (ρ : Nat → Option Nat) (l : List Nat) (i : Nat) : Prop where
  len : l.length = u + 1
  sm : Pl.Sm l
  one : Pl.co l u = 1
  zer : ∀ m, m < i → Pl.co l m = 0
  eqs : ∀ m k, i ≤ m → m < u → ρ m = some k → dot u (Pl.co (M k)) (Pl.co l) = 0
theorem Bck.start {u : Nat} (M : Nat → List Nat) (ρ : Nat → Option Nat) : Bck u M ρ ((List.replicate (u + 1) 0).set u 1) u := by
  refine ⟨by rw [List.length_set, List.length_replicate], Pl.Sm.set_ (Pl.sm_zeros _) u (by omega), ?_, fun m hm => ?_, fun m k h1 h2 => by omega⟩
  · rw [Pl.co_set (by rw [List.length_replicate]; omega), if_pos rfl]; rfl
  · rw [Pl.co_set (by rw [List.length_replicate]; omega), if_neg (by omega), Pl.co_zeros]; rfl
theorem Bck.none_ {u h : Nat} {M : Nat → List Nat} {ρ : Nat → Option Nat} {l : List Nat} (hb : Bck u M ρ l (h + 1)) (hh : h < u) (hk : ρ h = none) : Bck u M ρ (l.set h (Fld.sub 0 0)) h := by
  have e : l.set h (Fld.sub 0 0) = l := by
    have h0 := hb.zer h (by omega)
    have h1 : l[h]?.getD 0 = 0 := (Pl.to_eq_zero (hb.sm.get h)).1 h0
    have h2 : Fld.sub 0 0 = 0 := by decide +kernel
    have hl := hb.len
    apply List.ext_getElem?
    intro i
    by_cases e : i = h
    · subst e
      rw [List.getElem?_set_self (by omega), List.getElem?_eq_getElem (by omega)]
      rw [List.getElem?_eq_getElem (by omega)] at h1
      rw [h2]
      exact congrArg some h1.symm
    · rw [List.getElem?_set_ne (by omega)]
  rw [e]
  exact ⟨hb.len, hb.sm, hb.one, fun m hm => hb.zer m (by omega), fun m k h1 h2 h3 => by
    by_cases e : m = h
    · rw [e, hk] at h3; cases h3
    · exact hb.eqs m k (by omega) h2 h3⟩
theorem Bck.some_ {u n j h k : Nat} {M0 M : Nat → List Nat} {ρ : Nat → Option Nat} {l : List Nat} (he : Ech u n M0 M ρ j) (hb : Bck u M ρ l (h + 1)) (hh : h < u) (hk : ρ h = some k) :
    Bck u M ρ (l.set h (Fld.sub 0 (tog (M k) l (u + 1)))) h := by
  have hl := hb.len
  have h0 := hb.zer h (by omega)
  obtain ⟨_, h2, _⟩ := he.tel h k hh hk
  refine ⟨by rw [List.length_set]; exact hl, Pl.Sm.set_ hb.sm h (Fld.sub_lt _ _), ?_, fun m hm => ?_, fun m k' h1 hm h3 => ?_⟩
  · rw [Pl.co_set (by omega), if_neg (by omega)]; exact hb.one
  · rw [Pl.co_set (by omega), if_neg (by omega)]; exact hb.zer m (by omega)
  · refine (dot_set (r := Pl.co (M k')) hl (by omega)).trans ?_
    rw [h0, to_neg]
    have ht : Fld.to (tog (M k) l (u + 1)) = dot u (Pl.co (M k)) (Pl.co l) := to_tog _ _ _
    rw [ht]
    by_cases e : m = h
    · rw [e, hk] at h3
      injection h3 with h3
      subst h3
      rw [h2]; grind
    · obtain ⟨_, _, h5⟩ := he.tel m k' hm h3
      rw [h5 h (by omega), hb.eqs m k' (by omega) hm h3, Fin.zero_mul, Fin.add_zero]
theorem Bck.done {u n : Nat} {M0 M : Nat → List Nat} {ρ : Nat → Option Nat} {l : List Nat} (he : Ech u n M0 M ρ n) (hb : Bck u M ρ l 0) : ∀ k, k < n → dot u (Pl.co (M0 k)) (Pl.co l) = 0 :=
  (he.sol (Pl.co l) hb.one).1 fun m k hm hk => hb.eqs m k (by omega) hm hk
end Sk
open Sk (upd Ech Inn Bck)

/-! ### what stands in memory -/
/-- What stands in the place of an unknown: the row that tells it, or nothing. -/
def tv (gs cs : Nat → Nat) (u : Nat) : Option Nat → Value
  | none => .slice none 0 0
  | some k => .slice (some ⟨gs k, 0, none⟩) (u + 1) (cs k)
/-- Rows of memory of their own, each with a block. -/
structure Gf (lo R T n u : Nat) (gs cs : Nat → Nat) : Prop where
  lo : lo ≤ R ∧ lo ≤ T ∧ R ≠ T ∧ ∀ k, k < n → lo ≤ gs k
  ne : ∀ k, k < n → gs k ≠ R ∧ gs k ≠ T
  inj : ∀ k k', k < n → k' < n → gs k = gs k' → k = k'
  cap : ∀ k, k < n → u + 1 ≤ cs k
structure Gs (R T n u : Nat) (gs cs : Nat → Nat) (Ds : Nat → List Value) (ρ : Nat → Option Nat) (M : Nat → List Nat) (w : World) : Prop where
  rows : ∀ k, k < n → w.cell? ⟨R, k, none⟩ = some (.slice (some ⟨gs k, 0, none⟩) (u + 1) (cs k))
  row : ∀ k, k < n → Ax w (gs k) (M k) (Ds k)
  tel : Blk w T 25 ((List.range u).map fun i => tv gs cs u (ρ i)).toArray
theorem Gs.fx {R T n u : Nat} {gs cs : Nat → Nat} {Ds : Nat → List Value} {ρ : Nat → Option Nat} {M : Nat → List Nat} {w w' : World} (h : Gs R T n u gs cs Ds ρ M w) (hb : ∀ k, k < w.heap.size → w'.heap[k]? = w.heap[k]?) : Gs R T n u gs cs Ds ρ M w' :=
  ⟨fun k hk => (World.cell?_of_block (a := ⟨R, k, none⟩) (hb R (World.block_lt_of_cell? w _ (h.rows k hk)))).trans (h.rows k hk), fun k hk => (hb _ (Blk.lt (h.row k hk))).trans (h.row k hk), (hb _ h.tel.lt).trans h.tel⟩
theorem Gs.below {R T n u : Nat} {gs cs : Nat → Nat} {Ds : Nat → List Value} {ρ : Nat → Option Nat} {M : Nat → List Nat} {w w' : World} (h : Gs R T n u gs cs Ds ρ M w) (hb : Below w.heap.size w w') : Gs R T n u gs cs Ds ρ M w' := h.fx hb.block
theorem Gs.change {lo R T n u j : Nat} {gs cs : Nat → Nat} {Ds : Nat → List Value} {ρ : Nat → Option Nat} {M : Nat → List Nat} {w w' : World} (h : Gs R T n u gs cs Ds ρ M w) (hf : Gf lo R T n u gs cs) (hj : j < n) {r : List Nat}
    (hg : w.grownBy w' (some (gs j))) (hr : Ax w' (gs j) r (Ds j)) : Gs R T n u gs cs Ds ρ (upd M j r) w' := by
  have hb : ∀ k, k < w.heap.size → k ≠ gs j → w'.heap[k]? = w.heap[k]? := fun k hk hne => hg.block k hk fun e => hne (by injection e)
  refine ⟨fun k hk => (World.cell?_of_block (a := ⟨R, k, none⟩) (hb R (World.block_lt_of_cell? w _ (h.rows k hk)) (Ne.symm (hf.ne j hj).1))).trans (h.rows k hk), fun k hk => ?_, (hb _ h.tel.lt (Ne.symm (hf.ne j hj).2)).trans h.tel⟩
  by_cases e : k = j
  · rw [e, Sk.upd_same]; exact hr
  · rw [Sk.upd_ne M r e]
    exact (hb _ (Blk.lt (h.row k hk)) fun e2 => e (hf.inj k j hk hj e2)).trans (h.row k hk)
theorem Gs.store {lo R T n u j i : Nat} {gs cs : Nat → Nat} {Ds : Nat → List Value} {ρ : Nat → Option Nat} {M : Nat → List Nat} {w : World} (h : Gs R T n u gs cs Ds ρ M w) (hf : Gf lo R T n u gs cs) :
    Gs R T n u gs cs Ds (upd ρ i (some j)) M (w.setCell ⟨T, i, none⟩ (.slice (some ⟨gs j, 0, none⟩) (u + 1) (cs j))) := by
  have hb : ∀ k, k ≠ T → (w.setCell ⟨T, i, none⟩ (.slice (some ⟨gs j, 0, none⟩) (u + 1) (cs j))).heap[k]? = w.heap[k]? := fun k hk => Below.heap_setCell w ⟨T, i, none⟩ _ k (fun e => hk e)
  refine ⟨fun k hk => (World.cell?_of_block (a := ⟨R, k, none⟩) (hb R hf.lo.2.2.1)).trans (h.rows k hk), fun k hk => (hb _ (hf.ne k hk).2).trans (h.row k hk), ?_⟩
  have h1 := h.tel.set_ i (.slice (some ⟨gs j, 0, none⟩) (u + 1) (cs j))
  have e : ((List.range u).map fun a => tv gs cs u (ρ a)).toArray.setIfInBounds i (.slice (some ⟨gs j, 0, none⟩) (u + 1) (cs j)) = ((List.range u).map fun a => tv gs cs u (upd ρ i (some j) a)).toArray := by
    rw [List.setIfInBounds_toArray]
    congr 1
    apply List.ext_getElem?
    intro a
    by_cases e : a = i
    · subst e
      by_cases hu : a < u
      · rw [List.getElem?_set_self (by simpa using hu), List.getElem?_map, List.getElem?_range hu]
        simp [Sk.upd_same, tv]
      · rw [List.getElem?_eq_none (by simp; omega), List.getElem?_eq_none (by simp; omega)]
    · rw [List.getElem?_set_ne (by omega), List.getElem?_map, List.getElem?_map]
      by_cases hu : a < u
      · rw [List.getElem?_range hu]
        simp [Sk.upd_ne ρ _ e]
      · rw [List.getElem?_eq_none (by simp; omega)]; rfl
  rw [e] at h1
  exact h1
theorem Gs.tell {R T n u i : Nat} {gs cs : Nat → Nat} {Ds : Nat → List Value} {ρ : Nat → Option Nat} {M : Nat → List Nat} {w : World} (h : Gs R T n u gs cs Ds ρ M w) (hi : i < u) : w.cell? ⟨T, i, none⟩ = some (tv gs cs u (ρ i)) := by
  rw [h.tel.cell i]
  simp [hi]
theorem Gs.at_ {R T n u k i : Nat} {gs cs : Nat → Nat} {Ds : Nat → List Value} {ρ : Nat → Option Nat} {M : Nat → List Nat} {w : World} (h : Gs R T n u gs cs Ds ρ M w) (hk : k < n) (hi : i < (M k).length) :
    w.cell? ⟨gs k, i, none⟩ = some (.int .u64 (((M k)[i]?.getD 0 : Nat) : Int)) := (h.row k hk).cell hi
theorem Gs.rq {lo R T n u k j : Nat} {gs cs : Nat → Nat} {Ds : Nat → List Value} {ρ : Nat → Option Nat} {M : Nat → List Nat} {w : World} (h : Gs R T n u gs cs Ds ρ M w) (hf : Gf lo R T n u gs cs) (hk : k < n) (hj : j < n) (hne : k ≠ j) :
    Rq (gs j) w (some ⟨gs k, 0, none⟩) (u64s (M k)) := fun _ => by
  refine ⟨gs k, 0, rfl, fun e => hne (hf.inj k j hk hj e), Blk.lt (h.row k hk), fun i u hu => ?_⟩
  have hi : i < (M k).length := by
    have := (List.getElem?_eq_some_iff.1 hu).1
    rwa [u64s_len] at this
  rw [Nat.zero_add, h.at_ hk hi, ← u64s_at hi, hu]
theorem Gs.pt {R T n u k : Nat} {gs cs : Nat → Nat} {Ds : Nat → List Value} {ρ : Nat → Option Nat} {M : Nat → List Nat} {w : World} (h : Gs R T n u gs cs Ds ρ M w) (hk : k < n) (hl : (M k).length = u + 1) (hc : u + 1 ≤ cs k) :
    Pt w (some ⟨gs k, 0, none⟩) (u + 1) (cs k) (M k) := by
  refine ⟨hl.symm, fun _ => ⟨gs k, 0, rfl, Blk.lt (h.row k hk), fun i u hu => ?_⟩, hc, fun e => by cases e⟩
  have hi : i < (M k).length := by
    have := (List.getElem?_eq_some_iff.1 hu).1
    rwa [u64s_len] at this
  rw [Nat.zero_add, h.at_ hk hi, ← u64s_at hi, hu]
end Go.Proofs.Ytcbcmnbfflaicaa
