/-
  Sets and sketches, without any program: what only the one has and only the other one has fits their sketches; lists that fit are the only ones; the document's example.
-/
import Derived.Test.YtcbcmnbfflaicaaSkp
namespace Go.Proofs.Ytcbcmnbfflaicaa
open Go.RowKit
open Sk (pt Fit)

theorem prodR_app : ∀ a b : List Nat, Pl.prodR (a ++ b) = Pl.prodR a * Pl.prodR b
  | [], b => (Pl.one_mul _).symm
  | x :: a, b => by show Pl.lin (Fld.to x) * Pl.prodR (a ++ b) = Pl.lin (Fld.to x) * Pl.prodR a * Pl.prodR b; rw [prodR_app a b, Pl.mul_assoc]
theorem prodR_perm {a b : List Nat} (h : a.Perm b) : Pl.prodR a = Pl.prodR b := by
  induction h with
  | nil => rfl
  | cons x _ ih => show Pl.lin (Fld.to x) * _ = Pl.lin (Fld.to x) * _; rw [ih]
  | swap x y l => show Pl.lin (Fld.to y) * (Pl.lin (Fld.to x) * Pl.prodR l) = Pl.lin (Fld.to x) * (Pl.lin (Fld.to y) * Pl.prodR l); rw [Pl.mul_left_comm]
  | trans _ _ ih1 ih2 => exact ih1.trans ih2
theorem sv_app (a b : List Nat) (x : Nat) : sv (a ++ b) x = Fld.mul (sv a x) (sv b x) := by
  refine Fld.to_inj (sv_lt _ _) (Fld.mul_lt _ _) ?_
  rw [Fld.to_mulF, sv, sv, sv, to_vl, to_vl, to_vl, prodR_app, Pl.val_mul (Pl.Po.prodR a) (Pl.Po.prodR b)]
theorem sv_perm {a b : List Nat} (h : a.Perm b) (x : Nat) : sv a x = sv b x := by unfold sv; rw [prodR_perm h]
theorem El.lt {l : List Nat} (h : El l) : ∀ x ∈ l, x < 2305843009213693951 := fun x hx => by have := h x hx; omega
theorem El.big {l : List Nat} (h : El l) : ∀ x ∈ l, x < 18446744073709551616 := fun x hx => by have := h x hx; omega
theorem El.app {a b : List Nat} (h : El a) (k : El b) : El (a ++ b) := fun x hx => (List.mem_append.1 hx).elim (h x) (k x)
theorem sv_ne {l : List Nat} (h : El l) {k : Nat} (hk : k ≤ 1000000) : sv l (pt k) ≠ 0 := fun e => by
  have h1 := (vl_zero (Pl.prodR l) (pt k)).1 e
  have h2 := Sk.root_mem (by unfold pt; omega) h.lt h1
  have h3 := h _ h2
  unfold pt at h3
  omega
theorem co_vls (l : List Nat) {n k : Nat} (hk : k < n) : Pl.co (vls l n) k = Pl.val (Pl.prodR l) (Fld.to (pt k)) := by
  unfold vls
  rw [Pl.co_tab, if_pos hk, sv, to_vl]
theorem vls_ne {l : List Nat} (h : El l) {n : Nat} (hn : n ≤ 1000000) : ∀ k, k < n → Pl.co (vls l n) k ≠ 0 := fun k hk e => by
  rw [co_vls l hk] at e
  exact sv_ne h (k := k) (by omega) ((vl_zero _ _).2 e)
/-- What only the one has, and only the other one has, rising. -/
structure Df (a b x y : List Nat) : Prop where
  ux : x.Pairwise (· < ·)
  uy : y.Pairwise (· < ·)
  mx : ∀ v, v ∈ x ↔ v ∈ a ∧ v ∉ b
  my : ∀ v, v ∈ y ↔ v ∈ b ∧ v ∉ a
theorem Df.of {a b x y : List Nat} (h : Onl a b a.length x) (k : Onl b a b.length y) : Df a b x y :=
  ⟨h.up, k.up, fun v => by rw [h.mem, List.take_length], fun v => by rw [k.mem, List.take_length]⟩
theorem Df.flip {a b x y : List Nat} (h : Df a b x y) : Df b a y x := ⟨h.uy, h.ux, h.my, h.mx⟩
theorem rise_nodup {l : List Nat} (h : l.Pairwise (· < ·)) : l.Nodup := h.imp fun h => Nat.ne_of_lt h
theorem Df.perm {a b x y : List Nat} (h : Df a b x y) (ha : a.Nodup) (hb : b.Nodup) : (a ++ y).Perm (b ++ x) := by
  have d1 : (a ++ y).Nodup := by
    rw [List.nodup_append]
    refine ⟨ha, rise_nodup h.uy, fun u hu v hv e => ?_⟩
    subst e
    exact ((h.my u).1 hv).2 hu
  have d2 : (b ++ x).Nodup := by
    rw [List.nodup_append]
    refine ⟨hb, rise_nodup h.ux, fun u hu v hv e => ?_⟩
    subst e
    exact ((h.mx u).1 hv).2 hu
  refine (List.perm_ext_iff_of_nodup d1 d2).2 fun v => ?_
  rw [List.mem_append, List.mem_append, h.mx, h.my]
  by_cases c1 : v ∈ a <;> by_cases c2 : v ∈ b <;> simp [c1, c2]
theorem Df.fit {a b x y : List Nat} {n : Nat} (h : Df a b x y) (ha : a.Nodup) (hb : b.Nodup) (ea : El a) (eb : El b) (hn : x.length + y.length + 2 ≤ n) : Fit (vls a n) (vls b n) a.length b.length x y := by
  have hp := h.perm ha hb
  refine ⟨h.ux, h.uy, fun v hv => ea v ((h.mx v).1 hv).1, fun v hv => eb v ((h.my v).1 hv).1, fun v h1 h2 => ((h.mx v).1 h1).2 ((h.my v).1 h2).1, by rw [vls_len]; exact hn, ?_, fun k hk => ?_⟩
  · have := hp.length_eq
    rw [List.length_append, List.length_append] at this
    omega
  · rw [vls_len] at hk
    rw [co_vls a hk, co_vls b hk, ← Pl.val_mul (Pl.Po.prodR a) (Pl.Po.prodR y), ← Pl.val_mul (Pl.Po.prodR b) (Pl.Po.prodR x), ← prodR_app, ← prodR_app, prodR_perm hp]
/-- Lists that fit are the only ones. -/
theorem fit_uniq {a b : List Nat} {na nb : Nat} {p q p' q' : List Nat} (hl : a.length ≤ 1000000) (ha : ∀ k, k < a.length → Pl.co a k ≠ 0) (h : Fit a b na nb p q) (h' : Fit a b na nb p' q') : p = p' ∧ q = q' := by
  have key : ∀ {p q p' q' : List Nat}, Fit a b na nb p q → Fit a b na nb p' q' → (∀ x, x ∈ p → x ∈ p') ∧ ∀ x, x ∈ q' → x ∈ q := fun {p q p' q'} h h' => by
    have h1 := h.few
    have h2 := h.more
    have h3 := h'.few
    have h4 := h'.more
    have hX := Sk.sol_cross h hl ha (Pl.Dg.prodR p').1 (Pl.Dg.prodR q').1 (by omega) (by omega) (fun k hk => (h'.vals k hk).symm)
    refine ⟨fun x hx => ?_, fun x hx => ?_⟩
    · have e := congrArg (fun s => Pl.val s (Fld.to x)) hX
      simp only [Pl.val_mul (Pl.Po.prodR p') (Pl.Po.prodR q), Pl.val_mul (Pl.Po.prodR q') (Pl.Po.prodR p)] at e
      rw [Sk.root_p hx, Fin.mul_zero] at e
      rcases Fld.mul_eq_zero.1 e with e2 | e2
      · exact Sk.root_mem (h.lp x hx) h'.lp e2
      · exact absurd (Sk.root_mem (h.lp x hx) h.lq e2) (h.ap x hx)
    · have e := congrArg (fun s => Pl.val s (Fld.to x)) hX
      simp only [Pl.val_mul (Pl.Po.prodR p') (Pl.Po.prodR q), Pl.val_mul (Pl.Po.prodR q') (Pl.Po.prodR p)] at e
      rw [Sk.root_p hx, Fin.zero_mul] at e
      rcases Fld.mul_eq_zero.1 e with e2 | e2
      · exact absurd hx (h'.ap x (Sk.root_mem (h'.lq x hx) h'.lp e2))
      · exact Sk.root_mem (h'.lq x hx) h.lq e2
  obtain ⟨k1, k2⟩ := key h h'
  obtain ⟨k3, k4⟩ := key h' h
  exact ⟨rise_uniq p p' h.up h'.up fun x => ⟨k1 x, k3 x⟩, rise_uniq q q' h.uq h'.uq fun x => ⟨k4 x, k2 x⟩⟩
/-- No more elements than values. -/
theorem sets_cross {a b p q : List Nat} {n : Nat} (h : Fit (vls a n) (vls b n) a.length b.length p q) (hn : n ≤ 1000000) (hq : a.length + q.length < n) : Pl.prodR a * Pl.prodR q = Pl.prodR b * Pl.prodR p := by
  have hm := h.more
  have l1 : Pl.Lt (Pl.prodR a * Pl.prodR q) n := ((Pl.Dg.prodR a).1.mul (Pl.Dg.prodR q).1).2.mono (by omega)
  have l2 : Pl.Lt (Pl.prodR b * Pl.prodR p) n := ((Pl.Dg.prodR b).1.mul (Pl.Dg.prodR p).1).2.mono (by omega)
  refine Pl.sub_eq_zero (Pl.zeros_eq (Sk.pts_dis hn) (l1.sub l2) fun k hk => ?_)
  have hv := h.vals k (by rw [vls_len]; exact hk)
  rw [co_vls a hk, co_vls b hk] at hv
  rw [Pl.co_tab, if_pos hk, Pl.val_sub ((Pl.Po.prodR a).mul (Pl.Po.prodR q)) ((Pl.Po.prodR b).mul (Pl.Po.prodR p)), Pl.val_mul (Pl.Po.prodR a) (Pl.Po.prodR q), Pl.val_mul (Pl.Po.prodR b) (Pl.Po.prodR p), hv]
  grind

/-! ### the document's example -/
theorem lv_el1 : El [3, 5, 8] := by intro x hx; simp at hx; omega
theorem lv_el2 : El [5, 9] := by intro x hx; simp at hx; omega
theorem lv_df : Df [3, 5, 8] [5, 9] [3, 8] [9] := ⟨by decide, by decide, fun v => by simp; omega, fun v => by simp; omega⟩
theorem lv_fit : Fit (vls [3, 5, 8] 5) (vls [5, 9] 5) 3 2 [3, 8] [9] := lv_df.fit (by decide) (by decide) lv_el1 lv_el2 (by decide)
theorem lv_no : ∀ p q, ¬ Fit (vls [3, 5, 8] 4) (vls [5, 9] 4) 3 2 p q := fun p q h => by
  have h1 := h.few
  have h2 := h.more
  rw [vls_len] at h1
  have hq : q.length = 0 := by omega
  have hX := sets_cross (a := [3, 5, 8]) (b := [5, 9]) h (by omega) (by simp; omega)
  have e := congrArg (fun s => Pl.val s (Fld.to 9)) hX
  simp only [Pl.val_mul (Pl.Po.prodR [3, 5, 8]) (Pl.Po.prodR q), Pl.val_mul (Pl.Po.prodR [5, 9]) (Pl.Po.prodR p)] at e
  rw [Sk.root_p (p := [5, 9]) (r := 9) (by simp), Fin.zero_mul] at e
  rcases Fld.mul_eq_zero.1 e with e2 | e2
  · have := Sk.root_mem (by omega) lv_el1.lt e2
    simp at this
  · have := Sk.root_mem (by omega) h.lq e2
    rw [List.eq_nil_of_length_eq_zero hq] at this
    cases this
end Go.Proofs.Ytcbcmnbfflaicaa
