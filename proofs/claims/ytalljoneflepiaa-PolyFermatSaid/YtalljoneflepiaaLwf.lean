/-
  What the statements on roots want: lists of roots; numbers, sorted; the roots of a product.
-/
import Derived.Test.YtalljoneflepiaaLwE
namespace Go.Proofs.Ytalljoneflepiaa
open Go.RowKit

/-! ### lists of roots -/
/-- The roots of s, rising. -/
def Rv (w : World) (o : Value) (s : Pl) : Prop := ∃ A n c rs, o = .slice A n c ∧ Pt w A n c rs ∧ Pl.Rof s rs ∧ rs.Pairwise (· < ·)
theorem Rv.below {w w' : World} {o : Value} {s : Pl} (h : Rv w o s) (hb : Below w.heap.size w w') : Rv w' o s := by
  obtain ⟨A, n, c, rs, e, h1, h2⟩ := h
  exact ⟨A, n, c, rs, e, h1.below hb, h2⟩
theorem Rv.new {w : World} {o : Value} {s : Pl} (h : Rv w o s) (x : Obj) : Rv (w.alloc x) o s := h.below ((Below.refl _ w).alloc (Nat.le_refl _) _)
section
variable {w : World} {o o2 : Value} {s : Pl} {d k : Nat}
theorem roots_v (h : Qv w o s d) (hd : d ≤ 13) (h0 : s ≠ 0) : Calls Try.prog 36 #[o] w fun e w' => (∃ z, e = .returned z ∧ Rv w' z s) ∧ Below w.heap.size w w' := by
  obtain ⟨A, n, c, l, rfl, h1, h2, h3, rfl⟩ := h
  refine (roots_any A n c l w h1.1 (by omega) h2 h1.2.1).mono ?_
  rintro e w' ⟨⟨A', n', c', rs, rfl, hp, _, hr⟩, hb⟩
  have hr := hr h0
  exact ⟨⟨_, rfl, A', n', c', rs, rfl, hp, hr.1, hr.2.rise hr.1.2.1⟩, hb⟩
theorem roots0_v (h : Qv w o 0 d) (hd : d ≤ 13) : Calls Try.prog 36 #[o] w fun e w' => (∃ A c, e = .returned (.slice A (0 : Nat) c)) ∧ Below w.heap.size w w' := by
  obtain ⟨A, n, c, l, rfl, h1, h2, h3, h4⟩ := h
  refine (roots_any A n c l w h1.1 (by omega) h2 h1.2.1).mono ?_
  rintro e w' ⟨⟨A', n', c', rs, rfl, hp, hr, _⟩, hb⟩
  have hrs := hr h4
  subst hrs
  have hn : n' = 0 := hp.1
  subst hn
  exact ⟨⟨A', c', rfl⟩, hb⟩
/-- Numbers, modulo the prime, rising, each once. -/
def Sv (w : World) (o : Value) (l : List Nat) : Prop := ∃ A n c L, o = .slice A n c ∧ Pt w A n c L ∧ Srtd l l.length L
theorem Sv.below {w w' : World} {o : Value} {l : List Nat} (h : Sv w o l) (hb : Below w.heap.size w w') : Sv w' o l := by
  obtain ⟨A, n, c, L, e, h1, h2⟩ := h
  exact ⟨A, n, c, L, e, h1.below hb, h2⟩
theorem Sv.new {w : World} {o : Value} {l : List Nat} (h : Sv w o l) (x : Obj) : Sv (w.alloc x) o l := h.below ((Below.refl _ w).alloc (Nat.le_refl _) _)
theorem sorted_v {l : List Nat} (h : Nv w o l d) (hd : d ≤ 1000) : Calls Try.prog 37 #[o] w fun e w' => (∃ z, e = .returned z ∧ Sv w' z l) ∧ Below w.heap.size w w' := by
  obtain ⟨A, n, c, rfl, h1, h2, h3⟩ := h
  refine (sorted_any A n c l w h1.1 (by omega) h1.2.1).mono ?_
  rintro e w' ⟨⟨z, L, rfl, hg, hl, hs⟩, hb⟩
  obtain ⟨A', c', rfl, hp, _⟩ := hg.pt
  exact ⟨⟨_, rfl, A', _, c', L, rfl, hp, h1.1 ▸ hs⟩, hb⟩
/-- The roots are the numbers. -/
def Ro (s : Pl) (l : List Nat) : Prop := ∀ x, Pl.val s (Fld.to x) = 0 ↔ ∃ j, j < l.length ∧ Fld.to x = Pl.co l j
theorem roots_same {l : List Nat} (h : Rv w o s) (h' : Sv w o2 l) (hr : Ro s l) (hs : ∀ rs, Pl.Rof s rs → rs.length ≤ 1000) : Calls Try.prog 13 #[o, o2] w fun e w' => e = .returned (.bool true) ∧ Below w.heap.size w w' := by
  obtain ⟨A, n, c, rs, rfl, h1, h2, h3⟩ := h
  obtain ⟨A', n', c', L, rfl, h1', h4, h5⟩ := h'
  have hlt : ∀ x ∈ L, x < 2305843009213693951 := fun x hx => by
    obtain ⟨j, _, e⟩ := (h5 x).1 hx
    rw [e]; exact Fld.num_lt _
  have e : rs = L := by
    refine rise_uniq rs L h3 h4 fun x => ?_
    constructor
    · intro hx
      have hxl := h2.1 x hx
      obtain ⟨j, hj, e⟩ := (hr x).1 ((h2.2.2 x hxl).1 hx)
      refine (h5 x).2 ⟨j, hj, Pl.to_inj' hxl (Fld.num_lt _) ?_⟩
      rw [e, Fld.to_num]; rfl
    · intro hx
      have hxl := hlt x hx
      obtain ⟨j, hj, e⟩ := (h5 x).1 hx
      refine (h2.2.2 x hxl).2 ((hr x).2 ⟨j, hj, ?_⟩)
      rw [e, Fld.to_num]; rfl
  subst e
  have hl := hs rs h2
  have h := same64_any rs rs A A' n c n' c' w h1.1 h1'.1 (by have := h1.1; omega) (by have := h1'.1; omega) h1.2.1 h1'.2.1
  rwa [show decide (rs = rs) = true from decide_eq_true rfl] at h
end
theorem prodR_root : ∀ (l : List Nat) (x : Fld.F), Pl.val (Pl.prodR l) x = 0 ↔ ∃ j, j < l.length ∧ x = Pl.co l j
  | [], x => ⟨fun h => absurd ((Pl.val_C 1 x).symm.trans h) Fld.one_ne, fun ⟨j, h, _⟩ => absurd h (Nat.not_lt_zero j)⟩
  | r :: l, x => by
    show Pl.val (Pl.lin (Fld.to r) * Pl.prodR l) x = 0 ↔ _
    rw [Pl.val_mul (Pl.Po.lin _) (Pl.Po.prodR l), Fld.mul_eq_zero, prodR_root l x, Pl.val_lin]
    constructor
    · rintro (h | ⟨j, h1, h2⟩)
      · exact ⟨0, by simp, by show x = Fld.to r; grind⟩
      · exact ⟨j + 1, by simp; omega, h2⟩
    · rintro ⟨j, h1, h2⟩
      cases j with
      | zero => left; have h3 : x = Fld.to r := h2; grind
      | succ j => right; exact ⟨j, by simp at h1; omega, h2⟩

end Go.Proofs.Ytalljoneflepiaa
