/-
  What the statements on division want: exact divisions, the greatest common divisor's last coefficient, what is left.
-/
import Derived.Test.YtalljoneflepiaaVls
namespace Go.Proofs.Ytalljoneflepiaa
open Go.RowKit

/-- A cell that holds a number. -/
def Lc (w : World) (b p v : Nat) : Prop := b < w.heap.size ∧ w.cell? ⟨b, p, none⟩ = some (.int .u64 (v : Int))
theorem Lc.below {w w' : World} {b p v : Nat} (h : Lc w b p v) (hb : Below w.heap.size w w') : Lc w' b p v := ⟨Nat.lt_of_lt_of_le h.1 hb.size, (hb.cell (p := ⟨b, p, none⟩) h.1).trans h.2⟩
theorem Lc.new {w : World} {b p v : Nat} (h : Lc w b p v) (x : Obj) : Lc (w.alloc x) b p v := h.below ((Below.refl _ w).alloc (Nat.le_refl _) _)

section
variable {w : World} {o o2 : Value} {s t g : Pl} {d k : Nat}
theorem Tv.last (h : Tv w o g d) (h0 : g ≠ 0) (hm : ∀ n, Pl.Dg g n → g n = 1) : ∃ b off j c, o = .slice (some ⟨b, off, none⟩) (j + 1 : Nat) c ∧ Lc w b (off + j) 1 := by
  obtain ⟨A, n, c, l, rfl, hp, hi, hn⟩ := h
  have hl : l.length ≠ 0 := fun e => h0 (by rw [← hi.2]; exact hi.1.len_zero.1 e)
  obtain ⟨j, hj⟩ : ∃ j, l.length = j + 1 := ⟨l.length - 1, by omega⟩
  have hdg := hi.1.dg hj
  rw [hi.2] at hdg
  have h1 := hm j hdg
  rw [← hi.2, Pl.co_at] at h1
  have h2 : l[j]?.getD 0 = 1 := Pl.to_inj' (hi.1.1.get j) (by omega) h1
  obtain ⟨b, off, e, hb, hc⟩ := hp.2.1.num (k := j) (by omega)
  rw [h2] at hc
  have hnj : n = j + 1 := hp.1.trans hj
  subst hnj e
  exact ⟨b, off, j, c, rfl, hb, hc⟩
theorem gcd0_v (h : Qv w o 0 d) (h' : Qv w o2 0 k) (hd : d ≤ 100000) (hk : k ≤ 100000) : Calls Try.prog 26 #[o, o2] w fun e w' => (∃ A c, e = .returned (.slice A (0 : Nat) c)) ∧ Below w.heap.size w w' := by
  refine (gcd_v h h' hd hk).mono ?_
  rintro e w' ⟨⟨z, g, rfl, hz, hg⟩, hb⟩
  have g0 := hg.zeros
  subst g0
  obtain ⟨A, n, c, rfl, _, hn, _⟩ := hz.open_
  obtain rfl : n = 0 := hn.2 rfl
  exact ⟨⟨A, c, rfl⟩, hb⟩
theorem gcd1_v (h : Qv w o s d) (h' : Qv w o2 t k) (hd : d ≤ 100000) (hk : k ≤ 100000) (h0 : s ≠ 0 ∨ t ≠ 0) : Calls Try.prog 26 #[o, o2] w fun e w' =>
    (∃ b off n j c g, e = .returned (.slice (some ⟨b, off, none⟩) n c) ∧ n = j + 1 ∧ n ≤ max d k ∧ Tv w' (.slice (some ⟨b, off, none⟩) n c) g (max d k) ∧ Lc w' b (off + j) 1 ∧ Pl.Gc s t g ∧ g ≠ 0) ∧ Below w.heap.size w w' := by
  refine (gcd_v h h' hd hk).mono ?_
  rintro e w' ⟨⟨z, g, rfl, hz, hg⟩, hb⟩
  have g0 : g ≠ 0 := by
    rintro rfl
    rcases h0 with h0 | h0
    · exact h0 hg.zero.1
    · exact h0 hg.zero.2
  obtain ⟨b, off, j, c, rfl, hl⟩ := hz.last g0 hg.2.2
  obtain ⟨_, _, _, e2, hn, _⟩ := hz.open_
  injection e2 with _ e2 _
  exact ⟨⟨b, off, j + 1, j, c, g, rfl, rfl, by omega, hz, hl, hg, g0⟩, hb⟩
/-- An exact division. -/
theorem divs_v (h : Qv w o s d) (h' : Qv w o2 t k) (hd : d ≤ 100000) (hk : k ≤ 100000) (h0 : t ≠ 0) (hv : Pl.Dv t s) : Calls Try.prog 24 #[o, o2] w fun e w' =>
    (∃ z A c q, e = .returned (.tuple #[z, .slice A (0 : Nat) c]) ∧ Tv w' z q d ∧ s = q * t) ∧ Below w.heap.size w w' := by
  have hpt := h'.po
  refine (divmod_v h h' hd hk).mono ?_
  rintro e w' ⟨⟨z, z2, q, r, rfl, hz, hr, _, hdm⟩, hb⟩
  have hdm := hdm h0
  obtain ⟨q', hq', e'⟩ := hv
  have hu := hdm.uniq hpt h0 ⟨hq', Pl.Po.zero, by rw [Pl.add_zero, Pl.mul_comm]; exact e', fun n _ => Pl.Lt.zero n⟩
  obtain ⟨A, n, c, rfl, _, hn, _⟩ := hr.open_
  obtain rfl : n = 0 := hn.2 hu.2
  exact ⟨⟨z, A, c, q, rfl, hz, by rw [hu.1, Pl.mul_comm]; exact e'⟩, hb⟩
/-- A division by what is not 0: what is left is shorter. -/
theorem divm_v {A2 : Option Addr} {n2 c2 : Nat} (h : Qv w o s d) (h' : Tv w (.slice A2 n2 c2) t k) (hd : d ≤ 100000) (hk : k ≤ 100000) (h0 : t ≠ 0) : Calls Try.prog 24 #[o, .slice A2 n2 c2] w fun e w' =>
    (∃ z A n c q r, e = .returned (.tuple #[z, .slice A n c]) ∧ Tv w' z q d ∧ Tv w' (.slice A n c) r d ∧ n < n2 ∧ Pl.DM s t q r) ∧ Below w.heap.size w w' := by
  have hpt := h'.q.po
  obtain ⟨_, _, _, e2, _, _, hdg⟩ := h'.open_
  injection e2 with _ e2 _
  subst e2
  refine (divmod_v h h'.q hd hk).mono ?_
  rintro e w' ⟨⟨z, z2, q, r, rfl, hz, hr, _, hdm⟩, hb⟩
  have hdm := hdm h0
  obtain ⟨m, hm⟩ := hpt.dg h0
  have hn2 := hdg m hm
  obtain ⟨A, n, c, rfl, hnm, _, _⟩ := (hr.less (hdm.2.2.2 m hm)).open_
  exact ⟨⟨z, A, n, c, q, r, rfl, hz, hr, by omega, hdm⟩, hb⟩
end
namespace Pl
theorem Dv.mul_mul {a b c : Pl} (h : Dv a b) : Dv (a * c) (b * c) := by
  obtain ⟨q, hq, e⟩ := h
  exact ⟨q, hq, by rw [e, mul_assoc, mul_assoc, mul_comm q c]⟩
/-- What is left of two, divided by their greatest common divisor, has nothing in common. -/
theorem Gc.unit {p q g x y h : Pl} (hg : Gc p q g) (g0 : g ≠ 0) (hx : p = x * g) (hy : q = y * g) (hh : Gc x y h) : Dg h 0 := by
  have h1 : Dv (h * g) g := (hg.2.1 _ (hh.1.mul hg.1)).2 ⟨hx ▸ hh.left.mul_mul, hy ▸ hh.right.mul_mul⟩
  have h0 : h ≠ 0 := by
    rintro rfl
    rw [zero_mul] at h1
    exact g0 h1.zero_left
  obtain ⟨m, hm⟩ := hh.1.dg h0
  obtain ⟨n, hn⟩ := hg.1.dg g0
  have := h1.dg (hm.mul hn) hn
  obtain rfl : m = 0 := by omega
  exact hm
end Pl
theorem gcdu_v {w : World} {o o2 : Value} {p q g x y : Pl} {d k : Nat} (h : Qv w o x d) (h' : Qv w o2 y k) (hd : d ≤ 100000) (hk : k ≤ 100000) (hg : Pl.Gc p q g) (g0 : g ≠ 0) (hx : p = x * g) (hy : q = y * g) :
    Calls Try.prog 26 #[o, o2] w fun e w' => (∃ A c, e = .returned (.slice A (1 : Nat) c)) ∧ Below w.heap.size w w' := by
  refine (gcd_v h h' hd hk).mono ?_
  rintro e w' ⟨⟨z, u, rfl, hz, hu⟩, hb⟩
  obtain ⟨A, n, c, rfl, _, _, hdg⟩ := hz.open_
  obtain rfl : n = 1 := hdg 0 (hg.unit g0 hx hy hu)
  exact ⟨⟨A, c, rfl⟩, hb⟩
end Go.Proofs.Ytalljoneflepiaa
