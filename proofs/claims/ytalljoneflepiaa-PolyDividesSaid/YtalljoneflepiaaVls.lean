/-
  Values that are polynomials, and what each call tells of them: the program's calls and the reference's.
-/
import Derived.Test.YtalljoneflepiaaLvs
namespace Go.Proofs.Ytalljoneflepiaa
open Go.RowKit

/-- A slice of up to d numbers of 64 bits that says s. -/
def Qv (w : World) (o : Value) (s : Pl) (d : Nat) : Prop := ∃ A n c l, o = .slice A n c ∧ Pt w A n c l ∧ (∀ y ∈ l, y < 18446744073709551616) ∧ n ≤ d ∧ Pl.co l = s
/-- The same, trimmed. -/
def Tv (w : World) (o : Value) (s : Pl) (d : Nat) : Prop := ∃ A n c l, o = .slice A n c ∧ Pt w A n c l ∧ Pl.Is l s ∧ n ≤ d
theorem Qv.below {w w' : World} {o : Value} {s : Pl} {d : Nat} (h : Qv w o s d) (hb : Below w.heap.size w w') : Qv w' o s d := by
  obtain ⟨A, n, c, l, e, h1, h2⟩ := h
  exact ⟨A, n, c, l, e, h1.below hb, h2⟩
theorem Tv.below {w w' : World} {o : Value} {s : Pl} {d : Nat} (h : Tv w o s d) (hb : Below w.heap.size w w') : Tv w' o s d := by
  obtain ⟨A, n, c, l, e, h1, h2⟩ := h
  exact ⟨A, n, c, l, e, h1.below hb, h2⟩
theorem Qv.new {w : World} {o : Value} {s : Pl} {d : Nat} (h : Qv w o s d) (x : Obj) : Qv (w.alloc x) o s d := h.below ((Below.refl _ w).alloc (Nat.le_refl _) _)
theorem Tv.new {w : World} {o : Value} {s : Pl} {d : Nat} (h : Tv w o s d) (x : Obj) : Tv (w.alloc x) o s d := h.below ((Below.refl _ w).alloc (Nat.le_refl _) _)
theorem Tv.q {w : World} {o : Value} {s : Pl} {d : Nat} (h : Tv w o s d) : Qv w o s d := by
  obtain ⟨A, n, c, l, e, h1, h2, h3⟩ := h
  exact ⟨A, n, c, l, e, h1, h2.1.1.big, h3, h2.2⟩
theorem Qv.po {w : World} {o : Value} {s : Pl} {d : Nat} (h : Qv w o s d) : Pl.Po s := by
  obtain ⟨A, n, c, l, e, h1, h2, h3, h4⟩ := h
  exact h4 ▸ Pl.Po.co l
theorem Qv.lt {w : World} {o : Value} {s : Pl} {d : Nat} (h : Qv w o s d) : Pl.Lt s d := by
  obtain ⟨A, n, c, l, e, h1, h2, h3, h4⟩ := h
  exact h4 ▸ (Pl.Lt.co l).mono (by have := h1.1; omega)
theorem Tv.to {w : World} {o : Value} {s t : Pl} {d : Nat} (h : Tv w o s d) (e : s = t) : Tv w o t d := e ▸ h
theorem Tv.less {w : World} {o : Value} {s : Pl} {d k : Nat} (h : Tv w o s d) (hl : Pl.Lt s k) : Tv w o s k := by
  obtain ⟨A, n, c, l, e, h1, h2, h3⟩ := h
  exact ⟨A, n, c, l, e, h1, h2, by have := h2.1.len (h2.2.symm ▸ hl); have := h1.1; omega⟩
theorem Tv.mk {lo : Nat} {s : Pl} {e : Ending} {w' : World} {d : Nat} (h : Poly lo s e w') (hl : Pl.Lt s d) : ∃ z, e = .returned z ∧ Tv w' z s d := by
  obtain ⟨A, n, c, l, e, h1, h2, _⟩ := h
  exact ⟨_, e, A, n, c, l, rfl, h1, h2, by have := h2.1.len (h2.2.symm ▸ hl); have := h1.1; omega⟩
theorem Qv.nil (w : World) (d : Nat) : Qv w (.slice none 0 0) 0 d := ⟨none, 0, 0, [], rfl, Pt.nil w, (by intro y hy; cases hy), Nat.zero_le _, Pl.co_nil⟩
theorem Tv.nil (w : World) (d : Nat) : Tv w (.slice none 0 0) 0 d := ⟨none, 0, 0, [], rfl, Pt.nil w, ⟨Pl.Tr.nil, Pl.co_nil⟩, Nat.zero_le _⟩
/-- What is told of a polynomial's length. -/
theorem Tv.open_ {w : World} {o : Value} {s : Pl} {d : Nat} (h : Tv w o s d) : ∃ A n c, o = .slice A n c ∧ n ≤ d ∧ (n = 0 ↔ s = 0) ∧ ∀ k, Pl.Dg s k → n = k + 1 := by
  obtain ⟨A, n, c, l, e, h1, h2, h3⟩ := h
  refine ⟨A, n, c, e, h3, ?_, fun k hk => ?_⟩
  · rw [h1.1, h2.1.len_zero, h2.2]
  · rw [h1.1]; exact len_of_dg h2.1 (h2.2.symm ▸ hk)

/-- The value, as a number. -/
noncomputable def vl (s : Pl) (x : Nat) : Nat := (Pl.val s (Fld.to x)).val
theorem vl_lt (s : Pl) (x : Nat) : vl s x < 2305843009213693951 := (Pl.val s (Fld.to x)).isLt
theorem to_vl (s : Pl) (x : Nat) : Fld.to (vl s x) = Pl.val s (Fld.to x) := Fld.to_self _
theorem hv_vl (x : Nat) (l : List Nat) : Pl.hv x l = vl (Pl.co l) x := Fld.to_inj (Pl.hv_lt x l) (vl_lt _ _) (by rw [to_vl, Pl.hv_val])
theorem vl_zero (s : Pl) (x : Nat) : vl s x = 0 ↔ Pl.val s (Fld.to x) = 0 := by rw [← Pl.to_eq_zero (vl_lt s x), to_vl]

section
variable {w : World} {o o2 : Value} {s t : Pl} {d k : Nat}
theorem trim_v (h : Qv w o s d) (hd : d ≤ 100000) : Calls Try.prog 14 #[o] w fun e w' => (∃ z, e = .returned z ∧ Tv w' z s d) ∧ Below w.heap.size w w' := by
  have hl := h.lt
  obtain ⟨A, n, c, l, rfl, h1, h2, h3, rfl⟩ := h
  exact (trim_poly A n c l w h1.1 (by omega) h2 h1.2.1).mono fun e w' ⟨g, b⟩ => ⟨Tv.mk g.poly hl, b⟩
theorem rtrim_v (h : Qv w o s d) (hd : d ≤ 100000) : Calls Try.prog 15 #[o] w fun e w' => (∃ z, e = .returned z ∧ Tv w' z s d) ∧ Below w.heap.size w w' := by
  have hl := h.lt
  obtain ⟨A, n, c, l, rfl, h1, h2, h3, rfl⟩ := h
  exact (rtrim_any A n c l w h1.1 (by omega) h1.2.1).mono fun e w' ⟨g, b⟩ => ⟨Tv.mk g hl, b⟩
theorem add_v (h : Qv w o s d) (h' : Qv w o2 t k) (hd : d ≤ 100000) (hk : k ≤ 100000) : Calls Try.prog 16 #[o, o2] w fun e w' => (∃ z, e = .returned z ∧ Tv w' z (s + t) (max d k)) ∧ Below w.heap.size w w' := by
  have hl := (h.lt.mono (Nat.le_max_left d k)).add (h'.lt.mono (Nat.le_max_right d k))
  obtain ⟨A, n, c, l, rfl, h1, h2, h3, rfl⟩ := h
  obtain ⟨A', n', c', l', rfl, h1', h2', h3', rfl⟩ := h'
  exact (add_poly A A' n c n' c' l l' w h1.1 h1'.1 (by omega) (by omega) h2 h2' h1.2.1 h1'.2.1).mono fun e w' ⟨g, b⟩ => ⟨Tv.mk g.poly hl, b⟩
theorem radd_v (h : Qv w o s d) (h' : Qv w o2 t k) (hd : d ≤ 100000) (hk : k ≤ 100000) : Calls Try.prog 17 #[o, o2] w fun e w' => (∃ z, e = .returned z ∧ Tv w' z (s + t) (max d k)) ∧ Below w.heap.size w w' := by
  have hl := (h.lt.mono (Nat.le_max_left d k)).add (h'.lt.mono (Nat.le_max_right d k))
  obtain ⟨A, n, c, l, rfl, h1, h2, h3, rfl⟩ := h
  obtain ⟨A', n', c', l', rfl, h1', h2', h3', rfl⟩ := h'
  exact (radd_poly A A' n c n' c' l l' w h1.1 h1'.1 (by omega) (by omega) h1.2.1 h1'.2.1).mono fun e w' ⟨g, b⟩ => ⟨Tv.mk g hl, b⟩
theorem mul_v (h : Qv w o s d) (h' : Qv w o2 t k) (hd : d ≤ 100000) (hk : k ≤ 100000) : Calls Try.prog 18 #[o, o2] w fun e w' => (∃ z, e = .returned z ∧ Tv w' z (s * t) (d + k)) ∧ Below w.heap.size w w' := by
  have hl := h.lt.mul h'.lt
  obtain ⟨A, n, c, l, rfl, h1, h2, h3, rfl⟩ := h
  obtain ⟨A', n', c', l', rfl, h1', h2', h3', rfl⟩ := h'
  exact (mul_poly A A' n c n' c' l l' w h1.1 h1'.1 (by omega) (by omega) h2 h2' h1.2.1 h1'.2.1).mono fun e w' ⟨g, b⟩ => ⟨Tv.mk g.poly hl, b⟩
theorem rmul_v (h : Qv w o s d) (h' : Qv w o2 t k) (hd : d ≤ 100000) (hk : k ≤ 100000) : Calls Try.prog 19 #[o, o2] w fun e w' => (∃ z, e = .returned z ∧ Tv w' z (s * t) (d + k)) ∧ Below w.heap.size w w' := by
  have hl := h.lt.mul h'.lt
  obtain ⟨A, n, c, l, rfl, h1, h2, h3, rfl⟩ := h
  obtain ⟨A', n', c', l', rfl, h1', h2', h3', rfl⟩ := h'
  exact (rmul_poly A A' n c n' c' l l' w h1.1 h1'.1 (by omega) (by omega) h1.2.1 h1'.2.1).mono fun e w' ⟨g, b⟩ => ⟨Tv.mk g hl, b⟩
theorem eval_v (h : Qv w o s d) (hd : d ≤ 100000) (x : Nat) (hx : x < 18446744073709551616) : Calls Try.prog 20 #[o, .int .u64 (x : Int)] w fun e w' => e = .returned (.int .u64 ((vl s x : Nat) : Int)) ∧ Below w.heap.size w w' := by
  obtain ⟨A, n, c, l, rfl, h1, h2, h3, rfl⟩ := h
  have h := eval_poly A n c x l w (by omega) hx h1.1 h2 h1.2.1
  rwa [hv_vl] at h
theorem reval_v (h : Qv w o s d) (hd : d ≤ 100000) (x : Nat) : Calls Try.prog 21 #[o, .int .u64 (x : Int)] w fun e w' => e = .returned (.int .u64 ((vl s x : Nat) : Int)) ∧ Below w.heap.size w w' := by
  obtain ⟨A, n, c, l, rfl, h1, h2, h3, rfl⟩ := h
  have h := reval_any A n c x l w h1.1 (by omega) h1.2.1
  rwa [hv_vl] at h
theorem same_v (h : Tv w o s d) (h' : Tv w o2 s k) (hd : d ≤ 100000) (hk : k ≤ 100000) : Calls Try.prog 13 #[o, o2] w fun e w' => e = .returned (.bool true) ∧ Below w.heap.size w w' := by
  obtain ⟨A, n, c, l, rfl, h1, h2, h3⟩ := h
  obtain ⟨A', n', c', l', rfl, h1', h2', h3'⟩ := h'
  have e := h2.uniq h2'
  subst e
  have h := same64_any l l A A' n c n' c' w h1.1 h1'.1 (by omega) (by omega) h1.2.1 h1'.2.1
  rwa [show decide (l = l) = true from decide_eq_true rfl] at h
theorem dm_lt {q r : Pl} (h : Pl.DM s t q r) (ht : Pl.Po t) (h0 : t ≠ 0) (hs : Pl.Lt s d) : Pl.Lt q d ∧ Pl.Lt r d := by
  obtain ⟨hq, hr, e, hd⟩ := h
  obtain ⟨k, hk⟩ := ht.dg h0
  have hr1 := hd k hk
  by_cases q0 : q = 0
  · subst q0
    rw [Pl.zero_mul, Pl.zero_add] at e
    exact ⟨Pl.Lt.zero d, e ▸ hs⟩
  · obtain ⟨m, hm⟩ := hq.dg q0
    have h1 := hm.mul hk
    have h2 : s (m + k) ≠ 0 := by
      rw [e, Pl.add_at, hr1 (m + k) (by omega)]
      intro h3
      exact h1.1 (by rw [← h3]; grind)
    have h3 : m + k < d := Nat.lt_of_not_le fun h4 => h2 (hs _ h4)
    exact ⟨hm.2.mono (by omega), hr1.mono (by omega)⟩
theorem divmod_v (h : Qv w o s d) (h' : Qv w o2 t k) (hd : d ≤ 100000) (hk : k ≤ 100000) : Calls Try.prog 24 #[o, o2] w fun e w' =>
    (∃ z z2 q r, e = .returned (.tuple #[z, z2]) ∧ Tv w' z q d ∧ Tv w' z2 r d ∧ (t = 0 → q = 0 ∧ r = 0) ∧ (t ≠ 0 → Pl.DM s t q r)) ∧ Below w.heap.size w w' := by
  have hl := h.lt
  have hp := h'.po
  obtain ⟨A, n, c, l, rfl, h1, h2, h3, rfl⟩ := h
  obtain ⟨A', n', c', l', rfl, h1', h2', h3', rfl⟩ := h'
  refine (divmod_poly A A' n c n' c' l l' w h1.1 h1'.1 (by omega) (by omega) h2 h2' h1.2.1 h1'.2.1).mono ?_
  rintro e w' ⟨⟨A1, n1, c1, l1, A2, n2, c2, l2, rfl, p1, p2, t1, t2, z0, z1, _⟩, hb⟩
  have hb2 : l1.length ≤ d ∧ l2.length ≤ d := by
    by_cases h0 : Pl.co l' = 0
    · rw [(z0 h0).1, (z0 h0).2]; exact ⟨Nat.zero_le _, Nat.zero_le _⟩
    · have h5 := dm_lt (z1 h0) hp h0 hl
      exact ⟨t1.len h5.1, t2.len h5.2⟩
  refine ⟨⟨_, _, Pl.co l1, Pl.co l2, rfl, ⟨A1, n1, c1, l1, rfl, p1, ⟨t1, rfl⟩, by have := p1.1; omega⟩, ⟨A2, n2, c2, l2, rfl, p2, ⟨t2, rfl⟩, by have := p2.1; omega⟩, fun h0 => ?_, z1⟩, hb⟩
  rw [(z0 h0).1, (z0 h0).2, Pl.co_nil]
  exact ⟨rfl, rfl⟩
theorem Pl.Gc.zeros {g : Pl} (h : Pl.Gc 0 0 g) : g = 0 := ((h.2.1 0 Pl.Po.zero).2 ⟨Pl.Dv.zero 0, Pl.Dv.zero 0⟩).zero_left
theorem Pl.Dv.lt {a g : Pl} (hg : Pl.Po g) (h : Pl.Dv g a) (h0 : a ≠ 0) (hl : Pl.Lt a d) : Pl.Lt g d := by
  by_cases g0 : g = 0
  · rw [g0]; exact Pl.Lt.zero d
  · obtain ⟨m, hm⟩ := hg.dg g0
    obtain ⟨n, hnd, hn⟩ := Pl.dg_of d a hl h0
    exact hm.2.mono (by have := h.dg hm hn; omega)
theorem gcd_lt {g : Pl} (h : Pl.Gc s t g) (hs : Pl.Lt s d) (ht : Pl.Lt t k) : Pl.Lt g (max d k) := by
  by_cases h0 : s = 0
  · by_cases h1 : t = 0
    · subst h0 h1; rw [h.zeros]; exact Pl.Lt.zero _
    · exact (h.right.lt h.1 h1 ht).mono (Nat.le_max_right d k)
  · exact (h.left.lt h.1 h0 hs).mono (Nat.le_max_left d k)
theorem gcd_v (h : Qv w o s d) (h' : Qv w o2 t k) (hd : d ≤ 100000) (hk : k ≤ 100000) : Calls Try.prog 26 #[o, o2] w fun e w' => (∃ z g, e = .returned z ∧ Tv w' z g (max d k) ∧ Pl.Gc s t g) ∧ Below w.heap.size w w' := by
  have hl := h.lt
  have hl' := h'.lt
  obtain ⟨A, n, c, l, rfl, h1, h2, h3, rfl⟩ := h
  obtain ⟨A', n', c', l', rfl, h1', h2', h3', rfl⟩ := h'
  refine (gcd_poly A A' n c n' c' l l' w h1.1 h1'.1 (by omega) (by omega) h2 h2' h1.2.1 h1'.2.1).mono ?_
  rintro e w' ⟨⟨g, hp, hg⟩, hb⟩
  obtain ⟨z, rfl, hz⟩ := Tv.mk hp (gcd_lt hg hl hl')
  exact ⟨⟨z, g, rfl, hz, hg⟩, hb⟩
end

/-- A list of numbers of 64 bits that came in. -/
def In (w : World) (A : Option Addr) (n c : Nat) (l : List Nat) : Prop := n = l.length ∧ n ≤ c ∧ (∀ x ∈ l, x < 18446744073709551616) ∧ Rd w.heap.size w A (u64s l) ∧ (A = none → c = 0)
theorem In.below {w w' : World} {A : Option Addr} {n c : Nat} {l : List Nat} (h : In w A n c l) (hb : Below w.heap.size w w') : In w' A n c l := ⟨h.1, h.2.1, h.2.2.1, (h.2.2.2.1.below hb).more hb.size, h.2.2.2.2⟩
theorem nums_v {w : World} {A : Option Addr} {n c : Nat} {l : List Nat} (h : In w A n c l) (m : Nat) (hm : m ≤ 1000) :
    Calls Try.prog 23 #[.slice A n c, .int .i64 (m : Int)] w fun e w' => (∃ z, e = .returned z ∧ Qv w' z (Pl.co (l.take m)) m) ∧ Below w.heap.size w w' := by
  refine (nums_gl l A n c m w h.1 h.2.1 hm h.2.2.2.1 h.2.2.2.2).mono ?_
  rintro e w' ⟨⟨z, rfl, hz⟩, hb⟩
  obtain ⟨A', c', rfl, hp, _⟩ := hz.pt
  exact ⟨⟨_, rfl, A', _, c', _, rfl, hp, fun y hy => h.2.2.1 y (List.mem_of_mem_take hy), by rw [List.length_take]; exact Nat.min_le_left _ _, rfl⟩, hb⟩
theorem few_v {w : World} {A : Option Addr} {n c : Nat} {l : List Nat} (h : In w A n c l) :
    Calls Try.prog 12 #[.slice A n c] w fun e w' => (∃ z, e = .returned z ∧ Qv w' z (Pl.co (l.take 9)) 9) ∧ Below w.heap.size w w' := by
  have h1 := nums_v h 9 (by omega)
  rw [show ((9 : Nat) : Int) = 9 from rfl] at h1
  have H := Lib.hid h1
  clear h1 h
  go_enter Try.func12, Try.ntmps12
  go_wp2_with fail
  refine H.out.mono ?_
  rintro e w' ⟨⟨z, rfl, hz⟩, hb⟩
  have HZ := Lib.hid hz
  clear hz
  go_wp2
  go_ret
  exact ⟨⟨z, rfl, HZ.out⟩, hb⟩
end Go.Proofs.Ytalljoneflepiaa
