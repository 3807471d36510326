/-
  Operations' names among the arguments: one by value, or a slice of them; and slices of numbers.
-/
import Derived.Test.YtcbcmnbfflaicaaSkv
import Derived.WalkKit
import Derived.ProofKit
import Derived.OpenShut
import Derived.Deep.Slices
import Derived.Deep.Fields
import Derived.Lib.SmallJoins
namespace Go.Proofs.Ytcbcmnbfflaicaa
open Go.ChangeShapes Go.WideShapes Go.ChangeAt Go.RowKit Go.Deep Go.Joins

/-- An operation's name. -/
structure Idn where
  p : Int
  q : Int
  s : Nat
instance : Inhabited Idn := ⟨⟨0, 0, 0⟩⟩
/-- A slice of names that can be read. -/
structure Is3 (w : World) (A : Option Addr) (n c : Nat) (l : List Idn) : Prop where
  len : n = l.length
  rd : 0 < n → ∃ b off, A = some ⟨b, off, none⟩ ∧ b < w.heap.size ∧ ∀ i t, l[i]? = some t → w.cell? ⟨b, off + i * 3, none⟩ = some (.int .i64 t.p) ∧ w.cell? ⟨b, off + i * 3 + 1, none⟩ = some (.int .i64 t.q) ∧ w.cell? ⟨b, off + i * 3 + 2, none⟩ = some (.int .u64 (t.s : Int))
  sm : ∀ t ∈ l, t.s < 18446744073709551616
theorem Is3.below {w w' : World} {A : Option Addr} {n c : Nat} {l : List Idn} (h : Is3 w A n c l) (hb : Below w.heap.size w w') : Is3 w' A n c l := by
  refine ⟨h.len, fun hp => ?_, h.sm⟩
  obtain ⟨b, off, e, hl, hc⟩ := h.rd hp
  refine ⟨b, off, e, Nat.lt_of_lt_of_le hl hb.size, fun i t ht => ?_⟩
  obtain ⟨h1, h2, h3⟩ := hc i t ht
  exact ⟨(hb.cell (p := ⟨b, off + i * 3, none⟩) hl).trans h1, (hb.cell (p := ⟨b, off + i * 3 + 1, none⟩) hl).trans h2, (hb.cell (p := ⟨b, off + i * 3 + 2, none⟩) hl).trans h3⟩

set_option maxRecDepth 100000 in
theorem ident_parts {H : Type} {enc : TypeId × Value → H} {W : World} {base fuel : Nat} {spare : Nat → Bool} {held : Bool} {cs : List Value} {x : DataW H × List MemPlace}
    (h : DataW.trod enc Try.prog W base spare held fuel 24 cs = some x) (hl : cs.length = 3) :
    ∃ t : Idn, t.s < 18446744073709551616 ∧ cs = [.int .i64 t.p, .int .i64 t.q, .int .u64 (t.s : Int)] := by
  obtain ⟨xs, n, _, _, _, hlen, hf⟩ := DataW.trod_struct Try.underlying24 h
  have c1 : Try.prog.cellsOf 22 = 1 := by kernel_rfl
  have c2 : Try.prog.cellsOf 3 = 1 := by kernel_rfl
  match cs, hl, xs, hlen with
  | [c0, c1', c2'], _, [y0, y1, y2], _ =>
    have h0 : DataW.trod enc Try.prog W base spare held n 3 (List.take (Try.prog.cellsOf 3) [c0, c1', c2']) = some y0 := hf 0 _ rfl
    have h1 : DataW.trod enc Try.prog W base spare held n 3 (List.take (Try.prog.cellsOf 3) [c1', c2']) = some y1 := hf 1 _ rfl
    have h2 : DataW.trod enc Try.prog W base spare held n 22 (List.take (Try.prog.cellsOf 22) [c2']) = some y2 := hf 2 _ rfl
    rw [c2] at h0 h1
    rw [c1] at h2
    obtain ⟨d0, e0, _, w0⟩ := DataW.trod_int Try.underlying3 h0
    obtain ⟨d1, e1, _, w1⟩ := DataW.trod_int Try.underlying3 h1
    obtain ⟨d2, e2, _, w2⟩ := DataW.trod_int Try.underlying22 h2
    simp at e0 e1 e2
    obtain ⟨n2, rfl⟩ := Int.eq_ofNat_of_zero_le (bounds_u64 w2).1
    exact ⟨⟨d0, d1, n2⟩, by have := (bounds_u64 w2).2; show n2 < _; omega, by rw [e0, e1, e2]⟩

set_option maxRecDepth 100000 in
theorem open_ident {H : Type} {enc : TypeId × Value → H} {W : World} {r : Reach} {b0 base : Nat} {spare : Nat → Bool} {held : Bool} {v : Value} {d : DataW H} {p : List MemPlace}
    (hv : Value.okWide Try.prog W r b0 24 v) (h : DataW.Trod enc Try.prog W base spare held 24 v d p) :
    ∃ (a b : Int) (s : Nat), s < 18446744073709551616 ∧ v = .agg #[.int .i64 a, .int .i64 b, .int .u64 (s : Int)] := by
  obtain ⟨cs, rfl, hsz⟩ := okWide_struct Try.underlying24 hv
  obtain ⟨fuel, hf⟩ := h
  obtain ⟨t, hs, ec⟩ := ident_parts hf (by
    show cs.toList.length = 3
    rw [Array.length_toList, hsz]
    kernel_rfl)
  refine ⟨t.p, t.q, t.s, hs, ?_⟩
  have e' : cs.toList = [.int .i64 t.p, .int .i64 t.q, .int .u64 (t.s : Int)] := ec
  rw [← Array.toArray_toList (xs := cs), e']

set_option maxRecDepth 100000 in
theorem open_idents {H : Type} {enc : TypeId × Value → H} {W : World} {r : Reach} {b0 base : Nat} {spare : Nat → Bool} {held : Bool} {v : Value} {d : DataW H} {p : List MemPlace}
    (hv : Value.okWide Try.prog W r b0 47 v) (h : DataW.Trod enc Try.prog W base spare held 47 v d p) :
    ∃ (A : Option Addr) (len cap : Nat) (l : List Idn), v = .slice A len cap ∧ len ≤ 9223372036854775807 ∧ Is3 W A len cap l := by
  obtain ⟨A, len, cap, rfl⟩ := okWide_slice Try.underlying47 hv
  obtain ⟨fuel, hf⟩ := h
  rcases open_slice Try.underlying47 hf with ⟨hcs, _⟩ | ⟨a, l, c, m, n, D, Pl, hcs, _, hl, hm, hmm, _, hx⟩
  · simp [Value.cells] at hcs
    obtain ⟨rfl, rfl, rfl⟩ := hcs
    exact ⟨none, 0, 0, [], rfl, by omega, ⟨rfl, fun h => absurd h (by omega), fun s hs => (by cases hs)⟩⟩
  · simp [Value.cells] at hcs
    obtain ⟨rfl, rfl, rfl⟩ := hcs
    rw [show Try.prog.cellsOf 24 = 3 by kernel_rfl] at hx
    have hlm : len ≤ m := by rw [hmm]; split <;> omega
    obtain ⟨O, hO⟩ := choose_lt (α := Idn) (n := len) (p := fun i o => o.s < 18446744073709551616 ∧ ∀ j u, [Value.int .i64 o.p, .int .i64 o.q, .int .u64 (o.s : Int)][j]? = some u → W.cell? (a.add (i * 3 + j)) = some u) (fun i hi => by
      obtain ⟨cs', h1, h2⟩ := hx i (by omega)
      obtain ⟨_, hcl, hat⟩ := World.cells?_some h1
      obtain ⟨o, ho, e⟩ := ident_parts h2 hcl
      refine ⟨o, ho, fun j u hu => ?_⟩
      have hj : j < 3 := (List.getElem?_eq_some_iff.1 hu).1
      have := hat j hj
      rw [e, hu] at this
      rw [← Go.Deep.add_add]
      exact this)
    refine ⟨some a, len, cap, (List.range len).map O, rfl, by unfold maxLen at hm; omega, ⟨by simp, fun hp => ?_, fun o ho => ?_⟩⟩
    · obtain ⟨ab, ao, spot⟩ := a
      have h00 := (hO 0 hp).2 0 _ rfl
      have hspot : spot = none := by simpa [Addr.add] using World.cell?_spot h00
      subst hspot
      rw [Addr.add_lit] at h00
      refine ⟨ab, ao, rfl, cell_lt h00, fun i o ho => ?_⟩
      rw [List.getElem?_map] at ho
      obtain ⟨k, hk, rfl⟩ := Option.map_eq_some_iff.1 ho
      obtain ⟨hk1, hk2⟩ := List.getElem?_eq_some_iff.1 hk
      rw [List.getElem_range] at hk2
      subst hk2
      have hil : i < len := by simpa using hk1
      have g0 := (hO i hil).2 0 _ rfl
      have g1 := (hO i hil).2 1 _ rfl
      have g2 := (hO i hil).2 2 _ rfl
      rw [Addr.add_lit] at g0 g1 g2
      exact ⟨g0, g1, g2⟩
    · obtain ⟨i, hi, rfl⟩ := List.mem_map.1 ho
      exact (hO i (List.mem_range.1 hi)).1
set_option maxRecDepth 100000 in
/-- A slice of signed numbers among the arguments. -/
theorem open_i64s {H : Type} {enc : TypeId × Value → H} {W : World} {r : Reach} {b0 base : Nat} {v : Value} {d : DataW H} {p : List MemPlace}
    (hv : Value.okWide Try.prog W r b0 48 v) (h : DataW.Trod enc Try.prog W base (fun _ => true) true 48 v d p) :
    ∃ A len cap l, v = .slice A len cap ∧ Iz W A len l := by
  obtain ⟨A, len, cap, rfl⟩ := okWide_slice Try.underlying48 hv
  obtain ⟨fuel, hf⟩ := h
  rcases open_ints Try.underlying48 Try.underlying3 (by kernel_rfl) hf with ⟨hcs, _⟩ | ⟨a, l, cp, zs, hcs, _, hl, hm, hz, _, hcell, hwz⟩
  · simp [Value.cells] at hcs
    obtain ⟨rfl, rfl, rfl⟩ := hcs
    obtain ⟨l, hl⟩ := row_i64 W none 0 0 [] (.inl ⟨rfl, rfl, rfl, rfl⟩)
    exact ⟨none, 0, 0, l, rfl, hl⟩
  · simp [Value.cells] at hcs
    obtain ⟨rfl, rfl, rfl⟩ := hcs
    obtain ⟨l', hl'⟩ := row_i64 W (some a) len cap zs (.inr ⟨_, rfl, hl, hm, by simpa using hz, hcell, hwz⟩)
    exact ⟨_, _, _, l', rfl, hl'⟩

set_option maxRecDepth 100000 in
/-- A slice of numbers among the arguments. -/
theorem open_u64s {H : Type} {enc : TypeId × Value → H} {W : World} {r : Reach} {b0 base : Nat} {v : Value} {d : DataW H} {p : List MemPlace}
    (hv : Value.okWide Try.prog W r b0 25 v) (h : DataW.Trod enc Try.prog W base (fun _ => true) true 25 v d p) :
    ∃ A len cap l, v = .slice A len cap ∧ len ≤ 9223372036854775807 ∧ In W A len cap l := by
  obtain ⟨A, len, cap, rfl⟩ := okWide_slice Try.underlying25 hv
  obtain ⟨fuel, hf⟩ := h
  rcases open_ints Try.underlying25 Try.underlying22 (by kernel_rfl) hf with ⟨hcs, _⟩ | ⟨a, l, cp, zs, hcs, _, hl, hm, hz, _, hcell, hwz⟩
  · simp [Value.cells] at hcs
    obtain ⟨rfl, rfl, rfl⟩ := hcs
    obtain ⟨l, hl⟩ := row_u64 W none 0 0 [] (.inl ⟨rfl, rfl, rfl, rfl⟩)
    exact ⟨none, 0, 0, l, rfl, by omega, hl⟩
  · simp [Value.cells] at hcs
    obtain ⟨rfl, rfl, rfl⟩ := hcs
    obtain ⟨l', hl'⟩ := row_u64 W (some a) len cap zs (.inr ⟨_, rfl, hl, hm, by simpa using hz, hcell, hwz⟩)
    exact ⟨_, _, _, l', rfl, by unfold maxLen at hm; omega, hl'⟩
end Go.Proofs.Ytcbcmnbfflaicaa
