/-
  Shares among the arguments: one by value, or a slice of them; and slices of numbers.
-/
import Derived.Test.YthnbkbmhlalpaaaShl
import Derived.WalkKit
import Derived.ProofKit
import Derived.OpenShut
import Derived.Deep.Slices
import Derived.Deep.Fields
import Derived.Lib.SmallJoins
namespace Go.Proofs.Ythnbkbmhlalpaaa
open Go.ChangeShapes Go.WideShapes Go.ChangeAt Go.RowKit Go.Deep Go.Joins

theorem share_parts {H : Type} {enc : TypeId × Value → H} {W : World} {base fuel : Nat} {spare : Nat → Bool} {held : Bool} {cs : List Value} {x : DataW H × List MemPlace}
    (h : DataW.trod enc Try.prog W base spare held fuel 33 cs = some x) (hl : cs.length = 2) :
    ∃ s : Shr, s.a < 18446744073709551616 ∧ s.v < 18446744073709551616 ∧ cs = [.int .u64 (s.a : Int), .int .u64 (s.v : Int)] := by
  obtain ⟨xs, n, _, _, _, hlen, hf⟩ := DataW.trod_struct Try.underlying33 h
  have c1 : Try.prog.cellsOf 22 = 1 := by kernel_rfl
  match cs, hl, xs, hlen with
  | [c0, c1'], _, [y0, y1], _ =>
    have h0 : DataW.trod enc Try.prog W base spare held n 22 (List.take (Try.prog.cellsOf 22) [c0, c1']) = some y0 := hf 0 _ rfl
    have h1 : DataW.trod enc Try.prog W base spare held n 22 (List.take (Try.prog.cellsOf 22) [c1']) = some y1 := hf 1 _ rfl
    rw [c1] at h0 h1
    obtain ⟨d0, e0, _, w0⟩ := DataW.trod_int Try.underlying22 h0
    obtain ⟨d1, e1, _, w1⟩ := DataW.trod_int Try.underlying22 h1
    simp at e0 e1
    obtain ⟨n0, rfl⟩ := Int.eq_ofNat_of_zero_le (bounds_u64 w0).1
    obtain ⟨n1, rfl⟩ := Int.eq_ofNat_of_zero_le (bounds_u64 w1).1
    exact ⟨⟨n0, n1⟩, by have := (bounds_u64 w0).2; show n0 < _; omega, by have := (bounds_u64 w1).2; show n1 < _; omega, by rw [e0, e1]⟩

theorem open_share {H : Type} {enc : TypeId × Value → H} {W : World} {r : Reach} {b0 base : Nat} {spare : Nat → Bool} {held : Bool} {v : Value} {d : DataW H} {p : List MemPlace}
    (hv : Value.okWide Try.prog W r b0 33 v) (h : DataW.Trod enc Try.prog W base spare held 33 v d p) :
    ∃ r s : Nat, r < 18446744073709551616 ∧ s < 18446744073709551616 ∧ v = .agg #[.int .u64 (r : Int), .int .u64 (s : Int)] := by
  obtain ⟨cs, rfl, hsz⟩ := okWide_struct Try.underlying33 hv
  obtain ⟨fuel, hf⟩ := h
  obtain ⟨s, hr, hs, ec⟩ := share_parts hf (by
    show cs.toList.length = 2
    rw [Array.length_toList, hsz]
    kernel_rfl)
  refine ⟨s.a, s.v, hr, hs, ?_⟩
  have e' : cs.toList = [.int .u64 (s.a : Int), .int .u64 (s.v : Int)] := ec
  rw [← Array.toArray_toList (xs := cs), e']

instance : Inhabited Shr := ⟨⟨0, 0⟩⟩

theorem open_shares {H : Type} {enc : TypeId × Value → H} {W : World} {r : Reach} {b0 base : Nat} {spare : Nat → Bool} {held : Bool} {v : Value} {d : DataW H} {p : List MemPlace}
    (hv : Value.okWide Try.prog W r b0 27 v) (h : DataW.Trod enc Try.prog W base spare held 27 v d p) :
    ∃ (A : Option Addr) (len cap : Nat) (l : List Shr), v = .slice A len cap ∧ len ≤ 9223372036854775807 ∧ St W A len cap l := by
  obtain ⟨A, len, cap, rfl⟩ := okWide_slice Try.underlying27 hv
  obtain ⟨fuel, hf⟩ := h
  rcases open_slice Try.underlying27 hf with ⟨hcs, _⟩ | ⟨a, l, c, m, n, D, Pl, hcs, _, hl, hm, hmm, _, hx⟩
  · simp [Value.cells] at hcs
    obtain ⟨rfl, rfl, rfl⟩ := hcs
    exact ⟨none, 0, 0, [], rfl, by omega, ⟨rfl, Sd.nil _ _ _, Nat.le_refl _, fun _ => rfl, fun s hs => (by cases hs)⟩⟩
  · simp [Value.cells] at hcs
    obtain ⟨rfl, rfl, rfl⟩ := hcs
    rw [show Try.prog.cellsOf 33 = 2 by kernel_rfl] at hx
    have hlm : len ≤ m := by rw [hmm]; split <;> omega
    obtain ⟨O, hO⟩ := choose_lt (α := Shr) (n := len) (p := fun i o => (o.a < 18446744073709551616 ∧ o.v < 18446744073709551616) ∧ ∀ j u, [Value.int .u64 (o.a : Int), .int .u64 (o.v : Int)][j]? = some u → W.cell? (a.add (i * 2 + j)) = some u) (fun i hi => by
      obtain ⟨cs', h1, h2⟩ := hx i (by omega)
      obtain ⟨_, hcl, hat⟩ := World.cells?_some h1
      obtain ⟨o, ho, ho2, e⟩ := share_parts h2 hcl
      refine ⟨o, ⟨ho, ho2⟩, fun j u hu => ?_⟩
      have hj : j < 2 := (List.getElem?_eq_some_iff.1 hu).1
      have := hat j hj
      rw [e, hu] at this
      rw [← Go.Deep.add_add]
      exact this)
    refine ⟨some a, len, cap, (List.range len).map O, rfl, by unfold maxLen at hm; omega, ⟨by simp, fun hp => ?_, hl, fun h => (by cases h), fun o ho => ?_⟩⟩
    · rw [List.length_map, List.length_range] at hp
      obtain ⟨ab, ao, spot⟩ := a
      have h00 := (hO 0 hp).2 0 _ rfl
      have hspot : spot = none := by simpa [Addr.add] using World.cell?_spot h00
      subst hspot
      rw [Addr.add_lit] at h00
      refine ⟨ab, ao, rfl, cell_lt h00, fun i o ho => ?_⟩
      rw [List.getElem?_map] at ho
      obtain ⟨k, hk, rfl⟩ := Option.map_eq_some_iff.1 ho
      obtain ⟨hk1, hk2⟩ := List.getElem?_eq_some_iff.1 hk
      rw [List.getElem_range] at hk2
      subst hk2
      have hil : i < len := by simpa using hk1
      have g0 := (hO i hil).2 0 _ rfl
      have g1 := (hO i hil).2 1 _ rfl
      rw [Addr.add_lit] at g0 g1
      exact ⟨g0, g1⟩
    · obtain ⟨i, hi, rfl⟩ := List.mem_map.1 ho
      exact (hO i (List.mem_range.1 hi)).1

/-- A slice of signed numbers among the arguments. -/
theorem open_i64s {H : Type} {enc : TypeId × Value → H} {W : World} {r : Reach} {b0 base : Nat} {v : Value} {d : DataW H} {p : List MemPlace}
    (hv : Value.okWide Try.prog W r b0 31 v) (h : DataW.Trod enc Try.prog W base (fun _ => true) true 31 v d p) :
    ∃ A len cap l, v = .slice A len cap ∧ Iz W A len l := by
  obtain ⟨A, len, cap, rfl⟩ := okWide_slice Try.underlying31 hv
  obtain ⟨fuel, hf⟩ := h
  rcases open_ints Try.underlying31 Try.underlying3 (by kernel_rfl) hf with ⟨hcs, _⟩ | ⟨a, l, cp, zs, hcs, _, hl, hm, hz, _, hcell, hwz⟩
  · simp [Value.cells] at hcs
    obtain ⟨rfl, rfl, rfl⟩ := hcs
    obtain ⟨l, hl⟩ := row_i64 W none 0 0 [] (.inl ⟨rfl, rfl, rfl, rfl⟩)
    exact ⟨none, 0, 0, l, rfl, hl⟩
  · simp [Value.cells] at hcs
    obtain ⟨rfl, rfl, rfl⟩ := hcs
    obtain ⟨l', hl'⟩ := row_i64 W (some a) len cap zs (.inr ⟨_, rfl, hl, hm, by simpa using hz, hcell, hwz⟩)
    exact ⟨_, _, _, l', rfl, hl'⟩

/-- A slice of numbers among the arguments. -/
theorem open_u64s {H : Type} {enc : TypeId × Value → H} {W : World} {r : Reach} {b0 base : Nat} {v : Value} {d : DataW H} {p : List MemPlace}
    (hv : Value.okWide Try.prog W r b0 23 v) (h : DataW.Trod enc Try.prog W base (fun _ => true) true 23 v d p) :
    ∃ A len cap l, v = .slice A len cap ∧ len ≤ 9223372036854775807 ∧ In W A len cap l := by
  obtain ⟨A, len, cap, rfl⟩ := okWide_slice Try.underlying23 hv
  obtain ⟨fuel, hf⟩ := h
  rcases open_ints Try.underlying23 Try.underlying22 (by kernel_rfl) hf with ⟨hcs, _⟩ | ⟨a, l, cp, zs, hcs, _, hl, hm, hz, _, hcell, hwz⟩
  · simp [Value.cells] at hcs
    obtain ⟨rfl, rfl, rfl⟩ := hcs
    obtain ⟨l, hl⟩ := row_u64 W none 0 0 [] (.inl ⟨rfl, rfl, rfl, rfl⟩)
    exact ⟨none, 0, 0, l, rfl, by omega, hl⟩
  · simp [Value.cells] at hcs
    obtain ⟨rfl, rfl, rfl⟩ := hcs
    obtain ⟨l', hl'⟩ := row_u64 W (some a) len cap zs (.inr ⟨_, rfl, hl, hm, by simpa using hz, hcell, hwz⟩)
    exact ⟨_, _, _, l', rfl, by unfold maxLen at hm; omega, hl'⟩
end Go.Proofs.Ythnbkbmhlalpaaa
