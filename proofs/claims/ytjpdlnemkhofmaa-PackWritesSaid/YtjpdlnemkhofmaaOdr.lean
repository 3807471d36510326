/-
  A slice of records that came in: nil, or a row of three cells each; and a record by value.
-/
import Derived.Test.YtjpdlnemkhofmaaAll
import Derived.WalkKit
import Derived.ProofKit
import Derived.OpenShut
import Derived.Deep.Slices
import Derived.Deep.Fields
import Derived.Lib.SmallJoins
namespace Go.Proofs.Ytjpdlnemkhofmaa
open Go.ChangeShapes Go.WideShapes Go.ChangeAt Go.RowKit Go.Deep Go.Joins

theorem i64_of {n : Int} (h : (Lit.int .i64 n).wf = true) : -9223372036854775808 ≤ n ∧ n ≤ 9223372036854775807 := bounds_i64 h

instance : Inhabited Pk.Od := ⟨⟨0, 0, ByteArray.empty⟩⟩

theorem rec_parts {H : Type} {enc : TypeId × Value → H} {W : World} {base fuel : Nat} {spare : Nat → Bool} {held : Bool} {cs : List Value} {x : DataW H × List MemPlace}
    (h : DataW.trod enc Try.prog W base spare held fuel 29 cs = some x) (hl : cs.length = 3) :
    ∃ o : Pk.Od, o.ok ∧ cs = [.int .i64 o.d, .int .i64 o.n, .string o.s] := by
  obtain ⟨xs, n, _, _, _, hlen, hf⟩ := DataW.trod_struct Try.underlying29 h
  have c3 : Try.prog.cellsOf 3 = 1 := by kernel_rfl
  have c9 : Try.prog.cellsOf 9 = 1 := by kernel_rfl
  match cs, hl, xs, hlen with
  | [c0, c1, c2], _, [y0, y1, y2], _ =>
    have h0 : DataW.trod enc Try.prog W base spare held n 3 (List.take (Try.prog.cellsOf 3) [c0, c1, c2]) = some y0 := hf 0 _ rfl
    have h1 : DataW.trod enc Try.prog W base spare held n 3 (List.take (Try.prog.cellsOf 3) [c1, c2]) = some y1 := hf 1 _ rfl
    have h2 : DataW.trod enc Try.prog W base spare held n 9 (List.take (Try.prog.cellsOf 9) [c2]) = some y2 := hf 2 _ rfl
    rw [c3] at h0 h1
    rw [c9] at h2
    obtain ⟨d, e0, _, w0⟩ := DataW.trod_int Try.underlying3 h0
    obtain ⟨m, e1, _, w1⟩ := DataW.trod_int Try.underlying3 h1
    obtain ⟨s, e2, _, _⟩ := DataW.trod_string Try.underlying9 h2
    simp at e0 e1 e2
    exact ⟨⟨d, m, s⟩, ⟨(i64_of w0).1, (i64_of w0).2, (i64_of w1).1, (i64_of w1).2⟩, by rw [e0, e1, e2]⟩

theorem open_od {H : Type} {enc : TypeId × Value → H} {W : World} {r : Reach} {b0 base : Nat} {spare : Nat → Bool} {held : Bool} {v : Value} {d : DataW H} {p : List MemPlace}
    (hv : Value.okWide Try.prog W r b0 29 v) (h : DataW.Trod enc Try.prog W base spare held 29 v d p) : ∃ o : Pk.Od, v = Pk.odv o ∧ o.ok := by
  obtain ⟨cs, rfl, hsz⟩ := okWide_struct Try.underlying29 hv
  obtain ⟨fuel, hf⟩ := h
  obtain ⟨o, ho, e⟩ := rec_parts hf (by
    show cs.toList.length = 3
    rw [Array.length_toList, hsz]
    kernel_rfl)
  refine ⟨o, ?_, ho⟩
  show Value.agg cs = Value.agg _
  congr 1
  have e' : cs.toList = [.int .i64 o.d, .int .i64 o.n, .string o.s] := e
  rw [← Array.toArray_toList (xs := cs), e']

theorem open_ods {H : Type} {enc : TypeId × Value → H} {W : World} {r : Reach} {b0 base : Nat} {spare : Nat → Bool} {held : Bool} {v : Value} {d : DataW H} {p : List MemPlace}
    (hv : Value.okWide Try.prog W r b0 22 v) (h : DataW.Trod enc Try.prog W base spare held 22 v d p) :
    ∃ (A : Option Addr) (len cap : Nat) (os : List Pk.Od), v = .slice A len cap ∧ len = os.length ∧ len ≤ 9223372036854775807 ∧ len ≤ cap ∧ (∀ o ∈ os, o.ok) ∧ Ods W.heap.size W A os := by
  obtain ⟨A, len, cap, rfl⟩ := okWide_slice Try.underlying22 hv
  obtain ⟨fuel, hf⟩ := h
  rcases open_slice Try.underlying22 hf with ⟨hcs, _⟩ | ⟨a, l, c, m, n, D, Pl, hcs, _, hl, hm, hmm, _, hx⟩
  · simp [Value.cells] at hcs
    obtain ⟨rfl, rfl, rfl⟩ := hcs
    exact ⟨none, 0, 0, [], rfl, rfl, by omega, Nat.le_refl _, fun o ho => (by cases ho), fun hp => absurd hp (by simp)⟩
  · simp [Value.cells] at hcs
    obtain ⟨rfl, rfl, rfl⟩ := hcs
    rw [show Try.prog.cellsOf 29 = 3 by kernel_rfl] at hx
    have hlm : len ≤ m := by rw [hmm]; split <;> omega
    obtain ⟨O, hO⟩ := choose_lt (α := Pk.Od) (n := len) (p := fun i o => o.ok ∧ ∀ j u, [Value.int .i64 o.d, .int .i64 o.n, .string o.s][j]? = some u → W.cell? (a.add (i * 3 + j)) = some u) (fun i hi => by
      obtain ⟨cs', h1, h2⟩ := hx i (by omega)
      obtain ⟨_, hcl, hat⟩ := World.cells?_some h1
      obtain ⟨o, ho, e⟩ := rec_parts h2 hcl
      refine ⟨o, ho, fun j u hu => ?_⟩
      have hj : j < 3 := (List.getElem?_eq_some_iff.1 hu).1
      have := hat j hj
      rw [e, hu] at this
      rw [← Go.Deep.add_add]
      exact this)
    refine ⟨some a, len, cap, (List.range len).map O, rfl, by simp, by unfold maxLen at hm; omega, hl, fun o ho => ?_, fun hp => ?_⟩
    · obtain ⟨i, hi, rfl⟩ := List.mem_map.1 ho
      exact (hO i (List.mem_range.1 hi)).1
    · rw [List.length_map, List.length_range] at hp
      obtain ⟨ab, ao, spot⟩ := a
      have h00 := (hO 0 hp).2 0 _ rfl
      have hspot : spot = none := by simpa [Addr.add] using World.cell?_spot h00
      subst hspot
      rw [Addr.add_lit] at h00
      refine ⟨ab, ao, rfl, cell_lt h00, fun i o ho => ?_⟩
      rw [List.getElem?_map] at ho
      obtain ⟨k, hk, rfl⟩ := Option.map_eq_some_iff.1 ho
      obtain ⟨hk1, hk2⟩ := List.getElem?_eq_some_iff.1 hk
      rw [List.getElem_range] at hk2
      subst hk2
      have hil : i < len := by simpa using hk1
      have g0 := (hO i hil).2 0 _ rfl
      have g1 := (hO i hil).2 1 _ rfl
      have g2 := (hO i hil).2 2 _ rfl
      rw [Addr.add_lit] at g0 g1 g2
      exact ⟨g0, g1, g2⟩
end Go.Proofs.Ytjpdlnemkhofmaa
