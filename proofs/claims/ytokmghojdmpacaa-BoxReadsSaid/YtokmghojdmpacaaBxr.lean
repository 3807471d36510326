/-
  A box among the arguments, by value.
-/
import Derived.Test.YtokmghojdmpacaaRows
import Derived.WalkKit
import Derived.ProofKit
import Derived.OpenShut
import Derived.Deep.Fields
namespace Go.Proofs.Ytokmghojdmpacaa
open Go.ChangeShapes Go.WideShapes Go.ChangeAt Go.RowKit Go.Deep

theorem box_parts {H : Type} {enc : TypeId × Value → H} {W : World} {base fuel : Nat} {spare : Nat → Bool} {held : Bool} {cs : List Value} {x : DataW H × List MemPlace}
    (h : DataW.trod enc Try.prog W base spare held fuel 25 cs = some x) (hl : cs.length = 4) :
    ∃ t e b g : Nat, cs = [.int .u64 (t : Int), .int .u64 (e : Int), .int .u64 (b : Int), .int .u64 (g : Int)] := by
  obtain ⟨xs, n, _, _, _, hlen, hf⟩ := DataW.trod_struct Try.underlying25 h
  have c1 : Try.prog.cellsOf 22 = 1 := by kernel_rfl
  match cs, hl, xs, hlen with
  | [c0, c1', c2, c3], _, [y0, y1, y2, y3], _ =>
    have h0 : DataW.trod enc Try.prog W base spare held n 22 (List.take (Try.prog.cellsOf 22) [c0, c1', c2, c3]) = some y0 := hf 0 _ rfl
    have h1 : DataW.trod enc Try.prog W base spare held n 22 (List.take (Try.prog.cellsOf 22) [c1', c2, c3]) = some y1 := hf 1 _ rfl
    have h2 : DataW.trod enc Try.prog W base spare held n 22 (List.take (Try.prog.cellsOf 22) [c2, c3]) = some y2 := hf 2 _ rfl
    have h3 : DataW.trod enc Try.prog W base spare held n 22 (List.take (Try.prog.cellsOf 22) [c3]) = some y3 := hf 3 _ rfl
    rw [c1] at h0 h1 h2 h3
    obtain ⟨d0, e0, _, w0⟩ := DataW.trod_int Try.underlying22 h0
    obtain ⟨d1, e1, _, w1⟩ := DataW.trod_int Try.underlying22 h1
    obtain ⟨d2, e2, _, w2⟩ := DataW.trod_int Try.underlying22 h2
    obtain ⟨d3, e3, _, w3⟩ := DataW.trod_int Try.underlying22 h3
    simp at e0 e1 e2 e3
    obtain ⟨n0, rfl⟩ := Int.eq_ofNat_of_zero_le (bounds_u64 w0).1
    obtain ⟨n1, rfl⟩ := Int.eq_ofNat_of_zero_le (bounds_u64 w1).1
    obtain ⟨n2, rfl⟩ := Int.eq_ofNat_of_zero_le (bounds_u64 w2).1
    obtain ⟨n3, rfl⟩ := Int.eq_ofNat_of_zero_le (bounds_u64 w3).1
    exact ⟨n0, n1, n2, n3, by rw [e0, e1, e2, e3]⟩

theorem open_box {H : Type} {enc : TypeId × Value → H} {W : World} {r : Reach} {b0 base : Nat} {spare : Nat → Bool} {held : Bool} {v : Value} {d : DataW H} {p : List MemPlace}
    (hv : Value.okWide Try.prog W r b0 25 v) (h : DataW.Trod enc Try.prog W base spare held 25 v d p) :
    ∃ t e b g : Nat, v = .agg #[.int .u64 (t : Int), .int .u64 (e : Int), .int .u64 (b : Int), .int .u64 (g : Int)] := by
  obtain ⟨cs, rfl, hsz⟩ := okWide_struct Try.underlying25 hv
  obtain ⟨fuel, hf⟩ := h
  obtain ⟨t, e, b, g, ec⟩ := box_parts hf (by
    show cs.toList.length = 4
    rw [Array.length_toList, hsz]
    kernel_rfl)
  refine ⟨t, e, b, g, ?_⟩
  have e' : cs.toList = [.int .u64 (t : Int), .int .u64 (e : Int), .int .u64 (b : Int), .int .u64 (g : Int)] := ec
  rw [← Array.toArray_toList (xs := cs), e']

end Go.Proofs.Ytokmghojdmpacaa
