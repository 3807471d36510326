/-
  A signature among the arguments, by value; a slice of bytes among them.
-/
import Derived.Test.YtdiacpadbndncaaSgo
import Derived.WalkKit
import Derived.ProofKit
import Derived.OpenShut
import Derived.Deep.Fields
namespace Go.Proofs.Ytdiacpadbndncaa
open Go.ChangeShapes Go.WideShapes Go.ChangeAt Go.RowKit Go.Deep

theorem bytes_cell {H : Type} {enc : TypeId × Value → H} {W : World} {base fuel : Nat} {c : Value} {x : DataW H × List MemPlace}
    (h : DataW.trod enc Try.prog W base (fun _ => true) true fuel 23 [c] = some x) :
    ∃ A len cap l, c = .slice A len cap ∧ Bt W A len cap l := by
  have fin : ∀ (A : Option Addr) (len cap : Nat) (zs : List Int), ((A = none ∧ len = 0 ∧ cap = 0 ∧ zs = []) ∨
      ∃ x, A = some x ∧ len ≤ cap ∧ cap ≤ maxLen ∧ zs.length = cap ∧ (∀ i, i < zs.length → W.cell? (x.add i) = some (.int .u8 (zs.getD i 0))) ∧ ∀ n ∈ zs, (Lit.int .u8 n).wf = true) → ∃ l, Bt W A len cap l := by
    intro A len cap zs h
    obtain ⟨l, h1, h2, h3, h4⟩ := row_u8 W A len cap zs h
    exact ⟨l, h1, h2, h4, h3⟩
  rcases open_ints Try.underlying23 Try.underlying5 (by kernel_rfl) h with ⟨hcs, _⟩ | ⟨a, l, cp, zs, hcs, _, hl, hm, hz, _, hcell, hwz⟩
  · injection hcs with hcs
    subst hcs
    obtain ⟨l, hl⟩ := fin none 0 0 [] (.inl ⟨rfl, rfl, rfl, rfl⟩)
    exact ⟨none, 0, 0, l, rfl, hl⟩
  · injection hcs with hcs
    subst hcs
    obtain ⟨l', hl'⟩ := fin (some a) l cp zs (.inr ⟨_, rfl, hl, hm, by simpa using hz, hcell, hwz⟩)
    exact ⟨_, _, _, l', rfl, hl'⟩

theorem open_bytes {H : Type} {enc : TypeId × Value → H} {W : World} {r : Reach} {b0 base : Nat} {v : Value} {d : DataW H} {p : List MemPlace}
    (hv : Value.okWide Try.prog W r b0 23 v) (h : DataW.Trod enc Try.prog W base (fun _ => true) true 23 v d p) :
    ∃ A len cap l, v = .slice A len cap ∧ Bt W A len cap l := by
  obtain ⟨A, len, cap, rfl⟩ := okWide_slice Try.underlying23 hv
  obtain ⟨fuel, hf⟩ := h
  exact bytes_cell hf

theorem sig_parts {H : Type} {enc : TypeId × Value → H} {W : World} {base fuel : Nat} {spare : Nat → Bool} {held : Bool} {cs : List Value} {x : DataW H × List MemPlace}
    (h : DataW.trod enc Try.prog W base spare held fuel 28 cs = some x) (hl : cs.length = 2) :
    ∃ r s : Nat, r < 18446744073709551616 ∧ s < 18446744073709551616 ∧ cs = [.int .u64 (r : Int), .int .u64 (s : Int)] := by
  obtain ⟨xs, n, _, _, _, hlen, hf⟩ := DataW.trod_struct Try.underlying28 h
  have c1 : Try.prog.cellsOf 22 = 1 := by kernel_rfl
  match cs, hl, xs, hlen with
  | [c0, c1'], _, [y0, y1], _ =>
    have h0 : DataW.trod enc Try.prog W base spare held n 22 (List.take (Try.prog.cellsOf 22) [c0, c1']) = some y0 := hf 0 _ rfl
    have h1 : DataW.trod enc Try.prog W base spare held n 22 (List.take (Try.prog.cellsOf 22) [c1']) = some y1 := hf 1 _ rfl
    rw [c1] at h0 h1
    obtain ⟨d0, e0, _, w0⟩ := DataW.trod_int Try.underlying22 h0
    obtain ⟨d1, e1, _, w1⟩ := DataW.trod_int Try.underlying22 h1
    simp at e0 e1
    obtain ⟨n0, rfl⟩ := Int.eq_ofNat_of_zero_le (bounds_u64 w0).1
    obtain ⟨n1, rfl⟩ := Int.eq_ofNat_of_zero_le (bounds_u64 w1).1
    exact ⟨n0, n1, by have := (bounds_u64 w0).2; omega, by have := (bounds_u64 w1).2; omega, by rw [e0, e1]⟩

theorem open_sig {H : Type} {enc : TypeId × Value → H} {W : World} {r : Reach} {b0 base : Nat} {spare : Nat → Bool} {held : Bool} {v : Value} {d : DataW H} {p : List MemPlace}
    (hv : Value.okWide Try.prog W r b0 28 v) (h : DataW.Trod enc Try.prog W base spare held 28 v d p) :
    ∃ r s : Nat, r < 18446744073709551616 ∧ s < 18446744073709551616 ∧ v = .agg #[.int .u64 (r : Int), .int .u64 (s : Int)] := by
  obtain ⟨cs, rfl, hsz⟩ := okWide_struct Try.underlying28 hv
  obtain ⟨fuel, hf⟩ := h
  obtain ⟨r, s, hr, hs, ec⟩ := sig_parts hf (by
    show cs.toList.length = 2
    rw [Array.length_toList, hsz]
    kernel_rfl)
  refine ⟨r, s, hr, hs, ?_⟩
  have e' : cs.toList = [.int .u64 (r : Int), .int .u64 (s : Int)] := ec
  rw [← Array.toArray_toList (xs := cs), e']

end Go.Proofs.Ytdiacpadbndncaa
