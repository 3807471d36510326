/-
  A pair of slices of bytes among the arguments, by value; a slice of bytes among them.
-/
import Derived.Test.YtfbakfdakmndhaaSel
import Derived.WalkKit
import Derived.ProofKit
import Derived.OpenShut
namespace Go.Proofs.Ytfbakfdakmndhaa
open Go.ChangeShapes Go.WideShapes Go.ChangeAt Go.RowKit

theorem bytes_cell {H : Type} {enc : TypeId × Value → H} {W : World} {base fuel : Nat} {c : Value} {x : DataW H × List MemPlace}
    (h : DataW.trod enc Try.prog W base (fun _ => true) true fuel 23 [c] = some x) :
    ∃ A len cap l, c = .slice A len cap ∧ Bt W A len cap l := by
  have fin : ∀ (A : Option Addr) (len cap : Nat) (zs : List Int), ((A = none ∧ len = 0 ∧ cap = 0 ∧ zs = []) ∨
      ∃ x, A = some x ∧ len ≤ cap ∧ cap ≤ maxLen ∧ zs.length = cap ∧ (∀ i, i < zs.length → W.cell? (x.add i) = some (.int .u8 (zs.getD i 0))) ∧ ∀ n ∈ zs, (Lit.int .u8 n).wf = true) → ∃ l, Bt W A len cap l := by
    intro A len cap zs h
    obtain ⟨l, h1, h2, h3, h4⟩ := row_u8 W A len cap zs h
    exact ⟨l, h1, h2, h4, h3⟩
  rcases open_ints Try.underlying23 Try.underlying5 (by kernel_rfl) h with ⟨hcs, _⟩ | ⟨a, l, cp, zs, hcs, _, hl, hm, hz, _, hcell, hwz⟩
  · injection hcs with hcs
    subst hcs
    obtain ⟨l, hl⟩ := fin none 0 0 [] (.inl ⟨rfl, rfl, rfl, rfl⟩)
    exact ⟨none, 0, 0, l, rfl, hl⟩
  · injection hcs with hcs
    subst hcs
    obtain ⟨l', hl'⟩ := fin (some a) l cp zs (.inr ⟨_, rfl, hl, hm, by simpa using hz, hcell, hwz⟩)
    exact ⟨_, _, _, l', rfl, hl'⟩

theorem open_bytes {H : Type} {enc : TypeId × Value → H} {W : World} {r : Reach} {b0 base : Nat} {v : Value} {d : DataW H} {p : List MemPlace}
    (hv : Value.okWide Try.prog W r b0 23 v) (h : DataW.Trod enc Try.prog W base (fun _ => true) true 23 v d p) :
    ∃ A len cap l, v = .slice A len cap ∧ Bt W A len cap l := by
  obtain ⟨A, len, cap, rfl⟩ := okWide_slice Try.underlying23 hv
  obtain ⟨fuel, hf⟩ := h
  exact bytes_cell hf

theorem open_pair {H : Type} {enc : TypeId × Value → H} {W : World} {r : Reach} {b0 base : Nat} {v : Value} {d : DataW H} {p : List MemPlace}
    (hv : Value.okWide Try.prog W r b0 38 v) (h : DataW.Trod enc Try.prog W base (fun _ => true) true 38 v d p) :
    ∃ A0 m0 d0 l0 A1 m1 d1 l1, v = .agg #[.slice A0 m0 d0, .slice A1 m1 d1] ∧ Bt W A0 m0 d0 l0 ∧ Bt W A1 m1 d1 l1 := by
  have hu := Try.underlying38
  simp only [Value.okWide, hu] at hv
  obtain ⟨cs, rfl, hsz, _⟩ := hv
  have hsz2 : cs.toList.length = 2 := by
    rw [Array.length_toList, hsz]
    kernel_rfl
  obtain ⟨fuel, hf⟩ := h
  have hf' : DataW.trod enc Try.prog W base (fun _ => true) true fuel 38 cs.toList = some (d, p) := hf
  obtain ⟨xs, m, _, _, _, hlen, hx⟩ := DataW.trod_array hu hf'
  have c1 : Try.prog.cellsOf 23 = 1 := by kernel_rfl
  have e0 : cs = cs.toList.toArray := by simp
  match hcl : cs.toList, hsz2, xs, hlen with
  | [c0, c1'], _, [y0, y1], _ =>
    rw [hcl] at hx
    have h0 := hx 0 (by omega)
    have h1 := hx 1 (by omega)
    rw [c1] at h0 h1
    have h0' : DataW.trod enc Try.prog W base (fun _ => true) true m 23 [c0] = some y0 := h0
    have h1' : DataW.trod enc Try.prog W base (fun _ => true) true m 23 [c1'] = some y1 := h1
    obtain ⟨A0, m0, d0, l0, rfl, b0⟩ := bytes_cell h0'
    obtain ⟨A1, m1, d1, l1, rfl, b1⟩ := bytes_cell h1'
    refine ⟨A0, m0, d0, l0, A1, m1, d1, l1, ?_, b0, b1⟩
    rw [e0, hcl]

end Go.Proofs.Ytfbakfdakmndhaa
