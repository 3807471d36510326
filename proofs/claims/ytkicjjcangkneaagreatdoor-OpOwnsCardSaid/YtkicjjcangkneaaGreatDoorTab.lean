/-
  Joined texts: Otz Osg.
-/
import Derived.Test.YtkicjjcangkneaaGreatDoorOto
import Derived.Test.YtkicjjcangkneaaGreatDoorOtp
import Derived.Test.YtkicjjcangkneaaGreatDoorRows
import Derived.WalkKit
import Derived.ProofKit
import Derived.OpenShut
import Derived.Deep.Slices
import Derived.Deep.Fields
import Derived.Lib.SmallJoins
import Derived.Lib.LaidTab
import Derived.MakeChecks

/-
  From a law's arguments, and from what the row says of the table of kinds, to what the walks ask.
-/
namespace Go.Proofs.YtkicjjcangkneaaGreatDoor
open Go.ChangeShapes Go.WideShapes Go.ChangeAt Go.RowKit Go.Deep Go.Joins
namespace Ot
def theLaid : List (String × DataW Unit) := [("huddle/op.kinds", Rows.laid_huddle_op_kinds)]
theorem kds_of_laid {W : World} (h : laidMetH Tryz.prog theLaid W) : Kds W := by
  rw [MakeChecks.laidMetH_plain _ _ _ (by kernel_rfl)] at h
  have hg : Tryz.prog.globalNamed "huddle/op.kinds" = some 0 := by kernel_rfl
  have ht : Lib.TabIs Tryz.prog W "huddle/op.kinds" .u16 (kd.map fun (n : Nat) => (n : Int)) :=
    Lib.tabIs_of_head (t := 128) (e := 83) (n := 14) hg (by kernel_rfl) (by kernel_rfl) (by kernel_rfl) (by kernel_rfl) (by kernel_rfl) (rest := []) h
  have hc : ∀ (i v : Nat), kd[i]? = some v → W.cell? ⟨0, i, none⟩ = some (.int .u16 (v : Int)) := by
    intro i v hi
    have hl : i < kd.length := (List.getElem?_eq_some_iff.1 hi).1
    have := ht.cell hg i (by rw [List.length_map]; exact hl)
    rw [this, List.getD_eq_getElem?_getD, List.getElem?_map, hi]
    rfl
  exact ⟨World.block_lt_of_cell? W ⟨0, 0, none⟩ (hc 0 0 rfl), hc⟩

set_option maxRecDepth 100000 in
theorem name_parts {H : Type} {enc : TypeId × Value → H} {W : World} {base fuel : Nat} {spare : Nat → Bool} {held : Bool} {cs : List Value} {x : DataW H × List MemPlace}
    (h : DataW.trod enc Tryz.prog W base spare held fuel 27 cs = some x) (hl : cs.length = 3) :
    ∃ t : Pk.Nm, okNm t ∧ cs = [.int .i64 t.a, .int .i64 t.b, .int .u64 (t.c : Int)] := by
  obtain ⟨xs, n, _, _, _, hlen, hf⟩ := DataW.trod_struct Tryz.underlying27 h
  have c1 : Tryz.prog.cellsOf 25 = 1 := by kernel_rfl
  have c2 : Tryz.prog.cellsOf 3 = 1 := by kernel_rfl
  match cs, hl, xs, hlen with
  | [c0, c1', c2'], _, [y0, y1, y2], _ =>
    have h0 : DataW.trod enc Tryz.prog W base spare held n 3 (List.take (Tryz.prog.cellsOf 3) [c0, c1', c2']) = some y0 := hf 0 _ rfl
    have h1 : DataW.trod enc Tryz.prog W base spare held n 3 (List.take (Tryz.prog.cellsOf 3) [c1', c2']) = some y1 := hf 1 _ rfl
    have h2 : DataW.trod enc Tryz.prog W base spare held n 25 (List.take (Tryz.prog.cellsOf 25) [c2']) = some y2 := hf 2 _ rfl
    rw [c2] at h0 h1
    rw [c1] at h2
    obtain ⟨d0, e0, _, w0⟩ := DataW.trod_int Tryz.underlying3 h0
    obtain ⟨d1, e1, _, w1⟩ := DataW.trod_int Tryz.underlying3 h1
    obtain ⟨d2, e2, _, w2⟩ := DataW.trod_int Tryz.underlying25 h2
    simp at e0 e1 e2
    obtain ⟨n2, rfl⟩ := Int.eq_ofNat_of_zero_le (bounds_u64 w2).1
    have k0 := bounds_i64 w0
    have k1 := bounds_i64 w1
    exact ⟨⟨d0, d1, n2⟩, ⟨⟨by show _ ≤ d0; omega, by show d0 ≤ _; omega⟩, ⟨by show _ ≤ d1; omega, by show d1 ≤ _; omega⟩, by have := (bounds_u64 w2).2; show n2 < _; omega⟩, by rw [e0, e1, e2]⟩

set_option maxRecDepth 100000 in
theorem open_name {H : Type} {enc : TypeId × Value → H} {W : World} {r : Reach} {b0 base : Nat} {spare : Nat → Bool} {held : Bool} {v : Value} {d : DataW H} {p : List MemPlace}
    (hv : Value.okWide Tryz.prog W r b0 27 v) (h : DataW.Trod enc Tryz.prog W base spare held 27 v d p) :
    ∃ t : Pk.Nm, okNm t ∧ v = .agg #[.int .i64 t.a, .int .i64 t.b, .int .u64 (t.c : Int)] := by
  obtain ⟨cs, rfl, hsz⟩ := okWide_struct Tryz.underlying27 hv
  obtain ⟨fuel, hf⟩ := h
  obtain ⟨t, hs, ec⟩ := name_parts hf (by
    show cs.toList.length = 3
    rw [Array.length_toList, hsz]
    kernel_rfl)
  refine ⟨t, hs, ?_⟩
  have e' : cs.toList = [.int .i64 t.a, .int .i64 t.b, .int .u64 (t.c : Int)] := ec
  rw [← Array.toArray_toList (xs := cs), e']
theorem cells_int (l : List Int) : kInt.cells l = l.map fun n => Value.int .i64 n := by
  induction l with
  | nil => rfl
  | cons x l ih => rw [kInt.cells_cons, ih]; rfl
theorem row_most {k : IntKind} {w : World} {a : Option Addr} {len cap : Nat} {zs : List Int}
    (h : (a = none ∧ len = 0 ∧ cap = 0 ∧ zs = []) ∨
      ∃ x, a = some x ∧ len ≤ cap ∧ cap ≤ maxLen ∧ zs.length = cap ∧ (∀ i, i < zs.length → w.cell? (x.add i) = some (.int k (zs.getD i 0))) ∧ ∀ n ∈ zs, (Lit.int k n).wf = true) : len ≤ 9223372036854775807 := by
  rcases h with ⟨_, rfl, _, _⟩ | ⟨x, _, hl, hm, _⟩
  · omega
  · unfold maxLen at hm
    omega
theorem row_numbers (w : World) (a : Option Addr) (len cap : Nat) (zs : List Int)
    (h : (a = none ∧ len = 0 ∧ cap = 0 ∧ zs = []) ∨
      ∃ x, a = some x ∧ len ≤ cap ∧ cap ≤ maxLen ∧ zs.length = cap ∧ (∀ i, i < zs.length → w.cell? (x.add i) = some (.int .i64 (zs.getD i 0))) ∧ ∀ n ∈ zs, (Lit.int .i64 n).wf = true) :
    ∃ l : List Int, len = l.length ∧ Lz kInt No w ⟨l, a, cap⟩ ∧ (∀ y ∈ l, i64 y) ∧ l.length ≤ 9223372036854775807 := by
  have hm := row_most h
  obtain ⟨h1, h2, _, h3, h4, h5⟩ := row_any .i64 w a len cap zs h
  refine ⟨zs.take len, h1.symm, ⟨fun hp => ?_, by show (zs.take len).length ≤ cap; rw [h1]; exact h2, h3⟩, fun z hz => ?_, by rw [h1]; exact hm⟩
  · have hp : 0 < (zs.take len).length := hp
    rw [h1] at hp
    obtain ⟨b, off, e, hb, hc⟩ := h5 hp
    refine ⟨b, off, e, hb, fun h => h, fun i u hu => ?_⟩
    have hu : (kInt.cells (zs.take len))[i]? = some u := hu
    rw [cells_int, List.getElem?_map] at hu
    obtain ⟨n, hn, rfl⟩ := Option.map_eq_some_iff.1 hu
    exact hc i n hn
  · have := bounds_i64 (h4 z hz)
    exact ⟨by omega, by omega⟩
theorem row_bytes (w : World) (a : Option Addr) (len cap : Nat) (zs : List Int)
    (h : (a = none ∧ len = 0 ∧ cap = 0 ∧ zs = []) ∨
      ∃ x, a = some x ∧ len ≤ cap ∧ cap ≤ maxLen ∧ zs.length = cap ∧ (∀ i, i < zs.length → w.cell? (x.add i) = some (.int .u8 (zs.getD i 0))) ∧ ∀ n ∈ zs, (Lit.int .u8 n).wf = true) :
    ∃ l : List UInt8, len = l.length ∧ Lz kU8 No w ⟨l, a, cap⟩ ∧ l.length ≤ 9223372036854775807 := by
  have hm := row_most h
  obtain ⟨l, h1, h2, h3, h4⟩ := row_u8 w a len cap zs h
  refine ⟨l, h1, ⟨fun hp => ?_, by show l.length ≤ cap; rw [← h1]; exact h2, h4⟩, by rw [← h1]; exact hm⟩
  have hp : 0 < l.length := hp
  obtain ⟨b, off, e, hb, hc⟩ := h3 (by rw [u8s_len]; exact hp)
  exact ⟨b, off, e, hb, fun h => h, fun i u hu => hc i u (by rw [← cells_u8]; exact hu)⟩
set_option maxRecDepth 100000 in
theorem open_numbers {H : Type} {enc : TypeId × Value → H} {W : World} {r : Reach} {b0 base : Nat} {v : Value} {d : DataW H} {p : List MemPlace}
    (hv : Value.okWide Tryz.prog W r b0 22 v) (h : DataW.Trod enc Tryz.prog W base (fun _ => true) true 22 v d p) :
    ∃ (A : Option Addr) (cap : Nat) (l : List Int), v = .slice A l.length cap ∧ Lz kInt No W ⟨l, A, cap⟩ ∧ (∀ y ∈ l, i64 y) ∧ l.length ≤ 9223372036854775807 := by
  obtain ⟨A, len, cap, rfl⟩ := okWide_slice Tryz.underlying22 hv
  obtain ⟨fuel, hf⟩ := h
  rcases open_ints Tryz.underlying22 Tryz.underlying3 (by kernel_rfl) hf with ⟨hcs, _⟩ | ⟨a, l, cp, zs, hcs, _, hl, hm, hz, _, hcell, hwz⟩
  · simp [Value.cells] at hcs
    obtain ⟨rfl, rfl, rfl⟩ := hcs
    obtain ⟨l, hl, h2⟩ := row_numbers W none 0 0 [] (.inl ⟨rfl, rfl, rfl, rfl⟩)
    exact ⟨none, 0, l, by rw [← hl], h2⟩
  · simp [Value.cells] at hcs
    obtain ⟨rfl, rfl, rfl⟩ := hcs
    obtain ⟨l', hl', h2⟩ := row_numbers W (some a) len cap zs (.inr ⟨_, rfl, hl, hm, by simpa using hz, hcell, hwz⟩)
    exact ⟨_, _, l', by rw [← hl'], h2⟩
set_option maxRecDepth 100000 in
theorem open_bytes8 {H : Type} {enc : TypeId × Value → H} {W : World} {r : Reach} {b0 base : Nat} {v : Value} {d : DataW H} {p : List MemPlace}
    (hv : Value.okWide Tryz.prog W r b0 28 v) (h : DataW.Trod enc Tryz.prog W base (fun _ => true) true 28 v d p) :
    ∃ (A : Option Addr) (cap : Nat) (l : List UInt8), v = .slice A l.length cap ∧ Lz kU8 No W ⟨l, A, cap⟩ ∧ l.length ≤ 9223372036854775807 := by
  obtain ⟨A, len, cap, rfl⟩ := okWide_slice Tryz.underlying28 hv
  obtain ⟨fuel, hf⟩ := h
  rcases open_ints Tryz.underlying28 Tryz.underlying5 (by kernel_rfl) hf with ⟨hcs, _⟩ | ⟨a, l, cp, zs, hcs, _, hl, hm, hz, _, hcell, hwz⟩
  · simp [Value.cells] at hcs
    obtain ⟨rfl, rfl, rfl⟩ := hcs
    obtain ⟨l, hl, h2⟩ := row_bytes W none 0 0 [] (.inl ⟨rfl, rfl, rfl, rfl⟩)
    exact ⟨none, 0, l, by rw [← hl], h2⟩
  · simp [Value.cells] at hcs
    obtain ⟨rfl, rfl, rfl⟩ := hcs
    obtain ⟨l', hl', h2⟩ := row_bytes W (some a) len cap zs (.inr ⟨_, rfl, hl, hm, by simpa using hz, hcell, hwz⟩)
    exact ⟨_, _, l', by rw [← hl'], h2⟩
end Ot
end Go.Proofs.YtkicjjcangkneaaGreatDoor

/-
  A signature among a law's arguments, by value.
-/
namespace Go.Proofs.YtkicjjcangkneaaGreatDoor
open Go.ChangeShapes Go.WideShapes Go.ChangeAt Go.RowKit Go.Deep Go.Joins
set_option maxRecDepth 100000
namespace Ot
theorem sig_parts {H : Type} {enc : TypeId × Value → H} {W : World} {base fuel : Nat} {spare : Nat → Bool} {held : Bool} {cs : List Value} {x : DataW H × List MemPlace}
    (h : DataW.trod enc Tryz.prog W base spare held fuel 33 cs = some x) (hl : cs.length = 2) :
    ∃ r s : Nat, r < 18446744073709551616 ∧ s < 18446744073709551616 ∧ cs = [.int .u64 (r : Int), .int .u64 (s : Int)] := by
  obtain ⟨xs, n, _, _, _, hlen, hf⟩ := DataW.trod_struct Tryz.underlying33 h
  have c1 : Tryz.prog.cellsOf 25 = 1 := by kernel_rfl
  match cs, hl, xs, hlen with
  | [c0, c1'], _, [y0, y1], _ =>
    have h0 : DataW.trod enc Tryz.prog W base spare held n 25 (List.take (Tryz.prog.cellsOf 25) [c0, c1']) = some y0 := hf 0 _ rfl
    have h1 : DataW.trod enc Tryz.prog W base spare held n 25 (List.take (Tryz.prog.cellsOf 25) [c1']) = some y1 := hf 1 _ rfl
    rw [c1] at h0 h1
    obtain ⟨d0, e0, _, w0⟩ := DataW.trod_int Tryz.underlying25 h0
    obtain ⟨d1, e1, _, w1⟩ := DataW.trod_int Tryz.underlying25 h1
    simp at e0 e1
    obtain ⟨n0, rfl⟩ := Int.eq_ofNat_of_zero_le (bounds_u64 w0).1
    obtain ⟨n1, rfl⟩ := Int.eq_ofNat_of_zero_le (bounds_u64 w1).1
    exact ⟨n0, n1, by have := (bounds_u64 w0).2; omega, by have := (bounds_u64 w1).2; omega, by rw [e0, e1]⟩

theorem open_sig {H : Type} {enc : TypeId × Value → H} {W : World} {r : Reach} {b0 base : Nat} {spare : Nat → Bool} {held : Bool} {v : Value} {d : DataW H} {p : List MemPlace}
    (hv : Value.okWide Tryz.prog W r b0 33 v) (h : DataW.Trod enc Tryz.prog W base spare held 33 v d p) :
    ∃ r s : Nat, r < 18446744073709551616 ∧ s < 18446744073709551616 ∧ v = .agg #[.int .u64 (r : Int), .int .u64 (s : Int)] := by
  obtain ⟨cs, rfl, hsz⟩ := okWide_struct Tryz.underlying33 hv
  obtain ⟨fuel, hf⟩ := h
  obtain ⟨r, s, hr, hs, ec⟩ := sig_parts hf (by
    show cs.toList.length = 2
    rw [Array.length_toList, hsz]
    kernel_rfl)
  refine ⟨r, s, hr, hs, ?_⟩
  have e' : cs.toList = [.int .u64 (r : Int), .int .u64 (s : Int)] := ec
  rw [← Array.toArray_toList (xs := cs), e']

end Ot
end Go.Proofs.YtkicjjcangkneaaGreatDoor
