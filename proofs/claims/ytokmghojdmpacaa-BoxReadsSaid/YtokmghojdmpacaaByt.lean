/-
  The library's AppendSeq over package hash's words, and package hash's Bytes: the sum of a label and bytes, as the chapter says it; what was there is left as it was. For every label and up to 2^40 bytes.
-/
import Derived.Test.YtokmghojdmpacaaOf
import Derived.Maps.OwnIn
import Derived.Maps.AppendAt
import Derived.RangeFuncBox
import Derived.IntWalk
import Derived.Laws.MakeOwn
namespace Go.Proofs.Ytokmghojdmpacaa
open Go.RowKit Go.Shelf
attribute [local go_sem] Oper.semAt_some

theorem info_u64 : (Try.prog.info? 22).map (fun i => (i.zero, i.size, i.bytes)) = some (some (.int .u64 0), 1, 8) := by kernel_rfl
theorem u64s_snoc (l : List Nat) (x : Nat) : u64s (l ++ [x]) = u64s l ++ [.int .u64 (x : Int)] := by simp [u64s]

theorem make_u64 (q : Nat) (hq : q ≤ 1099511627776) : ∃ cur : Array Value, cur.size = q * 1 ∧
    ∀ W : World, (Instr.makeSlice 41 (.int .i64 0) (.int .i64 (q : Int))).run Try.prog W = .ok (.slice (some ⟨W.heap.size, 0, none⟩) 0 q) (W.alloc (.cells cur 22)) := by
  obtain ⟨i0, hi, hz0, hz1, hz2⟩ := info_parts info_u64
  refine ⟨madeCells #[.int .u64 0] (q * 1), size_madeCells _ _, fun W => ?_⟩
  have h := run_make (P := Try.prog) W 41 22 i0 (.int .u64 0) Try.underlying41 hi hz0 .i64 .i64 0 (q : Int) (by omega) (by omega) (by rw [hz2]; omega) (by omega)
  rw [hz1] at h
  exact h

theorem below_to_drew {n : Nat} {w w' : World} (h : Below n w w') : Below n w w'.drew := ⟨h.os, h.tape, h.output, h.size, h.block⟩
theorem Rd.of_own {w : World} {base e n c : Nat} {A : Option Addr} {vs : List Value} (h : w.ownsRow base e 1 (.slice A n c) n vs) : Rd w.heap.size w A vs := fun hp => by
  rcases h.2 with ⟨_, h0⟩ | ⟨g, cap, cur, e1, _, hg, _⟩
  · have := h.1; omega
  · have hc := h.cells (g := g) (by rw [e1]; rfl)
    injection e1 with e1
    subst e1
    exact ⟨g, 0, rfl, (Array.getElem?_eq_some_iff.1 hg).1, fun i u hu => by have h1 := hc i u hu; rwa [Addr.add_lit] at h1⟩

end Go.Proofs.Ytokmghojdmpacaa
