/-
  Package hash's Of and Secret: the sum of a label and numbers, as the chapter says it; what was there is left as it was. For every label and all numbers of 64 bits that memory can hold.
-/
import Derived.Test.YtalljoneflepiaaWords
namespace Go.Proofs.Ytalljoneflepiaa
open Go.RowKit Go.Shelf
attribute [local go_sem] Oper.semAt_some

theorem blk_kept {W W' : World} {row : Option Nat} {B t : Nat} {cs : Array Value} (h : Blk W B t cs) (hg : W.grownBy W' row) (hr : ∀ r, row = some r → ∃ o : Obj, W.heap[r]? = some o ∧ o.isCells = false) : Blk W' B t cs := by
  refine (hg.block B h.lt fun e => ?_).trans h
  obtain ⟨o, ho, hc⟩ := hr B e.symm
  unfold Blk at h
  rw [h] at ho
  injection ho with ho
  subst ho
  cases hc
theorem blk_own {β : Type} (B t : Nat) (f : β → Array Value) : Own (fun s W => Blk W B t (f s)) := fun _ _ _ _ h hg hr => blk_kept h hg hr
theorem blk_new (w : World) (t : Nat) (cs : Array Value) : Blk (w.alloc (.cells cs t)) w.heap.size t cs := heap_alloc_new w _
theorem blk_alloc {w : World} {B t : Nat} {cs : Array Value} (h : Blk w B t cs) (o : Obj) : Blk (w.alloc o) B t cs := (Below.heap_alloc w o B h.lt).trans h

namespace Hsh
/-- The state behind some words. -/
def st (label : List UInt8) (pre : List Nat) : Nat := fold label.length 1 pre
theorem st_snoc (label : List UInt8) (pre : List Nat) (x : Nat) : st label (pre ++ [x]) = step (st label pre) (pre.length + 1) x := by
  unfold st
  rw [fold_snoc, Nat.add_comm 1]
theorem st_lt (label : List UInt8) (pre : List Nat) (h : label.length < 18446744073709551616) : st label pre < 18446744073709551616 := fold_lt _ _ _ h
end Hsh

end Go.Proofs.Ytalljoneflepiaa
