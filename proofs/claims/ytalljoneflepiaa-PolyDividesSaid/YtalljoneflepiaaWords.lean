/-
  Package hash's words, of a string and of bytes: an iterator that hands out the sevens of bytes as numbers, for every loop body that keeps what lay ahead of it.
-/
import Derived.Test.YtalljoneflepiaaWord
import Derived.Test.YtalljoneflepiaaOpsB
import Derived.RangeFuncNested
import Derived.RangeFuncBound
import Derived.RangeFuncCalls
import Derived.RangeFuncLeaves
import Derived.Shelf.Abstract
import Derived.Shelf.RegionOpen
import Derived.OwnWalkIn
import Derived.TacticsInMore
import Derived.LoopNIn
import Derived.LoopIn
namespace Go.Proofs.Ytalljoneflepiaa
open Go.RowKit Go.Shelf
attribute [local go_sem] Oper.semAt_some

/-- A number of 64 bits. -/
def Wd : Type := { n : Nat // n < 18446744073709551616 }
def Wd.val (x : Wd) : Nat := Subtype.val x
theorem Wd.lt (x : Wd) : x.val < 18446744073709551616 := Subtype.property x
def Wd.enc (x : Wd) : Array Value := #[Value.int .u64 (x.val : Int)]
namespace Hsh
def wordW (l : List UInt8) (k : Nat) : Wd := ⟨word l k, Nat.lt_trans (word_lt l k) (by omega)⟩
theorem wordW_val (l : List UInt8) (k : Nat) : (wordW l k).val = word l k := rfl
def uptoW (l : List UInt8) (k : Nat) : List Wd := (List.range k).map (wordW l)
theorem uptoW_succ (l : List UInt8) (k : Nat) : uptoW l (k + 1) = uptoW l k ++ [wordW l k] := by simp [uptoW, List.range_succ]
theorem uptoW_val (l : List UInt8) (k : Nat) : (uptoW l k).map Wd.val = upto l k := by
  simp only [uptoW, upto, List.map_map]
  rfl
theorem uptoW_len (l : List UInt8) (k : Nat) : (uptoW l k).length = k := by simp [uptoW]
end Hsh

theorem extract_list (s : ByteArray) (a b : Nat) : (s.extract a b).data.toList = (s.data.toList.drop a).take (b - a) := by
  rw [ByteArray.data_extract, Array.toList_extract, List.extract_eq_take_drop]

theorem word_extract (s : ByteArray) (k b : Nat) (hb : b = min (7 * k + 7) s.size) : Hsh.le (s.extract (7 * k) b).data.toList = Hsh.word s.data.toList k := by
  rw [extract_list]
  unfold Hsh.word Hsh.chunk
  have hl : s.data.toList.length = s.size := rfl
  congr 1
  rcases Nat.le_total (7 * k + 7) s.size with h | h
  · rw [show b - 7 * k = 7 by omega]
  · rw [List.take_of_length_le (by rw [List.length_drop, hl]; omega), List.take_of_length_le (by rw [List.length_drop, hl]; omega)]

/-- Whatever lies below n, but for block g, lies as it lay. -/
def KeepsBut (g n : Nat) (W W' : World) : Prop := ∀ k, k < n → k ≠ g → W'.heap[k]? = W.heap[k]?
theorem KeepsBut.refl (g n : Nat) (W : World) : KeepsBut g n W W := fun _ _ _ => rfl
theorem KeepsBut.trans {g n : Nat} {A B C : World} (h : KeepsBut g n A B) (k : KeepsBut g n B C) : KeepsBut g n A C := fun i hi hg => (k i hi hg).trans (h i hi hg)
theorem KeepsBut.cell {g n : Nat} {W W' : World} (h : KeepsBut g n W W') {p : Addr} (hp : p.block < n) (hg : p.block ≠ g) : W'.cell? p = W.cell? p := World.cell?_of_block (h _ hp hg)
theorem KeepsBut.of_below {g n : Nat} {W W' : World} (h : Below n W W') : KeepsBut g n W W' := fun k hk _ => h.block k hk
theorem KeepsBut.of_grown {g n : Nat} {W W' : World} (h : W.grownBy W' (some g)) (hn : n ≤ W.heap.size) : KeepsBut g n W W' := fun k hk hg => h.block k (by omega) (fun e => hg (by injection e))
theorem KeepsBut.more {g n n' : Nat} {W W' : World} (h : KeepsBut g n W W') (hn : n' ≤ n) : KeepsBut g n' W W' := fun k hk hg => h k (by omega) hg
theorem keepsBut_b {g n : Nat} {w : World} (hn : n ≤ w.heap.size) (W : World) (l : Nat) (o o' : Obj) (hl : w.heap.size ≤ l) (_ : W.heap[l]? = some o) (_ : o.isCells = false) (_ : o.isWalk = false) : KeepsBut g n W (W.putObj l o') :=
  fun _ hk _ => World.putObj_heap_other (by omega)
theorem Rd.keeps {g n n1 : Nat} {w w' : World} {A : Option Addr} {vs : List Value} (h : Rd n1 w A vs) (hk : KeepsBut g n w w') (hn : n1 ≤ n) (hg : n1 ≤ g) : Rd n1 w' A vs := fun hp => by
  obtain ⟨b, off, e, hlt, hc⟩ := h hp
  exact ⟨b, off, e, hlt, fun i u hu => (hk.cell (p := ⟨b, off + i, none⟩) (by show b < n; omega) (by show b ≠ g; omega)).trans (hc i u hu)⟩

theorem slice_string (s : ByteArray) (a b : Nat) (j : Int) (h1 : a ≤ b) (h2 : b ≤ s.size) (hj : j = (b : Int)) (W : World) :
    (Instr.slice 9 (.string s) (some (.int .i64 (a : Int))) (some (.int .i64 j)) none).run Try.prog W = .ok (.string (s.extract a b)) W := by
  have h := run_slice_string (P := Try.prog) W 9 s .i64 .i64 (a : Int) j Try.underlying9 (by omega) (by omega) (by omega)
  rw [h, hj]
  rfl

theorem word_take (xs : List UInt8) (k b : Nat) (hb : b = min (7 * k + 7) xs.length) : Hsh.le ((xs.drop (7 * k)).take (b - 7 * k)) = Hsh.word xs k := by
  unfold Hsh.word Hsh.chunk
  congr 1
  rcases Nat.le_total (7 * k + 7) xs.length with h | h
  · rw [show b - 7 * k = 7 by omega]
  · rw [List.take_of_length_le (by rw [List.length_drop]; omega), List.take_of_length_le (by rw [List.length_drop]; omega)]
theorem u8s_part {w : World} {g off : Nat} (xs : List UInt8) (h : ∀ i u, (u8s xs)[i]? = some u → w.cell? ⟨g, off + i, none⟩ = some u) (a b : Nat) :
    ∀ i u, (u8s ((xs.drop a).take (b - a)))[i]? = some u → w.cell? ⟨g, off + a + i, none⟩ = some u := by
  intro i u hu
  rw [Nat.add_assoc]
  refine h (a + i) u ?_
  unfold u8s at hu ⊢
  rw [List.getElem?_map, List.getElem?_take, List.getElem?_drop] at hu
  rw [List.getElem?_map]
  split at hu
  · exact hu
  · simp at hu
end Go.Proofs.Ytalljoneflepiaa
