/-
  Package draw's words, and what draws are in memory: their blocks, how many were drawn; what leaves them as they were. No condition.
-/
import Derived.Test.YtkicjjcangkneaaGreatDoorJa
namespace Go.Proofs.YtkicjjcangkneaaGreatDoor
open Go.RowKit

/-! ### the words of the chapter -/
namespace Dw
/-- The label: draw. -/
def label : List UInt8 := [100, 114, 97, 119]
/-- The k-th that is drawn. -/
def nth (seed : Nat) (l : List Nat) (k : Nat) : Nat :=
  if k ≤ l.length then 1 + l.getD (k - 1) 0 % 2305843009213693949 else Hsh.secret label [seed % 2305843009213693951, k - l.length]
theorem secret_pos (s : List UInt8) (l : List Nat) : 1 ≤ Hsh.secret s l ∧ Hsh.secret s l ≤ 2305843009213693949 := by
  unfold Hsh.secret
  have := Nat.mod_lt (Hsh.of s l) (show 0 < 2305843009213693949 by decide)
  omega
theorem nth_pos (seed : Nat) (l : List Nat) (k : Nat) : 1 ≤ nth seed l k ∧ nth seed l k ≤ 2305843009213693949 := by
  unfold nth
  split
  · have := Nat.mod_lt (l.getD (k - 1) 0) (show 0 < 2305843009213693949 by decide)
    omega
  · exact secret_pos _ _
theorem nth_said (seed : Nat) (l : List Nat) (k : Nat) (hk : k < l.length) : nth seed l (k + 1) = 1 + l[k] % 2305843009213693949 := by
  unfold nth
  rw [if_pos (by omega), Nat.add_sub_cancel, List.getD_eq_getElem?_getD, List.getElem?_eq_getElem hk]
  rfl
theorem nth_behind (seed : Nat) (l : List Nat) (k : Nat) (hk : l.length < k) : nth seed l k = Hsh.secret label [seed % 2305843009213693951, k - l.length] := by
  unfold nth
  rw [if_neg (by omega)]
theorem nth_mod (seed : Nat) (l : List Nat) (k : Nat) : nth (seed % 2305843009213693951) l k = nth seed l k := by
  unfold nth
  rw [Nat.mod_mod]
theorem nth_skip (seed : Nat) (l : List Nat) (k : Nat) (hk : 0 < k) : nth seed l (l.length + k) = nth seed [] k := by
  rw [nth_behind _ _ _ (by omega), nth_behind _ _ _ (by simpa using hk), Nat.add_sub_cancel_left]
  simp
end Dw

/-! ### what draws are in memory -/
/-- A list that lies in memory, from block lo on. -/
def Kp (lo : Nat) (w : World) (A : Option Addr) (l : List Nat) : Prop :=
  0 < l.length → ∃ b off, A = some ⟨b, off, none⟩ ∧ lo ≤ b ∧ b < w.heap.size ∧ ∀ i u, (u64s l)[i]? = some u → w.cell? ⟨b, off + i, none⟩ = some u

theorem Kp.grown {lo : Nat} {w w' : World} {A : Option Addr} {l : List Nat} (h : Kp lo w A l) (row : Option Nat) (hg : w.grownBy w' row)
    (hr : ∀ g, row = some g → g < lo ∨ ∃ z : Int, Blk w g 3 #[.int .i64 z]) : Kp lo w' A l := fun hp => by
  obtain ⟨b, off, e, h1, h2, hc⟩ := h hp
  refine ⟨b, off, e, h1, Nat.lt_of_lt_of_le h2 hg.size, fun i u hu => ?_⟩
  refine hg.cell (hc i u hu) fun eb => ?_
  rcases hr b eb.symm with h3 | ⟨z, h3⟩
  · omega
  · have hcell := hc i u hu
    rw [h3.cell] at hcell
    have h0 : u64s l = l.map fun n : Nat => Value.int .u64 (n : Int) := rfl
    rw [h0, List.getElem?_map] at hu
    obtain ⟨n, _, rfl⟩ := Option.map_eq_some_iff.1 hu
    rcases hoi : off + i with _ | j
    · rw [hoi] at hcell; simp at hcell
    · rw [hoi] at hcell; simp at hcell

theorem blk_grown {w w' : World} {B t : Nat} {cs : Array Value} {row : Option Nat} (h : Blk w B t cs) (hg : w.grownBy w' row) (hr : some B ≠ row) : Blk w' B t cs := (hg.block B h.lt hr).trans h
theorem blk_type {w : World} {B t t' : Nat} {cs cs' : Array Value} (h : Blk w B t cs) (h' : Blk w B t' cs') : t = t' := by
  unfold Blk at h h'
  rw [h] at h'
  injection h' with h'
  injection h' with _ h'

end Go.Proofs.YtkicjjcangkneaaGreatDoor
