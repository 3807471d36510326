/-
  Package hash's method take: a word is taken into a state that lies in one block; nothing else that lay there turns. For all words and states of 64 bits.
-/
import Derived.Test.YtdiacpadbndncaaHsh
import Derived.Test.YtdiacpadbndncaaOpsB
import Derived.Below
import Derived.Deep.RegionWith
import Derived.Deep.DrawnRows
import Derived.StillTailTactics
import Derived.Outline
namespace Go.Proofs.Ytdiacpadbndncaa
open Go.RowKit
attribute [local go_sem ↓] Go.wp_at_zero Go.wp_at_succ

/-- Block B is known whole: the cells cs of type t. -/
def Blk (w : World) (B t : Nat) (cs : Array Value) : Prop := w.heap[B]? = some (.cells cs t (0, 0))
theorem Blk.lt {w : World} {B t : Nat} {cs : Array Value} (h : Blk w B t cs) : B < w.heap.size := by
  rcases Nat.lt_or_ge B w.heap.size with h1 | h1
  · exact h1
  · unfold Blk at h; rw [Array.getElem?_eq_none h1] at h; cases h
theorem Blk.cell {w : World} {B t : Nat} {cs : Array Value} (h : Blk w B t cs) (i : Nat) : w.cell? ⟨B, i, none⟩ = cs[i]? := by
  unfold Blk at h; simp [World.cell?, h]
theorem Blk.frozen {w : World} {B t : Nat} {cs : Array Value} (h : Blk w B t cs) (i : Nat) : w.frozen? ⟨B, i, none⟩ = false := by
  unfold Blk at h; simp [World.frozen?, h]
theorem Blk.below {w w' : World} {n B t : Nat} {cs : Array Value} (h : Blk w B t cs) (hb : Below n w w') (hB : B < n) : Blk w' B t cs := (hb.block B hB).trans h
theorem Blk.set_ {w : World} {B t : Nat} {cs : Array Value} (h : Blk w B t cs) (i : Nat) (u : Value) : Blk (w.setCell ⟨B, i, none⟩ u) B t (cs.setIfInBounds i u) := by
  unfold Blk at h ⊢
  simp [World.setCell, Array.getElem?_modify, h]

theorem only_refl (w : World) (row : Option Nat) : w.grownBy w row := ⟨rfl, rfl, rfl, Nat.le_refl _, fun _ _ _ => rfl⟩
theorem only_set {a w : World} {g : Nat} (h : a.grownBy w (some g)) (i : Nat) (u : Value) : a.grownBy (w.setCell ⟨g, i, none⟩ u) (some g) :=
  ⟨h.os, h.tape, h.output, by simpa [World.setCell] using h.size, fun j hj hne => (Below.heap_setCell w ⟨g, i, none⟩ u j (fun e => hne (by rw [e]))).trans (h.block j hj hne)⟩
theorem only_below {a w w' : World} {row : Option Nat} (h : a.grownBy w row) (hb : Below w.heap.size w w') : a.grownBy w' row :=
  ⟨hb.os.trans h.os, hb.tape.trans h.tape, hb.output.trans h.output, Nat.le_trans h.size hb.size, fun j hj hne => (hb.block j (Nat.lt_of_lt_of_le hj h.size)).trans (h.block j hj hne)⟩
theorem only_drewN {a w : World} {row : Option Nat} (h : a.grownBy w row) (n : Nat) : a.grownBy (w.drewN n) row := ⟨h.os, h.tape, h.output, h.size, h.block⟩
theorem only_drew {a w : World} {row : Option Nat} (h : a.grownBy w row) : a.grownBy w.drew row := ⟨h.os, h.tape, h.output, h.size, h.block⟩
theorem below_of_drew {n : Nat} {w w' : World} (h : Below n w.drew w') : Below n w w' := ⟨h.os, h.tape, h.output, h.size, h.block⟩
theorem below_of_drewN {n k : Nat} {w w' : World} (h : Below n (w.drewN k) w') : Below n w w' := ⟨h.os, h.tape, h.output, h.size, h.block⟩
/-- What lies below n, if the one block that turns lies beyond it. -/
theorem below_only {a w : World} {n g : Nat} (h : a.grownBy w (some g)) (hn : n ≤ g) (ha : n ≤ a.heap.size) : Below n a w :=
  ⟨h.os, h.tape, h.output, h.size, fun j hj => h.block j (by omega) (fun e => by injection e with e; omega)⟩

set_option maxRecDepth 100000 in
set_option maxHeartbeats 1000000 in
theorem take_at (B s k m x : Nat) (w : World) (hB : Blk w B 60 #[.int .u64 s, .int .u64 k]) (hs : s < 18446744073709551616) (hm : m = k + 1) (hk : m < 18446744073709551616) (hx : x < 18446744073709551616) :
    Calls Try.prog 51 #[.pointer (some ⟨B, 0, none⟩), .int .u64 x] w fun e w' => (∃ r, e = .returned r) ∧
      Blk w' B 60 #[.int .u64 (Hsh.step s m x : Nat), .int .u64 (m : Nat)] ∧ w.grownBy w' (some B) := by
  have c0 : w.cell? ⟨B, 0, none⟩ = some (.int .u64 s) := hB.cell 0
  have c1 : w.cell? ⟨B, 1, none⟩ = some (.int .u64 k) := hB.cell 1
  have f1 : w.frozen? ⟨B, 1, none⟩ = false := hB.frozen 1
  have f0 : w.frozen? ⟨B, 0, none⟩ = false := hB.frozen 0
  have hmi : (k : Int) + 1 = (m : Int) := by omega
  have HB := Lib.hid hB
  have hk' : (k : Int) ≤ 18446744073709551614 := by omega
  clear hm hB
  go_enter Try.func51, Try.ntmps51
  go_wp2_with fail
  have hB := HB.out
  clear HB hmi
  have hB1 := hB.set_ 1 (.int .u64 (m : Int))
  have hg1 : w.grownBy (w.setCell ⟨B, 1, none⟩ (.int .u64 (m : Int))) (some B) := only_set (only_refl _ _) 1 _
  obtain ⟨w1, hw1⟩ : ∃ w1, w1 = w.setCell ⟨B, 1, none⟩ (.int .u64 (m : Int)) := ⟨_, rfl⟩
  rw [← hw1] at hB1 hg1 ⊢
  clear hw1 c0 c1 f0 f1 hB
  have hB2 : Blk w1 B 60 #[.int .u64 s, .int .u64 (m : Int)] := hB1
  have hlt : B < w1.heap.size := hB2.lt
  have c0 : w1.cell? ⟨B, 0, none⟩ = some (.int .u64 s) := hB2.cell 0
  have c1 : w1.cell? ⟨B, 1, none⟩ = some (.int .u64 (m : Int)) := hB2.cell 1
  have f0 : w1.frozen? ⟨B, 0, none⟩ = false := hB2.frozen 0
  clear hB1
  have a1 := Fld.mul_lt 37 s
  have a2 := Fld.add_lt x m
  have a3 := Fld.add_lt (Fld.mul 37 s) (Fld.add x m)
  have HB2 := Lib.hid hB2
  clear hB2
  go_region_with (first
    | (go_at_call 22; refine (mul_any 37 _ _ (by omega) (by omega)).mono ?_; rintro e w' ⟨rfl, rfl⟩)
    | (go_at_call 60; refine (add_any _ _ _ (by omega) (by omega)).mono ?_; rintro e w' ⟨rfl, rfl⟩)
    | (go_at_call 20; refine (pow_any _ 17 _ (by omega) (by omega)).mono ?_; rintro e w2 ⟨rfl, hb⟩; have d0 := (hb.cell (p := ⟨B, 0, none⟩) hlt).trans c0; have g0 := (hb.frozen (p := ⟨B, 0, none⟩) hlt).trans f0))
  all_goals go_wp2
  all_goals go_end0
  all_goals refine ⟨⟨_, rfl⟩, ?_, ?_⟩
  all_goals replace hb : Below w1.heap.size w1 w2 := below_of_drew hb
  all_goals first
    | exact ((Blk.below (n := w1.heap.size) HB2.out hb hlt).set_ 0 _)
    | exact only_set (only_below hg1 hb) 0 _

theorem take_any (B s k x : Nat) (w : World) (hB : Blk w B 60 #[.int .u64 s, .int .u64 k]) (hs : s < 18446744073709551616) (hk : k + 1 < 18446744073709551616) (hx : x < 18446744073709551616) :
    Calls Try.prog 51 #[.pointer (some ⟨B, 0, none⟩), .int .u64 x] w fun e w' => (∃ r, e = .returned r) ∧
      Blk w' B 60 #[.int .u64 (Hsh.step s (k + 1) x : Nat), .int .u64 ((k + 1 : Nat) : Int)] ∧ w.grownBy w' (some B) :=
  take_at B s k (k + 1) x w hB hs rfl hk hx

end Go.Proofs.Ytdiacpadbndncaa
