/-
  Package poly's addTimes: a list, times a number, is added to what stands at a place in memory; nothing else turns. For lists of numbers of 64 bits that memory can hold.
-/
import Derived.Test.YtalljoneflepiaaLst
import Derived.Test.YtalljoneflepiaaLives
namespace Go.Proofs.Ytalljoneflepiaa
open Go.RowKit

/-- Block g holds the numbers L. -/
def Ar (w : World) (g : Nat) (L : List Nat) : Prop := Blk w g 23 (u64s L).toArray
theorem Ar.lt {w : World} {g : Nat} {L : List Nat} (h : Ar w g L) : g < w.heap.size := Blk.lt h
theorem u64s_get (L : List Nat) (i : Nat) : (u64s L)[i]? = L[i]?.map fun n : Nat => Value.int .u64 (n : Int) := by unfold u64s; rw [List.getElem?_map]
theorem u64s_at {L : List Nat} {i : Nat} (h : i < L.length) : (u64s L)[i]? = some (.int .u64 ((L[i]?.getD 0 : Nat) : Int)) := by
  rw [u64s_get, List.getElem?_eq_getElem h]; rfl
theorem Ar.cell {w : World} {g : Nat} {L : List Nat} (h : Ar w g L) {i : Nat} (hi : i < L.length) : w.cell? ⟨g, i, none⟩ = some (.int .u64 ((L[i]?.getD 0 : Nat) : Int)) := by
  rw [Blk.cell h i, List.getElem?_toArray]; exact u64s_at hi
theorem Ar.frozen {w : World} {g : Nat} {L : List Nat} (h : Ar w g L) (i : Nat) : w.frozen? ⟨g, i, none⟩ = false := Blk.frozen h i
theorem u64s_set (L : List Nat) (i v : Nat) : (u64s (L.set i v)).toArray = (u64s L).toArray.setIfInBounds i (.int .u64 (v : Int)) := by
  unfold u64s
  rw [List.map_set, List.setIfInBounds_toArray]
theorem Ar.set_ {w : World} {g : Nat} {L : List Nat} (h : Ar w g L) (i v : Nat) : Ar (w.setCell ⟨g, i, none⟩ (.int .u64 (v : Int))) g (L.set i v) := by
  unfold Ar; rw [u64s_set]; exact Blk.set_ h i _
theorem Ar.below {w w' : World} {n g : Nat} {L : List Nat} (h : Ar w g L) (hb : Below n w w') (hg : g < n) : Ar w' g L := Blk.below h hb hg
theorem Ar.drew {w : World} {g : Nat} {L : List Nat} (h : Ar w g L) : Ar w.drew g L := h
theorem Ar.rd {w : World} {g B : Nat} {L : List Nat} (h : Ar w g L) (hB : g < B) : Rd B w (some ⟨g, 0, none⟩) (u64s L) := fun _ =>
  ⟨g, 0, rfl, hB, fun i u hu => by rw [Nat.zero_add, Blk.cell h i, List.getElem?_toArray]; exact hu⟩
theorem Rd.take {B : Nat} {w : World} {A : Option Addr} {l : List Nat} (h : Rd B w A (u64s l)) (n : Nat) : Rd B w A (u64s (l.take n)) := fun hp => by
  obtain ⟨b, off, e, hlt, hc⟩ := h (by rw [u64s_len, List.length_take] at hp; rw [u64s_len]; omega)
  refine ⟨b, off, e, hlt, fun i u hu => hc i u ?_⟩
  rw [u64s_get, List.getElem?_take] at hu
  rw [u64s_get]
  split at hu
  · exact hu
  · cases hu

/-- A slice at A holds vs, in memory that is there, but not in block g. -/
def Rq (g : Nat) (w : World) (A : Option Addr) (vs : List Value) : Prop :=
  0 < vs.length → ∃ b off, A = some ⟨b, off, none⟩ ∧ b ≠ g ∧ b < w.heap.size ∧ ∀ i u, vs[i]? = some u → w.cell? ⟨b, off + i, none⟩ = some u
theorem Rq.grown {g : Nat} {w w' : World} {A : Option Addr} {vs : List Value} (h : Rq g w A vs) (hg : w.grownBy w' (some g)) : Rq g w' A vs := fun hp => by
  obtain ⟨b, off, e, hne, hlt, hc⟩ := h hp
  exact ⟨b, off, e, hne, Nat.lt_of_lt_of_le hlt hg.size, fun i u hu => (World.cell?_of_block (hg.block b hlt fun e => hne (by injection e with e))).trans (hc i u hu)⟩
theorem Rd.rq {B g : Nat} {w : World} {A : Option Addr} {vs : List Value} (h : Rd B w A vs) (hg : B ≤ g) (hB : B ≤ w.heap.size) : Rq g w A vs := fun hp => by
  obtain ⟨b, off, e, hlt, hc⟩ := h hp
  exact ⟨b, off, e, by omega, by omega, hc⟩

theorem up_next (L : List Nat) (off : Nat) (a : List Nat) (t k : Nat) : Pl.up L off a t (k + 1) = (Pl.up L off a t k).set (off + k) (Fld.add (L[off + k]?.getD 0) (Fld.mul (a[k]?.getD 0) t)) := rfl
theorem get_big {l : List Nat} (h : ∀ x ∈ l, x < 18446744073709551616) (i : Nat) : l[i]?.getD 0 < 18446744073709551616 := by
  rcases Nat.lt_or_ge i l.length with h1 | h1
  · rw [List.getElem?_eq_getElem h1]; exact h _ (List.getElem_mem h1)
  · rw [List.getElem?_eq_none h1]; decide

set_option maxRecDepth 100000 in
set_option maxHeartbeats 1000000 in
theorem addTimes_any (g off n c : Nat) (L : List Nat) (A : Option Addr) (m ca : Nat) (a : List Nat) (t : Nat) (w : World) (hg : Ar w g L) (hL : ∀ x ∈ L, x < 18446744073709551616) (hoff : off + m ≤ L.length) (hmn : m ≤ n) (hnb : n ≤ 1000000000)
    (hm : m = a.length) (ha : ∀ x ∈ a, x < 18446744073709551616) (ht : t < 18446744073709551616) (hA : Rq g w A (u64s a)) :
    Calls Try.prog 43 #[.slice (some ⟨g, off, none⟩) n c, .slice A m ca, .int .u64 t] w fun e w' => (∃ r, e = .returned r) ∧ Ar w' g (Pl.up L off a t m) ∧ w.grownBy w' (some g) := by
  have HG := Lib.hid hg
  have HL := Lib.hid hL
  have HM := Lib.hid hm
  have HA := Lib.hid hA
  have HAB := Lib.hid ha
  clear hg hL hm hA ha
  go_enter Try.func43, Try.ntmps43
  go_wp2
  go_loopw [6, 7, 10] (fun _ _ i wr => ∃ k : Nat, k ≤ m ∧ i = .int .i64 k ∧ Ar wr g (Pl.up L off a t k) ∧ w.grownBy wr (some g)) (fun _ _ i _ => m - (intOf i).toNat)
  case atStart => exact ⟨0, Nat.zero_le _, rfl, HG.out, only_refl _ _⟩
  case round =>
    obtain ⟨k, hk, rfl, har, hgr⟩ := hrel
    by_cases hlt : k < m
    · have hRq := HA.out.grown hgr
      obtain ⟨b, o2, rfl, hne, hbl, hcl⟩ := hRq (by rw [u64s_len, ← HM.out]; omega)
      have c1 := hcl k _ (u64s_at (by rw [← HM.out]; exact hlt))
      have c2 := har.cell (i := off + k) (by rw [Pl.up_len]; omega)
      rw [Pl.up_get L off a t (off + k) k (Nat.le_refl _)] at c2
      have f2 := har.frozen (off + k)
      have hx := get_big HAB.out k
      have hy := get_big HL.out (off + k)
      have hnx := up_next L off a t k
      obtain ⟨x, hxe⟩ : ∃ x, x = a[k]?.getD 0 := ⟨_, rfl⟩
      obtain ⟨y, hye⟩ : ∃ y, y = L[off + k]?.getD 0 := ⟨_, rfl⟩
      rw [← hxe] at c1 hx hnx
      rw [← hye] at c2 hy hnx
      have hp := Fld.mul_lt x t
      have HN := Lib.hid hnx
      have HR := Lib.hid har
      have q1 : (k : Int) < (n : Int) := by omega
      clear hcl hxe hye hnx har
      go_wp2_with fail
      go_region_with (first
        | (go_at_call 39; refine (mul_any x t _ hx ht).mono ?_; rintro e w' ⟨rfl, rfl⟩)
        | (go_at_call 38; refine (add_any y _ _ hy (by omega)).mono ?_; rintro e w' ⟨rfl, rfl⟩))
      all_goals go_wp2
      all_goals go_roundw
      all_goals first
        | exact ⟨k + 1, hlt, by go_num, by rw [HN.out]; exact HR.out.set_ (off + k) _, only_set hgr _ _⟩
        | exact ⟨k + 1, hlt, by go_num, by rw [HN.out]; exact (HR.out.set_ (off + k) _).drew, only_drew (only_set hgr _ _)⟩
        | (simp [intOf]; omega)
    · have e : k = m := by omega
      subst e
      have HR := Lib.hid har
      clear har
      go_wp2
      go_end0
      exact ⟨⟨_, rfl⟩, HR.out, hgr⟩

end Go.Proofs.Ytalljoneflepiaa
