/-
  Package share's placeOf and Add, the reference's Add: what was there is left as it was. Numbers of 64 bits.
-/
import Derived.Test.YthnbkbmhlalpaaaShc
namespace Go.Proofs.Ythnbkbmhlalpaaa
open Go.RowKit

set_option maxRecDepth 100000 in
set_option maxHeartbeats 2000000 in
theorem place_any (a v : Nat) (w : World) (ha : a < 18446744073709551616) :
    Calls Try.prog 31 #[.agg #[.int .u64 (a : Int), .int .u64 (v : Int)]] w fun e w' => e = .returned (.agg #[.int .u64 (Fld.num a : Nat)]) ∧ Below w.heap.size w w' := by
  have H := Lib.hid (fun W => num_any a W ha)
  obtain ⟨m, hm⟩ : ∃ m, m = Fld.num a := ⟨_, rfl⟩
  rw [← hm] at H ⊢
  clear hm
  have hR0 := (blk_new (w.alloc (.cells #[.int .u64 (a : Int), .int .u64 (v : Int)] 33)) 57 #[.int .u64 (m : Int)]).cell 0
  rw [World.size_alloc] at hR0
  have hk : Below w.heap.size w ((w.alloc (.cells #[.int .u64 (a : Int), .int .u64 (v : Int)] 33)).alloc (.cells #[.int .u64 (m : Int)] 57)) := ((Below.refl _ w).alloc (Nat.le_refl _) _).alloc (by simp) _
  go_enter Try.func31, Try.ntmps31
  go_wp2_with fail
  refine (H.out _).mono ?_
  rintro e w1 ⟨rfl, rfl⟩
  go_wp2
  refine bodyPost_ret (v := .agg #[.int .u64 (m : Int)]) (by simp [results, Try.results31, go_sem, hR0]) rfl ⟨rfl, hk⟩

/-- Two cells of a record. -/
theorem two_cells {w : World} {R t : Nat} {x y : Value} (h : Blk w R t #[x, y]) : w.cell? ⟨R, 0, none⟩ = some x ∧ w.cell? ⟨R, 1, none⟩ = some y := ⟨h.cell 0, h.cell 1⟩
/-- A record that is written whole. -/
def set2 (w : World) (R : Nat) (a b : Value) : World := (w.setCell ⟨R, 0, none⟩ a).setCell ⟨R, 1, none⟩ b
theorem blk_set2 {w : World} {R t : Nat} {p q : Value} (h : Blk w R t #[p, q]) (a b : Value) : Blk (set2 w R a b) R t #[a, b] := by
  have h1 := (h.set_ 0 a).set_ 1 b
  exact h1
theorem grown_set2 (w : World) (R : Nat) (a b : Value) : w.grownBy (set2 w R a b) (some R) := only_set (only_set (only_refl _ _) 0 a) 1 b
theorem below_set2 {w : World} {R n : Nat} (a b : Value) (h : n ≤ R) (hn : n ≤ w.heap.size) : Below n w (set2 w R a b) := below_only (grown_set2 w R a b) h hn

theorem cell_set2 {w : World} {R B o : Nat} {v : Value} (h : w.cell? ⟨B, o, none⟩ = some v) (hB : B ≠ R) (a b : Value) : ((w.setCell ⟨R, 0, none⟩ a).setCell ⟨R, 1, none⟩ b).cell? ⟨B, o, none⟩ = some v :=
  (World.cell?_of_block (Below.heap_setCell _ ⟨R, 1, none⟩ b B hB)).trans ((World.cell?_of_block (Below.heap_setCell _ ⟨R, 0, none⟩ a B hB)).trans h)

/-- The share that two are together; which error. -/
def sumS (a v b u : Nat) : Nat × Nat × Nat := if Fld.num a = Fld.num b then (Fld.num a, Fld.add v u, 0) else (0, 0, 29)

set_option maxRecDepth 100000 in
set_option maxHeartbeats 4000000 in
theorem sadd_any (a v b u x y z : Nat) (w : World) (ha : a < 18446744073709551616) (hv : v < 18446744073709551616) (hb : b < 18446744073709551616) (hu : u < 18446744073709551616) (hs : sumS a v b u = (x, y, z)) :
    Calls Try.prog 19 #[.agg #[.int .u64 (a : Int), .int .u64 (v : Int)], .agg #[.int .u64 (b : Int), .int .u64 (u : Int)]] w fun e w' => e = .returned (.tuple #[.agg #[.int .u64 (x : Int), .int .u64 (y : Int)], .int .i64 (z : Int)]) ∧ Below w.heap.size w w' := by
  have HA := Lib.hid (fun W => place_any a v W ha)
  have HB := Lib.hid (fun W => place_any b u W hb)
  have HC := Lib.hid (fun W => add_any v u W hv hu)
  unfold sumS at hs
  obtain ⟨m, hm⟩ : ∃ m, m = Fld.num a := ⟨_, rfl⟩
  obtain ⟨k, hk⟩ : ∃ k, k = Fld.num b := ⟨_, rfl⟩
  obtain ⟨s, hse⟩ : ∃ s, s = Fld.add v u := ⟨_, rfl⟩
  rw [← hm] at HA hs
  rw [← hk] at HB hs
  rw [← hse] at HC hs
  clear hm hk hse
  have hw0s : (((w.alloc (.cells #[.int .u64 (a : Int), .int .u64 (v : Int)] 33)).alloc (.cells #[.int .u64 (b : Int), .int .u64 (u : Int)] 33)).alloc (.cells #[.int .u64 0, .int .u64 0] 33)).heap.size = w.heap.size + 3 := by simp
  have hA0 := blk_alloc (blk_alloc (blk_new w 33 #[.int .u64 (a : Int), .int .u64 (v : Int)]) (.cells #[.int .u64 (b : Int), .int .u64 (u : Int)] 33)) (.cells #[.int .u64 0, .int .u64 0] 33)
  have hB0 := blk_alloc (blk_new (w.alloc (.cells #[.int .u64 (a : Int), .int .u64 (v : Int)] 33)) 33 #[.int .u64 (b : Int), .int .u64 (u : Int)]) (.cells #[.int .u64 0, .int .u64 0] 33)
  have hZ0 := blk_new ((w.alloc (.cells #[.int .u64 (a : Int), .int .u64 (v : Int)] 33)).alloc (.cells #[.int .u64 (b : Int), .int .u64 (u : Int)] 33)) 33 #[.int .u64 0, .int .u64 0]
  rw [World.size_alloc] at hB0
  rw [World.size_alloc, World.size_alloc] at hZ0
  have hk0 : Below w.heap.size w (((w.alloc (.cells #[.int .u64 (a : Int), .int .u64 (v : Int)] 33)).alloc (.cells #[.int .u64 (b : Int), .int .u64 (u : Int)] 33)).alloc (.cells #[.int .u64 0, .int .u64 0] 33)) := (((Below.refl _ w).alloc (Nat.le_refl _) _).alloc (by simp) _).alloc (by simp; omega) _
  obtain ⟨w0, hw0⟩ : ∃ w0, w0 = (((w.alloc (.cells #[.int .u64 (a : Int), .int .u64 (v : Int)] 33)).alloc (.cells #[.int .u64 (b : Int), .int .u64 (u : Int)] 33)).alloc (.cells #[.int .u64 0, .int .u64 0] 33)) := ⟨_, rfl⟩
  rw [← hw0] at hw0s hA0 hB0 hZ0 hk0
  have hfree := place_free
  have hneq := place_neq
  have NQ := Lib.hid hneq
  clear hneq
  go_enter Try.func19, Try.ntmps19
  go_wp2_with fail
  rw [← hw0]
  clear hw0
  refine (HA.out _).mono ?_
  rintro e w1 ⟨rfl, hb1⟩
  have hs1 := hb1.size
  have hk1 := hk0.trans (hb1.mono (by omega))
  have HB1 := Lib.hid (hB0.below hb1 (by omega))
  have HA1 := Lib.hid (hA0.below hb1 (by omega))
  have HZ1 := Lib.hid (hZ0.below hb1 (by omega))
  have hw1 : w.heap.size + 3 ≤ w1.heap.size := by omega
  clear hk0 hb1 hA0 hB0 hZ0 hs1 hw0s
  go_wp2_with fail
  have hP2 := (cell_new_l w1 (.int .u64 (m : Int)) 57).1
  have hB2 := blk_alloc HB1.out (.cells #[.int .u64 (m : Int)] 57)
  have hA2 := blk_alloc HA1.out (.cells #[.int .u64 (m : Int)] 57)
  have hZ2 := blk_alloc HZ1.out (.cells #[.int .u64 (m : Int)] 57)
  have hk2 := hk1.alloc (B := w.heap.size) (by omega) (.cells #[.int .u64 (m : Int)] 57)
  have hs2 : w1.heap.size < (w1.alloc (.cells #[.int .u64 (m : Int)] 57)).heap.size := by simp
  obtain ⟨w2, hw2⟩ : ∃ w2, w2 = w1.alloc (.cells #[.int .u64 (m : Int)] 57) := ⟨_, rfl⟩
  rw [← hw2] at hP2 hB2 hA2 hZ2 hk2 hs2 ⊢
  clear hw2 HB1 HA1 HZ1 hk1
  obtain ⟨P, hP⟩ : ∃ P, P = w1.heap.size := ⟨_, rfl⟩
  rw [← hP] at hP2 hs2 hw1 ⊢
  clear hP
  have hB3 := two_cells hB2
  have hkk := NQ.out m k
  obtain ⟨q, hq⟩ : ∃ q, q = !decide (m = k) := ⟨_, rfl⟩
  rw [← hq] at hkk
  have HQ := Lib.hid hq
  clear hq
  have hD3 : w2.drew.cell? ⟨P, 0, none⟩ = some (.int .u64 (m : Int)) ∧ w2.drew.cell? ⟨w.heap.size + 1, 0, none⟩ = some (.int .u64 (b : Int)) ∧ w2.drew.cell? ⟨w.heap.size + 1, 1, none⟩ = some (.int .u64 (u : Int)) := ⟨hP2, hB3⟩
  go_region_held3 (fun w' : World => w'.cell? ⟨P, 0, none⟩ = some (.int .u64 (m : Int)) ∧ w'.cell? ⟨w.heap.size + 1, 0, none⟩ = some (.int .u64 (b : Int)) ∧ w'.cell? ⟨w.heap.size + 1, 1, none⟩ = some (.int .u64 (u : Int)))
    ((first | with_reducible exact hD3 | with_reducible exact And.intro hP2 hB3 | with_reducible exact k2))
    (first
      | (go_at_call 31; ((with_reducible refine (HB.out _).mono ?_); rintro r w3 ⟨rfl, hb3'⟩; have hb3 : Below w2.heap.size w2 w3 := below_of_drew hb3'; clear hb3'; have k2 := And.intro ((hb3.cell (p := ⟨P, 0, none⟩) hs2).trans hP2) (And.intro ((hb3.cell (p := ⟨w.heap.size + 1, 0, none⟩) (by show w.heap.size + 1 < w2.heap.size; omega)).trans hB3.1) ((hb3.cell (p := ⟨w.heap.size + 1, 1, none⟩) (by show w.heap.size + 1 < w2.heap.size; omega)).trans hB3.2)))))
  have hk3 := hk2.trans (hb3.mono (by omega))
  have hA3 := hA2.below hb3 (by omega)
  have hZ3 := hZ2.below hb3 (by omega)
  have hs3 : P < w3.heap.size := by have := hb3.size; omega
  clear hb3 hA2 hB2 hZ2 hP2 hB3 hk2 hD3 hkk
  cases q with
  | false =>
    have h : m = k := by simpa using HQ.out.symm
    rw [if_pos h] at hs
    injection hs with h1 h2
    injection h2 with h2 h3
    subst h1 h2 h3
    have hA4 := (two_cells hA3).2
    have f0 := hZ3.frozen 0
    have f1 := hZ3.frozen 1
    have hz0 := hZ3.cell 0
    have hz1 := hZ3.cell 1
    have hZ4 := blk_set2 hZ3 (.int .u64 (m : Int)) (.int .u64 (s : Int))
    have hk4 := hk3.trans (below_set2 (w := w3) (R := w.heap.size + 1 + 1) (n := w.heap.size) (.int .u64 (m : Int)) (.int .u64 (s : Int)) (by omega) (by omega))
    have HZ4 := Lib.hid hZ4
    have HK4 := Lib.hid hk4
    have k3 : w3.drew.cell? ⟨P, 0, none⟩ = some (.int .u64 (m : Int)) ∧ w3.drew.cell? ⟨w.heap.size, 1, none⟩ = some (.int .u64 (v : Int)) ∧ w3.drew.cell? ⟨w.heap.size + 1, 1, none⟩ = some (.int .u64 (u : Int)) := ⟨k2.1, hA4, k2.2.2⟩
    have k4 : w3.cell? ⟨P, 0, none⟩ = some (.int .u64 (m : Int)) ∧ w3.cell? ⟨w.heap.size, 1, none⟩ = some (.int .u64 (v : Int)) ∧ w3.cell? ⟨w.heap.size + 1, 1, none⟩ = some (.int .u64 (u : Int)) := ⟨k2.1, hA4, k2.2.2⟩
    have k5 : ((w3.setCell ⟨w.heap.size + 1 + 1, 0, none⟩ (.int .u64 (m : Int))).setCell ⟨w.heap.size + 1 + 1, 1, none⟩ (.int .u64 (s : Int))).drew.cell? ⟨P, 0, none⟩ = some (.int .u64 (m : Int)) ∧ ((w3.setCell ⟨w.heap.size + 1 + 1, 0, none⟩ (.int .u64 (m : Int))).setCell ⟨w.heap.size + 1 + 1, 1, none⟩ (.int .u64 (s : Int))).drew.cell? ⟨w.heap.size, 1, none⟩ = some (.int .u64 (v : Int)) ∧ ((w3.setCell ⟨w.heap.size + 1 + 1, 0, none⟩ (.int .u64 (m : Int))).setCell ⟨w.heap.size + 1 + 1, 1, none⟩ (.int .u64 (s : Int))).drew.cell? ⟨w.heap.size + 1, 1, none⟩ = some (.int .u64 (u : Int)) :=
      ⟨cell_set2 k4.1 (by omega) _ _, cell_set2 k4.2.1 (by omega) _ _, cell_set2 k4.2.2 (by omega) _ _⟩
    clear h hZ3 hA3 hZ4 hk4 hk3 k2 HQ
    go_wp2_with fail
    go_region_held3 (fun w' : World => w'.cell? ⟨P, 0, none⟩ = some (.int .u64 (m : Int)) ∧ w'.cell? ⟨w.heap.size, 1, none⟩ = some (.int .u64 (v : Int)) ∧ w'.cell? ⟨w.heap.size + 1, 1, none⟩ = some (.int .u64 (u : Int)))
      ((first | with_reducible exact k3 | with_reducible exact k4 | with_reducible exact k5))
      (first
        | (go_at_call 24; ((with_reducible refine (HC.out _).mono ?_); rintro r w5 ⟨rfl, rfl⟩)))
    go_wp2
    have c0 := (two_cells HZ4.out).1
    have c1 := (two_cells HZ4.out).2
    unfold set2 at c0 c1
    refine bodyPost_ret (v := .tuple #[.agg #[.int .u64 (m : Int), .int .u64 (s : Int)], .int .i64 0]) (by simp [results, Try.results19, go_sem, c0, c1]) rfl ⟨rfl, below_to_drew HK4.out⟩
  | true =>
    have h : ¬ m = k := by simpa using HQ.out.symm
    rw [if_neg h] at hs
    injection hs with h1 h2
    injection h2 with h2 h3
    subst h1 h2 h3
    have f0 := hZ3.frozen 0
    have f1 := hZ3.frozen 1
    have hz0 := hZ3.cell 0
    have hz1 := hZ3.cell 1
    have hZ4 := two_cells (blk_set2 hZ3 (.int .u64 0) (.int .u64 0))
    have hk4 := hk3.trans (below_set2 (w := w3) (R := w.heap.size + 1 + 1) (n := w.heap.size) (.int .u64 0) (.int .u64 0) (by omega) (by omega))
    have HZ4 := Lib.hid hZ4
    have HK4 := Lib.hid hk4
    clear h hZ3 hA3 hZ4 hk4 hk3
    go_wp2
    have c0 := HZ4.out.1
    have c1 := HZ4.out.2
    unfold set2 at c0 c1
    refine bodyPost_ret (v := .tuple #[.agg #[.int .u64 0, .int .u64 0], .int .i64 29]) (by simp [results, Try.results19, go_sem, c0, c1]) rfl ⟨rfl, HK4.out⟩
set_option maxRecDepth 100000 in
set_option maxHeartbeats 4000000 in
theorem rsadd_any (a v b u x y z : Nat) (w : World) (hs : sumS a v b u = (x, y, z)) :
    Calls Try.prog 20 #[.agg #[.int .u64 (a : Int), .int .u64 (v : Int)], .agg #[.int .u64 (b : Int), .int .u64 (u : Int)]] w fun e w' => e = .returned (.tuple #[.agg #[.int .u64 (x : Int), .int .u64 (y : Int)], .int .i64 (z : Int)]) ∧ Below w.heap.size w w' := by
  have HA := Lib.hid (fun W => rnum_any a W)
  have HB := Lib.hid (fun W => rnum_any b W)
  have HC := Lib.hid (fun W => radd_any v u W)
  unfold sumS at hs
  obtain ⟨m, hm⟩ : ∃ m, m = Fld.num a := ⟨_, rfl⟩
  obtain ⟨k, hk⟩ : ∃ k, k = Fld.num b := ⟨_, rfl⟩
  obtain ⟨s, hse⟩ : ∃ s, s = Fld.add v u := ⟨_, rfl⟩
  rw [← hm] at HA hs
  rw [← hk] at HB hs
  rw [← hse] at HC hs
  clear hm hk hse
  have hw0s : (((w.alloc (.cells #[.int .u64 (a : Int), .int .u64 (v : Int)] 33)).alloc (.cells #[.int .u64 (b : Int), .int .u64 (u : Int)] 33)).alloc (.cells #[.int .u64 0, .int .u64 0] 33)).heap.size = w.heap.size + 3 := by simp
  have hA0 := blk_alloc (blk_alloc (blk_new w 33 #[.int .u64 (a : Int), .int .u64 (v : Int)]) (.cells #[.int .u64 (b : Int), .int .u64 (u : Int)] 33)) (.cells #[.int .u64 0, .int .u64 0] 33)
  have hB0 := blk_alloc (blk_new (w.alloc (.cells #[.int .u64 (a : Int), .int .u64 (v : Int)] 33)) 33 #[.int .u64 (b : Int), .int .u64 (u : Int)]) (.cells #[.int .u64 0, .int .u64 0] 33)
  have hZ0 := blk_new ((w.alloc (.cells #[.int .u64 (a : Int), .int .u64 (v : Int)] 33)).alloc (.cells #[.int .u64 (b : Int), .int .u64 (u : Int)] 33)) 33 #[.int .u64 0, .int .u64 0]
  rw [World.size_alloc] at hB0
  rw [World.size_alloc, World.size_alloc] at hZ0
  have hk0 : Below w.heap.size w (((w.alloc (.cells #[.int .u64 (a : Int), .int .u64 (v : Int)] 33)).alloc (.cells #[.int .u64 (b : Int), .int .u64 (u : Int)] 33)).alloc (.cells #[.int .u64 0, .int .u64 0] 33)) := (((Below.refl _ w).alloc (Nat.le_refl _) _).alloc (by simp) _).alloc (by simp; omega) _
  obtain ⟨w0, hw0⟩ : ∃ w0, w0 = (((w.alloc (.cells #[.int .u64 (a : Int), .int .u64 (v : Int)] 33)).alloc (.cells #[.int .u64 (b : Int), .int .u64 (u : Int)] 33)).alloc (.cells #[.int .u64 0, .int .u64 0] 33)) := ⟨_, rfl⟩
  rw [← hw0] at hw0s hA0 hB0 hZ0 hk0
  obtain ⟨q, hq⟩ : ∃ q, q = ((m : Int) != (k : Int)) := ⟨_, rfl⟩
  have HQ := Lib.hid hq
  have hA1 := two_cells hA0
  have hB1 := two_cells hB0
  have S0 : w0.drew.cell? ⟨w.heap.size, 0, none⟩ = some (.int .u64 (a : Int)) ∧ w0.drew.cell? ⟨w.heap.size + 1, 0, none⟩ = some (.int .u64 (b : Int)) := ⟨hA1.1, hB1.1⟩
  go_enter Try.func20, Try.ntmps20
  go_wp2_with fail
  rw [← hw0]
  clear hw0
  go_region_held3 (fun w' : World => w'.cell? ⟨w.heap.size, 0, none⟩ = some (.int .u64 (a : Int)) ∧ w'.cell? ⟨w.heap.size + 1, 0, none⟩ = some (.int .u64 (b : Int)))
    ((first | with_reducible exact S0 | with_reducible exact And.intro hA1.1 hB1.1))
    (first
      | (go_at_call 32; ((with_reducible refine (HA.out _).mono ?_); rintro r w3 ⟨rfl, rfl⟩))
      | (go_at_call 32; ((with_reducible refine (HB.out _).mono ?_); rintro r w3 ⟨rfl, rfl⟩)))
  rw [← hq]
  clear hq S0 hA1 hB1
  have hk3 := below_to_drew hk0
  have hA3 : Blk w0.drew w.heap.size 33 #[.int .u64 (a : Int), .int .u64 (v : Int)] := hA0
  have hB3 : Blk w0.drew (w.heap.size + 1) 33 #[.int .u64 (b : Int), .int .u64 (u : Int)] := hB0
  have hZ3 : Blk w0.drew (w.heap.size + 1 + 1) 33 #[.int .u64 0, .int .u64 0] := hZ0
  have hs3 : w.heap.size + 3 ≤ w0.drew.heap.size := by show _ ≤ w0.heap.size; omega
  obtain ⟨w3, hw3⟩ : ∃ w3, w3 = w0.drew := ⟨_, rfl⟩
  rw [← hw3] at hk3 hA3 hB3 hZ3 hs3 ⊢
  clear hw3 hk0 hA0 hB0 hZ0 hw0s
  cases q with
  | false =>
    have h : m = k := by have h := HQ.out.symm; rw [bne_eq_false_iff_eq] at h; omega
    rw [if_pos h] at hs
    injection hs with h1 h2
    injection h2 with h2 h3
    subst h1 h2 h3
    have c1 := two_cells hA3
    have c2 := (two_cells hB3).2
    have f0 := hZ3.frozen 0
    have f1 := hZ3.frozen 1
    have hz0 := hZ3.cell 0
    have hz1 := hZ3.cell 1
    have hZ4 := blk_set2 hZ3 (.int .u64 (m : Int)) (.int .u64 (s : Int))
    have hk4 := hk3.trans (below_set2 (w := w3) (R := w.heap.size + 1 + 1) (n := w.heap.size) (.int .u64 (m : Int)) (.int .u64 (s : Int)) (by omega) (by omega))
    have HZ4 := Lib.hid hZ4
    have HK4 := Lib.hid hk4
    have k3 : w3.drew.cell? ⟨w.heap.size, 0, none⟩ = some (.int .u64 (a : Int)) ∧ w3.drew.cell? ⟨w.heap.size, 1, none⟩ = some (.int .u64 (v : Int)) ∧ w3.drew.cell? ⟨w.heap.size + 1, 1, none⟩ = some (.int .u64 (u : Int)) := ⟨c1.1, c1.2, c2⟩
    have k4 : w3.cell? ⟨w.heap.size, 0, none⟩ = some (.int .u64 (a : Int)) ∧ w3.cell? ⟨w.heap.size, 1, none⟩ = some (.int .u64 (v : Int)) ∧ w3.cell? ⟨w.heap.size + 1, 1, none⟩ = some (.int .u64 (u : Int)) := ⟨c1.1, c1.2, c2⟩
    have k5 : ((w3.setCell ⟨w.heap.size + 1 + 1, 0, none⟩ (.int .u64 (m : Int))).setCell ⟨w.heap.size + 1 + 1, 1, none⟩ (.int .u64 (s : Int))).drew.cell? ⟨w.heap.size, 0, none⟩ = some (.int .u64 (a : Int)) ∧ ((w3.setCell ⟨w.heap.size + 1 + 1, 0, none⟩ (.int .u64 (m : Int))).setCell ⟨w.heap.size + 1 + 1, 1, none⟩ (.int .u64 (s : Int))).drew.cell? ⟨w.heap.size, 1, none⟩ = some (.int .u64 (v : Int)) ∧ ((w3.setCell ⟨w.heap.size + 1 + 1, 0, none⟩ (.int .u64 (m : Int))).setCell ⟨w.heap.size + 1 + 1, 1, none⟩ (.int .u64 (s : Int))).drew.cell? ⟨w.heap.size + 1, 1, none⟩ = some (.int .u64 (u : Int)) :=
      ⟨cell_set2 k4.1 (by omega) _ _, cell_set2 k4.2.1 (by omega) _ _, cell_set2 k4.2.2 (by omega) _ _⟩
    clear h hZ3 hA3 hB3 hZ4 hk4 hk3 c1 c2 HQ
    go_wp2_with fail
    go_region_held3 (fun w' : World => w'.cell? ⟨w.heap.size, 0, none⟩ = some (.int .u64 (a : Int)) ∧ w'.cell? ⟨w.heap.size, 1, none⟩ = some (.int .u64 (v : Int)) ∧ w'.cell? ⟨w.heap.size + 1, 1, none⟩ = some (.int .u64 (u : Int)))
      ((first | with_reducible exact k3 | with_reducible exact k4 | with_reducible exact k5))
      (first
        | (go_at_call 32; ((with_reducible refine (HA.out _).mono ?_); rintro r w5 ⟨rfl, rfl⟩))
        | (go_at_call 33; ((with_reducible refine (HC.out _).mono ?_); rintro r w5 ⟨rfl, rfl⟩)))
    all_goals go_wp2
    all_goals
      have c0 := (two_cells HZ4.out).1
      have c1 := (two_cells HZ4.out).2
      unfold set2 at c0 c1
      refine bodyPost_ret (v := .tuple #[.agg #[.int .u64 (m : Int), .int .u64 (s : Int)], .int .i64 0]) (by simp [results, Try.results20, go_sem, c0, c1]) rfl ⟨rfl, below_to_drew HK4.out⟩
  | true =>
    have h : ¬ m = k := by have h := HQ.out.symm; rw [bne_iff_ne] at h; omega
    rw [if_neg h] at hs
    injection hs with h1 h2
    injection h2 with h2 h3
    subst h1 h2 h3
    have f0 := hZ3.frozen 0
    have f1 := hZ3.frozen 1
    have hz0 := hZ3.cell 0
    have hz1 := hZ3.cell 1
    have hZ4 := two_cells (blk_set2 hZ3 (.int .u64 0) (.int .u64 0))
    have hk4 := hk3.trans (below_set2 (w := w3) (R := w.heap.size + 1 + 1) (n := w.heap.size) (.int .u64 0) (.int .u64 0) (by omega) (by omega))
    have HZ4 := Lib.hid hZ4
    have HK4 := Lib.hid hk4
    clear h hZ3 hA3 hB3 hZ4 hk4 hk3
    go_wp2
    have c0 := HZ4.out.1
    have c1 := HZ4.out.2
    unfold set2 at c0 c1
    refine bodyPost_ret (v := .tuple #[.agg #[.int .u64 0, .int .u64 0], .int .i64 29]) (by simp [results, Try.results20, go_sem, c0, c1]) rfl ⟨rfl, HK4.out⟩

end Go.Proofs.Ythnbkbmhlalpaaa
