/-
  BoxReads: what a box tells a secret, held against the document's: the walk, over natural numbers. No condition.
-/
import Derived.Test.YtokmghojdmpacaaBxh
import Derived.Deep.DeepCutAuto
namespace Go.Proofs.Ytokmghojdmpacaa
open Go.RowKit

theorem rmake_v (t o v : Nat) (w : World) (ho : o < 18446744073709551616) :
    Calls Try.prog 15 #[.int .u64 t, .int .u64 o, .int .u64 v] w fun r w' =>
      (∃ e b g, r = .returned (.agg #[.int .u64 (t : Int), .int .u64 (e : Nat), .int .u64 (b : Nat), .int .u64 (g : Nat)]) ∧ Bx.Mk t o v e b g) ∧ Below w.heap.size w w' :=
  (rmake_new t o v w ho).mono fun _ _ ⟨h, hb⟩ => ⟨⟨_, _, _, h, rfl, rfl, rfl⟩, hb⟩
/-- The program and the reference tell the same of a box. -/
theorem open_two (s t e b g : Nat) (hs : s < 18446744073709551616) (he : e < 18446744073709551616) (hb : b < 2305843009213693951) : ∃ x y : Nat,
    (∀ W, Calls Try.prog 18 #[.int .u64 s, .agg #[.int .u64 (t : Int), .int .u64 (e : Int), .int .u64 (b : Int), .int .u64 (g : Int)]] W fun r w' => r = .returned (.tuple #[.int .u64 (x : Int), .int .i64 (y : Int)]) ∧ Below W.heap.size W w') ∧
    (∀ W, Calls Try.prog 19 #[.int .u64 s, .agg #[.int .u64 (t : Int), .int .u64 (e : Int), .int .u64 (b : Int), .int .u64 (g : Int)]] W fun r w' => r = .returned (.tuple #[.int .u64 (x : Int), .int .i64 (y : Int)]) ∧ Below W.heap.size W w') :=
  ⟨_, _, fun W => open_any s t e b g W hs he hb, fun W => ropen_any s t e b g W hs⟩
theorem Bx.below_drew {n : Nat} {a b : World} (h : Below n a b) : Below n a b.drew := ⟨h.os, h.tape, h.output, h.size, h.block⟩
theorem in4_drew {w : World} {R t e b g : Nat} (h : In4 w R t e b g) : In4 w.drew R t e b g := h

set_option maxRecDepth 100000 in
set_option maxHeartbeats 8000000 in
theorem reads_walk (s t e b g once v : Nat) (which : Int) (w : World) (hs : s < 18446744073709551616) (ho : once < 18446744073709551616) (hw1 : -9223372036854775808 ≤ which) (hw2 : which ≤ 9223372036854775807) :
    Calls Try.prog 4 #[.int .u64 s, .agg #[.int .u64 (t : Int), .int .u64 (e : Int), .int .u64 (b : Int), .int .u64 (g : Int)], .int .u64 once, .int .u64 v, .int .i64 which] w fun e w' => e = .returned (.bool true) ∧ Below w.heap.size w w' := by
  have N0 := Lib.hid (fun W => rnum_any t W)
  have N1 := Lib.hid (fun W => rnum_any e W)
  have N2 := Lib.hid (fun W => rnum_any b W)
  have N3 := Lib.hid (fun W => rnum_any g W)
  have l0 := Fld.num_lt t
  have l1 := Fld.num_lt e
  have l2 := Fld.num_lt b
  have l3 := Fld.num_lt g
  obtain ⟨t1, ht1⟩ : ∃ x, x = Fld.num t := ⟨_, rfl⟩
  obtain ⟨e1, he1⟩ : ∃ x, x = Fld.num e := ⟨_, rfl⟩
  obtain ⟨b1, hb1⟩ : ∃ x, x = Fld.num b := ⟨_, rfl⟩
  obtain ⟨g1, hg1⟩ : ∃ x, x = Fld.num g := ⟨_, rfl⟩
  rw [← ht1] at N0 l0
  rw [← he1] at N1 l1
  rw [← hb1] at N2 l2
  rw [← hg1] at N3 l3
  clear ht1 he1 hb1 hg1
  have hR := in4_new w t e b g
  have k0 : Below w.heap.size w (w.alloc (.cells #[.int .u64 (t : Int), .int .u64 (e : Int), .int .u64 (b : Int), .int .u64 (g : Int)] 25)) := (Below.refl _ w).alloc (Nat.le_refl _) _
  have HR := Lib.hid hR
  clear hR
  go_enter Try.func4, Try.ntmps4
  go_wp2_with fail
  refine (sec_v s _ hs).mono ?_
  rintro z w1 ⟨⟨a, rfl, ha1, ha2⟩, hb1⟩
  have hR1 := HR.out.below hb1
  have k1 := k0.trans (hb1.mono (by have := k0.size; omega))
  have hlt := HR.out.1
  have hle : w.heap.size < w1.heap.size := by have := hb1.size; omega
  clear hb1 HR k0 hlt
  have c1 : w1.cell? ⟨w.heap.size, 0, none⟩ = some (.int .u64 (t : Int)) ∧ w1.cell? ⟨w.heap.size, 1, none⟩ = some (.int .u64 (e : Int)) ∧ w1.cell? ⟨w.heap.size, 2, none⟩ = some (.int .u64 (b : Int)) ∧ w1.cell? ⟨w.heap.size, 3, none⟩ = some (.int .u64 (g : Int)) := hR1.at4
  have c1d : w1.drew.cell? ⟨w.heap.size, 0, none⟩ = some (.int .u64 (t : Int)) ∧ w1.drew.cell? ⟨w.heap.size, 1, none⟩ = some (.int .u64 (e : Int)) ∧ w1.drew.cell? ⟨w.heap.size, 2, none⟩ = some (.int .u64 (b : Int)) ∧ w1.drew.cell? ⟨w.heap.size, 3, none⟩ = some (.int .u64 (g : Int)) := hR1.at4
  have hsz : w1.drew.heap.size = w1.heap.size := rfl
  have c2d : (w1.alloc (.cells #[.int .u64 (t1 : Int), .int .u64 (e1 : Int), .int .u64 (b1 : Int), .int .u64 (g1 : Int)] 25)).drew.cell? ⟨w.heap.size, 0, none⟩ = some (.int .u64 (t : Int)) ∧ (w1.alloc (.cells #[.int .u64 (t1 : Int), .int .u64 (e1 : Int), .int .u64 (b1 : Int), .int .u64 (g1 : Int)] 25)).drew.cell? ⟨w.heap.size, 1, none⟩ = some (.int .u64 (e : Int)) ∧ (w1.alloc (.cells #[.int .u64 (t1 : Int), .int .u64 (e1 : Int), .int .u64 (b1 : Int), .int .u64 (g1 : Int)] 25)).drew.cell? ⟨w.heap.size, 2, none⟩ = some (.int .u64 (b : Int)) ∧ (w1.alloc (.cells #[.int .u64 (t1 : Int), .int .u64 (e1 : Int), .int .u64 (b1 : Int), .int .u64 (g1 : Int)] 25)).drew.cell? ⟨w.heap.size, 3, none⟩ = some (.int .u64 (g : Int)) := ⟨cell_alloc_l _ c1.1, cell_alloc_l _ c1.2.1, cell_alloc_l _ c1.2.2.1, cell_alloc_l _ c1.2.2.2⟩
  have c3d : (w1.alloc (.cells #[.int .u64 0, .int .u64 0, .int .u64 0, .int .u64 0] 25)).drew.cell? ⟨w.heap.size, 0, none⟩ = some (.int .u64 (t : Int)) ∧ (w1.alloc (.cells #[.int .u64 0, .int .u64 0, .int .u64 0, .int .u64 0] 25)).drew.cell? ⟨w.heap.size, 1, none⟩ = some (.int .u64 (e : Int)) ∧ (w1.alloc (.cells #[.int .u64 0, .int .u64 0, .int .u64 0, .int .u64 0] 25)).drew.cell? ⟨w.heap.size, 2, none⟩ = some (.int .u64 (b : Int)) ∧ (w1.alloc (.cells #[.int .u64 0, .int .u64 0, .int .u64 0, .int .u64 0] 25)).drew.cell? ⟨w.heap.size, 3, none⟩ = some (.int .u64 (g : Int)) := ⟨cell_alloc_l _ c1.1, cell_alloc_l _ c1.2.1, cell_alloc_l _ c1.2.2.1, cell_alloc_l _ c1.2.2.2⟩
  go_upto_region 2 with (fail)
  go_cut [11, 12] (fun x y wx => x = .int .u64 (a : Int) ∧ y = .pointer (some ⟨w1.heap.size, 0, none⟩) ∧ ∃ W : World, W = wx ∧ W = (w1.alloc (.cells #[.int .u64 (t1 : Int), .int .u64 (e1 : Int), .int .u64 (b1 : Int), .int .u64 (g1 : Int)] 25)).drew)
  case first =>
    go_region_held3 (fun w' : World => w'.cell? ⟨w.heap.size, 0, none⟩ = some (.int .u64 (t : Int)) ∧ w'.cell? ⟨w.heap.size, 1, none⟩ = some (.int .u64 (e : Int)) ∧ w'.cell? ⟨w.heap.size, 2, none⟩ = some (.int .u64 (b : Int)) ∧ w'.cell? ⟨w.heap.size, 3, none⟩ = some (.int .u64 (g : Int)))
      ((first | with_reducible exact c1 | with_reducible exact c1d | with_reducible exact c2d | with_reducible exact c3d))
      (first
        | (go_at_call 11; ((with_reducible refine (N0.out _).mono ?_); rintro z w' ⟨rfl, rfl⟩))
        | (go_at_call 11; ((with_reducible refine (N1.out _).mono ?_); rintro z w' ⟨rfl, rfl⟩))
        | (go_at_call 11; ((with_reducible refine (N2.out _).mono ?_); rintro z w' ⟨rfl, rfl⟩))
        | (go_at_call 11; ((with_reducible refine (N3.out _).mono ?_); rintro z w' ⟨rfl, rfl⟩)))
    all_goals (go_wp2_with fail; go_meet; exact ⟨rfl, rfl, _, rfl, rfl⟩)
  case rest =>
    obtain ⟨rfl, rfl, W, rfl, hW⟩ := hcut
    have hA := in4_drew (in4_new w1 t1 e1 b1 g1)
    have kW : Below w.heap.size w (w1.alloc (.cells #[.int .u64 (t1 : Int), .int .u64 (e1 : Int), .int .u64 (b1 : Int), .int .u64 (g1 : Int)] 25)).drew := below_to_drew (k1.trans ((Below.refl _ w1).alloc (by omega) _))
    have hsW : (w1.alloc (.cells #[.int .u64 (t1 : Int), .int .u64 (e1 : Int), .int .u64 (b1 : Int), .int .u64 (g1 : Int)] 25)).drew.heap.size = w1.heap.size + 1 := by show (w1.alloc _).heap.size = _; simp
    rw [← hW] at hA kW hsW
    have hsL : w1.heap.size < W.heap.size := by omega
    clear hsW
    have HA0 := Lib.hid hA
    have HB0 := Lib.hid (in4_new W t1 e1 b1 g1)
    obtain ⟨a0, a1, a2, a3⟩ := hA.at4
    clear hW hA c1 c1d c2d c3d hR1 hsz N0 N1 N2 N3 k1
    go_wp2_with fail
    refine (pub_v a _ ha2).mono ?_
    rintro z w2 ⟨rfl, hb2⟩
    have A2 := Lib.hid ((HA0.out.new (.cells #[.int .u64 (t1 : Int), .int .u64 (e1 : Int), .int .u64 (b1 : Int), .int .u64 (g1 : Int)] 25)).below hb2)
    have hB2 := HB0.out.below hb2
    have k2 := kept_trans kW (Bx.below_new hb2)
    have hs2 := (Bx.below_new hb2).size
    have hpw := Bx.pub_w a
    have RP := Lib.hid (fun W => rpub_any a W (by omega))
    have hpl := Bx.pub_lt a
    obtain ⟨p, hp⟩ : ∃ p, p = Bx.pub a := ⟨_, rfl⟩
    rw [← hp] at hpw RP hpl ⊢
    have hBs := hB2.set0 p
    have hAs := A2.out.kept (R' := W.heap.size) (i := 0) (u := .int .u64 (p : Int)) (by omega)
    have ks := below_set (i := 0) (u := .int .u64 (p : Int)) k2 (by omega : w.heap.size ≤ W.heap.size) hB2.1
    have cy := hB2.2.cell 0
    have fy := hB2.2.frozen 0
    have HBs := Lib.hid hBs
    have HAs := Lib.hid hAs
    clear hp hb2 hBs hAs A2 hB2 k2 kW HA0 HB0 a0 a1 a2 a3
    go_wp2_with fail
    refine (RP.out _).mono ?_
    rintro z w3 ⟨rfl, hb3⟩
    have A3 := Lib.hid (HAs.out.below hb3)
    have B3 := Lib.hid (HBs.out.below hb3)
    have k3 := kept_trans ks hb3
    have hs3 : W.heap.size < w3.heap.size := B3.out.1
    clear hb3 HAs HBs ks cy fy hs2
    go_wp2_with fail
    refine (sec_v once _ ho).mono ?_
    rintro z w4 ⟨⟨o, rfl, ho1, ho2⟩, hb4⟩
    have A4 := Lib.hid (A3.out.below hb4)
    have B4 := Lib.hid (B3.out.below hb4)
    have k4 := kept_trans k3 hb4
    clear hb4 A3 B3 k3
    go_wp2_with fail
    refine (num_v v _).mono ?_
    rintro z w5 ⟨⟨n, rfl, hn⟩, hb5⟩
    have A5 := Lib.hid (A4.out.below hb5)
    have B5 := Lib.hid (B4.out.below hb5)
    have k5 := kept_trans k4 hb5
    clear hb5 A4 B4 k4
    go_wp2_with fail
    refine (rmake_v p o n _ (by omega)).mono ?_
    rintro z w6 ⟨⟨e2, b2, g2, rfl, hm⟩, hb6⟩
    have A6 := Lib.hid (A5.out.below hb6)
    have B6 := Lib.hid (B5.out.below hb6)
    have k6 := kept_trans k5 hb6
    clear hb6 A5 B5 k5
    have hl := hm.lt
    clear hm
    have hs6 := B6.out.1
    have HC := Lib.hid ((in4_new w6 p e2 b2 g2).new (.cells #[.int .u64 (p : Int), .int .u64 (e2 : Int), .int .u64 (b2 : Int), .int .u64 (g2 : Int)] 25))
    have hD := in4_new (w6.alloc (.cells #[.int .u64 (p : Int), .int .u64 (e2 : Int), .int .u64 (b2 : Int), .int .u64 (g2 : Int)] 25)) p e2 b2 g2
    rw [show (w6.alloc (.cells #[.int .u64 (p : Int), .int .u64 (e2 : Int), .int .u64 (b2 : Int), .int .u64 (g2 : Int)] 25)).heap.size = w6.heap.size + 1 by simp] at hD
    have HD := Lib.hid hD
    clear hD
    go_wp2_with fail
    refine (around_v which 4 _ hw1 hw2 (by omega) (by omega)).mono ?_
    rintro z w7 ⟨⟨r, hr, rfl⟩, hb7⟩
    have A7 := Lib.hid (((A6.out.new (.cells #[.int .u64 (p : Int), .int .u64 (e2 : Int), .int .u64 (b2 : Int), .int .u64 (g2 : Int)] 25)).new (.cells #[.int .u64 (p : Int), .int .u64 (e2 : Int), .int .u64 (b2 : Int), .int .u64 (g2 : Int)] 25)).below hb7)
    have B7 := Lib.hid (((B6.out.new (.cells #[.int .u64 (p : Int), .int .u64 (e2 : Int), .int .u64 (b2 : Int), .int .u64 (g2 : Int)] 25)).new (.cells #[.int .u64 (p : Int), .int .u64 (e2 : Int), .int .u64 (b2 : Int), .int .u64 (g2 : Int)] 25)).below hb7)
    have C7 := Lib.hid (HC.out.below hb7)
    have D7 := Lib.hid (HD.out.below hb7)
    have k7 := kept_trans k6 (Bx.below_new (Bx.below_new hb7))
    have hwle : w.heap.size ≤ w6.heap.size := k6.size
    clear hb7 A6 B6 HC HD k6
    have hr4 : r = 0 ∨ r = 1 ∨ r = 2 ∨ r = 3 := by omega
    clear hr
    rcases hr4 with rfl | rfl | rfl | rfl
    · obtain ⟨a0, a1, a2, a3⟩ := A7.out.at4
      have cy := D7.out.2.cell 0
      have fy := D7.out.2.frozen 0
      have A8 := Lib.hid (A7.out.kept (R' := w6.heap.size + 1) (i := 0) (u := .int .u64 (t1 : Int)) (by omega))
      have B8 := Lib.hid (B7.out.kept (R' := w6.heap.size + 1) (i := 0) (u := .int .u64 (t1 : Int)) (by omega))
      have C8 := Lib.hid (C7.out.kept (R' := w6.heap.size + 1) (i := 0) (u := .int .u64 (t1 : Int)) (by omega))
      have D8 := Lib.hid (D7.out.set0 t1)
      have k8 := below_set (i := 0) (u := .int .u64 (t1 : Int)) k7 (by omega : w.heap.size ≤ w6.heap.size + 1) D7.out.1
      obtain ⟨a0', a1', a2', a3'⟩ := A8.out.at4
      obtain ⟨b0', b1', b2', b3'⟩ := B8.out.at4
      obtain ⟨c0', c1', c2', c3'⟩ := C8.out.at4
      obtain ⟨d0', d1', d2', d3'⟩ := D8.out.at4
      go_wp2_with fail
      clear a0 a1 a2 a3 cy fy a0' a1' a2' a3' b0' b1' b2' b3' c0' c1' c2' c3' d0' d1' d2' d3'
      have hS := blk_new (w7.setCell ⟨w6.heap.size + 1, 0, none⟩ (.int .u64 (t1 : Int))) 25 #[.int .u64 (t1 : Int), .int .u64 (e1 : Int), .int .u64 (b1 : Int), .int .u64 (g1 : Int), .int .u64 (p : Int), .int .u64 (e1 : Int), .int .u64 (b1 : Int), .int .u64 (g1 : Int), .int .u64 (p : Int), .int .u64 (e2 : Int), .int .u64 (b2 : Int), .int .u64 (g2 : Int), .int .u64 (t1 : Int), .int .u64 (e2 : Int), .int .u64 (b2 : Int), .int .u64 (g2 : Int)]
      have k9 : Below w.heap.size w ((w7.setCell ⟨w6.heap.size + 1, 0, none⟩ (.int .u64 (t1 : Int))).alloc (.cells #[.int .u64 (t1 : Int), .int .u64 (e1 : Int), .int .u64 (b1 : Int), .int .u64 (g1 : Int), .int .u64 (p : Int), .int .u64 (e1 : Int), .int .u64 (b1 : Int), .int .u64 (g1 : Int), .int .u64 (p : Int), .int .u64 (e2 : Int), .int .u64 (b2 : Int), .int .u64 (g2 : Int), .int .u64 (t1 : Int), .int .u64 (e2 : Int), .int .u64 (b2 : Int), .int .u64 (g2 : Int)] 25)) := k8.trans ((Below.refl _ _).alloc (by have := k8.size; omega) _)
      have hz : (w7.setCell ⟨w6.heap.size + 1, 0, none⟩ (.int .u64 (t1 : Int))).heap.size = w7.heap.size := by simp [World.setCell]
      rw [hz] at hS
      have hSlt := hS.lt
      obtain ⟨w9, hw9⟩ : ∃ w9, w9 = ((w7.setCell ⟨w6.heap.size + 1, 0, none⟩ (.int .u64 (t1 : Int))).alloc (.cells #[.int .u64 (t1 : Int), .int .u64 (e1 : Int), .int .u64 (b1 : Int), .int .u64 (g1 : Int), .int .u64 (p : Int), .int .u64 (e1 : Int), .int .u64 (b1 : Int), .int .u64 (g1 : Int), .int .u64 (p : Int), .int .u64 (e2 : Int), .int .u64 (b2 : Int), .int .u64 (g2 : Int), .int .u64 (t1 : Int), .int .u64 (e2 : Int), .int .u64 (b2 : Int), .int .u64 (g2 : Int)] 25)) := ⟨_, rfl⟩
      rw [← hw9] at hS k9 hSlt ⊢
      have HS := Lib.hid hS
      obtain ⟨x0, y0, ho0, hr0⟩ := open_two a t1 e1 b1 g1 (by omega) (by omega) (by omega)
      have HO0 := Lib.hid ho0
      have HR0 := Lib.hid hr0
      clear ho0 hr0
      obtain ⟨x1, y1, ho1, hr1⟩ := open_two a p e1 b1 g1 (by omega) (by omega) (by omega)
      have HO1 := Lib.hid ho1
      have HR1 := Lib.hid hr1
      clear ho1 hr1
      obtain ⟨x2, y2, ho2, hr2⟩ := open_two a p e2 b2 g2 (by omega) (by omega) (by omega)
      have HO2 := Lib.hid ho2
      have HR2 := Lib.hid hr2
      clear ho2 hr2
      obtain ⟨x3, y3, ho3, hr3⟩ := open_two a t1 e2 b2 g2 (by omega) (by omega) (by omega)
      have HO3 := Lib.hid ho3
      have HR3 := Lib.hid hr3
      clear ho3 hr3
      clear hS hw9 hz A7 B7 C7 D7 A8 B8 C8 D8 k7 k8
      go_loopw [17] (fun i wr => ∃ k : Nat, k ≤ 4 ∧ i = .int .i64 (k : Int) ∧ Below w9.heap.size w9 wr) (fun i _ => 4 - (intOf i).toNat)
      case atStart => exact ⟨0, Nat.zero_le _, rfl, Below.refl _ _⟩
      case round =>
        obtain ⟨k, hk, rfl, hbr⟩ := hrel
        have hSr := HS.out.below hbr hSlt
        have hk5 : k = 0 ∨ k = 1 ∨ k = 2 ∨ k = 3 ∨ k = 4 := by omega
        clear hk
        rcases hk5 with rfl | rfl | rfl | rfl | rfl
        · have q0 := hSr.cell 0
          have q1 := hSr.cell 1
          have q2 := hSr.cell 2
          have q3 := hSr.cell 3
          clear hSr
          go_wp2_with fail
          refine (HO0.out _).mono ?_
          rintro z wa ⟨rfl, hba⟩
          have hSa := (HS.out.below hbr hSlt).below hba (Nat.lt_of_lt_of_le hSlt hbr.size)
          have p0 := hSa.cell 0
          have p1 := hSa.cell 1
          have p2 := hSa.cell 2
          have p3 := hSa.cell 3
          clear hSa q0 q1 q2 q3
          go_wp2_with fail
          refine (HR0.out _).mono ?_
          rintro z wb ⟨rfl, hbb⟩
          have hbw := kept_trans (kept_trans hbr hba) hbb
          clear p0 p1 p2 p3 hba hbb hbr
          go_wp2
          go_roundw
          case rel => exact ⟨1, by omega, by go_num, hbw⟩
          case measure => simp [intOf]
        · have q0 := hSr.cell 4
          have q1 := hSr.cell 5
          have q2 := hSr.cell 6
          have q3 := hSr.cell 7
          clear hSr
          go_wp2_with fail
          refine (HO1.out _).mono ?_
          rintro z wa ⟨rfl, hba⟩
          have hSa := (HS.out.below hbr hSlt).below hba (Nat.lt_of_lt_of_le hSlt hbr.size)
          have p0 := hSa.cell 4
          have p1 := hSa.cell 5
          have p2 := hSa.cell 6
          have p3 := hSa.cell 7
          clear hSa q0 q1 q2 q3
          go_wp2_with fail
          refine (HR1.out _).mono ?_
          rintro z wb ⟨rfl, hbb⟩
          have hbw := kept_trans (kept_trans hbr hba) hbb
          clear p0 p1 p2 p3 hba hbb hbr
          go_wp2
          go_roundw
          case rel => exact ⟨2, by omega, by go_num, hbw⟩
          case measure => simp [intOf]
        · have q0 := hSr.cell 8
          have q1 := hSr.cell 9
          have q2 := hSr.cell 10
          have q3 := hSr.cell 11
          clear hSr
          go_wp2_with fail
          refine (HO2.out _).mono ?_
          rintro z wa ⟨rfl, hba⟩
          have hSa := (HS.out.below hbr hSlt).below hba (Nat.lt_of_lt_of_le hSlt hbr.size)
          have p0 := hSa.cell 8
          have p1 := hSa.cell 9
          have p2 := hSa.cell 10
          have p3 := hSa.cell 11
          clear hSa q0 q1 q2 q3
          go_wp2_with fail
          refine (HR2.out _).mono ?_
          rintro z wb ⟨rfl, hbb⟩
          have hbw := kept_trans (kept_trans hbr hba) hbb
          clear p0 p1 p2 p3 hba hbb hbr
          go_wp2
          go_roundw
          case rel => exact ⟨3, by omega, by go_num, hbw⟩
          case measure => simp [intOf]
        · have q0 := hSr.cell 12
          have q1 := hSr.cell 13
          have q2 := hSr.cell 14
          have q3 := hSr.cell 15
          clear hSr
          go_wp2_with fail
          refine (HO3.out _).mono ?_
          rintro z wa ⟨rfl, hba⟩
          have hSa := (HS.out.below hbr hSlt).below hba (Nat.lt_of_lt_of_le hSlt hbr.size)
          have p0 := hSa.cell 12
          have p1 := hSa.cell 13
          have p2 := hSa.cell 14
          have p3 := hSa.cell 15
          clear hSa q0 q1 q2 q3
          go_wp2_with fail
          refine (HR3.out _).mono ?_
          rintro z wb ⟨rfl, hbb⟩
          have hbw := kept_trans (kept_trans hbr hba) hbb
          clear p0 p1 p2 p3 hba hbb hbr
          go_wp2
          go_roundw
          case rel => exact ⟨4, by omega, by go_num, hbw⟩
          case measure => simp [intOf]
        · have kr := k9.trans (hbr.mono k9.size)
          clear hbr hSr
          go_wp2_with fail
          refine (lives6_any _).mono ?_
          rintro z wz ⟨rfl, hbz⟩
          have kz := kept_trans kr hbz
          clear hbz kr
          go_wp2
          go_ret
          exact ⟨rfl, kz⟩
    · obtain ⟨a0, a1, a2, a3⟩ := A7.out.at4
      have cy := D7.out.2.cell 1
      have fy := D7.out.2.frozen 1
      have A8 := Lib.hid (A7.out.kept (R' := w6.heap.size + 1) (i := 1) (u := .int .u64 (e1 : Int)) (by omega))
      have B8 := Lib.hid (B7.out.kept (R' := w6.heap.size + 1) (i := 1) (u := .int .u64 (e1 : Int)) (by omega))
      have C8 := Lib.hid (C7.out.kept (R' := w6.heap.size + 1) (i := 1) (u := .int .u64 (e1 : Int)) (by omega))
      have D8 := Lib.hid (D7.out.set1 e1)
      have k8 := below_set (i := 1) (u := .int .u64 (e1 : Int)) k7 (by omega : w.heap.size ≤ w6.heap.size + 1) D7.out.1
      obtain ⟨a0', a1', a2', a3'⟩ := A8.out.at4
      obtain ⟨b0', b1', b2', b3'⟩ := B8.out.at4
      obtain ⟨c0', c1', c2', c3'⟩ := C8.out.at4
      obtain ⟨d0', d1', d2', d3'⟩ := D8.out.at4
      go_wp2_with fail
      clear a0 a1 a2 a3 cy fy a0' a1' a2' a3' b0' b1' b2' b3' c0' c1' c2' c3' d0' d1' d2' d3'
      have hS := blk_new (w7.setCell ⟨w6.heap.size + 1, 1, none⟩ (.int .u64 (e1 : Int))) 25 #[.int .u64 (t1 : Int), .int .u64 (e1 : Int), .int .u64 (b1 : Int), .int .u64 (g1 : Int), .int .u64 (p : Int), .int .u64 (e1 : Int), .int .u64 (b1 : Int), .int .u64 (g1 : Int), .int .u64 (p : Int), .int .u64 (e2 : Int), .int .u64 (b2 : Int), .int .u64 (g2 : Int), .int .u64 (p : Int), .int .u64 (e1 : Int), .int .u64 (b2 : Int), .int .u64 (g2 : Int)]
      have k9 : Below w.heap.size w ((w7.setCell ⟨w6.heap.size + 1, 1, none⟩ (.int .u64 (e1 : Int))).alloc (.cells #[.int .u64 (t1 : Int), .int .u64 (e1 : Int), .int .u64 (b1 : Int), .int .u64 (g1 : Int), .int .u64 (p : Int), .int .u64 (e1 : Int), .int .u64 (b1 : Int), .int .u64 (g1 : Int), .int .u64 (p : Int), .int .u64 (e2 : Int), .int .u64 (b2 : Int), .int .u64 (g2 : Int), .int .u64 (p : Int), .int .u64 (e1 : Int), .int .u64 (b2 : Int), .int .u64 (g2 : Int)] 25)) := k8.trans ((Below.refl _ _).alloc (by have := k8.size; omega) _)
      have hz : (w7.setCell ⟨w6.heap.size + 1, 1, none⟩ (.int .u64 (e1 : Int))).heap.size = w7.heap.size := by simp [World.setCell]
      rw [hz] at hS
      have hSlt := hS.lt
      obtain ⟨w9, hw9⟩ : ∃ w9, w9 = ((w7.setCell ⟨w6.heap.size + 1, 1, none⟩ (.int .u64 (e1 : Int))).alloc (.cells #[.int .u64 (t1 : Int), .int .u64 (e1 : Int), .int .u64 (b1 : Int), .int .u64 (g1 : Int), .int .u64 (p : Int), .int .u64 (e1 : Int), .int .u64 (b1 : Int), .int .u64 (g1 : Int), .int .u64 (p : Int), .int .u64 (e2 : Int), .int .u64 (b2 : Int), .int .u64 (g2 : Int), .int .u64 (p : Int), .int .u64 (e1 : Int), .int .u64 (b2 : Int), .int .u64 (g2 : Int)] 25)) := ⟨_, rfl⟩
      rw [← hw9] at hS k9 hSlt ⊢
      have HS := Lib.hid hS
      obtain ⟨x0, y0, ho0, hr0⟩ := open_two a t1 e1 b1 g1 (by omega) (by omega) (by omega)
      have HO0 := Lib.hid ho0
      have HR0 := Lib.hid hr0
      clear ho0 hr0
      obtain ⟨x1, y1, ho1, hr1⟩ := open_two a p e1 b1 g1 (by omega) (by omega) (by omega)
      have HO1 := Lib.hid ho1
      have HR1 := Lib.hid hr1
      clear ho1 hr1
      obtain ⟨x2, y2, ho2, hr2⟩ := open_two a p e2 b2 g2 (by omega) (by omega) (by omega)
      have HO2 := Lib.hid ho2
      have HR2 := Lib.hid hr2
      clear ho2 hr2
      obtain ⟨x3, y3, ho3, hr3⟩ := open_two a p e1 b2 g2 (by omega) (by omega) (by omega)
      have HO3 := Lib.hid ho3
      have HR3 := Lib.hid hr3
      clear ho3 hr3
      clear hS hw9 hz A7 B7 C7 D7 A8 B8 C8 D8 k7 k8
      go_loopw [17] (fun i wr => ∃ k : Nat, k ≤ 4 ∧ i = .int .i64 (k : Int) ∧ Below w9.heap.size w9 wr) (fun i _ => 4 - (intOf i).toNat)
      case atStart => exact ⟨0, Nat.zero_le _, rfl, Below.refl _ _⟩
      case round =>
        obtain ⟨k, hk, rfl, hbr⟩ := hrel
        have hSr := HS.out.below hbr hSlt
        have hk5 : k = 0 ∨ k = 1 ∨ k = 2 ∨ k = 3 ∨ k = 4 := by omega
        clear hk
        rcases hk5 with rfl | rfl | rfl | rfl | rfl
        · have q0 := hSr.cell 0
          have q1 := hSr.cell 1
          have q2 := hSr.cell 2
          have q3 := hSr.cell 3
          clear hSr
          go_wp2_with fail
          refine (HO0.out _).mono ?_
          rintro z wa ⟨rfl, hba⟩
          have hSa := (HS.out.below hbr hSlt).below hba (Nat.lt_of_lt_of_le hSlt hbr.size)
          have p0 := hSa.cell 0
          have p1 := hSa.cell 1
          have p2 := hSa.cell 2
          have p3 := hSa.cell 3
          clear hSa q0 q1 q2 q3
          go_wp2_with fail
          refine (HR0.out _).mono ?_
          rintro z wb ⟨rfl, hbb⟩
          have hbw := kept_trans (kept_trans hbr hba) hbb
          clear p0 p1 p2 p3 hba hbb hbr
          go_wp2
          go_roundw
          case rel => exact ⟨1, by omega, by go_num, hbw⟩
          case measure => simp [intOf]
        · have q0 := hSr.cell 4
          have q1 := hSr.cell 5
          have q2 := hSr.cell 6
          have q3 := hSr.cell 7
          clear hSr
          go_wp2_with fail
          refine (HO1.out _).mono ?_
          rintro z wa ⟨rfl, hba⟩
          have hSa := (HS.out.below hbr hSlt).below hba (Nat.lt_of_lt_of_le hSlt hbr.size)
          have p0 := hSa.cell 4
          have p1 := hSa.cell 5
          have p2 := hSa.cell 6
          have p3 := hSa.cell 7
          clear hSa q0 q1 q2 q3
          go_wp2_with fail
          refine (HR1.out _).mono ?_
          rintro z wb ⟨rfl, hbb⟩
          have hbw := kept_trans (kept_trans hbr hba) hbb
          clear p0 p1 p2 p3 hba hbb hbr
          go_wp2
          go_roundw
          case rel => exact ⟨2, by omega, by go_num, hbw⟩
          case measure => simp [intOf]
        · have q0 := hSr.cell 8
          have q1 := hSr.cell 9
          have q2 := hSr.cell 10
          have q3 := hSr.cell 11
          clear hSr
          go_wp2_with fail
          refine (HO2.out _).mono ?_
          rintro z wa ⟨rfl, hba⟩
          have hSa := (HS.out.below hbr hSlt).below hba (Nat.lt_of_lt_of_le hSlt hbr.size)
          have p0 := hSa.cell 8
          have p1 := hSa.cell 9
          have p2 := hSa.cell 10
          have p3 := hSa.cell 11
          clear hSa q0 q1 q2 q3
          go_wp2_with fail
          refine (HR2.out _).mono ?_
          rintro z wb ⟨rfl, hbb⟩
          have hbw := kept_trans (kept_trans hbr hba) hbb
          clear p0 p1 p2 p3 hba hbb hbr
          go_wp2
          go_roundw
          case rel => exact ⟨3, by omega, by go_num, hbw⟩
          case measure => simp [intOf]
        · have q0 := hSr.cell 12
          have q1 := hSr.cell 13
          have q2 := hSr.cell 14
          have q3 := hSr.cell 15
          clear hSr
          go_wp2_with fail
          refine (HO3.out _).mono ?_
          rintro z wa ⟨rfl, hba⟩
          have hSa := (HS.out.below hbr hSlt).below hba (Nat.lt_of_lt_of_le hSlt hbr.size)
          have p0 := hSa.cell 12
          have p1 := hSa.cell 13
          have p2 := hSa.cell 14
          have p3 := hSa.cell 15
          clear hSa q0 q1 q2 q3
          go_wp2_with fail
          refine (HR3.out _).mono ?_
          rintro z wb ⟨rfl, hbb⟩
          have hbw := kept_trans (kept_trans hbr hba) hbb
          clear p0 p1 p2 p3 hba hbb hbr
          go_wp2
          go_roundw
          case rel => exact ⟨4, by omega, by go_num, hbw⟩
          case measure => simp [intOf]
        · have kr := k9.trans (hbr.mono k9.size)
          clear hbr hSr
          go_wp2_with fail
          refine (lives6_any _).mono ?_
          rintro z wz ⟨rfl, hbz⟩
          have kz := kept_trans kr hbz
          clear hbz kr
          go_wp2
          go_ret
          exact ⟨rfl, kz⟩
    · obtain ⟨a0, a1, a2, a3⟩ := A7.out.at4
      have cy := D7.out.2.cell 2
      have fy := D7.out.2.frozen 2
      have A8 := Lib.hid (A7.out.kept (R' := w6.heap.size + 1) (i := 2) (u := .int .u64 (b1 : Int)) (by omega))
      have B8 := Lib.hid (B7.out.kept (R' := w6.heap.size + 1) (i := 2) (u := .int .u64 (b1 : Int)) (by omega))
      have C8 := Lib.hid (C7.out.kept (R' := w6.heap.size + 1) (i := 2) (u := .int .u64 (b1 : Int)) (by omega))
      have D8 := Lib.hid (D7.out.set2 b1)
      have k8 := below_set (i := 2) (u := .int .u64 (b1 : Int)) k7 (by omega : w.heap.size ≤ w6.heap.size + 1) D7.out.1
      obtain ⟨a0', a1', a2', a3'⟩ := A8.out.at4
      obtain ⟨b0', b1', b2', b3'⟩ := B8.out.at4
      obtain ⟨c0', c1', c2', c3'⟩ := C8.out.at4
      obtain ⟨d0', d1', d2', d3'⟩ := D8.out.at4
      go_wp2_with fail
      clear a0 a1 a2 a3 cy fy a0' a1' a2' a3' b0' b1' b2' b3' c0' c1' c2' c3' d0' d1' d2' d3'
      have hS := blk_new (w7.setCell ⟨w6.heap.size + 1, 2, none⟩ (.int .u64 (b1 : Int))) 25 #[.int .u64 (t1 : Int), .int .u64 (e1 : Int), .int .u64 (b1 : Int), .int .u64 (g1 : Int), .int .u64 (p : Int), .int .u64 (e1 : Int), .int .u64 (b1 : Int), .int .u64 (g1 : Int), .int .u64 (p : Int), .int .u64 (e2 : Int), .int .u64 (b2 : Int), .int .u64 (g2 : Int), .int .u64 (p : Int), .int .u64 (e2 : Int), .int .u64 (b1 : Int), .int .u64 (g2 : Int)]
      have k9 : Below w.heap.size w ((w7.setCell ⟨w6.heap.size + 1, 2, none⟩ (.int .u64 (b1 : Int))).alloc (.cells #[.int .u64 (t1 : Int), .int .u64 (e1 : Int), .int .u64 (b1 : Int), .int .u64 (g1 : Int), .int .u64 (p : Int), .int .u64 (e1 : Int), .int .u64 (b1 : Int), .int .u64 (g1 : Int), .int .u64 (p : Int), .int .u64 (e2 : Int), .int .u64 (b2 : Int), .int .u64 (g2 : Int), .int .u64 (p : Int), .int .u64 (e2 : Int), .int .u64 (b1 : Int), .int .u64 (g2 : Int)] 25)) := k8.trans ((Below.refl _ _).alloc (by have := k8.size; omega) _)
      have hz : (w7.setCell ⟨w6.heap.size + 1, 2, none⟩ (.int .u64 (b1 : Int))).heap.size = w7.heap.size := by simp [World.setCell]
      rw [hz] at hS
      have hSlt := hS.lt
      obtain ⟨w9, hw9⟩ : ∃ w9, w9 = ((w7.setCell ⟨w6.heap.size + 1, 2, none⟩ (.int .u64 (b1 : Int))).alloc (.cells #[.int .u64 (t1 : Int), .int .u64 (e1 : Int), .int .u64 (b1 : Int), .int .u64 (g1 : Int), .int .u64 (p : Int), .int .u64 (e1 : Int), .int .u64 (b1 : Int), .int .u64 (g1 : Int), .int .u64 (p : Int), .int .u64 (e2 : Int), .int .u64 (b2 : Int), .int .u64 (g2 : Int), .int .u64 (p : Int), .int .u64 (e2 : Int), .int .u64 (b1 : Int), .int .u64 (g2 : Int)] 25)) := ⟨_, rfl⟩
      rw [← hw9] at hS k9 hSlt ⊢
      have HS := Lib.hid hS
      obtain ⟨x0, y0, ho0, hr0⟩ := open_two a t1 e1 b1 g1 (by omega) (by omega) (by omega)
      have HO0 := Lib.hid ho0
      have HR0 := Lib.hid hr0
      clear ho0 hr0
      obtain ⟨x1, y1, ho1, hr1⟩ := open_two a p e1 b1 g1 (by omega) (by omega) (by omega)
      have HO1 := Lib.hid ho1
      have HR1 := Lib.hid hr1
      clear ho1 hr1
      obtain ⟨x2, y2, ho2, hr2⟩ := open_two a p e2 b2 g2 (by omega) (by omega) (by omega)
      have HO2 := Lib.hid ho2
      have HR2 := Lib.hid hr2
      clear ho2 hr2
      obtain ⟨x3, y3, ho3, hr3⟩ := open_two a p e2 b1 g2 (by omega) (by omega) (by omega)
      have HO3 := Lib.hid ho3
      have HR3 := Lib.hid hr3
      clear ho3 hr3
      clear hS hw9 hz A7 B7 C7 D7 A8 B8 C8 D8 k7 k8
      go_loopw [17] (fun i wr => ∃ k : Nat, k ≤ 4 ∧ i = .int .i64 (k : Int) ∧ Below w9.heap.size w9 wr) (fun i _ => 4 - (intOf i).toNat)
      case atStart => exact ⟨0, Nat.zero_le _, rfl, Below.refl _ _⟩
      case round =>
        obtain ⟨k, hk, rfl, hbr⟩ := hrel
        have hSr := HS.out.below hbr hSlt
        have hk5 : k = 0 ∨ k = 1 ∨ k = 2 ∨ k = 3 ∨ k = 4 := by omega
        clear hk
        rcases hk5 with rfl | rfl | rfl | rfl | rfl
        · have q0 := hSr.cell 0
          have q1 := hSr.cell 1
          have q2 := hSr.cell 2
          have q3 := hSr.cell 3
          clear hSr
          go_wp2_with fail
          refine (HO0.out _).mono ?_
          rintro z wa ⟨rfl, hba⟩
          have hSa := (HS.out.below hbr hSlt).below hba (Nat.lt_of_lt_of_le hSlt hbr.size)
          have p0 := hSa.cell 0
          have p1 := hSa.cell 1
          have p2 := hSa.cell 2
          have p3 := hSa.cell 3
          clear hSa q0 q1 q2 q3
          go_wp2_with fail
          refine (HR0.out _).mono ?_
          rintro z wb ⟨rfl, hbb⟩
          have hbw := kept_trans (kept_trans hbr hba) hbb
          clear p0 p1 p2 p3 hba hbb hbr
          go_wp2
          go_roundw
          case rel => exact ⟨1, by omega, by go_num, hbw⟩
          case measure => simp [intOf]
        · have q0 := hSr.cell 4
          have q1 := hSr.cell 5
          have q2 := hSr.cell 6
          have q3 := hSr.cell 7
          clear hSr
          go_wp2_with fail
          refine (HO1.out _).mono ?_
          rintro z wa ⟨rfl, hba⟩
          have hSa := (HS.out.below hbr hSlt).below hba (Nat.lt_of_lt_of_le hSlt hbr.size)
          have p0 := hSa.cell 4
          have p1 := hSa.cell 5
          have p2 := hSa.cell 6
          have p3 := hSa.cell 7
          clear hSa q0 q1 q2 q3
          go_wp2_with fail
          refine (HR1.out _).mono ?_
          rintro z wb ⟨rfl, hbb⟩
          have hbw := kept_trans (kept_trans hbr hba) hbb
          clear p0 p1 p2 p3 hba hbb hbr
          go_wp2
          go_roundw
          case rel => exact ⟨2, by omega, by go_num, hbw⟩
          case measure => simp [intOf]
        · have q0 := hSr.cell 8
          have q1 := hSr.cell 9
          have q2 := hSr.cell 10
          have q3 := hSr.cell 11
          clear hSr
          go_wp2_with fail
          refine (HO2.out _).mono ?_
          rintro z wa ⟨rfl, hba⟩
          have hSa := (HS.out.below hbr hSlt).below hba (Nat.lt_of_lt_of_le hSlt hbr.size)
          have p0 := hSa.cell 8
          have p1 := hSa.cell 9
          have p2 := hSa.cell 10
          have p3 := hSa.cell 11
          clear hSa q0 q1 q2 q3
          go_wp2_with fail
          refine (HR2.out _).mono ?_
          rintro z wb ⟨rfl, hbb⟩
          have hbw := kept_trans (kept_trans hbr hba) hbb
          clear p0 p1 p2 p3 hba hbb hbr
          go_wp2
          go_roundw
          case rel => exact ⟨3, by omega, by go_num, hbw⟩
          case measure => simp [intOf]
        · have q0 := hSr.cell 12
          have q1 := hSr.cell 13
          have q2 := hSr.cell 14
          have q3 := hSr.cell 15
          clear hSr
          go_wp2_with fail
          refine (HO3.out _).mono ?_
          rintro z wa ⟨rfl, hba⟩
          have hSa := (HS.out.below hbr hSlt).below hba (Nat.lt_of_lt_of_le hSlt hbr.size)
          have p0 := hSa.cell 12
          have p1 := hSa.cell 13
          have p2 := hSa.cell 14
          have p3 := hSa.cell 15
          clear hSa q0 q1 q2 q3
          go_wp2_with fail
          refine (HR3.out _).mono ?_
          rintro z wb ⟨rfl, hbb⟩
          have hbw := kept_trans (kept_trans hbr hba) hbb
          clear p0 p1 p2 p3 hba hbb hbr
          go_wp2
          go_roundw
          case rel => exact ⟨4, by omega, by go_num, hbw⟩
          case measure => simp [intOf]
        · have kr := k9.trans (hbr.mono k9.size)
          clear hbr hSr
          go_wp2_with fail
          refine (lives6_any _).mono ?_
          rintro z wz ⟨rfl, hbz⟩
          have kz := kept_trans kr hbz
          clear hbz kr
          go_wp2
          go_ret
          exact ⟨rfl, kz⟩
    · obtain ⟨a0, a1, a2, a3⟩ := A7.out.at4
      have cy := D7.out.2.cell 3
      have fy := D7.out.2.frozen 3
      have A8 := Lib.hid (A7.out.kept (R' := w6.heap.size + 1) (i := 3) (u := .int .u64 (g1 : Int)) (by omega))
      have B8 := Lib.hid (B7.out.kept (R' := w6.heap.size + 1) (i := 3) (u := .int .u64 (g1 : Int)) (by omega))
      have C8 := Lib.hid (C7.out.kept (R' := w6.heap.size + 1) (i := 3) (u := .int .u64 (g1 : Int)) (by omega))
      have D8 := Lib.hid (D7.out.set3 g1)
      have k8 := below_set (i := 3) (u := .int .u64 (g1 : Int)) k7 (by omega : w.heap.size ≤ w6.heap.size + 1) D7.out.1
      obtain ⟨a0', a1', a2', a3'⟩ := A8.out.at4
      obtain ⟨b0', b1', b2', b3'⟩ := B8.out.at4
      obtain ⟨c0', c1', c2', c3'⟩ := C8.out.at4
      obtain ⟨d0', d1', d2', d3'⟩ := D8.out.at4
      go_wp2_with fail
      clear a0 a1 a2 a3 cy fy a0' a1' a2' a3' b0' b1' b2' b3' c0' c1' c2' c3' d0' d1' d2' d3'
      have hS := blk_new (w7.setCell ⟨w6.heap.size + 1, 3, none⟩ (.int .u64 (g1 : Int))) 25 #[.int .u64 (t1 : Int), .int .u64 (e1 : Int), .int .u64 (b1 : Int), .int .u64 (g1 : Int), .int .u64 (p : Int), .int .u64 (e1 : Int), .int .u64 (b1 : Int), .int .u64 (g1 : Int), .int .u64 (p : Int), .int .u64 (e2 : Int), .int .u64 (b2 : Int), .int .u64 (g2 : Int), .int .u64 (p : Int), .int .u64 (e2 : Int), .int .u64 (b2 : Int), .int .u64 (g1 : Int)]
      have k9 : Below w.heap.size w ((w7.setCell ⟨w6.heap.size + 1, 3, none⟩ (.int .u64 (g1 : Int))).alloc (.cells #[.int .u64 (t1 : Int), .int .u64 (e1 : Int), .int .u64 (b1 : Int), .int .u64 (g1 : Int), .int .u64 (p : Int), .int .u64 (e1 : Int), .int .u64 (b1 : Int), .int .u64 (g1 : Int), .int .u64 (p : Int), .int .u64 (e2 : Int), .int .u64 (b2 : Int), .int .u64 (g2 : Int), .int .u64 (p : Int), .int .u64 (e2 : Int), .int .u64 (b2 : Int), .int .u64 (g1 : Int)] 25)) := k8.trans ((Below.refl _ _).alloc (by have := k8.size; omega) _)
      have hz : (w7.setCell ⟨w6.heap.size + 1, 3, none⟩ (.int .u64 (g1 : Int))).heap.size = w7.heap.size := by simp [World.setCell]
      rw [hz] at hS
      have hSlt := hS.lt
      obtain ⟨w9, hw9⟩ : ∃ w9, w9 = ((w7.setCell ⟨w6.heap.size + 1, 3, none⟩ (.int .u64 (g1 : Int))).alloc (.cells #[.int .u64 (t1 : Int), .int .u64 (e1 : Int), .int .u64 (b1 : Int), .int .u64 (g1 : Int), .int .u64 (p : Int), .int .u64 (e1 : Int), .int .u64 (b1 : Int), .int .u64 (g1 : Int), .int .u64 (p : Int), .int .u64 (e2 : Int), .int .u64 (b2 : Int), .int .u64 (g2 : Int), .int .u64 (p : Int), .int .u64 (e2 : Int), .int .u64 (b2 : Int), .int .u64 (g1 : Int)] 25)) := ⟨_, rfl⟩
      rw [← hw9] at hS k9 hSlt ⊢
      have HS := Lib.hid hS
      obtain ⟨x0, y0, ho0, hr0⟩ := open_two a t1 e1 b1 g1 (by omega) (by omega) (by omega)
      have HO0 := Lib.hid ho0
      have HR0 := Lib.hid hr0
      clear ho0 hr0
      obtain ⟨x1, y1, ho1, hr1⟩ := open_two a p e1 b1 g1 (by omega) (by omega) (by omega)
      have HO1 := Lib.hid ho1
      have HR1 := Lib.hid hr1
      clear ho1 hr1
      obtain ⟨x2, y2, ho2, hr2⟩ := open_two a p e2 b2 g2 (by omega) (by omega) (by omega)
      have HO2 := Lib.hid ho2
      have HR2 := Lib.hid hr2
      clear ho2 hr2
      obtain ⟨x3, y3, ho3, hr3⟩ := open_two a p e2 b2 g1 (by omega) (by omega) (by omega)
      have HO3 := Lib.hid ho3
      have HR3 := Lib.hid hr3
      clear ho3 hr3
      clear hS hw9 hz A7 B7 C7 D7 A8 B8 C8 D8 k7 k8
      go_loopw [17] (fun i wr => ∃ k : Nat, k ≤ 4 ∧ i = .int .i64 (k : Int) ∧ Below w9.heap.size w9 wr) (fun i _ => 4 - (intOf i).toNat)
      case atStart => exact ⟨0, Nat.zero_le _, rfl, Below.refl _ _⟩
      case round =>
        obtain ⟨k, hk, rfl, hbr⟩ := hrel
        have hSr := HS.out.below hbr hSlt
        have hk5 : k = 0 ∨ k = 1 ∨ k = 2 ∨ k = 3 ∨ k = 4 := by omega
        clear hk
        rcases hk5 with rfl | rfl | rfl | rfl | rfl
        · have q0 := hSr.cell 0
          have q1 := hSr.cell 1
          have q2 := hSr.cell 2
          have q3 := hSr.cell 3
          clear hSr
          go_wp2_with fail
          refine (HO0.out _).mono ?_
          rintro z wa ⟨rfl, hba⟩
          have hSa := (HS.out.below hbr hSlt).below hba (Nat.lt_of_lt_of_le hSlt hbr.size)
          have p0 := hSa.cell 0
          have p1 := hSa.cell 1
          have p2 := hSa.cell 2
          have p3 := hSa.cell 3
          clear hSa q0 q1 q2 q3
          go_wp2_with fail
          refine (HR0.out _).mono ?_
          rintro z wb ⟨rfl, hbb⟩
          have hbw := kept_trans (kept_trans hbr hba) hbb
          clear p0 p1 p2 p3 hba hbb hbr
          go_wp2
          go_roundw
          case rel => exact ⟨1, by omega, by go_num, hbw⟩
          case measure => simp [intOf]
        · have q0 := hSr.cell 4
          have q1 := hSr.cell 5
          have q2 := hSr.cell 6
          have q3 := hSr.cell 7
          clear hSr
          go_wp2_with fail
          refine (HO1.out _).mono ?_
          rintro z wa ⟨rfl, hba⟩
          have hSa := (HS.out.below hbr hSlt).below hba (Nat.lt_of_lt_of_le hSlt hbr.size)
          have p0 := hSa.cell 4
          have p1 := hSa.cell 5
          have p2 := hSa.cell 6
          have p3 := hSa.cell 7
          clear hSa q0 q1 q2 q3
          go_wp2_with fail
          refine (HR1.out _).mono ?_
          rintro z wb ⟨rfl, hbb⟩
          have hbw := kept_trans (kept_trans hbr hba) hbb
          clear p0 p1 p2 p3 hba hbb hbr
          go_wp2
          go_roundw
          case rel => exact ⟨2, by omega, by go_num, hbw⟩
          case measure => simp [intOf]
        · have q0 := hSr.cell 8
          have q1 := hSr.cell 9
          have q2 := hSr.cell 10
          have q3 := hSr.cell 11
          clear hSr
          go_wp2_with fail
          refine (HO2.out _).mono ?_
          rintro z wa ⟨rfl, hba⟩
          have hSa := (HS.out.below hbr hSlt).below hba (Nat.lt_of_lt_of_le hSlt hbr.size)
          have p0 := hSa.cell 8
          have p1 := hSa.cell 9
          have p2 := hSa.cell 10
          have p3 := hSa.cell 11
          clear hSa q0 q1 q2 q3
          go_wp2_with fail
          refine (HR2.out _).mono ?_
          rintro z wb ⟨rfl, hbb⟩
          have hbw := kept_trans (kept_trans hbr hba) hbb
          clear p0 p1 p2 p3 hba hbb hbr
          go_wp2
          go_roundw
          case rel => exact ⟨3, by omega, by go_num, hbw⟩
          case measure => simp [intOf]
        · have q0 := hSr.cell 12
          have q1 := hSr.cell 13
          have q2 := hSr.cell 14
          have q3 := hSr.cell 15
          clear hSr
          go_wp2_with fail
          refine (HO3.out _).mono ?_
          rintro z wa ⟨rfl, hba⟩
          have hSa := (HS.out.below hbr hSlt).below hba (Nat.lt_of_lt_of_le hSlt hbr.size)
          have p0 := hSa.cell 12
          have p1 := hSa.cell 13
          have p2 := hSa.cell 14
          have p3 := hSa.cell 15
          clear hSa q0 q1 q2 q3
          go_wp2_with fail
          refine (HR3.out _).mono ?_
          rintro z wb ⟨rfl, hbb⟩
          have hbw := kept_trans (kept_trans hbr hba) hbb
          clear p0 p1 p2 p3 hba hbb hbr
          go_wp2
          go_roundw
          case rel => exact ⟨4, by omega, by go_num, hbw⟩
          case measure => simp [intOf]
        · have kr := k9.trans (hbr.mono k9.size)
          clear hbr hSr
          go_wp2_with fail
          refine (lives6_any _).mono ?_
          rintro z wz ⟨rfl, hbz⟩
          have kz := kept_trans kr hbz
          clear hbz kr
          go_wp2
          go_ret
          exact ⟨rfl, kz⟩

end Go.Proofs.Ytokmghojdmpacaa
