/-
  ShareAdds: two shares together are the document's, or none.
-/
import Derived.Test.YthnbkbmhlalpaaaShl
import Derived.Deep.DeepCutAuto
namespace Go.Proofs.Ythnbkbmhlalpaaa
open Go.RowKit Go.Maps
attribute [local go_sem ↓] Go.wp_at_zero Go.wp_at_succ

theorem Blk.new {w : World} {R t : Nat} {cs : Array Value} (h : Blk w R t cs) (o : Obj) : Blk (w.alloc o) R t cs := blk_alloc h o
/-- Three shares in a row of their own. -/
theorem st_three (w : World) (a b c d e f : Nat) (h : Sm64 [⟨a, b⟩, ⟨c, d⟩, ⟨e, f⟩]) : St (w.alloc (.cells #[.int .u64 (a : Int), .int .u64 (b : Int), .int .u64 (c : Int), .int .u64 (d : Int), .int .u64 (e : Int), .int .u64 (f : Int)] 33)) (some ⟨w.heap.size, 0, none⟩) 3 3 [⟨a, b⟩, ⟨c, d⟩, ⟨e, f⟩] := by
  have hB := blk_new w 33 #[.int .u64 (a : Int), .int .u64 (b : Int), .int .u64 (c : Int), .int .u64 (d : Int), .int .u64 (e : Int), .int .u64 (f : Int)]
  refine ⟨rfl, fun _ => ⟨w.heap.size, 0, rfl, hB.lt, fun i s hs => ?_⟩, Nat.le_refl _, (fun e => by cases e), h⟩
  rw [hB.cell, hB.cell]
  match i, hs with
  | 0, hs => injection hs with hs; subst hs; exact ⟨rfl, rfl⟩
  | 1, hs => injection hs with hs; subst hs; exact ⟨rfl, rfl⟩
  | 2, hs => injection hs with hs; subst hs; exact ⟨rfl, rfl⟩
  | i + 3, hs => simp at hs

set_option maxRecDepth 100000 in
set_option maxHeartbeats 8000000 in
theorem adds_walk (a v b u : Nat) (w : World) (ha : a < 18446744073709551616) (hv : v < 18446744073709551616) (hb : b < 18446744073709551616) (hu : u < 18446744073709551616) :
    Calls Try.prog 5 #[.agg #[.int .u64 (a : Int), .int .u64 (v : Int)], .agg #[.int .u64 (b : Int), .int .u64 (u : Int)]] w fun e w' => e = .returned (.bool true) ∧ Below w.heap.size w w' := by
  obtain ⟨d, hd⟩ : ∃ d, d = a % 2305843009213693951 + 2305843009213693951 := ⟨_, rfl⟩
  have hdi : (a : Int) % 2305843009213693951 + 2305843009213693951 = (d : Int) := by omega
  have hdb : d < 18446744073709551616 := by omega
  have HLV := Lib.hid (fun W => lives9_any W)
  have hfree := share_free
  have HNQ := Lib.hid share_neq
  clear hd
  go_enter Try.func5, Try.ntmps5
  go_wp2_with fail
  have hA0 := ((((blk_new w 33 #[.int .u64 (a : Int), .int .u64 (v : Int)]).new (.cells #[.int .u64 (b : Int), .int .u64 (u : Int)] 33)).new (.cells #[.int .u64 (a : Int), .int .u64 (u : Int)] 33)).new (.cells #[.int .u64 (d : Int), .int .u64 (u : Int)] 33)).new (.cells #[.int .u64 (b : Int), .int .u64 (u : Int), .int .u64 (a : Int), .int .u64 (u : Int), .int .u64 (d : Int), .int .u64 (u : Int)] 33)
  have hL0 := st_three ((((w.alloc (.cells #[.int .u64 (a : Int), .int .u64 (v : Int)] 33)).alloc (.cells #[.int .u64 (b : Int), .int .u64 (u : Int)] 33)).alloc (.cells #[.int .u64 (a : Int), .int .u64 (u : Int)] 33)).alloc (.cells #[.int .u64 (d : Int), .int .u64 (u : Int)] 33)) b u a u d u (by
    intro s hs
    simp only [List.mem_cons, List.not_mem_nil, or_false] at hs
    rcases hs with rfl | rfl | rfl <;> exact ⟨by assumption, by assumption⟩)
  have hK0 : Below w.heap.size w (((((w.alloc (.cells #[.int .u64 (a : Int), .int .u64 (v : Int)] 33)).alloc (.cells #[.int .u64 (b : Int), .int .u64 (u : Int)] 33)).alloc (.cells #[.int .u64 (a : Int), .int .u64 (u : Int)] 33)).alloc (.cells #[.int .u64 (d : Int), .int .u64 (u : Int)] 33)).alloc (.cells #[.int .u64 (b : Int), .int .u64 (u : Int), .int .u64 (a : Int), .int .u64 (u : Int), .int .u64 (d : Int), .int .u64 (u : Int)] 33)) := (((((Below.refl _ w).alloc (Nat.le_refl _) _).alloc (by simp) _).alloc (by simp; omega) _).alloc (by simp; omega) _).alloc (by simp; omega) _
  rw [World.size_alloc, World.size_alloc, World.size_alloc, World.size_alloc] at hL0
  obtain ⟨wb, hwb⟩ : ∃ wb, wb = (((((w.alloc (.cells #[.int .u64 (a : Int), .int .u64 (v : Int)] 33)).alloc (.cells #[.int .u64 (b : Int), .int .u64 (u : Int)] 33)).alloc (.cells #[.int .u64 (a : Int), .int .u64 (u : Int)] 33)).alloc (.cells #[.int .u64 (d : Int), .int .u64 (u : Int)] 33)).alloc (.cells #[.int .u64 (b : Int), .int .u64 (u : Int), .int .u64 (a : Int), .int .u64 (u : Int), .int .u64 (d : Int), .int .u64 (u : Int)] 33)) := ⟨_, rfl⟩
  obtain ⟨A7, hA7⟩ : ∃ A7, A7 = some (⟨w.heap.size + 1 + 1 + 1 + 1, 0, none⟩ : Addr) := ⟨_, rfl⟩
  rw [← hwb] at hA0 hL0 hK0 ⊢
  rw [← hA7] at hL0 ⊢
  have HA0 := Lib.hid hA0
  have HL0 := Lib.hid hL0
  have HK0 := Lib.hid hK0
  have hkk : Below wb.heap.size wb wb := Below.refl _ _
  clear hwb hA7 hA0 hL0 hK0
  go_loopw [8] (fun i wr => ∃ k : Nat, i = .int .i64 (k : Int) ∧ k ≤ 3 ∧ Below wb.heap.size wb wr) (fun i _ => 3 - (intOf i).toNat)
  case atStart => exact ⟨0, rfl, Nat.zero_le _, hkk⟩
  case round =>
    obtain ⟨k, rfl, hk, hb⟩ := hrel
    have HB := Lib.hid hb
    clear hkk hb
    by_cases hlt : k < 3
    · obtain ⟨s, hs⟩ : ∃ s, [(⟨b, u⟩ : Shr), ⟨a, u⟩, ⟨d, u⟩][k]? = some s := ⟨[(⟨b, u⟩ : Shr), ⟨a, u⟩, ⟨d, u⟩][k]'(by simpa using hlt), List.getElem?_eq_getElem _⟩
      obtain ⟨B, off, rfl, hBb, -, c3, c4⟩ := HL0.out.spot hs
      have hsm := HL0.out.small s (List.mem_of_getElem? hs)
      obtain ⟨bi, ui⟩ := s
      obtain ⟨x, y, z, hxyz⟩ : ∃ x y z, sumS a v bi ui = (x, y, z) := ⟨_, _, _, rfl⟩
      have HADD := Lib.hid (fun W => sadd_any a v bi ui x y z W ha hv hsm.1 hsm.2 hxyz)
      have HRAD := Lib.hid (fun W => rsadd_any a v bi ui x y z W hxyz)
      have hnq : ∀ W, (binOp .neq 33 (.agg #[.int .u64 (x : Int), .int .u64 (y : Int)]) (.agg #[.int .u64 (x : Int), .int .u64 (y : Int)])).run Try.prog W = .ok (.bool false) W := fun W => by
        rw [HNQ.out]
        unfold alike
        simp
      have HN2 := Lib.hid hnq
      have hc0 : wr.cell? ⟨w.heap.size, 0, none⟩ = some (.int .u64 (a : Int)) := (HB.out.cell (p := ⟨w.heap.size, 0, none⟩) HA0.out.lt).trans (HA0.out.cell 0)
      have hc1 : wr.cell? ⟨w.heap.size, 1, none⟩ = some (.int .u64 (v : Int)) := (HB.out.cell (p := ⟨w.heap.size, 1, none⟩) HA0.out.lt).trans (HA0.out.cell 1)
      have hc2 := (HB.out.cell (p := ⟨B, off + k * 2, none⟩) hBb).trans c3
      have hc3 := (HB.out.cell (p := ⟨B, off + k * 2 + 1, none⟩) hBb).trans c4
      have q0 := And.intro hc0 (And.intro hc1 (And.intro hc2 hc3))
      have hb_R0 : w.heap.size < wr.heap.size := Nat.lt_of_lt_of_le HA0.out.lt HB.out.size
      have hb_B : B < wr.heap.size := Nat.lt_of_lt_of_le hBb HB.out.size
      have q1 : (k : Int) < 3 := by omega
      have q2 : (0 : Int) ≤ (k : Int) := by omega
      clear hs hsm c3 c4 hxyz hnq hc0 hc1 hc2 hc3
      go_wp2_with fail
      have q0d : wr.drew.cell? ⟨w.heap.size, 0, none⟩ = some (.int .u64 (a : Int)) ∧ wr.drew.cell? ⟨w.heap.size, 1, none⟩ = some (.int .u64 (v : Int)) ∧ wr.drew.cell? ⟨B, off + k * 2, none⟩ = some (.int .u64 (bi : Int)) ∧ wr.drew.cell? ⟨B, off + k * 2 + 1, none⟩ = some (.int .u64 (ui : Int)) := q0
      have qz : (wr.alloc (.cells #[.int .u64 0, .int .u64 0] 33)).cell? ⟨w.heap.size, 0, none⟩ = some (.int .u64 (a : Int)) ∧ (wr.alloc (.cells #[.int .u64 0, .int .u64 0] 33)).cell? ⟨w.heap.size, 1, none⟩ = some (.int .u64 (v : Int)) ∧ (wr.alloc (.cells #[.int .u64 0, .int .u64 0] 33)).cell? ⟨B, off + k * 2, none⟩ = some (.int .u64 (bi : Int)) ∧ (wr.alloc (.cells #[.int .u64 0, .int .u64 0] 33)).cell? ⟨B, off + k * 2 + 1, none⟩ = some (.int .u64 (ui : Int)) := ⟨cell_alloc_l (.cells #[.int .u64 0, .int .u64 0] 33) q0.1, cell_alloc_l (.cells #[.int .u64 0, .int .u64 0] 33) q0.2.1, cell_alloc_l (.cells #[.int .u64 0, .int .u64 0] 33) q0.2.2.1, cell_alloc_l (.cells #[.int .u64 0, .int .u64 0] 33) q0.2.2.2⟩
      have qzd : (wr.alloc (.cells #[.int .u64 0, .int .u64 0] 33)).drew.cell? ⟨w.heap.size, 0, none⟩ = some (.int .u64 (a : Int)) ∧ (wr.alloc (.cells #[.int .u64 0, .int .u64 0] 33)).drew.cell? ⟨w.heap.size, 1, none⟩ = some (.int .u64 (v : Int)) ∧ (wr.alloc (.cells #[.int .u64 0, .int .u64 0] 33)).drew.cell? ⟨B, off + k * 2, none⟩ = some (.int .u64 (bi : Int)) ∧ (wr.alloc (.cells #[.int .u64 0, .int .u64 0] 33)).drew.cell? ⟨B, off + k * 2 + 1, none⟩ = some (.int .u64 (ui : Int)) := qz
      have hz0 := blk_new wr 33 #[.int .u64 0, .int .u64 0]
      have hbz : Below wr.heap.size wr (wr.alloc (.cells #[.int .u64 0, .int .u64 0] 33)) := (Below.refl _ wr).alloc (Nat.le_refl _) _
      have hsz : wr.heap.size < (wr.alloc (.cells #[.int .u64 0, .int .u64 0] 33)).heap.size := by simp
      go_upto_region 9 with (fail)
      go_cut [9, 10] (fun p9 q9 wx => ∃ R : Nat, p9 = .pointer (some ⟨R, 0, none⟩) ∧ q9 = .int .i64 (z : Int) ∧ ∃ W : World, W = wx ∧ wr.heap.size ≤ R ∧ Blk W R 33 #[.int .u64 (x : Int), .int .u64 (y : Int)] ∧ Below wr.heap.size wr W)
      case first =>
        go_region_held3 (fun w' : World => w'.cell? ⟨w.heap.size, 0, none⟩ = some (.int .u64 (a : Int)) ∧ w'.cell? ⟨w.heap.size, 1, none⟩ = some (.int .u64 (v : Int)) ∧ w'.cell? ⟨B, off + k * 2, none⟩ = some (.int .u64 (bi : Int)) ∧ w'.cell? ⟨B, off + k * 2 + 1, none⟩ = some (.int .u64 (ui : Int)))
          ((first | with_reducible exact q0 | with_reducible exact q0d | with_reducible exact qz | with_reducible exact qzd | with_reducible exact qA | with_reducible exact qB | with_reducible exact qBd | with_reducible exact qC | with_reducible exact qCd | with_reducible exact qD | with_reducible exact qDd))
          (first
            | (go_at_call 19; ((with_reducible refine (HADD.out _).mono ?_); rintro e9 w9 ⟨rfl, hb9'⟩; have hb9 : Below wr.heap.size wr w9 := below_of_drew hb9'; clear hb9'; have qA : w9.cell? ⟨w.heap.size, 0, none⟩ = some (.int .u64 (a : Int)) ∧ w9.cell? ⟨w.heap.size, 1, none⟩ = some (.int .u64 (v : Int)) ∧ w9.cell? ⟨B, off + k * 2, none⟩ = some (.int .u64 (bi : Int)) ∧ w9.cell? ⟨B, off + k * 2 + 1, none⟩ = some (.int .u64 (ui : Int)) := ⟨(hb9.cell (p := ⟨w.heap.size, 0, none⟩) (by first | exact hb_R0 | (rw [World.size_alloc]; exact Nat.lt_succ_of_lt hb_R0))).trans q0.1, (hb9.cell (p := ⟨w.heap.size, 1, none⟩) (by first | exact hb_R0 | (rw [World.size_alloc]; exact Nat.lt_succ_of_lt hb_R0))).trans q0.2.1, (hb9.cell (p := ⟨B, off + k * 2, none⟩) (by first | exact hb_B | (rw [World.size_alloc]; exact Nat.lt_succ_of_lt hb_B))).trans q0.2.2.1, (hb9.cell (p := ⟨B, off + k * 2 + 1, none⟩) (by first | exact hb_B | (rw [World.size_alloc]; exact Nat.lt_succ_of_lt hb_B))).trans q0.2.2.2⟩; have qB : (w9.alloc (.cells #[.int .u64 0, .int .u64 0] 33)).cell? ⟨w.heap.size, 0, none⟩ = some (.int .u64 (a : Int)) ∧ (w9.alloc (.cells #[.int .u64 0, .int .u64 0] 33)).cell? ⟨w.heap.size, 1, none⟩ = some (.int .u64 (v : Int)) ∧ (w9.alloc (.cells #[.int .u64 0, .int .u64 0] 33)).cell? ⟨B, off + k * 2, none⟩ = some (.int .u64 (bi : Int)) ∧ (w9.alloc (.cells #[.int .u64 0, .int .u64 0] 33)).cell? ⟨B, off + k * 2 + 1, none⟩ = some (.int .u64 (ui : Int)) := ⟨cell_alloc_l (.cells #[.int .u64 0, .int .u64 0] 33) qA.1, cell_alloc_l (.cells #[.int .u64 0, .int .u64 0] 33) qA.2.1, cell_alloc_l (.cells #[.int .u64 0, .int .u64 0] 33) qA.2.2.1, cell_alloc_l (.cells #[.int .u64 0, .int .u64 0] 33) qA.2.2.2⟩; have qBd : (w9.alloc (.cells #[.int .u64 0, .int .u64 0] 33)).drew.cell? ⟨w.heap.size, 0, none⟩ = some (.int .u64 (a : Int)) ∧ (w9.alloc (.cells #[.int .u64 0, .int .u64 0] 33)).drew.cell? ⟨w.heap.size, 1, none⟩ = some (.int .u64 (v : Int)) ∧ (w9.alloc (.cells #[.int .u64 0, .int .u64 0] 33)).drew.cell? ⟨B, off + k * 2, none⟩ = some (.int .u64 (bi : Int)) ∧ (w9.alloc (.cells #[.int .u64 0, .int .u64 0] 33)).drew.cell? ⟨B, off + k * 2 + 1, none⟩ = some (.int .u64 (ui : Int)) := qB; have qC : (w9.alloc (.cells #[.int .u64 (x : Int), .int .u64 (y : Int)] 33)).cell? ⟨w.heap.size, 0, none⟩ = some (.int .u64 (a : Int)) ∧ (w9.alloc (.cells #[.int .u64 (x : Int), .int .u64 (y : Int)] 33)).cell? ⟨w.heap.size, 1, none⟩ = some (.int .u64 (v : Int)) ∧ (w9.alloc (.cells #[.int .u64 (x : Int), .int .u64 (y : Int)] 33)).cell? ⟨B, off + k * 2, none⟩ = some (.int .u64 (bi : Int)) ∧ (w9.alloc (.cells #[.int .u64 (x : Int), .int .u64 (y : Int)] 33)).cell? ⟨B, off + k * 2 + 1, none⟩ = some (.int .u64 (ui : Int)) := ⟨cell_alloc_l (.cells #[.int .u64 (x : Int), .int .u64 (y : Int)] 33) qA.1, cell_alloc_l (.cells #[.int .u64 (x : Int), .int .u64 (y : Int)] 33) qA.2.1, cell_alloc_l (.cells #[.int .u64 (x : Int), .int .u64 (y : Int)] 33) qA.2.2.1, cell_alloc_l (.cells #[.int .u64 (x : Int), .int .u64 (y : Int)] 33) qA.2.2.2⟩; have qCd : (w9.alloc (.cells #[.int .u64 (x : Int), .int .u64 (y : Int)] 33)).drew.cell? ⟨w.heap.size, 0, none⟩ = some (.int .u64 (a : Int)) ∧ (w9.alloc (.cells #[.int .u64 (x : Int), .int .u64 (y : Int)] 33)).drew.cell? ⟨w.heap.size, 1, none⟩ = some (.int .u64 (v : Int)) ∧ (w9.alloc (.cells #[.int .u64 (x : Int), .int .u64 (y : Int)] 33)).drew.cell? ⟨B, off + k * 2, none⟩ = some (.int .u64 (bi : Int)) ∧ (w9.alloc (.cells #[.int .u64 (x : Int), .int .u64 (y : Int)] 33)).drew.cell? ⟨B, off + k * 2 + 1, none⟩ = some (.int .u64 (ui : Int)) := qC; have way1 : True := trivial))
            | (go_at_call 19; ((with_reducible refine (HADD.out _).mono ?_); rintro e9 w9 ⟨rfl, hb9'⟩; have hb9 : Below (wr.alloc (.cells #[.int .u64 0, .int .u64 0] 33)).heap.size (wr.alloc (.cells #[.int .u64 0, .int .u64 0] 33)) w9 := below_of_drew hb9'; clear hb9'; have qA : w9.cell? ⟨w.heap.size, 0, none⟩ = some (.int .u64 (a : Int)) ∧ w9.cell? ⟨w.heap.size, 1, none⟩ = some (.int .u64 (v : Int)) ∧ w9.cell? ⟨B, off + k * 2, none⟩ = some (.int .u64 (bi : Int)) ∧ w9.cell? ⟨B, off + k * 2 + 1, none⟩ = some (.int .u64 (ui : Int)) := ⟨(hb9.cell (p := ⟨w.heap.size, 0, none⟩) (by first | exact hb_R0 | (rw [World.size_alloc]; exact Nat.lt_succ_of_lt hb_R0))).trans qz.1, (hb9.cell (p := ⟨w.heap.size, 1, none⟩) (by first | exact hb_R0 | (rw [World.size_alloc]; exact Nat.lt_succ_of_lt hb_R0))).trans qz.2.1, (hb9.cell (p := ⟨B, off + k * 2, none⟩) (by first | exact hb_B | (rw [World.size_alloc]; exact Nat.lt_succ_of_lt hb_B))).trans qz.2.2.1, (hb9.cell (p := ⟨B, off + k * 2 + 1, none⟩) (by first | exact hb_B | (rw [World.size_alloc]; exact Nat.lt_succ_of_lt hb_B))).trans qz.2.2.2⟩; have hz9 := hz0.below hb9 hsz; have f0 := hz9.frozen 0; have f1 := hz9.frozen 1; have g0 := hz9.cell 0; have g1 := hz9.cell 1; have qD : ((w9.setCell ⟨wr.heap.size, 0, none⟩ (.int .u64 (x : Int))).setCell ⟨wr.heap.size, 1, none⟩ (.int .u64 (y : Int))).cell? ⟨w.heap.size, 0, none⟩ = some (.int .u64 (a : Int)) ∧ ((w9.setCell ⟨wr.heap.size, 0, none⟩ (.int .u64 (x : Int))).setCell ⟨wr.heap.size, 1, none⟩ (.int .u64 (y : Int))).cell? ⟨w.heap.size, 1, none⟩ = some (.int .u64 (v : Int)) ∧ ((w9.setCell ⟨wr.heap.size, 0, none⟩ (.int .u64 (x : Int))).setCell ⟨wr.heap.size, 1, none⟩ (.int .u64 (y : Int))).cell? ⟨B, off + k * 2, none⟩ = some (.int .u64 (bi : Int)) ∧ ((w9.setCell ⟨wr.heap.size, 0, none⟩ (.int .u64 (x : Int))).setCell ⟨wr.heap.size, 1, none⟩ (.int .u64 (y : Int))).cell? ⟨B, off + k * 2 + 1, none⟩ = some (.int .u64 (ui : Int)) := ⟨cell_set2 qA.1 (by omega) _ _, cell_set2 qA.2.1 (by omega) _ _, cell_set2 qA.2.2.1 (by omega) _ _, cell_set2 qA.2.2.2 (by omega) _ _⟩; have qDd : ((w9.setCell ⟨wr.heap.size, 0, none⟩ (.int .u64 (x : Int))).setCell ⟨wr.heap.size, 1, none⟩ (.int .u64 (y : Int))).drew.cell? ⟨w.heap.size, 0, none⟩ = some (.int .u64 (a : Int)) ∧ ((w9.setCell ⟨wr.heap.size, 0, none⟩ (.int .u64 (x : Int))).setCell ⟨wr.heap.size, 1, none⟩ (.int .u64 (y : Int))).drew.cell? ⟨w.heap.size, 1, none⟩ = some (.int .u64 (v : Int)) ∧ ((w9.setCell ⟨wr.heap.size, 0, none⟩ (.int .u64 (x : Int))).setCell ⟨wr.heap.size, 1, none⟩ (.int .u64 (y : Int))).drew.cell? ⟨B, off + k * 2, none⟩ = some (.int .u64 (bi : Int)) ∧ ((w9.setCell ⟨wr.heap.size, 0, none⟩ (.int .u64 (x : Int))).setCell ⟨wr.heap.size, 1, none⟩ (.int .u64 (y : Int))).drew.cell? ⟨B, off + k * 2 + 1, none⟩ = some (.int .u64 (ui : Int)) := qD; have way2 : True := trivial)))
        all_goals go_wp2_with fail
        all_goals go_meet
        all_goals first
          | exact ⟨_, rfl, rfl, _, rfl, hb9.size, blk_new w9 _ _, hb9.alloc hb9.size _⟩
          | exact ⟨_, rfl, rfl, _, rfl, Nat.le_refl _, blk_set2 hz9 _ _, (hbz.trans (hb9.mono (Nat.le_of_lt hsz))).trans (below_set2 (w := w9) (R := wr.heap.size) _ _ (Nat.le_refl _) (Nat.le_trans (Nat.le_of_lt hsz) hb9.size))⟩
          | exact ⟨_, rfl, rfl, _, rfl, hb9.size, blk_new w9 _ _, below_to_drew (hb9.alloc hb9.size _)⟩
          | exact ⟨_, rfl, rfl, _, rfl, Nat.le_refl _, blk_set2 hz9 _ _, below_to_drew ((hbz.trans (hb9.mono (Nat.le_of_lt hsz))).trans (below_set2 (w := w9) (R := wr.heap.size) _ _ (Nat.le_refl _) (Nat.le_trans (Nat.le_of_lt hsz) hb9.size)))⟩
      case rest =>
        obtain ⟨R9, rfl, rfl, W9, rfl, hR9, hV9, hW9⟩ := hcut
        clear q0d qz qzd hz0 hbz hsz
        have q0' : W9.cell? ⟨w.heap.size, 0, none⟩ = some (.int .u64 (a : Int)) ∧ W9.cell? ⟨w.heap.size, 1, none⟩ = some (.int .u64 (v : Int)) ∧ W9.cell? ⟨B, off + k * 2, none⟩ = some (.int .u64 (bi : Int)) ∧ W9.cell? ⟨B, off + k * 2 + 1, none⟩ = some (.int .u64 (ui : Int)) :=
          ⟨(hW9.cell (p := ⟨w.heap.size, 0, none⟩) hb_R0).trans q0.1, (hW9.cell (p := ⟨w.heap.size, 1, none⟩) hb_R0).trans q0.2.1, (hW9.cell (p := ⟨B, off + k * 2, none⟩) hb_B).trans q0.2.2.1, (hW9.cell (p := ⟨B, off + k * 2 + 1, none⟩) hb_B).trans q0.2.2.2⟩
        have HW9 := Lib.hid hW9
        have HV9 := Lib.hid hV9
        have hb9_R0 : w.heap.size < W9.heap.size := Nat.lt_of_lt_of_le hb_R0 hW9.size
        have hb9_B : B < W9.heap.size := Nat.lt_of_lt_of_le hb_B hW9.size
        clear q0 hb_R0 hb_B hW9 hV9 hR9
        have q0 := q0'
        have hb_R0 := hb9_R0
        have hb_B := hb9_B
        clear q0' hb9_R0 hb9_B
        go_wp2_with fail
        have q0d : W9.drew.cell? ⟨w.heap.size, 0, none⟩ = some (.int .u64 (a : Int)) ∧ W9.drew.cell? ⟨w.heap.size, 1, none⟩ = some (.int .u64 (v : Int)) ∧ W9.drew.cell? ⟨B, off + k * 2, none⟩ = some (.int .u64 (bi : Int)) ∧ W9.drew.cell? ⟨B, off + k * 2 + 1, none⟩ = some (.int .u64 (ui : Int)) := q0
        have qz : (W9.alloc (.cells #[.int .u64 0, .int .u64 0] 33)).cell? ⟨w.heap.size, 0, none⟩ = some (.int .u64 (a : Int)) ∧ (W9.alloc (.cells #[.int .u64 0, .int .u64 0] 33)).cell? ⟨w.heap.size, 1, none⟩ = some (.int .u64 (v : Int)) ∧ (W9.alloc (.cells #[.int .u64 0, .int .u64 0] 33)).cell? ⟨B, off + k * 2, none⟩ = some (.int .u64 (bi : Int)) ∧ (W9.alloc (.cells #[.int .u64 0, .int .u64 0] 33)).cell? ⟨B, off + k * 2 + 1, none⟩ = some (.int .u64 (ui : Int)) := ⟨cell_alloc_l (.cells #[.int .u64 0, .int .u64 0] 33) q0.1, cell_alloc_l (.cells #[.int .u64 0, .int .u64 0] 33) q0.2.1, cell_alloc_l (.cells #[.int .u64 0, .int .u64 0] 33) q0.2.2.1, cell_alloc_l (.cells #[.int .u64 0, .int .u64 0] 33) q0.2.2.2⟩
        have qzd : (W9.alloc (.cells #[.int .u64 0, .int .u64 0] 33)).drew.cell? ⟨w.heap.size, 0, none⟩ = some (.int .u64 (a : Int)) ∧ (W9.alloc (.cells #[.int .u64 0, .int .u64 0] 33)).drew.cell? ⟨w.heap.size, 1, none⟩ = some (.int .u64 (v : Int)) ∧ (W9.alloc (.cells #[.int .u64 0, .int .u64 0] 33)).drew.cell? ⟨B, off + k * 2, none⟩ = some (.int .u64 (bi : Int)) ∧ (W9.alloc (.cells #[.int .u64 0, .int .u64 0] 33)).drew.cell? ⟨B, off + k * 2 + 1, none⟩ = some (.int .u64 (ui : Int)) := qz
        have hz0 := blk_new W9 33 #[.int .u64 0, .int .u64 0]
        have hbz : Below W9.heap.size W9 (W9.alloc (.cells #[.int .u64 0, .int .u64 0] 33)) := (Below.refl _ W9).alloc (Nat.le_refl _) _
        have hsz : W9.heap.size < (W9.alloc (.cells #[.int .u64 0, .int .u64 0] 33)).heap.size := by simp
        go_upto_region 10 with (fail)
        go_cut [11, 12] (fun p9 q9 wx => ∃ R : Nat, p9 = .pointer (some ⟨R, 0, none⟩) ∧ q9 = .int .i64 (z : Int) ∧ ∃ W : World, W = wx ∧ W9.heap.size ≤ R ∧ Blk W R 33 #[.int .u64 (x : Int), .int .u64 (y : Int)] ∧ Below W9.heap.size W9 W)
        case first =>
          go_region_held3 (fun w' : World => w'.cell? ⟨w.heap.size, 0, none⟩ = some (.int .u64 (a : Int)) ∧ w'.cell? ⟨w.heap.size, 1, none⟩ = some (.int .u64 (v : Int)) ∧ w'.cell? ⟨B, off + k * 2, none⟩ = some (.int .u64 (bi : Int)) ∧ w'.cell? ⟨B, off + k * 2 + 1, none⟩ = some (.int .u64 (ui : Int)))
            ((first | with_reducible exact q0 | with_reducible exact q0d | with_reducible exact qz | with_reducible exact qzd | with_reducible exact qA | with_reducible exact qB | with_reducible exact qBd | with_reducible exact qC | with_reducible exact qCd | with_reducible exact qD | with_reducible exact qDd))
            (first
              | (go_at_call 20; ((with_reducible refine (HRAD.out _).mono ?_); rintro e9 w9 ⟨rfl, hb9'⟩; have hb9 : Below W9.heap.size W9 w9 := below_of_drew hb9'; clear hb9'; have qA : w9.cell? ⟨w.heap.size, 0, none⟩ = some (.int .u64 (a : Int)) ∧ w9.cell? ⟨w.heap.size, 1, none⟩ = some (.int .u64 (v : Int)) ∧ w9.cell? ⟨B, off + k * 2, none⟩ = some (.int .u64 (bi : Int)) ∧ w9.cell? ⟨B, off + k * 2 + 1, none⟩ = some (.int .u64 (ui : Int)) := ⟨(hb9.cell (p := ⟨w.heap.size, 0, none⟩) (by first | exact hb_R0 | (rw [World.size_alloc]; exact Nat.lt_succ_of_lt hb_R0))).trans q0.1, (hb9.cell (p := ⟨w.heap.size, 1, none⟩) (by first | exact hb_R0 | (rw [World.size_alloc]; exact Nat.lt_succ_of_lt hb_R0))).trans q0.2.1, (hb9.cell (p := ⟨B, off + k * 2, none⟩) (by first | exact hb_B | (rw [World.size_alloc]; exact Nat.lt_succ_of_lt hb_B))).trans q0.2.2.1, (hb9.cell (p := ⟨B, off + k * 2 + 1, none⟩) (by first | exact hb_B | (rw [World.size_alloc]; exact Nat.lt_succ_of_lt hb_B))).trans q0.2.2.2⟩; have qB : (w9.alloc (.cells #[.int .u64 0, .int .u64 0] 33)).cell? ⟨w.heap.size, 0, none⟩ = some (.int .u64 (a : Int)) ∧ (w9.alloc (.cells #[.int .u64 0, .int .u64 0] 33)).cell? ⟨w.heap.size, 1, none⟩ = some (.int .u64 (v : Int)) ∧ (w9.alloc (.cells #[.int .u64 0, .int .u64 0] 33)).cell? ⟨B, off + k * 2, none⟩ = some (.int .u64 (bi : Int)) ∧ (w9.alloc (.cells #[.int .u64 0, .int .u64 0] 33)).cell? ⟨B, off + k * 2 + 1, none⟩ = some (.int .u64 (ui : Int)) := ⟨cell_alloc_l (.cells #[.int .u64 0, .int .u64 0] 33) qA.1, cell_alloc_l (.cells #[.int .u64 0, .int .u64 0] 33) qA.2.1, cell_alloc_l (.cells #[.int .u64 0, .int .u64 0] 33) qA.2.2.1, cell_alloc_l (.cells #[.int .u64 0, .int .u64 0] 33) qA.2.2.2⟩; have qBd : (w9.alloc (.cells #[.int .u64 0, .int .u64 0] 33)).drew.cell? ⟨w.heap.size, 0, none⟩ = some (.int .u64 (a : Int)) ∧ (w9.alloc (.cells #[.int .u64 0, .int .u64 0] 33)).drew.cell? ⟨w.heap.size, 1, none⟩ = some (.int .u64 (v : Int)) ∧ (w9.alloc (.cells #[.int .u64 0, .int .u64 0] 33)).drew.cell? ⟨B, off + k * 2, none⟩ = some (.int .u64 (bi : Int)) ∧ (w9.alloc (.cells #[.int .u64 0, .int .u64 0] 33)).drew.cell? ⟨B, off + k * 2 + 1, none⟩ = some (.int .u64 (ui : Int)) := qB; have qC : (w9.alloc (.cells #[.int .u64 (x : Int), .int .u64 (y : Int)] 33)).cell? ⟨w.heap.size, 0, none⟩ = some (.int .u64 (a : Int)) ∧ (w9.alloc (.cells #[.int .u64 (x : Int), .int .u64 (y : Int)] 33)).cell? ⟨w.heap.size, 1, none⟩ = some (.int .u64 (v : Int)) ∧ (w9.alloc (.cells #[.int .u64 (x : Int), .int .u64 (y : Int)] 33)).cell? ⟨B, off + k * 2, none⟩ = some (.int .u64 (bi : Int)) ∧ (w9.alloc (.cells #[.int .u64 (x : Int), .int .u64 (y : Int)] 33)).cell? ⟨B, off + k * 2 + 1, none⟩ = some (.int .u64 (ui : Int)) := ⟨cell_alloc_l (.cells #[.int .u64 (x : Int), .int .u64 (y : Int)] 33) qA.1, cell_alloc_l (.cells #[.int .u64 (x : Int), .int .u64 (y : Int)] 33) qA.2.1, cell_alloc_l (.cells #[.int .u64 (x : Int), .int .u64 (y : Int)] 33) qA.2.2.1, cell_alloc_l (.cells #[.int .u64 (x : Int), .int .u64 (y : Int)] 33) qA.2.2.2⟩; have qCd : (w9.alloc (.cells #[.int .u64 (x : Int), .int .u64 (y : Int)] 33)).drew.cell? ⟨w.heap.size, 0, none⟩ = some (.int .u64 (a : Int)) ∧ (w9.alloc (.cells #[.int .u64 (x : Int), .int .u64 (y : Int)] 33)).drew.cell? ⟨w.heap.size, 1, none⟩ = some (.int .u64 (v : Int)) ∧ (w9.alloc (.cells #[.int .u64 (x : Int), .int .u64 (y : Int)] 33)).drew.cell? ⟨B, off + k * 2, none⟩ = some (.int .u64 (bi : Int)) ∧ (w9.alloc (.cells #[.int .u64 (x : Int), .int .u64 (y : Int)] 33)).drew.cell? ⟨B, off + k * 2 + 1, none⟩ = some (.int .u64 (ui : Int)) := qC; have way1 : True := trivial))
              | (go_at_call 20; ((with_reducible refine (HRAD.out _).mono ?_); rintro e9 w9 ⟨rfl, hb9'⟩; have hb9 : Below (W9.alloc (.cells #[.int .u64 0, .int .u64 0] 33)).heap.size (W9.alloc (.cells #[.int .u64 0, .int .u64 0] 33)) w9 := below_of_drew hb9'; clear hb9'; have qA : w9.cell? ⟨w.heap.size, 0, none⟩ = some (.int .u64 (a : Int)) ∧ w9.cell? ⟨w.heap.size, 1, none⟩ = some (.int .u64 (v : Int)) ∧ w9.cell? ⟨B, off + k * 2, none⟩ = some (.int .u64 (bi : Int)) ∧ w9.cell? ⟨B, off + k * 2 + 1, none⟩ = some (.int .u64 (ui : Int)) := ⟨(hb9.cell (p := ⟨w.heap.size, 0, none⟩) (by first | exact hb_R0 | (rw [World.size_alloc]; exact Nat.lt_succ_of_lt hb_R0))).trans qz.1, (hb9.cell (p := ⟨w.heap.size, 1, none⟩) (by first | exact hb_R0 | (rw [World.size_alloc]; exact Nat.lt_succ_of_lt hb_R0))).trans qz.2.1, (hb9.cell (p := ⟨B, off + k * 2, none⟩) (by first | exact hb_B | (rw [World.size_alloc]; exact Nat.lt_succ_of_lt hb_B))).trans qz.2.2.1, (hb9.cell (p := ⟨B, off + k * 2 + 1, none⟩) (by first | exact hb_B | (rw [World.size_alloc]; exact Nat.lt_succ_of_lt hb_B))).trans qz.2.2.2⟩; have hz9 := hz0.below hb9 hsz; have f0 := hz9.frozen 0; have f1 := hz9.frozen 1; have g0 := hz9.cell 0; have g1 := hz9.cell 1; have qD : ((w9.setCell ⟨W9.heap.size, 0, none⟩ (.int .u64 (x : Int))).setCell ⟨W9.heap.size, 1, none⟩ (.int .u64 (y : Int))).cell? ⟨w.heap.size, 0, none⟩ = some (.int .u64 (a : Int)) ∧ ((w9.setCell ⟨W9.heap.size, 0, none⟩ (.int .u64 (x : Int))).setCell ⟨W9.heap.size, 1, none⟩ (.int .u64 (y : Int))).cell? ⟨w.heap.size, 1, none⟩ = some (.int .u64 (v : Int)) ∧ ((w9.setCell ⟨W9.heap.size, 0, none⟩ (.int .u64 (x : Int))).setCell ⟨W9.heap.size, 1, none⟩ (.int .u64 (y : Int))).cell? ⟨B, off + k * 2, none⟩ = some (.int .u64 (bi : Int)) ∧ ((w9.setCell ⟨W9.heap.size, 0, none⟩ (.int .u64 (x : Int))).setCell ⟨W9.heap.size, 1, none⟩ (.int .u64 (y : Int))).cell? ⟨B, off + k * 2 + 1, none⟩ = some (.int .u64 (ui : Int)) := ⟨cell_set2 qA.1 (by omega) _ _, cell_set2 qA.2.1 (by omega) _ _, cell_set2 qA.2.2.1 (by omega) _ _, cell_set2 qA.2.2.2 (by omega) _ _⟩; have qDd : ((w9.setCell ⟨W9.heap.size, 0, none⟩ (.int .u64 (x : Int))).setCell ⟨W9.heap.size, 1, none⟩ (.int .u64 (y : Int))).drew.cell? ⟨w.heap.size, 0, none⟩ = some (.int .u64 (a : Int)) ∧ ((w9.setCell ⟨W9.heap.size, 0, none⟩ (.int .u64 (x : Int))).setCell ⟨W9.heap.size, 1, none⟩ (.int .u64 (y : Int))).drew.cell? ⟨w.heap.size, 1, none⟩ = some (.int .u64 (v : Int)) ∧ ((w9.setCell ⟨W9.heap.size, 0, none⟩ (.int .u64 (x : Int))).setCell ⟨W9.heap.size, 1, none⟩ (.int .u64 (y : Int))).drew.cell? ⟨B, off + k * 2, none⟩ = some (.int .u64 (bi : Int)) ∧ ((w9.setCell ⟨W9.heap.size, 0, none⟩ (.int .u64 (x : Int))).setCell ⟨W9.heap.size, 1, none⟩ (.int .u64 (y : Int))).drew.cell? ⟨B, off + k * 2 + 1, none⟩ = some (.int .u64 (ui : Int)) := qD; have way2 : True := trivial)))
          all_goals go_wp2_with fail
          all_goals go_meet
          all_goals first
            | exact ⟨_, rfl, rfl, _, rfl, hb9.size, blk_new w9 _ _, hb9.alloc hb9.size _⟩
            | exact ⟨_, rfl, rfl, _, rfl, Nat.le_refl _, blk_set2 hz9 _ _, (hbz.trans (hb9.mono (Nat.le_of_lt hsz))).trans (below_set2 (w := w9) (R := W9.heap.size) _ _ (Nat.le_refl _) (Nat.le_trans (Nat.le_of_lt hsz) hb9.size))⟩
            | exact ⟨_, rfl, rfl, _, rfl, hb9.size, blk_new w9 _ _, below_to_drew (hb9.alloc hb9.size _)⟩
            | exact ⟨_, rfl, rfl, _, rfl, Nat.le_refl _, blk_set2 hz9 _ _, below_to_drew ((hbz.trans (hb9.mono (Nat.le_of_lt hsz))).trans (below_set2 (w := w9) (R := W9.heap.size) _ _ (Nat.le_refl _) (Nat.le_trans (Nat.le_of_lt hsz) hb9.size)))⟩
        case rest =>
          obtain ⟨R10, rfl, rfl, W10, rfl, hR10, hV10, hW10⟩ := hcut
          clear q0d qz qzd hz0 hbz hsz
          have g9 := two_cells (HV9.out.below hW10 HV9.out.lt)
          have g10 := two_cells hV10
          have HKE := Lib.hid (kept_trans HB.out (kept_trans HW9.out hW10))
          have hn2 := HN2.out
          obtain ⟨p1, p2⟩ := g9
          obtain ⟨p3, p4⟩ := g10
          clear q0 hb_R0 hb_B hW10 hV10 hR10
          go_wp2
          go_roundw
          case rel => exact ⟨k + 1, by go_num, hlt, HKE.out⟩
          case measure => simp [intOf]; omega
    · obtain rfl : k = 3 := by omega
      go_wp2_with fail
      refine (HLV.out _).mono ?_
      rintro e w7 ⟨rfl, hb7⟩
      have K7 := Lib.hid (HK0.out.trans ((kept_trans HB.out hb7).mono HK0.out.size))
      clear hb7
      go_wp2
      go_ret
      exact ⟨rfl, K7.out⟩

end Go.Proofs.Ythnbkbmhlalpaaa
