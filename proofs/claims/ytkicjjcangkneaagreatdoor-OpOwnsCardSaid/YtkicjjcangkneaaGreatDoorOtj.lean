/-
  What package op reads of bytes: the content of an operation, each field where it stands. No condition but what fits memory.
-/
import Derived.Test.YtkicjjcangkneaaGreatDoorOti
import Derived.Test.YtkicjjcangkneaaGreatDoorOtg
namespace Go.Proofs.YtkicjjcangkneaaGreatDoor
open Go.RowKit
open Pk (pInt pNum pName pText pMany nInt)
attribute [local go_sem ↓] Go.wp_at_zero Go.wp_at_succ
set_option maxRecDepth 100000
namespace Ot
theorem exec_build {P : Program} {o : Oper} {f : Operand → Value} {w : World} (t : TypeId) (parts : Array (Nat × Operand)) (ho : o.op = .build t parts) {cells : Array Value} (h : P.built t (parts.map fun (i, x) => (i, f x)).toList = some cells) : (execOp f o).run P w = .ok (.value (.agg cells)) w := by
  unfold execOp
  simp only [ho, Sem.run_bind, run_build w t _ cells h, Result.andThen_ok]
  rfl
theorem lz_on {α : Type} {J : Kd α} {y : Ls α} {B n C : Nat} {w2 w3 : World} (h : Lz J (Til n) w2 y) (hg : w2.grownBy w3 (some C)) (hC : C < B) (hB : B ≤ n) : Lz J (Til B) w3 y :=
  (h.weak fun k _ hk => by have hk : k < B := hk; show k < n; omega).bf (Bf.grown hg fun g eg => by injection eg with eg; exact eg ▸ hC)
theorem lz_row {α : Type} {J : Kd α} {y : Ls α} {B V n : Nat} {w2 : World} {cs : Array Value} (h : Lz J (Til n) w2 y) (hV : V < n) (hB : B ≤ n) : Lz J (Til B) (w2.setRow V cs) y :=
  (h.bf (Bf.grown (grown_setRow w2 V cs) fun g eg => by injection eg with eg; exact eg ▸ hV)).weak fun k _ hk => by have hk : k < B := hk; show k < n; omega

theorem each_er {α β : Type} {f : α → β} {p : β → Prop} {l : List α} (h : okEach (fun y => p (f y)) l) : okEach p (l.map f) := by
  refine ⟨by rw [List.length_map]; exact h.1, fun x hx => ?_⟩
  obtain ⟨y, hy, rfl⟩ := List.mem_map.1 hx
  exact h.2 y hy

set_option maxHeartbeats 16000000 in
theorem read_any {lo C : Nat} {l : List UInt8} {k : Nat} {e : Int} {w : World} (h : Cu lo 165 w C l k e) :
    Calls Tryz.prog 61 #[.pointer (some ⟨C, 0, none⟩)] w fun x w' => ∃ o : LOp, x = .returned o.v ∧ Lies (Til w.heap.size) w' o ∧ Ok o.er ∧ o.r = 0 ∧ o.s = 0 ∧ Rdd pCon lo C l k e w w' o.er.tup := by
  have hCl := h.lt
  have hpl := h.place.2
  have hD1 := blk_new w 100 #[.pointer (some ⟨C, 0, none⟩)]
  have hs1 : (w.alloc (.cells #[.pointer (some ⟨C, 0, none⟩)] 100)).heap.size = w.heap.size + 1 := by simp
  have hR0 := blk_new (w.alloc (.cells #[.pointer (some ⟨C, 0, none⟩)] 100)) 35 LOp.zero.cells
  rw [hs1] at hR0
  obtain ⟨w0, hw0⟩ : ∃ w0, w0 = (w.alloc (.cells #[.pointer (some ⟨C, 0, none⟩)] 100)).alloc (.cells LOp.zero.cells 35) := ⟨_, rfl⟩
  have h0 := (h.alloc (.cells #[.pointer (some ⟨C, 0, none⟩)] 100)).alloc (.cells LOp.zero.cells 35)
  have hD0 := blk_alloc hD1 (.cells LOp.zero.cells 35)
  have hg0 := (World.grownBy_alloc w (.cells #[.pointer (some ⟨C, 0, none⟩)] 100) (some C)).trans (World.grownBy_alloc (w.alloc (.cells #[.pointer (some ⟨C, 0, none⟩)] 100)) (.cells LOp.zero.cells 35) (some C))
  have hs0 : ((w.alloc (.cells #[.pointer (some ⟨C, 0, none⟩)] 100)).alloc (.cells LOp.zero.cells 35)).heap.size = w.heap.size + 2 := by simp
  rw [← hw0] at hR0 h0 hD0 hg0 hs0
  have hz : w0.drew.cell? ⟨w.heap.size, 0, none⟩ = some (.pointer (some ⟨C, 0, none⟩)) := hD0.cell 0
  have hcu : Cu lo 165 w0.drew C l k e := h0
  have HD0 := Lib.hid (show Blk w0.drew w.heap.size 100 #[.pointer (some ⟨C, 0, none⟩)] from hD0)
  have HR0 := Lib.hid (show Blk w0.drew (w.heap.size + 1) 35 LOp.zero.cells from hR0)
  have HG0 := Lib.hid (show w.grownBy w0.drew (some C) from ⟨hg0.os, hg0.tape, hg0.output, hg0.size, hg0.block⟩)
  have HS0 := Lib.hid (show w0.drew.heap.size = w.heap.size + 2 from hs0)
  have HCL := Lib.hid hCl
  have HPL := Lib.hid hpl
  have HW0 := Lib.hid hw0
  have hDC : w.heap.size ≠ C := by omega
  have hVC : w.heap.size + 1 ≠ C := by omega
  have HRD0 := Lib.hid (rd_int hcu)
  obtain ⟨w1', hw1'⟩ : ∃ w1', w1' = w0.drew := ⟨_, rfl⟩
  clear h h0 hD1 hs1 hR0 hD0 hg0 hs0 hcu hpl hw1' w1' hw0
  go_enter Tryz.func61, Tryz.ntmps61
  go_wp2
  rw [show (w.alloc (.cells #[.pointer (some ⟨C, 0, none⟩)] 100)).alloc (.cells #[.int .i64 0, .int .i64 0, .int .i64 0, .int .i64 0, .slice none 0 0, .int .i64 0, .int .i64 0, .int .i64 0, .int .i64 0, .slice none 0 0, .int .i64 0, .int .i64 0, .int .u64 0, .int .i64 0, .slice none 0 0, .slice none 0 0, .int .i64 0, .int .i64 0, .int .u64 0, .slice none 0 0, .int .i64 0, .int .i64 0, .slice none 0 0, .int .u64 0, .slice none 0 0, .int .u64 0, .int .u64 0] 35) = w0 from HW0.out.symm]
  refine wp_region_held_drew (S := (fun w' : World => w'.cell? ⟨w.heap.size, 0, none⟩ = some (.pointer (some ⟨C, 0, none⟩)))) (by kernel_rfl) hz (fun hHeld => ?_)
  try simp only [Act.put, List.getElem_toArray, List.getElem_cons_succ, List.getElem_cons_zero, List.setIfInBounds_toArray, List.set_cons_zero, List.set_cons_succ]
  refine wpAnyH_take (i := 0) (v := ?_) rfl (by kernel_rfl) (by kernel_rfl) (by kernel_rfl) (fun _ _ _ h => h) (Or.inl ⟨by rfl, ?_⟩) (by assumption) ?_
  rotate_left
  · (intro w hSw; (try dsimp only at hSw); go_simp; try (with_reducible rfl))
  try simp only [Act.put, List.getElem_toArray, List.getElem_cons_zero, List.setIfInBounds_toArray, List.set_cons_zero, List.set_cons_succ]
  refine wpAnyH_take (i := 2) (v := ?_) rfl (by kernel_rfl) (by kernel_rfl) (by kernel_rfl) (fun _ _ _ h => h) (Or.inl ⟨by rfl, ?_⟩) (by assumption) ?_
  rotate_left
  · (intro w hSw; (try dsimp only at hSw); go_simp; try (with_reducible rfl))
  try simp only [Act.put, List.getElem_toArray, List.getElem_cons_succ, List.getElem_cons_zero, List.setIfInBounds_toArray, List.set_cons_zero, List.set_cons_succ]
  refine wpAnyH_take (i := 4) (v := ?_) rfl (by kernel_rfl) (by kernel_rfl) (by kernel_rfl) (fun _ _ _ h => h) (Or.inl ⟨by rfl, ?_⟩) (by assumption) ?_
  rotate_left
  · (intro w hSw; (try dsimp only at hSw); go_simp; try (with_reducible rfl))
  try simp only [Act.put, List.getElem_toArray, List.getElem_cons_succ, List.getElem_cons_zero, List.setIfInBounds_toArray, List.set_cons_zero, List.set_cons_succ]
  refine wpAnyH_take (i := 6) (v := ?_) rfl (by kernel_rfl) (by kernel_rfl) (by kernel_rfl) (fun _ _ _ h => h) (Or.inl ⟨by rfl, ?_⟩) (by assumption) ?_
  rotate_left
  · (intro w hSw; (try dsimp only at hSw); go_simp; try (with_reducible rfl))
  try simp only [Act.put, List.getElem_toArray, List.getElem_cons_succ, List.getElem_cons_zero, List.setIfInBounds_toArray, List.set_cons_zero, List.set_cons_succ]
  refine wpAnyH_take (i := 8) (v := ?_) rfl (by kernel_rfl) (by kernel_rfl) (by kernel_rfl) (fun _ _ _ h => h) (Or.inl ⟨by rfl, ?_⟩) (by assumption) ?_
  rotate_left
  · (intro w hSw; (try dsimp only at hSw); go_simp; try (with_reducible rfl))
  try simp only [Act.put, List.getElem_toArray, List.getElem_cons_succ, List.getElem_cons_zero, List.setIfInBounds_toArray, List.set_cons_zero, List.set_cons_succ]
  refine wpAnyH_take (i := 9) (v := ?_) rfl (by kernel_rfl) (by kernel_rfl) (by kernel_rfl) (fun _ _ _ h => h) (Or.inl ⟨by rfl, ?_⟩) (by assumption) ?_
  rotate_left
  · (intro w hSw; (try dsimp only at hSw); go_simp; try (with_reducible rfl))
  try simp only [Act.put, List.getElem_toArray, List.getElem_cons_succ, List.getElem_cons_zero, List.setIfInBounds_toArray, List.set_cons_zero, List.set_cons_succ]
  refine wpAnyH_take (i := 10) (v := ?_) rfl (by kernel_rfl) (by kernel_rfl) (by kernel_rfl) (fun _ _ _ h => h) (Or.inl ⟨by rfl, ?_⟩) (by assumption) ?_
  rotate_left
  · (intro w hSw; (try dsimp only at hSw); go_simp; try (with_reducible rfl))
  try simp only [Act.put, List.getElem_toArray, List.getElem_cons_succ, List.getElem_cons_zero, List.setIfInBounds_toArray, List.set_cons_zero, List.set_cons_succ]
  refine wpAnyH_take (i := 12) (v := ?_) rfl (by kernel_rfl) (by kernel_rfl) (by kernel_rfl) (fun _ _ _ h => h) (Or.inl ⟨by rfl, ?_⟩) (by assumption) ?_
  rotate_left
  · (intro w hSw; (try dsimp only at hSw); go_simp; try (with_reducible rfl))
  try simp only [Act.put, List.getElem_toArray, List.getElem_cons_succ, List.getElem_cons_zero, List.setIfInBounds_toArray, List.set_cons_zero, List.set_cons_succ]
  refine wpAnyH_take (i := 14) (v := ?_) rfl (by kernel_rfl) (by kernel_rfl) (by kernel_rfl) (fun _ _ _ h => h) (Or.inl ⟨by rfl, ?_⟩) (by assumption) ?_
  rotate_left
  · (intro w hSw; (try dsimp only at hSw); go_simp; try (with_reducible rfl))
  try simp only [Act.put, List.getElem_toArray, List.getElem_cons_succ, List.getElem_cons_zero, List.setIfInBounds_toArray, List.set_cons_zero, List.set_cons_succ]
  refine wpAnyH_take (i := 16) (v := ?_) rfl (by kernel_rfl) (by kernel_rfl) (by kernel_rfl) (fun _ _ _ h => h) (Or.inl ⟨by rfl, ?_⟩) (by assumption) ?_
  rotate_left
  · (intro w hSw; (try dsimp only at hSw); go_simp; try (with_reducible rfl))
  try simp only [Act.put, List.getElem_toArray, List.getElem_cons_succ, List.getElem_cons_zero, List.setIfInBounds_toArray, List.set_cons_zero, List.set_cons_succ]
  refine wpAnyH_take (i := 18) (v := ?_) rfl (by kernel_rfl) (by kernel_rfl) (by kernel_rfl) (fun _ _ _ h => h) (Or.inl ⟨by rfl, ?_⟩) (by assumption) ?_
  rotate_left
  · (intro w hSw; (try dsimp only at hSw); go_simp; try (with_reducible rfl))
  try simp only [Act.put, List.getElem_toArray, List.getElem_cons_succ, List.getElem_cons_zero, List.setIfInBounds_toArray, List.set_cons_zero, List.set_cons_succ]
  refine wpAnyH_take (i := 20) (v := ?_) rfl (by kernel_rfl) (by kernel_rfl) (by kernel_rfl) (fun _ _ _ h => h) (Or.inl ⟨by rfl, ?_⟩) (by assumption) ?_
  rotate_left
  · (intro w hSw; (try dsimp only at hSw); go_simp; try (with_reducible rfl))
  try simp only [Act.put, List.getElem_toArray, List.getElem_cons_succ, List.getElem_cons_zero, List.setIfInBounds_toArray, List.set_cons_zero, List.set_cons_succ]
  refine wpAnyH_take (i := 21) (v := ?_) rfl (by kernel_rfl) (by kernel_rfl) (by kernel_rfl) (fun _ _ _ h => h) (Or.inl ⟨by rfl, ?_⟩) (by assumption) ?_
  rotate_left
  · (intro w hSw; (try dsimp only at hSw); go_simp; try (with_reducible rfl))
  try simp only [Act.put, List.getElem_toArray, List.getElem_cons_succ, List.getElem_cons_zero, List.setIfInBounds_toArray, List.set_cons_zero, List.set_cons_succ]
  refine wpAnyH_take (i := 23) (v := ?_) rfl (by kernel_rfl) (by kernel_rfl) (by kernel_rfl) (fun _ _ _ h => h) (Or.inl ⟨by rfl, ?_⟩) (by assumption) ?_
  rotate_left
  · (intro w hSw; (try dsimp only at hSw); go_simp; try (with_reducible rfl))
  try simp only [Act.put, List.getElem_toArray, List.getElem_cons_succ, List.getElem_cons_zero, List.setIfInBounds_toArray, List.set_cons_zero, List.set_cons_succ]
  refine wpAnyH_take (i := 25) (v := ?_) rfl (by kernel_rfl) (by kernel_rfl) (by kernel_rfl) (fun _ _ _ h => h) (Or.inl ⟨by rfl, ?_⟩) (by assumption) ?_
  rotate_left
  · (intro w hSw; (try dsimp only at hSw); go_simp; try (with_reducible rfl))
  try simp only [Act.put, List.getElem_toArray, List.getElem_cons_succ, List.getElem_cons_zero, List.setIfInBounds_toArray, List.set_cons_zero, List.set_cons_succ]
  refine wpAnyH_take (i := 27) (v := ?_) rfl (by kernel_rfl) (by kernel_rfl) (by kernel_rfl) (fun _ _ _ h => h) (Or.inl ⟨by rfl, ?_⟩) (by assumption) ?_
  rotate_left
  · (intro w hSw; (try dsimp only at hSw); go_simp; try (with_reducible rfl))
  try simp only [Act.put, List.getElem_toArray, List.getElem_cons_succ, List.getElem_cons_zero, List.setIfInBounds_toArray, List.set_cons_zero, List.set_cons_succ]
  refine wpAnyH_take (i := 29) (v := ?_) rfl (by kernel_rfl) (by kernel_rfl) (by kernel_rfl) (fun _ _ _ h => h) (Or.inl ⟨by rfl, ?_⟩) (by assumption) ?_
  rotate_left
  · (intro w hSw; (try dsimp only at hSw); go_simp; try (with_reducible rfl))
  try simp only [Act.put, List.getElem_toArray, List.getElem_cons_succ, List.getElem_cons_zero, List.setIfInBounds_toArray, List.set_cons_zero, List.set_cons_succ]
  refine wpAnyH_take (i := 30) (v := ?_) rfl (by kernel_rfl) (by kernel_rfl) (by kernel_rfl) (fun _ _ _ h => h) (Or.inl ⟨by rfl, ?_⟩) (by assumption) ?_
  rotate_left
  · (intro w hSw; (try dsimp only at hSw); go_simp; try (with_reducible rfl))
  try simp only [Act.put, List.getElem_toArray, List.getElem_cons_succ, List.getElem_cons_zero, List.setIfInBounds_toArray, List.set_cons_zero, List.set_cons_succ]
  refine wpAnyH_take (i := 31) (v := ?_) rfl (by kernel_rfl) (by kernel_rfl) (by kernel_rfl) (fun _ _ _ h => h) (Or.inl ⟨by rfl, ?_⟩) (by assumption) ?_
  rotate_left
  · (intro w hSw; (try dsimp only at hSw); go_simp; try (with_reducible rfl))
  try simp only [Act.put, List.getElem_toArray, List.getElem_cons_succ, List.getElem_cons_zero, List.setIfInBounds_toArray, List.set_cons_zero, List.set_cons_succ]
  refine wpAnyH_take (i := 33) (v := ?_) rfl (by kernel_rfl) (by kernel_rfl) (by kernel_rfl) (fun _ _ _ h => h) (Or.inl ⟨by rfl, ?_⟩) (by assumption) ?_
  rotate_left
  · (intro w hSw; (try dsimp only at hSw); go_simp; try (with_reducible rfl))
  try simp only [Act.put, List.getElem_toArray, List.getElem_cons_succ, List.getElem_cons_zero, List.setIfInBounds_toArray, List.set_cons_zero, List.set_cons_succ]
  refine wpAnyH_take (i := 35) (v := ?_) rfl (by kernel_rfl) (by kernel_rfl) (by kernel_rfl) (fun _ _ _ h => h) (Or.inl ⟨by rfl, ?_⟩) (by assumption) ?_
  rotate_left
  · (intro w hSw; (try dsimp only at hSw); go_simp; try (with_reducible rfl))
  try simp only [Act.put, List.getElem_toArray, List.getElem_cons_succ, List.getElem_cons_zero, List.setIfInBounds_toArray, List.set_cons_zero, List.set_cons_succ]
  refine wpAnyH_take (i := 36) (v := ?_) rfl (by kernel_rfl) (by kernel_rfl) (by kernel_rfl) (fun _ _ _ h => h) (Or.inl ⟨by rfl, ?_⟩) (by assumption) ?_
  rotate_left
  · (intro w hSw; (try dsimp only at hSw); go_simp; try (with_reducible rfl))
  try simp only [Act.put, List.getElem_toArray, List.getElem_cons_succ, List.getElem_cons_zero, List.setIfInBounds_toArray, List.set_cons_zero, List.set_cons_succ]
  refine wpAnyH_take (i := 37) (v := ?_) rfl (by kernel_rfl) (by kernel_rfl) (by kernel_rfl) (fun _ _ _ h => h) (Or.inl ⟨by rfl, ?_⟩) (by assumption) ?_
  rotate_left
  · (intro w hSw; (try dsimp only at hSw); go_simp; try (with_reducible rfl))
  try simp only [Act.put, List.getElem_toArray, List.getElem_cons_succ, List.getElem_cons_zero, List.setIfInBounds_toArray, List.set_cons_zero, List.set_cons_succ]
  refine wpAnyH_take (i := 39) (v := ?_) rfl (by kernel_rfl) (by kernel_rfl) (by kernel_rfl) (fun _ _ _ h => h) (Or.inl ⟨by rfl, ?_⟩) (by assumption) ?_
  rotate_left
  · (intro w hSw; (try dsimp only at hSw); go_simp; try (with_reducible rfl))
  try simp only [Act.put, List.getElem_toArray, List.getElem_cons_succ, List.getElem_cons_zero, List.setIfInBounds_toArray, List.set_cons_zero, List.set_cons_succ]
  refine wpAnyH_take (i := 41) (v := ?_) rfl (by kernel_rfl) (by kernel_rfl) (by kernel_rfl) (fun _ _ _ h => h) (Or.inl ⟨by rfl, ?_⟩) (by assumption) ?_
  rotate_left
  · (intro w hSw; (try dsimp only at hSw); go_simp; try (with_reducible rfl))
  try simp only [Act.put, List.getElem_toArray, List.getElem_cons_succ, List.getElem_cons_zero, List.setIfInBounds_toArray, List.set_cons_zero, List.set_cons_succ]
  refine wpAnyH_take (i := 43) (v := ?_) rfl (by kernel_rfl) (by kernel_rfl) (by kernel_rfl) (fun _ _ _ h => h) (Or.inl ⟨by rfl, ?_⟩) (by assumption) ?_
  rotate_left
  · (intro w hSw; (try dsimp only at hSw); go_simp; try (with_reducible rfl))
  try simp only [Act.put, List.getElem_toArray, List.getElem_cons_succ, List.getElem_cons_zero, List.setIfInBounds_toArray, List.set_cons_zero, List.set_cons_succ]
  refine wpAnyH_take (i := 45) (v := ?_) rfl (by kernel_rfl) (by kernel_rfl) (by kernel_rfl) (fun _ _ _ h => h) (Or.inl ⟨by rfl, ?_⟩) (by assumption) ?_
  rotate_left
  · (intro w hSw; (try dsimp only at hSw); go_simp; try (with_reducible rfl))
  try simp only [Act.put, List.getElem_toArray, List.getElem_cons_succ, List.getElem_cons_zero, List.setIfInBounds_toArray, List.set_cons_zero, List.set_cons_succ]
  refine wpAnyH_take (i := 47) (v := ?_) rfl (by kernel_rfl) (by kernel_rfl) (by kernel_rfl) (fun _ _ _ h => h) (Or.inl ⟨by rfl, ?_⟩) (by assumption) ?_
  rotate_left
  · (intro w hSw; (try dsimp only at hSw); go_simp; try (with_reducible rfl))
  try simp only [Act.put, List.getElem_toArray, List.getElem_cons_succ, List.getElem_cons_zero, List.setIfInBounds_toArray, List.set_cons_zero, List.set_cons_succ]
  refine wpAnyH_take (i := 48) (v := ?_) rfl (by kernel_rfl) (by kernel_rfl) (by kernel_rfl) (fun _ _ _ h => h) (Or.inl ⟨by rfl, ?_⟩) (by assumption) ?_
  rotate_left
  · (intro w hSw; (try dsimp only at hSw); go_simp; try (with_reducible rfl))
  try simp only [Act.put, List.getElem_toArray, List.getElem_cons_succ, List.getElem_cons_zero, List.setIfInBounds_toArray, List.set_cons_zero, List.set_cons_succ]
  refine wpAnyH_ready (rs := [1]) (by kernel_rfl) (by simp) ?_
  refine AllReadyH.cons rfl (fun K hK => ?_) AllReadyH.nil
  go_simp
  refine (HRD0.out).mono ?_
  rintro x w1 ⟨y0, rfl, hy0, k0, e0, hcu, hrok0, hg0⟩
  have HY0 := Lib.hid hy0
  clear hy0
  have HRO0 := Lib.hid hrok0
  have HH0 := Lib.hid hg0
  have HG1 := Lib.hid (HG0.out.trans hg0)
  have HD1 := Lib.hid (blk_grown HD0.out hg0 (fun eg => by injection eg with eg; exact hDC eg))
  have HR1 := Lib.hid (blk_grown HR0.out hg0 (fun eg => by injection eg with eg; exact hVC eg))
  have g0 := HD1.out.cell 0
  have HRD1 := Lib.hid (rd_int hcu)
  clear hrok0 hg0 hcu HRD0 HD0 HR0 hz
  try go_simp
  refine hK.out _ _ g0 (fun hHeld1 => ?_)
  clear hK K
  try simp only [Act.put, List.getElem_toArray, List.getElem_cons_succ, List.getElem_cons_zero, List.setIfInBounds_toArray, List.set_cons_zero, List.set_cons_succ]
  refine wpAnyH_ready (rs := [3]) (by kernel_rfl) (by simp) ?_
  refine AllReadyH.cons rfl (fun K hK => ?_) AllReadyH.nil
  go_simp
  refine (HRD1.out).mono ?_
  rintro x w2 ⟨y1, rfl, hy1, k1, e1, hcu, hrok1, hg1⟩
  have HY1 := Lib.hid hy1
  clear hy1
  have HRO1 := Lib.hid hrok1
  have HH1 := Lib.hid hg1
  have HG2 := Lib.hid (HG1.out.trans hg1)
  have HD2 := Lib.hid (blk_grown HD1.out hg1 (fun eg => by injection eg with eg; exact hDC eg))
  have HR2 := Lib.hid (blk_grown HR1.out hg1 (fun eg => by injection eg with eg; exact hVC eg))
  have g1 := HD2.out.cell 0
  have HRD2 := Lib.hid (rd_int hcu)
  clear hrok1 hg1 hcu HRD1 HD1 HR1 g0
  try go_simp
  refine hK.out _ _ g1 (fun hHeld2 => ?_)
  clear hK K
  try simp only [Act.put, List.getElem_toArray, List.getElem_cons_succ, List.getElem_cons_zero, List.setIfInBounds_toArray, List.set_cons_zero, List.set_cons_succ]
  refine wpAnyH_ready (rs := [5]) (by kernel_rfl) (by simp) ?_
  refine AllReadyH.cons rfl (fun K hK => ?_) AllReadyH.nil
  go_simp
  refine (HRD2.out).mono ?_
  rintro x w3 ⟨y2, rfl, hy2, k2, e2, hcu, hrok2, hg2⟩
  have HY2 := Lib.hid hy2
  clear hy2
  have HRO2 := Lib.hid hrok2
  have HH2 := Lib.hid hg2
  have HG3 := Lib.hid (HG2.out.trans hg2)
  have HD3 := Lib.hid (blk_grown HD2.out hg2 (fun eg => by injection eg with eg; exact hDC eg))
  have HR3 := Lib.hid (blk_grown HR2.out hg2 (fun eg => by injection eg with eg; exact hVC eg))
  have g2 := HD3.out.cell 0
  have HRD3 := Lib.hid (rd_int hcu)
  clear hrok2 hg2 hcu HRD2 HD2 HR2 g1
  try go_simp
  refine hK.out _ _ g2 (fun hHeld3 => ?_)
  clear hK K
  try simp only [Act.put, List.getElem_toArray, List.getElem_cons_succ, List.getElem_cons_zero, List.setIfInBounds_toArray, List.set_cons_zero, List.set_cons_succ]
  refine wpAnyH_ready (rs := [7]) (by kernel_rfl) (by simp) ?_
  refine AllReadyH.cons rfl (fun K hK => ?_) AllReadyH.nil
  go_simp
  refine (HRD3.out).mono ?_
  rintro x w4 ⟨y3, rfl, hy3, k3, e3, hcu, hrok3, hg3⟩
  have HY3 := Lib.hid hy3
  clear hy3
  have HRO3 := Lib.hid hrok3
  have HH3 := Lib.hid hg3
  have HG4 := Lib.hid (HG3.out.trans hg3)
  have HD4 := Lib.hid (blk_grown HD3.out hg3 (fun eg => by injection eg with eg; exact hDC eg))
  have HR4 := Lib.hid (blk_grown HR3.out hg3 (fun eg => by injection eg with eg; exact hVC eg))
  have g3 := HD4.out.cell 0
  have HRD4 := Lib.hid (reach_nm hcu)
  clear hrok3 hg3 hcu HRD3 HD3 HR3 g2
  try go_simp
  refine hK.out _ _ g3 (fun hHeld4 => ?_)
  clear hK K
  try simp only [Act.put, List.getElem_toArray, List.getElem_cons_succ, List.getElem_cons_zero, List.setIfInBounds_toArray, List.set_cons_zero, List.set_cons_succ]
  refine wpAnyH_ready (rs := [11]) (by kernel_rfl) (by simp) ?_
  refine AllReadyH.cons rfl (fun K hK => ?_) AllReadyH.nil
  go_simp
  refine (HRD4.out).mono ?_
  rintro x w5 ⟨y4, rfl, hz4, hy4, k4, e4, hcu, hrok4, hg4⟩
  have HZ4 := Lib.hid hz4
  clear hz4
  have HY4 := Lib.hid hy4
  clear hy4
  have HRO4 := Lib.hid hrok4
  have HH4 := Lib.hid hg4
  have HG5 := Lib.hid (HG4.out.trans hg4)
  have HD5 := Lib.hid (blk_grown HD4.out hg4 (fun eg => by injection eg with eg; exact hDC eg))
  have HR5 := Lib.hid (blk_grown HR4.out hg4 (fun eg => by injection eg with eg; exact hVC eg))
  have g4 := HD5.out.cell 0
  have HRD5 := Lib.hid (rd_int hcu)
  clear hrok4 hg4 hcu HRD4 HD4 HR4 g3
  try go_simp
  refine hK.out _ _ g4 (fun hHeld5 => ?_)
  clear hK K
  try simp only [Act.put, List.getElem_toArray, List.getElem_cons_succ, List.getElem_cons_zero, List.setIfInBounds_toArray, List.set_cons_zero, List.set_cons_succ]
  refine wpAnyH_ready (rs := [13]) (by kernel_rfl) (by simp) ?_
  refine AllReadyH.cons rfl (fun K hK => ?_) AllReadyH.nil
  go_simp
  refine (HRD5.out).mono ?_
  rintro x w6 ⟨y5, rfl, hy5, k5, e5, hcu, hrok5, hg5⟩
  have HY5 := Lib.hid hy5
  clear hy5
  have HRO5 := Lib.hid hrok5
  have HH5 := Lib.hid hg5
  have HG6 := Lib.hid (HG5.out.trans hg5)
  have HD6 := Lib.hid (blk_grown HD5.out hg5 (fun eg => by injection eg with eg; exact hDC eg))
  have HR6 := Lib.hid (blk_grown HR5.out hg5 (fun eg => by injection eg with eg; exact hVC eg))
  have g5 := HD6.out.cell 0
  have HRD6 := Lib.hid (rd_int hcu)
  clear hrok5 hg5 hcu HRD5 HD5 HR5 g4
  try go_simp
  refine hK.out _ _ g5 (fun hHeld6 => ?_)
  clear hK K
  try simp only [Act.put, List.getElem_toArray, List.getElem_cons_succ, List.getElem_cons_zero, List.setIfInBounds_toArray, List.set_cons_zero, List.set_cons_succ]
  refine wpAnyH_ready (rs := [15]) (by kernel_rfl) (by simp) ?_
  refine AllReadyH.cons rfl (fun K hK => ?_) AllReadyH.nil
  go_simp
  refine (HRD6.out).mono ?_
  rintro x w7 ⟨y6, rfl, hy6, k6, e6, hcu, hrok6, hg6⟩
  have HY6 := Lib.hid hy6
  clear hy6
  have HRO6 := Lib.hid hrok6
  have HH6 := Lib.hid hg6
  have HG7 := Lib.hid (HG6.out.trans hg6)
  have HD7 := Lib.hid (blk_grown HD6.out hg6 (fun eg => by injection eg with eg; exact hDC eg))
  have HR7 := Lib.hid (blk_grown HR6.out hg6 (fun eg => by injection eg with eg; exact hVC eg))
  have g6 := HD7.out.cell 0
  have HRD7 := Lib.hid (rd_int hcu)
  clear hrok6 hg6 hcu HRD6 HD6 HR6 g5
  try go_simp
  refine hK.out _ _ g6 (fun hHeld7 => ?_)
  clear hK K
  try simp only [Act.put, List.getElem_toArray, List.getElem_cons_succ, List.getElem_cons_zero, List.setIfInBounds_toArray, List.set_cons_zero, List.set_cons_succ]
  refine wpAnyH_ready (rs := [17]) (by kernel_rfl) (by simp) ?_
  refine AllReadyH.cons rfl (fun K hK => ?_) AllReadyH.nil
  go_simp
  refine (HRD7.out).mono ?_
  rintro x w8 ⟨y7, rfl, hy7, k7, e7, hcu, hrok7, hg7⟩
  have HY7 := Lib.hid hy7
  clear hy7
  have HRO7 := Lib.hid hrok7
  have HH7 := Lib.hid hg7
  have HG8 := Lib.hid (HG7.out.trans hg7)
  have HD8 := Lib.hid (blk_grown HD7.out hg7 (fun eg => by injection eg with eg; exact hDC eg))
  have HR8 := Lib.hid (blk_grown HR7.out hg7 (fun eg => by injection eg with eg; exact hVC eg))
  have g7 := HD8.out.cell 0
  have HRD8 := Lib.hid (rd_int hcu)
  clear hrok7 hg7 hcu HRD7 HD7 HR7 g6
  try go_simp
  refine hK.out _ _ g7 (fun hHeld8 => ?_)
  clear hK K
  try simp only [Act.put, List.getElem_toArray, List.getElem_cons_succ, List.getElem_cons_zero, List.setIfInBounds_toArray, List.set_cons_zero, List.set_cons_succ]
  refine wpAnyH_ready (rs := [19]) (by kernel_rfl) (by simp) ?_
  refine AllReadyH.cons rfl (fun K hK => ?_) AllReadyH.nil
  go_simp
  refine (HRD8.out).mono ?_
  rintro x w9 ⟨y8, rfl, hy8, k8, e8, hcu, hrok8, hg8⟩
  have HY8 := Lib.hid hy8
  clear hy8
  have HRO8 := Lib.hid hrok8
  have HH8 := Lib.hid hg8
  have HG9 := Lib.hid (HG8.out.trans hg8)
  have HD9 := Lib.hid (blk_grown HD8.out hg8 (fun eg => by injection eg with eg; exact hDC eg))
  have HR9 := Lib.hid (blk_grown HR8.out hg8 (fun eg => by injection eg with eg; exact hVC eg))
  have g8 := HD9.out.cell 0
  have HRD9 := Lib.hid (reach_nd hcu HD9.out)
  clear hrok8 hg8 hcu HRD8 HD8 HR8 g7
  try go_simp
  refine hK.out _ _ g8 (fun hHeld9 => ?_)
  clear hK K
  try simp only [Act.put, List.getElem_toArray, List.getElem_cons_succ, List.getElem_cons_zero, List.setIfInBounds_toArray, List.set_cons_zero, List.set_cons_succ]
  refine wpAnyH_ready (rs := [22]) (by kernel_rfl) (by simp) ?_
  refine AllReadyH.cons rfl (fun K hK => ?_) AllReadyH.nil
  go_simp
  refine (HRD9.out).mono ?_
  rintro x w10 ⟨y9, rfl, hz9, hn9, hy9, k9, e9, hcu, hrok9, hg9⟩
  have HZ9 := Lib.hid hz9
  clear hz9
  have HN9 := Lib.hid hn9
  clear hn9
  have HY9 := Lib.hid hy9
  clear hy9
  have HRO9 := Lib.hid hrok9
  have HH9 := Lib.hid hg9
  have HG10 := Lib.hid (HG9.out.trans hg9)
  have HD10 := Lib.hid (blk_grown HD9.out hg9 (fun eg => by injection eg with eg; exact hDC eg))
  have HR10 := Lib.hid (blk_grown HR9.out hg9 (fun eg => by injection eg with eg; exact hVC eg))
  have g9 := HD10.out.cell 0
  have HRD10 := Lib.hid (rd_name hcu)
  clear hrok9 hg9 hcu HRD9 HD9 HR9 g8
  try go_simp
  refine hK.out _ _ g9 (fun hHeld10 => ?_)
  clear hK K
  try simp only [Act.put, List.getElem_toArray, List.getElem_cons_succ, List.getElem_cons_zero, List.setIfInBounds_toArray, List.set_cons_zero, List.set_cons_succ]
  refine wpAnyH_ready (rs := [24]) (by kernel_rfl) (by simp) ?_
  refine AllReadyH.cons rfl (fun K hK => ?_) AllReadyH.nil
  go_simp
  refine (HRD10.out).mono ?_
  rintro x w11 ⟨y10, rfl, hy10, k10, e10, hcu, hrok10, hg10⟩
  have HY10 := Lib.hid hy10
  clear hy10
  have HRO10 := Lib.hid hrok10
  have HH10 := Lib.hid hg10
  have HG11 := Lib.hid (HG10.out.trans hg10)
  have HD11 := Lib.hid (blk_grown HD10.out hg10 (fun eg => by injection eg with eg; exact hDC eg))
  have HR11 := Lib.hid (blk_grown HR10.out hg10 (fun eg => by injection eg with eg; exact hVC eg))
  have g10 := HD11.out.cell 0
  have HRD11 := Lib.hid (rd_int hcu)
  clear hrok10 hg10 hcu HRD10 HD10 HR10 g9
  try go_simp
  refine hK.out _ _ g10 (fun hHeld11 => ?_)
  clear hK K
  try simp only [Act.put, List.getElem_toArray, List.getElem_cons_succ, List.getElem_cons_zero, List.setIfInBounds_toArray, List.set_cons_zero, List.set_cons_succ]
  refine wpAnyH_ready (rs := [26]) (by kernel_rfl) (by simp) ?_
  refine AllReadyH.cons rfl (fun K hK => ?_) AllReadyH.nil
  go_simp
  refine (HRD11.out).mono ?_
  rintro x w12 ⟨y11, rfl, hy11, k11, e11, hcu, hrok11, hg11⟩
  have HY11 := Lib.hid hy11
  clear hy11
  have HRO11 := Lib.hid hrok11
  have HH11 := Lib.hid hg11
  have HG12 := Lib.hid (HG11.out.trans hg11)
  have HD12 := Lib.hid (blk_grown HD11.out hg11 (fun eg => by injection eg with eg; exact hDC eg))
  have HR12 := Lib.hid (blk_grown HR11.out hg11 (fun eg => by injection eg with eg; exact hVC eg))
  have g11 := HD12.out.cell 0
  have HRD12 := Lib.hid (rbytes hcu)
  clear hrok11 hg11 hcu HRD11 HD11 HR11 g10
  try go_simp
  refine hK.out _ _ g11 (fun hHeld12 => ?_)
  clear hK K
  try simp only [Act.put, List.getElem_toArray, List.getElem_cons_succ, List.getElem_cons_zero, List.setIfInBounds_toArray, List.set_cons_zero, List.set_cons_succ]
  refine wpAnyH_ready (rs := [28]) (by kernel_rfl) (by simp) ?_
  refine AllReadyH.cons rfl (fun K hK => ?_) AllReadyH.nil
  go_simp
  refine (HRD12.out).mono ?_
  rintro x w13 ⟨y12, rfl, hz12, hy12, k12, e12, hcu, hrok12, hg12⟩
  have HZ12 := Lib.hid hz12
  clear hz12
  have HY12 := Lib.hid hy12
  clear hy12
  have HRO12 := Lib.hid hrok12
  have HH12 := Lib.hid hg12
  have HG13 := Lib.hid (HG12.out.trans hg12)
  have HD13 := Lib.hid (blk_grown HD12.out hg12 (fun eg => by injection eg with eg; exact hDC eg))
  have HR13 := Lib.hid (blk_grown HR12.out hg12 (fun eg => by injection eg with eg; exact hVC eg))
  have g12 := HD13.out.cell 0
  have HRD13 := Lib.hid (reach_u64 hcu)
  clear hrok12 hg12 hcu HRD12 HD12 HR12 g11
  try go_simp
  refine hK.out _ _ g12 (fun hHeld13 => ?_)
  clear hK K
  try simp only [Act.put, List.getElem_toArray, List.getElem_cons_succ, List.getElem_cons_zero, List.setIfInBounds_toArray, List.set_cons_zero, List.set_cons_succ]
  refine wpAnyH_ready (rs := [32]) (by kernel_rfl) (by simp) ?_
  refine AllReadyH.cons rfl (fun K hK => ?_) AllReadyH.nil
  go_simp
  refine (HRD13.out).mono ?_
  rintro x w14 ⟨y13, rfl, hz13, hy13, k13, e13, hcu, hrok13, hg13⟩
  have HZ13 := Lib.hid hz13
  clear hz13
  have HY13 := Lib.hid hy13
  clear hy13
  have HRO13 := Lib.hid hrok13
  have HH13 := Lib.hid hg13
  have HG14 := Lib.hid (HG13.out.trans hg13)
  have HD14 := Lib.hid (blk_grown HD13.out hg13 (fun eg => by injection eg with eg; exact hDC eg))
  have HR14 := Lib.hid (blk_grown HR13.out hg13 (fun eg => by injection eg with eg; exact hVC eg))
  have g13 := HD14.out.cell 0
  have HRD14 := Lib.hid (rd_name hcu)
  clear hrok13 hg13 hcu HRD13 HD13 HR13 g12
  try go_simp
  refine hK.out _ _ g13 (fun hHeld14 => ?_)
  clear hK K
  try simp only [Act.put, List.getElem_toArray, List.getElem_cons_succ, List.getElem_cons_zero, List.setIfInBounds_toArray, List.set_cons_zero, List.set_cons_succ]
  refine wpAnyH_ready (rs := [34]) (by kernel_rfl) (by simp) ?_
  refine AllReadyH.cons rfl (fun K hK => ?_) AllReadyH.nil
  go_simp
  refine (HRD14.out).mono ?_
  rintro x w15 ⟨y14, rfl, hy14, k14, e14, hcu, hrok14, hg14⟩
  have HY14 := Lib.hid hy14
  clear hy14
  have HRO14 := Lib.hid hrok14
  have HH14 := Lib.hid hg14
  have HG15 := Lib.hid (HG14.out.trans hg14)
  have HD15 := Lib.hid (blk_grown HD14.out hg14 (fun eg => by injection eg with eg; exact hDC eg))
  have HR15 := Lib.hid (blk_grown HR14.out hg14 (fun eg => by injection eg with eg; exact hVC eg))
  have g14 := HD15.out.cell 0
  have HRD15 := Lib.hid (reach_int hcu)
  clear hrok14 hg14 hcu HRD14 HD14 HR14 g13
  try go_simp
  refine hK.out _ _ g14 (fun hHeld15 => ?_)
  clear hK K
  try simp only [Act.put, List.getElem_toArray, List.getElem_cons_succ, List.getElem_cons_zero, List.setIfInBounds_toArray, List.set_cons_zero, List.set_cons_succ]
  refine wpAnyH_ready (rs := [38]) (by kernel_rfl) (by simp) ?_
  refine AllReadyH.cons rfl (fun K hK => ?_) AllReadyH.nil
  go_simp
  refine (HRD15.out).mono ?_
  rintro x w16 ⟨y15, rfl, hz15, hy15, k15, e15, hcu, hrok15, hg15⟩
  have HZ15 := Lib.hid hz15
  clear hz15
  have HY15 := Lib.hid hy15
  clear hy15
  have HRO15 := Lib.hid hrok15
  have HH15 := Lib.hid hg15
  have HG16 := Lib.hid (HG15.out.trans hg15)
  have HD16 := Lib.hid (blk_grown HD15.out hg15 (fun eg => by injection eg with eg; exact hDC eg))
  have HR16 := Lib.hid (blk_grown HR15.out hg15 (fun eg => by injection eg with eg; exact hVC eg))
  have g15 := HD16.out.cell 0
  have HRD16 := Lib.hid (rd_int hcu)
  clear hrok15 hg15 hcu HRD15 HD15 HR15 g14
  try go_simp
  refine hK.out _ _ g15 (fun hHeld16 => ?_)
  clear hK K
  try simp only [Act.put, List.getElem_toArray, List.getElem_cons_succ, List.getElem_cons_zero, List.setIfInBounds_toArray, List.set_cons_zero, List.set_cons_succ]
  refine wpAnyH_ready (rs := [40]) (by kernel_rfl) (by simp) ?_
  refine AllReadyH.cons rfl (fun K hK => ?_) AllReadyH.nil
  go_simp
  refine (HRD16.out).mono ?_
  rintro x w17 ⟨y16, rfl, hy16, k16, e16, hcu, hrok16, hg16⟩
  have HY16 := Lib.hid hy16
  clear hy16
  have HRO16 := Lib.hid hrok16
  have HH16 := Lib.hid hg16
  have HG17 := Lib.hid (HG16.out.trans hg16)
  have HD17 := Lib.hid (blk_grown HD16.out hg16 (fun eg => by injection eg with eg; exact hDC eg))
  have HR17 := Lib.hid (blk_grown HR16.out hg16 (fun eg => by injection eg with eg; exact hVC eg))
  have g16 := HD17.out.cell 0
  have HRD17 := Lib.hid (rd_int hcu)
  clear hrok16 hg16 hcu HRD16 HD16 HR16 g15
  try go_simp
  refine hK.out _ _ g16 (fun hHeld17 => ?_)
  clear hK K
  try simp only [Act.put, List.getElem_toArray, List.getElem_cons_succ, List.getElem_cons_zero, List.setIfInBounds_toArray, List.set_cons_zero, List.set_cons_succ]
  refine wpAnyH_ready (rs := [42]) (by kernel_rfl) (by simp) ?_
  refine AllReadyH.cons rfl (fun K hK => ?_) AllReadyH.nil
  go_simp
  refine (HRD17.out).mono ?_
  rintro x w18 ⟨y17, rfl, hy17, k17, e17, hcu, hrok17, hg17⟩
  have HY17 := Lib.hid hy17
  clear hy17
  have HRO17 := Lib.hid hrok17
  have HH17 := Lib.hid hg17
  have HG18 := Lib.hid (HG17.out.trans hg17)
  have HD18 := Lib.hid (blk_grown HD17.out hg17 (fun eg => by injection eg with eg; exact hDC eg))
  have HR18 := Lib.hid (blk_grown HR17.out hg17 (fun eg => by injection eg with eg; exact hVC eg))
  have g17 := HD18.out.cell 0
  have HRD18 := Lib.hid (rboxes hcu)
  clear hrok17 hg17 hcu HRD17 HD17 HR17 g16
  try go_simp
  refine hK.out _ _ g17 (fun hHeld18 => ?_)
  clear hK K
  try simp only [Act.put, List.getElem_toArray, List.getElem_cons_succ, List.getElem_cons_zero, List.setIfInBounds_toArray, List.set_cons_zero, List.set_cons_succ]
  refine wpAnyH_ready (rs := [44]) (by kernel_rfl) (by simp) ?_
  refine AllReadyH.cons rfl (fun K hK => ?_) AllReadyH.nil
  go_simp
  refine (HRD18.out).mono ?_
  rintro x w19 ⟨y18, rfl, hz18, hy18, k18, e18, hcu, hrok18, hg18⟩
  have HZ18 := Lib.hid hz18
  clear hz18
  have HY18 := Lib.hid hy18
  clear hy18
  have HRO18 := Lib.hid hrok18
  have HH18 := Lib.hid hg18
  have HG19 := Lib.hid (HG18.out.trans hg18)
  have HD19 := Lib.hid (blk_grown HD18.out hg18 (fun eg => by injection eg with eg; exact hDC eg))
  have HR19 := Lib.hid (blk_grown HR18.out hg18 (fun eg => by injection eg with eg; exact hVC eg))
  have g18 := HD19.out.cell 0
  have HRD19 := Lib.hid (rd_num hcu)
  clear hrok18 hg18 hcu HRD18 HD18 HR18 g17
  try go_simp
  refine hK.out _ _ g18 (fun hHeld19 => ?_)
  clear hK K
  try simp only [Act.put, List.getElem_toArray, List.getElem_cons_succ, List.getElem_cons_zero, List.setIfInBounds_toArray, List.set_cons_zero, List.set_cons_succ]
  refine wpAnyH_ready (rs := [46]) (by kernel_rfl) (by simp) ?_
  refine AllReadyH.cons rfl (fun K hK => ?_) AllReadyH.nil
  go_simp
  refine (HRD19.out).mono ?_
  rintro x w20 ⟨y19, rfl, hy19, k19, e19, hcu, hrok19, hg19⟩
  have HY19 := Lib.hid hy19
  clear hy19
  have HRO19 := Lib.hid hrok19
  have HH19 := Lib.hid hg19
  have HG20 := Lib.hid (HG19.out.trans hg19)
  have HD20 := Lib.hid (blk_grown HD19.out hg19 (fun eg => by injection eg with eg; exact hDC eg))
  have HR20 := Lib.hid (blk_grown HR19.out hg19 (fun eg => by injection eg with eg; exact hVC eg))
  have g19 := HD20.out.cell 0
  have HRD20 := Lib.hid (reach_sd hcu HD20.out)
  clear hrok19 hg19 hcu HRD19 HD19 HR19 g18
  try go_simp
  refine hK.out _ _ g19 (fun hHeld20 => ?_)
  clear hK K
  try simp only [Act.put, List.getElem_toArray, List.getElem_cons_succ, List.getElem_cons_zero, List.setIfInBounds_toArray, List.set_cons_zero, List.set_cons_succ]
  refine wpAnyH_ready (rs := [49]) (by kernel_rfl) (by simp) ?_
  refine AllReadyH.cons rfl (fun K hK => ?_) AllReadyH.nil
  go_simp
  refine (HRD20.out).mono ?_
  rintro x w21 ⟨y20, rfl, hz20, hn20, hy20, k20, e20, hcu, hrok20, hg20⟩
  have HZ20 := Lib.hid hz20
  clear hz20
  have HN20 := Lib.hid hn20
  clear hn20
  have HY20 := Lib.hid hy20
  clear hy20
  have HRO20 := Lib.hid hrok20
  have HH20 := Lib.hid hg20
  have HG21 := Lib.hid (HG20.out.trans hg20)
  have HD21 := Lib.hid (blk_grown HD20.out hg20 (fun eg => by injection eg with eg; exact hDC eg))
  have HR21 := Lib.hid (blk_grown HR20.out hg20 (fun eg => by injection eg with eg; exact hVC eg))
  have g20 := HD21.out.cell 0
  have HCU := Lib.hid hcu
  clear hrok20 hg20 hcu HRD20 HD20 HR20 g19
  try go_simp
  refine hK.out _ _ g20 (fun hHeld21 => ?_)
  clear hK K
  try simp only [Act.put, List.getElem_toArray, List.getElem_cons_succ, List.getElem_cons_zero, List.setIfInBounds_toArray, List.set_cons_zero, List.set_cons_succ]
  obtain ⟨o, ho⟩ : ∃ o : LOp, o = ⟨y0, y1, y2, y3, y4, y5, y6, y7, y8, y9, y10, y11, y12, y13, y14, y15, y16, y17, y18, y19, y20, 0, 0⟩ := ⟨_, rfl⟩
  refine wpAnyH_take (i := 50) (v := .agg #[.int .i64 y0, .int .i64 y1, .int .i64 y2, .int .i64 y3, .slice y4.A y4.l.length y4.c, .int .i64 y5, .int .i64 y6, .int .i64 y7, .int .i64 y8, .slice y9.A y9.l.length y9.c, .int .i64 y10.a, .int .i64 y10.b, .int .u64 (y10.c : Int), .int .i64 y11, .slice y12.A y12.l.length y12.c, .slice y13.A y13.l.length y13.c, .int .i64 y14.a, .int .i64 y14.b, .int .u64 (y14.c : Int), .slice y15.A y15.l.length y15.c, .int .i64 y16, .int .i64 y17, .slice y18.A y18.l.length y18.c, .int .u64 (y19 : Int), .slice y20.A y20.l.length y20.c, .int .u64 0, .int .u64 0]) rfl (by kernel_rfl) (by kernel_rfl) (by kernel_rfl) (fun _ _ _ h => h) (Or.inl ⟨by rfl, ?_⟩) (by assumption) ?_
  · intro w hSw
    refine exec_build 35 _ rfl ?_
    kernel_rfl
  try simp only [Act.put, List.getElem_toArray, List.getElem_cons_succ, List.getElem_cons_zero, List.setIfInBounds_toArray, List.set_cons_zero, List.set_cons_succ]
  refine wpAnyH_ready (rs := [51]) (by kernel_rfl) (by simp) ?_
  refine AllReadyH.cons rfl (fun K hK => ?_) AllReadyH.nil
  refine wp_store_row 35 _ _ rfl (w.heap.size + 1) o.cells rfl (by rw [ho]; rfl) 35 _ HR21.out (by rw [o.size]; exact op_info) rfl o.one ?_
  have HST := Lib.hid (stored_read (cs := o.cells) HCU.out HG21.out (B := w.heap.size + 1) (by omega) HCL.out)
  have HRR := Lib.hid (blk_setRow HR21.out o.cells)
  have g99 : (w21.setRow (w.heap.size + 1) o.cells).cell? ⟨w.heap.size, 0, none⟩ = some (.pointer (some ⟨C, 0, none⟩)) := (blk_grown HD21.out (grown_setRow w21 (w.heap.size + 1) _) (fun eg => by injection eg with eg; omega)).cell 0
  refine hK.out _ _ g99 (fun hHeld99 => ?_)
  clear hK K
  try simp only [Act.put, List.getElem_toArray, List.getElem_cons_succ, List.getElem_cons_zero]
  refine wpAnyH_done (by kernel_rfl) ?_ _
  go_wp2
  refine bodyPost_ret (v := o.v) (results_cell_row rfl _ _ (w.heap.size + 1) 35 o.cells (0, 0) _ rfl HRR.out op_under rfl (by rw [o.size]; exact op_info)) rfl ?_
  have G20 : w20.grownBy w21 (some C) := HH20.out
  have G19 : w19.grownBy w21 (some C) := HH19.out.trans G20
  have G18 : w18.grownBy w21 (some C) := HH18.out.trans G19
  have G17 : w17.grownBy w21 (some C) := HH17.out.trans G18
  have G16 : w16.grownBy w21 (some C) := HH16.out.trans G17
  have G15 : w15.grownBy w21 (some C) := HH15.out.trans G16
  have G14 : w14.grownBy w21 (some C) := HH14.out.trans G15
  have G13 : w13.grownBy w21 (some C) := HH13.out.trans G14
  have G12 : w12.grownBy w21 (some C) := HH12.out.trans G13
  have G11 : w11.grownBy w21 (some C) := HH11.out.trans G12
  have G10 : w10.grownBy w21 (some C) := HH10.out.trans G11
  have G9 : w9.grownBy w21 (some C) := HH9.out.trans G10
  have G8 : w8.grownBy w21 (some C) := HH8.out.trans G9
  have G7 : w7.grownBy w21 (some C) := HH7.out.trans G8
  have G6 : w6.grownBy w21 (some C) := HH6.out.trans G7
  have G5 : w5.grownBy w21 (some C) := HH5.out.trans G6
  have G4 : w4.grownBy w21 (some C) := HH4.out.trans G5
  have G3 : w3.grownBy w21 (some C) := HH3.out.trans G4
  have G2 : w2.grownBy w21 (some C) := HH2.out.trans G3
  have G1 : w1.grownBy w21 (some C) := HH1.out.trans G2
  have G21 : w21.grownBy w21 (some C) := World.grownBy.refl _ _
  have s0 := HS0.out
  have s1 : w.heap.size + 2 ≤ w1.heap.size := by have := HH0.out.size; omega
  have s2 : w.heap.size + 2 ≤ w2.heap.size := by have := HH1.out.size; omega
  have s3 : w.heap.size + 2 ≤ w3.heap.size := by have := HH2.out.size; omega
  have s4 : w.heap.size + 2 ≤ w4.heap.size := by have := HH3.out.size; omega
  have s5 : w.heap.size + 2 ≤ w5.heap.size := by have := HH4.out.size; omega
  have s6 : w.heap.size + 2 ≤ w6.heap.size := by have := HH5.out.size; omega
  have s7 : w.heap.size + 2 ≤ w7.heap.size := by have := HH6.out.size; omega
  have s8 : w.heap.size + 2 ≤ w8.heap.size := by have := HH7.out.size; omega
  have s9 : w.heap.size + 2 ≤ w9.heap.size := by have := HH8.out.size; omega
  have s10 : w.heap.size + 2 ≤ w10.heap.size := by have := HH9.out.size; omega
  have s11 : w.heap.size + 2 ≤ w11.heap.size := by have := HH10.out.size; omega
  have s12 : w.heap.size + 2 ≤ w12.heap.size := by have := HH11.out.size; omega
  have s13 : w.heap.size + 2 ≤ w13.heap.size := by have := HH12.out.size; omega
  have s14 : w.heap.size + 2 ≤ w14.heap.size := by have := HH13.out.size; omega
  have s15 : w.heap.size + 2 ≤ w15.heap.size := by have := HH14.out.size; omega
  have s16 : w.heap.size + 2 ≤ w16.heap.size := by have := HH15.out.size; omega
  have s17 : w.heap.size + 2 ≤ w17.heap.size := by have := HH16.out.size; omega
  have s18 : w.heap.size + 2 ≤ w18.heap.size := by have := HH17.out.size; omega
  have s19 : w.heap.size + 2 ≤ w19.heap.size := by have := HH18.out.size; omega
  have s20 : w.heap.size + 2 ≤ w20.heap.size := by have := HH19.out.size; omega
  subst ho
  exact ⟨_, rfl, ⟨lz_row (lz_on (B := w.heap.size + 2) (HZ4.out) G5 (by have := HCL.out; omega) s4) (by omega) (by omega), lz_row (lz_on (B := w.heap.size + 2) (HZ9.out) G10 (by have := HCL.out; omega) s9) (by omega) (by omega), fun y hy => lz_row (lz_on (B := w.heap.size + 2) (HN9.out y hy) G10 (by have := HCL.out; omega) s9) (by omega) (by omega), lz_row (lz_on (B := w.heap.size + 2) (HZ12.out) G13 (by have := HCL.out; omega) s12) (by omega) (by omega), lz_row (lz_on (B := w.heap.size + 2) (HZ13.out) G14 (by have := HCL.out; omega) s13) (by omega) (by omega), lz_row (lz_on (B := w.heap.size + 2) (HZ15.out) G16 (by have := HCL.out; omega) s15) (by omega) (by omega), lz_row (lz_on (B := w.heap.size + 2) (HZ18.out) G19 (by have := HCL.out; omega) s18) (by omega) (by omega), lz_row (lz_on (B := w.heap.size + 2) (HZ20.out) G21 (by have := HCL.out; omega) s20) (by omega) (by omega), fun y hy => lz_row (lz_on (B := w.heap.size + 2) (HN20.out y hy) G21 (by have := HCL.out; omega) s20) (by omega) (by omega)⟩, ⟨HY0.out, HY1.out, HY2.out, HY3.out, HY4.out, HY5.out, HY6.out, HY7.out, HY8.out, each_er HY9.out, HY10.out, HY11.out, Nat.le_trans HY12.out HPL.out, HY13.out, HY14.out, HY15.out, HY16.out, HY17.out, HY18.out, HY19.out, each_er HY20.out, Nat.zero_lt_succ _, Nat.zero_lt_succ _⟩, rfl, rfl, _, _, HST.out.1, (HRO0.out.sq (HRO1.out.sq (HRO2.out.sq (HRO3.out.sq (HRO4.out.sq (HRO5.out.sq (HRO6.out.sq (HRO7.out.sq (HRO8.out.sq (HRO9.out.sq (HRO10.out.sq (HRO11.out.sq (HRO12.out.sq (HRO13.out.sq (HRO14.out.sq (HRO15.out.sq (HRO16.out.sq (HRO17.out.sq (HRO18.out.sq (HRO19.out.sq HRO20.out)))))))))))))))))))), HST.out.2⟩
end Ot
end Go.Proofs.YtkicjjcangkneaaGreatDoor
