/-
  Package pack's way of reading a name: its three numbers, or nothing. For up to a million bytes.
-/
import Derived.Test.YtkicjjcangkneaaGreatDoorRed
namespace Go.Proofs.YtkicjjcangkneaaGreatDoor
open Go.RowKit
attribute [local go_sem ↓] Go.wp_at_zero Go.wp_at_succ

def nmv (x : Pk.Nm) : Value := .agg #[.int .i64 x.a, .int .i64 x.b, .int .u64 (x.c : Nat)]
theorem stp_name (e : Int) (l : List UInt8) (q1 q2 : Pk.R Int) (q3 : Pk.R Nat) (h1 : q1 = Pk.stp 0 e (Pk.pInt l)) (h2 : q2 = Pk.stp 0 q1.e (Pk.pInt (l.drop q1.n))) (h3 : q3 = Pk.stp 0 q2.e (Pk.pNum (l.drop (q1.n + q2.n)))) :
    Pk.stp ⟨0, 0, 0⟩ e (Pk.pName l) = if q3.e = 0 then ⟨⟨q1.v, q2.v, q3.v⟩, q1.n + q2.n + q3.n, 0⟩ else ⟨⟨0, 0, 0⟩, 0, q3.e⟩ := by
  by_cases he : e = 0
  · subst he
    rw [Pk.stp_ok] at h1 ⊢
    unfold Pk.pName
    rw [← h1]
    by_cases e1 : q1.e = 0
    · rw [e1, Pk.stp_ok] at h2
      rw [← h2, if_neg (fun h => h e1)]
      by_cases e2 : q2.e = 0
      · rw [e2, Pk.stp_ok] at h3
        rw [← h3, if_neg (fun h => h e2)]
        by_cases e3 : q3.e = 0
        · rw [if_neg (fun h => h e3), if_pos e3]
        · rw [if_pos e3, if_neg e3]
      · rw [Pk.stp_bad _ _ e2] at h3
        rw [if_pos e2, h3, if_neg e2]
    · rw [Pk.stp_bad _ _ e1] at h2
      have e2 : q2.e ≠ 0 := by rw [h2]; exact e1
      rw [Pk.stp_bad _ _ e2] at h3
      rw [if_pos e1, h3, if_neg e2, h2]
  · rw [Pk.stp_bad _ _ he] at h1 ⊢
    have e1 : q1.e ≠ 0 := by rw [h1]; exact he
    rw [Pk.stp_bad _ _ e1] at h2
    have e2 : q2.e ≠ 0 := by rw [h2]; exact e1
    rw [Pk.stp_bad _ _ e2] at h3
    rw [h3, if_neg e2, h2, h1]
theorem stp_next {α : Type} (z : α) (e : Int) (p : List UInt8 → Pk.R α) (l : List UInt8) (k k' n : Nat) (h : e = 0 → k' = k + n) : Pk.stp z e (p (l.drop k')) = Pk.stp z e (p ((l.drop k).drop n)) := by
  by_cases he : e = 0
  · rw [h he, List.drop_drop]
  · rw [Pk.stp_bad _ _ he, Pk.stp_bad _ _ he]
theorem Cu.alloc {lo t : Nat} {w : World} {C : Nat} {l : List UInt8} {k : Nat} {e : Int} (h : Cu lo t w C l k e) (o : Obj) : Cu lo t (w.alloc o) C l k e := h.grown (World.grownBy_alloc w o none) (fun g e => by cases e)

theorem grown_past {a w : World} {row : Option Nat} (h : a.grownBy w row) {B : Nat} (hB : a.heap.size ≤ B) (i : Nat) (u : Value) : a.grownBy (w.setCell ⟨B, i, none⟩ u) row :=
  ⟨h.os, h.tape, h.output, by simpa [World.setCell] using h.size, fun j hj hne => (Below.heap_setCell w ⟨B, i, none⟩ u j (by show j ≠ B; omega)).trans (h.block j hj hne)⟩

set_option maxHeartbeats 800000 in
theorem name_is {lo C : Nat} {l : List UInt8} {k : Nat} {e : Int} {w : World} (h : Cu lo 165 w C l k e) :
    Calls Tryz.prog 195 #[.pointer (some ⟨C, 0, none⟩)] w fun x w' => (∃ y, x = .returned (nmv y) ∧ ((Pk.stp ⟨0, 0, 0⟩ e (Pk.pName (l.drop k))).e = 0 → y = (Pk.stp ⟨0, 0, 0⟩ e (Pk.pName (l.drop k))).v)) ∧
      Did lo w w' C l k (Pk.stp ⟨0, 0, 0⟩ e (Pk.pName (l.drop k))).n (Pk.stp ⟨0, 0, 0⟩ e (Pk.pName (l.drop k))).e := by
  obtain ⟨q1, h1⟩ : ∃ q, q = Pk.stp 0 e (Pk.pInt (l.drop k)) := ⟨_, rfl⟩
  obtain ⟨q2, h2⟩ : ∃ q, q = Pk.stp 0 q1.e (Pk.pInt ((l.drop k).drop q1.n)) := ⟨_, rfl⟩
  obtain ⟨q3, h3⟩ : ∃ q, q = Pk.stp 0 q2.e (Pk.pNum ((l.drop k).drop (q1.n + q2.n))) := ⟨_, rfl⟩
  obtain ⟨q, hq⟩ : ∃ q, q = Pk.stp ⟨0, 0, 0⟩ e (Pk.pName (l.drop k)) := ⟨_, rfl⟩
  rw [← hq]
  have hq' := hq.trans (stp_name e (l.drop k) q1 q2 q3 h1 h2 h3)
  have HQ := Lib.hid hq'
  have HLO := Lib.hid (And.intro h.lo_le h.lt)
  have hs := number_is (h.alloc (.cells #[.int .i64 0, .int .i64 0, .int .u64 0] 27))
  rw [← h1] at hs
  have HS := Lib.hid hs
  have hB := blk_new w 27 #[.int .i64 0, .int .i64 0, .int .u64 0]
  have hCB : C ≠ w.heap.size := by have := h.lt; omega
  have HB := Lib.hid hB
  have H2 := Lib.hid h2
  have H3 := Lib.hid h3
  have HG0 := Lib.hid (World.grownBy_alloc w (.cells #[.int .i64 0, .int .i64 0, .int .u64 0] 27) (some C))
  clear hs h1 hB h2 h3 hq hq' h
  go_enter Tryz.func195, Tryz.ntmps195
  go_wp2_with fail
  refine (HS.out).mono ?_
  rintro x w1 ⟨rfl, k1, hcu, hk1, hg⟩
  have hs2 := number_is hcu
  rw [stp_next 0 q1.e Pk.pInt l k k1 q1.n hk1, ← H2.out] at hs2
  have HS2 := Lib.hid hs2
  have HK1 := Lib.hid hk1
  have HB1 := Lib.hid (blk_grown HB.out hg (fun e => hCB (by injection e with e; exact e.symm)))
  have HG1 := Lib.hid (HG0.out.trans hg)
  clear HS hcu hg hs2 hk1 HB HG0
  go_wp2_with fail
  refine (HS2.out).mono ?_
  rintro x w2 ⟨rfl, k2, hcu, hk2, hg⟩
  have hs3 := sevens_any hcu
  have hk12 : q2.e = 0 → k2 = k + (q1.n + q2.n) := fun e2 => by
    have e1 : q1.e = 0 := by
      by_cases e1 : q1.e = 0
      · exact e1
      · have := H2.out; rw [Pk.stp_bad _ _ e1] at this; rw [this] at e2; exact e2
    rw [hk2 e2, HK1.out e1, Nat.add_assoc]
  rw [stp_next 0 q2.e Pk.pNum l k k2 (q1.n + q2.n) hk12, ← H3.out] at hs3
  have HS3 := Lib.hid hs3
  have HK2 := Lib.hid hk12
  have HB2 := Lib.hid (blk_grown HB1.out hg (fun e => hCB (by injection e with e; exact e.symm)))
  have HG2 := Lib.hid (HG1.out.trans hg)
  clear HS2 hcu hg hs3 hk12 HB1 HG1 hk2 HK1
  go_wp2_with fail
  refine (HS3.out).mono ?_
  rintro x w3 ⟨rfl, k3, hcu, hk3, hg⟩
  have hB3 := blk_grown HB2.out hg (fun e => hCB (by injection e with e; exact e.symm))
  have c0 : w3.cell? ⟨w.heap.size, 0, none⟩ = some (.int .i64 0) := hB3.cell 0
  have c1 : w3.cell? ⟨w.heap.size, 1, none⟩ = some (.int .i64 0) := hB3.cell 1
  have c2 : w3.cell? ⟨w.heap.size, 2, none⟩ = some (.int .u64 0) := hB3.cell 2
  have f0 : w3.frozen? ⟨w.heap.size, 0, none⟩ = false := hB3.frozen 0
  have f1 : w3.frozen? ⟨w.heap.size, 1, none⟩ = false := hB3.frozen 1
  have f2 : w3.frozen? ⟨w.heap.size, 2, none⟩ = false := hB3.frozen 2
  have HCU := Lib.hid hcu
  have HG3 := Lib.hid (HG2.out.trans hg)
  have HK3 := Lib.hid hk3
  clear HS3 hcu hg hk3 HB2 HG2 hB3
  go_wp2
  refine bodyPost_ret (v := .agg #[.int .i64 q1.v, .int .i64 q2.v, .int .u64 (q3.v : Nat)]) (by simp [results, go_sem, c0, c1, c2]) rfl ⟨⟨⟨q1.v, q2.v, q3.v⟩, rfl, fun h => ?_⟩, ?_⟩
  · have h0 := HQ.out
    by_cases e3 : q3.e = 0
    · rw [if_pos e3] at h0
      rw [h0]
    · rw [if_neg e3] at h0
      rw [h0] at h
      exact absurd h e3
  · have hne : q.e = q3.e := by
      have h0 := HQ.out
      by_cases e3 : q3.e = 0
      · rw [if_pos e3] at h0
        rw [h0, e3]
      · rw [if_neg e3] at h0
        rw [h0]
    refine ⟨k3, ?_, fun h => ?_, grown_past (grown_past (grown_past HG3.out (Nat.le_refl _) _ _) (Nat.le_refl _) _ _) (Nat.le_refl _) _ _⟩
    · rw [hne]
      exact HCU.out.grown (only_set (only_set (only_set (only_refl _ (some w.heap.size)) 0 _) 1 _) 2 _) (fun g e => by injection e with e; subst e; exact ⟨by have := HLO.out; omega, fun h => hCB h.symm⟩)
    · have e3 : q3.e = 0 := by rw [← hne]; exact h
      have e2 : q2.e = 0 := by
        by_cases e2 : q2.e = 0
        · exact e2
        · have := H3.out; rw [Pk.stp_bad _ _ e2] at this; rw [this] at e3; exact e3
      have h0 := HQ.out
      rw [if_pos e3] at h0
      rw [HK3.out e3, HK2.out e2, h0]
      show _ = k + (q1.n + q2.n + q3.n)
      omega

theorem two_blocks {lo C : Nat} {l : List UInt8} {k' : Nat} {e : Int} {w w1 : World} (y0 y1 : Int) (y2 : Nat) (hlo : lo ≤ C) (hlt : C < w.heap.size) (hcu : Cu lo 165 w1 C l k' e)
    (hB : Blk (w.alloc (.cells #[.int .i64 0, .int .i64 0, .int .u64 0] 27)) w.heap.size 27 #[.int .i64 0, .int .i64 0, .int .u64 0])
    (hg0 : w.grownBy (w.alloc (.cells #[.int .i64 0, .int .i64 0, .int .u64 0] 27)) (some C)) (hg : (w.alloc (.cells #[.int .i64 0, .int .i64 0, .int .u64 0] 27)).grownBy w1 (some C)) :
    (w1.alloc (.cells #[.int .i64 y0, .int .i64 y1, .int .u64 (y2 : Int)] 27)).cell? ⟨C, 2, none⟩ = some (.int .i64 e) ∧
    (w1.alloc (.cells #[.int .i64 y0, .int .i64 y1, .int .u64 (y2 : Int)] 27)).cell? ⟨w.heap.size, 0, none⟩ = some (.int .i64 0) ∧
    (w1.alloc (.cells #[.int .i64 y0, .int .i64 y1, .int .u64 (y2 : Int)] 27)).cell? ⟨w.heap.size, 1, none⟩ = some (.int .i64 0) ∧
    (w1.alloc (.cells #[.int .i64 y0, .int .i64 y1, .int .u64 (y2 : Int)] 27)).cell? ⟨w.heap.size, 2, none⟩ = some (.int .u64 0) ∧
    (w1.alloc (.cells #[.int .i64 y0, .int .i64 y1, .int .u64 (y2 : Int)] 27)).frozen? ⟨w.heap.size, 0, none⟩ = false ∧
    (w1.alloc (.cells #[.int .i64 y0, .int .i64 y1, .int .u64 (y2 : Int)] 27)).frozen? ⟨w.heap.size, 1, none⟩ = false ∧
    (w1.alloc (.cells #[.int .i64 y0, .int .i64 y1, .int .u64 (y2 : Int)] 27)).frozen? ⟨w.heap.size, 2, none⟩ = false ∧
    ∀ u0 u1 u2, Cu lo 165 ((((w1.alloc (.cells #[.int .i64 y0, .int .i64 y1, .int .u64 (y2 : Int)] 27)).setCell ⟨w.heap.size, 0, none⟩ u0).setCell ⟨w.heap.size, 1, none⟩ u1).setCell ⟨w.heap.size, 2, none⟩ u2) C l k' e ∧
      w.grownBy ((((w1.alloc (.cells #[.int .i64 y0, .int .i64 y1, .int .u64 (y2 : Int)] 27)).setCell ⟨w.heap.size, 0, none⟩ u0).setCell ⟨w.heap.size, 1, none⟩ u1).setCell ⟨w.heap.size, 2, none⟩ u2) (some C) := by
  have hCB : C ≠ w.heap.size := by omega
  have hB1 := blk_alloc (blk_grown hB hg (fun e => hCB (by injection e with e; exact e.symm))) (.cells #[.int .i64 y0, .int .i64 y1, .int .u64 (y2 : Int)] 27)
  have hcl := (hg0.trans hg).trans (World.grownBy_alloc w1 (.cells #[.int .i64 y0, .int .i64 y1, .int .u64 (y2 : Int)] 27) (some C))
  have hcu1 := hcu.alloc (.cells #[.int .i64 y0, .int .i64 y1, .int .u64 (y2 : Int)] 27)
  refine ⟨hcu1.cells.1, hB1.cell 0, hB1.cell 1, hB1.cell 2, hB1.frozen 0, hB1.frozen 1, hB1.frozen 2, fun u0 u1 u2 => ⟨?_, grown_past (grown_past (grown_past hcl (Nat.le_refl _) _ _) (Nat.le_refl _) _ _) (Nat.le_refl _) _ _⟩⟩
  exact hcu1.grown (only_set (only_set (only_set (only_refl _ (some w.heap.size)) 0 _) 1 _) 2 _) (fun g e => by injection e with e; subst e; exact ⟨by omega, fun h => hCB h.symm⟩)

theorem three_blocks {lo C : Nat} {l : List UInt8} {k k' : Nat} {e : Int} {w w1 : World} (y0 y1 : Int) (y2 : Nat) (hlo : lo ≤ C) (hlt : C < w.heap.size) (hk : k ≤ l.length) (hcu : Cu lo 165 w1 C l k' e)
    (hB : Blk (w.alloc (.cells #[.int .i64 0, .int .i64 0, .int .u64 0] 27)) w.heap.size 27 #[.int .i64 0, .int .i64 0, .int .u64 0])
    (hg0 : w.grownBy (w.alloc (.cells #[.int .i64 0, .int .i64 0, .int .u64 0] 27)) (some C)) (hg : (w.alloc (.cells #[.int .i64 0, .int .i64 0, .int .u64 0] 27)).grownBy w1 (some C)) :
    (((w1.alloc (.cells #[.int .i64 y0, .int .i64 y1, .int .u64 (y2 : Int)] 27)).setCell ⟨C, 1, none⟩ (.int .i64 (k : Int))).alloc (.cells #[.int .i64 0, .int .i64 0, .int .u64 0] 27)).cell? ⟨w.heap.size, 0, none⟩ = some (.int .i64 0) ∧
    (((w1.alloc (.cells #[.int .i64 y0, .int .i64 y1, .int .u64 (y2 : Int)] 27)).setCell ⟨C, 1, none⟩ (.int .i64 (k : Int))).alloc (.cells #[.int .i64 0, .int .i64 0, .int .u64 0] 27)).cell? ⟨w.heap.size, 1, none⟩ = some (.int .i64 0) ∧
    (((w1.alloc (.cells #[.int .i64 y0, .int .i64 y1, .int .u64 (y2 : Int)] 27)).setCell ⟨C, 1, none⟩ (.int .i64 (k : Int))).alloc (.cells #[.int .i64 0, .int .i64 0, .int .u64 0] 27)).cell? ⟨w.heap.size, 2, none⟩ = some (.int .u64 0) ∧
    (((w1.alloc (.cells #[.int .i64 y0, .int .i64 y1, .int .u64 (y2 : Int)] 27)).setCell ⟨C, 1, none⟩ (.int .i64 (k : Int))).alloc (.cells #[.int .i64 0, .int .i64 0, .int .u64 0] 27)).frozen? ⟨w.heap.size, 0, none⟩ = false ∧
    (((w1.alloc (.cells #[.int .i64 y0, .int .i64 y1, .int .u64 (y2 : Int)] 27)).setCell ⟨C, 1, none⟩ (.int .i64 (k : Int))).alloc (.cells #[.int .i64 0, .int .i64 0, .int .u64 0] 27)).frozen? ⟨w.heap.size, 1, none⟩ = false ∧
    (((w1.alloc (.cells #[.int .i64 y0, .int .i64 y1, .int .u64 (y2 : Int)] 27)).setCell ⟨C, 1, none⟩ (.int .i64 (k : Int))).alloc (.cells #[.int .i64 0, .int .i64 0, .int .u64 0] 27)).frozen? ⟨w.heap.size, 2, none⟩ = false ∧
    ∀ u0 u1 u2, Cu lo 165 ((((((w1.alloc (.cells #[.int .i64 y0, .int .i64 y1, .int .u64 (y2 : Int)] 27)).setCell ⟨C, 1, none⟩ (.int .i64 (k : Int))).alloc (.cells #[.int .i64 0, .int .i64 0, .int .u64 0] 27)).setCell ⟨w.heap.size, 0, none⟩ u0).setCell ⟨w.heap.size, 1, none⟩ u1).setCell ⟨w.heap.size, 2, none⟩ u2) C l k e ∧
      w.grownBy ((((((w1.alloc (.cells #[.int .i64 y0, .int .i64 y1, .int .u64 (y2 : Int)] 27)).setCell ⟨C, 1, none⟩ (.int .i64 (k : Int))).alloc (.cells #[.int .i64 0, .int .i64 0, .int .u64 0] 27)).setCell ⟨w.heap.size, 0, none⟩ u0).setCell ⟨w.heap.size, 1, none⟩ u1).setCell ⟨w.heap.size, 2, none⟩ u2) (some C) := by
  have hCB : C ≠ w.heap.size := by omega
  have hne : (some w.heap.size : Option Nat) ≠ some C := fun e => hCB (by injection e with e; exact e.symm)
  have hcl := only_set ((hg0.trans hg).trans (World.grownBy_alloc w1 (.cells #[.int .i64 y0, .int .i64 y1, .int .u64 (y2 : Int)] 27) (some C))) 1 (.int .i64 (k : Int))
  have hcl2 := hcl.trans (World.grownBy_alloc _ (.cells #[.int .i64 0, .int .i64 0, .int .u64 0] 27) (some C))
  have hB1 := blk_alloc (blk_grown (blk_alloc (blk_grown hB hg hne) (.cells #[.int .i64 y0, .int .i64 y1, .int .u64 (y2 : Int)] 27)) (only_set (only_refl _ (some C)) 1 (.int .i64 (k : Int))) hne) (.cells #[.int .i64 0, .int .i64 0, .int .u64 0] 27)
  have hcu1 := ((hcu.alloc (.cells #[.int .i64 y0, .int .i64 y1, .int .u64 (y2 : Int)] 27)).back hk).alloc (.cells #[.int .i64 0, .int .i64 0, .int .u64 0] 27)
  refine ⟨hB1.cell 0, hB1.cell 1, hB1.cell 2, hB1.frozen 0, hB1.frozen 1, hB1.frozen 2, fun u0 u1 u2 => ⟨?_, grown_past (grown_past (grown_past hcl2 (Nat.le_refl _) _ _) (Nat.le_refl _) _ _) (Nat.le_refl _) _ _⟩⟩
  exact hcu1.grown (only_set (only_set (only_set (only_refl _ (some w.heap.size)) 0 _) 1 _) 2 _) (fun g e => by injection e with e; subst e; exact ⟨by omega, fun h => hCB h.symm⟩)

set_option maxHeartbeats 800000 in
theorem read_name {lo C : Nat} {l : List UInt8} {k : Nat} {e : Int} {w : World} (h : Cu lo 165 w C l k e) :
    Calls Tryz.prog 194 #[.pointer (some ⟨C, 0, none⟩), .func (.func 195) #[] #[]] w fun x w' => x = .returned (nmv (Pk.stp ⟨0, 0, 0⟩ e (Pk.pName (l.drop k))).v) ∧ Cu lo 165 w' C l (k + (Pk.stp ⟨0, 0, 0⟩ e (Pk.pName (l.drop k))).n) (Pk.stp ⟨0, 0, 0⟩ e (Pk.pName (l.drop k))).e ∧ w.grownBy w' (some C) := by
  have hs := name_is (h.alloc (.cells #[.int .i64 0, .int .i64 0, .int .u64 0] 27))
  have hbad : (Pk.stp ⟨0, 0, 0⟩ e (Pk.pName (l.drop k))).e ≠ 0 → (Pk.stp ⟨0, 0, 0⟩ e (Pk.pName (l.drop k))).v = ⟨0, 0, 0⟩ ∧ (Pk.stp ⟨0, 0, 0⟩ e (Pk.pName (l.drop k))).n = 0 := by
    intro h
    rw [stp_name e (l.drop k) _ _ _ rfl rfl rfl] at h ⊢
    split at h
    · exact absurd rfl h
    · rename_i h'
      rw [if_neg h']
      exact ⟨rfl, rfl⟩
  obtain ⟨q, hq⟩ : ∃ q, q = Pk.stp ⟨0, 0, 0⟩ e (Pk.pName (l.drop k)) := ⟨_, rfl⟩
  rw [← hq] at hs hbad ⊢
  have hlt := h.lt
  have hpl := h.place
  have hlo := h.lo_le
  have hCB : C ≠ w.heap.size := by omega
  have hB := blk_new w 27 #[.int .i64 0, .int .i64 0, .int .u64 0]
  obtain ⟨A, c, hC, _⟩ := h
  have c1 : (w.alloc (.cells #[.int .i64 0, .int .i64 0, .int .u64 0] 27)).cell? ⟨C, 1, none⟩ = some (.int .i64 (k : Int)) := (blk_alloc hC _).cell 1
  have HS := Lib.hid hs
  have HBAD := Lib.hid hbad
  have HP := Lib.hid (And.intro hpl.1 hlo)
  have HB := Lib.hid hB
  have HG0 := Lib.hid (World.grownBy_alloc w (.cells #[.int .i64 0, .int .i64 0, .int .u64 0] 27) (some C))
  clear hC hs hbad hpl hB hq hlo
  by_cases he : q.e = 0
  · have hq : (q.e != 0) = false := by rw [he]; rfl
    have HE := Lib.hid he
    clear he
    go_enter Tryz.func194, Tryz.ntmps194
    go_wp2_with fail
    go_at_call 195
    refine (HS.out).mono ?_
    rintro x w1 ⟨⟨⟨y0, y1, y2⟩, rfl, hy⟩, k', hcu, hk, hg⟩
    have hst := two_blocks y0 y1 y2 HP.out.2 hlt hcu HB.out HG0.out hg
    obtain ⟨c2, g0, g1, g2, r0, r1, r2, hfin⟩ := hst
    have HD := Lib.hid (And.intro (hy HE.out) (And.intro (hk HE.out) hfin))
    clear hy hk hcu hg c1 HS HB HG0 hfin
    unfold nmv
    go_wp2
    refine bodyPost_ret (v := .agg #[.int .i64 y0, .int .i64 y1, .int .u64 (y2 : Int)]) (by simp [results, go_sem, g0, g1, g2]) rfl ?_
    obtain ⟨h1, h2, h3⟩ := HD.out
    exact ⟨by rw [← h1]; rfl, by rw [← h2]; exact (h3 _ _ _).1, (h3 _ _ _).2⟩
  · have hq : (q.e != 0) = true := by rw [bne_iff_ne]; exact he
    obtain ⟨hv, hn⟩ := HBAD.out he
    rw [hv, hn]
    clear he hv hn
    go_enter Tryz.func194, Tryz.ntmps194
    go_wp2_with fail
    go_at_call 195
    refine (HS.out).mono ?_
    rintro x w1 ⟨⟨⟨y0, y1, y2⟩, rfl, _⟩, k', hcu, _, hg⟩
    have hst := two_blocks y0 y1 y2 HP.out.2 hlt hcu HB.out HG0.out hg
    obtain ⟨c2, _, _, _, _, _, _, _⟩ := hst
    have f1 := (hcu.alloc (.cells #[.int .i64 y0, .int .i64 y1, .int .u64 (y2 : Int)] 27)).cells.2.1
    have d1 := (hcu.alloc (.cells #[.int .i64 y0, .int .i64 y1, .int .u64 (y2 : Int)] 27)).cells.2.2
    obtain ⟨g0, g1, g2, r0, r1, r2, hfin⟩ := three_blocks y0 y1 y2 HP.out.2 hlt HP.out.1 hcu HB.out HG0.out hg
    have HD := Lib.hid hfin
    clear hcu hg c1 HS HB HG0 hfin
    unfold nmv
    go_wp2
    refine bodyPost_ret (v := .agg #[.int .i64 0, .int .i64 0, .int .u64 0]) (by simp [results, go_sem, g0, g1, g2]) rfl ?_
    exact ⟨rfl, (HD.out _ _ _).1, (HD.out _ _ _).2⟩

end Go.Proofs.YtkicjjcangkneaaGreatDoor
