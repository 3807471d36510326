/-
  The chapter's answer on reading: a name. For up to a million bytes.
-/
import Derived.Test.YtjpdlnemkhofmaaRfr
namespace Go.Proofs.Ytjpdlnemkhofmaa
open Go.RowKit
attribute [local go_sem ↓] Go.wp_at_zero Go.wp_at_succ

/-! ### a name -/
theorem Cu.beside {lo t : Nat} {w : World} {C : Nat} {l : List UInt8} {k : Nat} {e : Int} (h : Cu lo t w C l k e) {B : Nat} (hB : C < B) (i : Nat) (u : Value) : Cu lo t (w.setCell ⟨B, i, none⟩ u) C l k e :=
  h.grown (only_set (only_refl _ (some B)) i u) (fun g e => by injection e with e; subst e; exact ⟨Nat.le_trans h.lo_le (Nat.le_of_lt hB), by omega⟩)
theorem blk_beside {w : World} {B t : Nat} {cs : Array Value} (h : Blk w B t cs) {B' : Nat} (hne : B ≠ B') (i : Nat) (u : Value) : Blk (w.setCell ⟨B', i, none⟩ u) B t cs :=
  blk_grown h (only_set (only_refl _ (some B')) i u) (fun e => hne (by injection e))
set_option maxRecDepth 100000 in
set_option maxHeartbeats 1000000 in
theorem rname_any {lo C : Nat} {l : List UInt8} {k : Nat} {e : Int} {w : World} (h : Cu lo 42 w C l k e) :
    Calls Try.prog 43 #[.pointer (some ⟨C, 0, none⟩)] w fun x w' => x = .returned (nmv (Pk.stp ⟨0, 0, 0⟩ e (Pk.pName (l.drop k))).v) ∧ Cu lo 42 w' C l (k + (Pk.stp ⟨0, 0, 0⟩ e (Pk.pName (l.drop k))).n) (Pk.stp ⟨0, 0, 0⟩ e (Pk.pName (l.drop k))).e ∧ w.grownBy w' (some C) := by
  obtain ⟨q1, h1⟩ : ∃ q, q = Pk.stp 0 e (Pk.pInt (l.drop k)) := ⟨_, rfl⟩
  obtain ⟨q2, h2⟩ : ∃ q, q = Pk.stp 0 q1.e (Pk.pInt ((l.drop k).drop q1.n)) := ⟨_, rfl⟩
  obtain ⟨q3, h3⟩ : ∃ q, q = Pk.stp 0 q2.e (Pk.pNum ((l.drop k).drop (q1.n + q2.n))) := ⟨_, rfl⟩
  obtain ⟨q, hq⟩ : ∃ q, q = Pk.stp ⟨0, 0, 0⟩ e (Pk.pName (l.drop k)) := ⟨_, rfl⟩
  rw [← hq]
  have HQ := Lib.hid (hq.trans (stp_name e (l.drop k) q1 q2 q3 h1 h2 h3))
  have hlt := h.lt
  have hpl := h.place
  obtain ⟨B0, hB0⟩ : ∃ B0, B0 = w.heap.size := ⟨_, rfl⟩
  obtain ⟨B1, hB1⟩ : ∃ B1, B1 = w.heap.size + 1 := ⟨_, rfl⟩
  obtain ⟨z, hz⟩ : ∃ z : Array Value, z = #[.int .i64 0, .int .i64 0, .int .u64 0] := ⟨_, rfl⟩
  have hCB0 : C < B0 := by omega
  have hCB1 : C < B1 := by omega
  have hb0 : Blk ((w.alloc (.cells #[.int .i64 0, .int .i64 0, .int .u64 0] 48)).alloc (.cells #[.int .i64 0, .int .i64 0, .int .u64 0] 48)) B0 48 #[.int .i64 0, .int .i64 0, .int .u64 0] := hB0 ▸ blk_alloc (blk_new w 48 _) _
  have hb1 : Blk ((w.alloc (.cells #[.int .i64 0, .int .i64 0, .int .u64 0] 48)).alloc (.cells #[.int .i64 0, .int .i64 0, .int .u64 0] 48)) B1 48 #[.int .i64 0, .int .i64 0, .int .u64 0] := by
    have hb := blk_new (w.alloc (.cells #[.int .i64 0, .int .i64 0, .int .u64 0] 48)) 48 #[.int .i64 0, .int .i64 0, .int .u64 0]
    rw [World.size_alloc] at hb
    exact hB1 ▸ hb
  have hg0 := (World.grownBy_alloc w (.cells #[.int .i64 0, .int .i64 0, .int .u64 0] 48) (some C)).trans (World.grownBy_alloc _ (.cells #[.int .i64 0, .int .i64 0, .int .u64 0] 48) (some C))
  obtain ⟨_, _, _, c1, _⟩ := h.all
  have hs := rint_any ((h.alloc (.cells #[.int .i64 0, .int .i64 0, .int .u64 0] 48)).alloc (.cells #[.int .i64 0, .int .i64 0, .int .u64 0] 48))
  rw [← h1] at hs
  have HS := Lib.hid hs
  have H2 := Lib.hid h2
  have H3 := Lib.hid h3
  have HB0 := Lib.hid hb0
  have HB1 := Lib.hid hb1
  have HG0 := Lib.hid hg0
  have HP := Lib.hid hpl
  have HN := Lib.hid (And.intro hB0 hB1)
  have hne01 : B0 ≠ B1 := by omega
  have hne0 : (some B0 : Option Nat) ≠ some C := fun e => by injection e with e; omega
  have hne1 : (some B1 : Option Nat) ≠ some C := fun e => by injection e with e; omega
  clear hs h1 h2 h3 hq h hpl hb0 hb1 hg0 hz hlt
  have e0 : w.heap.size = B0 := hB0.symm
  have e1 : B0 + 1 = B1 := by omega
  clear hB0 hB1
  go_enter Try.func43, Try.ntmps43
  go_wp2_with fail
  refine (HS.out).mono ?_
  rintro x w1 ⟨rfl, hcu, hg⟩
  have hb0 := blk_grown HB0.out hg hne0
  have hb1 := blk_grown HB1.out hg hne1
  have d0 : w1.cell? ⟨B1, 0, none⟩ = some (.int .i64 0) := hb1.cell 0
  have f0 : w1.frozen? ⟨B1, 0, none⟩ = false := hb1.frozen 0
  have hs2 := rint_any (hcu.beside hCB1 0 (.int .i64 q1.v))
  rw [← List.drop_drop, ← H2.out] at hs2
  have HS2 := Lib.hid hs2
  have HB0a := Lib.hid (blk_beside hb0 hne01 0 (.int .i64 q1.v))
  have HB1a := Lib.hid (hb1.set_ 0 (.int .i64 q1.v))
  have HGa := Lib.hid (grown_past (HG0.out.trans hg) (show w.heap.size ≤ B1 by have := HN.out; omega) 0 (.int .i64 q1.v))
  clear HS hcu hg hs2 HB0 HB1 HG0 hb0 hb1
  unfold i64v
  go_wp2_with fail
  refine (HS2.out).mono ?_
  rintro x w2 ⟨rfl, hcu, hg⟩
  have hb0 := blk_grown HB0a.out hg hne0
  have hb1 := blk_grown HB1a.out hg hne1
  have d1 : w2.cell? ⟨B1, 1, none⟩ = some (.int .i64 0) := hb1.cell 1
  have f1 : w2.frozen? ⟨B1, 1, none⟩ = false := hb1.frozen 1
  have hs3 := rnum_any (hcu.beside hCB1 1 (.int .i64 q2.v))
  rw [Nat.add_assoc, ← List.drop_drop, ← H3.out] at hs3
  have HS3 := Lib.hid hs3
  have HB0b := Lib.hid (blk_beside hb0 hne01 1 (.int .i64 q2.v))
  have HB1b := Lib.hid (hb1.set_ 1 (.int .i64 q2.v))
  have HGb := Lib.hid (grown_past (HGa.out.trans hg) (show w.heap.size ≤ B1 by have := HN.out; omega) 1 (.int .i64 q2.v))
  clear HS2 hcu hg hs3 HB0a HB1a HGa hb0 hb1
  unfold i64v
  go_wp2_with fail
  refine (HS3.out).mono ?_
  rintro x w3 ⟨rfl, hcu, hg⟩
  have hb0 := blk_grown HB0b.out hg hne0
  have hb1 := blk_grown HB1b.out hg hne1
  have d2 : w3.cell? ⟨B1, 2, none⟩ = some (.int .u64 0) := hb1.cell 2
  have f2 : w3.frozen? ⟨B1, 2, none⟩ = false := hb1.frozen 2
  have hcu' := hcu.beside hCB1 2 (.int .u64 (q3.v : Nat))
  have hb0' := blk_beside hb0 hne01 2 (.int .u64 (q3.v : Nat))
  have hb1' := hb1.set_ 2 (.int .u64 (q3.v : Nat))
  have hg' := grown_past (HGb.out.trans hg) (show w.heap.size ≤ B1 by have := HN.out; omega) 2 (.int .u64 (q3.v : Nat))
  have g0 : w3.cell? ⟨B1, 0, none⟩ = some (.int .i64 q1.v) := hb1.cell 0
  have g1 : w3.cell? ⟨B1, 1, none⟩ = some (.int .i64 q2.v) := hb1.cell 1
  obtain ⟨_, _, _, c1', c2', fk, _, _⟩ := hcu.all
  have p0 : w3.cell? ⟨B0, 0, none⟩ = some (.int .i64 0) := hb0.cell 0
  have p1 : w3.cell? ⟨B0, 1, none⟩ = some (.int .i64 0) := hb0.cell 1
  have p2 : w3.cell? ⟨B0, 2, none⟩ = some (.int .u64 0) := hb0.cell 2
  have r0 : w3.frozen? ⟨B0, 0, none⟩ = false := hb0.frozen 0
  have r1 : w3.frozen? ⟨B0, 1, none⟩ = false := hb0.frozen 1
  have r2 : w3.frozen? ⟨B0, 2, none⟩ = false := hb0.frozen 2
  have n1 : C ≠ B1 := by omega
  have n2 : B1 ≠ C := by omega
  have n3 : B1 ≠ B0 := by omega
  have n4 : C ≠ B0 := by omega
  have n5 : B0 ≠ C := by omega
  clear HS3 HB0b HB1b HGb
  by_cases he3 : q3.e = 0
  · have he1 : (q3.e != 0) = false := by rw [he3]; rfl
    have HQ' := Lib.hid (show q = ⟨⟨q1.v, q2.v, q3.v⟩, q1.n + q2.n + q3.n, 0⟩ by rw [HQ.out, if_pos he3])
    have HF := Lib.hid (And.intro (((hcu'.beside hCB0 0 (.int .i64 q1.v)).beside hCB0 1 (.int .i64 q2.v)).beside hCB0 2 (.int .u64 (q3.v : Nat))) (And.intro (grown_past (grown_past (grown_past hg' (Nat.le_of_eq HN.out.1.symm) 0 (.int .i64 q1.v)) (Nat.le_of_eq HN.out.1.symm) 1 (.int .i64 q2.v)) (Nat.le_of_eq HN.out.1.symm) 2 (.int .u64 (q3.v : Nat))) he3))
    clear hcu hg hb0 hb1 hcu' hb0' hb1' hg' he3
    unfold u64v
    go_wp2_with fail
    refine bodyPost_ret (v := .agg #[.int .i64 q1.v, .int .i64 q2.v, .int .u64 (q3.v : Nat)]) (by simp [results, Try.results43, go_sem, p0, p1, p2]) rfl ⟨by rw [HQ'.out]; rfl, ?_, HF.out.2.1⟩
    rw [HQ'.out]
    show Cu lo 42 _ C l (k + (q1.n + q2.n + q3.n)) 0
    rw [← Nat.add_assoc k, ← HF.out.2.2]
    exact HF.out.1
  · have he1 : (q3.e != 0) = true := by rw [bne_iff_ne]; exact he3
    have HQ' := Lib.hid (show q = ⟨⟨0, 0, 0⟩, 0, q3.e⟩ by rw [HQ.out, if_neg he3])
    have hcu'' := hcu'.moved HP.out.1
    have HF := Lib.hid (And.intro (((hcu''.1.beside hCB0 0 (.int .i64 0)).beside hCB0 1 (.int .i64 0)).beside hCB0 2 (.int .u64 0)) (grown_past (grown_past (grown_past (hg'.trans hcu''.2) (Nat.le_of_eq HN.out.1.symm) 0 (.int .i64 0)) (Nat.le_of_eq HN.out.1.symm) 1 (.int .i64 0)) (Nat.le_of_eq HN.out.1.symm) 2 (.int .u64 0)))
    clear hcu hg hb0 hb1 hcu' hb0' hb1' hg' he3 hcu''
    unfold u64v
    go_wp2_with fail
    refine bodyPost_ret (v := .agg #[.int .i64 0, .int .i64 0, .int .u64 0]) (by simp [results, Try.results43, go_sem, p0, p1, p2]) rfl ⟨by rw [HQ'.out]; rfl, ?_, HF.out.2⟩
    rw [HQ'.out]
    exact HF.out.1

end Go.Proofs.Ytjpdlnemkhofmaa
