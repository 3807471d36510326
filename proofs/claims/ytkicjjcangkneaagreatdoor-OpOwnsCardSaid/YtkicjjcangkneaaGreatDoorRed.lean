/-
  Package pack's In: what each of its reads tells, and that a read that fails reads nothing. For up to a million bytes.
-/
import Derived.Test.YtkicjjcangkneaaGreatDoorRea
namespace Go.Proofs.YtkicjjcangkneaaGreatDoor
open Go.RowKit
attribute [local go_sem ↓] Go.wp_at_zero Go.wp_at_succ

theorem Cu.back {lo t : Nat} {w : World} {C : Nat} {l : List UInt8} {k k' : Nat} {e : Int} (h : Cu lo t w C l k e) (hk : k' ≤ l.length) : Cu lo t (w.setCell ⟨C, 1, none⟩ (.int .i64 (k' : Int))) C l k' e := by
  obtain ⟨A, c, hC, hA, h1, h2, h3⟩ := h
  exact ⟨A, c, hC.set_ 1 _, hA.only (only_set (only_refl _ _) 1 _) h1, h1, hk, h3⟩
theorem Cu.cells {lo t : Nat} {w : World} {C : Nat} {l : List UInt8} {k : Nat} {e : Int} (h : Cu lo t w C l k e) : w.cell? ⟨C, 2, none⟩ = some (.int .i64 e) ∧ w.frozen? ⟨C, 1, none⟩ = false ∧ w.cell? ⟨C, 1, none⟩ = some (.int .i64 (k : Int)) := by
  obtain ⟨A, c, hC, _⟩ := h
  exact ⟨hC.cell 2, hC.frozen 1, hC.cell 1⟩

set_option maxHeartbeats 400000 in
theorem read_num {lo C : Nat} {l : List UInt8} {k : Nat} {e : Int} {w : World} (n : Nat) (e' : Int) (v : Value) (h : Cu lo 165 w C l k e)
    (hsub : Calls Tryz.prog 147 #[.pointer (some ⟨C, 0, none⟩)] w fun x w' => (∃ y, x = .returned y ∧ (e' = 0 → y = v)) ∧ Did lo w w' C l k n e') :
    Calls Tryz.prog 146 #[.pointer (some ⟨C, 0, none⟩), .func (.func 147) #[] #[]] w fun x w' => x = .returned (if e' = 0 then v else .int .u64 0) ∧ Cu lo 165 w' C l (if e' = 0 then k + n else k) e' ∧ w.grownBy w' (some C) := by
  have hpl := h.place
  obtain ⟨A, c, hC, _⟩ := h
  have c1 : w.cell? ⟨C, 1, none⟩ = some (.int .i64 (k : Int)) := hC.cell 1
  have HS := Lib.hid hsub
  have HP := Lib.hid hpl.1
  clear hC hsub hpl
  by_cases he : e' = 0
  · rw [if_pos he, if_pos he]
    have hq : (e' != 0) = false := by rw [he]; rfl
    have HE := Lib.hid he
    clear he
    go_enter Tryz.func146, Tryz.ntmps146
    go_wp2_with (go_at_call 147; refine (HS.out).mono ?_; rintro x w1 ⟨⟨y, rfl, hy⟩, k', hcu, hk, hg⟩; have c2 := hcu.cells.1; have HD := Lib.hid (And.intro (hy HE.out) (And.intro (hk HE.out) (And.intro hcu hg))); clear hy hk hcu hg c1 HS)
    go_ret
    obtain ⟨h1, h2, h3, h4⟩ := HD.out
    exact ⟨by rw [← h1]; rfl, by rw [← h2]; exact h3, h4⟩
  · rw [if_neg he, if_neg he]
    have hq : (e' != 0) = true := by rw [bne_iff_ne]; exact he
    clear he
    go_enter Tryz.func146, Tryz.ntmps146
    go_wp2_with (go_at_call 147; refine (HS.out).mono ?_; rintro x w1 ⟨⟨y, rfl, hy⟩, k', hcu, hk, hg⟩; have c2 := hcu.cells.1; have f1 := hcu.cells.2.1; have d1 := hcu.cells.2.2; have HD := Lib.hid (And.intro (hcu.back HP.out) (only_set hg 1 (.int .i64 (k : Int)))); clear hy hk hcu hg c1 HS)
    go_ret
    exact ⟨rfl, HD.out.1, HD.out.2⟩

set_option maxHeartbeats 400000 in
theorem read_int {lo C : Nat} {l : List UInt8} {k : Nat} {e : Int} {w : World} (n : Nat) (e' : Int) (v : Value) (h : Cu lo 165 w C l k e)
    (hsub : Calls Tryz.prog 191 #[.pointer (some ⟨C, 0, none⟩)] w fun x w' => (∃ y, x = .returned y ∧ (e' = 0 → y = v)) ∧ Did lo w w' C l k n e') :
    Calls Tryz.prog 190 #[.pointer (some ⟨C, 0, none⟩), .func (.func 191) #[] #[]] w fun x w' => x = .returned (if e' = 0 then v else .int .i64 0) ∧ Cu lo 165 w' C l (if e' = 0 then k + n else k) e' ∧ w.grownBy w' (some C) := by
  have hpl := h.place
  obtain ⟨A, c, hC, _⟩ := h
  have c1 : w.cell? ⟨C, 1, none⟩ = some (.int .i64 (k : Int)) := hC.cell 1
  have HS := Lib.hid hsub
  have HP := Lib.hid hpl.1
  clear hC hsub hpl
  by_cases he : e' = 0
  · rw [if_pos he, if_pos he]
    have hq : (e' != 0) = false := by rw [he]; rfl
    have HE := Lib.hid he
    clear he
    go_enter Tryz.func190, Tryz.ntmps190
    go_wp2_with (go_at_call 191; refine (HS.out).mono ?_; rintro x w1 ⟨⟨y, rfl, hy⟩, k', hcu, hk, hg⟩; have c2 := hcu.cells.1; have HD := Lib.hid (And.intro (hy HE.out) (And.intro (hk HE.out) (And.intro hcu hg))); clear hy hk hcu hg c1 HS)
    go_ret
    obtain ⟨h1, h2, h3, h4⟩ := HD.out
    exact ⟨by rw [← h1]; rfl, by rw [← h2]; exact h3, h4⟩
  · rw [if_neg he, if_neg he]
    have hq : (e' != 0) = true := by rw [bne_iff_ne]; exact he
    clear he
    go_enter Tryz.func190, Tryz.ntmps190
    go_wp2_with (go_at_call 191; refine (HS.out).mono ?_; rintro x w1 ⟨⟨y, rfl, hy⟩, k', hcu, hk, hg⟩; have c2 := hcu.cells.1; have f1 := hcu.cells.2.1; have d1 := hcu.cells.2.2; have HD := Lib.hid (And.intro (hcu.back HP.out) (only_set hg 1 (.int .i64 (k : Int)))); clear hy hk hcu hg c1 HS)
    go_ret
    exact ⟨rfl, HD.out.1, HD.out.2⟩

set_option maxHeartbeats 400000 in
theorem read_many {lo C : Nat} {l : List UInt8} {k : Nat} {e : Int} {w : World} (M : Nat) (n : Nat) (e' : Int) (v : Value) (h : Cu lo 165 w C l k e)
    (hsub : Calls Tryz.prog 216 #[.pointer (some ⟨C, 0, none⟩), .pointer (some ⟨M, 0, none⟩)] w fun x w' => (∃ y, x = .returned y ∧ (e' = 0 → y = v)) ∧ Did lo w w' C l k n e') :
    Calls Tryz.prog 190 #[.pointer (some ⟨C, 0, none⟩), .func (.func 216) #[] #[.pointer (some ⟨M, 0, none⟩)]] w fun x w' => x = .returned (if e' = 0 then v else .int .i64 0) ∧ Cu lo 165 w' C l (if e' = 0 then k + n else k) e' ∧ w.grownBy w' (some C) := by
  have hpl := h.place
  obtain ⟨A, c, hC, _⟩ := h
  have c1 : w.cell? ⟨C, 1, none⟩ = some (.int .i64 (k : Int)) := hC.cell 1
  have HS := Lib.hid hsub
  have HP := Lib.hid hpl.1
  clear hC hsub hpl
  by_cases he : e' = 0
  · rw [if_pos he, if_pos he]
    have hq : (e' != 0) = false := by rw [he]; rfl
    have HE := Lib.hid he
    clear he
    go_enter Tryz.func190, Tryz.ntmps190
    go_wp2_with (go_at_call 216; refine (HS.out).mono ?_; rintro x w1 ⟨⟨y, rfl, hy⟩, k', hcu, hk, hg⟩; have c2 := hcu.cells.1; have HD := Lib.hid (And.intro (hy HE.out) (And.intro (hk HE.out) (And.intro hcu hg))); clear hy hk hcu hg c1 HS)
    go_ret
    obtain ⟨h1, h2, h3, h4⟩ := HD.out
    exact ⟨by rw [← h1]; rfl, by rw [← h2]; exact h3, h4⟩
  · rw [if_neg he, if_neg he]
    have hq : (e' != 0) = true := by rw [bne_iff_ne]; exact he
    clear he
    go_enter Tryz.func190, Tryz.ntmps190
    go_wp2_with (go_at_call 216; refine (HS.out).mono ?_; rintro x w1 ⟨⟨y, rfl, hy⟩, k', hcu, hk, hg⟩; have c2 := hcu.cells.1; have f1 := hcu.cells.2.1; have d1 := hcu.cells.2.2; have HD := Lib.hid (And.intro (hcu.back HP.out) (only_set hg 1 (.int .i64 (k : Int)))); clear hy hk hcu hg c1 HS)
    go_ret
    exact ⟨rfl, HD.out.1, HD.out.2⟩

set_option maxHeartbeats 400000 in
theorem read_text {lo C : Nat} {l : List UInt8} {k : Nat} {e : Int} {w : World} (n : Nat) (e' : Int) (v : Value) (h : Cu lo 165 w C l k e)
    (hsub : Calls Tryz.prog 219 #[.pointer (some ⟨C, 0, none⟩)] w fun x w' => (∃ y, x = .returned y ∧ (e' = 0 → y = v)) ∧ Did lo w w' C l k n e') :
    Calls Tryz.prog 218 #[.pointer (some ⟨C, 0, none⟩), .func (.func 219) #[] #[]] w fun x w' => x = .returned (if e' = 0 then v else .string ⟨#[]⟩) ∧ Cu lo 165 w' C l (if e' = 0 then k + n else k) e' ∧ w.grownBy w' (some C) := by
  have hpl := h.place
  obtain ⟨A, c, hC, _⟩ := h
  have c1 : w.cell? ⟨C, 1, none⟩ = some (.int .i64 (k : Int)) := hC.cell 1
  have HS := Lib.hid hsub
  have HP := Lib.hid hpl.1
  clear hC hsub hpl
  by_cases he : e' = 0
  · rw [if_pos he, if_pos he]
    have hq : (e' != 0) = false := by rw [he]; rfl
    have HE := Lib.hid he
    clear he
    go_enter Tryz.func218, Tryz.ntmps218
    go_wp2_with (go_at_call 219; refine (HS.out).mono ?_; rintro x w1 ⟨⟨y, rfl, hy⟩, k', hcu, hk, hg⟩; have c2 := hcu.cells.1; have HD := Lib.hid (And.intro (hy HE.out) (And.intro (hk HE.out) (And.intro hcu hg))); clear hy hk hcu hg c1 HS)
    go_ret
    obtain ⟨h1, h2, h3, h4⟩ := HD.out
    exact ⟨by rw [← h1]; rfl, by rw [← h2]; exact h3, h4⟩
  · rw [if_neg he, if_neg he]
    have hq : (e' != 0) = true := by rw [bne_iff_ne]; exact he
    clear he
    go_enter Tryz.func218, Tryz.ntmps218
    go_wp2_with (go_at_call 219; refine (HS.out).mono ?_; rintro x w1 ⟨⟨y, rfl, hy⟩, k', hcu, hk, hg⟩; have c2 := hcu.cells.1; have f1 := hcu.cells.2.1; have d1 := hcu.cells.2.2; have HD := Lib.hid (And.intro (hcu.back HP.out) (only_set hg 1 (.int .i64 (k : Int)))); clear hy hk hcu hg c1 HS)
    go_ret
    exact ⟨rfl, HD.out.1, HD.out.2⟩

end Go.Proofs.YtkicjjcangkneaaGreatDoor
