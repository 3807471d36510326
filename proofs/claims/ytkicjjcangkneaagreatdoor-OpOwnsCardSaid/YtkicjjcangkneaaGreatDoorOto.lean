/-
  What kinds have, by the program's table, and which are commits. The table reads as the program's text lays it.
-/
import Derived.Test.YtkicjjcangkneaaGreatDoorOtk
namespace Go.Proofs.YtkicjjcangkneaaGreatDoor
open Go.RowKit
attribute [local go_sem ↓] Go.wp_at_zero Go.wp_at_succ
set_option maxRecDepth 100000
namespace Ot
def kd : List Nat := [0, 2064, 32793, 21, 16, 12, 480, 640, 512, 31744, 8704, 8705, 512, 33299]
/-- The table of kinds is as it was laid. -/
def Kds (w : World) : Prop := 0 < w.heap.size ∧ ∀ (i v : Nat), kd[i]? = some v → w.cell? ⟨0, i, none⟩ = some (.int .u16 (v : Int))
theorem Kds.below {w w' : World} (h : Kds w) (hb : Below w.heap.size w w') : Kds w' :=
  ⟨Nat.lt_of_lt_of_le h.1 hb.size, fun i v hi => (hb.cell (p := ⟨0, i, none⟩) h.1).trans (h.2 i v hi)⟩
def hadOf (k : Int) : Nat := if 1 ≤ k ∧ k ≤ 13 then kd[k.toNat]?.getD 0 else 0
theorem within_any (n a b : Int) (w : World) : Calls Tryz.prog 89 #[.int .i64 n, .int .i64 a, .int .i64 b] w fun e w' => e = .returned (.bool (decide (a ≤ n ∧ n ≤ b))) ∧ w = w' := by
  by_cases h1 : a ≤ n
  · have q1 : decide (a ≤ n) = true := decide_eq_true h1
    have HZ := Lib.hid (show decide (n ≤ b) = decide (a ≤ n ∧ n ≤ b) by refine decide_eq_decide.2 ?_; omega)
    clear h1
    go_enter Tryz.func89, Tryz.ntmps89
    go_wp2
    go_ret
    exact ⟨by rw [← HZ.out]; rfl, rfl⟩
  · have q1 : decide (a ≤ n) = false := decide_eq_false h1
    have HZ := Lib.hid (show false = decide (a ≤ n ∧ n ≤ b) by rw [eq_comm, decide_eq_false_iff_not]; omega)
    clear h1
    go_enter Tryz.func89, Tryz.ntmps89
    go_wp2
    go_ret
    exact ⟨by rw [← HZ.out]; rfl, rfl⟩
set_option maxHeartbeats 1000000 in
theorem had_any (k : Int) (w : World) (hw : Kds w) : Calls Tryz.prog 39 #[.int .i64 k] w fun e w' => e = .returned (.int .u16 (hadOf k : Nat)) ∧ w = w' := by
  by_cases h : 1 ≤ k ∧ k ≤ 13
  · obtain ⟨m, rfl⟩ := Int.eq_ofNat_of_zero_le (show 0 ≤ k by omega)
    have hm : m < kd.length := by show m < 14; omega
    have hc := hw.2 m kd[m] (List.getElem?_eq_getElem hm)
    have HZ := Lib.hid (show kd[m] = hadOf (m : Int) by unfold hadOf; rw [if_pos h, Int.toNat_natCast, List.getElem?_eq_getElem hm]; rfl)
    obtain ⟨v, hv⟩ : ∃ v, v = kd[m] := ⟨_, rfl⟩
    rw [← hv] at hc HZ
    have HW := Lib.hid (within_any (m : Int) 1 13 w)
    rw [decide_eq_true h] at HW
    have q0 : (0 : Int) ≤ (m : Int) := by omega
    have q1 : (m : Int) < 14 := by omega
    clear h hw hv hm
    go_enter Tryz.func39, Tryz.ntmps39
    go_wp2_with fail
    refine HW.out.mono ?_
    rintro e w1 ⟨rfl, rfl⟩
    go_wp2
    go_ret
    exact ⟨by rw [← HZ.out]; rfl, rfl⟩
  · have HZ := Lib.hid (show 0 = hadOf k by unfold hadOf; rw [if_neg h])
    have HW := Lib.hid (within_any k 1 13 w)
    rw [decide_eq_false h] at HW
    clear h hw
    go_enter Tryz.func39, Tryz.ntmps39
    go_wp2_with fail
    refine HW.out.mono ?_
    rintro e w1 ⟨rfl, rfl⟩
    go_wp2
    go_ret
    exact ⟨by rw [← HZ.out]; rfl, rfl⟩
def isCommit (k : Int) : Bool := decide (k = 1 ∨ k = 2 ∨ k = 3 ∨ k = 4 ∨ k = 13)
theorem commit_at (k : Int) (v : Nat) (b : Bool) (w : World) (hw : Kds w) (hv : hadOf k = v) (hb : isCommit k = b) (hand : bits .and .u16 (v : Int) 16 = if b then 16 else 0) :
    Calls Tryz.prog 14 #[.int .i64 k] w fun e w' => e = .returned (.bool (isCommit k)) ∧ w = w' := by
  have HW := Lib.hid (had_any k w hw)
  rw [hv] at HW
  rw [hb]
  clear hv hb hw
  cases b with
  | true =>
    have hand : bits .and .u16 (v : Int) 16 = 16 := hand
    go_enter Tryz.func14, Tryz.ntmps14
    go_wp2_with fail
    refine HW.out.mono ?_
    rintro e w1 ⟨rfl, rfl⟩
    go_wp2
    go_ret
    exact ⟨rfl, rfl⟩
  | false =>
    have hand : bits .and .u16 (v : Int) 16 = 0 := hand
    go_enter Tryz.func14, Tryz.ntmps14
    go_wp2_with fail
    refine HW.out.mono ?_
    rintro e w1 ⟨rfl, rfl⟩
    go_wp2
    go_ret
    exact ⟨rfl, rfl⟩
theorem commit_any (k : Int) (w : World) (hw : Kds w) : Calls Tryz.prog 14 #[.int .i64 k] w fun e w' => e = .returned (.bool (isCommit k)) ∧ w = w' := by
  by_cases h : 1 ≤ k ∧ k ≤ 13
  · rcases show k = 1 ∨ k = 2 ∨ k = 3 ∨ k = 4 ∨ k = 5 ∨ k = 6 ∨ k = 7 ∨ k = 8 ∨ k = 9 ∨ k = 10 ∨ k = 11 ∨ k = 12 ∨ k = 13 by omega with rfl | rfl | rfl | rfl | rfl | rfl | rfl | rfl | rfl | rfl | rfl | rfl | rfl <;>
      exact commit_at _ _ _ w hw rfl rfl (by decide)
  · refine commit_at k 0 false w hw (by unfold hadOf; rw [if_neg h]) (by unfold isCommit; rw [decide_eq_false_iff_not]; omega) (by decide)
set_option maxHeartbeats 1000000 in
theorem rcommit_any (k : Int) (w : World) : Calls Tryz.prog 15 #[.int .i64 k] w fun e w' => e = .returned (.bool (isCommit k)) ∧ w = w' := by
  by_cases h : k = 1 ∨ k = 2 ∨ k = 3 ∨ k = 4 ∨ k = 13
  · rcases h with rfl | rfl | rfl | rfl | rfl
    all_goals
      go_enter Tryz.func15, Tryz.ntmps15
      go_wp2
      go_ret
      exact ⟨rfl, rfl⟩
  · have q1 : (k == 1) = false := by rw [beq_eq_false_iff_ne]; omega
    have q2 : (k == 2) = false := by rw [beq_eq_false_iff_ne]; omega
    have q3 : (k == 3) = false := by rw [beq_eq_false_iff_ne]; omega
    have q4 : (k == 4) = false := by rw [beq_eq_false_iff_ne]; omega
    have q5 : (k == 13) = false := by rw [beq_eq_false_iff_ne]; omega
    have HZ := Lib.hid (show isCommit k = false by unfold isCommit; rw [decide_eq_false_iff_not]; exact h)
    clear h
    go_enter Tryz.func15, Tryz.ntmps15
    go_wp2
    go_ret
    exact ⟨by rw [HZ.out]; rfl, rfl⟩
end Ot
end Go.Proofs.YtkicjjcangkneaaGreatDoor
