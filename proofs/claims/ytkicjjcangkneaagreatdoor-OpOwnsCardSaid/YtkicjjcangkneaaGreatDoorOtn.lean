/-
  Names by their row: package op's Less, and the chapter's. No condition.
-/
import Derived.Test.YtkicjjcangkneaaGreatDoorOtl
namespace Go.Proofs.YtkicjjcangkneaaGreatDoor
open Go.RowKit
attribute [local go_sem ↓] Go.wp_at_zero Go.wp_at_succ
set_option maxRecDepth 100000
namespace Ot
def sgn (x y : Int) : Int := if x < y then -1 else if y < x then 1 else 0
def nmLess (x y : Pk.Nm) : Bool := decide (x.a < y.a ∨ (x.a = y.a ∧ (x.b < y.b ∨ (x.b = y.b ∧ x.c < y.c))))
theorem nan_int (x : Int) (w : World) : Calls Tryz.prog 112 #[.int .i64 x] w fun e w' => e = .returned (.bool false) ∧ w = w' := by
  go_enter Tryz.func112, Tryz.ntmps112
  go_wp2
  go_ret
  exact ⟨by simp, rfl⟩
theorem nan_u64 (x : Nat) (w : World) : Calls Tryz.prog 180 #[.int .u64 (x : Int)] w fun e w' => e = .returned (.bool false) ∧ w = w' := by
  go_enter Tryz.func180, Tryz.ntmps180
  go_wp2
  go_ret
  exact ⟨by simp, rfl⟩
set_option maxHeartbeats 1000000 in
theorem cmp_int (x y : Int) (w : World) : Calls Tryz.prog 110 #[.int .i64 x, .int .i64 y] w fun e w' => e = .returned (.int .i64 (sgn x y)) ∧ w = w' := by
  have H1 := Lib.hid (nan_int x w)
  have H2 := Lib.hid (nan_int y w)
  obtain ⟨z, hz⟩ : ∃ z, z = sgn x y := ⟨_, rfl⟩
  rw [← hz]
  by_cases h1 : (x : Int) < (y : Int)
  · have HZ := Lib.hid (show z = -1 by rw [hz, sgn, if_pos h1])
    clear hz
    go_enter Tryz.func110, Tryz.ntmps110
    go_wp2_with fail
    refine H1.out.mono ?_
    rintro e w1 ⟨rfl, rfl⟩
    go_wp2_with fail
    refine H2.out.mono ?_
    rintro e w1 ⟨rfl, rfl⟩
    go_wp2
    go_ret
    exact ⟨by rw [HZ.out]; rfl, rfl⟩
  · by_cases h2 : (y : Int) < (x : Int)
    · have HZ := Lib.hid (show z = 1 by rw [hz, sgn, if_neg h1, if_pos h2])
      clear hz
      go_enter Tryz.func110, Tryz.ntmps110
      go_wp2_with fail
      refine H1.out.mono ?_
      rintro e w1 ⟨rfl, rfl⟩
      go_wp2_with fail
      refine H2.out.mono ?_
      rintro e w1 ⟨rfl, rfl⟩
      go_wp2
      go_ret
      exact ⟨by rw [HZ.out]; rfl, rfl⟩
    · have HZ := Lib.hid (show z = 0 by rw [hz, sgn, if_neg h1, if_neg h2])
      clear hz
      go_enter Tryz.func110, Tryz.ntmps110
      go_wp2_with fail
      refine H1.out.mono ?_
      rintro e w1 ⟨rfl, rfl⟩
      go_wp2_with fail
      refine H2.out.mono ?_
      rintro e w1 ⟨rfl, rfl⟩
      go_wp2
      go_ret
      exact ⟨by rw [HZ.out]; rfl, rfl⟩
set_option maxHeartbeats 1000000 in
theorem cmp_u64 (x y : Nat) (w : World) : Calls Tryz.prog 111 #[.int .u64 (x : Int), .int .u64 (y : Int)] w fun e w' => e = .returned (.int .i64 (sgn x y)) ∧ w = w' := by
  have H1 := Lib.hid (nan_u64 x w)
  have H2 := Lib.hid (nan_u64 y w)
  obtain ⟨z, hz⟩ : ∃ z, z = sgn x y := ⟨_, rfl⟩
  rw [← hz]
  by_cases h1 : (x : Int) < (y : Int)
  · have HZ := Lib.hid (show z = -1 by rw [hz, sgn, if_pos h1])
    clear hz
    go_enter Tryz.func111, Tryz.ntmps111
    go_wp2_with fail
    refine H1.out.mono ?_
    rintro e w1 ⟨rfl, rfl⟩
    go_wp2_with fail
    refine H2.out.mono ?_
    rintro e w1 ⟨rfl, rfl⟩
    go_wp2
    go_ret
    exact ⟨by rw [HZ.out]; rfl, rfl⟩
  · by_cases h2 : (y : Int) < (x : Int)
    · have HZ := Lib.hid (show z = 1 by rw [hz, sgn, if_neg h1, if_pos h2])
      clear hz
      go_enter Tryz.func111, Tryz.ntmps111
      go_wp2_with fail
      refine H1.out.mono ?_
      rintro e w1 ⟨rfl, rfl⟩
      go_wp2_with fail
      refine H2.out.mono ?_
      rintro e w1 ⟨rfl, rfl⟩
      go_wp2
      go_ret
      exact ⟨by rw [HZ.out]; rfl, rfl⟩
    · have HZ := Lib.hid (show z = 0 by rw [hz, sgn, if_neg h1, if_neg h2])
      clear hz
      go_enter Tryz.func111, Tryz.ntmps111
      go_wp2_with fail
      refine H1.out.mono ?_
      rintro e w1 ⟨rfl, rfl⟩
      go_wp2_with fail
      refine H2.out.mono ?_
      rintro e w1 ⟨rfl, rfl⟩
      go_wp2
      go_ret
      exact ⟨by rw [HZ.out]; rfl, rfl⟩
def or3 (a b c : Int) : Int := if a ≠ 0 then a else if b ≠ 0 then b else c
set_option maxHeartbeats 1000000 in
theorem or_any (a b c : Int) (g : Nat) (w : World) (h0 : w.cell? ⟨g, 0, none⟩ = some (.int .i64 a)) (h1 : w.cell? ⟨g, 1, none⟩ = some (.int .i64 b)) (h2 : w.cell? ⟨g, 2, none⟩ = some (.int .i64 c)) :
    Calls Tryz.prog 109 #[.slice (some ⟨g, 0, none⟩) 3 3] w fun e w' => e = .returned (.int .i64 (or3 a b c)) ∧ w = w' := by
  obtain ⟨z, hz⟩ : ∃ z, z = or3 a b c := ⟨_, rfl⟩
  rw [← hz]
  have HZ := Lib.hid hz
  clear hz
  go_enter Tryz.func109, Tryz.ntmps109
  go_wp2
  go_loopw [5, 8] (fun _ i wr => ∃ k : Nat, k ≤ 3 ∧ i = .int .i64 (k : Int) ∧ (0 < k → a = 0) ∧ (1 < k → b = 0) ∧ (2 < k → c = 0) ∧ wr = w) (fun _ i _ => 3 - (intOf i).toNat)
  case atStart => exact ⟨0, by omega, rfl, by omega, by omega, by omega, rfl⟩
  case round =>
    obtain ⟨k, hk, rfl, ha, hb, hc, rfl⟩ := hrel
    rcases show k = 0 ∨ k = 1 ∨ k = 2 ∨ k = 3 by omega with rfl | rfl | rfl | rfl
    · by_cases q : a = 0
      · subst q
        go_wp2
        go_roundw
        case rel => exact ⟨1, by omega, rfl, (by simp), by omega, by omega, by first | rfl | trivial⟩
        case measure => simp [intOf]
      · have hq : (a != 0) = true := by rw [bne_iff_ne]; exact q
        have HQ := Lib.hid q
        clear q
        go_wp2
        go_ret
        exact ⟨by rw [HZ.out, or3, if_pos HQ.out]; rfl, rfl⟩
    · have e0 := ha (by omega)
      subst e0
      by_cases q : b = 0
      · subst q
        go_wp2
        go_roundw
        case rel => exact ⟨2, by omega, rfl, (by simp), (by simp), by omega, by first | rfl | trivial⟩
        case measure => simp [intOf]
      · have hq : (b != 0) = true := by rw [bne_iff_ne]; exact q
        have HQ := Lib.hid q
        clear q
        go_wp2
        go_ret
        exact ⟨by rw [HZ.out, or3, if_neg (by simp), if_pos HQ.out]; rfl, rfl⟩
    · have e0 := ha (by omega)
      have e1 := hb (by omega)
      subst e0
      subst e1
      by_cases q : c = 0
      · subst q
        go_wp2
        go_roundw
        case rel => exact ⟨3, by omega, rfl, (by simp), (by simp), (by simp), by first | rfl | trivial⟩
        case measure => simp [intOf]
      · have hq : (c != 0) = true := by rw [bne_iff_ne]; exact q
        have HQ := Lib.hid q
        clear q
        go_wp2
        go_ret
        exact ⟨by rw [HZ.out, or3, if_neg (by simp), if_neg (by simp)]; rfl, rfl⟩
    · have e0 := ha (by omega)
      have e1 := hb (by omega)
      have e2 := hc (by omega)
      subst e0
      subst e1
      subst e2
      go_wp2
      go_ret
      exact ⟨by rw [HZ.out]; rfl, rfl⟩
theorem or_less (x y : Pk.Nm) : decide (or3 (sgn x.a y.a) (sgn x.b y.b) (sgn x.c y.c) < 0) = nmLess x y := by
  unfold nmLess or3 sgn
  refine decide_eq_decide.2 ?_
  rcases Int.lt_trichotomy x.a y.a with h | h | h <;> rcases Int.lt_trichotomy x.b y.b with h' | h' | h' <;> rcases Nat.lt_trichotomy x.c y.c with h'' | h'' | h'' <;> (repeat' split) <;> omega

set_option maxHeartbeats 4000000 in
theorem less_any (x y : Pk.Nm) (w : World) : Calls Tryz.prog 45 #[.agg #[.int .i64 x.a, .int .i64 x.b, .int .u64 (x.c : Int)], .agg #[.int .i64 y.a, .int .i64 y.b, .int .u64 (y.c : Int)]] w fun e w' => e = .returned (.bool (nmLess x y)) ∧ Below w.heap.size w w' := by
  have hs1 : (w.alloc (.cells #[.int .i64 x.a, .int .i64 x.b, .int .u64 (x.c : Int)] 27)).heap.size = w.heap.size + 1 := by simp
  have hP1 := blk_alloc (blk_new w 27 #[.int .i64 x.a, .int .i64 x.b, .int .u64 (x.c : Int)]) (.cells #[.int .i64 y.a, .int .i64 y.b, .int .u64 (y.c : Int)] 27)
  have hP2 := blk_new (w.alloc (.cells #[.int .i64 x.a, .int .i64 x.b, .int .u64 (x.c : Int)] 27)) 27 #[.int .i64 y.a, .int .i64 y.b, .int .u64 (y.c : Int)]
  have hb := ((Below.refl w.heap.size w).alloc (Nat.le_refl _) (.cells #[.int .i64 x.a, .int .i64 x.b, .int .u64 (x.c : Int)] 27)).alloc (by simp) (.cells #[.int .i64 y.a, .int .i64 y.b, .int .u64 (y.c : Int)] 27)
  rw [hs1] at hP2
  obtain ⟨w0, hw0⟩ : ∃ w0, w0 = (w.alloc (.cells #[.int .i64 x.a, .int .i64 x.b, .int .u64 (x.c : Int)] 27)).alloc (.cells #[.int .i64 y.a, .int .i64 y.b, .int .u64 (y.c : Int)] 27) := ⟨_, rfl⟩
  rw [← hw0] at hP1 hP2 hb
  have HW0 := Lib.hid hw0
  have HB := Lib.hid hb
  have s0 : w0.drew.cell? ⟨w.heap.size, 0, none⟩ = some (.int .i64 x.a) := hP1.cell 0
  have s1 : w0.drew.cell? ⟨w.heap.size, 1, none⟩ = some (.int .i64 x.b) := hP1.cell 1
  have s2 : w0.drew.cell? ⟨w.heap.size, 2, none⟩ = some (.int .u64 (x.c : Int)) := hP1.cell 2
  have s3 : w0.drew.cell? ⟨w.heap.size + 1, 0, none⟩ = some (.int .i64 y.a) := hP2.cell 0
  have s4 : w0.drew.cell? ⟨w.heap.size + 1, 1, none⟩ = some (.int .i64 y.b) := hP2.cell 1
  have s5 : w0.drew.cell? ⟨w.heap.size + 1, 2, none⟩ = some (.int .u64 (y.c : Int)) := hP2.cell 2
  obtain ⟨z, hz⟩ : ∃ z, z = nmLess x y := ⟨_, rfl⟩
  rw [← hz]
  have HZ := Lib.hid hz
  clear hw0 hb hP1 hP2 hs1 hz
  go_enter Tryz.func45, Tryz.ntmps45
  go_wp2
  rw [← HW0.out]
  refine wp_region_held_drew (S := (fun w' : World => w'.cell? ⟨w.heap.size, 0, none⟩ = some (.int .i64 x.a) ∧ w'.cell? ⟨w.heap.size, 1, none⟩ = some (.int .i64 x.b) ∧ w'.cell? ⟨w.heap.size, 2, none⟩ = some (.int .u64 (x.c : Int)) ∧ w'.cell? ⟨w.heap.size + 1, 0, none⟩ = some (.int .i64 y.a) ∧ w'.cell? ⟨w.heap.size + 1, 1, none⟩ = some (.int .i64 y.b) ∧ w'.cell? ⟨w.heap.size + 1, 2, none⟩ = some (.int .u64 (y.c : Int)))) (by kernel_rfl) ⟨s0, s1, s2, s3, s4, s5⟩ (fun hHeld => ?_)
  try simp only [Act.put, List.getElem_toArray, List.getElem_cons_succ, List.getElem_cons_zero, List.setIfInBounds_toArray, List.set_cons_zero, List.set_cons_succ]
  refine wpAnyH_take (i := 0) (v := ?_) rfl (by kernel_rfl) (by kernel_rfl) (by kernel_rfl) (fun _ _ _ h => h) (Or.inl ⟨by rfl, ?_⟩) (by assumption) ?_
  rotate_left
  · (intro w hSw; (try dsimp only at hSw); obtain ⟨t0, t1, t2, t3, t4, t5⟩ := hSw; go_simp; try (with_reducible rfl))
  try simp only [Act.put, List.getElem_toArray, List.getElem_cons_zero, List.setIfInBounds_toArray, List.set_cons_zero, List.set_cons_succ]
  refine wpAnyH_take (i := 1) (v := ?_) rfl (by kernel_rfl) (by kernel_rfl) (by kernel_rfl) (fun _ _ _ h => h) (Or.inl ⟨by rfl, ?_⟩) (by assumption) ?_
  rotate_left
  · (intro w hSw; (try dsimp only at hSw); obtain ⟨t0, t1, t2, t3, t4, t5⟩ := hSw; go_simp; try (with_reducible rfl))
  try simp only [Act.put, List.getElem_toArray, List.getElem_cons_succ, List.getElem_cons_zero, List.setIfInBounds_toArray, List.set_cons_zero, List.set_cons_succ]
  refine wpAnyH_take (i := 2) (v := ?_) rfl (by kernel_rfl) (by kernel_rfl) (by kernel_rfl) (fun _ _ _ h => h) (Or.inl ⟨by rfl, ?_⟩) (by assumption) ?_
  rotate_left
  · (intro w hSw; (try dsimp only at hSw); obtain ⟨t0, t1, t2, t3, t4, t5⟩ := hSw; go_simp; try (with_reducible rfl))
  try simp only [Act.put, List.getElem_toArray, List.getElem_cons_succ, List.getElem_cons_zero, List.setIfInBounds_toArray, List.set_cons_zero, List.set_cons_succ]
  refine wpAnyH_take (i := 3) (v := ?_) rfl (by kernel_rfl) (by kernel_rfl) (by kernel_rfl) (fun _ _ _ h => h) (Or.inl ⟨by rfl, ?_⟩) (by assumption) ?_
  rotate_left
  · (intro w hSw; (try dsimp only at hSw); obtain ⟨t0, t1, t2, t3, t4, t5⟩ := hSw; go_simp; try (with_reducible rfl))
  try simp only [Act.put, List.getElem_toArray, List.getElem_cons_succ, List.getElem_cons_zero, List.setIfInBounds_toArray, List.set_cons_zero, List.set_cons_succ]
  refine wpAnyH_take (i := 5) (v := ?_) rfl (by kernel_rfl) (by kernel_rfl) (by kernel_rfl) (fun _ _ _ h => h) (Or.inl ⟨by rfl, ?_⟩) (by assumption) ?_
  rotate_left
  · (intro w hSw; (try dsimp only at hSw); obtain ⟨t0, t1, t2, t3, t4, t5⟩ := hSw; go_simp; try (with_reducible rfl))
  try simp only [Act.put, List.getElem_toArray, List.getElem_cons_succ, List.getElem_cons_zero, List.setIfInBounds_toArray, List.set_cons_zero, List.set_cons_succ]
  refine wpAnyH_take (i := 6) (v := ?_) rfl (by kernel_rfl) (by kernel_rfl) (by kernel_rfl) (fun _ _ _ h => h) (Or.inl ⟨by rfl, ?_⟩) (by assumption) ?_
  rotate_left
  · (intro w hSw; (try dsimp only at hSw); obtain ⟨t0, t1, t2, t3, t4, t5⟩ := hSw; go_simp; try (with_reducible rfl))
  try simp only [Act.put, List.getElem_toArray, List.getElem_cons_succ, List.getElem_cons_zero, List.setIfInBounds_toArray, List.set_cons_zero, List.set_cons_succ]
  refine wpAnyH_take (i := 7) (v := ?_) rfl (by kernel_rfl) (by kernel_rfl) (by kernel_rfl) (fun _ _ _ h => h) (Or.inl ⟨by rfl, ?_⟩) (by assumption) ?_
  rotate_left
  · (intro w hSw; (try dsimp only at hSw); obtain ⟨t0, t1, t2, t3, t4, t5⟩ := hSw; go_simp; try (with_reducible rfl))
  try simp only [Act.put, List.getElem_toArray, List.getElem_cons_succ, List.getElem_cons_zero, List.setIfInBounds_toArray, List.set_cons_zero, List.set_cons_succ]
  refine wpAnyH_take (i := 8) (v := ?_) rfl (by kernel_rfl) (by kernel_rfl) (by kernel_rfl) (fun _ _ _ h => h) (Or.inl ⟨by rfl, ?_⟩) (by assumption) ?_
  rotate_left
  · (intro w hSw; (try dsimp only at hSw); obtain ⟨t0, t1, t2, t3, t4, t5⟩ := hSw; go_simp; try (with_reducible rfl))
  try simp only [Act.put, List.getElem_toArray, List.getElem_cons_succ, List.getElem_cons_zero, List.setIfInBounds_toArray, List.set_cons_zero, List.set_cons_succ]
  refine wpAnyH_take (i := 10) (v := ?_) rfl (by kernel_rfl) (by kernel_rfl) (by kernel_rfl) (fun _ _ _ h => h) (Or.inl ⟨by rfl, ?_⟩) (by assumption) ?_
  rotate_left
  · (intro w hSw; (try dsimp only at hSw); obtain ⟨t0, t1, t2, t3, t4, t5⟩ := hSw; go_simp; try (with_reducible rfl))
  try simp only [Act.put, List.getElem_toArray, List.getElem_cons_succ, List.getElem_cons_zero, List.setIfInBounds_toArray, List.set_cons_zero, List.set_cons_succ]
  refine wpAnyH_take (i := 11) (v := ?_) rfl (by kernel_rfl) (by kernel_rfl) (by kernel_rfl) (fun _ _ _ h => h) (Or.inl ⟨by rfl, ?_⟩) (by assumption) ?_
  rotate_left
  · (intro w hSw; (try dsimp only at hSw); obtain ⟨t0, t1, t2, t3, t4, t5⟩ := hSw; go_simp; try (with_reducible rfl))
  try simp only [Act.put, List.getElem_toArray, List.getElem_cons_succ, List.getElem_cons_zero, List.setIfInBounds_toArray, List.set_cons_zero, List.set_cons_succ]
  refine wpAnyH_take (i := 12) (v := ?_) rfl (by kernel_rfl) (by kernel_rfl) (by kernel_rfl) (fun _ _ _ h => h) (Or.inl ⟨by rfl, ?_⟩) (by assumption) ?_
  rotate_left
  · (intro w hSw; (try dsimp only at hSw); obtain ⟨t0, t1, t2, t3, t4, t5⟩ := hSw; go_simp; try (with_reducible rfl))
  try simp only [Act.put, List.getElem_toArray, List.getElem_cons_succ, List.getElem_cons_zero, List.setIfInBounds_toArray, List.set_cons_zero, List.set_cons_succ]
  refine wpAnyH_take (i := 13) (v := ?_) rfl (by kernel_rfl) (by kernel_rfl) (by kernel_rfl) (fun _ _ _ h => h) (Or.inl ⟨by rfl, ?_⟩) (by assumption) ?_
  rotate_left
  · (intro w hSw; (try dsimp only at hSw); obtain ⟨t0, t1, t2, t3, t4, t5⟩ := hSw; go_simp; try (with_reducible rfl))
  try simp only [Act.put, List.getElem_toArray, List.getElem_cons_succ, List.getElem_cons_zero, List.setIfInBounds_toArray, List.set_cons_zero, List.set_cons_succ]
  refine wpAnyH_ready (rs := [4]) (by kernel_rfl) (by simp) ?_
  refine AllReadyH.cons rfl (fun K hK => ?_) AllReadyH.nil
  go_simp
  refine (cmp_int x.a y.a _).mono ?_
  rintro e w1 ⟨rfl, rfl⟩
  try go_simp
  refine hK.out _ _ ⟨s0, s1, s2, s3, s4, s5⟩ (fun hHeld1 => ?_)
  clear hK K
  try simp only [Act.put, List.getElem_toArray, List.getElem_cons_succ, List.getElem_cons_zero, List.setIfInBounds_toArray, List.set_cons_zero, List.set_cons_succ]
  refine wpAnyH_ready (rs := [9]) (by kernel_rfl) (by simp) ?_
  refine AllReadyH.cons rfl (fun K hK => ?_) AllReadyH.nil
  go_simp
  refine (cmp_int x.b y.b _).mono ?_
  rintro e w1 ⟨rfl, rfl⟩
  try go_simp
  refine hK.out _ _ ⟨s0, s1, s2, s3, s4, s5⟩ (fun hHeld2 => ?_)
  clear hK K
  try simp only [Act.put, List.getElem_toArray, List.getElem_cons_succ, List.getElem_cons_zero, List.setIfInBounds_toArray, List.set_cons_zero, List.set_cons_succ]
  refine wpAnyH_ready (rs := [14]) (by kernel_rfl) (by simp) ?_
  refine AllReadyH.cons rfl (fun K hK => ?_) AllReadyH.nil
  go_simp
  refine (cmp_u64 x.c y.c _).mono ?_
  rintro e w1 ⟨rfl, rfl⟩
  try go_simp
  refine hK.out _ _ ⟨s0, s1, s2, s3, s4, s5⟩ (fun hHeld3 => ?_)
  clear hK K
  try simp only [Act.put, List.getElem_toArray, List.getElem_cons_succ, List.getElem_cons_zero, List.setIfInBounds_toArray, List.set_cons_zero, List.set_cons_succ]
  refine wpAnyH_ready (rs := [15]) (by kernel_rfl) (by simp) ?_
  refine AllReadyH.cons rfl (fun K hK => ?_) AllReadyH.nil
  go_simp
  have u0 := Lib.cell?_alloc_some (.cells #[.int .i64 (sgn x.a y.a), .int .i64 (sgn x.b y.b), .int .i64 (sgn x.c y.c)] 3) s0
  have u1 := Lib.cell?_alloc_some (.cells #[.int .i64 (sgn x.a y.a), .int .i64 (sgn x.b y.b), .int .i64 (sgn x.c y.c)] 3) s1
  have u2 := Lib.cell?_alloc_some (.cells #[.int .i64 (sgn x.a y.a), .int .i64 (sgn x.b y.b), .int .i64 (sgn x.c y.c)] 3) s2
  have u3 := Lib.cell?_alloc_some (.cells #[.int .i64 (sgn x.a y.a), .int .i64 (sgn x.b y.b), .int .i64 (sgn x.c y.c)] 3) s3
  have u4 := Lib.cell?_alloc_some (.cells #[.int .i64 (sgn x.a y.a), .int .i64 (sgn x.b y.b), .int .i64 (sgn x.c y.c)] 3) s4
  have u5 := Lib.cell?_alloc_some (.cells #[.int .i64 (sgn x.a y.a), .int .i64 (sgn x.b y.b), .int .i64 (sgn x.c y.c)] 3) s5
  have hN := blk_new w0.drew 3 #[.int .i64 (sgn x.a y.a), .int .i64 (sgn x.b y.b), .int .i64 (sgn x.c y.c)]
  refine hK.out _ _ ⟨u0, u1, u2, u3, u4, u5⟩ (fun hHeld9 => ?_)
  clear hK K
  try simp only [Act.put, List.getElem_toArray, List.getElem_cons_succ, List.getElem_cons_zero, List.setIfInBounds_toArray, List.set_cons_zero, List.set_cons_succ]
  refine wpAnyH_ready (rs := [16]) (by kernel_rfl) (by simp) ?_
  refine AllReadyH.cons rfl (fun K hK => ?_) AllReadyH.nil
  go_simp
  refine (or_any (sgn x.a y.a) (sgn x.b y.b) (sgn x.c y.c) w0.drew.heap.size _ (hN.cell 0) (hN.cell 1) (hN.cell 2)).mono ?_
  rintro e w1 ⟨rfl, rfl⟩
  try go_simp
  refine hK.out _ _ ⟨u0, u1, u2, u3, u4, u5⟩ (fun hHeld5 => ?_)
  clear hK K
  try simp only [Act.put, List.getElem_toArray, List.getElem_cons_succ, List.getElem_cons_zero, List.setIfInBounds_toArray, List.set_cons_zero, List.set_cons_succ]
  refine wpAnyH_take (i := 17) (v := ?_) rfl (by kernel_rfl) (by kernel_rfl) (by kernel_rfl) (fun _ _ _ h => h) (Or.inl ⟨by rfl, ?_⟩) (by assumption) ?_
  rotate_left
  · (intro w hSw; (try dsimp only at hSw); obtain ⟨t0, t1, t2, t3, t4, t5⟩ := hSw; go_simp; try (with_reducible rfl))
  try simp only [Act.put, List.getElem_toArray, List.getElem_cons_succ, List.getElem_cons_zero, List.setIfInBounds_toArray, List.set_cons_zero, List.set_cons_succ]
  refine wpAnyH_take (i := 18) (v := ?_) rfl (by kernel_rfl) (by kernel_rfl) (by kernel_rfl) (fun _ _ _ h => h) (Or.inl ⟨by rfl, ?_⟩) (by assumption) ?_
  rotate_left
  · (intro w hSw; (try dsimp only at hSw); obtain ⟨t0, t1, t2, t3, t4, t5⟩ := hSw; go_simp; try (with_reducible rfl))
  try simp only [Act.put, List.getElem_toArray, List.getElem_cons_succ, List.getElem_cons_zero, List.setIfInBounds_toArray, List.set_cons_zero, List.set_cons_succ]
  refine wpAnyH_done (by kernel_rfl) ?_ _
  go_wp2
  go_ret
  refine ⟨?_, ?_⟩
  · have h5 := or_less x y
    rw [HZ.out, ← h5]
    rfl
  · have h6 := HB.out
    exact (show Below w.heap.size w w0.drew from ⟨h6.os, h6.tape, h6.output, h6.size, h6.block⟩).alloc (show w.heap.size ≤ w0.drew.heap.size from h6.size) _
set_option maxHeartbeats 2000000 in
theorem rless_any (x y : Pk.Nm) (w : World) : Calls Tryz.prog 52 #[.agg #[.int .i64 x.a, .int .i64 x.b, .int .u64 (x.c : Int)], .agg #[.int .i64 y.a, .int .i64 y.b, .int .u64 (y.c : Int)]] w fun e w' => e = .returned (.bool (nmLess x y)) ∧ Below w.heap.size w w' := by
  have HB := Lib.hid (((Below.refl w.heap.size w).alloc (Nat.le_refl _) (.cells #[.int .i64 x.a, .int .i64 x.b, .int .u64 (x.c : Int)] 27)).alloc (by simp) (.cells #[.int .i64 y.a, .int .i64 y.b, .int .u64 (y.c : Int)] 27))
  obtain ⟨a, b, c⟩ := x
  obtain ⟨a', b', c'⟩ := y
  by_cases h1 : a = a'
  · have q1 : (a != a') = false := by rw [h1]; simp
    by_cases h2 : b = b'
    · have q2 : (b != b') = false := by rw [h2]; simp
      have HZ := Lib.hid (show decide (c < c') = nmLess ⟨a, b, c⟩ ⟨a', b', c'⟩ by unfold nmLess; refine decide_eq_decide.2 ?_; simp only; omega)
      clear h1 h2
      go_enter Tryz.func52, Tryz.ntmps52
      go_wp2
      go_ret
      exact ⟨by rw [← HZ.out]; rfl, HB.out⟩
    · have q2 : (b != b') = true := by rw [bne_iff_ne]; exact h2
      have HZ := Lib.hid (show decide (b < b') = nmLess ⟨a, b, c⟩ ⟨a', b', c'⟩ by unfold nmLess; refine decide_eq_decide.2 ?_; simp only; omega)
      clear h1 h2
      go_enter Tryz.func52, Tryz.ntmps52
      go_wp2
      go_ret
      exact ⟨by rw [← HZ.out]; rfl, HB.out⟩
  · have q1 : (a != a') = true := by rw [bne_iff_ne]; exact h1
    have HZ := Lib.hid (show decide (a < a') = nmLess ⟨a, b, c⟩ ⟨a', b', c'⟩ by unfold nmLess; refine decide_eq_decide.2 ?_; simp only; omega)
    clear h1
    go_enter Tryz.func52, Tryz.ntmps52
    go_wp2
    go_ret
    exact ⟨by rw [← HZ.out]; rfl, HB.out⟩
end Ot
end Go.Proofs.YtkicjjcangkneaaGreatDoor
