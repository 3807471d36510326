/-
  The document's examples of chapter 3 hold: the statements' own check of them answers true, and leaves what was there as it was. No condition.
-/
import Derived.Test.YtmmigancjggpgaaSay
namespace Go.Proofs.Ytmmigancjggpgaa
open Go.RowKit

theorem below_next {w0 w w' : World} {B lo D U seed n : Nat} {l : List Nat} (hb : Below B w0 w) (hd : Drs lo w D U seed l n) (hB : B ≤ lo) (hg : w.grownBy w' (some U)) : Below B w0 w' :=
  hb.grown hg (by have := hd.at_.1.lt; have := hd.at_.2; omega) (fun j e => by injection e with e; have := hd.at_.2; omega)

set_option maxHeartbeats 1000000 in
theorem lives_any (w : World) : Calls Try.prog 17 #[] w fun e w' => e = .returned (.bool true) ∧ Below w.heap.size w w' := by
  obtain ⟨L, hL⟩ : ∃ L : List Nat, L = [0, 4, 2305843009213693949, 8] := ⟨_, rfl⟩
  have e1 : Dw.nth 5 L 1 = 1 := by rw [hL]; rfl
  have e2 : Dw.nth 5 L 2 = 5 := by rw [hL]; rfl
  have e3 : Dw.nth 5 L 3 = 1 := by rw [hL]; rfl
  have e4 : Dw.nth 5 L 4 % 5 = 4 := by rw [hL]; rfl
  have hlen : L.length = 4 := by rw [hL]; rfl
  have hx : ∀ x ∈ L, x < 18446744073709551616 := by
    rw [hL]
    intro x h
    simp only [List.mem_cons, List.not_mem_nil, or_false] at h
    omega
  obtain ⟨w1, hw1⟩ : ∃ w1, w1 = w.alloc (.cells #[.int .u64 0, .int .u64 4, .int .u64 2305843009213693949, .int .u64 8] 22) := ⟨_, rfl⟩
  have hA : Rd w1.heap.size w1 (some ⟨w.heap.size, 0, none⟩) (u64s L) := by
    rw [hw1, hL]
    exact Rd.of_blk (cs := [.int .u64 0, .int .u64 4, .int .u64 2305843009213693949, .int .u64 8]) (blk_new w 22 _)
  have hb1 : Below w.heap.size w w1 := by rw [hw1]; exact (Below.refl _ w).alloc (Nat.le_refl _) _
  have hnew := new_any 5 (some ⟨w.heap.size, 0, none⟩) L 4 4 w1 hlen.symm (by omega) hA (fun e => by cases e)
  rw [hw1] at hnew
  have HNEW := Lib.hid hnew
  have HW := Lib.hid hw1
  have HX := Lib.hid hx
  have HL := Lib.hid hlen
  have E1 := Lib.hid e1
  have E2 := Lib.hid e2
  have E3 := Lib.hid e3
  have E4 := Lib.hid e4
  clear hnew hw1 hA hx hlen e1 e2 e3 e4 hL
  go_enter Try.func17, Try.ntmps17
  go_wp2_with fail
  refine (HNEW.out).mono ?_
  rintro e w2 ⟨D, U, rfl, hU, hd, hb2⟩
  rw [← HW.out] at hd hb2
  clear HNEW
  have hUb := hd.at_.2
  have HD := Lib.hid hd
  clear hd
  have hq2 : Below w.heap.size w w2 := hb1.trans (hb2.mono hb1.size)
  have hB := hb1.size
  clear hb1 hb2 hU
  go_wp2_with fail
  refine (next_any _ D U 5 0 L w2 (by have := HL.out; omega) (by omega) (by omega) HX.out HD.out).mono ?_
  rintro e w3 ⟨rfl, hd3, hg3⟩
  have hq3 := below_next hq2 HD.out hB hg3
  have HD3 := Lib.hid hd3
  rw [Nat.zero_add, E1.out]
  clear HD hd3 hg3 hq2
  go_wp2_with fail
  refine (next_any _ D U 5 (0 + 1) L w3 (by have := HL.out; omega) (by omega) (by omega) HX.out HD3.out).mono ?_
  rintro e w4 ⟨rfl, hd4, hg4⟩
  have hq4 := below_next hq3 HD3.out hB hg4
  have HD4 := Lib.hid hd4
  rw [show 0 + 1 + 1 = 2 from rfl, E2.out]
  clear HD3 hd4 hg4 hq3
  go_wp2_with fail
  refine (next_any _ D U 5 (0 + 1 + 1) L w4 (by have := HL.out; omega) (by omega) (by omega) HX.out HD4.out).mono ?_
  rintro e w5 ⟨rfl, hd5, hg5⟩
  have hq5 := below_next hq4 HD4.out hB hg5
  have HD5 := Lib.hid hd5
  rw [show 0 + 1 + 1 + 1 = 3 from rfl, E3.out]
  clear HD4 hd5 hg5 hq4
  go_wp2_with fail
  refine (below_any _ D U 5 (0 + 1 + 1 + 1) 5 L w5 (by have := HL.out; omega) (by omega) (by omega) HX.out (by omega) (by omega) HD5.out).mono ?_
  rintro e w6 ⟨rfl, hd6, hg6⟩
  have hq6 := below_next hq5 HD5.out hB hg6
  have HD6 := Lib.hid hd6
  rw [show 0 + 1 + 1 + 1 + 1 = 4 from rfl, E4.out]
  clear HD5 hd6 hg6 hq5
  go_wp2_with fail
  refine (used_any _ D U 5 (0 + 1 + 1 + 1 + 1) L w6 HD6.out).mono ?_
  rintro e w7 ⟨rfl, rfl⟩
  clear HD6
  go_wp2
  go_ret
  exact ⟨rfl, hq6⟩

end Go.Proofs.Ytmmigancjggpgaa
