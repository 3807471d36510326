/-
  The document's examples of chapter 2 hold: the statements' own check of them answers true, and leaves what was there as it was. No condition.
-/
import Derived.Test.YtjpihbigodgfiaaRefS
namespace Go.Proofs.Ytjpihbigodgfiaa
open Go.RowKit

theorem kept_trans {a b c : World} (h : Below a.heap.size a b) (k : Below b.heap.size b c) : Below a.heap.size a c := h.trans (k.mono h.size)

theorem rd_one (w : World) (x : Nat) : Rd (w.alloc (.cells #[.int .u64 (x : Int)] 25)).heap.size (w.alloc (.cells #[.int .u64 (x : Int)] 25)) (some ⟨w.heap.size, 0, none⟩) (u64s [x]) := fun _ =>
  ⟨w.heap.size, 0, rfl, by simp, fun i u hu => by
    rw [Nat.zero_add, (blk_new w 25 #[.int .u64 (x : Int)]).cell i]
    simpa [u64s] using hu⟩

theorem of_lit (s : ByteArray) (x : Nat) (w : World) (hs : s.size ≤ 9223372036854775800) (hx : x < 18446744073709551616) :
    Calls Try.prog 13 #[.string s, .slice (some ⟨w.heap.size, 0, none⟩) 1 1] (w.alloc (.cells #[.int .u64 (x : Int)] 25)) fun e w' => e = .returned (.int .u64 (Hsh.of s.data.toList [x] : Nat)) ∧ Below (w.alloc (.cells #[.int .u64 (x : Int)] 25)).heap.size (w.alloc (.cells #[.int .u64 (x : Int)] 25)) w' :=
  of_any s (some ⟨w.heap.size, 0, none⟩) 1 1 [x] _ hs rfl (by omega) (by intro y hy; rw [List.mem_singleton.1 hy]; exact hx) (rd_one w x)

set_option maxRecDepth 100000 in
set_option maxHeartbeats 1000000 in
theorem lives_any (w : World) : Calls Try.prog 15 #[] w fun e w' => e = .returned (.bool true) ∧ Below w.heap.size w w' := by
  have e1 : Hsh.of [97] [2305843009213693956] = Hsh.of [97] [5] := Hsh.of_mod _ _ _ (by decide +kernel)
  have e2 : Hsh.of [97] [5] ≠ Hsh.of [97] [6] := fun h => by
    have h2 := (Hsh.of_one [97] [] [] 5 6).1 h
    exact absurd h2 (by decide +kernel)
  have e3 := (Hsh.secret_range [97] []).1
  have c1 := fun W : World => of_lit ⟨#[97]⟩ 5 W (by decide) (by omega)
  have c2 := fun W : World => of_lit ⟨#[97]⟩ 2305843009213693956 W (by decide) (by omega)
  have c3 := fun W : World => of_lit ⟨#[97]⟩ 6 W (by decide) (by omega)
  have c4 := fun W : World => secret_any ⟨#[97]⟩ none 0 0 [] W (by decide) rfl (by omega) (by intro x hx; cases hx) Rd.nil
  have c5 := fun W : World => stream_any 1 8 W (by omega) (by omega)
  obtain ⟨y, hy⟩ : ∃ y : Nat, y = Hsh.of [97] [5] := ⟨_, rfl⟩
  obtain ⟨y6, hy6⟩ : ∃ y : Nat, y = Hsh.of [97] [6] := ⟨_, rfl⟩
  obtain ⟨z, hz⟩ : ∃ z : Nat, z = Hsh.secret [97] [] := ⟨_, rfl⟩
  have C1 : Hid (∀ W : World, Calls Try.prog 13 #[.string ⟨#[97]⟩, .slice (some ⟨W.heap.size, 0, none⟩) 1 1] (W.alloc (.cells #[.int .u64 5] 25)) fun e w' => e = .returned (.int .u64 (y : Nat)) ∧ Below W.heap.size W w') :=
    Lib.hid fun W => (c1 W).mono fun _ _ ⟨he, hb⟩ => ⟨by rw [hy]; exact he, ((Below.refl _ W).alloc (Nat.le_refl _) _).trans (hb.mono (by simp))⟩
  have C2 : Hid (∀ W : World, Calls Try.prog 13 #[.string ⟨#[97]⟩, .slice (some ⟨W.heap.size, 0, none⟩) 1 1] (W.alloc (.cells #[.int .u64 2305843009213693956] 25)) fun e w' => e = .returned (.int .u64 (y : Nat)) ∧ Below W.heap.size W w') :=
    Lib.hid fun W => (c2 W).mono fun _ _ ⟨he, hb⟩ => ⟨by rw [hy, ← e1]; exact he, ((Below.refl _ W).alloc (Nat.le_refl _) _).trans (hb.mono (by simp))⟩
  have C3 : Hid (∀ W : World, Calls Try.prog 13 #[.string ⟨#[97]⟩, .slice (some ⟨W.heap.size, 0, none⟩) 1 1] (W.alloc (.cells #[.int .u64 6] 25)) fun e w' => e = .returned (.int .u64 (y6 : Nat)) ∧ Below W.heap.size W w') :=
    Lib.hid fun W => (c3 W).mono fun _ _ ⟨he, hb⟩ => ⟨by rw [hy6]; exact he, ((Below.refl _ W).alloc (Nat.le_refl _) _).trans (hb.mono (by simp))⟩
  have C4 : Hid (∀ W : World, Calls Try.prog 19 #[.string ⟨#[97]⟩, .slice none 0 0] W fun e w' => e = .returned (.int .u64 (z : Nat)) ∧ Below W.heap.size W w') :=
    Lib.hid fun W => (c4 W).mono fun _ _ ⟨he, hb⟩ => ⟨by rw [hz]; exact he, hb⟩
  have C5 : Hid (∀ W : World, Calls Try.prog 22 #[.int .u64 1, .int .i64 8] W fun e w' => e = .returned (.slice (some ⟨W.heap.size, 0, none⟩) 8 8) ∧ Below W.heap.size W w') :=
    Lib.hid fun W => (c5 W).mono fun _ _ ⟨he, _, hb⟩ => ⟨he, hb⟩
  rw [← hy, ← hy6] at e2
  rw [← hz] at e3
  have d1 : ((y : Int) != (y6 : Int)) = true := by rw [bne_iff_ne]; omega
  have d2 : 0 < z := e3
  clear e1 e2 e3 c1 c2 c3 c4 c5 hy hy6 hz
  go_enter Try.func15, Try.ntmps15
  go_wp2_with fail
  refine (C1.out _).mono ?_
  rintro e w1 ⟨rfl, h1⟩
  go_wp2_with fail
  refine (C2.out _).mono ?_
  rintro e w2 ⟨rfl, h2⟩
  go_wp2_with fail
  refine (C3.out _).mono ?_
  rintro e w3 ⟨rfl, h3⟩
  go_wp2_with fail
  refine (C4.out _).mono ?_
  rintro e w4 ⟨rfl, h4⟩
  go_wp2_with fail
  refine (C5.out _).mono ?_
  rintro e w5 ⟨rfl, h5⟩
  go_wp2
  go_ret
  exact ⟨rfl, kept_trans (kept_trans (kept_trans (kept_trans h1 h2) h3) h4) h5⟩

end Go.Proofs.Ytjpihbigodgfiaa
