/-
  The statements' helpers for package draw: the first 8 of some numbers; the reference's number; is a number among some. What was there is left as it was.
-/
import Derived.Test.YtmmigancjggpgaaNxt
namespace Go.Proofs.Ytmmigancjggpgaa
open Go.RowKit

set_option maxRecDepth 100000 in
set_option maxHeartbeats 1000000 in
theorem said_any (xs : List Nat) (A : Option Addr) (m c : Nat) (w : World) (hm : m = xs.length) (hmb : m ≤ 9223372036854775807) (hA : Rd w.heap.size w A (u64s xs)) :
    Calls Try.prog 10 #[.slice A m c] w fun e w' => ∃ A' c', e = .returned (.slice A' (min 8 m) c') ∧
      w'.ownsRow w.heap.size 22 1 (.slice A' (min 8 m) c') (min 8 m) (u64s (xs.take 8)) ∧ Below w.heap.size w w' := by
  obtain ⟨i0, hi, hz0, hz1, hz2⟩ := info_parts info_u64
  obtain ⟨B, hB⟩ : ∃ B, B = w.heap.size := ⟨_, rfl⟩
  rw [← hB] at hA ⊢
  have hnil := World.ownsRow_nil w B 22 1
  have hbel0 : Below B w w := Below.refl _ _
  have HBS := Lib.hid hB
  have HM := Lib.hid hm
  have HA := Lib.hid hA
  have HNIL := Lib.hid hnil
  have HI := Lib.hid hi
  have HZ0 := Lib.hid hz0
  have HZ1 := Lib.hid hz1
  have HZ2 := Lib.hid hz2
  clear hB hm hA hnil hi hz0 hz1 hz2
  go_enter Try.func10, Try.ntmps10
  go_wp2
  go_loopw [3, 4] (fun o i wr => ∃ k : Nat, i = .int .i64 k ∧ k ≤ m ∧ k ≤ 8 ∧ (∃ A' c', o = .slice A' k c') ∧ wr.ownsRow B 22 1 o k (u64s (xs.take k)) ∧ Below B w wr) (fun _ i _ => m - (intOf i).toNat)
  case atStart => exact ⟨0, rfl, Nat.zero_le _, by omega, ⟨_, _, rfl⟩, HNIL.out, hbel0⟩
  case round =>
    obtain ⟨k, rfl, hk, hk8, ⟨A1, c1, rfl⟩, hrow, hbel⟩ := hrel
    have HROW := Lib.hid hrow
    have HBEL := Lib.hid hbel
    clear hrow
    rcases (show (k < m ∧ k < 8) ∨ (¬ k < m) ∨ (k < m ∧ ¬ k < 8) from by omega) with ⟨h1, h2⟩ | h1 | ⟨h1, h2⟩
    · have hkx : k < xs.length := by rw [← HM.out]; exact h1
      obtain ⟨b, off, hAe, hb, hcl⟩ := (HA.out).at_ (k := k) (by rw [u64s_len]; exact hkx)
      subst hAe
      have hcr : wr.cell? ⟨b, off + k, none⟩ = some (.int .u64 (xs[k] : Nat)) := by
        refine (hbel.cell (p := ⟨b, off + k, none⟩) hb).trans (hcl.trans ?_)
        simp [u64s]
      have htk : u64s (xs.take (k + 1)) = u64s (xs.take k) ++ [.int .u64 (xs[k] : Nat)] := by
        rw [List.take_succ_eq_append_getElem hkx, u64s_snoc]
      obtain ⟨x, hx⟩ : ∃ x : Nat, x = xs[k] := ⟨_, rfl⟩
      rw [← hx] at hcr htk
      have hsz := hbel.size
      have hBw : B ≤ wr.heap.size := by have := HBS.out; omega
      have HTK := Lib.hid htk
      clear hx htk hcl hbel hkx
      go_wp2_with (at_builtin; refine wpList_append_own _ rfl _ _ 23 rfl B 22 i0 (.int .u64 0) 1 8 Try.underlying23 HI.out HZ0.out HZ1.out HZ2.out rfl (by decide) _ _ _ rfl (HROW.out.alloc _) ⟨wr.heap.size, 0, none⟩ 1 1 [.int .u64 (x : Int)] rfl rfl (cell_one_new _ _ _) (by simp [Value.oneCell']) (by unfold maxLen; omega) (by omega) (by simp; omega) ?_; intro v' w1 hown' hgrow _; obtain ⟨g', cap', rfl⟩ := ownsRow_succ hown'; have HO := Lib.hid hown'; clear hown')
      go_roundw
      case rel =>
        refine ⟨k + 1, by go_num, h1, h2, ⟨_, _, rfl⟩, ?_, ?_⟩
        · rw [HTK.out]
          exact HO.out
        · have hg2 : (wr.alloc (.cells #[.int .u64 (x : Int)] 22)).grownBy w1 (Value.slice A1 k c1).ownBlock := hgrow
          exact HBEL.out.trans (((Below.refl B wr).alloc hBw _).grown hg2 (by simp; omega) (fun j e => (HROW.out.lt j e).1))
      case measure => simp [intOf]; omega
    all_goals
      have e : k = min 8 m := by omega
      have he : xs.take k = xs.take 8 := by
        rcases Nat.le_total m 8 with h | h
        · rw [List.take_of_length_le (by rw [← HM.out]; omega), List.take_of_length_le (by rw [← HM.out]; omega)]
        · rw [show k = 8 by omega]
      have hr := HROW.out
      rw [he] at hr
      have HR := Lib.hid hr
      have HE := Lib.hid e
      clear hr he e hbel
      go_wp2
      go_ret
      exact ⟨A1, c1, by rw [← HE.out]; rfl, by rw [← HE.out]; exact HR.out, HBEL.out⟩

theorem rsecret_two (z j : Nat) (w : World) :
    Calls Try.prog 24 #[.string ⟨#[100, 114, 97, 119]⟩, .slice (some ⟨w.heap.size, 0, none⟩) 2 2] (w.alloc (.cells #[.int .u64 (z : Int), .int .u64 (j : Int)] 22)) fun e w' => e = .returned (.int .u64 (Hsh.secret Dw.label [z, j] : Nat)) ∧
      Below (w.alloc (.cells #[.int .u64 (z : Int), .int .u64 (j : Int)] 22)).heap.size (w.alloc (.cells #[.int .u64 (z : Int), .int .u64 (j : Int)] 22)) w' :=
  rsecret_any ⟨#[100, 114, 97, 119]⟩ [z, j] (some ⟨w.heap.size, 0, none⟩) 2 2 (w.alloc (.cells #[.int .u64 (z : Int), .int .u64 (j : Int)] 22)) (by decide) rfl (by omega)
    (fun _ => ⟨w.heap.size, 0, rfl, by simp, fun i u hu => by
      rw [Nat.zero_add, (blk_new w 22 #[.int .u64 (z : Int), .int .u64 (j : Int)]).cell i]
      simpa [u64s] using hu⟩)

set_option maxHeartbeats 800000 in
theorem number_said (seed k : Nat) (l : List Nat) (A : Option Addr) (m c : Nat) (w : World) (hm : m = l.length) (hmb : m ≤ 1000000) (hk : 0 < k) (hkm : k ≤ m) (hx : ∀ x ∈ l, x < 18446744073709551616) (hA : Rd w.heap.size w A (u64s l)) :
    Calls Try.prog 13 #[.int .u64 seed, .slice A m c, .int .i64 (k : Int)] w fun e w' => e = .returned (.int .u64 (Dw.nth seed l k : Nat)) ∧ w = w' := by
  obtain ⟨n, rfl⟩ : ∃ n, k = n + 1 := ⟨k - 1, by omega⟩
  rw [Dw.nth_said _ _ n (by omega)]
  obtain ⟨k, hke⟩ : ∃ k, k = n + 1 := ⟨_, rfl⟩
  rw [← hke] at hk hkm ⊢
  have hn : n < l.length := by omega
  obtain ⟨b, off, hAe, hb, hcl⟩ := hA.at_ (k := n) (by rw [u64s_len]; exact hn)
  subst hAe
  have hx1 := hx _ (List.getElem_mem hn)
  have hcr : w.cell? ⟨b, off + n, none⟩ = some (.int .u64 (l[n] : Nat)) := by
    refine hcl.trans ?_
    simp [u64s]
  obtain ⟨x, hxe⟩ : ∃ x : Nat, x = l[n] := ⟨_, rfl⟩
  rw [← hxe] at hx1 hcr ⊢
  obtain ⟨z, hz⟩ : ∃ z : Nat, z = x % 2305843009213693949 := ⟨_, rfl⟩
  have hz1 : (x : Int) % 2305843009213693949 = (z : Int) := by omega
  have hz2 : z < 2305843009213693949 := by omega
  rw [← hz]
  have hk1 : (k : Int) - 1 = (n : Int) := by omega
  have hle : (k : Int) ≤ (m : Int) := by omega
  have q0 : (0 : Int) ≤ (n : Int) := by omega
  have q1 : (n : Int) < (m : Int) := by omega
  clear hz hxe hcl hA hx hm hn hke
  go_enter Try.func13, Try.ntmps13
  go_wp2
  go_ret
  exact ⟨ret_u64 (by omega), rfl⟩

set_option maxHeartbeats 800000 in
theorem number_seed (seed k : Nat) (l : List Nat) (A : Option Addr) (m c : Nat) (w : World) (hm : m = l.length) (hmb : m ≤ 1000000) (hkm : m < k) (hkb : k ≤ 1000000000) (hs : seed < 18446744073709551616) :
    Calls Try.prog 13 #[.int .u64 seed, .slice A m c, .int .i64 (k : Int)] w fun e w' => e = .returned (.int .u64 (Dw.nth seed l k : Nat)) ∧ Below w.heap.size w w' := by
  rw [Dw.nth_behind _ _ _ (by omega), ← hm]
  obtain ⟨j, hj⟩ : ∃ j, j = k - m := ⟨_, rfl⟩
  obtain ⟨z, hz⟩ : ∃ z, z = seed % 2305843009213693951 := ⟨_, rfl⟩
  have hz1 : (seed : Int) % 2305843009213693951 = (z : Int) := by omega
  have hz2 : z < 2305843009213693951 := by omega
  have hj1 : (k : Int) - (m : Int) = (j : Int) := by omega
  have hj2 : j ≤ 1000000001 := by omega
  have hle : ¬ (k : Int) ≤ (m : Int) := by omega
  rw [← hj, ← hz]
  have HSEC := Lib.hid (rsecret_two z j w)
  clear hj hz hm
  go_enter Try.func13, Try.ntmps13
  go_wp2_with fail
  refine (HSEC.out).mono ?_
  rintro e w' ⟨rfl, hb⟩
  go_wp2
  go_ret
  exact ⟨rfl, ((Below.refl _ w).alloc (Nat.le_refl _) _).trans (hb.mono (by simp))⟩

theorem number_any (seed k : Nat) (l : List Nat) (A : Option Addr) (m c : Nat) (w : World) (hm : m = l.length) (hmb : m ≤ 1000000) (hk : 0 < k) (hkb : k ≤ 1000000000) (hs : seed < 18446744073709551616) (hx : ∀ x ∈ l, x < 18446744073709551616) (hA : Rd w.heap.size w A (u64s l)) :
    Calls Try.prog 13 #[.int .u64 seed, .slice A m c, .int .i64 (k : Int)] w fun e w' => e = .returned (.int .u64 (Dw.nth seed l k : Nat)) ∧ Below w.heap.size w w' := by
  rcases Nat.lt_or_ge m k with h | h
  · exact number_seed seed k l A m c w hm hmb h hkb hs
  · exact (number_said seed k l A m c w hm hmb hk h hx hA).mono fun e w' ⟨he, hw⟩ => ⟨he, hw ▸ Below.refl _ _⟩

/-! ### is a number among some -/
def i64s (l : List Nat) : List Value := l.map fun n : Nat => .int .i64 (n : Int)
theorem i64s_len (l : List Nat) : (i64s l).length = l.length := by simp [i64s]
theorem i64s_snoc (l : List Nat) (x : Nat) : i64s (l ++ [x]) = i64s l ++ [.int .i64 (x : Int)] := by simp [i64s]

set_option maxHeartbeats 800000 in
theorem has_not (xs : List Nat) (x : Nat) (A : Option Addr) (m c : Nat) (w : World) (hm : m = xs.length) (hmb : m ≤ 1000000) (hx : x ∉ xs) (hA : Rd w.heap.size w A (i64s xs)) :
    Calls Try.prog 18 #[.slice A m c, .int .i64 (x : Int)] w fun e w' => e = .returned (.bool false) ∧ w = w' := by
  have HM := Lib.hid hm
  have HA := Lib.hid hA
  have HX := Lib.hid hx
  clear hm hA hx
  go_enter Try.func18, Try.ntmps18
  go_wp2
  go_loop [5] (fun i => ∃ k : Nat, i = .int .i64 k ∧ k ≤ m) (fun i => m - (intOf i).toNat)
  case atStart => exact ⟨0, rfl, Nat.zero_le _⟩
  case round =>
    obtain ⟨k, rfl, hk⟩ := hrel
    by_cases hlt : k < m
    · have hkx : k < xs.length := by rw [← HM.out]; exact hlt
      obtain ⟨b, off, hAe, hb, hcl⟩ := (HA.out).at_ (k := k) (by rw [i64s_len]; exact hkx)
      subst hAe
      have hcr : w.cell? ⟨b, off + k, none⟩ = some (.int .i64 (xs[k] : Nat)) := by
        refine hcl.trans ?_
        simp [i64s]
      have hne : xs[k] ≠ x := fun e => HX.out (e ▸ List.getElem_mem hkx)
      obtain ⟨y, hy⟩ : ∃ y : Nat, y = xs[k] := ⟨_, rfl⟩
      rw [← hy] at hcr hne
      have hbq : ((y : Int) == (x : Int)) = false := by rw [beq_eq_false_iff_ne]; omega
      clear hy hcl hkx hne
      go_wp2
      go_round
      case rel => exact ⟨k + 1, by go_num, hlt⟩
      case measure => simp [intOf]; omega
    · go_wp2
      go_ret
      exact ⟨rfl, rfl⟩

end Go.Proofs.Ytmmigancjggpgaa
