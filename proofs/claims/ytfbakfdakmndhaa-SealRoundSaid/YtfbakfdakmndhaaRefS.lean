/-
  The reference's stream of a key: the same bytes as package hash's; what was there is left as it was. For all keys of 64 bits and up to a million bytes.
-/
import Derived.Test.YtfbakfdakmndhaaRefO
namespace Go.Proofs.Ytfbakfdakmndhaa
open Go.RowKit

theorem u8s_snoc (l : List UInt8) (x : UInt8) : u8s (l ++ [x]) = u8s l ++ [.int .u8 (x.toNat : Int)] := by simp [u8s]

theorem rstreamword_any (key k g : Nat) (w : World) (hg : Blk w g 22 #[.int .u64 key, .int .u64 k]) :
    Calls Try.prog 34 #[.string ⟨#[115, 116, 114, 101, 97, 109]⟩, .slice (some ⟨g, 0, none⟩) 2 2] w fun e w' => e = .returned (.int .u64 (Hsh.streamWord key k : Nat)) ∧ Below w.heap.size w w' :=
  rof_any ⟨#[115, 116, 114, 101, 97, 109]⟩ [key, k] (some ⟨g, 0, none⟩) 2 2 w (by decide) rfl (by omega) (fun _ => ⟨g, 0, rfl, hg.lt, fun i u hu => by
    rw [Nat.zero_add, hg.cell i]
    simpa [u64s] using hu⟩)

theorem own_below {w w' : World} {B e sz n : Nat} {v : Value} {xs : List Value} (h : w.ownsRow B e sz v n xs) (hb : Below w.heap.size w w') : w'.ownsRow B e sz v n xs :=
  h.kept (row := none) ⟨hb.os, hb.tape, hb.output, hb.size, fun i hi _ => hb.block i hi⟩ (by cases hv : v.ownBlock <;> simp)

theorem streamU_at (key k i j x y : Nat) (hj : j = 7 * k + i) (hi : i < 7) (hx : x = Hsh.streamWord key k / 256 ^ i) (hy : y = x % 256) : (Hsh.streamU key j).toNat = y := by
  rw [Hsh.streamU_val]
  unfold Hsh.streamByte Hsh.byteOf
  rw [show j / 7 = k by omega, show j % 7 = i by omega, hy, hx]

set_option maxRecDepth 100000 in
set_option maxHeartbeats 2000000 in
theorem rstream_any (key n : Nat) (w : World) (hn : n ≤ 1000000) :
    Calls Try.prog 32 #[.int .u64 key, .int .i64 n] w fun e w' => ∃ A' c', e = .returned (.slice A' n c') ∧
      w'.ownsRow w.heap.size 5 1 (.slice A' n c') n (u8s (Hsh.stream key n)) ∧ Below w.heap.size w w' := by
  obtain ⟨i0, hi, hz0, hz1, hz2⟩ := info_parts info_u8
  obtain ⟨B, hB⟩ : ∃ B, B = w.heap.size := ⟨_, rfl⟩
  rw [← hB]
  have hnil := World.ownsRow_nil w B 5 1
  have hbel0 : Below B w w := Below.refl _ _
  have HBS := Lib.hid hB
  have HNIL := Lib.hid hnil
  have HI := Lib.hid hi
  have HZ0 := Lib.hid hz0
  have HZ1 := Lib.hid hz1
  have HZ2 := Lib.hid hz2
  clear hB hnil hi hz0 hz1 hz2
  go_enter Try.func32, Try.ntmps32
  go_wp2
  go_loopw [5, 6, 7, 8] (fun o kk _ _ wr => ∃ k j : Nat, kk = .int .i64 k ∧ j ≤ n ∧ j ≤ 7 * k ∧ (j < n → j = 7 * k) ∧ k ≤ n + 1 ∧ (∃ A' c', o = .slice A' j c') ∧ wr.ownsRow B 5 1 o j (u8s (Hsh.stream key j)) ∧ Below B w wr)
    (fun _ kk _ _ _ => n + 1 - (intOf kk).toNat)
  case atStart => exact ⟨0, 0, rfl, Nat.zero_le _, Nat.zero_le _, fun _ => rfl, Nat.zero_le _, ⟨_, _, rfl⟩, HNIL.out, hbel0⟩
  case round =>
    obtain ⟨k, j, rfl, hjn, hj7, hjk, hkn, ⟨A1, c1, rfl⟩, hrow, hbel⟩ := hrel
    have HROW := Lib.hid hrow
    clear hrow
    by_cases hlt : j < n
    · have hj := hjk hlt
      have hszr : B ≤ wr.heap.size := by have := HBS.out; have := hbel.size; omega
      have HJ := Lib.hid hj
      have HJK := Lib.hid hjk
      clear hj hjk
      go_wp2_with (go_at_call 34; refine (rstreamword_any key k wr.heap.size _ (by exact blk_new wr 22 #[.int .u64 key, .int .u64 k])).mono ?_; rintro e w3 ⟨rfl, hb3⟩)
      have hb3' : Below B w w3 := (hbel.trans ((Below.refl B wr).alloc hszr _)).trans (hb3.mono (by simp; omega))
      have hrow3 : w3.ownsRow B 5 1 (.slice A1 j c1) j (u8s (Hsh.stream key j)) := own_below (HROW.out.alloc (.cells #[.int .u64 key, .int .u64 k] 22)) hb3
      have hwl := Hsh.streamWord_lt key k
      have hx0 : Hsh.streamWord key k = Hsh.streamWord key k / 256 ^ 0 := by rw [Nat.pow_zero, Nat.div_one]
      obtain ⟨x0, hxe⟩ : ∃ x0 : Nat, x0 = Hsh.streamWord key k := ⟨_, rfl⟩
      rw [← hxe] at hwl hx0 ⊢
      have HX0 := Lib.hid hxe
      have HR3 := Lib.hid hrow3
      clear hx0 hxe hrow3 hb3
      go_loopw [5, 7, 8] (fun o v i wr => ∃ i' j' x : Nat, i = .int .i64 i' ∧ i' ≤ 7 ∧ j' = 7 * k + i' ∧ j' ≤ n ∧ v = .int .u64 x ∧ x = Hsh.streamWord key k / 256 ^ i' ∧ x < 2305843009213693951 ∧ (∃ A' c', o = .slice A' j' c') ∧ wr.ownsRow B 5 1 o j' (u8s (Hsh.stream key j')) ∧ Below B w wr)
        (fun _ _ i _ => 7 - (intOf i).toNat)
      case atStart => exact ⟨0, j, x0, rfl, by omega, HJ.out, hjn, rfl, by rw [Nat.pow_zero, Nat.div_one]; exact HX0.out, hwl, ⟨_, _, rfl⟩, HR3.out, hb3'⟩
      case round =>
        obtain ⟨i, j', x, rfl, hi7, hj', hjn', rfl, hx, hxl, ⟨A2, c2, rfl⟩, hrow2, hbel2⟩ := hrel
        have HR2 := Lib.hid hrow2
        have HX := Lib.hid hx
        have HJ2 := Lib.hid hj'
        have hsz2 : B ≤ wr.heap.size := by have := HBS.out; have := hbel2.size; omega
        clear hrow2 hx
        by_cases hgo : i < 7 ∧ j' < n
        · obtain ⟨hg1, hg2⟩ := hgo
          obtain ⟨y, hy⟩ : ∃ y : Nat, y = x % 256 := ⟨_, rfl⟩
          have hxy : (x : Int) % 256 = (y : Int) := by omega
          have hyu := streamU_at key k i j' x y HJ2.out hg1 HX.out hy
          obtain ⟨x2, hx2⟩ : ∃ x2 : Nat, x2 = x / 256 := ⟨_, rfl⟩
          have hdv : (x : Int) / 256 = (x2 : Int) := by omega
          have hx2l : x2 < 2305843009213693951 := by omega
          have hx2e : x2 = Hsh.streamWord key k / 256 ^ (i + 1) := by rw [hx2, HX.out, Nat.pow_succ, Nat.div_div_eq_div_mul]
          have hy8 : y < 256 := by omega
          have hj3 : j' + 1 = 7 * k + (i + 1) := by omega
          have d1 : decide ((i : Int) < 7) = true := decide_eq_true (by omega)
          have d2 : decide (j' < n) = true := decide_eq_true hg2
          have HYU := Lib.hid hyu
          have HX2 := Lib.hid hx2e
          have HJ3 := Lib.hid hj3
          clear hy hyu hx2 hx2e hj' hj3
          go_wp2_with (at_builtin; refine wpList_append_own _ rfl _ _ 23 rfl B 5 i0 (.int .u8 0) 1 1 Try.underlying23 HI.out HZ0.out HZ1.out HZ2.out rfl (by decide) _ _ _ rfl (HR2.out.alloc _) ⟨wr.heap.size, 0, none⟩ 1 1 [.int .u8 (y : Int)] rfl rfl (cell_one_new _ _ _) (by simp [Value.oneCell']) (by unfold maxLen; omega) (by omega) (by simp; omega) ?_; intro v' w4 hown' hgrow4 _; obtain ⟨g4, cap4, rfl⟩ := ownsRow_succ hown'; have HO4 := Lib.hid hown'; clear hown')
          go_roundw
          case rel =>
            refine ⟨i + 1, j' + 1, x2, by go_num, by omega, HJ3.out, by omega, rfl, HX2.out, hx2l, ⟨_, _, rfl⟩, ?_, ?_⟩
            · have h := HO4.out
              rw [← HYU.out, ← u8s_snoc, ← Hsh.stream_succ] at h
              exact h
            · have hg4 : (wr.alloc (.cells #[.int .u8 (y : Int)] 5)).grownBy w4 (Value.slice A2 j' c2).ownBlock := hgrow4
              exact hbel2.trans (((Below.refl B wr).alloc hsz2 _).grown hg4 (by simp; omega) (fun j e => (HR2.out.lt j e).1))
          case measure => simp [intOf]; omega
        · have hend : j' = n ∨ j' = 7 * (k + 1) := by omega
          have hk1 : k ≤ n := by have := HJ.out; omega
          have hj71 : j' ≤ 7 * (k + 1) := by omega
          have hj72 : j' < n → j' = 7 * (k + 1) := by omega
          have HJ71 := Lib.hid hj71
          have HJ72 := Lib.hid hj72
          clear hend hj' hj71 hj72
          by_cases hi1 : i < 7
          · have d1 : decide ((i : Int) < 7) = true := decide_eq_true (by omega)
            have d2 : decide (j' < n) = false := decide_eq_false (by omega)
            clear hgo
            go_wp2
            go_roundw
            case rel => exact ⟨k + 1, j', by go_num, hjn', HJ71.out, HJ72.out, by omega, ⟨_, _, rfl⟩, HR2.out, hbel2⟩
            case measure => simp [intOf]; omega
          · have d1 : decide ((i : Int) < 7) = false := decide_eq_false (by omega)
            clear hgo
            go_wp2
            go_roundw
            case rel => exact ⟨k + 1, j', by go_num, hjn', HJ71.out, HJ72.out, by omega, ⟨_, _, rfl⟩, HR2.out, hbel2⟩
            case measure => simp [intOf]; omega
    · obtain rfl : j = n := by omega
      clear hjk
      go_wp2
      go_ret
      exact ⟨A1, c1, rfl, HROW.out, hbel⟩

end Go.Proofs.Ytfbakfdakmndhaa
