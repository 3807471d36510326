/-
  Package hash's put and Stream: the bytes of a key's stream, as the chapter says it, in new memory; what was there is left as it was. For all keys of 64 bits and up to 2^20 bytes.
-/
import Derived.Test.YtfbakfdakmndhaaByt
namespace Go.Proofs.Ytfbakfdakmndhaa
open Go.RowKit

/-- The first k cells from off on hold the bytes of x. -/
def fillA (cs : Array Value) (off x : Nat) : Nat → Array Value
  | 0 => cs
  | k + 1 => (fillA cs off x k).setIfInBounds (off + k) (.int .u8 (Hsh.byteOf x k : Nat))
theorem fillA_size (cs : Array Value) (off x : Nat) : ∀ k, (fillA cs off x k).size = cs.size
  | 0 => rfl
  | k + 1 => by rw [fillA, Array.size_setIfInBounds, fillA_size cs off x k]

theorem byte_at (x k : Nat) : ((Hsh.byteOf x k : Nat) : Int) = (x : Int) / 2 ^ (8 * k) % 256 := by
  unfold Hsh.byteOf
  have e : (256 : Nat) ^ k = 2 ^ (8 * k) := by rw [Nat.pow_mul]
  rw [e, Int.natCast_emod, Int.natCast_ediv, Int.natCast_pow]
  rfl

set_option maxHeartbeats 400000 in
theorem put_any (g off n c x : Nat) (cs : Array Value) (w : World) (hn : n ≤ 7) (hg : Blk w g 5 cs) (hsz : off + n ≤ cs.size) :
    Calls Try.prog 36 #[.slice (some ⟨g, off, none⟩) n c, .int .u64 x] w fun e w' => (∃ r, e = .returned r) ∧ Blk w' g 5 (fillA cs off x n) ∧ w.grownBy w' (some g) := by
  have HG := Lib.hid hg
  clear hg
  go_enter Try.func36, Try.ntmps36
  go_wp2
  go_loopw [7] (fun i wr => ∃ k : Nat, k ≤ n ∧ i = .int .i64 k ∧ Blk wr g 5 (fillA cs off x k) ∧ w.grownBy wr (some g)) (fun i _ => n - (intOf i).toNat)
  case atStart => exact ⟨0, Nat.zero_le _, rfl, HG.out, only_refl _ _⟩
  case round =>
    obtain ⟨k, hk, rfl, hblk, hgr⟩ := hrel
    by_cases hlt : k < n
    · have hcell := hblk.cell (off + k)
      have hin : off + k < (fillA cs off x k).size := by rw [fillA_size]; omega
      rw [Array.getElem?_eq_getElem hin] at hcell
      have hfr := hblk.frozen (off + k)
      generalize (fillA cs off x k)[off + k] = old at hcell
      have HB := Lib.hid hblk
      clear hblk hin
      have HV := Lib.hid (byte_at x k)
      go_wp2
      go_roundw
      case rel =>
        refine ⟨k + 1, hlt, by go_num, ?_, only_set hgr _ _⟩
        rw [show fillA cs off x (k + 1) = (fillA cs off x k).setIfInBounds (off + k) (.int .u8 (Hsh.byteOf x k : Nat)) from rfl, HV.out]
        exact HB.out.set_ (off + k) _
      case measure => simp [intOf]; omega
    · have e : k = n := by omega
      subst e
      have HB := Lib.hid hblk
      clear hblk
      go_wp2
      go_end0
      exact ⟨⟨_, rfl⟩, HB.out, hgr⟩

/-! ### Stream -/
/-- What the stream's memory holds when the first a bytes are there. -/
def stg (key n a : Nat) : Array Value := ((List.range n).map fun i => if i < a then Value.int .u8 (Hsh.streamByte key i : Nat) else .int .u8 0).toArray
theorem stg_size (key n a : Nat) : (stg key n a).size = n := by simp [stg]
theorem stg_get (key n a i : Nat) (h : i < n) : (stg key n a)[i]? = some (if i < a then Value.int .u8 (Hsh.streamByte key i : Nat) else .int .u8 0) := by
  simp [stg, List.getElem?_range h]
theorem stg_zero (key n : Nat) : madeCells #[.int .u8 0] (n * 1) = stg key n 0 := by
  apply Array.ext
  · rw [size_madeCells, stg_size, Nat.mul_one]
  · intro i h1 h2
    rw [stg_size] at h2
    have h := stg_get key n 0 i h2
    rw [Array.getElem?_eq_getElem (by rw [stg_size]; exact h2)] at h
    injection h with h
    rw [h]
    simp [madeCells, Nat.mod_one]
theorem stg_more (key n a b : Nat) (ha : n ≤ a) (hb : n ≤ b) : stg key n a = stg key n b := by
  unfold stg
  congr 1
  refine List.map_congr_left fun i hi => ?_
  have hi := List.mem_range.1 hi
  rw [if_pos (by omega), if_pos (by omega)]
theorem stg_fill (key n k : Nat) : ∀ j, j ≤ 7 → 7 * k + j ≤ n → fillA (stg key n (7 * k)) (7 * k) (Hsh.streamWord key k) j = stg key n (7 * k + j)
  | 0, _, _ => rfl
  | j + 1, hj, hn => by
    rw [fillA, stg_fill key n k j (by omega) (by omega)]
    apply Array.ext
    · rw [Array.size_setIfInBounds, stg_size, stg_size]
    · intro i h1 h2
      rw [stg_size] at h2
      have e1 := stg_get key n (7 * k + (j + 1)) i h2
      rw [Array.getElem?_eq_getElem (by rw [stg_size]; exact h2)] at e1
      injection e1 with e1
      rw [e1, Array.getElem_setIfInBounds (by rw [stg_size]; exact h2)]
      by_cases hi : 7 * k + j = i
      · rw [if_pos hi, if_pos (by omega)]
        unfold Hsh.streamByte
        rw [show i / 7 = k by omega, show i % 7 = j by omega]
      · rw [if_neg hi]
        have e2 := stg_get key n (7 * k + j) i h2
        rw [Array.getElem?_eq_getElem (by rw [stg_size]; exact h2)] at e2
        injection e2 with e2
        rw [e2]
        by_cases h3 : i < 7 * k + j
        · rw [if_pos h3, if_pos (by omega)]
        · rw [if_neg h3, if_neg (by omega)]
theorem stg_stream (key n : Nat) : stg key n n = (u8s (Hsh.stream key n)).toArray := by
  unfold stg u8s Hsh.stream
  rw [List.map_map]
  congr 1
  refine List.map_congr_left fun i hi => ?_
  rw [if_pos (List.mem_range.1 hi)]
  show _ = Value.int .u8 ((Hsh.streamU key i).toNat : Int)
  rw [Hsh.streamU_val]

theorem streamword_any (key k g : Nat) (w : World) (hk : key < 18446744073709551616) (hkk : k < 18446744073709551616) (hg : Blk w g 22 #[.int .u64 key, .int .u64 k]) :
    Calls Try.prog 30 #[.string ⟨#[115, 116, 114, 101, 97, 109]⟩, .slice (some ⟨g, 0, none⟩) 2 2] w fun e w' => e = .returned (.int .u64 (Hsh.streamWord key k : Nat)) ∧ Below w.heap.size w w' :=
  of_any ⟨#[115, 116, 114, 101, 97, 109]⟩ (some ⟨g, 0, none⟩) 2 2 [key, k] w (by decide) rfl (by omega) (by simp; omega) (fun _ => ⟨g, 0, rfl, hg.lt, fun i u hu => by
    rw [Nat.zero_add, hg.cell i]
    simpa [u64s] using hu⟩)

theorem info_u8 : (Try.prog.info? 5).map (fun i => (i.zero, i.size, i.bytes)) = some (some (.int .u8 0), 1, 1) := by kernel_rfl
theorem make_u8 (key n : Nat) (hn : n ≤ 1048576) (W : World) :
    (Instr.makeSlice 23 (.int .i64 (n : Int)) (.int .i64 (n : Int))).run Try.prog W = .ok (.slice (some ⟨W.heap.size, 0, none⟩) n n) (W.alloc (.cells (stg key n 0) 5)) := by
  obtain ⟨i0, hi, hz0, hz1, hz2⟩ := info_parts info_u8
  have h := run_make (P := Try.prog) W 23 5 i0 (.int .u8 0) Try.underlying23 hi hz0 .i64 .i64 (n : Int) (n : Int) (by omega) (by omega) (by rw [hz2]; omega) (by omega)
  rw [hz1] at h
  rw [h]
  simp only [Int.toNat_natCast]
  rw [show (Value.int IntKind.u8 0).cells = #[.int .u8 0] from rfl, stg_zero]

set_option maxRecDepth 100000 in
set_option maxHeartbeats 2000000 in
theorem stream_any (key n : Nat) (w : World) (hkey : key < 18446744073709551616) (hn : n ≤ 1048576) :
    Calls Try.prog 26 #[.int .u64 key, .int .i64 n] w fun e w' => e = .returned (.slice (some ⟨w.heap.size, 0, none⟩) n n) ∧ Blk w' w.heap.size 5 (u8s (Hsh.stream key n)).toArray ∧ Below w.heap.size w w' := by
  have hmk := make_u8 key n hn
  have hd1 : decide ((n : Int) < 0) = false := decide_eq_false (by omega)
  have hd2 : decide ((2147483647 : Int) < (n : Int)) = false := decide_eq_false (by omega)
  go_enter Try.func26, Try.ntmps26
  go_wp2
  obtain ⟨B, hB⟩ : ∃ B, B = w.heap.size := ⟨_, rfl⟩
  have hb0 := blk_new w 5 (stg key n 0)
  have hbel0 : Below w.heap.size w (w.alloc (.cells (stg key n 0) 5)) := (Below.refl _ w).alloc (Nat.le_refl _) _
  obtain ⟨w0, hw0⟩ : ∃ w0, w0 = w.alloc (.cells (stg key n 0) 5) := ⟨_, rfl⟩
  rw [← hw0] at hb0 hbel0 ⊢
  rw [← hB] at hb0 hbel0 ⊢
  have HBS := Lib.hid hB
  clear hw0 hB hmk hd1 hd2
  have HB0 := Lib.hid hb0
  clear hb0
  go_loopw [6] (fun i wr => ∃ a k : Nat, i = .int .i64 a ∧ a = 7 * k ∧ a ≤ n + 6 ∧ Blk wr B 5 (stg key n a) ∧ Below B w wr) (fun i _ => n + 7 - (intOf i).toNat)
  case atStart => exact ⟨0, 0, rfl, rfl, Nat.zero_le _, HB0.out, hbel0⟩
  case round =>
    obtain ⟨a, k, rfl, ha, han, hblk, hbel⟩ := hrel
    have HBLK := Lib.hid hblk
    have HA := Lib.hid ha
    have hk : k ≤ 1048576 := by omega
    have hdv : (a : Int) / 7 = (k : Int) := by omega
    obtain ⟨d, hd⟩ : ∃ d : Nat, d = a + 7 := ⟨_, rfl⟩
    have hw1 : IntKind.i64.wrap ((a : Int) + 7) = (d : Int) := by rw [IntKind.wrap_i64]; omega
    have hw2 : IntKind.i64.wrap (k : Int) = (k : Int) := by rw [IntKind.wrap_i64]; omega
    have hw3 : IntKind.u64.wrap (k : Int) = (k : Int) := by rw [IntKind.wrap_u64]; omega
    have HD := Lib.hid hd
    clear hblk ha hd
    by_cases hlt : a < n
    · have hblt := HBLK.out.lt
      obtain ⟨b, hb⟩ : ∃ b : Nat, b = if n < d then n else d := ⟨_, rfl⟩
      have hif : (if n < d then (n : Int) else (d : Int)) = (b : Int) := by rw [hb]; split <;> rfl
      have hb1 : a ≤ b ∧ b ≤ n ∧ b ≤ a + 7 ∧ (b = n ∨ b = a + 7) := by
        have := HD.out
        rw [hb]; split <;> omega
      obtain ⟨hb2, hb3, hb4, hb5⟩ := hb1
      have q2 : (a : Int) ≤ (b : Int) := by omega
      have q3 : (b : Int) ≤ (n : Int) := by omega
      have q4 : (0 : Int) ≤ (b : Int) := by omega
      obtain ⟨q, hq⟩ : ∃ q : Nat, q = b - a := ⟨_, rfl⟩
      have hsl := slice_bytes B 0 n n a b (b : Int) hb2 hlt hb3 rfl (Nat.le_refl _) q hq
      have hq7 : q ≤ 7 := by omega
      have hqn : a + q ≤ n := by omega
      have HF := Lib.hid (show fillA (stg key n a) a (Hsh.streamWord key k) q = stg key n (a + 7) by
        have h := stg_fill key n k q hq7 (by have := HA.out; omega)
        rw [← HA.out] at h
        rw [h]
        rcases hb5 with h5 | h5
        · exact stg_more key n _ _ (by omega) (by omega)
        · rw [show a + q = a + 7 by omega])
      clear hb hq hb5
      go_wp2_with fail
      go_region_with (first
        | (go_at_call 30; refine (streamword_any key k wr.heap.size _ hkey (by omega) (by exact blk_new wr 22 #[.int .u64 key, .int .u64 k])).mono ?_; rintro e w3 ⟨rfl, hb6⟩; have HB3 := Lib.hid (Blk.below (blk_alloc HBLK.out (.cells #[.int .u64 key, .int .u64 k] 22)) (below_of_drew hb6) (by simp; omega)))
        | (go_at_call 36; refine (put_any B _ q _ _ (stg key n a) _ hq7 HB3.out (by rw [stg_size]; exact hqn)).mono ?_; rintro e w4 ⟨⟨r, rfl⟩, hb7, hg4⟩))
      all_goals
        clear hdv hw1 hw2 hw3 hif hsl
        go_wp2
        go_roundw
        case rel =>
          refine ⟨a + 7, k + 1, by go_num, by have := HA.out; omega, by omega, ?_, ?_⟩
          · rw [← HF.out]; exact hb7
          · exact hbel.trans (((Below.refl B wr).alloc (Nat.le_of_lt hblt) _).trans (((below_of_drew hb6).mono (by simp; omega)).trans (below_only hg4 (Nat.le_refl _) (by have := hb6.size; simp at this; omega))))
        case measure => simp [intOf]; omega
    · have hn' : Blk wr B 5 (u8s (Hsh.stream key n)).toArray := by
        rw [← stg_stream, ← stg_more key n a n (by omega) (Nat.le_refl _)]
        exact HBLK.out
      have HN := Lib.hid hn'
      clear hn' hdv hw1 hw2 hw3
      go_wp2
      go_ret
      obtain rfl := HBS.out
      exact ⟨rfl, HN.out, hbel⟩

end Go.Proofs.Ytfbakfdakmndhaa
