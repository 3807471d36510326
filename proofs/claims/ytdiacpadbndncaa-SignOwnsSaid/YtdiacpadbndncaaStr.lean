/-
  Package hash's put and Stream: the bytes of a key's stream, as the chapter says it, in new memory; what was there is left as it was. For all keys of 64 bits and up to 2^20 bytes.
-/
import Derived.Test.YtdiacpadbndncaaByt
namespace Go.Proofs.Ytdiacpadbndncaa
open Go.RowKit

/-- The first k cells from off on hold the bytes of x. -/
def fillA (cs : Array Value) (off x : Nat) : Nat → Array Value
  | 0 => cs
  | k + 1 => (fillA cs off x k).setIfInBounds (off + k) (.int .u8 (Hsh.byteOf x k : Nat))
theorem fillA_size (cs : Array Value) (off x : Nat) : ∀ k, (fillA cs off x k).size = cs.size
  | 0 => rfl
  | k + 1 => by rw [fillA, Array.size_setIfInBounds, fillA_size cs off x k]

theorem byte_at (x k : Nat) : ((Hsh.byteOf x k : Nat) : Int) = (x : Int) / 2 ^ (8 * k) % 256 := by
  unfold Hsh.byteOf
  have e : (256 : Nat) ^ k = 2 ^ (8 * k) := by rw [Nat.pow_mul]
  rw [e, Int.natCast_emod, Int.natCast_ediv, Int.natCast_pow]
  rfl

/-! ### Stream -/
/-- What the stream's memory holds when the first a bytes are there. -/
def stg (key n a : Nat) : Array Value := ((List.range n).map fun i => if i < a then Value.int .u8 (Hsh.streamByte key i : Nat) else .int .u8 0).toArray
theorem stg_size (key n a : Nat) : (stg key n a).size = n := by simp [stg]
theorem stg_get (key n a i : Nat) (h : i < n) : (stg key n a)[i]? = some (if i < a then Value.int .u8 (Hsh.streamByte key i : Nat) else .int .u8 0) := by
  simp [stg, List.getElem?_range h]
theorem stg_zero (key n : Nat) : madeCells #[.int .u8 0] (n * 1) = stg key n 0 := by
  apply Array.ext
  · rw [size_madeCells, stg_size, Nat.mul_one]
  · intro i h1 h2
    rw [stg_size] at h2
    have h := stg_get key n 0 i h2
    rw [Array.getElem?_eq_getElem (by rw [stg_size]; exact h2)] at h
    injection h with h
    rw [h]
    simp [madeCells, Nat.mod_one]
theorem stg_more (key n a b : Nat) (ha : n ≤ a) (hb : n ≤ b) : stg key n a = stg key n b := by
  unfold stg
  congr 1
  refine List.map_congr_left fun i hi => ?_
  have hi := List.mem_range.1 hi
  rw [if_pos (by omega), if_pos (by omega)]
theorem stg_fill (key n k : Nat) : ∀ j, j ≤ 7 → 7 * k + j ≤ n → fillA (stg key n (7 * k)) (7 * k) (Hsh.streamWord key k) j = stg key n (7 * k + j)
  | 0, _, _ => rfl
  | j + 1, hj, hn => by
    rw [fillA, stg_fill key n k j (by omega) (by omega)]
    apply Array.ext
    · rw [Array.size_setIfInBounds, stg_size, stg_size]
    · intro i h1 h2
      rw [stg_size] at h2
      have e1 := stg_get key n (7 * k + (j + 1)) i h2
      rw [Array.getElem?_eq_getElem (by rw [stg_size]; exact h2)] at e1
      injection e1 with e1
      rw [e1, Array.getElem_setIfInBounds (by rw [stg_size]; exact h2)]
      by_cases hi : 7 * k + j = i
      · rw [if_pos hi, if_pos (by omega)]
        unfold Hsh.streamByte
        rw [show i / 7 = k by omega, show i % 7 = j by omega]
      · rw [if_neg hi]
        have e2 := stg_get key n (7 * k + j) i h2
        rw [Array.getElem?_eq_getElem (by rw [stg_size]; exact h2)] at e2
        injection e2 with e2
        rw [e2]
        by_cases h3 : i < 7 * k + j
        · rw [if_pos h3, if_pos (by omega)]
        · rw [if_neg h3, if_neg (by omega)]
theorem stg_stream (key n : Nat) : stg key n n = (u8s (Hsh.stream key n)).toArray := by
  unfold stg u8s Hsh.stream
  rw [List.map_map]
  congr 1
  refine List.map_congr_left fun i hi => ?_
  rw [if_pos (List.mem_range.1 hi)]
  show _ = Value.int .u8 ((Hsh.streamU key i).toNat : Int)
  rw [Hsh.streamU_val]

theorem streamword_any (key k g : Nat) (w : World) (hk : key < 18446744073709551616) (hkk : k < 18446744073709551616) (hg : Blk w g 22 #[.int .u64 key, .int .u64 k]) :
    Calls Try.prog 40 #[.string ⟨#[115, 116, 114, 101, 97, 109]⟩, .slice (some ⟨g, 0, none⟩) 2 2] w fun e w' => e = .returned (.int .u64 (Hsh.streamWord key k : Nat)) ∧ Below w.heap.size w w' :=
  of_any ⟨#[115, 116, 114, 101, 97, 109]⟩ (some ⟨g, 0, none⟩) 2 2 [key, k] w (by decide) rfl (by omega) (by simp; omega) (fun _ => ⟨g, 0, rfl, hg.lt, fun i u hu => by
    rw [Nat.zero_add, hg.cell i]
    simpa [u64s] using hu⟩)

theorem info_u8 : (Try.prog.info? 5).map (fun i => (i.zero, i.size, i.bytes)) = some (some (.int .u8 0), 1, 1) := by kernel_rfl
theorem make_u8 (key n : Nat) (hn : n ≤ 1048576) (W : World) :
    (Instr.makeSlice 23 (.int .i64 (n : Int)) (.int .i64 (n : Int))).run Try.prog W = .ok (.slice (some ⟨W.heap.size, 0, none⟩) n n) (W.alloc (.cells (stg key n 0) 5)) := by
  obtain ⟨i0, hi, hz0, hz1, hz2⟩ := info_parts info_u8
  have h := run_make (P := Try.prog) W 23 5 i0 (.int .u8 0) Try.underlying23 hi hz0 .i64 .i64 (n : Int) (n : Int) (by omega) (by omega) (by rw [hz2]; omega) (by omega)
  rw [hz1] at h
  rw [h]
  simp only [Int.toNat_natCast]
  rw [show (Value.int IntKind.u8 0).cells = #[.int .u8 0] from rfl, stg_zero]

end Go.Proofs.Ytdiacpadbndncaa
