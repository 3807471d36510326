/-
  Package seal: the closure that tells the pad, bytes that are masked by it, and the tag; what was there is left as it was. Keys of 64 bits, up to 2^20 bytes.
-/
import Derived.Test.YtdiacpadbndncaaLawD
import Derived.Test.YtdiacpadbndncaaSea
import Derived.Deep.RegionHeld3
namespace Go.Proofs.Ytdiacpadbndncaa
open Go.RowKit

theorem Sl.below_new {w w' : World} {o : Obj} (h : Below (w.alloc o).heap.size (w.alloc o) w') : Below w.heap.size w w' :=
  ((Below.refl _ w).alloc (Nat.le_refl _) o).trans (h.mono (by simp))
theorem Sl.rd_blk {w : World} {g t : Nat} {cs : Array Value} {l : List Nat} (h : Blk w g t cs) (hc : cs = (u64s l).toArray) : Rd w.heap.size w (some ⟨g, 0, none⟩) (u64s l) := by
  subst hc
  exact Rd.of_blk h

theorem Sl.cell_set {w : World} {B j b o : Nat} {u v : Value} (hne : b ≠ B) (h : w.cell? ⟨b, o, none⟩ = some v) : (w.setCell ⟨B, j, none⟩ u).cell? ⟨b, o, none⟩ = some v :=
  (World.cell?_setCell_other _ _ _ _ (fun e => hne (by injection e with e1; exact e1.symm))).trans h

theorem secret_at (k B : Nat) (w : World) (hk : k < 18446744073709551616) (hB : Blk w B 22 #[.int .u64 (k : Int)]) :
    Calls Try.prog 26 #[.string ⟨#[115, 101, 97, 108]⟩, .slice (some ⟨B, 0, none⟩) 1 1] w fun e w' => e = .returned (.int .u64 (Sl.key k : Nat)) ∧ Below w.heap.size w w' :=
  secret_any ⟨#[115, 101, 97, 108]⟩ _ 1 1 [k] w (by decide) rfl (by omega) (by
    intro x hx
    rw [List.mem_singleton.1 hx]
    exact hk) (Sl.rd_blk hB rfl)

/-- What the closure has caught: the pad of a key. -/
def Pad (w : World) (p k n : Nat) : Prop :=
  ∃ g, p < w.heap.size ∧ g < w.heap.size ∧ w.cell? ⟨p, 0, none⟩ = some (.slice (some ⟨g, 0, none⟩) n n) ∧ Blk w g 5 (u8s (Sl.pad k n)).toArray
theorem Pad.below {w w' : World} {p k n : Nat} (h : Pad w p k n) (hb : Below w.heap.size w w') : Pad w' p k n := by
  obtain ⟨g, h1, h2, h3, h4⟩ := h
  have hs := hb.size
  exact ⟨g, by omega, by omega, (hb.cell (p := ⟨p, 0, none⟩) h1).trans h3, h4.below hb h2⟩

theorem pad_get (k n i : Nat) (h : i < n) : (u8s (Sl.pad k n)).toArray[i]? = some (.int .u8 ((Hsh.streamU (Sl.key k) i).toNat : Int)) := by
  simp [u8s, Sl.pad, Hsh.stream, h]

/-! ### bytes that are filled in one by one -/
/-- What a row of n bytes holds when the first j of xs are there. -/
def sta (xs : List UInt8) (n j : Nat) : Array Value := ((List.range n).map fun i => if i < j then Value.int .u8 (((xs[i]?.getD 0).toNat : Nat) : Int) else .int .u8 0).toArray
theorem sta_size (xs : List UInt8) (n j : Nat) : (sta xs n j).size = n := by simp [sta]
theorem sta_get (xs : List UInt8) (n j i : Nat) (h : i < n) : (sta xs n j)[i]? = some (if i < j then Value.int .u8 (((xs[i]?.getD 0).toNat : Nat) : Int) else .int .u8 0) := by
  simp [sta, h]
theorem sta_zero (xs : List UInt8) (n : Nat) : madeCells #[.int .u8 0] (n * 1) = sta xs n 0 := by
  apply Array.ext_getElem?
  intro i
  rcases Nat.lt_or_ge i n with h | h
  · rw [sta_get xs n 0 i h, if_neg (by omega)]
    simp [madeCells, h, Nat.mod_one]
  · rw [Array.getElem?_eq_none (xs := madeCells #[.int .u8 0] (n * 1)) (by simp [madeCells]; exact h), Array.getElem?_eq_none (by rw [sta_size]; exact h)]
theorem sta_set (xs : List UInt8) (n j : Nat) (hj : j < n) (x : UInt8) (hx : xs[j]? = some x) : (sta xs n j).setIfInBounds j (.int .u8 (x.toNat : Int)) = sta xs n (j + 1) := by
  apply Array.ext_getElem?
  intro i
  rw [Array.getElem?_setIfInBounds]
  rcases Nat.lt_or_ge i n with h | h
  · rw [sta_get xs n (j + 1) i h]
    by_cases e : j = i
    · subst e
      rw [if_pos rfl, if_pos (by rw [sta_size]; exact h), if_pos (by omega), hx]
      rfl
    · rw [if_neg e, sta_get xs n j i h]
      by_cases h1 : i < j
      · rw [if_pos h1, if_pos (by omega)]
      · rw [if_neg h1, if_neg (by omega)]
  · rw [Array.getElem?_eq_none (by rw [sta_size]; exact h), if_neg (by omega), Array.getElem?_eq_none (by rw [sta_size]; exact h)]
theorem sta_full (xs : List UInt8) (n : Nat) (hn : n = xs.length) : sta xs n n = (u8s xs).toArray := by
  apply Array.ext_getElem?
  intro i
  rcases Nat.lt_or_ge i n with h | h
  · rw [sta_get xs n n i h, if_pos h]
    simp [u8s, List.getElem?_eq_getElem (show i < xs.length by omega)]
  · rw [Array.getElem?_eq_none (by rw [sta_size]; exact h), Array.getElem?_eq_none (by simp [u8s]; omega)]
theorem make_sta (xs : List UInt8) (n : Nat) (hn : n ≤ 1048576) (W : World) :
    (Instr.makeSlice 23 (.int .i64 (n : Int)) (.int .i64 (n : Int))).run Try.prog W = .ok (.slice (some ⟨W.heap.size, 0, none⟩) n n) (W.alloc (.cells (sta xs n 0) 5)) := by
  obtain ⟨i0, hi, hz0, hz1, hz2⟩ := info_parts info_u8
  have h := run_make (P := Try.prog) W 23 5 i0 (.int .u8 0) Try.underlying23 hi hz0 .i64 .i64 (n : Int) (n : Int) (by omega) (by omega) (by rw [hz2]; omega) (by omega)
  rw [hz1] at h
  rw [h]
  simp only [Int.toNat_natCast]
  rw [show (Value.int IntKind.u8 0).cells = #[.int .u8 0] from rfl, sta_zero xs]

theorem u8_xor_is (a b : UInt8) : bits .xor .u8 ((a.toNat : Nat) : Int) ((b.toNat : Nat) : Int) = (((a ^^^ b).toNat : Nat) : Int) := by
  rw [u8_xor_nat _ _ a.toNat_lt b.toNat_lt, UInt8.toNat_xor]

/-! ### the tag -/
theorem of3_at (k x y B : Nat) (w : World) (hk : k < 18446744073709551616) (hx : x < 18446744073709551616) (hy : y < 18446744073709551616) (hB : Blk w B 22 #[.int .u64 (k : Int), .int .u64 (x : Int), .int .u64 (y : Int)]) :
    Calls Try.prog 40 #[.string ⟨#[109, 97, 99]⟩, .slice (some ⟨B, 0, none⟩) 3 3] w fun e w' => e = .returned (.int .u64 (Hsh.of Sl.macLabel [k, x, y] : Nat)) ∧ Below w.heap.size w w' :=
  of_any ⟨#[109, 97, 99]⟩ _ 3 3 [k, x, y] w (by decide) rfl (by omega) (by
    intro z hz
    simp only [List.mem_cons, List.not_mem_nil, or_false] at hz
    rcases hz with rfl | rfl | rfl <;> assumption) (Sl.rd_blk hB rfl)

theorem tagOf_get (x j : Nat) (hj : j < 8) : (Sl.tagOf x)[j]? = some (Sl.tagU x j) := by
  unfold Sl.tagOf
  rw [List.getElem?_map, List.getElem?_range hj]
  rfl

end Go.Proofs.Ytdiacpadbndncaa
