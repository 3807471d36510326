/-
  The reference's bytes of chapter 7: what is masked, the tag, what is sealed and opened: the same as package seal's; what was there is left as it was. Keys of 64 bits, up to a million bytes.
-/
import Derived.Test.YtdiacpadbndncaaSee
import Derived.Deep.AppendLies
namespace Go.Proofs.Ytdiacpadbndncaa
open Go.RowKit

theorem mask_next (k : Nat) (l : List UInt8) (j : Nat) (hj : j < l.length) : (Sl.mask k l).take (j + 1) = (Sl.mask k l).take j ++ [l[j] ^^^ Hsh.streamU (Sl.key k) j] := by
  rw [List.take_add_one, Sl.mask_get k l j hj]
  rfl
theorem stream_cell {B : Nat} {w : World} {A : Option Addr} {key n j : Nat} (h : Rd B w A (u8s (Hsh.stream key n))) (hj : j < n) : ∃ b off, A = some ⟨b, off, none⟩ ∧ b < B ∧ w.cell? ⟨b, off + j, none⟩ = some (.int .u8 ((Hsh.streamU key j).toNat : Int)) := by
  obtain ⟨b, off, e, hb, hc⟩ := byte_cell h (k := j) (by rw [Hsh.stream_len]; exact hj)
  refine ⟨b, off, e, hb, ?_⟩
  rw [hc]
  simp [Hsh.stream]

theorem rof3_at (k x y B : Nat) (w : World) (hB : Blk w B 22 #[.int .u64 (k : Int), .int .u64 (x : Int), .int .u64 (y : Int)]) :
    Calls Try.prog 44 #[.string ⟨#[109, 97, 99]⟩, .slice (some ⟨B, 0, none⟩) 3 3] w fun e w' => e = .returned (.int .u64 (Hsh.of Sl.macLabel [k, x, y] : Nat)) ∧ Below w.heap.size w w' :=
  rof_any ⟨#[109, 97, 99]⟩ [k, x, y] _ 3 3 w (by decide) rfl (by omega) (Sl.rd_blk hB rfl)
theorem tag_next (s j : Nat) (hj : j < 8) : (Sl.tagOf s).take (j + 1) = (Sl.tagOf s).take j ++ [Sl.tagU s j] := by
  rw [List.take_add_one, tagOf_get s j hj]
  rfl

end Go.Proofs.Ytdiacpadbndncaa
