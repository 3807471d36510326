/-
  The reference's stream of a key: the same bytes as package hash's; what was there is left as it was. For all keys of 64 bits and up to a million bytes.
-/
import Derived.Test.YtdiacpadbndncaaRefO
namespace Go.Proofs.Ytdiacpadbndncaa
open Go.RowKit

theorem u8s_snoc (l : List UInt8) (x : UInt8) : u8s (l ++ [x]) = u8s l ++ [.int .u8 (x.toNat : Int)] := by simp [u8s]

theorem rstreamword_any (key k g : Nat) (w : World) (hg : Blk w g 22 #[.int .u64 key, .int .u64 k]) :
    Calls Try.prog 44 #[.string ⟨#[115, 116, 114, 101, 97, 109]⟩, .slice (some ⟨g, 0, none⟩) 2 2] w fun e w' => e = .returned (.int .u64 (Hsh.streamWord key k : Nat)) ∧ Below w.heap.size w w' :=
  rof_any ⟨#[115, 116, 114, 101, 97, 109]⟩ [key, k] (some ⟨g, 0, none⟩) 2 2 w (by decide) rfl (by omega) (fun _ => ⟨g, 0, rfl, hg.lt, fun i u hu => by
    rw [Nat.zero_add, hg.cell i]
    simpa [u64s] using hu⟩)

theorem own_below {w w' : World} {B e sz n : Nat} {v : Value} {xs : List Value} (h : w.ownsRow B e sz v n xs) (hb : Below w.heap.size w w') : w'.ownsRow B e sz v n xs :=
  h.kept (row := none) ⟨hb.os, hb.tape, hb.output, hb.size, fun i hi _ => hb.block i hi⟩ (by cases hv : v.ownBlock <;> simp)

theorem streamU_at (key k i j x y : Nat) (hj : j = 7 * k + i) (hi : i < 7) (hx : x = Hsh.streamWord key k / 256 ^ i) (hy : y = x % 256) : (Hsh.streamU key j).toNat = y := by
  rw [Hsh.streamU_val]
  unfold Hsh.streamByte Hsh.byteOf
  rw [show j / 7 = k by omega, show j % 7 = i by omega, hy, hx]

end Go.Proofs.Ytdiacpadbndncaa
