/-
  slices.Concat of two slices of bytes: the library's own text is walked: one behind the other, in memory of its own; what was there is left as it was. Up to 2^39 bytes each, the second one not empty.
-/
import Derived.Test.YtdiacpadbndncaaSec
namespace Go.Proofs.Ytdiacpadbndncaa
open Go.RowKit

theorem src_rd {l : List UInt8} {a : Addr} {B : Nat} {w : World} (h : Rd B w (some a) (u8s l)) : ∀ j u, (u8s l)[j]? = some u → w.cell? (a.add j) = some u := by
  intro j u hu
  have hl : 0 < (u8s l).length := by
    cases hx : u8s l with
    | nil => rw [hx] at hu; cases hu
    | cons x y => simp
  obtain ⟨b, off, e, _, hc⟩ := h hl
  injection e with e
  subst e
  rw [Addr.add_lit]
  exact hc j u hu
theorem u8s_one (l : List UInt8) : ∀ u ∈ u8s l, u.oneCell' = true := by
  intro u hu
  obtain ⟨x, _, rfl⟩ := List.mem_map.1 hu
  rfl
theorem u8s_app (l l' : List UInt8) : u8s (l ++ l') = u8s l ++ u8s l' := by simp [u8s]

end Go.Proofs.Ytdiacpadbndncaa
