/-
  bytes.Equal, slices.Grow of the nil slice, slices.Concat of two slices of bytes: the library's own text is walked; what was there is left as it was. Up to 2^40 bytes.
-/
import Derived.Test.YtdiacpadbndncaaSeb
import Derived.Lib.AppendZerosOnto
import Derived.Lib.SliceRun
namespace Go.Proofs.Ytdiacpadbndncaa
open Go.RowKit

theorem conv_rd (l : List UInt8) (A : Option Addr) (n c B : Nat) (W : World) (hn : n = l.length) (h : Rd B W A (u8s l)) :
    (convert 23 9 (.slice A n c)).run Try.prog W = .ok (.string ⟨l.toArray⟩) W := by
  rcases A with _ | a
  · have hl : l = [] := by
      cases l with
      | nil => rfl
      | cons x y =>
        obtain ⟨b, off, e, _⟩ := h (by simp [u8s])
        cases e
    subst hl
    subst hn
    exact run_convert_bytes_nil (P := Try.prog) (w := W) 23 5 Try.underlying23 Try.underlying5 0 c 9 Try.underlying9
  · rw [hn]
    refine run_convert_bytes_back (P := Try.prog) W 23 9 5 a c l Try.underlying23 Try.underlying5 Try.underlying9 fun j hj => ?_
    obtain ⟨b, off, e, _, hcl⟩ := byte_cell h hj
    injection e with e
    subst e
    rw [Addr.add_lit]
    exact hcl

theorem arr_eq (xs ys : List UInt8) : ((⟨xs.toArray⟩ : ByteArray).toList == (⟨ys.toArray⟩ : ByteArray).toList) = decide (xs = ys) := by
  rw [ByteArray.toList_eq, ByteArray.toList_eq]
  by_cases h : xs = ys
  · subst h; simp
  · rw [decide_eq_false h]
    simpa using h

end Go.Proofs.Ytdiacpadbndncaa
