/-
  The statements' question whether bytes are the same: true just if they are; what was there is left as it was.
-/
import Derived.Test.YtdiacpadbndncaaRefH
namespace Go.Proofs.Ytdiacpadbndncaa
open Go.RowKit

theorem byte_cell {w : World} {B : Nat} {A : Option Addr} {xs : List UInt8} (h : Rd B w A (u8s xs)) {k : Nat} (hk : k < xs.length) : ∃ b off, A = some ⟨b, off, none⟩ ∧ b < B ∧ w.cell? ⟨b, off + k, none⟩ = some (.int .u8 ((xs[k]).toNat : Int)) := by
  obtain ⟨b, off, e, hb, hc⟩ := h.at_ (k := k) (by rw [u8s_len]; exact hk)
  exact ⟨b, off, e, hb, by rw [hc]; simp [u8s]⟩

end Go.Proofs.Ytdiacpadbndncaa
