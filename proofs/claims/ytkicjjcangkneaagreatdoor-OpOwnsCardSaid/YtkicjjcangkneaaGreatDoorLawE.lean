/-
  The statements DrawSecrets and DrawAgain: the walks, over natural numbers and lists. No condition but what fits memory.
-/
import Derived.Test.YtkicjjcangkneaaGreatDoorLiv
namespace Go.Proofs.YtkicjjcangkneaaGreatDoor
open Go.RowKit

theorem Kp.rd {lo B : Nat} {w : World} {A : Option Addr} {l : List Nat} (h : Kp lo w A l) (hB : w.heap.size ≤ B) : Rd B w A (u64s l) := fun hp => by
  obtain ⟨b, off, e, _, h2, hc⟩ := h (by rw [u64s_len] at hp; exact hp)
  exact ⟨b, off, e, by omega, hc⟩

theorem take_lt {xs : List Nat} {n : Nat} (h : ∀ x ∈ xs, x < 18446744073709551616) : ∀ x ∈ xs.take n, x < 18446744073709551616 := fun x hx => h x (List.mem_of_mem_take hx)
theorem row_len {k : IntKind} {w : World} {a : Option Addr} {len cap : Nat} {zs : List Int}
    (h : (a = none ∧ len = 0 ∧ cap = 0 ∧ zs = []) ∨
      ∃ x, a = some x ∧ len ≤ cap ∧ cap ≤ maxLen ∧ zs.length = cap ∧ (∀ i, i < zs.length → w.cell? (x.add i) = some (.int k (zs.getD i 0))) ∧ ∀ n ∈ zs, (Lit.int k n).wf = true) : len ≤ 9223372036854775807 := by
  rcases h with ⟨_, rfl, _, _⟩ | ⟨x, _, hl, hm, _⟩
  · omega
  · unfold maxLen at hm
    omega

/-! ### DrawSecrets -/
/-! ### DrawAgain -/
end Go.Proofs.YtkicjjcangkneaaGreatDoor
