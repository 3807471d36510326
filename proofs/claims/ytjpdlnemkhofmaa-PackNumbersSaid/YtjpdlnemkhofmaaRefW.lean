/-
  The references of chapter 2: words of bytes, sums of labels, of bytes, secrets; they answer the same plain functions as package hash; what was there is left as it was.
-/
import Derived.Test.YtjpdlnemkhofmaaSame
namespace Go.Proofs.Ytjpdlnemkhofmaa
open Go.RowKit

theorem le_drop (xs : List UInt8) (p b : Nat) (hp : p < b) (hb : b ≤ xs.length) :
    Hsh.le ((xs.drop p).take (b - p)) = (xs[p]'(by omega)).toNat + 256 * Hsh.le ((xs.drop (p + 1)).take (b - (p + 1))) := by
  rw [List.drop_eq_getElem_cons (show p < xs.length by omega), show b - p = (b - (p + 1)) + 1 by omega, List.take_succ_cons]
  rfl
theorem le_part_lt (xs : List UInt8) (p b : Nat) (hpb : b ≤ p + 6) : Hsh.le ((xs.drop p).take (b - p)) < 281474976710656 := by
  have h := Hsh.le_lt ((xs.drop p).take (b - p))
  have h2 : (256 : Nat) ^ ((xs.drop p).take (b - p)).length ≤ 256 ^ 6 := Nat.pow_le_pow_right (by omega) (by rw [List.length_take]; omega)
  have h3 : (256 : Nat) ^ 6 = 281474976710656 := by decide
  omega

theorem quiet_any {P : Program} {f : FuncId} {args : Array Value} {w : World} {n : Nat} {v : Value} (h : ∀ W : World, Calls P f args W fun e w' => e = .returned v ∧ ∃ m, w' = W.drewN m) :
    Calls P f args (w.drewN n) fun e w'' => e = .returned v ∧ ∃ m, w'' = w.drewN m :=
  (h _).mono fun _ _ ⟨he, m, hm⟩ => ⟨he, n + m, by rw [hm, World.drewN_drewN]⟩
theorem quiet_same {P : Program} {f : FuncId} {args : Array Value} {v : Value} (h : ∀ W : World, Calls P f args W fun e w' => e = .returned v ∧ W = w') (W : World) : Calls P f args W fun e w' => e = .returned v ∧ ∃ m, w' = W.drewN m :=
  (h W).mono fun _ _ ⟨he, hw⟩ => ⟨he, 0, hw ▸ rfl⟩

theorem cell_block {W : World} {B t : Nat} {cs : Array Value} {fr : Nat × Nat} (h : W.heap[B]? = some (.cells cs t fr)) (i : Nat) : W.cell? ⟨B, i, none⟩ = cs[i]? := by simp [World.cell?, h]
theorem label_bytes (s : ByteArray) (w : World) : ∃ (cap : Nat) (w1 : World), (convert 9 23 (.string s)).run Try.prog w = .ok (.slice (some ⟨w.heap.size, 0, none⟩) s.size cap) w1 ∧
    Rd w1.heap.size w1 (some ⟨w.heap.size, 0, none⟩) (u8s s.data.toList) ∧ Below w.heap.size w w1 := by
  have h := run_bytes_of_string (P := Try.prog) w 9 23 5 s Try.underlying9 Try.underlying23 Try.underlying5
  refine ⟨_, _, h, ?_, (below_to_drew (Below.refl _ w)).alloc (Nat.le_refl _) _⟩
  intro _
  refine ⟨_, 0, rfl, by simp, fun i u hu => ?_⟩
  rw [Nat.zero_add]
  obtain ⟨cap, hcap⟩ : ∃ cap, cap = grownCap w s.size 0 5 := ⟨_, rfl⟩
  rw [← hcap]
  have hi : i < s.data.size := by
    rcases Nat.lt_or_ge i s.data.size with h1 | h1
    · exact h1
    · unfold u8s at hu
      rw [List.getElem?_eq_none (by simpa using h1)] at hu
      cases hu
  have hb := bytesRow_at s cap i hi
  have hcell : (w.drew.alloc (.cells (bytesRow s cap) 5 ((bytesRow s cap).size, (bytesRow s cap).size + 1))).cell? ⟨w.heap.size, i, none⟩ = (bytesRow s cap)[i]? :=
    cell_block (heap_alloc_new w.drew (.cells (bytesRow s cap) 5 ((bytesRow s cap).size, (bytesRow s cap).size + 1))) i
  rw [hcell, hb, ← hu]
  unfold u8s
  rw [List.getElem?_map, List.getElem?_eq_getElem (by simpa using hi)]
  rfl

end Go.Proofs.Ytjpdlnemkhofmaa
