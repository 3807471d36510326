/-
  The references of chapter 2: words of bytes, sums of labels, of bytes, secrets; they answer the same plain functions as package hash; what was there is left as it was.
-/
import Derived.Test.YtalljoneflepiaaSame
namespace Go.Proofs.Ytalljoneflepiaa
open Go.RowKit

theorem le_drop (xs : List UInt8) (p b : Nat) (hp : p < b) (hb : b ≤ xs.length) :
    Hsh.le ((xs.drop p).take (b - p)) = (xs[p]'(by omega)).toNat + 256 * Hsh.le ((xs.drop (p + 1)).take (b - (p + 1))) := by
  rw [List.drop_eq_getElem_cons (show p < xs.length by omega), show b - p = (b - (p + 1)) + 1 by omega, List.take_succ_cons]
  rfl
theorem le_part_lt (xs : List UInt8) (p b : Nat) (hpb : b ≤ p + 6) : Hsh.le ((xs.drop p).take (b - p)) < 281474976710656 := by
  have h := Hsh.le_lt ((xs.drop p).take (b - p))
  have h2 : (256 : Nat) ^ ((xs.drop p).take (b - p)).length ≤ 256 ^ 6 := Nat.pow_le_pow_right (by omega) (by rw [List.length_take]; omega)
  have h3 : (256 : Nat) ^ 6 = 281474976710656 := by decide
  omega

theorem quiet_any {P : Program} {f : FuncId} {args : Array Value} {w : World} {n : Nat} {v : Value} (h : ∀ W : World, Calls P f args W fun e w' => e = .returned v ∧ ∃ m, w' = W.drewN m) :
    Calls P f args (w.drewN n) fun e w'' => e = .returned v ∧ ∃ m, w'' = w.drewN m :=
  (h _).mono fun _ _ ⟨he, m, hm⟩ => ⟨he, n + m, by rw [hm, World.drewN_drewN]⟩
theorem quiet_same {P : Program} {f : FuncId} {args : Array Value} {v : Value} (h : ∀ W : World, Calls P f args W fun e w' => e = .returned v ∧ W = w') (W : World) : Calls P f args W fun e w' => e = .returned v ∧ ∃ m, w' = W.drewN m :=
  (h W).mono fun _ _ ⟨he, hw⟩ => ⟨he, 0, hw ▸ rfl⟩

theorem cell_block {W : World} {B t : Nat} {cs : Array Value} {fr : Nat × Nat} (h : W.heap[B]? = some (.cells cs t fr)) (i : Nat) : W.cell? ⟨B, i, none⟩ = cs[i]? := by simp [World.cell?, h]
end Go.Proofs.Ytalljoneflepiaa
