/-
  The references' sum of a label and numbers, of bytes, and secrets: the same plain functions as package hash's; what was there is left as it was. For labels and rows of up to a million.
-/
import Derived.Test.YtalljoneflepiaaRefW
namespace Go.Proofs.Ytalljoneflepiaa
open Go.RowKit

namespace Hsh
/-- What the reference sums up. -/
def rall (label : List UInt8) (l : List Nat) : List Nat := words label ++ l.length :: (l.map (· % 2305843009213693951) ++ [0])
theorem rall_of (label : List UInt8) (l : List Nat) : fold label.length 1 (rall label l) = of label l := by
  refine fold_mod _ _ ?_ _ _
  have e : (fun x : Nat => x % 2305843009213693951 % Fld.P) = fun x => x % Fld.P := by
    funext x
    rw [Fld.P_val]
    omega
  simp only [rall, all, List.map_append, List.map_cons, List.map_map]
  congr 2
  congr 1
  refine List.map_congr_left fun x _ => ?_
  show x % 2305843009213693951 % Fld.P = x % Fld.P
  rw [Fld.P_val]; omega
end Hsh

end Go.Proofs.Ytalljoneflepiaa
