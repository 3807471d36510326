/-
  The statements' helpers for package draw: the first 8 of some numbers; the reference's number; is a number among some. What was there is left as it was.
-/
import Derived.Test.YtkicjjcangkneaaDoorNxt
namespace Go.Proofs.YtkicjjcangkneaaDoor
open Go.RowKit

/-! ### is a number among some -/
def i64s (l : List Nat) : List Value := l.map fun n : Nat => .int .i64 (n : Int)
theorem i64s_len (l : List Nat) : (i64s l).length = l.length := by simp [i64s]
theorem i64s_snoc (l : List Nat) (x : Nat) : i64s (l ++ [x]) = i64s l ++ [.int .i64 (x : Int)] := by simp [i64s]

end Go.Proofs.YtkicjjcangkneaaDoor
