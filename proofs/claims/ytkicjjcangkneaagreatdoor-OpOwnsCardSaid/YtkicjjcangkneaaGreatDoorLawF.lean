/-
  The statement DrawBehind: the walk, over natural numbers and lists. No condition but what fits memory.
-/
import Derived.Test.YtkicjjcangkneaaGreatDoorLawE
namespace Go.Proofs.YtkicjjcangkneaaGreatDoor
open Go.RowKit

/-! ### DrawBehind -/
end Go.Proofs.YtkicjjcangkneaaGreatDoor
