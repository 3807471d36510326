/-
  The statement DrawBehind: the walk, over natural numbers and lists. No condition but what fits memory.
-/
import Derived.Test.YtkicjjcangkneaaDoorLawE
namespace Go.Proofs.YtkicjjcangkneaaDoor
open Go.RowKit

/-! ### DrawBehind -/
end Go.Proofs.YtkicjjcangkneaaDoor
