/-
  DERIVED. GIVEN WITH THE SEED: THE CARDS: each row of YtkicjjcangkneaaDoorRows.lean that lists a variable, with what it lists TIED to the program's text (the seventh form; the later family's looks); each row that meets fmt, with fmt's text TOLD by the authors' own Lean function (tested against real Go, not proved from fmt's source: count such statements apart). THE CARD IS WHAT COUNTS. Prove the row's statement (the work); the ties are given (YtkicjjcangkneaaDoorTie.lean); close each card by the builder's one call (the guide's Derived/Test/ToyasCard.lean, 'card_holds'). Laid BY PROGRAM, IN A SANDBOX (cutbox-door.mjs). By AI agents, Wed Nov 11 2026. No macro, syntax, notation, axiom, sorry.
-/
import Derived.Test.YtkicjjcangkneaaDoorRows
import GoSem.ClaimSeven
namespace Go.Proofs.YtkicjjcangkneaaDoor
namespace Rows

/-- THE TIED CARD OF 'huddlelaw11.OpShort'. -/
def opShortCard : Claim7 := { stood := { row := opShortRow, standIns := [], harness := (true, "4fcbc475b27b06949e8936963bf59e07afe8eb223c3e6b52f34c1069863b483c"), looks := false }, kinds := [], alts := [], laidByText := true, laidKinds := [.data], laidTests := true, laidLooks := .later }
def OpShortCardSaid : Prop := Claim7.holds Tryd.pinned (.plain (OpenSpec.ofChange opShortSpec)) opShortCard

/-- THE TIED CARD OF 'huddlelaw11.OpOrder'. -/
def opOrderCard : Claim7 := { stood := { row := opOrderRow, standIns := [], harness := (true, "4fcbc475b27b06949e8936963bf59e07afe8eb223c3e6b52f34c1069863b483c"), looks := false }, kinds := [], alts := [], laidByText := true, laidKinds := [.data], laidTests := true, laidLooks := .later }
def OpOrderCardSaid : Prop := Claim7.holds Tryd.pinned (.plain (OpenSpec.ofChange opOrderSpec)) opOrderCard

/-- THE SECOND FORM's CARD OF 'huddlelaw11.OpShort'. -/
def opShortUptoCard : Claim7 := { stood := { row := opShortUptoRow, standIns := [], harness := (true, "4fcbc475b27b06949e8936963bf59e07afe8eb223c3e6b52f34c1069863b483c"), looks := false }, kinds := [], alts := [], laidByText := true, laidKinds := [.data], laidTests := true, laidLooks := .later }
def OpShortUptoCardSaid : Prop := Claim7.holds Tryd.pinned (.plain (OpenSpec.upto opShortSpec)) opShortUptoCard

/-- THE SECOND FORM's CARD OF 'huddlelaw11.OpOrder'. -/
def opOrderUptoCard : Claim7 := { stood := { row := opOrderUptoRow, standIns := [], harness := (true, "4fcbc475b27b06949e8936963bf59e07afe8eb223c3e6b52f34c1069863b483c"), looks := false }, kinds := [], alts := [], laidByText := true, laidKinds := [.data], laidTests := true, laidLooks := .later }
def OpOrderUptoCardSaid : Prop := Claim7.holds Tryd.pinned (.plain (OpenSpec.upto opOrderSpec)) opOrderUptoCard
end Rows
end Go.Proofs.YtkicjjcangkneaaDoor
