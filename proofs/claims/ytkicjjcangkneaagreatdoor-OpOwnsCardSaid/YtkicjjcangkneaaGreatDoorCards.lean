/-
  DERIVED. GIVEN WITH THE SEED: THE CARDS: each row of YtkicjjcangkneaaGreatDoorRows.lean that lists a variable, with what it lists TIED to the program's text (the seventh form; the later family's looks); each row that meets fmt, with fmt's text TOLD by the authors' own Lean function (tested against real Go, not proved from fmt's source: count such statements apart). THE CARD IS WHAT COUNTS. Prove the row's statement (the work); the ties are given (YtkicjjcangkneaaGreatDoorTie.lean); close each card by the builder's one call (the guide's Derived/Test/ToyasCard.lean, 'card_holds'). Laid BY PROGRAM, IN A SANDBOX (cutbox-door.mjs). By AI agents, Wed Nov 11 2026. No macro, syntax, notation, axiom, sorry.
-/
import Derived.Test.YtkicjjcangkneaaGreatDoorRows
import GoSem.ClaimSeven
namespace Go.Proofs.YtkicjjcangkneaaGreatDoor
namespace Rows

/-- THE TIED CARD OF 'huddlelaw11.OpChecks'. -/
def opChecksCard : Claim7 := { stood := { row := opChecksRow, standIns := [], harness := (true, "6449c183b0eefd25618b2e5e06c3c2b7219d1cd5e3a76929b364399b874a2d1b"), looks := false }, kinds := [], alts := [], laidByText := true, laidKinds := [.data], laidTests := true, laidLooks := .later }
def OpChecksCardSaid : Prop := Claim7.holds Tryz.pinned (.plain (OpenSpec.ofChange opChecksSpec)) opChecksCard

/-- THE TIED CARD OF 'huddlelaw11.OpPuts'. -/
def opPutsCard : Claim7 := { stood := { row := opPutsRow, standIns := [], harness := (true, "6449c183b0eefd25618b2e5e06c3c2b7219d1cd5e3a76929b364399b874a2d1b"), looks := false }, kinds := [], alts := [], laidByText := true, laidKinds := [.data], laidTests := true, laidLooks := .later }
def OpPutsCardSaid : Prop := Claim7.holds Tryz.pinned (.plain (OpenSpec.ofChange opPutsSpec)) opPutsCard

/-- THE TIED CARD OF 'huddlelaw11.OpRound'. -/
def opRoundCard : Claim7 := { stood := { row := opRoundRow, standIns := [], harness := (true, "6449c183b0eefd25618b2e5e06c3c2b7219d1cd5e3a76929b364399b874a2d1b"), looks := false }, kinds := [], alts := [], laidByText := true, laidKinds := [.data], laidTests := true, laidLooks := .later }
def OpRoundCardSaid : Prop := Claim7.holds Tryz.pinned (.plain (OpenSpec.ofChange opRoundSpec)) opRoundCard

/-- THE TIED CARD OF 'huddlelaw11.OpSigns'. -/
def opSignsCard : Claim7 := { stood := { row := opSignsRow, standIns := [], harness := (true, "6449c183b0eefd25618b2e5e06c3c2b7219d1cd5e3a76929b364399b874a2d1b"), looks := false }, kinds := [], alts := [], laidByText := true, laidKinds := [.data], laidTests := true, laidLooks := .later }
def OpSignsCardSaid : Prop := Claim7.holds Tryz.pinned (.plain (OpenSpec.ofChange opSignsSpec)) opSignsCard

/-- THE TIED CARD OF 'huddlelaw11.OpSame'. -/
def opSameCard : Claim7 := { stood := { row := opSameRow, standIns := [], harness := (true, "6449c183b0eefd25618b2e5e06c3c2b7219d1cd5e3a76929b364399b874a2d1b"), looks := false }, kinds := [], alts := [], laidByText := true, laidKinds := [.data], laidTests := true, laidLooks := .later }
def OpSameCardSaid : Prop := Claim7.holds Tryz.pinned (.plain (OpenSpec.ofChange opSameSpec)) opSameCard

/-- THE TIED CARD OF 'huddlelaw11.OpOwns'. -/
def opOwnsCard : Claim7 := { stood := { row := opOwnsRow, standIns := [], harness := (true, "6449c183b0eefd25618b2e5e06c3c2b7219d1cd5e3a76929b364399b874a2d1b"), looks := false }, kinds := [], alts := [], laidByText := true, laidKinds := [.data], laidTests := true, laidLooks := .later }
def OpOwnsCardSaid : Prop := Claim7.holds Tryz.pinned (.plain (OpenSpec.ofChange opOwnsSpec)) opOwnsCard

/-- THE SECOND FORM's CARD OF 'huddlelaw11.OpChecks'. -/
def opChecksUptoCard : Claim7 := { stood := { row := opChecksUptoRow, standIns := [], harness := (true, "6449c183b0eefd25618b2e5e06c3c2b7219d1cd5e3a76929b364399b874a2d1b"), looks := false }, kinds := [], alts := [], laidByText := true, laidKinds := [.data], laidTests := true, laidLooks := .later }
def OpChecksUptoCardSaid : Prop := Claim7.holds Tryz.pinned (.plain (OpenSpec.upto opChecksSpec)) opChecksUptoCard

/-- THE SECOND FORM's CARD OF 'huddlelaw11.OpPuts'. -/
def opPutsUptoCard : Claim7 := { stood := { row := opPutsUptoRow, standIns := [], harness := (true, "6449c183b0eefd25618b2e5e06c3c2b7219d1cd5e3a76929b364399b874a2d1b"), looks := false }, kinds := [], alts := [], laidByText := true, laidKinds := [.data], laidTests := true, laidLooks := .later }
def OpPutsUptoCardSaid : Prop := Claim7.holds Tryz.pinned (.plain (OpenSpec.upto opPutsSpec)) opPutsUptoCard

/-- THE SECOND FORM's CARD OF 'huddlelaw11.OpRound'. -/
def opRoundUptoCard : Claim7 := { stood := { row := opRoundUptoRow, standIns := [], harness := (true, "6449c183b0eefd25618b2e5e06c3c2b7219d1cd5e3a76929b364399b874a2d1b"), looks := false }, kinds := [], alts := [], laidByText := true, laidKinds := [.data], laidTests := true, laidLooks := .later }
def OpRoundUptoCardSaid : Prop := Claim7.holds Tryz.pinned (.plain (OpenSpec.upto opRoundSpec)) opRoundUptoCard

/-- THE SECOND FORM's CARD OF 'huddlelaw11.OpSigns'. -/
def opSignsUptoCard : Claim7 := { stood := { row := opSignsUptoRow, standIns := [], harness := (true, "6449c183b0eefd25618b2e5e06c3c2b7219d1cd5e3a76929b364399b874a2d1b"), looks := false }, kinds := [], alts := [], laidByText := true, laidKinds := [.data], laidTests := true, laidLooks := .later }
def OpSignsUptoCardSaid : Prop := Claim7.holds Tryz.pinned (.plain (OpenSpec.upto opSignsSpec)) opSignsUptoCard

/-- THE SECOND FORM's CARD OF 'huddlelaw11.OpSame'. -/
def opSameUptoCard : Claim7 := { stood := { row := opSameUptoRow, standIns := [], harness := (true, "6449c183b0eefd25618b2e5e06c3c2b7219d1cd5e3a76929b364399b874a2d1b"), looks := false }, kinds := [], alts := [], laidByText := true, laidKinds := [.data], laidTests := true, laidLooks := .later }
def OpSameUptoCardSaid : Prop := Claim7.holds Tryz.pinned (.plain (OpenSpec.upto opSameSpec)) opSameUptoCard

/-- THE SECOND FORM's CARD OF 'huddlelaw11.OpOwns'. -/
def opOwnsUptoCard : Claim7 := { stood := { row := opOwnsUptoRow, standIns := [], harness := (true, "6449c183b0eefd25618b2e5e06c3c2b7219d1cd5e3a76929b364399b874a2d1b"), looks := false }, kinds := [], alts := [], laidByText := true, laidKinds := [.data], laidTests := true, laidLooks := .later }
def OpOwnsUptoCardSaid : Prop := Claim7.holds Tryz.pinned (.plain (OpenSpec.upto opOwnsSpec)) opOwnsUptoCard
end Rows
end Go.Proofs.YtkicjjcangkneaaGreatDoor
