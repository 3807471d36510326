/-
  NARROWER THAN 'FOR EVERY INPUT', by the rows' own cells (each row's printed sentence says how): OpChecks: laid · OpPuts: laid · OpRound: laid · OpSigns: laid · OpSame: laid · OpOwns: laid.
  DERIVED. THE GIVEN ROWS OF THIS SEAT. 6 by the template 'for every input the law returns true; each argument reads behind the call as it read before'; 0 by the template 'total and deterministic' (their statements: YtkicjjcangkneaaGreatDoorTotals.lean).
  GIVEN WITH THE SEED: the statements are not yours to turn. If you find one false, say at which input.
  Laid BY PROGRAM, IN A SANDBOX (cutbox-rows.mjs): the forced cells as the released guide's own fill.sh prints them over the translation d8931802bb9f711f… (all of the seat's roots in one cut). By AI agents, Wed Nov 11 2026. No macro, syntax, notation, axiom, sorry.
-/
import Derived.Test.YtkicjjcangkneaaGreatDoorChecked
import GoSem.Claim
import GoSem.ClaimJoined
import GoSem.ClaimMapViews
import Derived.JoinedTies
import Derived.KernelRfl
namespace Go.Proofs.YtkicjjcangkneaaGreatDoor
/- THE CELL 'sum', in the pinned program and in every row, IS THE sha256 OF THE DUMP (.gsa) THAT YtkicjjcangkneaaGreatDoorProg.lean LOADS. Nothing in Lean hashes anything: it is a label: what it is worth is what the hold of that sum in a sandbox is worth. -/
noncomputable def Tryz.pinned : Pinned := { name := "ytkicjjcangkneaagreatdoor", sum := "d8931802bb9f711fe9dcdf070f011d0ccb64dc2853980caa0e033b55f2936dd3", checked := Tryz.checked }
namespace Rows
def none {H : Type} : Left H := { results := [], args := [] }

/- WHAT THE LISTED PACKAGE-LEVEL VARIABLES READ AS WHEN THE CALL BEGINS. Each datum BY PROGRAM (the guide's laid-datum.mjs) off the statement by which the dump's own 'gosem.cut.vars' lays the variable. In a bare row this is a premise. The card (YtkicjjcangkneaaGreatDoorCards.lean) ties it to the program's text. -/
def laid_huddle_op_kinds {H : Type} : DataW H := .agg [.lit (.int .u16 0), .lit (.int .u16 2064), .lit (.int .u16 32793), .lit (.int .u16 21), .lit (.int .u16 16), .lit (.int .u16 12), .lit (.int .u16 480), .lit (.int .u16 640), .lit (.int .u16 512), .lit (.int .u16 31744), .lit (.int .u16 8704), .lit (.int .u16 8705), .lit (.int .u16 512), .lit (.int .u16 33299)]

/-- 'huddlelaw11.OpChecks': WHATEVER THE INPUT: true; the input reads as it did. -/
def opChecksSpec : ChangeSpec := { name := "opChecks", fn := fun _ => fun
  | [d1, d2, d3, d4, d5] => { results := [.lit (.bool true)], args := [d1, d2, d3, d4, d5] }
  | _ => none }
def opChecksRow : OpenClaim := { program := "ytkicjjcangkneaagreatdoor", sum := "d8931802bb9f711fe9dcdf070f011d0ccb64dc2853980caa0e033b55f2936dd3", func := "huddle/huddlelaw11.OpChecks", spec := "opChecks", unfollowed := true, recurses := true, named := ["huddle/op.kinds"], apart := false, laid := [("huddle/op.kinds", laid_huddle_op_kinds)] }
def OpChecksSaid : Prop := opChecksRow.holds Tryz.pinned (OpenSpec.ofChange opChecksSpec)

/-- ITS FALSE NEIGHBOUR: 'it returns false'. Refute it at one input. -/
def opChecksWrong : ChangeSpec := { name := "opChecks", fn := fun _ => fun
  | [d1, d2, d3, d4, d5] => { results := [.lit (.bool false)], args := [d1, d2, d3, d4, d5] }
  | _ => none }
def OpChecksWrongFalsely : Prop := opChecksRow.holds Tryz.pinned (OpenSpec.ofChange opChecksWrong)

/-- 'huddlelaw11.OpPuts': WHATEVER THE INPUT: true; the input reads as it did. -/
def opPutsSpec : ChangeSpec := { name := "opPuts", fn := fun _ => fun
  | [d1, d2, d3, d4] => { results := [.lit (.bool true)], args := [d1, d2, d3, d4] }
  | _ => none }
def opPutsRow : OpenClaim := { program := "ytkicjjcangkneaagreatdoor", sum := "d8931802bb9f711fe9dcdf070f011d0ccb64dc2853980caa0e033b55f2936dd3", func := "huddle/huddlelaw11.OpPuts", spec := "opPuts", unfollowed := true, recurses := true, named := ["huddle/op.kinds"], apart := false, laid := [("huddle/op.kinds", laid_huddle_op_kinds)] }
def OpPutsSaid : Prop := opPutsRow.holds Tryz.pinned (OpenSpec.ofChange opPutsSpec)

/-- ITS FALSE NEIGHBOUR: 'it returns false'. Refute it at one input. -/
def opPutsWrong : ChangeSpec := { name := "opPuts", fn := fun _ => fun
  | [d1, d2, d3, d4] => { results := [.lit (.bool false)], args := [d1, d2, d3, d4] }
  | _ => none }
def OpPutsWrongFalsely : Prop := opPutsRow.holds Tryz.pinned (OpenSpec.ofChange opPutsWrong)

/-- 'huddlelaw11.OpRound': WHATEVER THE INPUT: true; the input reads as it did. -/
def opRoundSpec : ChangeSpec := { name := "opRound", fn := fun _ => fun
  | [d1, d2, d3, d4, d5, d6] => { results := [.lit (.bool true)], args := [d1, d2, d3, d4, d5, d6] }
  | _ => none }
def opRoundRow : OpenClaim := { program := "ytkicjjcangkneaagreatdoor", sum := "d8931802bb9f711fe9dcdf070f011d0ccb64dc2853980caa0e033b55f2936dd3", func := "huddle/huddlelaw11.OpRound", spec := "opRound", unfollowed := true, recurses := true, named := ["huddle/op.kinds"], apart := false, laid := [("huddle/op.kinds", laid_huddle_op_kinds)] }
def OpRoundSaid : Prop := opRoundRow.holds Tryz.pinned (OpenSpec.ofChange opRoundSpec)

/-- ITS FALSE NEIGHBOUR: 'it returns false'. Refute it at one input. -/
def opRoundWrong : ChangeSpec := { name := "opRound", fn := fun _ => fun
  | [d1, d2, d3, d4, d5, d6] => { results := [.lit (.bool false)], args := [d1, d2, d3, d4, d5, d6] }
  | _ => none }
def OpRoundWrongFalsely : Prop := opRoundRow.holds Tryz.pinned (OpenSpec.ofChange opRoundWrong)

/-- 'huddlelaw11.OpSigns': WHATEVER THE INPUT: true; the input reads as it did. -/
def opSignsSpec : ChangeSpec := { name := "opSigns", fn := fun _ => fun
  | [d1, d2, d3] => { results := [.lit (.bool true)], args := [d1, d2, d3] }
  | _ => none }
def opSignsRow : OpenClaim := { program := "ytkicjjcangkneaagreatdoor", sum := "d8931802bb9f711fe9dcdf070f011d0ccb64dc2853980caa0e033b55f2936dd3", func := "huddle/huddlelaw11.OpSigns", spec := "opSigns", inPlace := ["math/bits.Add64"], unfollowed := true, recurses := true, named := ["math/bits.divideError", "math/bits.overflowError", "huddle/op.kinds"], apart := false, laid := [("huddle/op.kinds", laid_huddle_op_kinds)] }
def OpSignsSaid : Prop := opSignsRow.holds Tryz.pinned (OpenSpec.ofChange opSignsSpec)

/-- ITS FALSE NEIGHBOUR: 'it returns false'. Refute it at one input. -/
def opSignsWrong : ChangeSpec := { name := "opSigns", fn := fun _ => fun
  | [d1, d2, d3] => { results := [.lit (.bool false)], args := [d1, d2, d3] }
  | _ => none }
def OpSignsWrongFalsely : Prop := opSignsRow.holds Tryz.pinned (OpenSpec.ofChange opSignsWrong)

/-- 'huddlelaw11.OpSame': WHATEVER THE INPUT: true; the input reads as it did. -/
def opSameSpec : ChangeSpec := { name := "opSame", fn := fun _ => fun
  | [d1, d2, d3, d4] => { results := [.lit (.bool true)], args := [d1, d2, d3, d4] }
  | _ => none }
def opSameRow : OpenClaim := { program := "ytkicjjcangkneaagreatdoor", sum := "d8931802bb9f711fe9dcdf070f011d0ccb64dc2853980caa0e033b55f2936dd3", func := "huddle/huddlelaw11.OpSame", spec := "opSame", unfollowed := true, recurses := true, named := ["huddle/op.kinds"], apart := false, laid := [("huddle/op.kinds", laid_huddle_op_kinds)] }
def OpSameSaid : Prop := opSameRow.holds Tryz.pinned (OpenSpec.ofChange opSameSpec)

/-- ITS FALSE NEIGHBOUR: 'it returns false'. Refute it at one input. -/
def opSameWrong : ChangeSpec := { name := "opSame", fn := fun _ => fun
  | [d1, d2, d3, d4] => { results := [.lit (.bool false)], args := [d1, d2, d3, d4] }
  | _ => none }
def OpSameWrongFalsely : Prop := opSameRow.holds Tryz.pinned (OpenSpec.ofChange opSameWrong)

/-- 'huddlelaw11.OpOwns': WHATEVER THE INPUT: true; the input reads as it did. -/
def opOwnsSpec : ChangeSpec := { name := "opOwns", fn := fun _ => fun
  | [d] => { results := [.lit (.bool true)], args := [d] }
  | _ => none }
def opOwnsRow : OpenClaim := { program := "ytkicjjcangkneaagreatdoor", sum := "d8931802bb9f711fe9dcdf070f011d0ccb64dc2853980caa0e033b55f2936dd3", func := "huddle/huddlelaw11.OpOwns", spec := "opOwns", inPlace := ["math/bits.Add64"], unfollowed := true, recurses := true, named := ["math/bits.divideError", "math/bits.overflowError", "huddle/op.kinds"], apart := false, laid := [("huddle/op.kinds", laid_huddle_op_kinds)] }
def OpOwnsSaid : Prop := opOwnsRow.holds Tryz.pinned (OpenSpec.ofChange opOwnsSpec)

/-- ITS FALSE NEIGHBOUR: 'it returns false'. Refute it at one input. -/
def opOwnsWrong : ChangeSpec := { name := "opOwns", fn := fun _ => fun
  | [d] => { results := [.lit (.bool false)], args := [d] }
  | _ => none }
def OpOwnsWrongFalsely : Prop := opOwnsRow.holds Tryz.pinned (OpenSpec.ofChange opOwnsWrong)

/- THE SECOND FORM. 'bulk': how many values and letters a reading holds, each counted each time it is reached (what is shared counts as often as it is met; a slice's spare places count too). A statement '..UptoSaid' is the law's where the arguments, and the package variables that the reading takes, are together of bulk at most 1048576: NARROWER than '..Said'. Prove '..Said' where nothing that the law and all that it calls make is longer than what came in: it says more and counts as full. Else prove '..UptoSaid'. A law counts once. -/
mutual
def uptoBulk {H : Type} : DataW H → Nat
  | .lit (.string bytes) => bytes.length + 1
  | .lit _ => 1
  | .nil => 1
  | .ptr d => uptoBulk d + 1
  | .slice elems spare => uptoBulkAll elems + uptoBulkAll spare + 1
  | .agg parts => uptoBulkAll parts + 1
  | .iface _ d => uptoBulk d + 1
  | .map entries => uptoBulkEntries entries + 1
  | .held _ => 1
def uptoBulkAll {H : Type} : List (DataW H) → Nat
  | [] => 0
  | d :: r => uptoBulk d + uptoBulkAll r
def uptoBulkEntries {H : Type} : List (Lit × DataW H) → Nat
  | [] => 0
  | x :: r => uptoBulkEntry x + uptoBulkEntries r
def uptoBulkEntry {H : Type} : Lit × DataW H → Nat
  | (.string bytes, d) => bytes.length + uptoBulk d + 1
  | (_, d) => uptoBulk d + 1
 end
def uptoSmall : (H : Type) → List (DataW H) → Bool := fun _ ds => decide (uptoBulkAll ds ≤ 1048576)
def OpenSpec.upto (s : _root_.Go.ChangeSpec) : _root_.Go.OpenSpec := { _root_.Go.OpenSpec.ofChange s with cond := some uptoSmall }

/-- 'huddlelaw11.OpChecks', WHERE WHAT IT READS IS OF BULK AT MOST 1048576: true; the input reads as it did. -/
def opChecksUptoRow : OpenClaim := { program := "ytkicjjcangkneaagreatdoor", sum := "d8931802bb9f711fe9dcdf070f011d0ccb64dc2853980caa0e033b55f2936dd3", func := "huddle/huddlelaw11.OpChecks", spec := "opChecks", unfollowed := true, recurses := true, named := ["huddle/op.kinds"], apart := false, laid := [("huddle/op.kinds", laid_huddle_op_kinds)], narrowed := true }
def OpChecksUptoSaid : Prop := opChecksUptoRow.holds Tryz.pinned (OpenSpec.upto opChecksSpec)

/-- 'huddlelaw11.OpPuts', WHERE WHAT IT READS IS OF BULK AT MOST 1048576: true; the input reads as it did. -/
def opPutsUptoRow : OpenClaim := { program := "ytkicjjcangkneaagreatdoor", sum := "d8931802bb9f711fe9dcdf070f011d0ccb64dc2853980caa0e033b55f2936dd3", func := "huddle/huddlelaw11.OpPuts", spec := "opPuts", unfollowed := true, recurses := true, named := ["huddle/op.kinds"], apart := false, laid := [("huddle/op.kinds", laid_huddle_op_kinds)], narrowed := true }
def OpPutsUptoSaid : Prop := opPutsUptoRow.holds Tryz.pinned (OpenSpec.upto opPutsSpec)

/-- 'huddlelaw11.OpRound', WHERE WHAT IT READS IS OF BULK AT MOST 1048576: true; the input reads as it did. -/
def opRoundUptoRow : OpenClaim := { program := "ytkicjjcangkneaagreatdoor", sum := "d8931802bb9f711fe9dcdf070f011d0ccb64dc2853980caa0e033b55f2936dd3", func := "huddle/huddlelaw11.OpRound", spec := "opRound", unfollowed := true, recurses := true, named := ["huddle/op.kinds"], apart := false, laid := [("huddle/op.kinds", laid_huddle_op_kinds)], narrowed := true }
def OpRoundUptoSaid : Prop := opRoundUptoRow.holds Tryz.pinned (OpenSpec.upto opRoundSpec)

/-- 'huddlelaw11.OpSigns', WHERE WHAT IT READS IS OF BULK AT MOST 1048576: true; the input reads as it did. -/
def opSignsUptoRow : OpenClaim := { program := "ytkicjjcangkneaagreatdoor", sum := "d8931802bb9f711fe9dcdf070f011d0ccb64dc2853980caa0e033b55f2936dd3", func := "huddle/huddlelaw11.OpSigns", spec := "opSigns", inPlace := ["math/bits.Add64"], unfollowed := true, recurses := true, named := ["math/bits.divideError", "math/bits.overflowError", "huddle/op.kinds"], apart := false, laid := [("huddle/op.kinds", laid_huddle_op_kinds)], narrowed := true }
def OpSignsUptoSaid : Prop := opSignsUptoRow.holds Tryz.pinned (OpenSpec.upto opSignsSpec)

/-- 'huddlelaw11.OpSame', WHERE WHAT IT READS IS OF BULK AT MOST 1048576: true; the input reads as it did. -/
def opSameUptoRow : OpenClaim := { program := "ytkicjjcangkneaagreatdoor", sum := "d8931802bb9f711fe9dcdf070f011d0ccb64dc2853980caa0e033b55f2936dd3", func := "huddle/huddlelaw11.OpSame", spec := "opSame", unfollowed := true, recurses := true, named := ["huddle/op.kinds"], apart := false, laid := [("huddle/op.kinds", laid_huddle_op_kinds)], narrowed := true }
def OpSameUptoSaid : Prop := opSameUptoRow.holds Tryz.pinned (OpenSpec.upto opSameSpec)

/-- 'huddlelaw11.OpOwns', WHERE WHAT IT READS IS OF BULK AT MOST 1048576: true; the input reads as it did. -/
def opOwnsUptoRow : OpenClaim := { program := "ytkicjjcangkneaagreatdoor", sum := "d8931802bb9f711fe9dcdf070f011d0ccb64dc2853980caa0e033b55f2936dd3", func := "huddle/huddlelaw11.OpOwns", spec := "opOwns", inPlace := ["math/bits.Add64"], unfollowed := true, recurses := true, named := ["math/bits.divideError", "math/bits.overflowError", "huddle/op.kinds"], apart := false, laid := [("huddle/op.kinds", laid_huddle_op_kinds)], narrowed := true }
def OpOwnsUptoSaid : Prop := opOwnsUptoRow.holds Tryz.pinned (OpenSpec.upto opOwnsSpec)

end Rows
end Go.Proofs.YtkicjjcangkneaaGreatDoor
