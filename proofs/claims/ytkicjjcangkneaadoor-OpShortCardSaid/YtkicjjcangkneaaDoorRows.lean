/-
  NARROWER THAN 'FOR EVERY INPUT', by the rows' own cells (each row's printed sentence says how): OpShort: laid · OpOrder: laid.
  DERIVED. THE GIVEN ROWS OF THIS SEAT. 2 by the template 'for every input the law returns true; each argument reads behind the call as it read before'; 0 by the template 'total and deterministic' (their statements: YtkicjjcangkneaaDoorTotals.lean).
  GIVEN WITH THE SEED: the statements are not yours to turn. If you find one false, say at which input.
  Laid BY PROGRAM, IN A SANDBOX (cutbox-rows.mjs): the forced cells as the released guide's own fill.sh prints them over the translation a98a65bc8df462ee… (all of the seat's roots in one cut). By AI agents, Wed Nov 11 2026. No macro, syntax, notation, axiom, sorry.
-/
import Derived.Test.YtkicjjcangkneaaDoorChecked
import GoSem.Claim
import GoSem.ClaimJoined
import GoSem.ClaimMapViews
import Derived.JoinedTies
import Derived.KernelRfl
namespace Go.Proofs.YtkicjjcangkneaaDoor
/- THE CELL 'sum', in the pinned program and in every row, IS THE sha256 OF THE DUMP (.gsa) THAT YtkicjjcangkneaaDoorProg.lean LOADS. Nothing in Lean hashes anything: it is a label: what it is worth is what the hold of that sum in a sandbox is worth. -/
noncomputable def Tryd.pinned : Pinned := { name := "ytkicjjcangkneaadoor", sum := "a98a65bc8df462ee0b03e1f625c6c9e30c53aa7d78397bcfa8b40a74633e16d6", checked := Tryd.checked }
namespace Rows
def none {H : Type} : Left H := { results := [], args := [] }

/- WHAT THE LISTED PACKAGE-LEVEL VARIABLES READ AS WHEN THE CALL BEGINS. Each datum BY PROGRAM (the guide's laid-datum.mjs) off the statement by which the dump's own 'gosem.cut.vars' lays the variable. In a bare row this is a premise. The card (YtkicjjcangkneaaDoorCards.lean) ties it to the program's text. -/
def laid_huddle_op_kinds {H : Type} : DataW H := .agg [.lit (.int .u16 0), .lit (.int .u16 2064), .lit (.int .u16 32793), .lit (.int .u16 21), .lit (.int .u16 16), .lit (.int .u16 12), .lit (.int .u16 480), .lit (.int .u16 640), .lit (.int .u16 512), .lit (.int .u16 31744), .lit (.int .u16 8704), .lit (.int .u16 8705), .lit (.int .u16 512), .lit (.int .u16 33299)]

/-- 'huddlelaw11.OpShort': WHATEVER THE INPUT: true; the input reads as it did. -/
def opShortSpec : ChangeSpec := { name := "opShort", fn := fun _ => fun
  | [d1, d2, d3] => { results := [.lit (.bool true)], args := [d1, d2, d3] }
  | _ => none }
def opShortRow : OpenClaim := { program := "ytkicjjcangkneaadoor", sum := "a98a65bc8df462ee0b03e1f625c6c9e30c53aa7d78397bcfa8b40a74633e16d6", func := "huddle/huddlelaw11.OpShort", spec := "opShort", unfollowed := true, recurses := true, named := ["huddle/op.kinds"], apart := false, laid := [("huddle/op.kinds", laid_huddle_op_kinds)] }
def OpShortSaid : Prop := opShortRow.holds Tryd.pinned (OpenSpec.ofChange opShortSpec)

/-- ITS FALSE NEIGHBOUR: 'it returns false'. Refute it at one input. -/
def opShortWrong : ChangeSpec := { name := "opShort", fn := fun _ => fun
  | [d1, d2, d3] => { results := [.lit (.bool false)], args := [d1, d2, d3] }
  | _ => none }
def OpShortWrongFalsely : Prop := opShortRow.holds Tryd.pinned (OpenSpec.ofChange opShortWrong)

/-- 'huddlelaw11.OpOrder': WHATEVER THE INPUT: true; the input reads as it did. -/
def opOrderSpec : ChangeSpec := { name := "opOrder", fn := fun _ => fun
  | [d1, d2, d3, d4] => { results := [.lit (.bool true)], args := [d1, d2, d3, d4] }
  | _ => none }
def opOrderRow : OpenClaim := { program := "ytkicjjcangkneaadoor", sum := "a98a65bc8df462ee0b03e1f625c6c9e30c53aa7d78397bcfa8b40a74633e16d6", func := "huddle/huddlelaw11.OpOrder", spec := "opOrder", unfollowed := true, recurses := true, named := ["huddle/op.kinds"], apart := false, laid := [("huddle/op.kinds", laid_huddle_op_kinds)] }
def OpOrderSaid : Prop := opOrderRow.holds Tryd.pinned (OpenSpec.ofChange opOrderSpec)

/-- ITS FALSE NEIGHBOUR: 'it returns false'. Refute it at one input. -/
def opOrderWrong : ChangeSpec := { name := "opOrder", fn := fun _ => fun
  | [d1, d2, d3, d4] => { results := [.lit (.bool false)], args := [d1, d2, d3, d4] }
  | _ => none }
def OpOrderWrongFalsely : Prop := opOrderRow.holds Tryd.pinned (OpenSpec.ofChange opOrderWrong)

/- THE SECOND FORM. 'bulk': how many values and letters a reading holds, each counted each time it is reached (what is shared counts as often as it is met; a slice's spare places count too). A statement '..UptoSaid' is the law's where the arguments, and the package variables that the reading takes, are together of bulk at most 1048576: NARROWER than '..Said'. Prove '..Said' where nothing that the law and all that it calls make is longer than what came in: it says more and counts as full. Else prove '..UptoSaid'. A law counts once. -/
mutual
def uptoBulk {H : Type} : DataW H → Nat
  | .lit (.string bytes) => bytes.length + 1
  | .lit _ => 1
  | .nil => 1
  | .ptr d => uptoBulk d + 1
  | .slice elems spare => uptoBulkAll elems + uptoBulkAll spare + 1
  | .agg parts => uptoBulkAll parts + 1
  | .iface _ d => uptoBulk d + 1
  | .map entries => uptoBulkEntries entries + 1
  | .held _ => 1
def uptoBulkAll {H : Type} : List (DataW H) → Nat
  | [] => 0
  | d :: r => uptoBulk d + uptoBulkAll r
def uptoBulkEntries {H : Type} : List (Lit × DataW H) → Nat
  | [] => 0
  | x :: r => uptoBulkEntry x + uptoBulkEntries r
def uptoBulkEntry {H : Type} : Lit × DataW H → Nat
  | (.string bytes, d) => bytes.length + uptoBulk d + 1
  | (_, d) => uptoBulk d + 1
 end
def uptoSmall : (H : Type) → List (DataW H) → Bool := fun _ ds => decide (uptoBulkAll ds ≤ 1048576)
def OpenSpec.upto (s : _root_.Go.ChangeSpec) : _root_.Go.OpenSpec := { _root_.Go.OpenSpec.ofChange s with cond := some uptoSmall }

/-- 'huddlelaw11.OpShort', WHERE WHAT IT READS IS OF BULK AT MOST 1048576: true; the input reads as it did. -/
def opShortUptoRow : OpenClaim := { program := "ytkicjjcangkneaadoor", sum := "a98a65bc8df462ee0b03e1f625c6c9e30c53aa7d78397bcfa8b40a74633e16d6", func := "huddle/huddlelaw11.OpShort", spec := "opShort", unfollowed := true, recurses := true, named := ["huddle/op.kinds"], apart := false, laid := [("huddle/op.kinds", laid_huddle_op_kinds)], narrowed := true }
def OpShortUptoSaid : Prop := opShortUptoRow.holds Tryd.pinned (OpenSpec.upto opShortSpec)

/-- 'huddlelaw11.OpOrder', WHERE WHAT IT READS IS OF BULK AT MOST 1048576: true; the input reads as it did. -/
def opOrderUptoRow : OpenClaim := { program := "ytkicjjcangkneaadoor", sum := "a98a65bc8df462ee0b03e1f625c6c9e30c53aa7d78397bcfa8b40a74633e16d6", func := "huddle/huddlelaw11.OpOrder", spec := "opOrder", unfollowed := true, recurses := true, named := ["huddle/op.kinds"], apart := false, laid := [("huddle/op.kinds", laid_huddle_op_kinds)], narrowed := true }
def OpOrderUptoSaid : Prop := opOrderUptoRow.holds Tryd.pinned (OpenSpec.upto opOrderSpec)

end Rows
end Go.Proofs.YtkicjjcangkneaaDoor
