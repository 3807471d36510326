/-
  No cell of these rows narrows 'for every input' (looked for: loops, veiled, ifaces, maps, wideKeys, modest, calm, conditions, laid).
  DERIVED. THE GIVEN ROWS OF THIS SEAT. 7 by the template 'for every input the law returns true; each argument reads behind the call as it read before'; 0 by the template 'total and deterministic' (their statements: YtokmghojdmpacaaTotals.lean).
  GIVEN WITH THE SEED: the statements are not yours to turn. If you find one false, say at which input.
  Laid BY PROGRAM, IN A SANDBOX (cutbox-rows.mjs): the forced cells as the released guide's own fill.sh prints them over the translation dbe86be271253c7e… (all of the seat's roots in one cut). By AI agents, Wed Nov 11 2026. No macro, syntax, notation, axiom, sorry.
-/
import Derived.Test.YtokmghojdmpacaaChecked
import GoSem.Claim
import GoSem.ClaimJoined
import GoSem.ClaimMapViews
import Derived.JoinedTies
import Derived.KernelRfl
namespace Go.Proofs.Ytokmghojdmpacaa
/- THE CELL 'sum', in the pinned program and in every row, IS THE sha256 OF THE DUMP (.gsa) THAT YtokmghojdmpacaaProg.lean LOADS. Nothing in Lean hashes anything: it is a label: what it is worth is what the hold of that sum in a sandbox is worth. -/
noncomputable def Try.pinned : Pinned := { name := "ytokmghojdmpacaa", sum := "dbe86be271253c7e254503440dc47a44f6d9ead6983106e5448bbd1d40f487e1", checked := Try.checked }
namespace Rows
def none {H : Type} : Left H := { results := [], args := [] }

/-- 'huddlelaw06.BoxMakes': WHATEVER THE INPUT: true; the input reads as it did. -/
def boxMakesSpec : ChangeSpec := { name := "boxMakes", fn := fun _ => fun
  | [d1, d2, d3, d4] => { results := [.lit (.bool true)], args := [d1, d2, d3, d4] }
  | _ => none }
def boxMakesRow : OpenClaim := { program := "ytokmghojdmpacaa", sum := "dbe86be271253c7e254503440dc47a44f6d9ead6983106e5448bbd1d40f487e1", func := "huddle/huddlelaw06.BoxMakes", spec := "boxMakes", unfollowed := true, recurses := true, apart := false }
def BoxMakesSaid : Prop := boxMakesRow.holds Try.pinned (OpenSpec.ofChange boxMakesSpec)

/-- ITS FALSE NEIGHBOUR: 'it returns false'. Refute it at one input. -/
def boxMakesWrong : ChangeSpec := { name := "boxMakes", fn := fun _ => fun
  | [d1, d2, d3, d4] => { results := [.lit (.bool false)], args := [d1, d2, d3, d4] }
  | _ => none }
def BoxMakesWrongFalsely : Prop := boxMakesRow.holds Try.pinned (OpenSpec.ofChange boxMakesWrong)

/-- 'huddlelaw06.BoxReads': WHATEVER THE INPUT: true; the input reads as it did. -/
def boxReadsSpec : ChangeSpec := { name := "boxReads", fn := fun _ => fun
  | [d1, d2, d3, d4, d5] => { results := [.lit (.bool true)], args := [d1, d2, d3, d4, d5] }
  | _ => none }
def boxReadsRow : OpenClaim := { program := "ytokmghojdmpacaa", sum := "dbe86be271253c7e254503440dc47a44f6d9ead6983106e5448bbd1d40f487e1", func := "huddle/huddlelaw06.BoxReads", spec := "boxReads", unfollowed := true, recurses := true, apart := false }
def BoxReadsSaid : Prop := boxReadsRow.holds Try.pinned (OpenSpec.ofChange boxReadsSpec)

/-- ITS FALSE NEIGHBOUR: 'it returns false'. Refute it at one input. -/
def boxReadsWrong : ChangeSpec := { name := "boxReads", fn := fun _ => fun
  | [d1, d2, d3, d4, d5] => { results := [.lit (.bool false)], args := [d1, d2, d3, d4, d5] }
  | _ => none }
def BoxReadsWrongFalsely : Prop := boxReadsRow.holds Try.pinned (OpenSpec.ofChange boxReadsWrong)

/-- 'huddlelaw06.BoxOpens': WHATEVER THE INPUT: true; the input reads as it did. -/
def boxOpensSpec : ChangeSpec := { name := "boxOpens", fn := fun _ => fun
  | [d1, d2, d3, d4] => { results := [.lit (.bool true)], args := [d1, d2, d3, d4] }
  | _ => none }
def boxOpensRow : OpenClaim := { program := "ytokmghojdmpacaa", sum := "dbe86be271253c7e254503440dc47a44f6d9ead6983106e5448bbd1d40f487e1", func := "huddle/huddlelaw06.BoxOpens", spec := "boxOpens", unfollowed := true, recurses := true, apart := false }
def BoxOpensSaid : Prop := boxOpensRow.holds Try.pinned (OpenSpec.ofChange boxOpensSpec)

/-- ITS FALSE NEIGHBOUR: 'it returns false'. Refute it at one input. -/
def boxOpensWrong : ChangeSpec := { name := "boxOpens", fn := fun _ => fun
  | [d1, d2, d3, d4] => { results := [.lit (.bool false)], args := [d1, d2, d3, d4] }
  | _ => none }
def BoxOpensWrongFalsely : Prop := boxOpensRow.holds Try.pinned (OpenSpec.ofChange boxOpensWrong)

/-- 'huddlelaw06.BoxTurned': WHATEVER THE INPUT: true; the input reads as it did. -/
def boxTurnedSpec : ChangeSpec := { name := "boxTurned", fn := fun _ => fun
  | [d1, d2, d3, d4, d5] => { results := [.lit (.bool true)], args := [d1, d2, d3, d4, d5] }
  | _ => none }
def boxTurnedRow : OpenClaim := { program := "ytokmghojdmpacaa", sum := "dbe86be271253c7e254503440dc47a44f6d9ead6983106e5448bbd1d40f487e1", func := "huddle/huddlelaw06.BoxTurned", spec := "boxTurned", unfollowed := true, recurses := true, apart := false }
def BoxTurnedSaid : Prop := boxTurnedRow.holds Try.pinned (OpenSpec.ofChange boxTurnedSpec)

/-- ITS FALSE NEIGHBOUR: 'it returns false'. Refute it at one input. -/
def boxTurnedWrong : ChangeSpec := { name := "boxTurned", fn := fun _ => fun
  | [d1, d2, d3, d4, d5] => { results := [.lit (.bool false)], args := [d1, d2, d3, d4, d5] }
  | _ => none }
def BoxTurnedWrongFalsely : Prop := boxTurnedRow.holds Try.pinned (OpenSpec.ofChange boxTurnedWrong)

/-- 'huddlelaw06.BoxOther': WHATEVER THE INPUT: true; the input reads as it did. -/
def boxOtherSpec : ChangeSpec := { name := "boxOther", fn := fun _ => fun
  | [d1, d2, d3, d4] => { results := [.lit (.bool true)], args := [d1, d2, d3, d4] }
  | _ => none }
def boxOtherRow : OpenClaim := { program := "ytokmghojdmpacaa", sum := "dbe86be271253c7e254503440dc47a44f6d9ead6983106e5448bbd1d40f487e1", func := "huddle/huddlelaw06.BoxOther", spec := "boxOther", unfollowed := true, recurses := true, apart := false }
def BoxOtherSaid : Prop := boxOtherRow.holds Try.pinned (OpenSpec.ofChange boxOtherSpec)

/-- ITS FALSE NEIGHBOUR: 'it returns false'. Refute it at one input. -/
def boxOtherWrong : ChangeSpec := { name := "boxOther", fn := fun _ => fun
  | [d1, d2, d3, d4] => { results := [.lit (.bool false)], args := [d1, d2, d3, d4] }
  | _ => none }
def BoxOtherWrongFalsely : Prop := boxOtherRow.holds Try.pinned (OpenSpec.ofChange boxOtherWrong)

/-- 'huddlelaw06.BoxGroup': WHATEVER THE INPUT: true; the input reads as it did. -/
def boxGroupSpec : ChangeSpec := { name := "boxGroup", fn := fun _ => fun
  | [d1, d2] => { results := [.lit (.bool true)], args := [d1, d2] }
  | _ => none }
def boxGroupRow : OpenClaim := { program := "ytokmghojdmpacaa", sum := "dbe86be271253c7e254503440dc47a44f6d9ead6983106e5448bbd1d40f487e1", func := "huddle/huddlelaw06.BoxGroup", spec := "boxGroup", unfollowed := true, recurses := true, apart := false }
def BoxGroupSaid : Prop := boxGroupRow.holds Try.pinned (OpenSpec.ofChange boxGroupSpec)

/-- ITS FALSE NEIGHBOUR: 'it returns false'. Refute it at one input. -/
def boxGroupWrong : ChangeSpec := { name := "boxGroup", fn := fun _ => fun
  | [d1, d2] => { results := [.lit (.bool false)], args := [d1, d2] }
  | _ => none }
def BoxGroupWrongFalsely : Prop := boxGroupRow.holds Try.pinned (OpenSpec.ofChange boxGroupWrong)

/-- 'huddlelaw06.BoxBodies': WHATEVER THE INPUT: true; the input reads as it did. -/
def boxBodiesSpec : ChangeSpec := { name := "boxBodies", fn := fun _ => fun
  | [d1, d2, d3, d4] => { results := [.lit (.bool true)], args := [d1, d2, d3, d4] }
  | _ => none }
def boxBodiesRow : OpenClaim := { program := "ytokmghojdmpacaa", sum := "dbe86be271253c7e254503440dc47a44f6d9ead6983106e5448bbd1d40f487e1", func := "huddle/huddlelaw06.BoxBodies", spec := "boxBodies", unfollowed := true, recurses := true, apart := false }
def BoxBodiesSaid : Prop := boxBodiesRow.holds Try.pinned (OpenSpec.ofChange boxBodiesSpec)

/-- ITS FALSE NEIGHBOUR: 'it returns false'. Refute it at one input. -/
def boxBodiesWrong : ChangeSpec := { name := "boxBodies", fn := fun _ => fun
  | [d1, d2, d3, d4] => { results := [.lit (.bool false)], args := [d1, d2, d3, d4] }
  | _ => none }
def BoxBodiesWrongFalsely : Prop := boxBodiesRow.holds Try.pinned (OpenSpec.ofChange boxBodiesWrong)

/- THE SECOND FORM. 'bulk': how many values and letters a reading holds, each counted each time it is reached (what is shared counts as often as it is met; a slice's spare places count too). A statement '..UptoSaid' is the law's where the arguments, and the package variables that the reading takes, are together of bulk at most 1048576: NARROWER than '..Said'. Prove '..Said' where nothing that the law and all that it calls make is longer than what came in: it says more and counts as full. Else prove '..UptoSaid'. A law counts once. -/
mutual
def uptoBulk {H : Type} : DataW H → Nat
  | .lit (.string bytes) => bytes.length + 1
  | .lit _ => 1
  | .nil => 1
  | .ptr d => uptoBulk d + 1
  | .slice elems spare => uptoBulkAll elems + uptoBulkAll spare + 1
  | .agg parts => uptoBulkAll parts + 1
  | .iface _ d => uptoBulk d + 1
  | .map entries => uptoBulkEntries entries + 1
  | .held _ => 1
def uptoBulkAll {H : Type} : List (DataW H) → Nat
  | [] => 0
  | d :: r => uptoBulk d + uptoBulkAll r
def uptoBulkEntries {H : Type} : List (Lit × DataW H) → Nat
  | [] => 0
  | x :: r => uptoBulkEntry x + uptoBulkEntries r
def uptoBulkEntry {H : Type} : Lit × DataW H → Nat
  | (.string bytes, d) => bytes.length + uptoBulk d + 1
  | (_, d) => uptoBulk d + 1
 end
def uptoSmall : (H : Type) → List (DataW H) → Bool := fun _ ds => decide (uptoBulkAll ds ≤ 1048576)
def OpenSpec.upto (s : _root_.Go.ChangeSpec) : _root_.Go.OpenSpec := { _root_.Go.OpenSpec.ofChange s with cond := some uptoSmall }

/-- 'huddlelaw06.BoxMakes', WHERE WHAT IT READS IS OF BULK AT MOST 1048576: true; the input reads as it did. -/
def boxMakesUptoRow : OpenClaim := { program := "ytokmghojdmpacaa", sum := "dbe86be271253c7e254503440dc47a44f6d9ead6983106e5448bbd1d40f487e1", func := "huddle/huddlelaw06.BoxMakes", spec := "boxMakes", unfollowed := true, recurses := true, apart := false, narrowed := true }
def BoxMakesUptoSaid : Prop := boxMakesUptoRow.holds Try.pinned (OpenSpec.upto boxMakesSpec)

/-- 'huddlelaw06.BoxReads', WHERE WHAT IT READS IS OF BULK AT MOST 1048576: true; the input reads as it did. -/
def boxReadsUptoRow : OpenClaim := { program := "ytokmghojdmpacaa", sum := "dbe86be271253c7e254503440dc47a44f6d9ead6983106e5448bbd1d40f487e1", func := "huddle/huddlelaw06.BoxReads", spec := "boxReads", unfollowed := true, recurses := true, apart := false, narrowed := true }
def BoxReadsUptoSaid : Prop := boxReadsUptoRow.holds Try.pinned (OpenSpec.upto boxReadsSpec)

/-- 'huddlelaw06.BoxOpens', WHERE WHAT IT READS IS OF BULK AT MOST 1048576: true; the input reads as it did. -/
def boxOpensUptoRow : OpenClaim := { program := "ytokmghojdmpacaa", sum := "dbe86be271253c7e254503440dc47a44f6d9ead6983106e5448bbd1d40f487e1", func := "huddle/huddlelaw06.BoxOpens", spec := "boxOpens", unfollowed := true, recurses := true, apart := false, narrowed := true }
def BoxOpensUptoSaid : Prop := boxOpensUptoRow.holds Try.pinned (OpenSpec.upto boxOpensSpec)

/-- 'huddlelaw06.BoxTurned', WHERE WHAT IT READS IS OF BULK AT MOST 1048576: true; the input reads as it did. -/
def boxTurnedUptoRow : OpenClaim := { program := "ytokmghojdmpacaa", sum := "dbe86be271253c7e254503440dc47a44f6d9ead6983106e5448bbd1d40f487e1", func := "huddle/huddlelaw06.BoxTurned", spec := "boxTurned", unfollowed := true, recurses := true, apart := false, narrowed := true }
def BoxTurnedUptoSaid : Prop := boxTurnedUptoRow.holds Try.pinned (OpenSpec.upto boxTurnedSpec)

/-- 'huddlelaw06.BoxOther', WHERE WHAT IT READS IS OF BULK AT MOST 1048576: true; the input reads as it did. -/
def boxOtherUptoRow : OpenClaim := { program := "ytokmghojdmpacaa", sum := "dbe86be271253c7e254503440dc47a44f6d9ead6983106e5448bbd1d40f487e1", func := "huddle/huddlelaw06.BoxOther", spec := "boxOther", unfollowed := true, recurses := true, apart := false, narrowed := true }
def BoxOtherUptoSaid : Prop := boxOtherUptoRow.holds Try.pinned (OpenSpec.upto boxOtherSpec)

/-- 'huddlelaw06.BoxGroup', WHERE WHAT IT READS IS OF BULK AT MOST 1048576: true; the input reads as it did. -/
def boxGroupUptoRow : OpenClaim := { program := "ytokmghojdmpacaa", sum := "dbe86be271253c7e254503440dc47a44f6d9ead6983106e5448bbd1d40f487e1", func := "huddle/huddlelaw06.BoxGroup", spec := "boxGroup", unfollowed := true, recurses := true, apart := false, narrowed := true }
def BoxGroupUptoSaid : Prop := boxGroupUptoRow.holds Try.pinned (OpenSpec.upto boxGroupSpec)

/-- 'huddlelaw06.BoxBodies', WHERE WHAT IT READS IS OF BULK AT MOST 1048576: true; the input reads as it did. -/
def boxBodiesUptoRow : OpenClaim := { program := "ytokmghojdmpacaa", sum := "dbe86be271253c7e254503440dc47a44f6d9ead6983106e5448bbd1d40f487e1", func := "huddle/huddlelaw06.BoxBodies", spec := "boxBodies", unfollowed := true, recurses := true, apart := false, narrowed := true }
def BoxBodiesUptoSaid : Prop := boxBodiesUptoRow.holds Try.pinned (OpenSpec.upto boxBodiesSpec)

end Rows
end Go.Proofs.Ytokmghojdmpacaa
