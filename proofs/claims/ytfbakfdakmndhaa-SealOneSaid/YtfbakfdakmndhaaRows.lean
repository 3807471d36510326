/-
  No cell of these rows narrows 'for every input' (looked for: loops, veiled, ifaces, maps, wideKeys, modest, calm, conditions, laid).
  DERIVED. THE GIVEN ROWS OF THIS SEAT. 8 by the template 'for every input the law returns true; each argument reads behind the call as it read before'; 0 by the template 'total and deterministic' (their statements: YtfbakfdakmndhaaTotals.lean).
  GIVEN WITH THE SEED: the statements are not yours to turn. If you find one false, say at which input.
  Laid BY PROGRAM, IN A SANDBOX (cutbox-rows.mjs): the forced cells as the released guide's own fill.sh prints them over the translation d05237c6a761a8ec… (all of the seat's roots in one cut). By AI agents, Wed Nov 11 2026. No macro, syntax, notation, axiom, sorry.
-/
import Derived.Test.YtfbakfdakmndhaaChecked
import GoSem.Claim
import GoSem.ClaimJoined
import GoSem.ClaimMapViews
import Derived.JoinedTies
import Derived.KernelRfl
namespace Go.Proofs.Ytfbakfdakmndhaa
/- THE CELL 'sum', in the pinned program and in every row, IS THE sha256 OF THE DUMP (.gsa) THAT YtfbakfdakmndhaaProg.lean LOADS. Nothing in Lean hashes anything: it is a label: what it is worth is what the hold of that sum in a sandbox is worth. -/
noncomputable def Try.pinned : Pinned := { name := "ytfbakfdakmndhaa", sum := "d05237c6a761a8eca7853fed06de34d2afd351a8a7f733b2eac4d119e6e1005a", checked := Try.checked }
namespace Rows
def none {H : Type} : Left H := { results := [], args := [] }

/-- 'huddlelaw07.SealPlays': WHATEVER THE INPUT: true; the input reads as it did. -/
def sealPlaysSpec : ChangeSpec := { name := "sealPlays", fn := fun _ => fun
  | [d1, d2, d3, d4, d5] => { results := [.lit (.bool true)], args := [d1, d2, d3, d4, d5] }
  | _ => none }
def sealPlaysRow : OpenClaim := { program := "ytfbakfdakmndhaa", sum := "d05237c6a761a8eca7853fed06de34d2afd351a8a7f733b2eac4d119e6e1005a", func := "huddle/huddlelaw07.SealPlays", spec := "sealPlays", unfollowed := true, recurses := true, apart := false }
def SealPlaysSaid : Prop := sealPlaysRow.holds Try.pinned (OpenSpec.ofChange sealPlaysSpec)

/-- ITS FALSE NEIGHBOUR: 'it returns false'. Refute it at one input. -/
def sealPlaysWrong : ChangeSpec := { name := "sealPlays", fn := fun _ => fun
  | [d1, d2, d3, d4, d5] => { results := [.lit (.bool false)], args := [d1, d2, d3, d4, d5] }
  | _ => none }
def SealPlaysWrongFalsely : Prop := sealPlaysRow.holds Try.pinned (OpenSpec.ofChange sealPlaysWrong)

/-- 'huddlelaw07.SealRound': WHATEVER THE INPUT: true; the input reads as it did. -/
def sealRoundSpec : ChangeSpec := { name := "sealRound", fn := fun _ => fun
  | [d1, d2, d3] => { results := [.lit (.bool true)], args := [d1, d2, d3] }
  | _ => none }
def sealRoundRow : OpenClaim := { program := "ytfbakfdakmndhaa", sum := "d05237c6a761a8eca7853fed06de34d2afd351a8a7f733b2eac4d119e6e1005a", func := "huddle/huddlelaw07.SealRound", spec := "sealRound", unfollowed := true, recurses := true, apart := false }
def SealRoundSaid : Prop := sealRoundRow.holds Try.pinned (OpenSpec.ofChange sealRoundSpec)

/-- ITS FALSE NEIGHBOUR: 'it returns false'. Refute it at one input. -/
def sealRoundWrong : ChangeSpec := { name := "sealRound", fn := fun _ => fun
  | [d1, d2, d3] => { results := [.lit (.bool false)], args := [d1, d2, d3] }
  | _ => none }
def SealRoundWrongFalsely : Prop := sealRoundRow.holds Try.pinned (OpenSpec.ofChange sealRoundWrong)

/-- 'huddlelaw07.SealOne': WHATEVER THE INPUT: true; the input reads as it did. -/
def sealOneSpec : ChangeSpec := { name := "sealOne", fn := fun _ => fun
  | [d1, d2, d3, d4, d5, d6] => { results := [.lit (.bool true)], args := [d1, d2, d3, d4, d5, d6] }
  | _ => none }
def sealOneRow : OpenClaim := { program := "ytfbakfdakmndhaa", sum := "d05237c6a761a8eca7853fed06de34d2afd351a8a7f733b2eac4d119e6e1005a", func := "huddle/huddlelaw07.SealOne", spec := "sealOne", unfollowed := true, recurses := true, apart := false }
def SealOneSaid : Prop := sealOneRow.holds Try.pinned (OpenSpec.ofChange sealOneSpec)

/-- ITS FALSE NEIGHBOUR: 'it returns false'. Refute it at one input. -/
def sealOneWrong : ChangeSpec := { name := "sealOne", fn := fun _ => fun
  | [d1, d2, d3, d4, d5, d6] => { results := [.lit (.bool false)], args := [d1, d2, d3, d4, d5, d6] }
  | _ => none }
def SealOneWrongFalsely : Prop := sealOneRow.holds Try.pinned (OpenSpec.ofChange sealOneWrong)

/-- 'huddlelaw07.SealTurned': WHATEVER THE INPUT: true; the input reads as it did. -/
def sealTurnedSpec : ChangeSpec := { name := "sealTurned", fn := fun _ => fun
  | [d1, d2, d3, d4, d5] => { results := [.lit (.bool true)], args := [d1, d2, d3, d4, d5] }
  | _ => none }
def sealTurnedRow : OpenClaim := { program := "ytfbakfdakmndhaa", sum := "d05237c6a761a8eca7853fed06de34d2afd351a8a7f733b2eac4d119e6e1005a", func := "huddle/huddlelaw07.SealTurned", spec := "sealTurned", unfollowed := true, recurses := true, apart := false }
def SealTurnedSaid : Prop := sealTurnedRow.holds Try.pinned (OpenSpec.ofChange sealTurnedSpec)

/-- ITS FALSE NEIGHBOUR: 'it returns false'. Refute it at one input. -/
def sealTurnedWrong : ChangeSpec := { name := "sealTurned", fn := fun _ => fun
  | [d1, d2, d3, d4, d5] => { results := [.lit (.bool false)], args := [d1, d2, d3, d4, d5] }
  | _ => none }
def SealTurnedWrongFalsely : Prop := sealTurnedRow.holds Try.pinned (OpenSpec.ofChange sealTurnedWrong)

/-- 'huddlelaw07.SealKeys': WHATEVER THE INPUT: true; the input reads as it did. -/
def sealKeysSpec : ChangeSpec := { name := "sealKeys", fn := fun _ => fun
  | [d1, d2, d3, d4] => { results := [.lit (.bool true)], args := [d1, d2, d3, d4] }
  | _ => none }
def sealKeysRow : OpenClaim := { program := "ytfbakfdakmndhaa", sum := "d05237c6a761a8eca7853fed06de34d2afd351a8a7f733b2eac4d119e6e1005a", func := "huddle/huddlelaw07.SealKeys", spec := "sealKeys", unfollowed := true, recurses := true, apart := false }
def SealKeysSaid : Prop := sealKeysRow.holds Try.pinned (OpenSpec.ofChange sealKeysSpec)

/-- ITS FALSE NEIGHBOUR: 'it returns false'. Refute it at one input. -/
def sealKeysWrong : ChangeSpec := { name := "sealKeys", fn := fun _ => fun
  | [d1, d2, d3, d4] => { results := [.lit (.bool false)], args := [d1, d2, d3, d4] }
  | _ => none }
def SealKeysWrongFalsely : Prop := sealKeysRow.holds Try.pinned (OpenSpec.ofChange sealKeysWrong)

/-- 'huddlelaw07.SealPad': WHATEVER THE INPUT: true; the input reads as it did. -/
def sealPadSpec : ChangeSpec := { name := "sealPad", fn := fun _ => fun
  | [d1, d2, d3, d4] => { results := [.lit (.bool true)], args := [d1, d2, d3, d4] }
  | _ => none }
def sealPadRow : OpenClaim := { program := "ytfbakfdakmndhaa", sum := "d05237c6a761a8eca7853fed06de34d2afd351a8a7f733b2eac4d119e6e1005a", func := "huddle/huddlelaw07.SealPad", spec := "sealPad", unfollowed := true, recurses := true, apart := false }
def SealPadSaid : Prop := sealPadRow.holds Try.pinned (OpenSpec.ofChange sealPadSpec)

/-- ITS FALSE NEIGHBOUR: 'it returns false'. Refute it at one input. -/
def sealPadWrong : ChangeSpec := { name := "sealPad", fn := fun _ => fun
  | [d1, d2, d3, d4] => { results := [.lit (.bool false)], args := [d1, d2, d3, d4] }
  | _ => none }
def SealPadWrongFalsely : Prop := sealPadRow.holds Try.pinned (OpenSpec.ofChange sealPadWrong)

/-- 'huddlelaw07.SealBegins': WHATEVER THE INPUT: true; the input reads as it did. -/
def sealBeginsSpec : ChangeSpec := { name := "sealBegins", fn := fun _ => fun
  | [d1, d2, d3, d4] => { results := [.lit (.bool true)], args := [d1, d2, d3, d4] }
  | _ => none }
def sealBeginsRow : OpenClaim := { program := "ytfbakfdakmndhaa", sum := "d05237c6a761a8eca7853fed06de34d2afd351a8a7f733b2eac4d119e6e1005a", func := "huddle/huddlelaw07.SealBegins", spec := "sealBegins", unfollowed := true, recurses := true, apart := false }
def SealBeginsSaid : Prop := sealBeginsRow.holds Try.pinned (OpenSpec.ofChange sealBeginsSpec)

/-- ITS FALSE NEIGHBOUR: 'it returns false'. Refute it at one input. -/
def sealBeginsWrong : ChangeSpec := { name := "sealBegins", fn := fun _ => fun
  | [d1, d2, d3, d4] => { results := [.lit (.bool false)], args := [d1, d2, d3, d4] }
  | _ => none }
def SealBeginsWrongFalsely : Prop := sealBeginsRow.holds Try.pinned (OpenSpec.ofChange sealBeginsWrong)

/-- 'huddlelaw07.SealShort': WHATEVER THE INPUT: true; the input reads as it did. -/
def sealShortSpec : ChangeSpec := { name := "sealShort", fn := fun _ => fun
  | [d1, d2, d3] => { results := [.lit (.bool true)], args := [d1, d2, d3] }
  | _ => none }
def sealShortRow : OpenClaim := { program := "ytfbakfdakmndhaa", sum := "d05237c6a761a8eca7853fed06de34d2afd351a8a7f733b2eac4d119e6e1005a", func := "huddle/huddlelaw07.SealShort", spec := "sealShort", unfollowed := true, recurses := true, apart := false }
def SealShortSaid : Prop := sealShortRow.holds Try.pinned (OpenSpec.ofChange sealShortSpec)

/-- ITS FALSE NEIGHBOUR: 'it returns false'. Refute it at one input. -/
def sealShortWrong : ChangeSpec := { name := "sealShort", fn := fun _ => fun
  | [d1, d2, d3] => { results := [.lit (.bool false)], args := [d1, d2, d3] }
  | _ => none }
def SealShortWrongFalsely : Prop := sealShortRow.holds Try.pinned (OpenSpec.ofChange sealShortWrong)

/- THE SECOND FORM. 'bulk': how many values and letters a reading holds, each counted each time it is reached (what is shared counts as often as it is met; a slice's spare places count too). A statement '..UptoSaid' is the law's where the arguments, and the package variables that the reading takes, are together of bulk at most 1048576: NARROWER than '..Said'. Prove '..Said' where nothing that the law and all that it calls make is longer than what came in: it says more and counts as full. Else prove '..UptoSaid'. A law counts once. -/
mutual
def uptoBulk {H : Type} : DataW H → Nat
  | .lit (.string bytes) => bytes.length + 1
  | .lit _ => 1
  | .nil => 1
  | .ptr d => uptoBulk d + 1
  | .slice elems spare => uptoBulkAll elems + uptoBulkAll spare + 1
  | .agg parts => uptoBulkAll parts + 1
  | .iface _ d => uptoBulk d + 1
  | .map entries => uptoBulkEntries entries + 1
  | .held _ => 1
def uptoBulkAll {H : Type} : List (DataW H) → Nat
  | [] => 0
  | d :: r => uptoBulk d + uptoBulkAll r
def uptoBulkEntries {H : Type} : List (Lit × DataW H) → Nat
  | [] => 0
  | x :: r => uptoBulkEntry x + uptoBulkEntries r
def uptoBulkEntry {H : Type} : Lit × DataW H → Nat
  | (.string bytes, d) => bytes.length + uptoBulk d + 1
  | (_, d) => uptoBulk d + 1
 end
def uptoSmall : (H : Type) → List (DataW H) → Bool := fun _ ds => decide (uptoBulkAll ds ≤ 1048576)
def OpenSpec.upto (s : _root_.Go.ChangeSpec) : _root_.Go.OpenSpec := { _root_.Go.OpenSpec.ofChange s with cond := some uptoSmall }

/-- 'huddlelaw07.SealPlays', WHERE WHAT IT READS IS OF BULK AT MOST 1048576: true; the input reads as it did. -/
def sealPlaysUptoRow : OpenClaim := { program := "ytfbakfdakmndhaa", sum := "d05237c6a761a8eca7853fed06de34d2afd351a8a7f733b2eac4d119e6e1005a", func := "huddle/huddlelaw07.SealPlays", spec := "sealPlays", unfollowed := true, recurses := true, apart := false, narrowed := true }
def SealPlaysUptoSaid : Prop := sealPlaysUptoRow.holds Try.pinned (OpenSpec.upto sealPlaysSpec)

/-- 'huddlelaw07.SealRound', WHERE WHAT IT READS IS OF BULK AT MOST 1048576: true; the input reads as it did. -/
def sealRoundUptoRow : OpenClaim := { program := "ytfbakfdakmndhaa", sum := "d05237c6a761a8eca7853fed06de34d2afd351a8a7f733b2eac4d119e6e1005a", func := "huddle/huddlelaw07.SealRound", spec := "sealRound", unfollowed := true, recurses := true, apart := false, narrowed := true }
def SealRoundUptoSaid : Prop := sealRoundUptoRow.holds Try.pinned (OpenSpec.upto sealRoundSpec)

/-- 'huddlelaw07.SealOne', WHERE WHAT IT READS IS OF BULK AT MOST 1048576: true; the input reads as it did. -/
def sealOneUptoRow : OpenClaim := { program := "ytfbakfdakmndhaa", sum := "d05237c6a761a8eca7853fed06de34d2afd351a8a7f733b2eac4d119e6e1005a", func := "huddle/huddlelaw07.SealOne", spec := "sealOne", unfollowed := true, recurses := true, apart := false, narrowed := true }
def SealOneUptoSaid : Prop := sealOneUptoRow.holds Try.pinned (OpenSpec.upto sealOneSpec)

/-- 'huddlelaw07.SealTurned', WHERE WHAT IT READS IS OF BULK AT MOST 1048576: true; the input reads as it did. -/
def sealTurnedUptoRow : OpenClaim := { program := "ytfbakfdakmndhaa", sum := "d05237c6a761a8eca7853fed06de34d2afd351a8a7f733b2eac4d119e6e1005a", func := "huddle/huddlelaw07.SealTurned", spec := "sealTurned", unfollowed := true, recurses := true, apart := false, narrowed := true }
def SealTurnedUptoSaid : Prop := sealTurnedUptoRow.holds Try.pinned (OpenSpec.upto sealTurnedSpec)

/-- 'huddlelaw07.SealKeys', WHERE WHAT IT READS IS OF BULK AT MOST 1048576: true; the input reads as it did. -/
def sealKeysUptoRow : OpenClaim := { program := "ytfbakfdakmndhaa", sum := "d05237c6a761a8eca7853fed06de34d2afd351a8a7f733b2eac4d119e6e1005a", func := "huddle/huddlelaw07.SealKeys", spec := "sealKeys", unfollowed := true, recurses := true, apart := false, narrowed := true }
def SealKeysUptoSaid : Prop := sealKeysUptoRow.holds Try.pinned (OpenSpec.upto sealKeysSpec)

/-- 'huddlelaw07.SealPad', WHERE WHAT IT READS IS OF BULK AT MOST 1048576: true; the input reads as it did. -/
def sealPadUptoRow : OpenClaim := { program := "ytfbakfdakmndhaa", sum := "d05237c6a761a8eca7853fed06de34d2afd351a8a7f733b2eac4d119e6e1005a", func := "huddle/huddlelaw07.SealPad", spec := "sealPad", unfollowed := true, recurses := true, apart := false, narrowed := true }
def SealPadUptoSaid : Prop := sealPadUptoRow.holds Try.pinned (OpenSpec.upto sealPadSpec)

/-- 'huddlelaw07.SealBegins', WHERE WHAT IT READS IS OF BULK AT MOST 1048576: true; the input reads as it did. -/
def sealBeginsUptoRow : OpenClaim := { program := "ytfbakfdakmndhaa", sum := "d05237c6a761a8eca7853fed06de34d2afd351a8a7f733b2eac4d119e6e1005a", func := "huddle/huddlelaw07.SealBegins", spec := "sealBegins", unfollowed := true, recurses := true, apart := false, narrowed := true }
def SealBeginsUptoSaid : Prop := sealBeginsUptoRow.holds Try.pinned (OpenSpec.upto sealBeginsSpec)

/-- 'huddlelaw07.SealShort', WHERE WHAT IT READS IS OF BULK AT MOST 1048576: true; the input reads as it did. -/
def sealShortUptoRow : OpenClaim := { program := "ytfbakfdakmndhaa", sum := "d05237c6a761a8eca7853fed06de34d2afd351a8a7f733b2eac4d119e6e1005a", func := "huddle/huddlelaw07.SealShort", spec := "sealShort", unfollowed := true, recurses := true, apart := false, narrowed := true }
def SealShortUptoSaid : Prop := sealShortUptoRow.holds Try.pinned (OpenSpec.upto sealShortSpec)

end Rows
end Go.Proofs.Ytfbakfdakmndhaa
