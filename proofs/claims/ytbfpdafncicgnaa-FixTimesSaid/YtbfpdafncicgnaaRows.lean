/-
  No cell of these rows narrows 'for every input' (looked for: loops, veiled, ifaces, maps, wideKeys, modest, calm, conditions, laid).
  DERIVED. THE GIVEN ROWS OF THIS SEAT. 8 by the template 'for every input the law returns true; each argument reads behind the call as it read before'; 0 by the template 'total and deterministic' (their statements: YtbfpdafncicgnaaTotals.lean).
  GIVEN WITH THE SEED: the statements are not yours to turn. If you find one false, say at which input.
  Laid BY PROGRAM, IN A SANDBOX (cutbox-rows.mjs): the forced cells as the released guide's own fill.sh prints them over the translation 6d60dd4dccb60c49… (all of the seat's roots in one cut). By AI agents, Wed Nov 11 2026. No macro, syntax, notation, axiom, sorry.
-/
import Derived.Test.YtbfpdafncicgnaaChecked
import GoSem.Claim
import GoSem.ClaimJoined
import GoSem.ClaimMapViews
import Derived.JoinedTies
import Derived.KernelRfl
namespace Go.Proofs.Ytbfpdafncicgnaa
/- THE CELL 'sum', in the pinned program and in every row, IS THE sha256 OF THE DUMP (.gsa) THAT YtbfpdafncicgnaaProg.lean LOADS. Nothing in Lean hashes anything: it is a label: what it is worth is what the hold of that sum in a sandbox is worth. -/
noncomputable def Try.pinned : Pinned := { name := "ytbfpdafncicgnaa", sum := "6d60dd4dccb60c49589cdeae7292f3d29df72aa45109caf81668ddd72d03a85c", checked := Try.checked }
namespace Rows
def none {H : Type} : Left H := { results := [], args := [] }

/-- 'thrumlaw01.FixAdds': WHATEVER THE INPUT: true; the input reads as it did. -/
def fixAddsSpec : ChangeSpec := { name := "fixAdds", fn := fun _ => fun
  | [d1, d2] => { results := [.lit (.bool true)], args := [d1, d2] }
  | _ => none }
def fixAddsRow : OpenClaim := { program := "ytbfpdafncicgnaa", sum := "6d60dd4dccb60c49589cdeae7292f3d29df72aa45109caf81668ddd72d03a85c", func := "thrum/thrumlaw01.FixAdds", spec := "fixAdds", recurses := true, named := ["math/bits.divideError", "math/bits.overflowError"], apart := false }
def FixAddsSaid : Prop := fixAddsRow.holds Try.pinned (OpenSpec.ofChange fixAddsSpec)

/-- ITS FALSE NEIGHBOUR: 'it returns false'. Refute it at one input. -/
def fixAddsWrong : ChangeSpec := { name := "fixAdds", fn := fun _ => fun
  | [d1, d2] => { results := [.lit (.bool false)], args := [d1, d2] }
  | _ => none }
def FixAddsWrongFalsely : Prop := fixAddsRow.holds Try.pinned (OpenSpec.ofChange fixAddsWrong)

/-- 'thrumlaw01.FixTimes': WHATEVER THE INPUT: true; the input reads as it did. -/
def fixTimesSpec : ChangeSpec := { name := "fixTimes", fn := fun _ => fun
  | [d1, d2, d3] => { results := [.lit (.bool true)], args := [d1, d2, d3] }
  | _ => none }
def fixTimesRow : OpenClaim := { program := "ytbfpdafncicgnaa", sum := "6d60dd4dccb60c49589cdeae7292f3d29df72aa45109caf81668ddd72d03a85c", func := "thrum/thrumlaw01.FixTimes", spec := "fixTimes", recurses := true, named := ["math/bits.divideError", "math/bits.overflowError"], apart := false }
def FixTimesSaid : Prop := fixTimesRow.holds Try.pinned (OpenSpec.ofChange fixTimesSpec)

/-- ITS FALSE NEIGHBOUR: 'it returns false'. Refute it at one input. -/
def fixTimesWrong : ChangeSpec := { name := "fixTimes", fn := fun _ => fun
  | [d1, d2, d3] => { results := [.lit (.bool false)], args := [d1, d2, d3] }
  | _ => none }
def FixTimesWrongFalsely : Prop := fixTimesRow.holds Try.pinned (OpenSpec.ofChange fixTimesWrong)

/-- 'thrumlaw01.FixBack': WHATEVER THE INPUT: true; the input reads as it did. -/
def fixBackSpec : ChangeSpec := { name := "fixBack", fn := fun _ => fun
  | [d1, d2, d3] => { results := [.lit (.bool true)], args := [d1, d2, d3] }
  | _ => none }
def fixBackRow : OpenClaim := { program := "ytbfpdafncicgnaa", sum := "6d60dd4dccb60c49589cdeae7292f3d29df72aa45109caf81668ddd72d03a85c", func := "thrum/thrumlaw01.FixBack", spec := "fixBack", recurses := true, named := ["math/bits.divideError", "math/bits.overflowError"], apart := false }
def FixBackSaid : Prop := fixBackRow.holds Try.pinned (OpenSpec.ofChange fixBackSpec)

/-- ITS FALSE NEIGHBOUR: 'it returns false'. Refute it at one input. -/
def fixBackWrong : ChangeSpec := { name := "fixBack", fn := fun _ => fun
  | [d1, d2, d3] => { results := [.lit (.bool false)], args := [d1, d2, d3] }
  | _ => none }
def FixBackWrongFalsely : Prop := fixBackRow.holds Try.pinned (OpenSpec.ofChange fixBackWrong)

/-- 'thrumlaw01.FixSmall': WHATEVER THE INPUT: true; the input reads as it did. -/
def fixSmallSpec : ChangeSpec := { name := "fixSmall", fn := fun _ => fun
  | [d1, d2, d3] => { results := [.lit (.bool true)], args := [d1, d2, d3] }
  | _ => none }
def fixSmallRow : OpenClaim := { program := "ytbfpdafncicgnaa", sum := "6d60dd4dccb60c49589cdeae7292f3d29df72aa45109caf81668ddd72d03a85c", func := "thrum/thrumlaw01.FixSmall", spec := "fixSmall", recurses := true, named := ["math/bits.divideError", "math/bits.overflowError"], apart := false }
def FixSmallSaid : Prop := fixSmallRow.holds Try.pinned (OpenSpec.ofChange fixSmallSpec)

/-- ITS FALSE NEIGHBOUR: 'it returns false'. Refute it at one input. -/
def fixSmallWrong : ChangeSpec := { name := "fixSmall", fn := fun _ => fun
  | [d1, d2, d3] => { results := [.lit (.bool false)], args := [d1, d2, d3] }
  | _ => none }
def FixSmallWrongFalsely : Prop := fixSmallRow.holds Try.pinned (OpenSpec.ofChange fixSmallWrong)

/-- 'thrumlaw01.FixWide': WHATEVER THE INPUT: true; the input reads as it did. -/
def fixWideSpec : ChangeSpec := { name := "fixWide", fn := fun _ => fun
  | [d1, d2, d3] => { results := [.lit (.bool true)], args := [d1, d2, d3] }
  | _ => none }
def fixWideRow : OpenClaim := { program := "ytbfpdafncicgnaa", sum := "6d60dd4dccb60c49589cdeae7292f3d29df72aa45109caf81668ddd72d03a85c", func := "thrum/thrumlaw01.FixWide", spec := "fixWide", recurses := true, named := ["math/bits.divideError", "math/bits.overflowError"], apart := false }
def FixWideSaid : Prop := fixWideRow.holds Try.pinned (OpenSpec.ofChange fixWideSpec)

/-- ITS FALSE NEIGHBOUR: 'it returns false'. Refute it at one input. -/
def fixWideWrong : ChangeSpec := { name := "fixWide", fn := fun _ => fun
  | [d1, d2, d3] => { results := [.lit (.bool false)], args := [d1, d2, d3] }
  | _ => none }
def FixWideWrongFalsely : Prop := fixWideRow.holds Try.pinned (OpenSpec.ofChange fixWideWrong)

/-- 'thrumlaw01.FixClips': WHATEVER THE INPUT: true; the input reads as it did. -/
def fixClipsSpec : ChangeSpec := { name := "fixClips", fn := fun _ => fun
  | [d1, d2] => { results := [.lit (.bool true)], args := [d1, d2] }
  | _ => none }
def fixClipsRow : OpenClaim := { program := "ytbfpdafncicgnaa", sum := "6d60dd4dccb60c49589cdeae7292f3d29df72aa45109caf81668ddd72d03a85c", func := "thrum/thrumlaw01.FixClips", spec := "fixClips", recurses := true, named := ["math/bits.divideError", "math/bits.overflowError"], apart := false }
def FixClipsSaid : Prop := fixClipsRow.holds Try.pinned (OpenSpec.ofChange fixClipsSpec)

/-- ITS FALSE NEIGHBOUR: 'it returns false'. Refute it at one input. -/
def fixClipsWrong : ChangeSpec := { name := "fixClips", fn := fun _ => fun
  | [d1, d2] => { results := [.lit (.bool false)], args := [d1, d2] }
  | _ => none }
def FixClipsWrongFalsely : Prop := fixClipsRow.holds Try.pinned (OpenSpec.ofChange fixClipsWrong)

/-- 'thrumlaw01.FixShifts': WHATEVER THE INPUT: true; the input reads as it did. -/
def fixShiftsSpec : ChangeSpec := { name := "fixShifts", fn := fun _ => fun
  | [d1, d2, d3] => { results := [.lit (.bool true)], args := [d1, d2, d3] }
  | _ => none }
def fixShiftsRow : OpenClaim := { program := "ytbfpdafncicgnaa", sum := "6d60dd4dccb60c49589cdeae7292f3d29df72aa45109caf81668ddd72d03a85c", func := "thrum/thrumlaw01.FixShifts", spec := "fixShifts", recurses := true, named := ["math/bits.divideError", "math/bits.overflowError"], apart := false }
def FixShiftsSaid : Prop := fixShiftsRow.holds Try.pinned (OpenSpec.ofChange fixShiftsSpec)

/-- ITS FALSE NEIGHBOUR: 'it returns false'. Refute it at one input. -/
def fixShiftsWrong : ChangeSpec := { name := "fixShifts", fn := fun _ => fun
  | [d1, d2, d3] => { results := [.lit (.bool false)], args := [d1, d2, d3] }
  | _ => none }
def FixShiftsWrongFalsely : Prop := fixShiftsRow.holds Try.pinned (OpenSpec.ofChange fixShiftsWrong)

/-- 'thrumlaw01.FixNegs': WHATEVER THE INPUT: true; the input reads as it did. -/
def fixNegsSpec : ChangeSpec := { name := "fixNegs", fn := fun _ => fun
  | [d1, d2, d3] => { results := [.lit (.bool true)], args := [d1, d2, d3] }
  | _ => none }
def fixNegsRow : OpenClaim := { program := "ytbfpdafncicgnaa", sum := "6d60dd4dccb60c49589cdeae7292f3d29df72aa45109caf81668ddd72d03a85c", func := "thrum/thrumlaw01.FixNegs", spec := "fixNegs", recurses := true, named := ["math/bits.divideError", "math/bits.overflowError"], apart := false }
def FixNegsSaid : Prop := fixNegsRow.holds Try.pinned (OpenSpec.ofChange fixNegsSpec)

/-- ITS FALSE NEIGHBOUR: 'it returns false'. Refute it at one input. -/
def fixNegsWrong : ChangeSpec := { name := "fixNegs", fn := fun _ => fun
  | [d1, d2, d3] => { results := [.lit (.bool false)], args := [d1, d2, d3] }
  | _ => none }
def FixNegsWrongFalsely : Prop := fixNegsRow.holds Try.pinned (OpenSpec.ofChange fixNegsWrong)

/- THE SECOND FORM. 'bulk': how many values and letters a reading holds, each counted each time it is reached (what is shared counts as often as it is met; a slice's spare places count too). A statement '..UptoSaid' is the law's where the arguments, and the package variables that the reading takes, are together of bulk at most 1048576: NARROWER than '..Said'. Prove '..Said' where nothing that the law and all that it calls make is longer than what came in: it says more and counts as full. Else prove '..UptoSaid'. A law counts once. -/
mutual
def uptoBulk {H : Type} : DataW H → Nat
  | .lit (.string bytes) => bytes.length + 1
  | .lit _ => 1
  | .nil => 1
  | .ptr d => uptoBulk d + 1
  | .slice elems spare => uptoBulkAll elems + uptoBulkAll spare + 1
  | .agg parts => uptoBulkAll parts + 1
  | .iface _ d => uptoBulk d + 1
  | .map entries => uptoBulkEntries entries + 1
  | .held _ => 1
def uptoBulkAll {H : Type} : List (DataW H) → Nat
  | [] => 0
  | d :: r => uptoBulk d + uptoBulkAll r
def uptoBulkEntries {H : Type} : List (Lit × DataW H) → Nat
  | [] => 0
  | x :: r => uptoBulkEntry x + uptoBulkEntries r
def uptoBulkEntry {H : Type} : Lit × DataW H → Nat
  | (.string bytes, d) => bytes.length + uptoBulk d + 1
  | (_, d) => uptoBulk d + 1
 end
def uptoSmall : (H : Type) → List (DataW H) → Bool := fun _ ds => decide (uptoBulkAll ds ≤ 1048576)
def OpenSpec.upto (s : _root_.Go.ChangeSpec) : _root_.Go.OpenSpec := { _root_.Go.OpenSpec.ofChange s with cond := some uptoSmall }

/-- 'thrumlaw01.FixAdds', WHERE WHAT IT READS IS OF BULK AT MOST 1048576: true; the input reads as it did. -/
def fixAddsUptoRow : OpenClaim := { program := "ytbfpdafncicgnaa", sum := "6d60dd4dccb60c49589cdeae7292f3d29df72aa45109caf81668ddd72d03a85c", func := "thrum/thrumlaw01.FixAdds", spec := "fixAdds", recurses := true, named := ["math/bits.divideError", "math/bits.overflowError"], apart := false, narrowed := true }
def FixAddsUptoSaid : Prop := fixAddsUptoRow.holds Try.pinned (OpenSpec.upto fixAddsSpec)

/-- 'thrumlaw01.FixTimes', WHERE WHAT IT READS IS OF BULK AT MOST 1048576: true; the input reads as it did. -/
def fixTimesUptoRow : OpenClaim := { program := "ytbfpdafncicgnaa", sum := "6d60dd4dccb60c49589cdeae7292f3d29df72aa45109caf81668ddd72d03a85c", func := "thrum/thrumlaw01.FixTimes", spec := "fixTimes", recurses := true, named := ["math/bits.divideError", "math/bits.overflowError"], apart := false, narrowed := true }
def FixTimesUptoSaid : Prop := fixTimesUptoRow.holds Try.pinned (OpenSpec.upto fixTimesSpec)

/-- 'thrumlaw01.FixBack', WHERE WHAT IT READS IS OF BULK AT MOST 1048576: true; the input reads as it did. -/
def fixBackUptoRow : OpenClaim := { program := "ytbfpdafncicgnaa", sum := "6d60dd4dccb60c49589cdeae7292f3d29df72aa45109caf81668ddd72d03a85c", func := "thrum/thrumlaw01.FixBack", spec := "fixBack", recurses := true, named := ["math/bits.divideError", "math/bits.overflowError"], apart := false, narrowed := true }
def FixBackUptoSaid : Prop := fixBackUptoRow.holds Try.pinned (OpenSpec.upto fixBackSpec)

/-- 'thrumlaw01.FixSmall', WHERE WHAT IT READS IS OF BULK AT MOST 1048576: true; the input reads as it did. -/
def fixSmallUptoRow : OpenClaim := { program := "ytbfpdafncicgnaa", sum := "6d60dd4dccb60c49589cdeae7292f3d29df72aa45109caf81668ddd72d03a85c", func := "thrum/thrumlaw01.FixSmall", spec := "fixSmall", recurses := true, named := ["math/bits.divideError", "math/bits.overflowError"], apart := false, narrowed := true }
def FixSmallUptoSaid : Prop := fixSmallUptoRow.holds Try.pinned (OpenSpec.upto fixSmallSpec)

/-- 'thrumlaw01.FixWide', WHERE WHAT IT READS IS OF BULK AT MOST 1048576: true; the input reads as it did. -/
def fixWideUptoRow : OpenClaim := { program := "ytbfpdafncicgnaa", sum := "6d60dd4dccb60c49589cdeae7292f3d29df72aa45109caf81668ddd72d03a85c", func := "thrum/thrumlaw01.FixWide", spec := "fixWide", recurses := true, named := ["math/bits.divideError", "math/bits.overflowError"], apart := false, narrowed := true }
def FixWideUptoSaid : Prop := fixWideUptoRow.holds Try.pinned (OpenSpec.upto fixWideSpec)

/-- 'thrumlaw01.FixClips', WHERE WHAT IT READS IS OF BULK AT MOST 1048576: true; the input reads as it did. -/
def fixClipsUptoRow : OpenClaim := { program := "ytbfpdafncicgnaa", sum := "6d60dd4dccb60c49589cdeae7292f3d29df72aa45109caf81668ddd72d03a85c", func := "thrum/thrumlaw01.FixClips", spec := "fixClips", recurses := true, named := ["math/bits.divideError", "math/bits.overflowError"], apart := false, narrowed := true }
def FixClipsUptoSaid : Prop := fixClipsUptoRow.holds Try.pinned (OpenSpec.upto fixClipsSpec)

/-- 'thrumlaw01.FixShifts', WHERE WHAT IT READS IS OF BULK AT MOST 1048576: true; the input reads as it did. -/
def fixShiftsUptoRow : OpenClaim := { program := "ytbfpdafncicgnaa", sum := "6d60dd4dccb60c49589cdeae7292f3d29df72aa45109caf81668ddd72d03a85c", func := "thrum/thrumlaw01.FixShifts", spec := "fixShifts", recurses := true, named := ["math/bits.divideError", "math/bits.overflowError"], apart := false, narrowed := true }
def FixShiftsUptoSaid : Prop := fixShiftsUptoRow.holds Try.pinned (OpenSpec.upto fixShiftsSpec)

/-- 'thrumlaw01.FixNegs', WHERE WHAT IT READS IS OF BULK AT MOST 1048576: true; the input reads as it did. -/
def fixNegsUptoRow : OpenClaim := { program := "ytbfpdafncicgnaa", sum := "6d60dd4dccb60c49589cdeae7292f3d29df72aa45109caf81668ddd72d03a85c", func := "thrum/thrumlaw01.FixNegs", spec := "fixNegs", recurses := true, named := ["math/bits.divideError", "math/bits.overflowError"], apart := false, narrowed := true }
def FixNegsUptoSaid : Prop := fixNegsUptoRow.holds Try.pinned (OpenSpec.upto fixNegsSpec)

end Rows
end Go.Proofs.Ytbfpdafncicgnaa
