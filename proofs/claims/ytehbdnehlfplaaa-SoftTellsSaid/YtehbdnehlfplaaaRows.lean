/-
  No cell of these rows narrows 'for every input' (looked for: loops, veiled, ifaces, maps, wideKeys, modest, calm, conditions, laid).
  DERIVED. THE GIVEN ROWS OF THIS SEAT. 5 by the template 'for every input the law returns true; each argument reads behind the call as it read before'; 0 by the template 'total and deterministic' (their statements: YtehbdnehlfplaaaTotals.lean).
  GIVEN WITH THE SEED: the statements are not yours to turn. If you find one false, say at which input.
  Laid BY PROGRAM, IN A SANDBOX (cutbox-rows.mjs): the forced cells as the released guide's own fill.sh prints them over the translation df0013d632e5cfe6… (all of the seat's roots in one cut). By AI agents, Wed Nov 11 2026. No macro, syntax, notation, axiom, sorry.
-/
import Derived.Test.YtehbdnehlfplaaaChecked
import GoSem.Claim
import GoSem.ClaimJoined
import GoSem.ClaimMapViews
import Derived.JoinedTies
import Derived.KernelRfl
namespace Go.Proofs.Ytehbdnehlfplaaa
/- THE CELL 'sum', in the pinned program and in every row, IS THE sha256 OF THE DUMP (.gsa) THAT YtehbdnehlfplaaaProg.lean LOADS. Nothing in Lean hashes anything: it is a label: what it is worth is what the hold of that sum in a sandbox is worth. -/
noncomputable def Try.pinned : Pinned := { name := "ytehbdnehlfplaaa", sum := "df0013d632e5cfe68868df3bf0e35280d5108761f6660f9b8697407fedd22b0e", checked := Try.checked }
namespace Rows
def none {H : Type} : Left H := { results := [], args := [] }

/-- 'thrumlaw15.SoftTells': WHATEVER THE INPUT: true; the input reads as it did. -/
def softTellsSpec : ChangeSpec := { name := "softTells", fn := fun _ => fun
  | [d1, d2, d3, d4, d5] => { results := [.lit (.bool true)], args := [d1, d2, d3, d4, d5] }
  | _ => none }
def softTellsRow : OpenClaim := { program := "ytehbdnehlfplaaa", sum := "df0013d632e5cfe68868df3bf0e35280d5108761f6660f9b8697407fedd22b0e", func := "thrum/thrumlaw15.SoftTells", spec := "softTells", inPlace := ["math.sqrt"], unfollowed := true, recurses := true, named := ["math/bits.divideError", "math/bits.overflowError"], apart := false }
def SoftTellsSaid : Prop := softTellsRow.holds Try.pinned (OpenSpec.ofChange softTellsSpec)

/-- ITS FALSE NEIGHBOUR: 'it returns false'. Refute it at one input. -/
def softTellsWrong : ChangeSpec := { name := "softTells", fn := fun _ => fun
  | [d1, d2, d3, d4, d5] => { results := [.lit (.bool false)], args := [d1, d2, d3, d4, d5] }
  | _ => none }
def SoftTellsWrongFalsely : Prop := softTellsRow.holds Try.pinned (OpenSpec.ofChange softTellsWrong)

/-- 'thrumlaw15.SoftOff': WHATEVER THE INPUT: true; the input reads as it did. -/
def softOffSpec : ChangeSpec := { name := "softOff", fn := fun _ => fun
  | [d1, d2, d3, d4] => { results := [.lit (.bool true)], args := [d1, d2, d3, d4] }
  | _ => none }
def softOffRow : OpenClaim := { program := "ytehbdnehlfplaaa", sum := "df0013d632e5cfe68868df3bf0e35280d5108761f6660f9b8697407fedd22b0e", func := "thrum/thrumlaw15.SoftOff", spec := "softOff", inPlace := ["math.sqrt"], unfollowed := true, recurses := true, named := ["math/bits.divideError", "math/bits.overflowError"], apart := false }
def SoftOffSaid : Prop := softOffRow.holds Try.pinned (OpenSpec.ofChange softOffSpec)

/-- ITS FALSE NEIGHBOUR: 'it returns false'. Refute it at one input. -/
def softOffWrong : ChangeSpec := { name := "softOff", fn := fun _ => fun
  | [d1, d2, d3, d4] => { results := [.lit (.bool false)], args := [d1, d2, d3, d4] }
  | _ => none }
def SoftOffWrongFalsely : Prop := softOffRow.holds Try.pinned (OpenSpec.ofChange softOffWrong)

/-- 'thrumlaw15.SoftClass': WHATEVER THE INPUT: true; the input reads as it did. -/
def softClassSpec : ChangeSpec := { name := "softClass", fn := fun _ => fun
  | [d1, d2, d3, d4, d5] => { results := [.lit (.bool true)], args := [d1, d2, d3, d4, d5] }
  | _ => none }
def softClassRow : OpenClaim := { program := "ytehbdnehlfplaaa", sum := "df0013d632e5cfe68868df3bf0e35280d5108761f6660f9b8697407fedd22b0e", func := "thrum/thrumlaw15.SoftClass", spec := "softClass", inPlace := ["math.sqrt"], unfollowed := true, recurses := true, named := ["math/bits.divideError", "math/bits.overflowError"], apart := false }
def SoftClassSaid : Prop := softClassRow.holds Try.pinned (OpenSpec.ofChange softClassSpec)

/-- ITS FALSE NEIGHBOUR: 'it returns false'. Refute it at one input. -/
def softClassWrong : ChangeSpec := { name := "softClass", fn := fun _ => fun
  | [d1, d2, d3, d4, d5] => { results := [.lit (.bool false)], args := [d1, d2, d3, d4, d5] }
  | _ => none }
def SoftClassWrongFalsely : Prop := softClassRow.holds Try.pinned (OpenSpec.ofChange softClassWrong)

/-- 'thrumlaw15.SoftRows': WHATEVER THE INPUT: true; the input reads as it did. -/
def softRowsSpec : ChangeSpec := { name := "softRows", fn := fun _ => fun
  | [d1, d2] => { results := [.lit (.bool true)], args := [d1, d2] }
  | _ => none }
def softRowsRow : OpenClaim := { program := "ytehbdnehlfplaaa", sum := "df0013d632e5cfe68868df3bf0e35280d5108761f6660f9b8697407fedd22b0e", func := "thrum/thrumlaw15.SoftRows", spec := "softRows", inPlace := ["math.sqrt"], unfollowed := true, recurses := true, named := ["math/bits.divideError", "math/bits.overflowError"], apart := false }
def SoftRowsSaid : Prop := softRowsRow.holds Try.pinned (OpenSpec.ofChange softRowsSpec)

/-- ITS FALSE NEIGHBOUR: 'it returns false'. Refute it at one input. -/
def softRowsWrong : ChangeSpec := { name := "softRows", fn := fun _ => fun
  | [d1, d2] => { results := [.lit (.bool false)], args := [d1, d2] }
  | _ => none }
def SoftRowsWrongFalsely : Prop := softRowsRow.holds Try.pinned (OpenSpec.ofChange softRowsWrong)

/-- 'thrumlaw15.SoftTurns': WHATEVER THE INPUT: true; the input reads as it did. -/
def softTurnsSpec : ChangeSpec := { name := "softTurns", fn := fun _ => fun
  | [d1, d2, d3] => { results := [.lit (.bool true)], args := [d1, d2, d3] }
  | _ => none }
def softTurnsRow : OpenClaim := { program := "ytehbdnehlfplaaa", sum := "df0013d632e5cfe68868df3bf0e35280d5108761f6660f9b8697407fedd22b0e", func := "thrum/thrumlaw15.SoftTurns", spec := "softTurns", inPlace := ["math.sqrt"], unfollowed := true, recurses := true, named := ["math/bits.divideError", "math/bits.overflowError"], apart := false }
def SoftTurnsSaid : Prop := softTurnsRow.holds Try.pinned (OpenSpec.ofChange softTurnsSpec)

/-- ITS FALSE NEIGHBOUR: 'it returns false'. Refute it at one input. -/
def softTurnsWrong : ChangeSpec := { name := "softTurns", fn := fun _ => fun
  | [d1, d2, d3] => { results := [.lit (.bool false)], args := [d1, d2, d3] }
  | _ => none }
def SoftTurnsWrongFalsely : Prop := softTurnsRow.holds Try.pinned (OpenSpec.ofChange softTurnsWrong)

/- THE SECOND FORM. 'bulk': how many values and letters a reading holds, each counted each time it is reached (what is shared counts as often as it is met; a slice's spare places count too). A statement '..UptoSaid' is the law's where the arguments, and the package variables that the reading takes, are together of bulk at most 1048576: NARROWER than '..Said'. Prove '..Said' where nothing that the law and all that it calls make is longer than what came in: it says more and counts as full. Else prove '..UptoSaid'. A law counts once. -/
mutual
def uptoBulk {H : Type} : DataW H → Nat
  | .lit (.string bytes) => bytes.length + 1
  | .lit _ => 1
  | .nil => 1
  | .ptr d => uptoBulk d + 1
  | .slice elems spare => uptoBulkAll elems + uptoBulkAll spare + 1
  | .agg parts => uptoBulkAll parts + 1
  | .iface _ d => uptoBulk d + 1
  | .map entries => uptoBulkEntries entries + 1
  | .held _ => 1
def uptoBulkAll {H : Type} : List (DataW H) → Nat
  | [] => 0
  | d :: r => uptoBulk d + uptoBulkAll r
def uptoBulkEntries {H : Type} : List (Lit × DataW H) → Nat
  | [] => 0
  | x :: r => uptoBulkEntry x + uptoBulkEntries r
def uptoBulkEntry {H : Type} : Lit × DataW H → Nat
  | (.string bytes, d) => bytes.length + uptoBulk d + 1
  | (_, d) => uptoBulk d + 1
 end
def uptoSmall : (H : Type) → List (DataW H) → Bool := fun _ ds => decide (uptoBulkAll ds ≤ 1048576)
def OpenSpec.upto (s : _root_.Go.ChangeSpec) : _root_.Go.OpenSpec := { _root_.Go.OpenSpec.ofChange s with cond := some uptoSmall }

/-- 'thrumlaw15.SoftTells', WHERE WHAT IT READS IS OF BULK AT MOST 1048576: true; the input reads as it did. -/
def softTellsUptoRow : OpenClaim := { program := "ytehbdnehlfplaaa", sum := "df0013d632e5cfe68868df3bf0e35280d5108761f6660f9b8697407fedd22b0e", func := "thrum/thrumlaw15.SoftTells", spec := "softTells", inPlace := ["math.sqrt"], unfollowed := true, recurses := true, named := ["math/bits.divideError", "math/bits.overflowError"], apart := false, narrowed := true }
def SoftTellsUptoSaid : Prop := softTellsUptoRow.holds Try.pinned (OpenSpec.upto softTellsSpec)

/-- 'thrumlaw15.SoftOff', WHERE WHAT IT READS IS OF BULK AT MOST 1048576: true; the input reads as it did. -/
def softOffUptoRow : OpenClaim := { program := "ytehbdnehlfplaaa", sum := "df0013d632e5cfe68868df3bf0e35280d5108761f6660f9b8697407fedd22b0e", func := "thrum/thrumlaw15.SoftOff", spec := "softOff", inPlace := ["math.sqrt"], unfollowed := true, recurses := true, named := ["math/bits.divideError", "math/bits.overflowError"], apart := false, narrowed := true }
def SoftOffUptoSaid : Prop := softOffUptoRow.holds Try.pinned (OpenSpec.upto softOffSpec)

/-- 'thrumlaw15.SoftClass', WHERE WHAT IT READS IS OF BULK AT MOST 1048576: true; the input reads as it did. -/
def softClassUptoRow : OpenClaim := { program := "ytehbdnehlfplaaa", sum := "df0013d632e5cfe68868df3bf0e35280d5108761f6660f9b8697407fedd22b0e", func := "thrum/thrumlaw15.SoftClass", spec := "softClass", inPlace := ["math.sqrt"], unfollowed := true, recurses := true, named := ["math/bits.divideError", "math/bits.overflowError"], apart := false, narrowed := true }
def SoftClassUptoSaid : Prop := softClassUptoRow.holds Try.pinned (OpenSpec.upto softClassSpec)

/-- 'thrumlaw15.SoftRows', WHERE WHAT IT READS IS OF BULK AT MOST 1048576: true; the input reads as it did. -/
def softRowsUptoRow : OpenClaim := { program := "ytehbdnehlfplaaa", sum := "df0013d632e5cfe68868df3bf0e35280d5108761f6660f9b8697407fedd22b0e", func := "thrum/thrumlaw15.SoftRows", spec := "softRows", inPlace := ["math.sqrt"], unfollowed := true, recurses := true, named := ["math/bits.divideError", "math/bits.overflowError"], apart := false, narrowed := true }
def SoftRowsUptoSaid : Prop := softRowsUptoRow.holds Try.pinned (OpenSpec.upto softRowsSpec)

/-- 'thrumlaw15.SoftTurns', WHERE WHAT IT READS IS OF BULK AT MOST 1048576: true; the input reads as it did. -/
def softTurnsUptoRow : OpenClaim := { program := "ytehbdnehlfplaaa", sum := "df0013d632e5cfe68868df3bf0e35280d5108761f6660f9b8697407fedd22b0e", func := "thrum/thrumlaw15.SoftTurns", spec := "softTurns", inPlace := ["math.sqrt"], unfollowed := true, recurses := true, named := ["math/bits.divideError", "math/bits.overflowError"], apart := false, narrowed := true }
def SoftTurnsUptoSaid : Prop := softTurnsUptoRow.holds Try.pinned (OpenSpec.upto softTurnsSpec)

end Rows
end Go.Proofs.Ytehbdnehlfplaaa
