/-
  No cell of these rows narrows 'for every input' (looked for: loops, veiled, ifaces, maps, wideKeys, modest, calm, conditions, laid).
  DERIVED. THE GIVEN ROWS OF THIS SEAT. 6 by the template 'for every input the law returns true; each argument reads behind the call as it read before'; 0 by the template 'total and deterministic' (their statements: YtbkoapdeglmopaaTotals.lean).
  GIVEN WITH THE SEED: the statements are not yours to turn. If you find one false, say at which input.
  Laid BY PROGRAM, IN A SANDBOX (cutbox-rows.mjs): the forced cells as the released guide's own fill.sh prints them over the translation baa8d4c5ffadc4c7… (all of the seat's roots in one cut). By AI agents, Wed Nov 11 2026. No macro, syntax, notation, axiom, sorry.
-/
import Derived.Test.YtbkoapdeglmopaaChecked
import GoSem.Claim
import GoSem.ClaimJoined
import GoSem.ClaimMapViews
import Derived.JoinedTies
import Derived.KernelRfl
namespace Go.Proofs.Ytbkoapdeglmopaa
/- THE CELL 'sum', in the pinned program and in every row, IS THE sha256 OF THE DUMP (.gsa) THAT YtbkoapdeglmopaaProg.lean LOADS. Nothing in Lean hashes anything: it is a label: what it is worth is what the hold of that sum in a sandbox is worth. -/
noncomputable def Try.pinned : Pinned := { name := "ytbkoapdeglmopaa", sum := "baa8d4c5ffadc4c7a30cc906ceb9c8272cb9d3d8e25208e0202f2ea31ee29c34", checked := Try.checked }
namespace Rows
def none {H : Type} : Left H := { results := [], args := [] }

/-- 'thrumlaw10.QuantLevels': WHATEVER THE INPUT: true; the input reads as it did. -/
def quantLevelsSpec : ChangeSpec := { name := "quantLevels", fn := fun _ => fun
  | [d1, d2, d3, d4] => { results := [.lit (.bool true)], args := [d1, d2, d3, d4] }
  | _ => none }
def quantLevelsRow : OpenClaim := { program := "ytbkoapdeglmopaa", sum := "baa8d4c5ffadc4c7a30cc906ceb9c8272cb9d3d8e25208e0202f2ea31ee29c34", func := "thrum/thrumlaw10.QuantLevels", spec := "quantLevels", unfollowed := true, recurses := true, named := ["math/bits.divideError", "math/bits.overflowError"], apart := false }
def QuantLevelsSaid : Prop := quantLevelsRow.holds Try.pinned (OpenSpec.ofChange quantLevelsSpec)

/-- ITS FALSE NEIGHBOUR: 'it returns false'. Refute it at one input. -/
def quantLevelsWrong : ChangeSpec := { name := "quantLevels", fn := fun _ => fun
  | [d1, d2, d3, d4] => { results := [.lit (.bool false)], args := [d1, d2, d3, d4] }
  | _ => none }
def QuantLevelsWrongFalsely : Prop := quantLevelsRow.holds Try.pinned (OpenSpec.ofChange quantLevelsWrong)

/-- 'thrumlaw10.QuantPresses': WHATEVER THE INPUT: true; the input reads as it did. -/
def quantPressesSpec : ChangeSpec := { name := "quantPresses", fn := fun _ => fun
  | [d1, d2, d3, d4, d5] => { results := [.lit (.bool true)], args := [d1, d2, d3, d4, d5] }
  | _ => none }
def quantPressesRow : OpenClaim := { program := "ytbkoapdeglmopaa", sum := "baa8d4c5ffadc4c7a30cc906ceb9c8272cb9d3d8e25208e0202f2ea31ee29c34", func := "thrum/thrumlaw10.QuantPresses", spec := "quantPresses", unfollowed := true, recurses := true, named := ["math/bits.divideError", "math/bits.overflowError"], apart := false }
def QuantPressesSaid : Prop := quantPressesRow.holds Try.pinned (OpenSpec.ofChange quantPressesSpec)

/-- ITS FALSE NEIGHBOUR: 'it returns false'. Refute it at one input. -/
def quantPressesWrong : ChangeSpec := { name := "quantPresses", fn := fun _ => fun
  | [d1, d2, d3, d4, d5] => { results := [.lit (.bool false)], args := [d1, d2, d3, d4, d5] }
  | _ => none }
def QuantPressesWrongFalsely : Prop := quantPressesRow.holds Try.pinned (OpenSpec.ofChange quantPressesWrong)

/-- 'thrumlaw10.QuantNear': WHATEVER THE INPUT: true; the input reads as it did. -/
def quantNearSpec : ChangeSpec := { name := "quantNear", fn := fun _ => fun
  | [d1, d2, d3, d4] => { results := [.lit (.bool true)], args := [d1, d2, d3, d4] }
  | _ => none }
def quantNearRow : OpenClaim := { program := "ytbkoapdeglmopaa", sum := "baa8d4c5ffadc4c7a30cc906ceb9c8272cb9d3d8e25208e0202f2ea31ee29c34", func := "thrum/thrumlaw10.QuantNear", spec := "quantNear", unfollowed := true, recurses := true, named := ["math/bits.divideError", "math/bits.overflowError"], apart := false }
def QuantNearSaid : Prop := quantNearRow.holds Try.pinned (OpenSpec.ofChange quantNearSpec)

/-- ITS FALSE NEIGHBOUR: 'it returns false'. Refute it at one input. -/
def quantNearWrong : ChangeSpec := { name := "quantNear", fn := fun _ => fun
  | [d1, d2, d3, d4] => { results := [.lit (.bool false)], args := [d1, d2, d3, d4] }
  | _ => none }
def QuantNearWrongFalsely : Prop := quantNearRow.holds Try.pinned (OpenSpec.ofChange quantNearWrong)

/-- 'thrumlaw10.QuantSure': WHATEVER THE INPUT: true; the input reads as it did. -/
def quantSureSpec : ChangeSpec := { name := "quantSure", fn := fun _ => fun
  | [d1, d2, d3, d4] => { results := [.lit (.bool true)], args := [d1, d2, d3, d4] }
  | _ => none }
def quantSureRow : OpenClaim := { program := "ytbkoapdeglmopaa", sum := "baa8d4c5ffadc4c7a30cc906ceb9c8272cb9d3d8e25208e0202f2ea31ee29c34", func := "thrum/thrumlaw10.QuantSure", spec := "quantSure", unfollowed := true, recurses := true, named := ["math/bits.divideError", "math/bits.overflowError"], apart := false }
def QuantSureSaid : Prop := quantSureRow.holds Try.pinned (OpenSpec.ofChange quantSureSpec)

/-- ITS FALSE NEIGHBOUR: 'it returns false'. Refute it at one input. -/
def quantSureWrong : ChangeSpec := { name := "quantSure", fn := fun _ => fun
  | [d1, d2, d3, d4] => { results := [.lit (.bool false)], args := [d1, d2, d3, d4] }
  | _ => none }
def QuantSureWrongFalsely : Prop := quantSureRow.holds Try.pinned (OpenSpec.ofChange quantSureWrong)

/-- 'thrumlaw10.QuantSteps': WHATEVER THE INPUT: true; the input reads as it did. -/
def quantStepsSpec : ChangeSpec := { name := "quantSteps", fn := fun _ => fun
  | [d1, d2, d3, d4] => { results := [.lit (.bool true)], args := [d1, d2, d3, d4] }
  | _ => none }
def quantStepsRow : OpenClaim := { program := "ytbkoapdeglmopaa", sum := "baa8d4c5ffadc4c7a30cc906ceb9c8272cb9d3d8e25208e0202f2ea31ee29c34", func := "thrum/thrumlaw10.QuantSteps", spec := "quantSteps", unfollowed := true, recurses := true, named := ["math/bits.divideError", "math/bits.overflowError"], apart := false }
def QuantStepsSaid : Prop := quantStepsRow.holds Try.pinned (OpenSpec.ofChange quantStepsSpec)

/-- ITS FALSE NEIGHBOUR: 'it returns false'. Refute it at one input. -/
def quantStepsWrong : ChangeSpec := { name := "quantSteps", fn := fun _ => fun
  | [d1, d2, d3, d4] => { results := [.lit (.bool false)], args := [d1, d2, d3, d4] }
  | _ => none }
def QuantStepsWrongFalsely : Prop := quantStepsRow.holds Try.pinned (OpenSpec.ofChange quantStepsWrong)

/-- 'thrumlaw10.QuantTurned': WHATEVER THE INPUT: true; the input reads as it did. -/
def quantTurnedSpec : ChangeSpec := { name := "quantTurned", fn := fun _ => fun
  | [d1, d2, d3, d4] => { results := [.lit (.bool true)], args := [d1, d2, d3, d4] }
  | _ => none }
def quantTurnedRow : OpenClaim := { program := "ytbkoapdeglmopaa", sum := "baa8d4c5ffadc4c7a30cc906ceb9c8272cb9d3d8e25208e0202f2ea31ee29c34", func := "thrum/thrumlaw10.QuantTurned", spec := "quantTurned", unfollowed := true, recurses := true, named := ["math/bits.divideError", "math/bits.overflowError"], apart := false }
def QuantTurnedSaid : Prop := quantTurnedRow.holds Try.pinned (OpenSpec.ofChange quantTurnedSpec)

/-- ITS FALSE NEIGHBOUR: 'it returns false'. Refute it at one input. -/
def quantTurnedWrong : ChangeSpec := { name := "quantTurned", fn := fun _ => fun
  | [d1, d2, d3, d4] => { results := [.lit (.bool false)], args := [d1, d2, d3, d4] }
  | _ => none }
def QuantTurnedWrongFalsely : Prop := quantTurnedRow.holds Try.pinned (OpenSpec.ofChange quantTurnedWrong)

/- THE SECOND FORM. 'bulk': how many values and letters a reading holds, each counted each time it is reached (what is shared counts as often as it is met; a slice's spare places count too). A statement '..UptoSaid' is the law's where the arguments, and the package variables that the reading takes, are together of bulk at most 1048576: NARROWER than '..Said'. Prove '..Said' where nothing that the law and all that it calls make is longer than what came in: it says more and counts as full. Else prove '..UptoSaid'. A law counts once. -/
mutual
def uptoBulk {H : Type} : DataW H → Nat
  | .lit (.string bytes) => bytes.length + 1
  | .lit _ => 1
  | .nil => 1
  | .ptr d => uptoBulk d + 1
  | .slice elems spare => uptoBulkAll elems + uptoBulkAll spare + 1
  | .agg parts => uptoBulkAll parts + 1
  | .iface _ d => uptoBulk d + 1
  | .map entries => uptoBulkEntries entries + 1
  | .held _ => 1
def uptoBulkAll {H : Type} : List (DataW H) → Nat
  | [] => 0
  | d :: r => uptoBulk d + uptoBulkAll r
def uptoBulkEntries {H : Type} : List (Lit × DataW H) → Nat
  | [] => 0
  | x :: r => uptoBulkEntry x + uptoBulkEntries r
def uptoBulkEntry {H : Type} : Lit × DataW H → Nat
  | (.string bytes, d) => bytes.length + uptoBulk d + 1
  | (_, d) => uptoBulk d + 1
 end
def uptoSmall : (H : Type) → List (DataW H) → Bool := fun _ ds => decide (uptoBulkAll ds ≤ 1048576)
def OpenSpec.upto (s : _root_.Go.ChangeSpec) : _root_.Go.OpenSpec := { _root_.Go.OpenSpec.ofChange s with cond := some uptoSmall }

/-- 'thrumlaw10.QuantLevels', WHERE WHAT IT READS IS OF BULK AT MOST 1048576: true; the input reads as it did. -/
def quantLevelsUptoRow : OpenClaim := { program := "ytbkoapdeglmopaa", sum := "baa8d4c5ffadc4c7a30cc906ceb9c8272cb9d3d8e25208e0202f2ea31ee29c34", func := "thrum/thrumlaw10.QuantLevels", spec := "quantLevels", unfollowed := true, recurses := true, named := ["math/bits.divideError", "math/bits.overflowError"], apart := false, narrowed := true }
def QuantLevelsUptoSaid : Prop := quantLevelsUptoRow.holds Try.pinned (OpenSpec.upto quantLevelsSpec)

/-- 'thrumlaw10.QuantPresses', WHERE WHAT IT READS IS OF BULK AT MOST 1048576: true; the input reads as it did. -/
def quantPressesUptoRow : OpenClaim := { program := "ytbkoapdeglmopaa", sum := "baa8d4c5ffadc4c7a30cc906ceb9c8272cb9d3d8e25208e0202f2ea31ee29c34", func := "thrum/thrumlaw10.QuantPresses", spec := "quantPresses", unfollowed := true, recurses := true, named := ["math/bits.divideError", "math/bits.overflowError"], apart := false, narrowed := true }
def QuantPressesUptoSaid : Prop := quantPressesUptoRow.holds Try.pinned (OpenSpec.upto quantPressesSpec)

/-- 'thrumlaw10.QuantNear', WHERE WHAT IT READS IS OF BULK AT MOST 1048576: true; the input reads as it did. -/
def quantNearUptoRow : OpenClaim := { program := "ytbkoapdeglmopaa", sum := "baa8d4c5ffadc4c7a30cc906ceb9c8272cb9d3d8e25208e0202f2ea31ee29c34", func := "thrum/thrumlaw10.QuantNear", spec := "quantNear", unfollowed := true, recurses := true, named := ["math/bits.divideError", "math/bits.overflowError"], apart := false, narrowed := true }
def QuantNearUptoSaid : Prop := quantNearUptoRow.holds Try.pinned (OpenSpec.upto quantNearSpec)

/-- 'thrumlaw10.QuantSure', WHERE WHAT IT READS IS OF BULK AT MOST 1048576: true; the input reads as it did. -/
def quantSureUptoRow : OpenClaim := { program := "ytbkoapdeglmopaa", sum := "baa8d4c5ffadc4c7a30cc906ceb9c8272cb9d3d8e25208e0202f2ea31ee29c34", func := "thrum/thrumlaw10.QuantSure", spec := "quantSure", unfollowed := true, recurses := true, named := ["math/bits.divideError", "math/bits.overflowError"], apart := false, narrowed := true }
def QuantSureUptoSaid : Prop := quantSureUptoRow.holds Try.pinned (OpenSpec.upto quantSureSpec)

/-- 'thrumlaw10.QuantSteps', WHERE WHAT IT READS IS OF BULK AT MOST 1048576: true; the input reads as it did. -/
def quantStepsUptoRow : OpenClaim := { program := "ytbkoapdeglmopaa", sum := "baa8d4c5ffadc4c7a30cc906ceb9c8272cb9d3d8e25208e0202f2ea31ee29c34", func := "thrum/thrumlaw10.QuantSteps", spec := "quantSteps", unfollowed := true, recurses := true, named := ["math/bits.divideError", "math/bits.overflowError"], apart := false, narrowed := true }
def QuantStepsUptoSaid : Prop := quantStepsUptoRow.holds Try.pinned (OpenSpec.upto quantStepsSpec)

/-- 'thrumlaw10.QuantTurned', WHERE WHAT IT READS IS OF BULK AT MOST 1048576: true; the input reads as it did. -/
def quantTurnedUptoRow : OpenClaim := { program := "ytbkoapdeglmopaa", sum := "baa8d4c5ffadc4c7a30cc906ceb9c8272cb9d3d8e25208e0202f2ea31ee29c34", func := "thrum/thrumlaw10.QuantTurned", spec := "quantTurned", unfollowed := true, recurses := true, named := ["math/bits.divideError", "math/bits.overflowError"], apart := false, narrowed := true }
def QuantTurnedUptoSaid : Prop := quantTurnedUptoRow.holds Try.pinned (OpenSpec.upto quantTurnedSpec)

end Rows
end Go.Proofs.Ytbkoapdeglmopaa
