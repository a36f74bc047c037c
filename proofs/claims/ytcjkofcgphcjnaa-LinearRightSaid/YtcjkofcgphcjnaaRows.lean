/-
  No cell of these rows narrows 'for every input' (looked for: loops, veiled, ifaces, maps, wideKeys, modest, calm, conditions, laid).
  DERIVED. THE GIVEN ROWS OF THIS SEAT. 6 by the template 'for every input the law returns true; each argument reads behind the call as it read before'; 0 by the template 'total and deterministic' (their statements: YtcjkofcgphcjnaaTotals.lean).
  GIVEN WITH THE SEED: the statements are not yours to turn. If you find one false, say at which input.
  Laid BY PROGRAM, IN A SANDBOX (cutbox-rows.mjs): the forced cells as the released guide's own fill.sh prints them over the translation b4cae209306129a5… (all of the seat's roots in one cut). By AI agents, Wed Nov 11 2026. No macro, syntax, notation, axiom, sorry.
-/
import Derived.Test.YtcjkofcgphcjnaaChecked
import GoSem.Claim
import GoSem.ClaimJoined
import GoSem.ClaimMapViews
import Derived.JoinedTies
import Derived.KernelRfl
namespace Go.Proofs.Ytcjkofcgphcjnaa
/- THE CELL 'sum', in the pinned program and in every row, IS THE sha256 OF THE DUMP (.gsa) THAT YtcjkofcgphcjnaaProg.lean LOADS. Nothing in Lean hashes anything: it is a label: what it is worth is what the hold of that sum in a sandbox is worth. -/
noncomputable def Try.pinned : Pinned := { name := "ytcjkofcgphcjnaa", sum := "b4cae209306129a5d20766a6a7ac888fe913c321a9b22d35db916250368ed6a3", checked := Try.checked }
namespace Rows
def none {H : Type} : Left H := { results := [], args := [] }

/-- 'thrumlaw14.LinearTells': WHATEVER THE INPUT: true; the input reads as it did. -/
def linearTellsSpec : ChangeSpec := { name := "linearTells", fn := fun _ => fun
  | [d1, d2, d3, d4, d5, d6] => { results := [.lit (.bool true)], args := [d1, d2, d3, d4, d5, d6] }
  | _ => none }
def linearTellsRow : OpenClaim := { program := "ytcjkofcgphcjnaa", sum := "b4cae209306129a5d20766a6a7ac888fe913c321a9b22d35db916250368ed6a3", func := "thrum/thrumlaw14.LinearTells", spec := "linearTells", unfollowed := true, recurses := true, named := ["math/bits.divideError", "math/bits.overflowError"], apart := false }
def LinearTellsSaid : Prop := linearTellsRow.holds Try.pinned (OpenSpec.ofChange linearTellsSpec)

/-- ITS FALSE NEIGHBOUR: 'it returns false'. Refute it at one input. -/
def linearTellsWrong : ChangeSpec := { name := "linearTells", fn := fun _ => fun
  | [d1, d2, d3, d4, d5, d6] => { results := [.lit (.bool false)], args := [d1, d2, d3, d4, d5, d6] }
  | _ => none }
def LinearTellsWrongFalsely : Prop := linearTellsRow.holds Try.pinned (OpenSpec.ofChange linearTellsWrong)

/-- 'thrumlaw14.LinearBends': WHATEVER THE INPUT: true; the input reads as it did. -/
def linearBendsSpec : ChangeSpec := { name := "linearBends", fn := fun _ => fun
  | [d1, d2, d3, d4] => { results := [.lit (.bool true)], args := [d1, d2, d3, d4] }
  | _ => none }
def linearBendsRow : OpenClaim := { program := "ytcjkofcgphcjnaa", sum := "b4cae209306129a5d20766a6a7ac888fe913c321a9b22d35db916250368ed6a3", func := "thrum/thrumlaw14.LinearBends", spec := "linearBends", unfollowed := true, recurses := true, named := ["math/bits.divideError", "math/bits.overflowError"], apart := false }
def LinearBendsSaid : Prop := linearBendsRow.holds Try.pinned (OpenSpec.ofChange linearBendsSpec)

/-- ITS FALSE NEIGHBOUR: 'it returns false'. Refute it at one input. -/
def linearBendsWrong : ChangeSpec := { name := "linearBends", fn := fun _ => fun
  | [d1, d2, d3, d4] => { results := [.lit (.bool false)], args := [d1, d2, d3, d4] }
  | _ => none }
def LinearBendsWrongFalsely : Prop := linearBendsRow.holds Try.pinned (OpenSpec.ofChange linearBendsWrong)

/-- 'thrumlaw14.LinearRight': WHATEVER THE INPUT: true; the input reads as it did. -/
def linearRightSpec : ChangeSpec := { name := "linearRight", fn := fun _ => fun
  | [d1, d2, d3] => { results := [.lit (.bool true)], args := [d1, d2, d3] }
  | _ => none }
def linearRightRow : OpenClaim := { program := "ytcjkofcgphcjnaa", sum := "b4cae209306129a5d20766a6a7ac888fe913c321a9b22d35db916250368ed6a3", func := "thrum/thrumlaw14.LinearRight", spec := "linearRight", unfollowed := true, recurses := true, named := ["math/bits.divideError", "math/bits.overflowError"], apart := false }
def LinearRightSaid : Prop := linearRightRow.holds Try.pinned (OpenSpec.ofChange linearRightSpec)

/-- ITS FALSE NEIGHBOUR: 'it returns false'. Refute it at one input. -/
def linearRightWrong : ChangeSpec := { name := "linearRight", fn := fun _ => fun
  | [d1, d2, d3] => { results := [.lit (.bool false)], args := [d1, d2, d3] }
  | _ => none }
def LinearRightWrongFalsely : Prop := linearRightRow.holds Try.pinned (OpenSpec.ofChange linearRightWrong)

/-- 'thrumlaw14.LinearTurns': WHATEVER THE INPUT: true; the input reads as it did. -/
def linearTurnsSpec : ChangeSpec := { name := "linearTurns", fn := fun _ => fun
  | [d1, d2, d3] => { results := [.lit (.bool true)], args := [d1, d2, d3] }
  | _ => none }
def linearTurnsRow : OpenClaim := { program := "ytcjkofcgphcjnaa", sum := "b4cae209306129a5d20766a6a7ac888fe913c321a9b22d35db916250368ed6a3", func := "thrum/thrumlaw14.LinearTurns", spec := "linearTurns", unfollowed := true, recurses := true, named := ["math/bits.divideError", "math/bits.overflowError"], apart := false }
def LinearTurnsSaid : Prop := linearTurnsRow.holds Try.pinned (OpenSpec.ofChange linearTurnsSpec)

/-- ITS FALSE NEIGHBOUR: 'it returns false'. Refute it at one input. -/
def linearTurnsWrong : ChangeSpec := { name := "linearTurns", fn := fun _ => fun
  | [d1, d2, d3] => { results := [.lit (.bool false)], args := [d1, d2, d3] }
  | _ => none }
def LinearTurnsWrongFalsely : Prop := linearTurnsRow.holds Try.pinned (OpenSpec.ofChange linearTurnsWrong)

/-- 'thrumlaw14.LinearGrows': WHATEVER THE INPUT: true; the input reads as it did. -/
def linearGrowsSpec : ChangeSpec := { name := "linearGrows", fn := fun _ => fun
  | [d1, d2, d3] => { results := [.lit (.bool true)], args := [d1, d2, d3] }
  | _ => none }
def linearGrowsRow : OpenClaim := { program := "ytcjkofcgphcjnaa", sum := "b4cae209306129a5d20766a6a7ac888fe913c321a9b22d35db916250368ed6a3", func := "thrum/thrumlaw14.LinearGrows", spec := "linearGrows", unfollowed := true, recurses := true, named := ["math/bits.divideError", "math/bits.overflowError"], apart := false }
def LinearGrowsSaid : Prop := linearGrowsRow.holds Try.pinned (OpenSpec.ofChange linearGrowsSpec)

/-- ITS FALSE NEIGHBOUR: 'it returns false'. Refute it at one input. -/
def linearGrowsWrong : ChangeSpec := { name := "linearGrows", fn := fun _ => fun
  | [d1, d2, d3] => { results := [.lit (.bool false)], args := [d1, d2, d3] }
  | _ => none }
def LinearGrowsWrongFalsely : Prop := linearGrowsRow.holds Try.pinned (OpenSpec.ofChange linearGrowsWrong)

/-- 'thrumlaw14.LinearBase': WHATEVER THE INPUT: true; the input reads as it did. -/
def linearBaseSpec : ChangeSpec := { name := "linearBase", fn := fun _ => fun
  | [d1, d2, d3, d4] => { results := [.lit (.bool true)], args := [d1, d2, d3, d4] }
  | _ => none }
def linearBaseRow : OpenClaim := { program := "ytcjkofcgphcjnaa", sum := "b4cae209306129a5d20766a6a7ac888fe913c321a9b22d35db916250368ed6a3", func := "thrum/thrumlaw14.LinearBase", spec := "linearBase", unfollowed := true, recurses := true, named := ["math/bits.divideError", "math/bits.overflowError"], apart := false }
def LinearBaseSaid : Prop := linearBaseRow.holds Try.pinned (OpenSpec.ofChange linearBaseSpec)

/-- ITS FALSE NEIGHBOUR: 'it returns false'. Refute it at one input. -/
def linearBaseWrong : ChangeSpec := { name := "linearBase", fn := fun _ => fun
  | [d1, d2, d3, d4] => { results := [.lit (.bool false)], args := [d1, d2, d3, d4] }
  | _ => none }
def LinearBaseWrongFalsely : Prop := linearBaseRow.holds Try.pinned (OpenSpec.ofChange linearBaseWrong)

/- THE SECOND FORM. 'bulk': how many values and letters a reading holds, each counted each time it is reached (what is shared counts as often as it is met; a slice's spare places count too). A statement '..UptoSaid' is the law's where the arguments, and the package variables that the reading takes, are together of bulk at most 1048576: NARROWER than '..Said'. Prove '..Said' where nothing that the law and all that it calls make is longer than what came in: it says more and counts as full. Else prove '..UptoSaid'. A law counts once. -/
mutual
def uptoBulk {H : Type} : DataW H → Nat
  | .lit (.string bytes) => bytes.length + 1
  | .lit _ => 1
  | .nil => 1
  | .ptr d => uptoBulk d + 1
  | .slice elems spare => uptoBulkAll elems + uptoBulkAll spare + 1
  | .agg parts => uptoBulkAll parts + 1
  | .iface _ d => uptoBulk d + 1
  | .map entries => uptoBulkEntries entries + 1
  | .held _ => 1
def uptoBulkAll {H : Type} : List (DataW H) → Nat
  | [] => 0
  | d :: r => uptoBulk d + uptoBulkAll r
def uptoBulkEntries {H : Type} : List (Lit × DataW H) → Nat
  | [] => 0
  | x :: r => uptoBulkEntry x + uptoBulkEntries r
def uptoBulkEntry {H : Type} : Lit × DataW H → Nat
  | (.string bytes, d) => bytes.length + uptoBulk d + 1
  | (_, d) => uptoBulk d + 1
 end
def uptoSmall : (H : Type) → List (DataW H) → Bool := fun _ ds => decide (uptoBulkAll ds ≤ 1048576)
def OpenSpec.upto (s : _root_.Go.ChangeSpec) : _root_.Go.OpenSpec := { _root_.Go.OpenSpec.ofChange s with cond := some uptoSmall }

/-- 'thrumlaw14.LinearTells', WHERE WHAT IT READS IS OF BULK AT MOST 1048576: true; the input reads as it did. -/
def linearTellsUptoRow : OpenClaim := { program := "ytcjkofcgphcjnaa", sum := "b4cae209306129a5d20766a6a7ac888fe913c321a9b22d35db916250368ed6a3", func := "thrum/thrumlaw14.LinearTells", spec := "linearTells", unfollowed := true, recurses := true, named := ["math/bits.divideError", "math/bits.overflowError"], apart := false, narrowed := true }
def LinearTellsUptoSaid : Prop := linearTellsUptoRow.holds Try.pinned (OpenSpec.upto linearTellsSpec)

/-- 'thrumlaw14.LinearBends', WHERE WHAT IT READS IS OF BULK AT MOST 1048576: true; the input reads as it did. -/
def linearBendsUptoRow : OpenClaim := { program := "ytcjkofcgphcjnaa", sum := "b4cae209306129a5d20766a6a7ac888fe913c321a9b22d35db916250368ed6a3", func := "thrum/thrumlaw14.LinearBends", spec := "linearBends", unfollowed := true, recurses := true, named := ["math/bits.divideError", "math/bits.overflowError"], apart := false, narrowed := true }
def LinearBendsUptoSaid : Prop := linearBendsUptoRow.holds Try.pinned (OpenSpec.upto linearBendsSpec)

/-- 'thrumlaw14.LinearRight', WHERE WHAT IT READS IS OF BULK AT MOST 1048576: true; the input reads as it did. -/
def linearRightUptoRow : OpenClaim := { program := "ytcjkofcgphcjnaa", sum := "b4cae209306129a5d20766a6a7ac888fe913c321a9b22d35db916250368ed6a3", func := "thrum/thrumlaw14.LinearRight", spec := "linearRight", unfollowed := true, recurses := true, named := ["math/bits.divideError", "math/bits.overflowError"], apart := false, narrowed := true }
def LinearRightUptoSaid : Prop := linearRightUptoRow.holds Try.pinned (OpenSpec.upto linearRightSpec)

/-- 'thrumlaw14.LinearTurns', WHERE WHAT IT READS IS OF BULK AT MOST 1048576: true; the input reads as it did. -/
def linearTurnsUptoRow : OpenClaim := { program := "ytcjkofcgphcjnaa", sum := "b4cae209306129a5d20766a6a7ac888fe913c321a9b22d35db916250368ed6a3", func := "thrum/thrumlaw14.LinearTurns", spec := "linearTurns", unfollowed := true, recurses := true, named := ["math/bits.divideError", "math/bits.overflowError"], apart := false, narrowed := true }
def LinearTurnsUptoSaid : Prop := linearTurnsUptoRow.holds Try.pinned (OpenSpec.upto linearTurnsSpec)

/-- 'thrumlaw14.LinearGrows', WHERE WHAT IT READS IS OF BULK AT MOST 1048576: true; the input reads as it did. -/
def linearGrowsUptoRow : OpenClaim := { program := "ytcjkofcgphcjnaa", sum := "b4cae209306129a5d20766a6a7ac888fe913c321a9b22d35db916250368ed6a3", func := "thrum/thrumlaw14.LinearGrows", spec := "linearGrows", unfollowed := true, recurses := true, named := ["math/bits.divideError", "math/bits.overflowError"], apart := false, narrowed := true }
def LinearGrowsUptoSaid : Prop := linearGrowsUptoRow.holds Try.pinned (OpenSpec.upto linearGrowsSpec)

/-- 'thrumlaw14.LinearBase', WHERE WHAT IT READS IS OF BULK AT MOST 1048576: true; the input reads as it did. -/
def linearBaseUptoRow : OpenClaim := { program := "ytcjkofcgphcjnaa", sum := "b4cae209306129a5d20766a6a7ac888fe913c321a9b22d35db916250368ed6a3", func := "thrum/thrumlaw14.LinearBase", spec := "linearBase", unfollowed := true, recurses := true, named := ["math/bits.divideError", "math/bits.overflowError"], apart := false, narrowed := true }
def LinearBaseUptoSaid : Prop := linearBaseUptoRow.holds Try.pinned (OpenSpec.upto linearBaseSpec)

end Rows
end Go.Proofs.Ytcjkofcgphcjnaa
