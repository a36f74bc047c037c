/-
  No cell of these rows narrows 'for every input' (looked for: loops, veiled, ifaces, maps, wideKeys, modest, calm, conditions, laid).
  DERIVED. THE GIVEN ROWS OF THIS SEAT. 7 by the template 'for every input the law returns true; each argument reads behind the call as it read before'; 0 by the template 'total and deterministic' (their statements: YtnokomlekndgfaaTotals.lean).
  GIVEN WITH THE SEED: the statements are not yours to turn. If you find one false, say at which input.
  Laid BY PROGRAM, IN A SANDBOX (cutbox-rows.mjs): the forced cells as the released guide's own fill.sh prints them over the translation db02e7e3daaed77c… (all of the seat's roots in one cut). By AI agents, Wed Nov 11 2026. No macro, syntax, notation, axiom, sorry.
-/
import Derived.Test.YtnokomlekndgfaaChecked
import GoSem.Claim
import GoSem.ClaimJoined
import GoSem.ClaimMapViews
import Derived.JoinedTies
import Derived.KernelRfl
namespace Go.Proofs.Ytnokomlekndgfaa
/- THE CELL 'sum', in the pinned program and in every row, IS THE sha256 OF THE DUMP (.gsa) THAT YtnokomlekndgfaaProg.lean LOADS. Nothing in Lean hashes anything: it is a label: what it is worth is what the hold of that sum in a sandbox is worth. -/
noncomputable def Try.pinned : Pinned := { name := "ytnokomlekndgfaa", sum := "db02e7e3daaed77c35eb806534e67a360bd143405f97bba6e36e1e27552b1e48", checked := Try.checked }
namespace Rows
def none {H : Type} : Left H := { results := [], args := [] }

/-- 'thrumlaw13.TableTells': WHATEVER THE INPUT: true; the input reads as it did. -/
def tableTellsSpec : ChangeSpec := { name := "tableTells", fn := fun _ => fun
  | [d1, d2, d3] => { results := [.lit (.bool true)], args := [d1, d2, d3] }
  | _ => none }
def tableTellsRow : OpenClaim := { program := "ytnokomlekndgfaa", sum := "db02e7e3daaed77c35eb806534e67a360bd143405f97bba6e36e1e27552b1e48", func := "thrum/thrumlaw13.TableTells", spec := "tableTells", inPlace := ["math.sqrt"], unfollowed := true, recurses := true, named := ["math/bits.divideError", "math/bits.overflowError"], apart := false }
def TableTellsSaid : Prop := tableTellsRow.holds Try.pinned (OpenSpec.ofChange tableTellsSpec)

/-- ITS FALSE NEIGHBOUR: 'it returns false'. Refute it at one input. -/
def tableTellsWrong : ChangeSpec := { name := "tableTells", fn := fun _ => fun
  | [d1, d2, d3] => { results := [.lit (.bool false)], args := [d1, d2, d3] }
  | _ => none }
def TableTellsWrongFalsely : Prop := tableTellsRow.holds Try.pinned (OpenSpec.ofChange tableTellsWrong)

/-- 'thrumlaw13.TableShares': WHATEVER THE INPUT: true; the input reads as it did. -/
def tableSharesSpec : ChangeSpec := { name := "tableShares", fn := fun _ => fun
  | [d1, d2] => { results := [.lit (.bool true)], args := [d1, d2] }
  | _ => none }
def tableSharesRow : OpenClaim := { program := "ytnokomlekndgfaa", sum := "db02e7e3daaed77c35eb806534e67a360bd143405f97bba6e36e1e27552b1e48", func := "thrum/thrumlaw13.TableShares", spec := "tableShares", inPlace := ["math.sqrt"], unfollowed := true, recurses := true, named := ["math/bits.divideError", "math/bits.overflowError"], apart := false }
def TableSharesSaid : Prop := tableSharesRow.holds Try.pinned (OpenSpec.ofChange tableSharesSpec)

/-- ITS FALSE NEIGHBOUR: 'it returns false'. Refute it at one input. -/
def tableSharesWrong : ChangeSpec := { name := "tableShares", fn := fun _ => fun
  | [d1, d2] => { results := [.lit (.bool false)], args := [d1, d2] }
  | _ => none }
def TableSharesWrongFalsely : Prop := tableSharesRow.holds Try.pinned (OpenSpec.ofChange tableSharesWrong)

/-- 'thrumlaw13.TableRoots': WHATEVER THE INPUT: true; the input reads as it did. -/
def tableRootsSpec : ChangeSpec := { name := "tableRoots", fn := fun _ => fun
  | [d] => { results := [.lit (.bool true)], args := [d] }
  | _ => none }
def tableRootsRow : OpenClaim := { program := "ytnokomlekndgfaa", sum := "db02e7e3daaed77c35eb806534e67a360bd143405f97bba6e36e1e27552b1e48", func := "thrum/thrumlaw13.TableRoots", spec := "tableRoots", inPlace := ["math.sqrt"], unfollowed := true, recurses := true, named := ["math/bits.divideError", "math/bits.overflowError"], apart := false }
def TableRootsSaid : Prop := tableRootsRow.holds Try.pinned (OpenSpec.ofChange tableRootsSpec)

/-- ITS FALSE NEIGHBOUR: 'it returns false'. Refute it at one input. -/
def tableRootsWrong : ChangeSpec := { name := "tableRoots", fn := fun _ => fun
  | [d] => { results := [.lit (.bool false)], args := [d] }
  | _ => none }
def TableRootsWrongFalsely : Prop := tableRootsRow.holds Try.pinned (OpenSpec.ofChange tableRootsWrong)

/-- 'thrumlaw13.TableFalls': WHATEVER THE INPUT: true; the input reads as it did. -/
def tableFallsSpec : ChangeSpec := { name := "tableFalls", fn := fun _ => fun
  | [d1, d2, d3] => { results := [.lit (.bool true)], args := [d1, d2, d3] }
  | _ => none }
def tableFallsRow : OpenClaim := { program := "ytnokomlekndgfaa", sum := "db02e7e3daaed77c35eb806534e67a360bd143405f97bba6e36e1e27552b1e48", func := "thrum/thrumlaw13.TableFalls", spec := "tableFalls", inPlace := ["math.sqrt"], unfollowed := true, recurses := true, named := ["math/bits.divideError", "math/bits.overflowError"], apart := false }
def TableFallsSaid : Prop := tableFallsRow.holds Try.pinned (OpenSpec.ofChange tableFallsSpec)

/-- ITS FALSE NEIGHBOUR: 'it returns false'. Refute it at one input. -/
def tableFallsWrong : ChangeSpec := { name := "tableFalls", fn := fun _ => fun
  | [d1, d2, d3] => { results := [.lit (.bool false)], args := [d1, d2, d3] }
  | _ => none }
def TableFallsWrongFalsely : Prop := tableFallsRow.holds Try.pinned (OpenSpec.ofChange tableFallsWrong)

/-- 'thrumlaw13.TableWhole': WHATEVER THE INPUT: true; the input reads as it did. -/
def tableWholeSpec : ChangeSpec := { name := "tableWhole", fn := fun _ => fun
  | [d1, d2] => { results := [.lit (.bool true)], args := [d1, d2] }
  | _ => none }
def tableWholeRow : OpenClaim := { program := "ytnokomlekndgfaa", sum := "db02e7e3daaed77c35eb806534e67a360bd143405f97bba6e36e1e27552b1e48", func := "thrum/thrumlaw13.TableWhole", spec := "tableWhole", inPlace := ["math.sqrt"], unfollowed := true, recurses := true, named := ["math/bits.divideError", "math/bits.overflowError"], apart := false }
def TableWholeSaid : Prop := tableWholeRow.holds Try.pinned (OpenSpec.ofChange tableWholeSpec)

/-- ITS FALSE NEIGHBOUR: 'it returns false'. Refute it at one input. -/
def tableWholeWrong : ChangeSpec := { name := "tableWhole", fn := fun _ => fun
  | [d1, d2] => { results := [.lit (.bool false)], args := [d1, d2] }
  | _ => none }
def TableWholeWrongFalsely : Prop := tableWholeRow.holds Try.pinned (OpenSpec.ofChange tableWholeWrong)

/-- 'thrumlaw13.TableShifts': WHATEVER THE INPUT: true; the input reads as it did. -/
def tableShiftsSpec : ChangeSpec := { name := "tableShifts", fn := fun _ => fun
  | [d1, d2, d3] => { results := [.lit (.bool true)], args := [d1, d2, d3] }
  | _ => none }
def tableShiftsRow : OpenClaim := { program := "ytnokomlekndgfaa", sum := "db02e7e3daaed77c35eb806534e67a360bd143405f97bba6e36e1e27552b1e48", func := "thrum/thrumlaw13.TableShifts", spec := "tableShifts", inPlace := ["math.sqrt"], unfollowed := true, recurses := true, named := ["math/bits.divideError", "math/bits.overflowError"], apart := false }
def TableShiftsSaid : Prop := tableShiftsRow.holds Try.pinned (OpenSpec.ofChange tableShiftsSpec)

/-- ITS FALSE NEIGHBOUR: 'it returns false'. Refute it at one input. -/
def tableShiftsWrong : ChangeSpec := { name := "tableShifts", fn := fun _ => fun
  | [d1, d2, d3] => { results := [.lit (.bool false)], args := [d1, d2, d3] }
  | _ => none }
def TableShiftsWrongFalsely : Prop := tableShiftsRow.holds Try.pinned (OpenSpec.ofChange tableShiftsWrong)

/-- 'thrumlaw13.TableOne': WHATEVER THE INPUT: true; the input reads as it did. -/
def tableOneSpec : ChangeSpec := { name := "tableOne", fn := fun _ => fun
  | [d1, d2, d3] => { results := [.lit (.bool true)], args := [d1, d2, d3] }
  | _ => none }
def tableOneRow : OpenClaim := { program := "ytnokomlekndgfaa", sum := "db02e7e3daaed77c35eb806534e67a360bd143405f97bba6e36e1e27552b1e48", func := "thrum/thrumlaw13.TableOne", spec := "tableOne", inPlace := ["math.sqrt"], unfollowed := true, recurses := true, named := ["math/bits.divideError", "math/bits.overflowError"], apart := false }
def TableOneSaid : Prop := tableOneRow.holds Try.pinned (OpenSpec.ofChange tableOneSpec)

/-- ITS FALSE NEIGHBOUR: 'it returns false'. Refute it at one input. -/
def tableOneWrong : ChangeSpec := { name := "tableOne", fn := fun _ => fun
  | [d1, d2, d3] => { results := [.lit (.bool false)], args := [d1, d2, d3] }
  | _ => none }
def TableOneWrongFalsely : Prop := tableOneRow.holds Try.pinned (OpenSpec.ofChange tableOneWrong)

/- THE SECOND FORM. 'bulk': how many values and letters a reading holds, each counted each time it is reached (what is shared counts as often as it is met; a slice's spare places count too). A statement '..UptoSaid' is the law's where the arguments, and the package variables that the reading takes, are together of bulk at most 1048576: NARROWER than '..Said'. Prove '..Said' where nothing that the law and all that it calls make is longer than what came in: it says more and counts as full. Else prove '..UptoSaid'. A law counts once. -/
mutual
def uptoBulk {H : Type} : DataW H → Nat
  | .lit (.string bytes) => bytes.length + 1
  | .lit _ => 1
  | .nil => 1
  | .ptr d => uptoBulk d + 1
  | .slice elems spare => uptoBulkAll elems + uptoBulkAll spare + 1
  | .agg parts => uptoBulkAll parts + 1
  | .iface _ d => uptoBulk d + 1
  | .map entries => uptoBulkEntries entries + 1
  | .held _ => 1
def uptoBulkAll {H : Type} : List (DataW H) → Nat
  | [] => 0
  | d :: r => uptoBulk d + uptoBulkAll r
def uptoBulkEntries {H : Type} : List (Lit × DataW H) → Nat
  | [] => 0
  | x :: r => uptoBulkEntry x + uptoBulkEntries r
def uptoBulkEntry {H : Type} : Lit × DataW H → Nat
  | (.string bytes, d) => bytes.length + uptoBulk d + 1
  | (_, d) => uptoBulk d + 1
 end
def uptoSmall : (H : Type) → List (DataW H) → Bool := fun _ ds => decide (uptoBulkAll ds ≤ 1048576)
def OpenSpec.upto (s : _root_.Go.ChangeSpec) : _root_.Go.OpenSpec := { _root_.Go.OpenSpec.ofChange s with cond := some uptoSmall }

/-- 'thrumlaw13.TableTells', WHERE WHAT IT READS IS OF BULK AT MOST 1048576: true; the input reads as it did. -/
def tableTellsUptoRow : OpenClaim := { program := "ytnokomlekndgfaa", sum := "db02e7e3daaed77c35eb806534e67a360bd143405f97bba6e36e1e27552b1e48", func := "thrum/thrumlaw13.TableTells", spec := "tableTells", inPlace := ["math.sqrt"], unfollowed := true, recurses := true, named := ["math/bits.divideError", "math/bits.overflowError"], apart := false, narrowed := true }
def TableTellsUptoSaid : Prop := tableTellsUptoRow.holds Try.pinned (OpenSpec.upto tableTellsSpec)

/-- 'thrumlaw13.TableShares', WHERE WHAT IT READS IS OF BULK AT MOST 1048576: true; the input reads as it did. -/
def tableSharesUptoRow : OpenClaim := { program := "ytnokomlekndgfaa", sum := "db02e7e3daaed77c35eb806534e67a360bd143405f97bba6e36e1e27552b1e48", func := "thrum/thrumlaw13.TableShares", spec := "tableShares", inPlace := ["math.sqrt"], unfollowed := true, recurses := true, named := ["math/bits.divideError", "math/bits.overflowError"], apart := false, narrowed := true }
def TableSharesUptoSaid : Prop := tableSharesUptoRow.holds Try.pinned (OpenSpec.upto tableSharesSpec)

/-- 'thrumlaw13.TableRoots', WHERE WHAT IT READS IS OF BULK AT MOST 1048576: true; the input reads as it did. -/
def tableRootsUptoRow : OpenClaim := { program := "ytnokomlekndgfaa", sum := "db02e7e3daaed77c35eb806534e67a360bd143405f97bba6e36e1e27552b1e48", func := "thrum/thrumlaw13.TableRoots", spec := "tableRoots", inPlace := ["math.sqrt"], unfollowed := true, recurses := true, named := ["math/bits.divideError", "math/bits.overflowError"], apart := false, narrowed := true }
def TableRootsUptoSaid : Prop := tableRootsUptoRow.holds Try.pinned (OpenSpec.upto tableRootsSpec)

/-- 'thrumlaw13.TableFalls', WHERE WHAT IT READS IS OF BULK AT MOST 1048576: true; the input reads as it did. -/
def tableFallsUptoRow : OpenClaim := { program := "ytnokomlekndgfaa", sum := "db02e7e3daaed77c35eb806534e67a360bd143405f97bba6e36e1e27552b1e48", func := "thrum/thrumlaw13.TableFalls", spec := "tableFalls", inPlace := ["math.sqrt"], unfollowed := true, recurses := true, named := ["math/bits.divideError", "math/bits.overflowError"], apart := false, narrowed := true }
def TableFallsUptoSaid : Prop := tableFallsUptoRow.holds Try.pinned (OpenSpec.upto tableFallsSpec)

/-- 'thrumlaw13.TableWhole', WHERE WHAT IT READS IS OF BULK AT MOST 1048576: true; the input reads as it did. -/
def tableWholeUptoRow : OpenClaim := { program := "ytnokomlekndgfaa", sum := "db02e7e3daaed77c35eb806534e67a360bd143405f97bba6e36e1e27552b1e48", func := "thrum/thrumlaw13.TableWhole", spec := "tableWhole", inPlace := ["math.sqrt"], unfollowed := true, recurses := true, named := ["math/bits.divideError", "math/bits.overflowError"], apart := false, narrowed := true }
def TableWholeUptoSaid : Prop := tableWholeUptoRow.holds Try.pinned (OpenSpec.upto tableWholeSpec)

/-- 'thrumlaw13.TableShifts', WHERE WHAT IT READS IS OF BULK AT MOST 1048576: true; the input reads as it did. -/
def tableShiftsUptoRow : OpenClaim := { program := "ytnokomlekndgfaa", sum := "db02e7e3daaed77c35eb806534e67a360bd143405f97bba6e36e1e27552b1e48", func := "thrum/thrumlaw13.TableShifts", spec := "tableShifts", inPlace := ["math.sqrt"], unfollowed := true, recurses := true, named := ["math/bits.divideError", "math/bits.overflowError"], apart := false, narrowed := true }
def TableShiftsUptoSaid : Prop := tableShiftsUptoRow.holds Try.pinned (OpenSpec.upto tableShiftsSpec)

/-- 'thrumlaw13.TableOne', WHERE WHAT IT READS IS OF BULK AT MOST 1048576: true; the input reads as it did. -/
def tableOneUptoRow : OpenClaim := { program := "ytnokomlekndgfaa", sum := "db02e7e3daaed77c35eb806534e67a360bd143405f97bba6e36e1e27552b1e48", func := "thrum/thrumlaw13.TableOne", spec := "tableOne", inPlace := ["math.sqrt"], unfollowed := true, recurses := true, named := ["math/bits.divideError", "math/bits.overflowError"], apart := false, narrowed := true }
def TableOneUptoSaid : Prop := tableOneUptoRow.holds Try.pinned (OpenSpec.upto tableOneSpec)

end Rows
end Go.Proofs.Ytnokomlekndgfaa
