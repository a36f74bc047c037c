/-
  No cell of these rows narrows 'for every input' (looked for: loops, veiled, ifaces, maps, wideKeys, modest, calm, conditions, laid).
  DERIVED. THE GIVEN ROWS OF THIS SEAT. 5 by the template 'for every input the law returns true; each argument reads behind the call as it read before'; 0 by the template 'total and deterministic' (their statements: YtjkhdfncahhnoaaTotals.lean).
  GIVEN WITH THE SEED: the statements are not yours to turn. If you find one false, say at which input.
  Laid BY PROGRAM, IN A SANDBOX (cutbox-rows.mjs): the forced cells as the released guide's own fill.sh prints them over the translation cd5e9777227a75cb… (all of the seat's roots in one cut). By AI agents, Wed Nov 11 2026. No macro, syntax, notation, axiom, sorry.
-/
import Derived.Test.YtjkhdfncahhnoaaChecked
import GoSem.Claim
import GoSem.ClaimJoined
import GoSem.ClaimMapViews
import Derived.JoinedTies
import Derived.KernelRfl
namespace Go.Proofs.Ytjkhdfncahhnoaa
/- THE CELL 'sum', in the pinned program and in every row, IS THE sha256 OF THE DUMP (.gsa) THAT YtjkhdfncahhnoaaProg.lean LOADS. Nothing in Lean hashes anything: it is a label: what it is worth is what the hold of that sum in a sandbox is worth. -/
noncomputable def Try.pinned : Pinned := { name := "ytjkhdfncahhnoaa", sum := "cd5e9777227a75cb22e414b50ac30340e031efe100d81927bb48bee015616cec", checked := Try.checked }
namespace Rows
def none {H : Type} : Left H := { results := [], args := [] }

/-- 'thrumlaw09.TopkPicks': WHATEVER THE INPUT: true; the input reads as it did. -/
def topkPicksSpec : ChangeSpec := { name := "topkPicks", fn := fun _ => fun
  | [d1, d2, d3, d4] => { results := [.lit (.bool true)], args := [d1, d2, d3, d4] }
  | _ => none }
def topkPicksRow : OpenClaim := { program := "ytjkhdfncahhnoaa", sum := "cd5e9777227a75cb22e414b50ac30340e031efe100d81927bb48bee015616cec", func := "thrum/thrumlaw09.TopkPicks", spec := "topkPicks", unfollowed := true, recurses := true, apart := false }
def TopkPicksSaid : Prop := topkPicksRow.holds Try.pinned (OpenSpec.ofChange topkPicksSpec)

/-- ITS FALSE NEIGHBOUR: 'it returns false'. Refute it at one input. -/
def topkPicksWrong : ChangeSpec := { name := "topkPicks", fn := fun _ => fun
  | [d1, d2, d3, d4] => { results := [.lit (.bool false)], args := [d1, d2, d3, d4] }
  | _ => none }
def TopkPicksWrongFalsely : Prop := topkPicksRow.holds Try.pinned (OpenSpec.ofChange topkPicksWrong)

/-- 'thrumlaw09.TopkGreatest': WHATEVER THE INPUT: true; the input reads as it did. -/
def topkGreatestSpec : ChangeSpec := { name := "topkGreatest", fn := fun _ => fun
  | [d1, d2] => { results := [.lit (.bool true)], args := [d1, d2] }
  | _ => none }
def topkGreatestRow : OpenClaim := { program := "ytjkhdfncahhnoaa", sum := "cd5e9777227a75cb22e414b50ac30340e031efe100d81927bb48bee015616cec", func := "thrum/thrumlaw09.TopkGreatest", spec := "topkGreatest", unfollowed := true, recurses := true, apart := false }
def TopkGreatestSaid : Prop := topkGreatestRow.holds Try.pinned (OpenSpec.ofChange topkGreatestSpec)

/-- ITS FALSE NEIGHBOUR: 'it returns false'. Refute it at one input. -/
def topkGreatestWrong : ChangeSpec := { name := "topkGreatest", fn := fun _ => fun
  | [d1, d2] => { results := [.lit (.bool false)], args := [d1, d2] }
  | _ => none }
def TopkGreatestWrongFalsely : Prop := topkGreatestRow.holds Try.pinned (OpenSpec.ofChange topkGreatestWrong)

/-- 'thrumlaw09.TopkMore': WHATEVER THE INPUT: true; the input reads as it did. -/
def topkMoreSpec : ChangeSpec := { name := "topkMore", fn := fun _ => fun
  | [d1, d2] => { results := [.lit (.bool true)], args := [d1, d2] }
  | _ => none }
def topkMoreRow : OpenClaim := { program := "ytjkhdfncahhnoaa", sum := "cd5e9777227a75cb22e414b50ac30340e031efe100d81927bb48bee015616cec", func := "thrum/thrumlaw09.TopkMore", spec := "topkMore", unfollowed := true, recurses := true, apart := false }
def TopkMoreSaid : Prop := topkMoreRow.holds Try.pinned (OpenSpec.ofChange topkMoreSpec)

/-- ITS FALSE NEIGHBOUR: 'it returns false'. Refute it at one input. -/
def topkMoreWrong : ChangeSpec := { name := "topkMore", fn := fun _ => fun
  | [d1, d2] => { results := [.lit (.bool false)], args := [d1, d2] }
  | _ => none }
def TopkMoreWrongFalsely : Prop := topkMoreRow.holds Try.pinned (OpenSpec.ofChange topkMoreWrong)

/-- 'thrumlaw09.TopkOrders': WHATEVER THE INPUT: true; the input reads as it did. -/
def topkOrdersSpec : ChangeSpec := { name := "topkOrders", fn := fun _ => fun
  | [d1, d2] => { results := [.lit (.bool true)], args := [d1, d2] }
  | _ => none }
def topkOrdersRow : OpenClaim := { program := "ytjkhdfncahhnoaa", sum := "cd5e9777227a75cb22e414b50ac30340e031efe100d81927bb48bee015616cec", func := "thrum/thrumlaw09.TopkOrders", spec := "topkOrders", unfollowed := true, recurses := true, apart := false }
def TopkOrdersSaid : Prop := topkOrdersRow.holds Try.pinned (OpenSpec.ofChange topkOrdersSpec)

/-- ITS FALSE NEIGHBOUR: 'it returns false'. Refute it at one input. -/
def topkOrdersWrong : ChangeSpec := { name := "topkOrders", fn := fun _ => fun
  | [d1, d2] => { results := [.lit (.bool false)], args := [d1, d2] }
  | _ => none }
def TopkOrdersWrongFalsely : Prop := topkOrdersRow.holds Try.pinned (OpenSpec.ofChange topkOrdersWrong)

/-- 'thrumlaw09.TopkScaled': WHATEVER THE INPUT: true; the input reads as it did. -/
def topkScaledSpec : ChangeSpec := { name := "topkScaled", fn := fun _ => fun
  | [d1, d2, d3] => { results := [.lit (.bool true)], args := [d1, d2, d3] }
  | _ => none }
def topkScaledRow : OpenClaim := { program := "ytjkhdfncahhnoaa", sum := "cd5e9777227a75cb22e414b50ac30340e031efe100d81927bb48bee015616cec", func := "thrum/thrumlaw09.TopkScaled", spec := "topkScaled", unfollowed := true, recurses := true, apart := false }
def TopkScaledSaid : Prop := topkScaledRow.holds Try.pinned (OpenSpec.ofChange topkScaledSpec)

/-- ITS FALSE NEIGHBOUR: 'it returns false'. Refute it at one input. -/
def topkScaledWrong : ChangeSpec := { name := "topkScaled", fn := fun _ => fun
  | [d1, d2, d3] => { results := [.lit (.bool false)], args := [d1, d2, d3] }
  | _ => none }
def TopkScaledWrongFalsely : Prop := topkScaledRow.holds Try.pinned (OpenSpec.ofChange topkScaledWrong)

/- THE SECOND FORM. 'bulk': how many values and letters a reading holds, each counted each time it is reached (what is shared counts as often as it is met; a slice's spare places count too). A statement '..UptoSaid' is the law's where the arguments, and the package variables that the reading takes, are together of bulk at most 1048576: NARROWER than '..Said'. Prove '..Said' where nothing that the law and all that it calls make is longer than what came in: it says more and counts as full. Else prove '..UptoSaid'. A law counts once. -/
mutual
def uptoBulk {H : Type} : DataW H → Nat
  | .lit (.string bytes) => bytes.length + 1
  | .lit _ => 1
  | .nil => 1
  | .ptr d => uptoBulk d + 1
  | .slice elems spare => uptoBulkAll elems + uptoBulkAll spare + 1
  | .agg parts => uptoBulkAll parts + 1
  | .iface _ d => uptoBulk d + 1
  | .map entries => uptoBulkEntries entries + 1
  | .held _ => 1
def uptoBulkAll {H : Type} : List (DataW H) → Nat
  | [] => 0
  | d :: r => uptoBulk d + uptoBulkAll r
def uptoBulkEntries {H : Type} : List (Lit × DataW H) → Nat
  | [] => 0
  | x :: r => uptoBulkEntry x + uptoBulkEntries r
def uptoBulkEntry {H : Type} : Lit × DataW H → Nat
  | (.string bytes, d) => bytes.length + uptoBulk d + 1
  | (_, d) => uptoBulk d + 1
 end
def uptoSmall : (H : Type) → List (DataW H) → Bool := fun _ ds => decide (uptoBulkAll ds ≤ 1048576)
def OpenSpec.upto (s : _root_.Go.ChangeSpec) : _root_.Go.OpenSpec := { _root_.Go.OpenSpec.ofChange s with cond := some uptoSmall }

/-- 'thrumlaw09.TopkPicks', WHERE WHAT IT READS IS OF BULK AT MOST 1048576: true; the input reads as it did. -/
def topkPicksUptoRow : OpenClaim := { program := "ytjkhdfncahhnoaa", sum := "cd5e9777227a75cb22e414b50ac30340e031efe100d81927bb48bee015616cec", func := "thrum/thrumlaw09.TopkPicks", spec := "topkPicks", unfollowed := true, recurses := true, apart := false, narrowed := true }
def TopkPicksUptoSaid : Prop := topkPicksUptoRow.holds Try.pinned (OpenSpec.upto topkPicksSpec)

/-- 'thrumlaw09.TopkGreatest', WHERE WHAT IT READS IS OF BULK AT MOST 1048576: true; the input reads as it did. -/
def topkGreatestUptoRow : OpenClaim := { program := "ytjkhdfncahhnoaa", sum := "cd5e9777227a75cb22e414b50ac30340e031efe100d81927bb48bee015616cec", func := "thrum/thrumlaw09.TopkGreatest", spec := "topkGreatest", unfollowed := true, recurses := true, apart := false, narrowed := true }
def TopkGreatestUptoSaid : Prop := topkGreatestUptoRow.holds Try.pinned (OpenSpec.upto topkGreatestSpec)

/-- 'thrumlaw09.TopkMore', WHERE WHAT IT READS IS OF BULK AT MOST 1048576: true; the input reads as it did. -/
def topkMoreUptoRow : OpenClaim := { program := "ytjkhdfncahhnoaa", sum := "cd5e9777227a75cb22e414b50ac30340e031efe100d81927bb48bee015616cec", func := "thrum/thrumlaw09.TopkMore", spec := "topkMore", unfollowed := true, recurses := true, apart := false, narrowed := true }
def TopkMoreUptoSaid : Prop := topkMoreUptoRow.holds Try.pinned (OpenSpec.upto topkMoreSpec)

/-- 'thrumlaw09.TopkOrders', WHERE WHAT IT READS IS OF BULK AT MOST 1048576: true; the input reads as it did. -/
def topkOrdersUptoRow : OpenClaim := { program := "ytjkhdfncahhnoaa", sum := "cd5e9777227a75cb22e414b50ac30340e031efe100d81927bb48bee015616cec", func := "thrum/thrumlaw09.TopkOrders", spec := "topkOrders", unfollowed := true, recurses := true, apart := false, narrowed := true }
def TopkOrdersUptoSaid : Prop := topkOrdersUptoRow.holds Try.pinned (OpenSpec.upto topkOrdersSpec)

/-- 'thrumlaw09.TopkScaled', WHERE WHAT IT READS IS OF BULK AT MOST 1048576: true; the input reads as it did. -/
def topkScaledUptoRow : OpenClaim := { program := "ytjkhdfncahhnoaa", sum := "cd5e9777227a75cb22e414b50ac30340e031efe100d81927bb48bee015616cec", func := "thrum/thrumlaw09.TopkScaled", spec := "topkScaled", unfollowed := true, recurses := true, apart := false, narrowed := true }
def TopkScaledUptoSaid : Prop := topkScaledUptoRow.holds Try.pinned (OpenSpec.upto topkScaledSpec)

end Rows
end Go.Proofs.Ytjkhdfncahhnoaa
