/-
  No cell of these rows narrows 'for every input' (looked for: loops, veiled, ifaces, maps, wideKeys, modest, calm, conditions, laid).
  DERIVED. THE GIVEN ROWS OF THIS SEAT. 6 by the template 'for every input the law returns true; each argument reads behind the call as it read before'; 0 by the template 'total and deterministic' (their statements: YtkcckncglbjjdaaTotals.lean).
  GIVEN WITH THE SEED: the statements are not yours to turn. If you find one false, say at which input.
  Laid BY PROGRAM, IN A SANDBOX (cutbox-rows.mjs): the forced cells as the released guide's own fill.sh prints them over the translation 97409f3ac8fb17c2… (all of the seat's roots in one cut). By AI agents, Wed Nov 11 2026. No macro, syntax, notation, axiom, sorry.
-/
import Derived.Test.YtkcckncglbjjdaaChecked
import GoSem.Claim
import GoSem.ClaimJoined
import GoSem.ClaimMapViews
import Derived.JoinedTies
import Derived.KernelRfl
namespace Go.Proofs.Ytkcckncglbjjdaa
/- THE CELL 'sum', in the pinned program and in every row, IS THE sha256 OF THE DUMP (.gsa) THAT YtkcckncglbjjdaaProg.lean LOADS. Nothing in Lean hashes anything: it is a label: what it is worth is what the hold of that sum in a sandbox is worth. -/
noncomputable def Try.pinned : Pinned := { name := "ytkcckncglbjjdaa", sum := "97409f3ac8fb17c2fd10ca54a6015817babe9fafb0be9a3de1baa306ce0705f7", checked := Try.checked }
namespace Rows
def none {H : Type} : Left H := { results := [], args := [] }

/-- 'thrumlaw11.SignPresses': WHATEVER THE INPUT: true; the input reads as it did. -/
def signPressesSpec : ChangeSpec := { name := "signPresses", fn := fun _ => fun
  | [d1, d2] => { results := [.lit (.bool true)], args := [d1, d2] }
  | _ => none }
def signPressesRow : OpenClaim := { program := "ytkcckncglbjjdaa", sum := "97409f3ac8fb17c2fd10ca54a6015817babe9fafb0be9a3de1baa306ce0705f7", func := "thrum/thrumlaw11.SignPresses", spec := "signPresses", unfollowed := true, recurses := true, apart := false }
def SignPressesSaid : Prop := signPressesRow.holds Try.pinned (OpenSpec.ofChange signPressesSpec)

/-- ITS FALSE NEIGHBOUR: 'it returns false'. Refute it at one input. -/
def signPressesWrong : ChangeSpec := { name := "signPresses", fn := fun _ => fun
  | [d1, d2] => { results := [.lit (.bool false)], args := [d1, d2] }
  | _ => none }
def SignPressesWrongFalsely : Prop := signPressesRow.holds Try.pinned (OpenSpec.ofChange signPressesWrong)

/-- 'thrumlaw11.SignVotes': WHATEVER THE INPUT: true; the input reads as it did. -/
def signVotesSpec : ChangeSpec := { name := "signVotes", fn := fun _ => fun
  | [d1, d2, d3] => { results := [.lit (.bool true)], args := [d1, d2, d3] }
  | _ => none }
def signVotesRow : OpenClaim := { program := "ytkcckncglbjjdaa", sum := "97409f3ac8fb17c2fd10ca54a6015817babe9fafb0be9a3de1baa306ce0705f7", func := "thrum/thrumlaw11.SignVotes", spec := "signVotes", unfollowed := true, recurses := true, apart := false }
def SignVotesSaid : Prop := signVotesRow.holds Try.pinned (OpenSpec.ofChange signVotesSpec)

/-- ITS FALSE NEIGHBOUR: 'it returns false'. Refute it at one input. -/
def signVotesWrong : ChangeSpec := { name := "signVotes", fn := fun _ => fun
  | [d1, d2, d3] => { results := [.lit (.bool false)], args := [d1, d2, d3] }
  | _ => none }
def SignVotesWrongFalsely : Prop := signVotesRow.holds Try.pinned (OpenSpec.ofChange signVotesWrong)

/-- 'thrumlaw11.SignLoosens': WHATEVER THE INPUT: true; the input reads as it did. -/
def signLoosensSpec : ChangeSpec := { name := "signLoosens", fn := fun _ => fun
  | [d] => { results := [.lit (.bool true)], args := [d] }
  | _ => none }
def signLoosensRow : OpenClaim := { program := "ytkcckncglbjjdaa", sum := "97409f3ac8fb17c2fd10ca54a6015817babe9fafb0be9a3de1baa306ce0705f7", func := "thrum/thrumlaw11.SignLoosens", spec := "signLoosens", unfollowed := true, recurses := true, apart := false }
def SignLoosensSaid : Prop := signLoosensRow.holds Try.pinned (OpenSpec.ofChange signLoosensSpec)

/-- ITS FALSE NEIGHBOUR: 'it returns false'. Refute it at one input. -/
def signLoosensWrong : ChangeSpec := { name := "signLoosens", fn := fun _ => fun
  | [d] => { results := [.lit (.bool false)], args := [d] }
  | _ => none }
def SignLoosensWrongFalsely : Prop := signLoosensRow.holds Try.pinned (OpenSpec.ofChange signLoosensWrong)

/-- 'thrumlaw11.SignTurned': WHATEVER THE INPUT: true; the input reads as it did. -/
def signTurnedSpec : ChangeSpec := { name := "signTurned", fn := fun _ => fun
  | [d] => { results := [.lit (.bool true)], args := [d] }
  | _ => none }
def signTurnedRow : OpenClaim := { program := "ytkcckncglbjjdaa", sum := "97409f3ac8fb17c2fd10ca54a6015817babe9fafb0be9a3de1baa306ce0705f7", func := "thrum/thrumlaw11.SignTurned", spec := "signTurned", unfollowed := true, recurses := true, apart := false }
def SignTurnedSaid : Prop := signTurnedRow.holds Try.pinned (OpenSpec.ofChange signTurnedSpec)

/-- ITS FALSE NEIGHBOUR: 'it returns false'. Refute it at one input. -/
def signTurnedWrong : ChangeSpec := { name := "signTurned", fn := fun _ => fun
  | [d] => { results := [.lit (.bool false)], args := [d] }
  | _ => none }
def SignTurnedWrongFalsely : Prop := signTurnedRow.holds Try.pinned (OpenSpec.ofChange signTurnedWrong)

/-- 'thrumlaw11.SignMost': WHATEVER THE INPUT: true; the input reads as it did. -/
def signMostSpec : ChangeSpec := { name := "signMost", fn := fun _ => fun
  | [d1, d2, d3] => { results := [.lit (.bool true)], args := [d1, d2, d3] }
  | _ => none }
def signMostRow : OpenClaim := { program := "ytkcckncglbjjdaa", sum := "97409f3ac8fb17c2fd10ca54a6015817babe9fafb0be9a3de1baa306ce0705f7", func := "thrum/thrumlaw11.SignMost", spec := "signMost", unfollowed := true, recurses := true, apart := false }
def SignMostSaid : Prop := signMostRow.holds Try.pinned (OpenSpec.ofChange signMostSpec)

/-- ITS FALSE NEIGHBOUR: 'it returns false'. Refute it at one input. -/
def signMostWrong : ChangeSpec := { name := "signMost", fn := fun _ => fun
  | [d1, d2, d3] => { results := [.lit (.bool false)], args := [d1, d2, d3] }
  | _ => none }
def SignMostWrongFalsely : Prop := signMostRow.holds Try.pinned (OpenSpec.ofChange signMostWrong)

/-- 'thrumlaw11.SignScaled': WHATEVER THE INPUT: true; the input reads as it did. -/
def signScaledSpec : ChangeSpec := { name := "signScaled", fn := fun _ => fun
  | [d1, d2] => { results := [.lit (.bool true)], args := [d1, d2] }
  | _ => none }
def signScaledRow : OpenClaim := { program := "ytkcckncglbjjdaa", sum := "97409f3ac8fb17c2fd10ca54a6015817babe9fafb0be9a3de1baa306ce0705f7", func := "thrum/thrumlaw11.SignScaled", spec := "signScaled", unfollowed := true, recurses := true, apart := false }
def SignScaledSaid : Prop := signScaledRow.holds Try.pinned (OpenSpec.ofChange signScaledSpec)

/-- ITS FALSE NEIGHBOUR: 'it returns false'. Refute it at one input. -/
def signScaledWrong : ChangeSpec := { name := "signScaled", fn := fun _ => fun
  | [d1, d2] => { results := [.lit (.bool false)], args := [d1, d2] }
  | _ => none }
def SignScaledWrongFalsely : Prop := signScaledRow.holds Try.pinned (OpenSpec.ofChange signScaledWrong)

/- THE SECOND FORM. 'bulk': how many values and letters a reading holds, each counted each time it is reached (what is shared counts as often as it is met; a slice's spare places count too). A statement '..UptoSaid' is the law's where the arguments, and the package variables that the reading takes, are together of bulk at most 1048576: NARROWER than '..Said'. Prove '..Said' where nothing that the law and all that it calls make is longer than what came in: it says more and counts as full. Else prove '..UptoSaid'. A law counts once. -/
mutual
def uptoBulk {H : Type} : DataW H → Nat
  | .lit (.string bytes) => bytes.length + 1
  | .lit _ => 1
  | .nil => 1
  | .ptr d => uptoBulk d + 1
  | .slice elems spare => uptoBulkAll elems + uptoBulkAll spare + 1
  | .agg parts => uptoBulkAll parts + 1
  | .iface _ d => uptoBulk d + 1
  | .map entries => uptoBulkEntries entries + 1
  | .held _ => 1
def uptoBulkAll {H : Type} : List (DataW H) → Nat
  | [] => 0
  | d :: r => uptoBulk d + uptoBulkAll r
def uptoBulkEntries {H : Type} : List (Lit × DataW H) → Nat
  | [] => 0
  | x :: r => uptoBulkEntry x + uptoBulkEntries r
def uptoBulkEntry {H : Type} : Lit × DataW H → Nat
  | (.string bytes, d) => bytes.length + uptoBulk d + 1
  | (_, d) => uptoBulk d + 1
 end
def uptoSmall : (H : Type) → List (DataW H) → Bool := fun _ ds => decide (uptoBulkAll ds ≤ 1048576)
def OpenSpec.upto (s : _root_.Go.ChangeSpec) : _root_.Go.OpenSpec := { _root_.Go.OpenSpec.ofChange s with cond := some uptoSmall }

/-- 'thrumlaw11.SignPresses', WHERE WHAT IT READS IS OF BULK AT MOST 1048576: true; the input reads as it did. -/
def signPressesUptoRow : OpenClaim := { program := "ytkcckncglbjjdaa", sum := "97409f3ac8fb17c2fd10ca54a6015817babe9fafb0be9a3de1baa306ce0705f7", func := "thrum/thrumlaw11.SignPresses", spec := "signPresses", unfollowed := true, recurses := true, apart := false, narrowed := true }
def SignPressesUptoSaid : Prop := signPressesUptoRow.holds Try.pinned (OpenSpec.upto signPressesSpec)

/-- 'thrumlaw11.SignVotes', WHERE WHAT IT READS IS OF BULK AT MOST 1048576: true; the input reads as it did. -/
def signVotesUptoRow : OpenClaim := { program := "ytkcckncglbjjdaa", sum := "97409f3ac8fb17c2fd10ca54a6015817babe9fafb0be9a3de1baa306ce0705f7", func := "thrum/thrumlaw11.SignVotes", spec := "signVotes", unfollowed := true, recurses := true, apart := false, narrowed := true }
def SignVotesUptoSaid : Prop := signVotesUptoRow.holds Try.pinned (OpenSpec.upto signVotesSpec)

/-- 'thrumlaw11.SignLoosens', WHERE WHAT IT READS IS OF BULK AT MOST 1048576: true; the input reads as it did. -/
def signLoosensUptoRow : OpenClaim := { program := "ytkcckncglbjjdaa", sum := "97409f3ac8fb17c2fd10ca54a6015817babe9fafb0be9a3de1baa306ce0705f7", func := "thrum/thrumlaw11.SignLoosens", spec := "signLoosens", unfollowed := true, recurses := true, apart := false, narrowed := true }
def SignLoosensUptoSaid : Prop := signLoosensUptoRow.holds Try.pinned (OpenSpec.upto signLoosensSpec)

/-- 'thrumlaw11.SignTurned', WHERE WHAT IT READS IS OF BULK AT MOST 1048576: true; the input reads as it did. -/
def signTurnedUptoRow : OpenClaim := { program := "ytkcckncglbjjdaa", sum := "97409f3ac8fb17c2fd10ca54a6015817babe9fafb0be9a3de1baa306ce0705f7", func := "thrum/thrumlaw11.SignTurned", spec := "signTurned", unfollowed := true, recurses := true, apart := false, narrowed := true }
def SignTurnedUptoSaid : Prop := signTurnedUptoRow.holds Try.pinned (OpenSpec.upto signTurnedSpec)

/-- 'thrumlaw11.SignMost', WHERE WHAT IT READS IS OF BULK AT MOST 1048576: true; the input reads as it did. -/
def signMostUptoRow : OpenClaim := { program := "ytkcckncglbjjdaa", sum := "97409f3ac8fb17c2fd10ca54a6015817babe9fafb0be9a3de1baa306ce0705f7", func := "thrum/thrumlaw11.SignMost", spec := "signMost", unfollowed := true, recurses := true, apart := false, narrowed := true }
def SignMostUptoSaid : Prop := signMostUptoRow.holds Try.pinned (OpenSpec.upto signMostSpec)

/-- 'thrumlaw11.SignScaled', WHERE WHAT IT READS IS OF BULK AT MOST 1048576: true; the input reads as it did. -/
def signScaledUptoRow : OpenClaim := { program := "ytkcckncglbjjdaa", sum := "97409f3ac8fb17c2fd10ca54a6015817babe9fafb0be9a3de1baa306ce0705f7", func := "thrum/thrumlaw11.SignScaled", spec := "signScaled", unfollowed := true, recurses := true, apart := false, narrowed := true }
def SignScaledUptoSaid : Prop := signScaledUptoRow.holds Try.pinned (OpenSpec.upto signScaledSpec)

end Rows
end Go.Proofs.Ytkcckncglbjjdaa
