
/-
  TableShifts answers true for every input. No condition.
-/
import Derived.Test.YtnokomlekndgfaaTbLv
import Derived.Test.YtnokomlekndgfaaArg
import Derived.Test.YtnokomlekndgfaaLaw
namespace Go.Proofs.Ytnokomlekndgfaa.TableShifts
open Go.ChangeShapes Go.WideShapes Go.ChangeAt Go.RowKit
set_option maxHeartbeats 400000
set_option linter.unusedVariables false
open Go.Proofs.Ytnokomlekndgfaa
theorem shift_next {z : List Int} {B x : Int} {k : Nat} (hx : z[k]? = some x) : (z.take (k + 1)).map (· + B) = (z.take k).map (· + B) ++ [x + B] := by
  rw [List.take_add_one, hx, List.map_append]
  rfl
theorem by_ok (b : Int) : ∃ B, b.tmod 2305843009213693952 = B ∧ -2305843009213693952 < B ∧ B < 2305843009213693952 := by
  refine ⟨_, rfl, ?_, ?_⟩
  · have := Int.lt_tmod_of_pos b (show (0 : Int) < 2305843009213693952 by decide); omega
  · exact Int.tmod_lt_of_pos b (by decide)
theorem law_types : ∀ t ∈ Try.f8.params.toList, Try.prog.readableRec t = true ∧ t < Try.prog.types.size := by
  have h : (Try.f8.params.toList.all fun t => Try.prog.readableRec t && decide (t < Try.prog.types.size)) = true := by kernel_rfl
  intro t ht
  simpa using List.all_eq_true.1 h t ht
end Go.Proofs.Ytnokomlekndgfaa.TableShifts
