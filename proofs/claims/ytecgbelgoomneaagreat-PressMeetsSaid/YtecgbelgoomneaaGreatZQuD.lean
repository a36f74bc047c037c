
/- ZQuD: texts joined: QuD. -/
import Derived.Test.YtecgbelgoomneaaGreatZQuC
/- Near, by the document. -/
namespace Go.Proofs.YtecgbelgoomneaaGreat
open Go.RowKit
set_option maxHeartbeats 1000000
set_option maxRecDepth 100000
set_option linter.unusedVariables false
theorem lvlL_le (n scale wide : Int) : lvlL n scale wide ≤ 255 := by
  by_cases h : lvlE n scale wide = 0
  · exact plQ_le (seed := 0) (n := []) (i := 0) h
  · have : lvlL n scale wide = 0 := if_neg h
    omega
theorem near_no {v : List Int} {s : SentV} (h : ¬ (mostE v = 0 ∧ mayB s = true ∧ s.sch = 2 ∧ s.dim = v.length ∧ s.scale = mostV v)) : nearB v s = false := by
  unfold nearB nrHead
  rw [decide_eq_false h]
  rfl
theorem near_in {v : List Int} {s : SentV} (h : mostE v = 0 ∧ mayB s = true ∧ s.sch = 2 ∧ s.dim = v.length ∧ s.scale = mostV v) : nearB v s = nrAll v s v.length := by
  unfold nearB nrHead
  rw [decide_eq_true h]
  rfl
end Go.Proofs.YtecgbelgoomneaaGreat
