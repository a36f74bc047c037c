
/- ZFrB: texts joined: FrB. -/
import Derived.Test.YtecgbelgoomneaaGreatZa
/- Whether a vector may be, a frame may be; an acknowledgement: by the document. -/
namespace Go.Proofs.YtecgbelgoomneaaGreat
open Go.RowKit
set_option maxHeartbeats 400000
set_option maxRecDepth 100000
set_option linter.unusedVariables false
theorem ret_of {v R : Bool} (h : v = true ↔ R = true) : Ending.returned (Value.bool v) = Ending.returned (Value.bool R) := by
  cases v <;> cases R <;> simp_all
end Go.Proofs.YtecgbelgoomneaaGreat
