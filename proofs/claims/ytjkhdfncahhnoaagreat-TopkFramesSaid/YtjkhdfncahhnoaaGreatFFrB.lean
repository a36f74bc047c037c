
/- FFrB: texts joined: FrB. -/
import Derived.Test.YtjkhdfncahhnoaaGreatFFrA
/- Whether a vector may be, a frame may be; an acknowledgement: by the document. -/
namespace Go.Proofs.YtjkhdfncahhnoaaGreat
open Go.RowKit
set_option maxHeartbeats 400000
set_option maxRecDepth 100000
set_option linter.unusedVariables false
def bigS (s : SentV) : Bool := decide (500 < s.L.length ∨ 500 < s.V.length ∨ 500 < s.lev.length ∨ 500 < s.neg.length)
theorem big_ln {s : SentV} (h : bigS s = false) : lnS 500 s := by
  unfold bigS at h
  rw [decide_eq_false_iff_not] at h
  exact ⟨by omega, by omega, by omega, by omega⟩
theorem ret_of {v R : Bool} (h : v = true ↔ R = true) : Ending.returned (Value.bool v) = Ending.returned (Value.bool R) := by
  cases v <;> cases R <;> simp_all
end Go.Proofs.YtjkhdfncahhnoaaGreat
