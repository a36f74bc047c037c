
/- ZQuC: texts joined: QuC. -/
import Derived.Test.YtecgbelgoomneaaGreatZQuB
import Derived.Test.YtecgbelgoomneaaGreatZFrC
/- Loosened, by the document. -/
namespace Go.Proofs.YtecgbelgoomneaaGreat
open Go.RowKit
set_option maxHeartbeats 1000000
set_option maxRecDepth 100000
set_option linter.unusedVariables false
theorem may_lev {s : SentV} (hm : mayB s = true) (h2 : s.sch = 2) : s.lev.length ≤ 4096 ∧ s.neg.length = s.lev.length ∧ stsE s.wide = 0 ∧ 0 ≤ s.scale := by
  have h := mayB_iff.1 hm
  unfold mayP at h
  obtain ⟨a, b, h⟩ := h
  rcases h with h | h | h | h
  · omega
  · omega
  · obtain ⟨_, c, d, e, _, _, _, f, g⟩ := h
    exact ⟨by omega, by omega, stsE_ok.2 ⟨c, d⟩, f⟩
  · omega
theorem valV_le {l : Nat} {scale wide : Int} (hs : 0 ≤ scale) : (valV l scale wide : Int) ≤ scale := by
  unfold valV
  split
  · rename_i h
    have h2 := valE_ok.1 h
    have := vlQ_le (s := scale.toNat) h2.2.2
    omega
  · omega
end Go.Proofs.YtecgbelgoomneaaGreat
