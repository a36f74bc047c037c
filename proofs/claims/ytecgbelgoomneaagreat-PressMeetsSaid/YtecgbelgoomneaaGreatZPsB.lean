
/- ZPsB: texts joined: PsB. -/
import Derived.Test.YtecgbelgoomneaaGreatZPsA
import Derived.Test.YtecgbelgoomneaaGreatZb
import Derived.Test.YtecgbelgoomneaaGreatZe
import Derived.Test.YtecgbelgoomneaaGreatZa
/- Loosened by way, what is left, how many bytes: the document's. -/
namespace Go.Proofs.YtecgbelgoomneaaGreat
open Go.RowKit
set_option maxHeartbeats 4000000
set_option maxRecDepth 100000
set_option linter.unusedVariables false
theorem may_top {s : SentV} (h : mayB s = true) (h1 : s.sch = 1) : 1 ≤ s.dim ∧ s.dim ≤ 4096 ∧ chkE s.dim s.L = 0 ∧ s.V.length = s.L.length := by
  obtain ⟨d1, d2, hp⟩ := mayB_iff.1 h
  rcases hp with ⟨e, _⟩ | ⟨e, e2, e3, _⟩ | ⟨e, _⟩ | ⟨e, _⟩
  · omega
  · exact ⟨d1, d2, e2, e3⟩
  · omega
  · omega
theorem may_sch {s : SentV} (h : mayB s = true) : s.sch = 0 ∨ s.sch = 1 ∨ s.sch = 2 ∨ s.sch = 3 := by
  obtain ⟨d1, d2, hp⟩ := mayB_iff.1 h
  rcases hp with ⟨e, _⟩ | ⟨e, _⟩ | ⟨e, _⟩ | ⟨e, _⟩ <;> omega
theorem plo_by {s : SentV} (h : mayB s = true) : (s.sch = 0 → ploV s = s.V) ∧ (s.sch = 1 → ploV s = spV s.dim s.L s.V) ∧ (s.sch = 2 → ploV s = loqV s ∧ loqE s = 0) ∧ (s.sch = 3 → ploV s = lsgV s ∧ lsgE s = 0) := by
  refine ⟨fun e => ?_, fun e => ?_, fun e => ⟨?_, if_pos ⟨h, e⟩⟩, fun e => ⟨?_, if_pos ⟨h, e⟩⟩⟩ <;> (unfold ploV; rw [if_pos h, e]; simp)
end Go.Proofs.YtecgbelgoomneaaGreat
