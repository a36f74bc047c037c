
/- Function values: a call of one enters its function. -/
import Derived.Test.YtnokomlekndgfaaMem
namespace Go.Proofs.Ytnokomlekndgfaa
open Go.RowKit
set_option maxRecDepth 100000
set_option linter.unusedVariables false
theorem cl_enter (K : FuncId) (hK : (Try.prog.funcs[K]?).map (fun f => f.name == "runtime.NumGoroutine" || f.body.isNone) = some false) (args : Array Value) (W : World) : (callFunc K args).run Try.prog W = .ok (.enter K args) W := by
  obtain ⟨fn, hf, hb⟩ := Option.map_eq_some_iff.1 hK
  simp only [Bool.or_eq_false_iff] at hb
  have h1 : ¬ fn.name = "runtime.NumGoroutine" := by simpa using hb.1
  have h2 : ¬ fn.body = none := fun e => by simp [e] at hb
  simp [callFunc, hf, h1, h2, go_sem]
end Go.Proofs.Ytnokomlekndgfaa
