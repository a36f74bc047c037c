
/- The function values that vec hands on: each number by its place. -/
import Derived.Test.YtnokomlekndgfaaVecL
import Derived.Test.YtnokomlekndgfaaMul
import Derived.Test.YtnokomlekndgfaaFun
import Derived.Deep.QuietTactic
import Derived.BigQuiet
import Derived.Outline
import Derived.StillTailTactics
import Derived.Deep.RegionHeld3
namespace Go.Proofs.Ytnokomlekndgfaa
open Go.RowKit
set_option maxHeartbeats 400000
set_option maxRecDepth 100000
set_option linter.unusedVariables false
theorem size_cl {pa k : Nat} {A : Option Addr} {c : Nat} {w : World} {x : Int} (xs : List Int)
    (ha : w.cell? ⟨pa, 0, none⟩ = some (.slice A xs.length c)) {L : Nat} (ra : Rd (Value.int .i64) w L A xs) (hx : xs[k]? = some x) (ix : I64 x) :
    Calls Try.prog 43 (#[.int .i64 k] ++ #[.pointer (some ⟨pa, 0, none⟩)]) w fun e w' => e = .returned (.tuple #[.int .i64 (ckV (absI x)), .int .i64 (ckE (absI x))]) ∧ Below w.heap.size w w' := by
  obtain ⟨b1, o1, rfl, _, c1⟩ := ra k x hx
  have l1 : k < xs.length := (List.getElem?_eq_some_iff.1 hx).1
  have C := fun W => fix_Abs x ix W
  clear ra hx
  have C' := hid C
  clear C
  go_enter Try.func43, Try.ntmps43
  go_wp2_with fail
  refine (C'.out _).mono ?_
  rintro _ _ ⟨rfl, rfl⟩
  go_wp2_with fail
  go_ret2
  exact ⟨rfl, Below.refl _ _⟩
theorem size_ok (args : Array Value) (W : World) : (callFunc 43 args).run Try.prog W = .ok (.enter 43 args) W := cl_enter 43 (by kernel_rfl) args W
end Go.Proofs.Ytnokomlekndgfaa
