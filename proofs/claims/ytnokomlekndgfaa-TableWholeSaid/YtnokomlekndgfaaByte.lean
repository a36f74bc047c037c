
/- Words for bytes and numbers of 64 bits: their types, a list that a call tells. -/
import Derived.Test.YtnokomlekndgfaaWd
namespace Go.Proofs.Ytnokomlekndgfaa
open Go.RowKit
set_option maxRecDepth 100000
set_option linter.unusedVariables false
theorem cells_u8 : Try.prog.cellsOf 5 = 1 := by kernel_rfl
theorem cells_u64 : Try.prog.cellsOf 22 = 1 := by kernel_rfl
theorem cells_i64' : Try.prog.cellsOf 2 = 1 := by kernel_rfl
theorem info_u8 : (Try.prog.info? 5).map (fun i => (i.zero, i.size, i.bytes)) = some (some (.int .u8 0), 1, 1) := by kernel_rfl
theorem info_u64 : (Try.prog.info? 22).map (fun i => (i.zero, i.size, i.bytes)) = some (some (.int .u64 0), 1, 8) := by kernel_rfl
/-- A call's answer: a list in memory that lies from base on; nothing below base has turned. -/
def OwnOf (t : TypeId) (k : IntKind) (base : Nat) (xs : List Int) (w : World) (e : Ending) (w' : World) : Prop :=
  ∃ A c, e = .returned (.slice A xs.length c) ∧ w'.ownsRow base t 1 (.slice A xs.length c) xs.length (xs.map (Value.int k)) ∧ Below base w w'
theorem OwnOf.onto {t : TypeId} {k : IntKind} {xs : List Int} {B : Nat} {w wl w' : World} {e : Ending} (h : OwnOf t k wl.heap.size xs wl e w') (hb : Below B w wl) (hB : B ≤ wl.heap.size) : OwnOf t k B xs w e w' := by
  obtain ⟨A, c, he, ho, hk⟩ := h
  exact ⟨A, c, he, own_base ho hB, hb.trans (hk.mono hB)⟩
/-- A call's answer: a list in memory of the call's own, and a number beside it (an error). -/
def OwnE (t : TypeId) (k : IntKind) (base : Nat) (xs : List Int) (er : Int) (w : World) (e : Ending) (w' : World) : Prop :=
  ∃ A c, e = .returned (.tuple #[.slice A xs.length c, .int .i64 er]) ∧ w'.ownsRow base t 1 (.slice A xs.length c) xs.length (xs.map (Value.int k)) ∧ Below base w w'
theorem OwnE.nil {t : TypeId} {k : IntKind} {base : Nat} {er : Int} {w w' : World} (hb : Below base w w') : OwnE t k base [] er w (.returned (.tuple #[.slice none 0 0, .int .i64 er])) w' := ⟨none, 0, rfl, own_nil _ _ _, hb⟩
theorem ret1 {k : IntKind} {x y : Int} (h : x = y) : Ending.returned (Value.int k x) = Ending.returned (Value.int k y) := by rw [h]
end Go.Proofs.Ytnokomlekndgfaa
