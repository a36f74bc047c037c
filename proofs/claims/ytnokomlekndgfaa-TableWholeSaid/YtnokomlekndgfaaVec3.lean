
/- vec's functions, each by its contract: Same, Most, Zero, Sum, and what they take of package slices. -/
import Derived.Test.YtnokomlekndgfaaVec2
import Derived.Outline
namespace Go.Proofs.Ytnokomlekndgfaa
open Go.RowKit
set_option maxHeartbeats 400000
set_option maxRecDepth 100000
set_option linter.unusedVariables false
def zeroE (n : Int) : Int := if n < 0 ∨ 4096 < n then 1 else 0
def zeroV (n : Int) : List Int := if n < 0 ∨ 4096 < n then [] else List.replicate n.toNat 0
/-- The greatest of numbers that are not below 0 (0 of none). -/
def mx (xs : List Int) : Int := xs.foldl max 0
theorem mx_step {xs : List Int} {k : Nat} {x : Int} (hx : xs[k]? = some x) : mx (xs.take (k + 1)) = max (mx (xs.take k)) x := by
  unfold mx
  rw [List.take_add_one, hx]
  simp [List.foldl_append]
theorem mx_ge : ∀ (xs : List Int) (a : Int), a ≤ xs.foldl max a
  | [], a => Int.le_refl _
  | x :: xs, a => by
    have := mx_ge xs (max a x)
    simp only [List.foldl_cons]
    omega
theorem mx_i64 {xs : List Int} (h : I64s xs) : ∀ a, I64 a → I64 (xs.foldl max a) := by
  induction xs with
  | nil => exact fun a ha => ha
  | cons x xs ih =>
    intro a ha
    refine ih (fun y hy => h y (by simp [hy])) (max a x) ?_
    have := h x (by simp)
    unfold I64 at *
    omega
def mostE (xs : List Int) : Int := unE 0 (numA xs) xs.length
def mostV (xs : List Int) : Int := mx (unV 0 (numA xs) xs.length)
theorem numA_pos (xs : List Int) (k : Nat) : 0 ≤ (numA xs k).1 := by
  unfold numA ckV absI
  simp only
  split <;> split <;> omega
theorem abs_pos (xs : List Int) : ∀ x ∈ unV 0 (numA xs) xs.length, 0 ≤ x := by
  intro x hx
  unfold unV seqV at hx
  split at hx
  · split at hx
    · obtain ⟨k, _, rfl⟩ := List.mem_map.1 hx
      exact numA_pos xs k
    · simp at hx
  · simp at hx
theorem mx_nil : mx [] = 0 := rfl
end Go.Proofs.Ytnokomlekndgfaa
