
/- Plain facts on a long division's digits (Knuth's way, with halves of 32 bits). No program in sight. -/
import Derived.Test.YtnokomlekndgfaaMath
namespace Go.Proofs.Ytnokomlekndgfaa
set_option maxRecDepth 100000
set_option linter.unusedVariables false

/-- q and r while one digit is sought: never below what it is. -/
structure Dig (u d1 d0 c q r : Int) : Prop where
  sum : q * d1 + r = u
  up : (u * 4294967296 + c) / (d1 * 4294967296 + d0) ≤ q
  q0 : 0 ≤ q
  q1 : q ≤ 4294967297
  r0 : 0 ≤ r

/-- What the digits are sought of. -/
structure Den (u d1 d0 c : Int) : Prop where
  d1l : 2147483648 ≤ d1
  d1h : d1 < 4294967296
  d0l : 0 ≤ d0
  d0h : d0 < 4294967296
  u0 : 0 ≤ u
  ud : u < d1 * 4294967296 + d0
  c0 : 0 ≤ c
  c1 : c < 4294967296

variable {u d1 d0 c q r : Int}

theorem dig_quo0 (n : Den u d1 d0 c) : 0 ≤ (u * 4294967296 + c) / (d1 * 4294967296 + d0) := by
  obtain ⟨h1, h2, h3, h4, h5, h6, h7, h8⟩ := n
  exact Int.ediv_nonneg (by omega) (by omega)
theorem dig_quo1 (n : Den u d1 d0 c) : (u * 4294967296 + c) / (d1 * 4294967296 + d0) < 4294967296 := by
  obtain ⟨h1, h2, h3, h4, h5, h6, h7, h8⟩ := n
  exact Int.ediv_lt_of_lt_mul (by omega) (by omega)
theorem dig_mul (h : Dig u d1 d0 c q r) : q * (d1 * 4294967296 + d0) = (u - r) * 4294967296 + q * d0 := by
  have := h.sum
  rw [Int.mul_add, ← Int.mul_assoc, show q * d1 = u - r by omega]
theorem dig_le (n : Den u d1 d0 c) (h : Dig u d1 d0 c q r) (hle : q * d0 ≤ 4294967296 * r + c) : (u * 4294967296 + c) / (d1 * 4294967296 + d0) = q := by
  refine Int.le_antisymm h.up (Int.le_ediv_of_mul_le (by have := n.d1l; have := n.d0l; omega) ?_)
  rw [dig_mul h]
  omega
theorem dig_gt (n : Den u d1 d0 c) (h : Dig u d1 d0 c q r) (hg : 4294967296 ≤ q ∨ 4294967296 * r + c < q * d0) : (u * 4294967296 + c) / (d1 * 4294967296 + d0) ≤ q - 1 := by
  rcases hg with hg | hg
  · have := dig_quo1 n; omega
  · have : (u * 4294967296 + c) / (d1 * 4294967296 + d0) < q := Int.ediv_lt_of_lt_mul (by have := n.d1l; have := n.d0l; omega) (by rw [dig_mul h]; omega)
    omega
theorem dig_step (n : Den u d1 d0 c) (h : Dig u d1 d0 c q r) (hg : 4294967296 ≤ q ∨ 4294967296 * r + c < q * d0) : Dig u d1 d0 c (q - 1) (r + d1) ∧ 1 ≤ q ∧ q - 1 ≤ 4294967296 := by
  have h1 := dig_gt n h hg
  have h2 := dig_quo0 n
  have h3 := h.q1
  have h4 := h.r0
  have h5 := n.d1l
  have h6 := h.sum
  exact ⟨⟨by rw [Int.sub_mul]; omega, h1, by omega, by omega, by omega⟩, by omega, by omega⟩
theorem dig_break (n : Den u d1 d0 c) (h : Dig u d1 d0 c q r) (hq : q ≤ 4294967296) (hr : 4294967296 ≤ r) : (u * 4294967296 + c) / (d1 * 4294967296 + d0) = q := by
  refine dig_le n h ?_
  have h1 : q * d0 ≤ 4294967296 * 4294967295 := Int.mul_le_mul hq (by have := n.d0h; omega) n.d0l (by decide)
  have := n.c0
  omega
theorem dig_start (n : Den u d1 d0 c) : Dig u d1 d0 c (u / d1) (u - u / d1 * d1) ∧ u - u / d1 * d1 < 4294967296 := by
  obtain ⟨h1, h2, h3, h4, h5, h6, h7, h8⟩ := n
  have e := Int.mul_ediv_add_emod u d1
  have e1 := Int.emod_nonneg u (show d1 ≠ 0 by omega)
  have e2 := Int.emod_lt_of_pos u (show 0 < d1 by omega)
  rw [Int.mul_comm] at e
  have q0 : 0 ≤ u / d1 := Int.ediv_nonneg h5 (by omega)
  refine ⟨⟨by omega, ?_, q0, ?_, by omega⟩, by omega⟩
  · have : (u * 4294967296 + c) / (d1 * 4294967296 + d0) < u / d1 + 1 := by
      refine Int.ediv_lt_of_lt_mul (by omega) ?_
      have k1 : (u / d1 + 1) * (d1 * 4294967296 + d0) = (u / d1 * d1 + d1) * 4294967296 + (u / d1 + 1) * d0 := by
        rw [Int.mul_add, ← Int.mul_assoc, Int.add_mul, Int.one_mul]
      have k2 : 0 ≤ (u / d1 + 1) * d0 := Int.mul_nonneg (by omega) h3
      omega
    omega
  · have : u / d1 < 4294967298 := Int.ediv_lt_of_lt_mul (by omega) (by omega)
    omega

/-- Both digits together. -/
theorem two_digits {D t1 t0 a1 a0 b : Int} (_hD : 0 < D) (h1 : t1 = a1 * D + b) (h0 : b * 4294967296 + t0 = a0 * D + r) (hr : 0 ≤ r) (hr' : r < D) :
    (t1 * 4294967296 + t0) / D = a1 * 4294967296 + a0 ∧ (t1 * 4294967296 + t0) % D = r := by
  have e : t1 * 4294967296 + t0 = r + (a1 * 4294967296 + a0) * D := by
    subst h1
    rw [Int.add_mul, Int.add_mul, Int.mul_right_comm]
    omega
  rw [e]
  constructor
  · rw [Int.add_mul_ediv_right _ _ (by omega), Int.ediv_eq_zero_of_lt hr hr']; omega
  · rw [Int.add_mul_emod_self_right, Int.emod_eq_of_lt hr hr']

/-- Shifting both by as many bits does not change the quotient. -/
theorem quo_shift {U y p : Int} (hp : 0 < p) (hy : 0 < y) : U * p / (y * p) = U / y ∧ U * p % (y * p) / p = U % y := by
  constructor
  · exact Int.mul_ediv_mul_of_pos_left _ _ hp
  · rw [Int.mul_comm U, Int.mul_comm y, Int.mul_emod_mul_of_pos _ _ hp]
    exact Int.mul_ediv_cancel_left _ (by omega)
end Go.Proofs.Ytnokomlekndgfaa
