
import Derived.Test.YtnokomlekndgfaaFixB
namespace Go.Proofs.Ytnokomlekndgfaa
open Go.RowKit
set_option maxHeartbeats 400000
set_option maxRecDepth 100000
set_option linter.unusedVariables false
theorem behind_yes (n : Int) (h1 : 0 ≤ n) (h2 : n ≤ 30) (w : World) :
    Calls Try.prog 45 #[.int .i64 n] w fun e w' => e = .returned (.bool true) ∧ w = w' := by
  go_enter Try.func45, Try.ntmps45
  go_wp2
  go_ret
  exact ⟨by simp, rfl⟩
theorem behind_no (n : Int) (h : n < 0 ∨ 30 < n) (w : World) :
    Calls Try.prog 45 #[.int .i64 n] w fun e w' => e = .returned (.bool false) ∧ w = w' := by
  by_cases h1 : n < 0
  · clear h
    go_enter Try.func45, Try.ntmps45
    go_wp2
    go_ret
    exact ⟨by simp, rfl⟩
  · have h2 : 30 < n := by omega
    clear h
    go_enter Try.func45, Try.ntmps45
    go_wp2
    go_ret
    exact ⟨by simp; omega, rfl⟩
theorem i128_mul {a b : Int} (ha : I64 a) (hb : I64 b) : I128 (a * b) := by
  unfold I64 at ha hb
  have h1 : (a + 9223372036854775808) * (b + 9223372036854775808) ≥ 0 := Int.mul_nonneg (by omega) (by omega)
  have h2 : (9223372036854775808 - a) * (b + 9223372036854775808) ≥ 0 := Int.mul_nonneg (by omega) (by omega)
  have h3 : (9223372036854775808 - a) * (9223372036854775808 - b) ≥ 0 := Int.mul_nonneg (by omega) (by omega)
  have h4 : (a + 9223372036854775808) * (9223372036854775808 - b) ≥ 0 := Int.mul_nonneg (by omega) (by omega)
  simp only [Int.add_mul, Int.mul_add, Int.sub_mul, Int.mul_sub] at h1 h2 h3 h4
  unfold I128
  generalize a * b = p at *
  omega
theorem i128_div {s d : Int} (hs : I128 s) (hd : 1 ≤ d) : I128 (s / d) := by
  unfold I128 at *
  constructor
  · exact Int.le_ediv_of_mul_le (by omega) (by
      have := Int.mul_le_mul_of_nonneg_left hd (show (0:Int) ≤ 170141183460469231731687303715884105728 by decide)
      omega)
  · have : s / d < 170141183460469231731687303715884105728 := Int.ediv_lt_of_lt_mul (by omega) (by
      have := Int.mul_le_mul_of_nonneg_left hd (show (0:Int) ≤ 170141183460469231731687303715884105728 by decide)
      omega)
    omega
theorem i64_pow {k : Nat} (hk : k ≤ 30) : I64 (2 ^ k) ∧ (2 : Int) ^ k ≤ 1073741824 ∧ 1 ≤ (2 : Int) ^ k := by
  have h0 : (0 : Int) < 2 ^ k := Int.pow_pos (by decide)
  have h1 : (2 : Int) ^ k ≤ 2 ^ 30 := by exact_mod_cast Nat.pow_le_pow_right (show 0 < 2 by decide) hk
  unfold I64
  omega
end Go.Proofs.Ytnokomlekndgfaa
