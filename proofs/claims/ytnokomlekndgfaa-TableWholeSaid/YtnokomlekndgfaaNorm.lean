
/- Plain facts on a number shifted so far that its highest bit stands. No program in sight. -/
import Derived.Test.YtnokomlekndgfaaDig
import Derived.Test.YtnokomlekndgfaaProd
namespace Go.Proofs.Ytnokomlekndgfaa
open Go.RowKit
set_option maxRecDepth 100000
set_option linter.unusedVariables false
theorem and_low (x : Int) (h : U64 x) : bits BinOp.and IntKind.u64 x 4294967295 = x % 4294967296 :=
  bits_mask .u64 64 (by decide) (fun n h0 h1 => by rw [IntKind.wrap_u64]; omega) 32 (by decide) x h.1 (by have := h.2; omega)
theorem two_pow_split (s : Nat) (hs : s ≤ 64) : (2 : Int) ^ s * 2 ^ (64 - s) = 18446744073709551616 := by
  rw [← Int.pow_add, show s + (64 - s) = 64 by omega]; rfl
theorem norm_u (h l y : Int) (s : Nat) (hs : s ≤ 63) (hl : U64 l) (h0 : 0 ≤ h) (h1 : h < y) (hD : y * 2 ^ s ≤ 18446744073709551615) :
    bits BinOp.or IntKind.u64 (IntKind.u64.wrap (h * 2 ^ s)) (l / 2 ^ (64 - s)) = h * 2 ^ s + l / 2 ^ (64 - s) := by
  have ek := two_pow_split s (by omega)
  have hp : (0 : Int) < 2 ^ s := Int.pow_pos (by decide)
  have hp' : (0 : Int) < 2 ^ (64 - s) := Int.pow_pos (by decide)
  have e1 : h * 2 ^ s < y * 2 ^ s := Int.mul_lt_mul_of_pos_right h1 hp
  have e0 : 0 ≤ h * 2 ^ s := Int.mul_nonneg h0 (by omega)
  have e2 : l / 2 ^ (64 - s) < 2 ^ s := Int.ediv_lt_of_lt_mul hp' (by rw [ek]; have := hl.2; omega)
  have e3 : 0 ≤ l / 2 ^ (64 - s) := Int.ediv_nonneg hl.1 (by omega)
  have e4 : (2 : Int) ^ s ≤ 2 ^ s * 2 ^ (64 - s) := by
    have := Int.mul_le_mul_of_nonneg_left (show (1 : Int) ≤ 2 ^ (64 - s) by omega) (Int.le_of_lt hp)
    omega
  rw [ek] at e4
  rw [show IntKind.u64.wrap (h * 2 ^ s) = h * 2 ^ s by rw [IntKind.wrap_u64]; omega]
  exact bits_join .u64 64 (by decide) (fun n h0 h1 => by rw [IntKind.wrap_u64]; omega) s _ _ e0 (Int.mul_emod_left _ _) (by omega) e3 e2 (by omega)
theorem norm_sum (h l : Int) (s : Nat) (hs : s ≤ 63) : (h * 18446744073709551616 + l) * 2 ^ s = (h * 2 ^ s + l / 2 ^ (64 - s)) * 18446744073709551616 + IntKind.u64.wrap (l * 2 ^ s) := by
  have ek := two_pow_split s (by omega)
  have hp : (0 : Int) < 2 ^ s := Int.pow_pos (by decide)
  have e : l * 2 ^ s / 18446744073709551616 = l / 2 ^ (64 - s) := by
    rw [← ek, Int.mul_comm l]; exact Int.mul_ediv_mul_of_pos _ _ hp
  rw [IntKind.wrap_u64, Int.add_mul, Int.add_mul, ← e, Int.mul_right_comm]
  omega
theorem norm_lt (h l y : Int) (s : Nat) (hs : s ≤ 63) (hl : U64 l) (h1 : h < y) : h * 2 ^ s + l / 2 ^ (64 - s) < y * 2 ^ s := by
  have hp : (0 : Int) < 2 ^ s := Int.pow_pos (by decide)
  have e := norm_sum h l s hs
  have e2 : (h * 18446744073709551616 + l) * 2 ^ s < (y * 18446744073709551616) * 2 ^ s := Int.mul_lt_mul_of_pos_right (by have := hl.2; omega) hp
  rw [e, Int.mul_right_comm] at e2
  have := (U64.wrap (l * 2 ^ s)).1
  omega
end Go.Proofs.Ytnokomlekndgfaa
