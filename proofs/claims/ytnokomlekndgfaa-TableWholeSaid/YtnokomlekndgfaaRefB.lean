
import Derived.Test.YtnokomlekndgfaaRefA
namespace Go.Proofs.Ytnokomlekndgfaa
open Go.RowKit
set_option maxHeartbeats 400000
set_option maxRecDepth 100000
set_option linter.unusedVariables false
theorem and_one_i64 (n : Int) : bits .and .i64 n 1 = n % 2 := by
  show IntKind.i64.wrap ((BitVec.ofInt 64 n &&& BitVec.ofInt 64 1).toNat : Int) = _
  rw [BitVec.toNat_and, show (BitVec.ofInt 64 1).toNat = 2 ^ 1 - 1 from rfl, Nat.and_two_pow_sub_one_eq_mod, BitVec.toNat_ofInt, IntKind.wrap_i64]
  omega
theorem half_step (y : Int) : (y - y % 2).tdiv 2 = y / 2 := by
  rw [show y - y % 2 = 2 * (y / 2) by omega, Int.mul_tdiv_cancel_left _ (by decide)]
theorem next_shift {a y : Int} {j : Nat} (h : a / 2 ^ j = y) : a / 2 ^ (j + 1) = y / 2 := by
  rw [Int.pow_succ, ← h, Int.ediv_ediv_of_nonneg (Int.le_of_lt (Int.pow_pos (by decide)))]
theorem or_comm_u64f (x y : Int) : bits .or .u64 x y = bits .or .u64 y x := by
  show IntKind.u64.wrap ((BitVec.ofInt 64 x ||| BitVec.ofInt 64 y).toNat : Int) = IntKind.u64.wrap ((BitVec.ofInt 64 y ||| BitVec.ofInt 64 x).toNat : Int)
  rw [BitVec.or_comm]
theorem i128_half {s : Int} (h : I128 s) : I128 (s / 2) := by unfold I128 at *; omega
theorem half_hi {s h : Int} (hI : I128 s) (hh : wrap64 (hiU s) = h) : h / 2 = wrap64 (hiU (s / 2)) := by
  rw [hi_signed hI] at hh
  rw [hi_signed (i128_half hI)]
  omega
theorem half_lo {s h : Int} (hI : I128 s) (hh : wrap64 (hiU s) = h) : bits BinOp.or IntKind.u64 (loU s / 2) (h % 2 * 9223372036854775808) = loU (s / 2) := by
  rw [hi_signed hI] at hh
  have hl := U64.lo s
  unfold U64 at hl
  rw [or_comm_u64f, bits_join .u64 64 (by decide) (fun n h0 h1 => by rw [IntKind.wrap_u64]; omega) 63 _ _ (by omega) (by omega) (by omega) (by omega) (by omega) (by omega)]
  unfold loU
  omega
theorem mul_out {s h : Int} (hI : I128 s) (hh : wrap64 (hiU s) = h) (ht : (h != wrap64 (loU s) / 9223372036854775808) = true) : ¬ I64 s := by
  rw [hi_signed hI] at hh
  simp only [bne_iff_ne, ne_eq] at ht
  intro hs
  unfold I64 at hs
  apply ht
  unfold loU
  rw [wrap64_eq]
  omega
theorem mul_in {s h : Int} (hI : I128 s) (hh : wrap64 (hiU s) = h) (ht : (h != wrap64 (loU s) / 9223372036854775808) = false) : I64 s ∧ wrap64 (loU s) = s := by
  rw [hi_signed hI] at hh
  simp only [bne_eq_false_iff_eq] at ht
  unfold loU at *
  unfold I64
  rw [wrap64_eq] at *
  unfold I128 at hI
  omega
end Go.Proofs.Ytnokomlekndgfaa
