
/- Plain facts on a division bit by bit. No program in sight. -/
import Derived.Test.YtnokomlekndgfaaNorm
namespace Go.Proofs.Ytnokomlekndgfaa
open Go.RowKit
set_option maxRecDepth 100000
set_option linter.unusedVariables false

structure OvR (h l y : Int) (n : Nat) (left q : Int) (f : Bool) : Prop where
  nle : n ≤ 128
  left : left = (h * 18446744073709551616 + l) / 2 ^ n % y
  q0 : U64 q
  big : 64 ≤ n → q = 0 ∧ (f = true ↔ (h * 18446744073709551616 + l) / 2 ^ n < y)
  small : n ≤ 64 → (f = true ↔ h < y) ∧ (h < y → q = (h * 18446744073709551616 + l) / 2 ^ n / y * 2 ^ n)

variable {h l y left q : Int} {n : Nat} {f : Bool}

theorem ov_start (hh : U64 h) (hl : U64 l) (hy : 1 ≤ y) : OvR h l y 128 0 0 true := by
  have e : (h * 18446744073709551616 + l) / 2 ^ 128 = 0 := by
    unfold U64 at *
    exact Int.ediv_eq_zero_of_lt (by omega) (by omega)
  refine ⟨by decide, by rw [e]; simp, by unfold U64; omega, fun _ => ⟨rfl, by rw [e]; simp; omega⟩, fun h => by omega⟩
theorem ov_bit (U : Int) (n : Nat) : U / 2 ^ n = 2 * (U / 2 ^ (n + 1)) + U / 2 ^ n % 2 := by
  rw [Int.pow_succ, ← Int.ediv_ediv_of_nonneg (Int.le_of_lt (Int.pow_pos (by decide)))]
  omega
theorem ov_div {T T' b y left : Int} (hy : 1 ≤ y) (e : T' = 2 * T + b) (hb : 0 ≤ b ∧ b ≤ 1) (hl : left = T % y) :
    (y ≤ 2 * left + b ∧ T' % y = 2 * left + b - y ∧ T' / y = 2 * (T / y) + 1) ∨ (2 * left + b < y ∧ T' % y = 2 * left + b ∧ T' / y = 2 * (T / y)) := by
  have k := Int.mul_ediv_add_emod T y
  have k1 := Int.emod_nonneg T (show y ≠ 0 by omega)
  have k2 := Int.emod_lt_of_pos T (show 0 < y by omega)
  rw [← hl] at k k1 k2
  rcases Int.lt_or_le (2 * left + b) y with c | c
  · right
    have e2 : T' = (2 * left + b) + 2 * (T / y) * y := by rw [Int.mul_assoc, Int.mul_comm (T / y)]; omega
    rw [e2, Int.add_mul_emod_self_right, Int.add_mul_ediv_right _ _ (by omega), Int.emod_eq_of_lt (by omega) c, Int.ediv_eq_zero_of_lt (by omega) c]
    omega
  · left
    have e2 : T' = (2 * left + b - y) + (2 * (T / y) + 1) * y := by rw [Int.add_mul, Int.one_mul, Int.mul_assoc, Int.mul_comm (T / y)]; omega
    rw [e2, Int.add_mul_emod_self_right, Int.add_mul_ediv_right _ _ (by omega), Int.emod_eq_of_lt (by omega) (by omega), Int.ediv_eq_zero_of_lt (by omega) (by omega)]
    omega
/-- A round above the 64th bit. -/
theorem ov_high (hh : U64 h) (hl : U64 l) (hy : 1 ≤ y) (hn : 64 ≤ n) (r : OvR h l y (n + 1) left q f) (b : Int) (hb : (h * 18446744073709551616 + l) / 2 ^ n % 2 = b) :
    (y ≤ 2 * left + b → OvR h l y n (2 * left + b - y) q false) ∧ (2 * left + b < y → OvR h l y n (2 * left + b) q f) := by
  obtain ⟨r1, r2, r3, r4, r5⟩ := r
  obtain ⟨r6, r7⟩ := r4 (by omega)
  have e := ov_bit (h * 18446744073709551616 + l) n
  have hU : 0 ≤ h * 18446744073709551616 + l := by unfold U64 at *; omega
  have hp : (0 : Int) < 2 ^ n := Int.pow_pos (by decide)
  have hp1 : (0 : Int) < 2 ^ (n + 1) := Int.pow_pos (by decide)
  have hT : 0 ≤ (h * 18446744073709551616 + l) / 2 ^ (n + 1) := Int.ediv_nonneg hU (Int.le_of_lt hp1)
  have h64 : n = 64 → (h * 18446744073709551616 + l) / 2 ^ n = h := by
    rintro rfl
    unfold U64 at *
    omega
  rw [hb] at e
  have b01 : 0 ≤ b ∧ b ≤ 1 := by omega
  have d := ov_div hy e b01 r2
  generalize hTe : (h * 18446744073709551616 + l) / 2 ^ n = T' at e d hb
  generalize (h * 18446744073709551616 + l) / 2 ^ (n + 1) = T at *
  rw [hTe] at h64
  have kq : T < y ↔ T / y = 0 := by
    constructor
    · intro c; exact Int.ediv_eq_zero_of_lt hT c
    · intro c; have := Int.lt_ediv_add_one_mul_self T (show 0 < y by omega); rw [c] at this; omega
  have hT' : 0 ≤ T' := by omega
  have kq' : T' < y ↔ T' / y = 0 := by
    constructor
    · intro c; exact Int.ediv_eq_zero_of_lt hT' c
    · intro c; have := Int.lt_ediv_add_one_mul_self T' (show 0 < y by omega); rw [c] at this; omega
  have hTy : 0 ≤ T / y := Int.ediv_nonneg hT (by omega)
  constructor
  · intro c
    rcases d with ⟨d1, d2, d3⟩ | ⟨d1, _, _⟩
    · have nf : ¬ T' < y := by rw [kq', d3]; omega
      refine ⟨by omega, by rw [hTe]; exact d2.symm, r3, fun _ => ⟨r6, by rw [hTe]; simp; omega⟩, fun hs => ?_⟩
      have := h64 (by omega)
      rw [this] at nf
      exact ⟨by simp; omega, fun c => absurd c nf⟩
    · omega
  · intro c
    rcases d with ⟨d1, _, _⟩ | ⟨d1, d2, d3⟩
    · omega
    · have ff : f = true ↔ T' < y := by rw [r7, kq, kq', d3]; omega
      refine ⟨by omega, by rw [hTe]; exact d2.symm, r3, fun _ => ⟨r6, by rw [hTe]; exact ff⟩, fun hs => ?_⟩
      have e4 := h64 (by omega)
      rw [hTe, e4]
      rw [e4] at ff kq'
      refine ⟨ff, fun c => ?_⟩
      rw [r6, kq'.1 c, Int.zero_mul]
theorem or_u64 (x z : Int) : U64 (bits BinOp.or IntKind.u64 x z) := by
  show U64 (IntKind.u64.wrap ((BitVec.ofInt 64 x ||| BitVec.ofInt 64 z).toNat : Int))
  exact U64.wrap _
/-- A round below it. -/
theorem ov_low (hh : U64 h) (hl : U64 l) (hy : 1 ≤ y) (hn : n < 64) (r : OvR h l y (n + 1) left q f) (b : Int) (hb : (h * 18446744073709551616 + l) / 2 ^ n % 2 = b) :
    (y ≤ 2 * left + b → OvR h l y n (2 * left + b - y) (bits BinOp.or IntKind.u64 q (2 ^ n)) f) ∧ (2 * left + b < y → OvR h l y n (2 * left + b) q f) := by
  obtain ⟨r1, r2, r3, r4, r5⟩ := r
  obtain ⟨r6, r7⟩ := r5 (by omega)
  have e := ov_bit (h * 18446744073709551616 + l) n
  have hU : 0 ≤ h * 18446744073709551616 + l := by unfold U64 at *; omega
  have hp : (0 : Int) < 2 ^ n := Int.pow_pos (by decide)
  have hp1 : (0 : Int) < 2 ^ (n + 1) := Int.pow_pos (by decide)
  have e2 : (2 : Int) ^ (n + 1) = 2 ^ n * 2 := Int.pow_succ 2 n
  have hT : 0 ≤ (h * 18446744073709551616 + l) / 2 ^ (n + 1) := Int.ediv_nonneg hU (Int.le_of_lt hp1)
  rw [hb] at e
  have b01 : 0 ≤ b ∧ b ≤ 1 := by omega
  have d := ov_div hy e b01 r2
  generalize hTe : (h * 18446744073709551616 + l) / 2 ^ n = T' at e d hb
  generalize (h * 18446744073709551616 + l) / 2 ^ (n + 1) = T at *
  have hTy : 0 ≤ T / y := Int.ediv_nonneg hT (by omega)
  constructor
  · intro c
    rcases d with ⟨d1, d2, d3⟩ | ⟨d1, _, _⟩
    · refine ⟨by omega, by rw [hTe]; exact d2.symm, or_u64 _ _, fun c => by omega, fun _ => ⟨r6, fun hc => ?_⟩⟩
      rw [hTe]
      have q1 := r7 hc
      have q2 := r3.2
      have p64 : (2 : Int) ^ (n + 1) ≤ 18446744073709551616 := by
        have hx : 2 ^ (n + 1) ≤ 2 ^ 64 := Nat.pow_le_pow_right (show 0 < 2 by decide) (show n + 1 ≤ 64 by omega)
        have h2 : ((2 ^ (n + 1) : Nat) : Int) ≤ ((2 ^ 64 : Nat) : Int) := Int.ofNat_le.2 hx
        rw [Int.natCast_pow] at h2
        exact h2
      have hm : q % 2 ^ (n + 1) = 0 := by rw [q1]; exact Int.mul_emod_left _ _
      rw [bits_join .u64 64 (by decide) (fun n h0 h1 => by rw [IntKind.wrap_u64]; omega) (n + 1) q (2 ^ n) r3.1 hm (by omega) (by omega) (by omega) (by omega)]
      rw [q1, d3, e2, Int.add_mul, Int.one_mul, ← Int.mul_assoc, Int.mul_right_comm, Int.mul_comm _ 2]
    · omega
  · intro c
    rcases d with ⟨d1, _, _⟩ | ⟨d1, d2, d3⟩
    · omega
    · refine ⟨by omega, by rw [hTe]; exact d2.symm, r3, fun c => by omega, fun _ => ⟨r6, fun hc => ?_⟩⟩
      rw [hTe]
      rw [r7 hc, d3, e2, ← Int.mul_assoc, Int.mul_right_comm, Int.mul_comm _ 2]
end Go.Proofs.Ytnokomlekndgfaa
