
/- Plain facts on whole products: 128 bits, in an upper and a lower half. No program in sight. -/
import Derived.Test.YtnokomlekndgfaaMath
namespace Go.Proofs.Ytnokomlekndgfaa
open Go.RowKit
set_option maxHeartbeats 400000
def hiU (s : Int) : Int := s / 18446744073709551616 % 18446744073709551616
def loU (s : Int) : Int := s % 18446744073709551616
def I128 (s : Int) : Prop := -170141183460469231731687303715884105728 ≤ s ∧ s ≤ 170141183460469231731687303715884105727
theorem U64.wrap (a : Int) : U64 (IntKind.u64.wrap a) := by unfold U64; rw [IntKind.wrap_u64]; omega
theorem U64.hi (s : Int) : U64 (hiU s) := by unfold U64 hiU; omega
theorem U64.lo (s : Int) : U64 (loU s) := by unfold U64 loU; omega

theorem prod_shift (a b x y m n : Int) (hx : x = a + m * 18446744073709551616) (hy : y = b + n * 18446744073709551616) :
    x * y = a * b + (a * n + m * b + m * n * 18446744073709551616) * 18446744073709551616 := by
  subst hx hy
  grind
theorem u64_case {a : Int} (ha : I64 a) : (a < 0 ∧ IntKind.u64.wrap a = a + 1 * 18446744073709551616) ∨ (0 ≤ a ∧ IntKind.u64.wrap a = a + 0 * 18446744073709551616) := by
  unfold I64 at ha; rw [IntKind.wrap_u64]; omega
theorem times_nn {a b : Int} (ha : I64 a) (hb : I64 b) (h1 : a < 0) (h2 : b < 0) :
    IntKind.u64.wrap (IntKind.u64.wrap (IntKind.u64.wrap a * IntKind.u64.wrap b / 18446744073709551616 - IntKind.u64.wrap b) - IntKind.u64.wrap a) = hiU (a * b) := by
  rcases u64_case ha with ⟨_, ea⟩ | ⟨_, _⟩
  · rcases u64_case hb with ⟨_, eb⟩ | ⟨_, _⟩
    · rw [prod_shift a b _ _ 1 1 ea eb, ea, eb, IntKind.wrap_u64, IntKind.wrap_u64]
      unfold hiU
      generalize a * b = p
      omega
    · omega
  · omega
theorem times_np {a b : Int} (ha : I64 a) (hb : I64 b) (h1 : a < 0) (h2 : 0 ≤ b) :
    IntKind.u64.wrap (IntKind.u64.wrap a * IntKind.u64.wrap b / 18446744073709551616 - IntKind.u64.wrap b) = hiU (a * b) := by
  rcases u64_case ha with ⟨_, ea⟩ | ⟨_, _⟩
  · rcases u64_case hb with ⟨_, _⟩ | ⟨_, eb⟩
    · omega
    · rw [prod_shift a b _ _ 1 0 ea eb, eb, IntKind.wrap_u64]
      unfold hiU
      generalize a * b = p
      omega
  · omega
theorem times_pn {a b : Int} (ha : I64 a) (hb : I64 b) (h1 : 0 ≤ a) (h2 : b < 0) :
    IntKind.u64.wrap (IntKind.u64.wrap a * IntKind.u64.wrap b / 18446744073709551616 - IntKind.u64.wrap a) = hiU (a * b) := by
  rw [Int.mul_comm (IntKind.u64.wrap a), Int.mul_comm a]
  exact times_np hb ha h2 h1
theorem times_pp {a b : Int} (ha : I64 a) (hb : I64 b) (h1 : 0 ≤ a) (h2 : 0 ≤ b) :
    IntKind.u64.wrap a * IntKind.u64.wrap b / 18446744073709551616 = hiU (a * b) := by
  rcases u64_case ha with ⟨_, _⟩ | ⟨_, ea⟩
  · omega
  · rcases u64_case hb with ⟨_, _⟩ | ⟨_, eb⟩
    · omega
    · have hp : 0 ≤ a * b := Int.mul_nonneg h1 h2
      have hq : a * b ≤ 9223372036854775807 * 9223372036854775807 := Int.mul_le_mul ha.2 hb.2 h2 (by omega)
      rw [prod_shift a b _ _ 0 0 ea eb]
      unfold hiU
      generalize a * b = p at *
      omega
theorem times_lo {a b : Int} : IntKind.u64.wrap a * IntKind.u64.wrap b % 18446744073709551616 = loU (a * b) := by
  unfold loU
  rw [IntKind.wrap_u64, IntKind.wrap_u64, ← Int.mul_emod]
theorem bits_not_u64 {p : Int} (h : U64 p) : bits BinOp.xor IntKind.u64 IntKind.u64.max p = 18446744073709551615 - p := by
  obtain ⟨m, rfl⟩ := Int.eq_ofNat_of_zero_le h.1
  have hm : m < 18446744073709551616 := by have := h.2; omega
  have e : (IntKind.u64.max : Int) = ((18446744073709551615 : Nat) : Int) := by decide
  rw [e, bits_xor_u64_nat _ _ (by decide) hm]
  have hx : 18446744073709551615 ^^^ m = 18446744073709551615 - m := by
    have h1 : (BitVec.allOnes 64 ^^^ BitVec.ofNat 64 m).toNat = 18446744073709551615 ^^^ m := by
      rw [BitVec.toNat_xor, BitVec.toNat_ofNat, Nat.mod_eq_of_lt (by omega)]; simp
    rw [← h1, BitVec.allOnes_xor, BitVec.toNat_not, BitVec.toNat_ofNat, Nat.mod_eq_of_lt (by omega)]
  rw [hx]
  omega
theorem flip_hi (s : Int) : 18446744073709551615 - hiU s = hiU (-s - 1) := by unfold hiU; omega
theorem flip_lo (s : Int) : 18446744073709551615 - loU s = loU (-s - 1) := by unfold loU; omega
theorem hi_signed {s : Int} (h : I128 s) : wrap64 (hiU s) = s / 18446744073709551616 := by unfold I128 at h; unfold hiU; rw [wrap64_eq]; omega
theorem shift_hi {s : Int} (h : I128 s) (k : Nat) : IntKind.u64.wrap (wrap64 (hiU s) / 2 ^ k) = hiU (s / 2 ^ k) := by
  rw [hi_signed h, IntKind.wrap_u64]
  unfold hiU
  rw [Int.ediv_ediv_of_nonneg (by decide), Int.ediv_ediv_of_nonneg (Int.le_of_lt (Int.pow_pos (by decide))), Int.mul_comm]
theorem shift_lo {s : Int} (k : Nat) (hk : k ≤ 64) : bits BinOp.or IntKind.u64 (IntKind.u64.wrap (hiU s * 2 ^ (64 - k))) (loU s / 2 ^ k) = loU (s / 2 ^ k) := by
  have ek : (2 : Int) ^ (64 - k) * 2 ^ k = 18446744073709551616 := by rw [← Int.pow_add, show 64 - k + k = 64 by omega]; rfl
  have hp : (0 : Int) < 2 ^ k := Int.pow_pos (by decide)
  have hp' : (0 : Int) < 2 ^ (64 - k) := Int.pow_pos (by decide)
  have hlo : 0 ≤ loU s ∧ loU s < 18446744073709551616 := by unfold loU; omega
  have hq1 : loU s / 2 ^ k < 2 ^ (64 - k) := Int.ediv_lt_of_lt_mul hp (by rw [ek]; exact hlo.2)
  have hq0 : 0 ≤ loU s / 2 ^ k := Int.ediv_nonneg hlo.1 (Int.le_of_lt hp)
  have hs : s = loU s + s / 18446744073709551616 * 18446744073709551616 := by unfold loU; omega
  have e1 : s / 2 ^ k = loU s / 2 ^ k + s / 18446744073709551616 * 2 ^ (64 - k) := by
    conv => lhs; rw [hs]
    rw [show s / 18446744073709551616 * 18446744073709551616 = s / 18446744073709551616 * 2 ^ (64 - k) * 2 ^ k by rw [Int.mul_assoc, ek]]
    exact Int.add_mul_ediv_right _ _ (by omega)
  have e2 : IntKind.u64.wrap (hiU s * 2 ^ (64 - k)) = 2 ^ (64 - k) * (s / 18446744073709551616 % 2 ^ k) := by
    rw [IntKind.wrap_u64]
    unfold hiU
    rw [Int.mul_emod, Int.emod_emod_of_dvd _ (Int.dvd_refl _), ← Int.mul_emod, Int.mul_comm]
    rw [show (18446744073709551616 : Int) = 2 ^ (64 - k) * 2 ^ k from ek.symm]
    exact Int.mul_emod_mul_of_pos _ _ hp'
  have hr0 : 0 ≤ s / 18446744073709551616 % 2 ^ k := Int.emod_nonneg _ (by omega)
  have hr1 : s / 18446744073709551616 % 2 ^ k < 2 ^ k := Int.emod_lt_of_pos _ hp
  have e3 : 2 ^ (64 - k) * (s / 18446744073709551616 % 2 ^ k) + 2 ^ (64 - k) ≤ 18446744073709551616 := by
    have := Int.mul_le_mul_of_nonneg_left (show s / 18446744073709551616 % 2 ^ k + 1 ≤ 2 ^ k by omega) (Int.le_of_lt hp')
    rw [Int.mul_add, ek] at this
    omega
  have e4 : 0 ≤ 2 ^ (64 - k) * (s / 18446744073709551616 % 2 ^ k) := Int.mul_nonneg (Int.le_of_lt hp') hr0
  have e5 : s / 18446744073709551616 * 2 ^ (64 - k) % 18446744073709551616 = 2 ^ (64 - k) * (s / 18446744073709551616 % 2 ^ k) := by
    rw [show (18446744073709551616 : Int) = 2 ^ (64 - k) * 2 ^ k from ek.symm, Int.mul_comm]
    exact Int.mul_emod_mul_of_pos _ _ hp'
  rw [e2, bits_join .u64 64 (by decide) (fun n h0 h1 => by rw [IntKind.wrap_u64]; omega) (64 - k) _ _ e4 (Int.mul_emod_right _ _) (by omega) hq0 hq1 (by omega), e1]
  unfold loU at *
  generalize s % 18446744073709551616 / 2 ^ k = y at *
  generalize s / 18446744073709551616 * 2 ^ (64 - k) = A at *
  rw [← e5] at e3 e4 ⊢
  omega
end Go.Proofs.Ytnokomlekndgfaa
