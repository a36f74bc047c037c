import Derived.Test.YtbfpdafncicgnaaOver
namespace Go.Proofs.Ytbfpdafncicgnaa
open Go.RowKit
set_option maxHeartbeats 400000
set_option linter.unusedVariables false
theorem behind_yes (n : Int) (h1 : 0 ≤ n) (h2 : n ≤ 30) (w : World) :
    Calls Try.prog 32 #[.int .i64 n] w fun e w' => e = .returned (.bool true) ∧ w = w' := by
  go_enter Try.func32, Try.ntmps32
  go_wp2
  go_ret
  exact ⟨by simp, rfl⟩
theorem behind_no (n : Int) (h : n < 0 ∨ 30 < n) (w : World) :
    Calls Try.prog 32 #[.int .i64 n] w fun e w' => e = .returned (.bool false) ∧ w = w' := by
  by_cases h1 : n < 0
  · clear h
    go_enter Try.func32, Try.ntmps32
    go_wp2
    go_ret
    exact ⟨by simp, rfl⟩
  · have h2 : 30 < n := by omega
    clear h
    go_enter Try.func32, Try.ntmps32
    go_wp2
    go_ret
    exact ⟨by simp; omega, rfl⟩
theorem i128_mul {a b : Int} (ha : I64 a) (hb : I64 b) : I128 (a * b) := by
  unfold I64 at ha hb
  have h1 : (a + 9223372036854775808) * (b + 9223372036854775808) ≥ 0 := Int.mul_nonneg (by omega) (by omega)
  have h2 : (9223372036854775808 - a) * (b + 9223372036854775808) ≥ 0 := Int.mul_nonneg (by omega) (by omega)
  have h3 : (9223372036854775808 - a) * (9223372036854775808 - b) ≥ 0 := Int.mul_nonneg (by omega) (by omega)
  have h4 : (a + 9223372036854775808) * (9223372036854775808 - b) ≥ 0 := Int.mul_nonneg (by omega) (by omega)
  simp only [Int.add_mul, Int.mul_add, Int.sub_mul, Int.mul_sub] at h1 h2 h3 h4
  unfold I128
  generalize a * b = p at *
  omega
theorem i128_div {s d : Int} (hs : I128 s) (hd : 1 ≤ d) : I128 (s / d) := by
  unfold I128 at *
  constructor
  · exact Int.le_ediv_of_mul_le (by omega) (by
      have := Int.mul_le_mul_of_nonneg_left hd (show (0:Int) ≤ 170141183460469231731687303715884105728 by decide)
      omega)
  · have : s / d < 170141183460469231731687303715884105728 := Int.ediv_lt_of_lt_mul (by omega) (by
      have := Int.mul_le_mul_of_nonneg_left hd (show (0:Int) ≤ 170141183460469231731687303715884105728 by decide)
      omega)
    omega
theorem i64_pow {k : Nat} (hk : k ≤ 30) : I64 (2 ^ k) ∧ (2 : Int) ^ k ≤ 1073741824 ∧ 1 ≤ (2 : Int) ^ k := by
  have h0 : (0 : Int) < 2 ^ k := Int.pow_pos (by decide)
  have h1 : (2 : Int) ^ k ≤ 2 ^ 30 := by exact_mod_cast Nat.pow_le_pow_right (show 0 < 2 by decide) hk
  unfold I64
  omega
theorem fix_Mul (a b : Int) (k : Nat) (hk : k ≤ 30) (ha : I64 a) (hb : I64 b) (w : World) :
    Calls Try.prog 22 #[.int .i64 a, .int .i64 b, .int .i64 k] w fun e w' => e = .returned (.tuple #[.int .i64 (ckV (a * b / 2 ^ k)), .int .i64 (ckE (a * b / 2 ^ k))]) ∧ Below w.heap.size w w' := by
  go_enter Try.func22, Try.ntmps22
  go_wp2_with fail
  refine (behind_yes _ (by omega) (by omega) _).mono ?_
  rintro e w' ⟨rfl, rfl⟩
  go_wp2_with fail
  refine (fix_times _ _ ha hb _).mono ?_
  rintro e w1 ⟨rfl, hb1⟩
  go_wp2_with fail
  refine (fix_shift _ k (i128_mul ha hb) hk _).mono ?_
  rintro e w2 ⟨rfl, hb2⟩
  go_wp2_with fail
  refine (fix_number _ (i128_div (i128_mul ha hb) (i64_pow hk).2.2) _).mono ?_
  rintro e w3 ⟨rfl, hb3⟩
  go_wp2_with fail
  go_ret2
  exact ⟨rfl, (hb1.trans (hb2.mono hb1.size)).trans (hb3.mono (Nat.le_trans hb1.size hb2.size))⟩
theorem Mul_bad (a b n : Int) (h : n < 0 ∨ 30 < n) (w : World) :
    Calls Try.prog 22 #[.int .i64 a, .int .i64 b, .int .i64 n] w fun e w' => e = .returned (.tuple #[.int .i64 0, .int .i64 1]) ∧ Below w.heap.size w w' := by
  go_enter Try.func22, Try.ntmps22
  go_wp2_with fail
  refine (behind_no _ h _).mono ?_
  rintro e w' ⟨rfl, rfl⟩
  go_wp2_with fail
  go_ret2
  exact ⟨rfl, Below.refl _ _⟩
theorem fix_Wide (a b : Int) (ha : I64 a) (hb : I64 b) (w : World) :
    Calls Try.prog 30 #[.int .i64 a, .int .i64 b] w fun e w' => e = .returned (.tuple #[.int .i64 (wrap64 (hiU (a * b))), .int .u64 (loU (a * b))]) ∧ Below w.heap.size w w' := by
  go_enter Try.func30, Try.ntmps30
  go_wp2_with fail
  refine (fix_times _ _ ha hb _).mono ?_
  rintro e w1 ⟨rfl, hb1⟩
  have hz := hb1.size
  go_wp2_with fail
  go_region
  go_wp2
  go_ret2
  exact ⟨rfl, by go_grown⟩
theorem Div_pos (a b : Int) (k : Nat) (hk : k ≤ 30) (ha : I64 a) (hb : I64 b) (h0 : 0 < b) (w : World) :
    Calls Try.prog 24 #[.int .i64 a, .int .i64 b, .int .i64 k] w fun e w' => e = .returned (.tuple #[.int .i64 (ckV (quoF (a * 2 ^ k) b)), .int .i64 (ckE (quoF (a * 2 ^ k) b))]) ∧ Below w.heap.size w w' := by
  have hp := i64_pow hk
  have p1 := hp.2.1
  have p2 := hp.2.2
  have b1 := hb.1
  have b2 := hb.2
  have k1 : (b == 0) = false := by simp; omega
  have e1 : quoF (a * 2 ^ k) b = a * 2 ^ k / b := by unfold quoF; rw [if_neg (by omega)]
  have i1 := i128_mul ha hp.1
  rw [e1]
  clear e1
  go_enter Try.func24, Try.ntmps24
  go_wp2_with fail
  refine (behind_yes _ (by omega) (by omega) _).mono ?_
  rintro e w' ⟨rfl, rfl⟩
  go_wp2_with fail
  refine (fix_times _ _ ha hp.1 _).mono ?_
  rintro e w1 ⟨rfl, hb1⟩
  go_wp2_with fail
  refine (fix_over _ b i1 (by omega) (by omega) _).mono ?_
  rintro e w2 ⟨rfl, hb2⟩
  go_wp2_with fail
  refine (fix_number _ (i128_div i1 (by omega)) _).mono ?_
  rintro e w3 ⟨rfl, hb3⟩
  go_wp2_with fail
  go_ret2
  exact ⟨rfl, (hb1.trans (hb2.mono hb1.size)).trans (hb3.mono (Nat.le_trans hb1.size hb2.size))⟩
theorem Div_neg (a b : Int) (k : Nat) (hk : k ≤ 30) (ha : I64 a) (hb : I64 b) (h0 : b < 0) (w : World) :
    Calls Try.prog 24 #[.int .i64 a, .int .i64 b, .int .i64 k] w fun e w' => e = .returned (.tuple #[.int .i64 (ckV (quoF (a * 2 ^ k) b)), .int .i64 (ckE (quoF (a * 2 ^ k) b))]) ∧ Below w.heap.size w w' := by
  have hp := i64_pow hk
  have p1 := hp.2.1
  have p2 := hp.2.2
  have b1 := hb.1
  have b2 := hb.2
  have k1 : (b == 0) = false := by simp; omega
  have e1 : quoF (a * 2 ^ k) b = a * -(2 ^ k) / (-b) := by unfold quoF; rw [if_pos (by omega), Int.mul_neg]
  have hq : I64 (-(2 ^ k)) := by unfold I64; omega
  have i1 := i128_mul ha hq
  have u1 : IntKind.u64.wrap b = b + 18446744073709551616 := by rw [IntKind.wrap_u64]; omega
  have u2 : IntKind.u64.wrap (-(b + 18446744073709551616)) = -b := by rw [IntKind.wrap_u64]; omega
  have ov := fun W => fix_over _ (-b) i1 (by omega) (by omega) W
  have i2 := i128_div i1 (show 1 ≤ -b by omega)
  rw [e1]
  clear e1
  obtain ⟨q, hqq⟩ : ∃ q, a * -(2 ^ k) / (-b) = q := ⟨_, rfl⟩
  obtain ⟨d, hdd⟩ : ∃ d, -b = d := ⟨_, rfl⟩
  rw [hqq] at i2 ov ⊢
  rw [hdd] at u2 ov
  have OV := hid ov
  clear ov hqq hdd
  go_enter Try.func24, Try.ntmps24
  go_wp2_with fail
  refine (behind_yes _ (by omega) (by omega) _).mono ?_
  rintro e w' ⟨rfl, rfl⟩
  go_wp2_with fail
  refine (fix_times _ _ ha hq _).mono ?_
  rintro e w1 ⟨rfl, hb1⟩
  go_wp2_with fail
  refine (OV.out _).mono ?_
  rintro e w2 ⟨rfl, hb2⟩
  go_wp2_with fail
  refine (fix_number q i2 _).mono ?_
  rintro e w3 ⟨rfl, hb3⟩
  go_wp2_with fail
  go_ret2
  exact ⟨rfl, (hb1.trans (hb2.mono hb1.size)).trans (hb3.mono (Nat.le_trans hb1.size hb2.size))⟩
theorem fix_Div (a b : Int) (k : Nat) (hk : k ≤ 30) (ha : I64 a) (hb : I64 b) (h0 : b ≠ 0) (w : World) :
    Calls Try.prog 24 #[.int .i64 a, .int .i64 b, .int .i64 k] w fun e w' => e = .returned (.tuple #[.int .i64 (ckV (quoF (a * 2 ^ k) b)), .int .i64 (ckE (quoF (a * 2 ^ k) b))]) ∧ Below w.heap.size w w' := by
  by_cases h : 0 < b
  · exact Div_pos a b k hk ha hb h w
  · exact Div_neg a b k hk ha hb (by omega) w
theorem Div_bad (a b n : Int) (h : n < 0 ∨ 30 < n) (w : World) :
    Calls Try.prog 24 #[.int .i64 a, .int .i64 b, .int .i64 n] w fun e w' => e = .returned (.tuple #[.int .i64 0, .int .i64 1]) ∧ Below w.heap.size w w' := by
  go_enter Try.func24, Try.ntmps24
  go_wp2_with fail
  refine (behind_no _ h _).mono ?_
  rintro e w' ⟨rfl, rfl⟩
  go_wp2_with fail
  go_ret2
  exact ⟨rfl, Below.refl _ _⟩
theorem Div_zero (a n : Int) (w : World) :
    Calls Try.prog 24 #[.int .i64 a, .int .i64 0, .int .i64 n] w fun e w' => e = .returned (.tuple #[.int .i64 0, .int .i64 1]) ∧ Below w.heap.size w w' := by
  by_cases h : n < 0 ∨ 30 < n
  · exact Div_bad a 0 n h w
  · go_enter Try.func24, Try.ntmps24
    go_wp2_with fail
    refine (behind_yes _ (by omega) (by omega) _).mono ?_
    rintro e w' ⟨rfl, rfl⟩
    go_wp2_with fail
    go_ret2
    exact ⟨rfl, Below.refl _ _⟩
theorem fix_Quot (a b : Int) (ha : I64 a) (hb : I64 b) (h0 : b ≠ 0) (w : World) :
    Calls Try.prog 26 #[.int .i64 a, .int .i64 b] w fun e w' => e = .returned (.tuple #[.int .i64 (ckV (quoF a b)), .int .i64 (ckE (quoF a b))]) ∧ Below w.heap.size w w' := by
  have h := fun W => fix_Div a b 0 (by omega) ha hb h0 W
  simp only [Int.pow_zero, Int.mul_one, Int.natCast_zero] at h
  have H := hid h
  clear h
  go_enter Try.func26, Try.ntmps26
  go_wp2_with fail
  refine (H.out _).mono ?_
  rintro e w1 ⟨rfl, hb1⟩
  go_wp2_with fail
  go_ret2
  exact ⟨rfl, hb1⟩
theorem Quot_zero (a : Int) (w : World) :
    Calls Try.prog 26 #[.int .i64 a, .int .i64 0] w fun e w' => e = .returned (.tuple #[.int .i64 0, .int .i64 1]) ∧ Below w.heap.size w w' := by
  go_enter Try.func26, Try.ntmps26
  go_wp2_with fail
  refine (Div_zero a 0 _).mono ?_
  rintro e w1 ⟨rfl, hb1⟩
  go_wp2_with fail
  go_ret2
  exact ⟨rfl, hb1⟩
theorem fix_Shift (a : Int) (k : Nat) (hk : k ≤ 62) (ha : I64 a) (w : World) :
    Calls Try.prog 28 #[.int .i64 a, .int .i64 k] w fun e w' => e = .returned (.tuple #[.int .i64 (a / 2 ^ k), .int .i64 0]) ∧ w = w' := by
  go_enter Try.func28, Try.ntmps28
  go_wp2
  go_ret2
  exact ⟨rfl, rfl⟩
theorem Shift_bad (a n : Int) (h : n < 0 ∨ 62 < n) (w : World) :
    Calls Try.prog 28 #[.int .i64 a, .int .i64 n] w fun e w' => e = .returned (.tuple #[.int .i64 0, .int .i64 1]) ∧ w = w' := by
  by_cases h1 : n < 0
  · clear h
    go_enter Try.func28, Try.ntmps28
    go_wp2
    go_ret2
    exact ⟨rfl, rfl⟩
  · have h2 : 62 < n := by omega
    clear h
    go_enter Try.func28, Try.ntmps28
    go_wp2
    go_ret2
    exact ⟨rfl, rfl⟩
/-- The chapter's examples. -/
theorem live_yes (w : World) :
    Calls Try.prog 11 #[] w fun e w' => e = .returned (.bool true) ∧ Below w.heap.size w w' := by
  have h1 := fun W => fix_Mul (-3) 1 1 (by decide) (by decide) (by decide) W
  have h2 := fun W => fix_Quot (-7) 2 (by decide) (by decide) (by decide) W
  have h3 := fun W => fix_Div 1 3 4 (by decide) (by decide) (by decide) (by decide) W
  rw [show ckV (-3 * 1 / 2 ^ 1) = -2 by decide, show ckE (-3 * 1 / 2 ^ 1) = 0 by decide] at h1
  rw [show ckV (quoF (-7) 2) = -4 by decide, show ckE (quoF (-7) 2) = 0 by decide] at h2
  rw [show ckV (quoF (1 * 2 ^ 4) 3) = 5 by decide, show ckE (quoF (1 * 2 ^ 4) 3) = 0 by decide] at h3
  have H1 := hid h1
  have H2 := hid h2
  have H3 := hid h3
  clear h1 h2 h3
  go_enter Try.func11, Try.ntmps11
  go_wp2_with fail
  refine (H1.out _).mono ?_
  rintro e w1 ⟨rfl, hb1⟩
  go_wp2_with fail
  refine (H2.out _).mono ?_
  rintro e w2 ⟨rfl, hb2⟩
  go_wp2_with fail
  refine (H3.out _).mono ?_
  rintro e w3 ⟨rfl, hb3⟩
  go_wp2_with fail
  go_ret
  exact ⟨rfl, (hb1.trans (hb2.mono hb1.size)).trans (hb3.mono (Nat.le_trans hb1.size hb2.size))⟩
end Go.Proofs.Ytbfpdafncicgnaa
