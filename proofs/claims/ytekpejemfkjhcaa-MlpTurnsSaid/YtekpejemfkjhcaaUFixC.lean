
/- UFixC: texts joined: FixC. -/
import Derived.Test.YtekpejemfkjhcaaUb
import Derived.Test.YtekpejemfkjhcaaUOver
namespace Go.Proofs.Ytekpejemfkjhcaa
open Go.RowKit
set_option maxHeartbeats 400000
set_option maxRecDepth 100000
set_option linter.unusedVariables false
theorem Div_pos (a b : Int) (k : Nat) (hk : k ≤ 30) (ha : I64 a) (hb : I64 b) (h0 : 0 < b) (w : World) :
    Calls Try.prog 72 #[.int .i64 a, .int .i64 b, .int .i64 k] w fun e w' => e = .returned (.tuple #[.int .i64 (ckV (quoF (a * 2 ^ k) b)), .int .i64 (ckE (quoF (a * 2 ^ k) b))]) ∧ Below w.heap.size w w' := by
  have hp := i64_pow hk
  have p1 := hp.2.1
  have p2 := hp.2.2
  have b1 := hb.1
  have b2 := hb.2
  have k1 : (b == 0) = false := by simp; omega
  have e1 : quoF (a * 2 ^ k) b = a * 2 ^ k / b := by unfold quoF; rw [if_neg (by omega)]
  have i1 := i128_mul ha hp.1
  rw [e1]
  clear e1
  go_enter Try.func72, Try.ntmps72
  go_wp2_with fail
  refine (behind_yes _ (by omega) (by omega) _).mono ?_
  rintro e w' ⟨rfl, rfl⟩
  go_wp2_with fail
  refine (fix_times _ _ ha hp.1 _).mono ?_
  rintro e w1 ⟨rfl, hb1⟩
  go_wp2_with fail
  refine (fix_over _ b i1 (by omega) (by omega) _).mono ?_
  rintro e w2 ⟨rfl, hb2⟩
  go_wp2_with fail
  refine (fix_number _ (i128_div i1 (by omega)) _).mono ?_
  rintro e w3 ⟨rfl, hb3⟩
  go_wp2_with fail
  go_ret2
  exact ⟨rfl, (hb1.trans (hb2.mono hb1.size)).trans (hb3.mono (Nat.le_trans hb1.size hb2.size))⟩
theorem Div_neg (a b : Int) (k : Nat) (hk : k ≤ 30) (ha : I64 a) (hb : I64 b) (h0 : b < 0) (w : World) :
    Calls Try.prog 72 #[.int .i64 a, .int .i64 b, .int .i64 k] w fun e w' => e = .returned (.tuple #[.int .i64 (ckV (quoF (a * 2 ^ k) b)), .int .i64 (ckE (quoF (a * 2 ^ k) b))]) ∧ Below w.heap.size w w' := by
  have hp := i64_pow hk
  have p1 := hp.2.1
  have p2 := hp.2.2
  have b1 := hb.1
  have b2 := hb.2
  have k1 : (b == 0) = false := by simp; omega
  have e1 : quoF (a * 2 ^ k) b = a * -(2 ^ k) / (-b) := by unfold quoF; rw [if_pos (by omega), Int.mul_neg]
  have hq : I64 (-(2 ^ k)) := by unfold I64; omega
  have i1 := i128_mul ha hq
  have u1 : IntKind.u64.wrap b = b + 18446744073709551616 := by rw [IntKind.wrap_u64]; omega
  have u2 : IntKind.u64.wrap (-(b + 18446744073709551616)) = -b := by rw [IntKind.wrap_u64]; omega
  have ov := fun W => fix_over _ (-b) i1 (by omega) (by omega) W
  have i2 := i128_div i1 (show 1 ≤ -b by omega)
  rw [e1]
  clear e1
  obtain ⟨q, hqq⟩ : ∃ q, a * -(2 ^ k) / (-b) = q := ⟨_, rfl⟩
  obtain ⟨d, hdd⟩ : ∃ d, -b = d := ⟨_, rfl⟩
  rw [hqq] at i2 ov ⊢
  rw [hdd] at u2 ov
  have OV := hid ov
  clear ov hqq hdd
  go_enter Try.func72, Try.ntmps72
  go_wp2_with fail
  refine (behind_yes _ (by omega) (by omega) _).mono ?_
  rintro e w' ⟨rfl, rfl⟩
  go_wp2_with fail
  refine (fix_times _ _ ha hq _).mono ?_
  rintro e w1 ⟨rfl, hb1⟩
  go_wp2_with fail
  refine (OV.out _).mono ?_
  rintro e w2 ⟨rfl, hb2⟩
  go_wp2_with fail
  refine (fix_number q i2 _).mono ?_
  rintro e w3 ⟨rfl, hb3⟩
  go_wp2_with fail
  go_ret2
  exact ⟨rfl, (hb1.trans (hb2.mono hb1.size)).trans (hb3.mono (Nat.le_trans hb1.size hb2.size))⟩
theorem fix_Div (a b : Int) (k : Nat) (hk : k ≤ 30) (ha : I64 a) (hb : I64 b) (h0 : b ≠ 0) (w : World) :
    Calls Try.prog 72 #[.int .i64 a, .int .i64 b, .int .i64 k] w fun e w' => e = .returned (.tuple #[.int .i64 (ckV (quoF (a * 2 ^ k) b)), .int .i64 (ckE (quoF (a * 2 ^ k) b))]) ∧ Below w.heap.size w w' := by
  by_cases h : 0 < b
  · exact Div_pos a b k hk ha hb h w
  · exact Div_neg a b k hk ha hb (by omega) w
theorem fix_Quot (a b : Int) (ha : I64 a) (hb : I64 b) (h0 : b ≠ 0) (w : World) :
    Calls Try.prog 56 #[.int .i64 a, .int .i64 b] w fun e w' => e = .returned (.tuple #[.int .i64 (ckV (quoF a b)), .int .i64 (ckE (quoF a b))]) ∧ Below w.heap.size w w' := by
  have h := fun W => fix_Div a b 0 (by omega) ha hb h0 W
  simp only [Int.pow_zero, Int.mul_one, Int.natCast_zero] at h
  have H := hid h
  clear h
  go_enter Try.func56, Try.ntmps56
  go_wp2_with fail
  refine (H.out _).mono ?_
  rintro e w1 ⟨rfl, hb1⟩
  go_wp2_with fail
  go_ret2
  exact ⟨rfl, hb1⟩
end Go.Proofs.Ytekpejemfkjhcaa
