
/- Roots by the program: a fraction's root, put right. -/
import Derived.Test.YtnokomlekndgfaaTbF
import Derived.Test.YtnokomlekndgfaaWd
import Derived.Laws.Externs
namespace Go.Proofs.Ytnokomlekndgfaa
open Go.RowKit
set_option maxHeartbeats 1000000
set_option maxRecDepth 100000
set_option linter.unusedVariables false
theorem root_bits {n : Nat} (hn : n < 18446744073709551616) :
    ∃ s m : Nat, FloatKind.f64.format.sqrt (floatOfInt .f64 (n : Int)) = some s ∧ floatToIntVal .f64 s .u64 = some (m : Int) ∧ m < 9007199254740992 ∧ rootN n ≤ m + 1 := by
  obtain ⟨s, m, h1, h2, h3, h4⟩ := frac_root hn
  refine ⟨s, m, ?_, ?_, h3, h4⟩
  · have e : floatOfInt .f64 (n : Int) = Ieee.double.nearest false n 0 := by
      unfold floatOfInt FloatKind.nearest FloatKind.encode
      have : decide ((n : Int) < 0) = false := by simp
      rw [this]
      rfl
    rw [e]
    exact h1
  · unfold floatToIntVal
    have e : (FloatKind.f64.decode s).toInt .zero = some (m : Int) := h2
    rw [e]
    have e1 : IntKind.u64.min = 0 := by decide
    have e2 : IntKind.u64.max = 18446744073709551615 := by decide
    rw [e1, e2]
    exact if_pos ⟨by omega, by omega⟩
theorem run_sqrt {P : Program} (x r : Nat) (h : FloatKind.f64.format.sqrt x = some r) (w : World) : (Extern.MathSqrt.sqrt #[.float .f64 x]).run P w = .ok (.float .f64 r) w := by
  have e : Extern.MathSqrt.sqrt #[.float .f64 x] = (match FloatKind.f64.format.sqrt x with | some r => pure (.float .f64 r) | none => do pure (.float .f64 (← choose (.nanBits .f64 x x)))) := rfl
  rw [e, h]
  rfl
theorem call_sqrt (x r : Nat) (h : FloatKind.f64.format.sqrt x = some r) (w : World) : (callFunc 35 #[.float .f64 x]).run Try.prog w = .ok (.value (.float .f64 r)) w := by
  rw [run_callFunc_extern (P := Try.prog) (f := 35) (fn := Try.f35) (e := Extern.MathSqrt.sqrt) Try.func35 (by kernel_rfl) (by kernel_rfl) (by kernel_rfl) (by kernel_rfl), run_sqrt x r h w]
  rfl
theorem ma_Sqrt (x r : Nat) (h : FloatKind.f64.format.sqrt x = some r) (w : World) : Calls Try.prog 27 #[.float .f64 x] w fun e w' => e = .returned (.float .f64 r) ∧ w = w' := by
  have hc := fun w => call_sqrt x r h w
  clear h
  go_enter Try.func27, Try.ntmps27
  go_wp2_with (simp only [hc])
  all_goals (go_ret; exact ⟨rfl, rfl⟩)
theorem tb_Root (n : Nat) (hn : n < 18446744073709551616) (w : World) :
    Calls Try.prog 13 #[.int .u64 (n : Int)] w fun e w' => e = .returned (.int .u64 (rootN n : Int)) ∧ w = w' := by
  obtain ⟨s, m, h1, h2, h3, h4⟩ := root_bits hn
  obtain ⟨r1, r2, r3⟩ := rootN_ok hn
  obtain ⟨R, hR⟩ : ∃ R, rootN n = R := ⟨_, rfl⟩
  rw [hR] at r1 r2 r3 h4 ⊢
  obtain ⟨b, hb⟩ : ∃ b, floatOfInt .f64 (n : Int) = b := ⟨_, rfl⟩
  rw [hb] at h1
  have hc : ∀ w, (convert 48 22 (.float .f64 s)).run Try.prog w = .ok (.int .u64 (m : Int)) w := fun w => run_convert_float_int w 48 22 .f64 .u64 s m (by rw [Try.underlying48]; rfl) Try.underlying22 h2
  have H1 := hid h1
  obtain ⟨p, q2, p1, p2⟩ : ∃ p : Nat, (if (4294967295 : Int) < (m : Int) + 1 then (4294967295 : Int) else (m : Int) + 1) = (p : Int) ∧ R ≤ p ∧ p ≤ 4294967295 := by
    by_cases h : ¬ (4294967295 : Int) < (m : Int) + 1
    · exact ⟨m + 1, by rw [if_neg h]; rfl, h4, by omega⟩
    · exact ⟨4294967295, by rw [if_pos (by omega)]; rfl, by omega, by omega⟩
  have q1 : IntKind.u64.wrap ((m : Int) + 1) = (m : Int) + 1 := by rw [IntKind.wrap_u64]; omega
  have hmn : ∀ ts t (w : World), (Builtin.min_ ts t #[.int .u64 ((m : Int) + 1), .int .u64 4294967295]).run Try.prog w = .ok (.int .u64 (p : Int)) w := fun ts t w => by rw [run_min_int2, q2]
  have HP : Hid (R ≤ p ∧ p ≤ 4294967295) := hid ⟨p1, p2⟩
  have HR : Hid (R * R ≤ n ∧ n < (R + 1) * (R + 1)) := hid ⟨r1, r2⟩
  clear h1 h2 h4 hR r1 r2 p1 p2 q2
  go_enter Try.func13, Try.ntmps13
  go_wp2_with fail
  refine (ma_Sqrt _ _ H1.out _).mono ?_
  rintro _ w1 ⟨rfl, rfl⟩
  go_wp2_with fail
  go_loop [3] (fun xr => ∃ r : Nat, xr = .int .u64 (r : Int) ∧ R ≤ r ∧ r ≤ 4294967295) (fun xr => (intOf xr).toNat)
  case atStart => exact ⟨p, rfl, HP.out.1, HP.out.2⟩
  case round =>
    obtain ⟨r, rfl, a1, a2⟩ := hrel
    have hZ2 : r * r ≤ 4294967295 * 4294967295 := Nat.mul_le_mul a2 a2
    obtain ⟨Z, hZ⟩ : ∃ Z : Nat, r * r = Z := ⟨_, rfl⟩
    have q3 : IntKind.u64.wrap ((r : Int) * (r : Int)) = (Z : Int) := by
      rw [show (r : Int) * (r : Int) = ((r * r : Nat) : Int) by simp, hZ, IntKind.wrap_u64]; omega
    by_cases hlt : Z > n
    · have hgt : (Z : Int) > (n : Int) := by omega
      have a3 : R + 1 ≤ r := by
        rcases Nat.lt_or_ge R r with h | h
        · exact h
        · have : R = r := by omega
          have := HR.out.1
          subst R
          omega
      have q4 : IntKind.u64.wrap ((r : Int) - 1) = ((r - 1 : Nat) : Int) := by rw [IntKind.wrap_u64]; omega
      have HA := hid a3
      clear hZ hZ2 hlt a3
      go_wp2_with fail
      go_round
      case rel => exact ⟨r - 1, rfl, by have := HA.out; omega, by omega⟩
      case measure => have := HA.out; simp [intOf]; omega
    · have hgt : ¬ (Z : Int) > (n : Int) := by omega
      have a3 : r = R := by
        rcases Nat.lt_or_ge R r with h | h
        · have h5 := Nat.mul_le_mul (show R + 1 ≤ r from h) (show R + 1 ≤ r from h)
          have := HR.out.2
          omega
        · omega
      subst a3
      clear hZ hZ2 hlt
      go_wp2_with fail
      go_ret
      exact ⟨rfl, rfl⟩
end Go.Proofs.Ytnokomlekndgfaa
