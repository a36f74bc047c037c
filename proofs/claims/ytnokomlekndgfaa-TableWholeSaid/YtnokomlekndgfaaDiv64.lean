
import Derived.Test.YtnokomlekndgfaaFixB
import Derived.Test.YtnokomlekndgfaaNorm

import Derived.Deep.QuietTactic
import Derived.BigQuiet
import Derived.Deep.CutRange
import Derived.Deep.CutBlock
import Derived.Lib.BitFns
import Derived.Lib.ItoaNum
namespace Go.Proofs.Ytnokomlekndgfaa
open Go.RowKit
set_option maxHeartbeats 400000
set_option maxRecDepth 100000
set_option linter.unusedVariables false
theorem lead (y : Int) (h0 : 1 ≤ y) (h1 : y ≤ 18446744073709551615) (w : World) :
    Calls Try.prog 54 #[.int .u64 y] w fun e w' => ∃ s : Nat, e = .returned (.int .i64 s) ∧ s ≤ 63 ∧ 9223372036854775808 ≤ y * 2 ^ s ∧ y * 2 ^ s ≤ 18446744073709551615 ∧ w = w' := by
  refine (Try.bits_LeadingZeros64 y w (by omega) h1).mono ?_
  rintro e w' ⟨rfl, rfl⟩
  obtain ⟨n, rfl⟩ := Int.eq_ofNat_of_zero_le (show 0 ≤ y by omega)
  have hb := Lib.bitLenAux_bounds 64 n (by omega) (by omega)
  change 1 ≤ Lib.bitLen n ∧ 2 ^ (Lib.bitLen n - 1) ≤ n ∧ n < 2 ^ Lib.bitLen n at hb
  have hle : Lib.bitLen n ≤ 64 := by
    rcases Nat.lt_or_ge 64 (Lib.bitLen n) with h | h
    · have := Nat.pow_le_pow_right (show 0 < 2 by decide) (show 64 ≤ Lib.bitLen n - 1 by omega)
      omega
    · exact h
  have p1 : n * 2 ^ (64 - Lib.bitLen n) < 18446744073709551616 := by
    have e : 2 ^ Lib.bitLen n * 2 ^ (64 - Lib.bitLen n) = 18446744073709551616 := by rw [← Nat.pow_add, show Lib.bitLen n + (64 - Lib.bitLen n) = 64 by omega]
    rw [← e]
    exact Nat.mul_lt_mul_of_pos_right hb.2.2 (Nat.two_pow_pos _)
  have p2 : 9223372036854775808 ≤ n * 2 ^ (64 - Lib.bitLen n) := by
    have e : 2 ^ (Lib.bitLen n - 1) * 2 ^ (64 - Lib.bitLen n) = 9223372036854775808 := by rw [← Nat.pow_add, show Lib.bitLen n - 1 + (64 - Lib.bitLen n) = 63 by omega]
    rw [← e]
    exact Nat.mul_le_mul_right _ hb.2.1
  have c1 : ((n : Int) * 2 ^ (64 - Lib.bitLen n)) = ((n * 2 ^ (64 - Lib.bitLen n) : Nat) : Int) := by simp
  refine ⟨64 - Lib.bitLen n, ?_, by omega, by rw [c1]; omega, by rw [c1]; omega, rfl⟩
  congr 2
  simp only [Int.toNat_natCast]
  omega
theorem div64_low (l y : Int) (hl : U64 l) (hy : U64 y) (h0 : y ≠ 0) (w : World) :
    Calls Try.prog 52 #[.int .u64 0, .int .u64 l, .int .u64 y] w fun e w' => e = .returned (.tuple #[.int .u64 (l / y), .int .u64 (l % y)]) ∧ w.drew = w' := by
  unfold U64 at hl hy
  have hy1 : 1 ≤ y := by omega
  have k1 : (y == 0) = false := by simpa using h0
  have k2 : (decide (y ≤ 0)) = false := by simp; omega
  go_enter Try.func52, Try.ntmps52
  go_wp2
  go_region
  go_wp2
  go_ret2
  exact ⟨rfl, rfl⟩
theorem rem_of {u d1 d0 t1 Q1 D : Int} (n : Den u d1 d0 t1) (hQ : (u * 4294967296 + t1) / (d1 * 4294967296 + d0) = Q1) (hD : D = d1 * 4294967296 + d0) :
    IntKind.u64.wrap (IntKind.u64.wrap (IntKind.u64.wrap (u * 4294967296) + t1) - IntKind.u64.wrap (Q1 * D)) = u * 4294967296 + t1 - Q1 * D ∧ 0 ≤ u * 4294967296 + t1 - Q1 * D ∧ u * 4294967296 + t1 - Q1 * D < D := by
  obtain ⟨h1, h2, h3, h4, h5, h6, h7, h8⟩ := n
  rw [← hD] at hQ
  have e := Int.mul_ediv_add_emod (u * 4294967296 + t1) D
  have e1 := Int.emod_nonneg (u * 4294967296 + t1) (show D ≠ 0 by omega)
  have e2 := Int.emod_lt_of_pos (u * 4294967296 + t1) (show 0 < D by omega)
  rw [hQ, Int.mul_comm] at e
  generalize Q1 * D = p at *
  simp only [IntKind.wrap_u64]
  refine ⟨?_, by omega, by omega⟩
  omega
theorem high_end {h l y u t D d1 d0 t1 t0 Q1 Q0 r1 : Int} {s : Nat} (hs : s ≤ 63) (hy : 0 < y) (hD0 : 0 < D)
    (f : (h * 18446744073709551616 + l) * 2 ^ s = bits BinOp.or IntKind.u64 (IntKind.u64.wrap (h * 2 ^ s)) (l / 2 ^ (64 - s)) * 18446744073709551616 + IntKind.u64.wrap (l * 2 ^ s))
    (hu : bits BinOp.or IntKind.u64 (IntKind.u64.wrap (h * 2 ^ s)) (l / 2 ^ (64 - s)) = u) (ht : IntKind.u64.wrap (l * 2 ^ s) = t) (hD : y * 2 ^ s = D)
    (eD : D = d1 * 4294967296 + d0) (et : t = t1 * 4294967296 + t0) (hr1 : u * 4294967296 + t1 - Q1 * D = r1)
    (hr0 : IntKind.u64.wrap (IntKind.u64.wrap (IntKind.u64.wrap (r1 * 4294967296) + t0) - IntKind.u64.wrap (Q0 * D)) = r1 * 4294967296 + t0 - Q0 * D ∧ 0 ≤ r1 * 4294967296 + t0 - Q0 * D ∧ r1 * 4294967296 + t0 - Q0 * D < D) :
    Q1 * 4294967296 + Q0 = (h * 18446744073709551616 + l) / y ∧ IntKind.u64.wrap (IntKind.u64.wrap (IntKind.u64.wrap (r1 * 4294967296) + t0) - IntKind.u64.wrap (Q0 * D)) / 2 ^ s = (h * 18446744073709551616 + l) % y := by
  obtain ⟨a, b, c⟩ := hr0
  have two := two_digits (D := D) (t1 := u * 4294967296 + t1) (t0 := t0) (a1 := Q1) (a0 := Q0) (b := r1) (r := r1 * 4294967296 + t0 - Q0 * D) hD0 (by omega) (by omega) b c
  rw [hu, ht, et] at f
  have e : (u * 4294967296 + t1) * 4294967296 + t0 = (h * 18446744073709551616 + l) * 2 ^ s := by omega
  rw [e, ← hD] at two
  have q := quo_shift (U := h * 18446744073709551616 + l) (y := y) (p := 2 ^ s) (Int.pow_pos (by decide)) hy
  rw [q.1] at two
  refine ⟨two.1.symm, ?_⟩
  rw [a, ← hD, ← two.2]
  exact q.2
theorem div64_high (h l y : Int) (hl : U64 l) (hy : y ≤ 18446744073709551615) (h0 : 1 ≤ h) (h1 : h < y) (w : World) :
    Calls Try.prog 52 #[.int .u64 h, .int .u64 l, .int .u64 y] w fun e w' => e = .returned (.tuple #[.int .u64 ((h * 18446744073709551616 + l) / y), .int .u64 ((h * 18446744073709551616 + l) % y)]) ∧ w = w' := by
  have hy1 : 1 ≤ y := by omega
  have k1 : (y == 0) = false := by simp; omega
  have k2 : (decide (y ≤ h)) = false := by simp; omega
  have k3 : (h == 0) = false := by simp; omega
  go_enter Try.func52, Try.ntmps52
  go_wp2_with fail
  refine (lead y hy1 hy _).mono ?_
  rintro e w' ⟨s, rfl, hs1, hs2, hs3, rfl⟩
  have f1 := norm_u h l y s hs1 hl (by omega) h1 hs3
  have f2 := norm_sum h l s hs1
  have f3 := norm_lt h l y s hs1 hl h1
  have f4 : 0 ≤ h * 2 ^ s + l / 2 ^ (64 - s) := by rw [← f1, f1]; exact Int.add_nonneg (Int.mul_nonneg (by omega) (Int.le_of_lt (Int.pow_pos (by decide)))) (Int.ediv_nonneg hl.1 (Int.le_of_lt (Int.pow_pos (by decide))))
  rw [← f1] at f2 f3 f4
  have f5 := U64.wrap (l * 2 ^ s)
  obtain ⟨u, hu⟩ : ∃ u, bits BinOp.or IntKind.u64 (IntKind.u64.wrap (h * 2 ^ s)) (l / 2 ^ (64 - s)) = u := ⟨_, rfl⟩
  obtain ⟨t, ht⟩ : ∃ t, IntKind.u64.wrap (l * 2 ^ s) = t := ⟨_, rfl⟩
  have F := hid f2
  clear f1 f2
  rw [hu] at f3 f4
  rw [ht] at f5
  have P := hid (rfl : y * 2 ^ s = y * 2 ^ s)
  obtain ⟨D, hD⟩ : ∃ D, y * 2 ^ s = D := ⟨_, rfl⟩
  rw [hD] at hs2 hs3 f3
  have g1 := and_low D ⟨by omega, hs3⟩
  have g2 := and_low t f5
  obtain ⟨d1, hd1⟩ : ∃ d1, D / 4294967296 = d1 := ⟨_, rfl⟩
  obtain ⟨d0, hd0⟩ : ∃ d0, bits BinOp.and IntKind.u64 D 4294967295 = d0 := ⟨_, rfl⟩
  obtain ⟨t1, ht1⟩ : ∃ t1, t / 4294967296 = t1 := ⟨_, rfl⟩
  obtain ⟨t0, ht0⟩ : ∃ t0, bits BinOp.and IntKind.u64 t 4294967295 = t0 := ⟨_, rfl⟩
  have f6 := f5.1
  have f7 := f5.2
  rw [hd0] at g1
  rw [ht0] at g2
  have eD : D = d1 * 4294967296 + d0 := by omega
  have et : t = t1 * 4294967296 + t0 := by omega
  have b1 : 2147483648 ≤ d1 := by omega
  have b2 : d1 ≤ 4294967295 := by omega
  have b3 : 0 ≤ d0 := by omega
  have b4 : d0 ≤ 4294967295 := by omega
  have b5 : 0 ≤ t1 := by omega
  have b6 : t1 ≤ 4294967295 := by omega
  have b7 : 0 ≤ t0 := by omega
  have b8 : t0 ≤ 4294967295 := by omega
  have n : Den u d1 d0 t1 := ⟨b1, by omega, b3, by omega, f4, by omega, b5, by omega⟩
  have s0 := dig_start n
  have c1 : 0 ≤ u / d1 := s0.1.q0
  have c2 : u / d1 ≤ 4294967297 := s0.1.q1
  have c3 : 0 ≤ u / d1 * d1 := Int.mul_nonneg c1 (by omega)
  have c4 : u / d1 * d1 ≤ u := by have := s0.1.r0; omega
  have b9 : u ≤ 18446744073709551615 := by omega
  have S0 := hid s0
  have ED := hid eD
  have ET := hid et
  clear s0 eD et g1 g2 f3 f5
  go_upto_block 0 with (fail)
  have HU := hid hu
  have HT := hid ht
  have HD := hid hD
  clear hu ht hD hd1 hd0 ht1 ht0 k1 k2 k3 c1 c2 c3 c4
  obtain ⟨Q1, hQ1⟩ : ∃ Q1, (u * 4294967296 + t1) / (d1 * 4294967296 + d0) = Q1 := ⟨_, rfl⟩
  have q1a := dig_quo0 n
  have q1b := dig_quo1 n
  rw [hQ1] at q1a q1b
  have HQ1 := hid hQ1
  clear hQ1
  have QV : Hid (Value.int IntKind.u64 ((u * 4294967296 + t1) / (d1 * 4294967296 + d0)) = Value.int IntKind.u64 Q1) := by unfold Hid; rw [HQ1.out]
  go_cut [15, 16] from 67 to 85 (fun a _ wc => a = .int .u64 Q1 ∧ w = wc)
  case first =>
    go_wp2_with fail
    go_loop [15, 16] (fun a b => ∃ q r : Int, a = .int .u64 q ∧ b = .int .u64 r ∧ Dig u d1 d0 t1 q r ∧ r < 4294967296) (fun a b => (4294967296 - intOf b).toNat)
    case atStart => exact ⟨_, _, rfl, rfl, S0.out.1, S0.out.2⟩
    case round =>
      obtain ⟨q, r, rfl, rfl, hdig, hr⟩ := hrel
      have e1 := hdig.q0
      have e2 := hdig.q1
      have e3 := hdig.r0
      by_cases hc : 4294967296 ≤ q ∨ 4294967296 * r + t1 < q * d0
      · obtain ⟨x1, x2, x3⟩ := dig_step n hdig hc
        have y0 := x1.q0
        by_cases hq : 4294967296 ≤ q
        · clear hc
          by_cases hb : 4294967296 ≤ r + d1
          · go_wp2_with fail
            go_meet
            case rel => exact ⟨by rw [← dig_break n x1 x3 hb]; exact QV.out, rfl⟩
          · go_wp2_with fail
            go_round
            case rel => exact ⟨q - 1, r + d1, rfl, rfl, x1, by omega⟩
            case measure => simp [intOf]; omega
        · have hc' : 4294967296 * r + t1 < q * d0 := by omega
          have z0 : 0 ≤ q * d0 := Int.mul_nonneg e1 b3
          have z1 : q * d0 ≤ 18446744073709551615 := by
            have := Int.mul_le_mul (show q ≤ 4294967295 by omega) b4 b3 (by decide)
            omega
          clear hc
          by_cases hb : 4294967296 ≤ r + d1
          · go_wp2_with fail
            go_meet
            case rel => exact ⟨by rw [← dig_break n x1 x3 hb]; exact QV.out, rfl⟩
          · go_wp2_with fail
            go_round
            case rel => exact ⟨q - 1, r + d1, rfl, rfl, x1, by omega⟩
            case measure => simp [intOf]; omega
      · have hc1 : ¬ 4294967296 ≤ q := by omega
        have hc2 : ¬ 4294967296 * r + t1 < q * d0 := by omega
        have z0 : 0 ≤ q * d0 := Int.mul_nonneg e1 b3
        have z1 : q * d0 ≤ 18446744073709551615 := by
          have := Int.mul_le_mul (show q ≤ 4294967295 by omega) b4 b3 (by decide)
          omega
        have hz := dig_le n hdig (by omega)
        have HZ := hid hz
        clear hc hz
        go_wp2_with fail
        go_meet
        case rel => exact ⟨by rw [← HZ.out]; exact QV.out, rfl⟩
  case rest =>
    obtain ⟨rfl, rfl⟩ := hcut
    have r1e := rem_of n HQ1.out ED.out
    obtain ⟨r1, hr1⟩ : ∃ r1, u * 4294967296 + t1 - Q1 * D = r1 := ⟨_, rfl⟩
    rw [hr1] at r1e
    obtain ⟨r1w, r1a, r1b⟩ := r1e
    have R1 := hid hr1
    clear hr1
    have m : Den r1 d1 d0 t0 := ⟨b1, by omega, b3, by omega, r1a, by rw [← ED.out]; exact r1b, b7, by omega⟩
    have s1 := dig_start m
    have c1 : 0 ≤ r1 / d1 := s1.1.q0
    have c2 : r1 / d1 ≤ 4294967297 := s1.1.q1
    have c3 : 0 ≤ r1 / d1 * d1 := Int.mul_nonneg c1 (by omega)
    have c4 : r1 / d1 * d1 ≤ r1 := by have := s1.1.r0; omega
    have S1 := hid s1
    clear s1
    go_upto_block 2 with (fail)
    clear r1w c1 c2 c3 c4 QV
    obtain ⟨Q0, hQ0⟩ : ∃ Q0, (r1 * 4294967296 + t0) / (d1 * 4294967296 + d0) = Q0 := ⟨_, rfl⟩
    have q0a := dig_quo0 m
    have q0b := dig_quo1 m
    rw [hQ0] at q0a q0b
    have HQ0 := hid hQ0
    clear hQ0
    have QV : Hid (Value.int IntKind.u64 ((r1 * 4294967296 + t0) / (d1 * 4294967296 + d0)) = Value.int IntKind.u64 Q0) := by unfold Hid; rw [HQ0.out]
    go_cut [18, 16] from 102 to 120 (fun a _ wc => a = .int .u64 Q0 ∧ w = wc)
    case first =>
      go_wp2_with fail
      go_loop [18, 16] (fun a b => ∃ q r : Int, a = .int .u64 q ∧ b = .int .u64 r ∧ Dig r1 d1 d0 t0 q r ∧ r < 4294967296) (fun a b => (4294967296 - intOf b).toNat)
      case atStart => exact ⟨_, _, rfl, rfl, S1.out.1, S1.out.2⟩
      case round =>
        obtain ⟨q, r, rfl, rfl, hdig, hr⟩ := hrel
        have e1 := hdig.q0
        have e2 := hdig.q1
        have e3 := hdig.r0
        by_cases hc : 4294967296 ≤ q ∨ 4294967296 * r + t0 < q * d0
        · obtain ⟨x1, x2, x3⟩ := dig_step m hdig hc
          have y0 := x1.q0
          by_cases hq : 4294967296 ≤ q
          · clear hc
            by_cases hb : 4294967296 ≤ r + d1
            · go_wp2_with fail
              go_meet
              case rel => exact ⟨by rw [← dig_break m x1 x3 hb]; exact QV.out, rfl⟩
            · go_wp2_with fail
              go_round
              case rel => exact ⟨q - 1, r + d1, rfl, rfl, x1, by omega⟩
              case measure => simp [intOf]; omega
          · have hc' : 4294967296 * r + t0 < q * d0 := by omega
            have z0 : 0 ≤ q * d0 := Int.mul_nonneg e1 b3
            have z1 : q * d0 ≤ 18446744073709551615 := by
              have := Int.mul_le_mul (show q ≤ 4294967295 by omega) b4 b3 (by decide)
              omega
            clear hc
            by_cases hb : 4294967296 ≤ r + d1
            · go_wp2_with fail
              go_meet
              case rel => exact ⟨by rw [← dig_break m x1 x3 hb]; exact QV.out, rfl⟩
            · go_wp2_with fail
              go_round
              case rel => exact ⟨q - 1, r + d1, rfl, rfl, x1, by omega⟩
              case measure => simp [intOf]; omega
        · have hc1 : ¬ 4294967296 ≤ q := by omega
          have hc2 : ¬ 4294967296 * r + t0 < q * d0 := by omega
          have z0 : 0 ≤ q * d0 := Int.mul_nonneg e1 b3
          have z1 : q * d0 ≤ 18446744073709551615 := by
            have := Int.mul_le_mul (show q ≤ 4294967295 by omega) b4 b3 (by decide)
            omega
          have hz := dig_le m hdig (by omega)
          have HZ := hid hz
          clear hc hz
          go_wp2_with fail
          go_meet
          case rel => exact ⟨by rw [← HZ.out]; exact QV.out, rfl⟩
    case rest =>
      obtain ⟨rfl, rfl⟩ := hcut
      go_wp2_with fail
      have fin := high_end hs1 (show 0 < y by omega) (show 0 < D by omega) F.out HU.out HT.out HD.out ED.out ET.out R1.out (rem_of m HQ0.out ED.out)
      go_ret2
      exact ⟨ret2 fin.1 fin.2, rfl⟩
theorem div64 (h l y : Int) (hl : U64 l) (hy : y ≤ 18446744073709551615) (h0 : 0 ≤ h) (h1 : h < y) (w : World) :
    Calls Try.prog 52 #[.int .u64 h, .int .u64 l, .int .u64 y] w fun e w' => e = .returned (.tuple #[.int .u64 ((h * 18446744073709551616 + l) / y), .int .u64 ((h * 18446744073709551616 + l) % y)]) ∧ ∃ n, w.drewN n = w' := by
  by_cases hz : h = 0
  · subst hz
    refine (div64_low l y hl ⟨by omega, hy⟩ (by omega) w).mono ?_
    rintro e w' ⟨rfl, rfl⟩
    exact ⟨by simp only [Int.zero_mul, Int.zero_add], 1, rfl⟩
  · refine (div64_high h l y hl hy (by omega) h1 w).mono ?_
    rintro e w' ⟨rfl, rfl⟩
    exact ⟨rfl, 0, rfl⟩
end Go.Proofs.Ytnokomlekndgfaa
