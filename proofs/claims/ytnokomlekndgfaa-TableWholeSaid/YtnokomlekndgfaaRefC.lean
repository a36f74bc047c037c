
import Derived.Test.YtnokomlekndgfaaRefB
import Derived.Test.YtnokomlekndgfaaOvMath
namespace Go.Proofs.Ytnokomlekndgfaa
open Go.RowKit
set_option maxHeartbeats 1000000
set_option maxRecDepth 100000
set_option linter.unusedVariables false
theorem and63 (i : Nat) (h : i < 128) : bits BinOp.and IntKind.i64 (i : Int) 63 = ((i % 64 : Nat) : Int) := by
  show IntKind.i64.wrap ((BitVec.ofInt 64 (i : Int) &&& BitVec.ofInt 64 63).toNat : Int) = _
  rw [BitVec.toNat_and, show (BitVec.ofInt 64 63).toNat = 2 ^ 6 - 1 from rfl, Nat.and_two_pow_sub_one_eq_mod, BitVec.toNat_ofInt, IntKind.wrap_i64]
  omega
theorem and1 (x : Int) (h : U64 x) : bits BinOp.and IntKind.u64 x 1 = x % 2 :=
  bits_mask .u64 64 (by decide) (fun n h0 h1 => by rw [IntKind.wrap_u64]; omega) 1 (by decide) x h.1 (by have := h.2; omega)
theorem or_bit (x b : Int) (hb : 0 ≤ b ∧ b ≤ 1) : bits BinOp.or IntKind.u64 (IntKind.u64.wrap (x * 2)) b = IntKind.u64.wrap (x * 2 + b) := by
  rw [IntKind.wrap_u64, IntKind.wrap_u64, bits_join .u64 64 (by decide) (fun n h0 h1 => by rw [IntKind.wrap_u64]; omega) 1 _ _ (by omega) (by omega) (by omega) (by omega) (by omega) (by omega)]
  omega
theorem shr_u64 {x : Int} (h : U64 x) (k : Nat) : U64 (x / 2 ^ k) := by
  have hp : (0 : Int) < 2 ^ k := Int.pow_pos (by decide)
  have := Int.ediv_le_self (2 ^ k) h.1
  unfold U64 at *
  exact ⟨Int.ediv_nonneg h.1 (Int.le_of_lt hp), by omega⟩
theorem bit_high (h l : Int) (hl : U64 l) {n : Nat} (hn : 64 ≤ n) (hn' : n < 128) : (h * 18446744073709551616 + l) / 2 ^ n % 2 = h / 2 ^ (n % 64) % 2 := by
  have e : (2 : Int) ^ n = 18446744073709551616 * 2 ^ (n % 64) := by
    rw [show (18446744073709551616 : Int) = 2 ^ 64 by rfl, ← Int.pow_add, show 64 + n % 64 = n by omega]
  rw [e, ← Int.ediv_ediv_of_nonneg (by decide)]
  unfold U64 at hl
  rw [show (h * 18446744073709551616 + l) / 18446744073709551616 = h by omega]
theorem bit_low (h l : Int) {n : Nat} (hn : n < 64) : (h * 18446744073709551616 + l) / 2 ^ n % 2 = l / 2 ^ (n % 64) % 2 := by
  have hp : (0 : Int) < 2 ^ n := Int.pow_pos (by decide)
  have e : (18446744073709551616 : Int) = 2 ^ (63 - n) * 2 * 2 ^ n := by
    rw [← Int.pow_succ, ← Int.pow_add, show 63 - n + 1 + n = 64 by omega]; rfl
  rw [show n % 64 = n by omega, e, ← Int.mul_assoc, Int.add_comm, Int.add_mul_ediv_right _ _ (by omega), ← Int.mul_assoc]
  omega
theorem top_bit {left : Int} (h : U64 left) : ((left / 9223372036854775808 == 1) = true ∧ 9223372036854775808 ≤ left) ∨ ((left / 9223372036854775808 == 1) = false ∧ left < 9223372036854775808) := by
  unfold U64 at h
  rcases Int.lt_or_le left 9223372036854775808 with c | c
  · right; exact ⟨by simp; omega, c⟩
  · left; exact ⟨by simp; omega, c⟩
theorem nat_back (n : Nat) : ((n : Int) - 1 + 1).toNat = n := by omega
theorem or_zero {q : Int} (h : U64 q) : bits BinOp.or IntKind.u64 q 0 = q := by
  have := bits_join .u64 64 (by decide) (fun n h0 h1 => by rw [IntKind.wrap_u64]; omega) 0 q 0 h.1 (by omega) (by have := h.2; omega) (by decide) (by decide) (by decide)
  omega
def OverPost (h l y : Int) (w : World) (e : Ending) (w' : World) : Prop := ∃ q r f, e = .returned (.tuple #[.int .u64 q, .int .u64 r, .bool f]) ∧ OvR h l y 0 r q f ∧ w = w'
theorem ref_over (h l y : Int) (hh : U64 h) (hl : U64 l) (hy : U64 y) (hy1 : 1 ≤ y) (w : World) :
    Calls Try.prog 41 #[.int .u64 h, .int .u64 l, .int .u64 y] w (OverPost h l y w) := by
  go_enter Try.func41, Try.ntmps41
  go_wp2_with fail
  go_loop [9, 10, 11, 12] (fun a b c d => ∃ q left f, ∃ i : Int, a = .int .u64 q ∧ b = .int .u64 left ∧ c = .bool f ∧ d = .int .i64 i ∧ -1 ≤ i ∧ i ≤ 127 ∧ OvR h l y (i + 1).toNat left q f) (fun _ _ _ d => (intOf d + 1).toNat)
  case atStart => exact ⟨_, _, _, _, rfl, rfl, rfl, rfl, by decide, by decide, ov_start hh hl hy1⟩
  case round =>
    obtain ⟨q, left, f, i, rfl, rfl, rfl, rfl, hi0, hi1, hr⟩ := hrel
    by_cases hlt : 0 ≤ i
    · obtain ⟨n, rfl⟩ := Int.eq_ofNat_of_zero_le hlt
      have hr' : OvR h l y (n + 1) left q f := hr
      have a63 := and63 n (by omega)
      have ah := and1 _ (shr_u64 hh (n % 64))
      have al := and1 _ (shr_u64 hl (n % 64))
      obtain ⟨bh, hbh⟩ : ∃ b, h / 2 ^ (n % 64) % 2 = b := ⟨_, rfl⟩
      obtain ⟨bl, hbl⟩ : ∃ b, l / 2 ^ (n % 64) % 2 = b := ⟨_, rfl⟩
      rw [hbh] at ah
      rw [hbl] at al
      have orh := or_bit left bh (by omega)
      have orl := or_bit left bl (by omega)
      have lq := hr'.q0
      have lb0 : 0 ≤ left ∧ left < y := by rw [hr'.left]; exact ⟨Int.emod_nonneg _ (by omega), Int.emod_lt_of_pos _ (by omega)⟩
      have ub := hy.2
      have tb := top_bit (left := left) ⟨lb0.1, by omega⟩
      have b1 : 0 ≤ bh ∧ bh ≤ 1 := by omega
      have b2 : 0 ≤ bl ∧ bl ≤ 1 := by omega
      by_cases h64 : 64 ≤ n
      · have st := ov_high hh hl hy1 h64 hr' bh (((bit_high h l hl h64 (by omega))).trans hbh)
        have ST := hid st
        have HL := hid (And.intro hr'.left hr'.q0)
        clear st hr hr' 
        have HB := hid (And.intro hbh hbl)
        clear hbh hbl
        rcases tb with ⟨t1, t2⟩ | ⟨t1, t2⟩
        · have wr : IntKind.u64.wrap (IntKind.u64.wrap (left * 2 + bh) - y) = 2 * left + bh - y := by rw [IntKind.wrap_u64, IntKind.wrap_u64]; omega
          go_wp2
          go_round
          case rel => exact ⟨_, _, _, _, rfl, rfl, rfl, rfl, by omega, by omega, by rw [nat_back]; exact ST.out.1 (by omega)⟩
          case measure => first | (simp [intOf]; done) | (simp [intOf]; omega)
        · have wr : bits BinOp.or IntKind.u64 (left * 2) bh = 2 * left + bh := by
            rw [show IntKind.u64.wrap (left * 2) = left * 2 by rw [IntKind.wrap_u64]; omega] at orh
            rw [orh, IntKind.wrap_u64]
            omega
          clear orh
          by_cases hc : y ≤ 2 * left + bh
          · go_wp2
            go_round
            case rel => exact ⟨_, _, _, _, rfl, rfl, rfl, rfl, by omega, by omega, by rw [nat_back]; exact ST.out.1 hc⟩
            case measure => first | (simp [intOf]; done) | (simp [intOf]; omega)
          · go_wp2
            go_round
            case rel => exact ⟨_, _, _, _, rfl, rfl, rfl, rfl, by omega, by omega, by rw [nat_back]; exact ST.out.2 (by omega)⟩
            case measure => first | (simp [intOf]; done) | (simp [intOf]; omega)
      · have h64 : n < 64 := by omega
        have p1 : (1 : Int) ≤ 2 ^ n := by
          have : (0 : Int) < 2 ^ n := Int.pow_pos (by decide)
          omega
        have p2 : (2 : Int) ^ n ≤ 9223372036854775808 := by
          have hx : 2 ^ n ≤ 2 ^ 63 := Nat.pow_le_pow_right (show 0 < 2 by decide) (show n ≤ 63 by omega)
          have h2 : ((2 ^ n : Nat) : Int) ≤ ((2 ^ 63 : Nat) : Int) := Int.ofNat_le.2 hx
          rw [Int.natCast_pow] at h2
          exact h2
        have q0 : bits BinOp.or IntKind.u64 q 0 = q := or_zero lq
        have st := ov_low hh hl hy1 h64 hr' bl (((bit_low h l h64)).trans hbl)
        have ST := hid st
        have HL := hid (And.intro hr'.left hr'.q0)
        clear st hr hr' 
        have HB := hid (And.intro hbh hbl)
        clear hbh hbl
        rcases tb with ⟨t1, t2⟩ | ⟨t1, t2⟩
        · have wr : IntKind.u64.wrap (IntKind.u64.wrap (left * 2 + bl) - y) = 2 * left + bl - y := by rw [IntKind.wrap_u64, IntKind.wrap_u64]; omega
          go_wp2
          go_round
          case rel => exact ⟨_, _, _, _, rfl, rfl, rfl, rfl, by omega, by omega, by rw [nat_back]; exact ST.out.1 (by omega)⟩
          case measure => first | (simp [intOf]; done) | (simp [intOf]; omega)
        · have wr : bits BinOp.or IntKind.u64 (left * 2) bl = 2 * left + bl := by
            rw [show IntKind.u64.wrap (left * 2) = left * 2 by rw [IntKind.wrap_u64]; omega] at orl
            rw [orl, IntKind.wrap_u64]
            omega
          clear orl
          by_cases hc : y ≤ 2 * left + bl
          · go_wp2
            go_round
            case rel => exact ⟨_, _, _, _, rfl, rfl, rfl, rfl, by omega, by omega, by rw [nat_back]; exact ST.out.1 hc⟩
            case measure => first | (simp [intOf]; done) | (simp [intOf]; omega)
          · go_wp2
            go_round
            case rel => exact ⟨_, _, _, _, rfl, rfl, rfl, rfl, by omega, by omega, by rw [nat_back]; exact ST.out.2 (by omega)⟩
            case measure => first | (simp [intOf]; done) | (simp [intOf]; omega)
    · obtain rfl : i = -1 := by omega
      go_wp2
      go_ret3
      exact ⟨q, left, f, rfl, hr, rfl⟩
end Go.Proofs.Ytnokomlekndgfaa
