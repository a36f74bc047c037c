
import Derived.Test.YtnokomlekndgfaaMul
import Derived.Test.YtnokomlekndgfaaNorm
namespace Go.Proofs.Ytnokomlekndgfaa
open Go.RowKit
set_option maxHeartbeats 400000
set_option maxRecDepth 100000
set_option linter.unusedVariables false
theorem absI_le {a : Int} (h : I64 a) : 0 ≤ absI a ∧ absI a ≤ 9223372036854775808 := by unfold I64 at h; unfold absI; split <;> omega
theorem ref_size (a : Int) (ha : I64 a) (w : World) :
    Calls Try.prog 40 #[.int .i64 a] w fun e w' => e = .returned (.int .u64 (absI a)) ∧ w = w' := by
  have h := ha
  unfold I64 at h
  by_cases hn : a < 0
  · have e1 : absI a = -a := if_pos hn
    rw [e1]
    clear e1
    go_enter Try.func40, Try.ntmps40
    go_wp2
    go_ret
    refine ⟨congrArg (fun z => Ending.returned (Value.int .u64 z)) ?_, rfl⟩
    show _ = -a
    first | rfl | omega | (rw [IntKind.wrap_u64]; omega)
  · have e1 : absI a = a := if_neg hn
    rw [e1]
    clear e1
    go_enter Try.func40, Try.ntmps40
    go_wp2
    go_ret
    exact ⟨rfl, rfl⟩
theorem half_bound {x y : Int} (hx0 : 0 ≤ x) (hx : x < 4294967296) (hy0 : 0 ≤ y) (hy : y < 4294967296) : 0 ≤ x * y ∧ x * y ≤ 18446744065119617025 := by
  refine ⟨Int.mul_nonneg hx0 hy0, ?_⟩
  have := Int.mul_le_mul (show x ≤ 4294967295 by omega) (show y ≤ 4294967295 by omega) hy0 (by decide)
  omega
theorem halves (ah al bh bl : Int) : (ah * 4294967296 + al) * (bh * 4294967296 + bl) = ah * bh * 18446744073709551616 + (ah * bl + al * bh) * 4294967296 + al * bl := by
  grind
theorem or_low (z y : Int) (hy0 : 0 ≤ y) (hy : y < 4294967296) : bits BinOp.or IntKind.u64 (IntKind.u64.wrap (z * 4294967296)) y = z * 4294967296 % 18446744073709551616 + y := by
  rw [IntKind.wrap_u64]
  exact bits_join .u64 64 (by decide) (fun n h0 h1 => by rw [IntKind.wrap_u64]; omega) 32 _ _ (by omega) (by omega) (by omega) hy0 hy (by omega)
/-- The parts of a product of halves. -/
theorem times_end (a b m1 m2 m3 p ph x y t : Int) (e : a * b = m3 * 18446744073709551616 + (m1 + m2) * 4294967296 + p) (h0 : 0 ≤ a * b) (h1 : a * b < 340282366920938463463374607431768211456)
    (hph : p / 4294967296 = ph) (hx : (m1 + ph) / 4294967296 = x) (hy : (m1 + ph) % 4294967296 = y) (ht : (m2 + y) / 4294967296 = t) :
    a * b / 18446744073709551616 = m3 + x + t ∧ a * b % 18446744073709551616 = (m2 + y) * 4294967296 % 18446744073709551616 + p % 4294967296 := by
  rw [e]
  omega
theorem times_core (a b ah al bh bl m1 m2 m3 p ph x y t lo u : Int) (hah : a / 4294967296 = ah) (hbh : b / 4294967296 = bh)
    (hal : bits BinOp.and IntKind.u64 a 4294967295 = al) (hbl : bits BinOp.and IntKind.u64 b 4294967295 = bl)
    (hp : al * bl = p) (hm1 : ah * bl = m1) (hm2 : al * bh = m2) (hm3 : ah * bh = m3) (hph : p / 4294967296 = ph)
    (hx : (m1 + ph) / 4294967296 = x) (hy : bits BinOp.and IntKind.u64 (m1 + ph) 4294967295 = y) (ht : (m2 + y) / 4294967296 = t)
    (hlo : bits BinOp.and IntKind.u64 p 4294967295 = lo) (hu : bits BinOp.or IntKind.u64 (IntKind.u64.wrap ((m2 + y) * 4294967296)) lo = u)
    (p0 : 0 ≤ p) (p1 : p ≤ 18446744065119617025) (m10 : 0 ≤ m1) (m11 : m1 ≤ 18446744065119617025) (m20 : 0 ≤ m2) (m21 : m2 ≤ 18446744065119617025) (m30 : 0 ≤ m3)
    (ph0 : 0 ≤ ph) (ph1 : ph < 4294967296) (x0 : 0 ≤ x) (t0 : 0 ≤ t) (y0 : 0 ≤ y) (y1 : y < 4294967296) (hs : m3 + x + t ≤ 18446744073709551615) (w : World) :
    Calls Try.prog 39 #[.int .u64 a, .int .u64 b] w fun e w' => e = .returned (.tuple #[.int .u64 (m3 + x + t), .int .u64 u]) ∧ w = w' := by
  go_enter Try.func39, Try.ntmps39
  go_wp2
  go_ret2
  exact ⟨rfl, rfl⟩
theorem ref_Times (a b : Int) (ha : U64 a) (hb : U64 b) (w : World) :
    Calls Try.prog 39 #[.int .u64 a, .int .u64 b] w fun e w' => e = .returned (.tuple #[.int .u64 (a * b / 18446744073709551616), .int .u64 (a * b % 18446744073709551616)]) ∧ w = w' := by
  have g1 := and_low a ha
  have g2 := and_low b hb
  have a1 := ha.1
  have a2 := ha.2
  have b1 := hb.1
  have b2 := hb.2
  have e := halves (a / 4294967296) (a % 4294967296) (b / 4294967296) (b % 4294967296)
  rw [show a / 4294967296 * 4294967296 + a % 4294967296 = a by omega, show b / 4294967296 * 4294967296 + b % 4294967296 = b by omega] at e
  have q0 := half_bound (x := a % 4294967296) (y := b % 4294967296) (by omega) (by omega) (by omega) (by omega)
  have q1 := half_bound (x := a / 4294967296) (y := b % 4294967296) (by omega) (by omega) (by omega) (by omega)
  have q2 := half_bound (x := a % 4294967296) (y := b / 4294967296) (by omega) (by omega) (by omega) (by omega)
  have q3 := half_bound (x := a / 4294967296) (y := b / 4294967296) (by omega) (by omega) (by omega) (by omega)
  have k0 : 0 ≤ a * b := Int.mul_nonneg a1 b1
  have k1 : a * b < 340282366920938463463374607431768211456 := by
    have := Int.mul_le_mul a2 b2 b1 (by decide)
    omega
  have g3 := and_low (a / 4294967296 * (b % 4294967296) + a % 4294967296 * (b % 4294967296) / 4294967296) ⟨by omega, by omega⟩
  have g4 := and_low (a % 4294967296 * (b % 4294967296)) ⟨by omega, by omega⟩
  have fin := times_end a b _ _ _ _ _ _ _ _ e k0 k1 rfl rfl rfl rfl
  have g5 := or_low (a % 4294967296 * (b / 4294967296) + (a / 4294967296 * (b % 4294967296) + a % 4294967296 * (b % 4294967296) / 4294967296) % 4294967296) (a % 4294967296 * (b % 4294967296) % 4294967296) (by omega) (by omega)
  rw [fin.1, fin.2]
  refine times_core a b _ _ _ _ _ _ _ _ _ _ _ _ _ _ rfl rfl g1 g2 rfl rfl rfl rfl rfl rfl g3 rfl g4 g5 (by omega) (by omega) (by omega) (by omega) (by omega) (by omega) (by omega) (by omega) (by omega) (by omega) (by omega) (by omega) (by omega) ?_ w
  have := fin.1
  omega
theorem wide_same {a b P : Int} (h : a * b = P) (h0 : 0 ≤ P) (h1 : P ≤ 85070591730234615865843651857942052864) : wrap64 (P / 18446744073709551616) = wrap64 (hiU (a * b)) ∧ P % 18446744073709551616 = loU (a * b) := by
  rw [h]; unfold hiU loU
  refine ⟨?_, rfl⟩
  congr 1
  omega
theorem wide_neg {s P h l : Int} (hs : s = -P) (h0 : 0 ≤ P) (h1 : P ≤ 85070591730234615865843651857942052864) (hh : P / 18446744073709551616 = h) (hl : P % 18446744073709551616 = l) :
    (IntKind.u64.wrap (18446744073709551615 - l + 1) = loU s) ∧ ((loU s = 0 ∧ IntKind.u64.wrap (18446744073709551615 - h + 1) = hiU s) ∨ (loU s ≠ 0 ∧ 18446744073709551615 - h = hiU s)) := by
  subst hs
  simp only [IntKind.wrap_u64]
  unfold hiU loU
  omega
end Go.Proofs.Ytnokomlekndgfaa
