
import Derived.Test.YtmljhckbeoalgaaMul
import Derived.Test.YtmljhckbeoalgaaNorm
namespace Go.Proofs.Ytmljhckbeoalgaa
open Go.RowKit
set_option maxHeartbeats 400000
set_option linter.unusedVariables false
theorem absI_le {a : Int} (h : I64 a) : 0 ≤ absI a ∧ absI a ≤ 9223372036854775808 := by unfold I64 at h; unfold absI; split <;> omega
theorem ref_size (a : Int) (ha : I64 a) (w : World) :
    Calls Try.prog 71 #[.int .i64 a] w fun e w' => e = .returned (.int .u64 (absI a)) ∧ w = w' := by
  have h := ha
  unfold I64 at h
  by_cases hn : a < 0
  · have e1 : absI a = -a := if_pos hn
    rw [e1]
    clear e1
    go_enter Try.func71, Try.ntmps71
    go_wp2
    go_ret
    refine ⟨congrArg (fun z => Ending.returned (Value.int .u64 z)) ?_, rfl⟩
    show _ = -a
    first | rfl | omega | (rw [IntKind.wrap_u64]; omega)
  · have e1 : absI a = a := if_neg hn
    rw [e1]
    clear e1
    go_enter Try.func71, Try.ntmps71
    go_wp2
    go_ret
    exact ⟨rfl, rfl⟩
theorem half_bound {x y : Int} (hx0 : 0 ≤ x) (hx : x < 4294967296) (hy0 : 0 ≤ y) (hy : y < 4294967296) : 0 ≤ x * y ∧ x * y ≤ 18446744065119617025 := by
  refine ⟨Int.mul_nonneg hx0 hy0, ?_⟩
  have := Int.mul_le_mul (show x ≤ 4294967295 by omega) (show y ≤ 4294967295 by omega) hy0 (by decide)
  omega
theorem halves (ah al bh bl : Int) : (ah * 4294967296 + al) * (bh * 4294967296 + bl) = ah * bh * 18446744073709551616 + (ah * bl + al * bh) * 4294967296 + al * bl := by
  grind
theorem or_low (z y : Int) (hy0 : 0 ≤ y) (hy : y < 4294967296) : bits BinOp.or IntKind.u64 (IntKind.u64.wrap (z * 4294967296)) y = z * 4294967296 % 18446744073709551616 + y := by
  rw [IntKind.wrap_u64]
  exact bits_join .u64 64 (by decide) (fun n h0 h1 => by rw [IntKind.wrap_u64]; omega) 32 _ _ (by omega) (by omega) (by omega) hy0 hy (by omega)
/-- The parts of a product of halves. -/
theorem times_end (a b m1 m2 m3 p ph x y t : Int) (e : a * b = m3 * 18446744073709551616 + (m1 + m2) * 4294967296 + p) (h0 : 0 ≤ a * b) (h1 : a * b < 340282366920938463463374607431768211456)
    (hph : p / 4294967296 = ph) (hx : (m1 + ph) / 4294967296 = x) (hy : (m1 + ph) % 4294967296 = y) (ht : (m2 + y) / 4294967296 = t) :
    a * b / 18446744073709551616 = m3 + x + t ∧ a * b % 18446744073709551616 = (m2 + y) * 4294967296 % 18446744073709551616 + p % 4294967296 := by
  rw [e]
  omega
theorem times_core (a b ah al bh bl m1 m2 m3 p ph x y t lo u : Int) (hah : a / 4294967296 = ah) (hbh : b / 4294967296 = bh)
    (hal : bits BinOp.and IntKind.u64 a 4294967295 = al) (hbl : bits BinOp.and IntKind.u64 b 4294967295 = bl)
    (hp : al * bl = p) (hm1 : ah * bl = m1) (hm2 : al * bh = m2) (hm3 : ah * bh = m3) (hph : p / 4294967296 = ph)
    (hx : (m1 + ph) / 4294967296 = x) (hy : bits BinOp.and IntKind.u64 (m1 + ph) 4294967295 = y) (ht : (m2 + y) / 4294967296 = t)
    (hlo : bits BinOp.and IntKind.u64 p 4294967295 = lo) (hu : bits BinOp.or IntKind.u64 (IntKind.u64.wrap ((m2 + y) * 4294967296)) lo = u)
    (p0 : 0 ≤ p) (p1 : p ≤ 18446744065119617025) (m10 : 0 ≤ m1) (m11 : m1 ≤ 18446744065119617025) (m20 : 0 ≤ m2) (m21 : m2 ≤ 18446744065119617025) (m30 : 0 ≤ m3)
    (ph0 : 0 ≤ ph) (ph1 : ph < 4294967296) (x0 : 0 ≤ x) (t0 : 0 ≤ t) (y0 : 0 ≤ y) (y1 : y < 4294967296) (hs : m3 + x + t ≤ 18446744073709551615) (w : World) :
    Calls Try.prog 70 #[.int .u64 a, .int .u64 b] w fun e w' => e = .returned (.tuple #[.int .u64 (m3 + x + t), .int .u64 u]) ∧ w = w' := by
  go_enter Try.func70, Try.ntmps70
  go_wp2
  go_ret2
  exact ⟨rfl, rfl⟩
theorem ref_Times (a b : Int) (ha : U64 a) (hb : U64 b) (w : World) :
    Calls Try.prog 70 #[.int .u64 a, .int .u64 b] w fun e w' => e = .returned (.tuple #[.int .u64 (a * b / 18446744073709551616), .int .u64 (a * b % 18446744073709551616)]) ∧ w = w' := by
  have g1 := and_low a ha
  have g2 := and_low b hb
  have a1 := ha.1
  have a2 := ha.2
  have b1 := hb.1
  have b2 := hb.2
  have e := halves (a / 4294967296) (a % 4294967296) (b / 4294967296) (b % 4294967296)
  rw [show a / 4294967296 * 4294967296 + a % 4294967296 = a by omega, show b / 4294967296 * 4294967296 + b % 4294967296 = b by omega] at e
  have q0 := half_bound (x := a % 4294967296) (y := b % 4294967296) (by omega) (by omega) (by omega) (by omega)
  have q1 := half_bound (x := a / 4294967296) (y := b % 4294967296) (by omega) (by omega) (by omega) (by omega)
  have q2 := half_bound (x := a % 4294967296) (y := b / 4294967296) (by omega) (by omega) (by omega) (by omega)
  have q3 := half_bound (x := a / 4294967296) (y := b / 4294967296) (by omega) (by omega) (by omega) (by omega)
  have k0 : 0 ≤ a * b := Int.mul_nonneg a1 b1
  have k1 : a * b < 340282366920938463463374607431768211456 := by
    have := Int.mul_le_mul a2 b2 b1 (by decide)
    omega
  have g3 := and_low (a / 4294967296 * (b % 4294967296) + a % 4294967296 * (b % 4294967296) / 4294967296) ⟨by omega, by omega⟩
  have g4 := and_low (a % 4294967296 * (b % 4294967296)) ⟨by omega, by omega⟩
  have fin := times_end a b _ _ _ _ _ _ _ _ e k0 k1 rfl rfl rfl rfl
  have g5 := or_low (a % 4294967296 * (b / 4294967296) + (a / 4294967296 * (b % 4294967296) + a % 4294967296 * (b % 4294967296) / 4294967296) % 4294967296) (a % 4294967296 * (b % 4294967296) % 4294967296) (by omega) (by omega)
  rw [fin.1, fin.2]
  refine times_core a b _ _ _ _ _ _ _ _ _ _ _ _ _ _ rfl rfl g1 g2 rfl rfl rfl rfl rfl rfl g3 rfl g4 g5 (by omega) (by omega) (by omega) (by omega) (by omega) (by omega) (by omega) (by omega) (by omega) (by omega) (by omega) (by omega) (by omega) ?_ w
  have := fin.1
  omega
theorem wide_same {a b P : Int} (h : a * b = P) (h0 : 0 ≤ P) (h1 : P ≤ 85070591730234615865843651857942052864) : wrap64 (P / 18446744073709551616) = wrap64 (hiU (a * b)) ∧ P % 18446744073709551616 = loU (a * b) := by
  rw [h]; unfold hiU loU
  refine ⟨?_, rfl⟩
  congr 1
  omega
theorem wide_neg {s P h l : Int} (hs : s = -P) (h0 : 0 ≤ P) (h1 : P ≤ 85070591730234615865843651857942052864) (hh : P / 18446744073709551616 = h) (hl : P % 18446744073709551616 = l) :
    (IntKind.u64.wrap (18446744073709551615 - l + 1) = loU s) ∧ ((loU s = 0 ∧ IntKind.u64.wrap (18446744073709551615 - h + 1) = hiU s) ∨ (loU s ≠ 0 ∧ 18446744073709551615 - h = hiU s)) := by
  subst hs
  simp only [IntKind.wrap_u64]
  unfold hiU loU
  omega
theorem Wide_same (a b P : Int) (ha : I64 a) (hb : I64 b) (x y : Bool) (d1 : decide (a < 0) = x) (d2 : decide (b < 0) = y) (hxy : (x == y) = true) (hP : a * b = P) (hPa : absI a * absI b = P) (h0 : 0 ≤ P) (h1 : P ≤ 85070591730234615865843651857942052864) (w : World) :
    Calls Try.prog 65 #[.int .i64 a, .int .i64 b] w fun e w' => e = .returned (.tuple #[.int .i64 (wrap64 (hiU (a * b))), .int .u64 (loU (a * b))]) ∧ w = w' := by
  obtain ⟨e1, e2⟩ := wide_same hP h0 h1
  rw [← e1, ← e2]
  have T := fun W => ref_Times (absI a) (absI b) ⟨(absI_le ha).1, by have := (absI_le ha).2; omega⟩ ⟨(absI_le hb).1, by have := (absI_le hb).2; omega⟩ W
  rw [hPa] at T
  have HT := hid T
  clear e1 e2 T hP hPa h0 h1
  go_enter Try.func65, Try.ntmps65
  go_wp2_with fail
  refine (ref_size a ha _).mono ?_
  rintro _ _ ⟨rfl, rfl⟩
  go_wp2_with fail
  refine (ref_size b hb _).mono ?_
  rintro _ _ ⟨rfl, rfl⟩
  go_wp2_with fail
  refine (HT.out _).mono ?_
  rintro _ _ ⟨rfl, rfl⟩
  go_wp2_with fail
  go_ret2
  exact ⟨rfl, rfl⟩
theorem Wide_other (a b P : Int) (ha : I64 a) (hb : I64 b) (x y : Bool) (d1 : decide (a < 0) = x) (d2 : decide (b < 0) = y) (hxy : (x == y) = false) (hP : a * b = -P) (hPa : absI a * absI b = P) (h0 : 0 ≤ P) (h1 : P ≤ 85070591730234615865843651857942052864) (w : World) :
    Calls Try.prog 65 #[.int .i64 a, .int .i64 b] w fun e w' => e = .returned (.tuple #[.int .i64 (wrap64 (hiU (a * b))), .int .u64 (loU (a * b))]) ∧ w = w' := by
  obtain ⟨h, hh⟩ : ∃ h, P / 18446744073709551616 = h := ⟨_, rfl⟩
  obtain ⟨l, hl⟩ : ∃ l, P % 18446744073709551616 = l := ⟨_, rfl⟩
  obtain ⟨e1, e2⟩ := wide_neg hP h0 h1 hh hl
  have n1 := bits_not_u64 (p := h) (by unfold U64; omega)
  have n2 := bits_not_u64 (p := l) (by unfold U64; omega)
  have T := fun W => ref_Times (absI a) (absI b) ⟨(absI_le ha).1, by have := (absI_le ha).2; omega⟩ ⟨(absI_le hb).1, by have := (absI_le hb).2; omega⟩ W
  rw [hPa, hh, hl] at T
  have HT := hid T
  have b0 : 0 ≤ h := by omega
  have b1 : h < 18446744073709551616 := by omega
  obtain ⟨lo, hlo⟩ : ∃ lo, loU (a * b) = lo := ⟨_, rfl⟩
  obtain ⟨hi, hhi⟩ : ∃ hi, hiU (a * b) = hi := ⟨_, rfl⟩
  rw [hlo] at e1
  rw [hlo, hhi] at e2
  rw [hlo, hhi]
  clear T hP hPa hh hl hlo hhi h0 h1
  have hsg : IntKind.u64.signed = false := rfl
  rcases e2 with ⟨z, e2⟩ | ⟨z, e2⟩
  · have zb : (lo == 0) = true := by simpa using z
    clear z
    go_enter Try.func65, Try.ntmps65
    go_wp2_with fail
    refine (ref_size a ha _).mono ?_
    rintro _ _ ⟨rfl, rfl⟩
    go_wp2_with fail
    refine (ref_size b hb _).mono ?_
    rintro _ _ ⟨rfl, rfl⟩
    go_wp2_with fail
    refine (HT.out _).mono ?_
    rintro _ _ ⟨rfl, rfl⟩
    go_wp2_with fail
    go_ret2
    exact ⟨rfl, rfl⟩
  · have zb : (lo == 0) = false := by simpa using z
    clear z
    go_enter Try.func65, Try.ntmps65
    go_wp2_with fail
    refine (ref_size a ha _).mono ?_
    rintro _ _ ⟨rfl, rfl⟩
    go_wp2_with fail
    refine (ref_size b hb _).mono ?_
    rintro _ _ ⟨rfl, rfl⟩
    go_wp2_with fail
    refine (HT.out _).mono ?_
    rintro _ _ ⟨rfl, rfl⟩
    go_wp2_with fail
    go_ret2
    exact ⟨rfl, rfl⟩
theorem ref_Wide (a b : Int) (ha : I64 a) (hb : I64 b) (w : World) :
    Calls Try.prog 65 #[.int .i64 a, .int .i64 b] w fun e w' => e = .returned (.tuple #[.int .i64 (wrap64 (hiU (a * b))), .int .u64 (loU (a * b))]) ∧ w = w' := by
  have p0 : 0 ≤ absI a * absI b := Int.mul_nonneg (absI_le ha).1 (absI_le hb).1
  have p1 := Int.mul_le_mul (absI_le ha).2 (absI_le hb).2 (absI_le hb).1 (by decide)
  have p2 : absI a * absI b ≤ 85070591730234615865843651857942052864 := by omega
  rcases Int.lt_or_le a 0 with sa | sa <;> rcases Int.lt_or_le b 0 with sb | sb
  · exact Wide_same a b _ ha hb true true (by simpa using sa) (by simpa using sb) rfl (by unfold absI; rw [if_pos sa, if_pos sb, Int.neg_mul_neg]) rfl p0 p2 w
  · exact Wide_other a b _ ha hb true false (by simpa using sa) (by simpa using sb) rfl (by unfold absI; rw [if_pos sa, if_neg (by omega), Int.neg_mul, Int.neg_neg]) rfl p0 p2 w
  · exact Wide_other a b _ ha hb false true (by simpa using sa) (by simpa using sb) rfl (by unfold absI; rw [if_neg (by omega), if_pos sb, Int.mul_neg, Int.neg_neg]) rfl p0 p2 w
  · exact Wide_same a b _ ha hb false false (by simpa using sa) (by simpa using sb) rfl (by unfold absI; rw [if_neg (by omega), if_neg (by omega)]) rfl p0 p2 w
end Go.Proofs.Ytmljhckbeoalgaa
