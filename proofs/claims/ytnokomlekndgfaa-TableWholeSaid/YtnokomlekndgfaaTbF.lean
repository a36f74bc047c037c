
/- A root that is taken of a fraction is hardly off. Plain mathematics. No program in sight. -/
import Derived.Laws.FloatArith
import Derived.Test.YtnokomlekndgfaaTbM
namespace Go.Proofs.Ytnokomlekndgfaa
open Ieee
set_option maxRecDepth 100000
set_option linter.unusedVariables false
theorem cut_even {n d : Nat} (h : d ≤ n.log2 + 2) : ∃ K, Toward.even.cut false n d = K ∧ n / 2 ^ d ≤ K ∧ K ≤ n / 2 ^ d + 1 ∧ 2 * n ≤ 2 * (K * 2 ^ d) + 2 ^ d := by
  have hp := Nat.two_pow_pos d
  have e : Toward.even.cut false n d = n / 2 ^ d + (decide (2 ^ d < 2 * (n % 2 ^ d)) || (2 ^ d == 2 * (n % 2 ^ d) && n / 2 ^ d % 2 == 1)).toNat := by
    unfold Toward.cut
    simp only [Nat.min_eq_left h, Nat.shiftLeft_eq, Nat.one_mul]
  rw [e]
  generalize 2 ^ d = G at hp ⊢
  have h1 := Nat.div_add_mod n G
  have h2 := Nat.mod_lt n hp
  obtain ⟨X, hX⟩ : ∃ X, n / G = X := ⟨_, rfl⟩
  obtain ⟨Y, hY⟩ : ∃ Y, n % G = Y := ⟨_, rfl⟩
  rw [hX, hY] at h1
  rw [hY] at h2
  rw [hX, hY]
  have h3 : X * G = G * X := Nat.mul_comm _ _
  by_cases b : (decide (G < 2 * Y) || (G == 2 * Y && X % 2 == 1)) = true
  · rw [b]
    refine ⟨X + 1, rfl, by omega, by omega, ?_⟩
    rw [Nat.add_mul, h3]
    omega
  · have b2 : (decide (G < 2 * Y) || (G == 2 * Y && X % 2 == 1)) = false := by simpa using b
    rw [b2]
    refine ⟨X, rfl, by omega, by omega, ?_⟩
    have : ¬ G < 2 * Y := fun h => by simp [h] at b2
    rw [h3]
    omega
theorem cut_zero {n d : Nat} (h : d ≤ n.log2 + 2) : Toward.zero.cut false n d = n / 2 ^ d := by
  unfold Toward.cut
  simp only [Nat.min_eq_left h, Nat.shiftLeft_eq, Nat.one_mul, Bool.toNat_false, Nat.add_zero]
theorem least_double : double.leastPlace = -1074 := by simp [Format.leastPlace, double]
theorem inf_double : double.infRung = 9218868437227405312 := by simp [Format.infRung, Format.binade, double]
theorem sign_double : double.signWeight = 9223372036854775808 := by simp [Format.signWeight, double]
theorem bin_double : double.binade = 4503599627370496 := by simp [Format.binade, double]
theorem frac_double : double.fractionBits = 52 := rfl
theorem read_double {r : Nat} (h1 : 4503599627370496 ≤ r) (h2 : r < 9218868437227405312) :
    double.read r = .number false (4503599627370496 + r % 4503599627370496) (-1074 + ((r / 4503599627370496 - 1 : Nat) : Int)) := by
  unfold Format.read
  simp only [least_double, inf_double, sign_double, bin_double]
  have a1 : r / 9223372036854775808 = 0 := Nat.div_eq_of_lt (by omega)
  have a2 : r % 9223372036854775808 = r := Nat.mod_eq_of_lt (by omega)
  rw [a1, a2, if_neg (by omega), if_pos h2]
  rfl
theorem p52 : (2 : Nat) ^ 52 = 4503599627370496 := by decide
theorem p53 : (2 : Nat) ^ 53 = 9007199254740992 := by decide
theorem near_size {mag l : Nat} (h1 : 2 ^ l ≤ mag) (h2 : mag < 2 ^ (l + 1)) : 4503599627370496 * 2 ^ (l - 52) ≤ mag * 2 ^ (52 - l) ∧ mag * 2 ^ (52 - l) < 9007199254740992 * 2 ^ (l - 52) := by
  rw [← p52, ← p53, ← Nat.pow_add, ← Nat.pow_add]
  have e1 : 52 + (l - 52) = l + (52 - l) := by omega
  have e2 : 53 + (l - 52) = l + 1 + (52 - l) := by omega
  rw [e1, e2, Nat.pow_add, Nat.pow_add (n := 52 - l)]
  exact ⟨Nat.mul_le_mul_right _ h1, Nat.mul_lt_mul_of_pos_right h2 (Nat.two_pow_pos _)⟩
theorem near_log {mag l : Nat} (h1 : 2 ^ l ≤ mag) (h2 : mag < 2 ^ (l + 1)) : l - 52 ≤ (mag * 2 ^ (52 - l)).log2 + 2 := by
  by_cases h : l ≤ 52
  · omega
  · have e : 52 - l = 0 := by omega
    rw [e, Nat.pow_zero, Nat.mul_one]
    have hm : mag ≠ 0 := by have := Nat.two_pow_pos l; omega
    have := (Nat.le_log2 hm).2 h1
    omega
theorem near_word {mag l q K : Nat} {place : Int} (h1 : 2 ^ l ≤ mag) (h2 : mag < 2 ^ (l + 1)) (hq : place + l - 52 = (q : Int) - 1074) (hq2 : q ≤ 1500) (hK : Toward.even.cut false (mag * 2 ^ (52 - l)) (l - 52) = K) (hK2 : K ≤ 9007199254740992) :
    double.nearest false mag place = q * 4503599627370496 + K := by
  have hm : mag ≠ 0 := by have := Nat.two_pow_pos l; omega
  have hlog : mag.log2 = l := (Nat.log2_eq_iff hm).2 ⟨h1, h2⟩
  have e1 : max (place + (l : Int) - (52 : Nat)) (-1074) = (q : Int) - 1074 := by omega
  have e2 : (place - ((q : Int) - 1074)).toNat = 52 - l := by omega
  have e3 : ((q : Int) - 1074 - place).toNat = l - 52 := by omega
  have e4 : ((q : Int) - 1074 - -1074).toNat = q := by omega
  have e5 : min (q * 4503599627370496 + K) 9218868437227405312 = q * 4503599627370496 + K := Nat.min_eq_left (by omega)
  unfold Format.nearest
  rw [if_neg hm]
  simp only [least_double, inf_double, bin_double, frac_double, hlog]
  rw [e1, e2, e3, e4, Nat.shiftLeft_eq, hK, e5]
  unfold Format.word
  exact if_neg (by decide)
/-- What the nearest fraction to a number is. -/
theorem near_read {mag l : Nat} {place : Int} (h1 : 2 ^ l ≤ mag) (h2 : mag < 2 ^ (l + 1)) (hl : l ≤ 100) (p0 : -100 ≤ place) (p1 : place ≤ 100) :
    ∃ (m K : Nat) (p : Int), double.read (double.nearest false mag place) = .number false m p ∧ 4503599627370496 ≤ m ∧ m < 9007199254740992 ∧
      (p = place + l - 52 ∧ m = K ∨ p = place + l - 51 ∧ 2 * m = K) ∧ 2 * (mag * 2 ^ (52 - l)) ≤ 2 * (K * 2 ^ (l - 52)) + 2 ^ (l - 52) := by
  obtain ⟨s1, s2⟩ := near_size h1 h2
  obtain ⟨K, hK, k1, k2, k3⟩ := cut_even (near_log h1 h2)
  have hlow := (Nat.le_div_iff_mul_le (Nat.two_pow_pos _)).2 s1
  have hhi := (Nat.div_lt_iff_lt_mul (Nat.two_pow_pos _)).2 s2
  obtain ⟨q, hq⟩ : ∃ q : Nat, place + l - 52 = (q : Int) - 1074 := ⟨(place + l - 52 + 1074).toNat, by omega⟩
  rw [near_word h1 h2 hq (by omega) hK (by omega)]
  generalize mag * 2 ^ (52 - l) = M at *
  generalize 2 ^ (l - 52) = G at *
  generalize M / G = X at *
  rw [read_double (by omega) (by omega)]
  by_cases hc : K < 9007199254740992
  · have e1 : (q * 4503599627370496 + K) % 4503599627370496 = K - 4503599627370496 := by omega
    have e2 : (q * 4503599627370496 + K) / 4503599627370496 = q + 1 := by omega
    rw [e1, e2]
    exact ⟨_, K, _, rfl, by omega, by omega, .inl ⟨by omega, by omega⟩, k3⟩
  · have e0 : K = 9007199254740992 := by omega
    have e1 : (q * 4503599627370496 + K) % 4503599627370496 = 0 := by omega
    have e2 : (q * 4503599627370496 + K) / 4503599627370496 = q + 2 := by omega
    rw [e1, e2]
    exact ⟨_, K, _, rfl, by omega, by omega, .inr ⟨by omega, by omega⟩, k3⟩
theorem rootFrom_ok {n : Nat} : ∀ (todo out : Nat), out * out ≤ n → n < (out + 2 ^ todo) * (out + 2 ^ todo) →
    Datum.rootFrom n todo out * Datum.rootFrom n todo out ≤ n ∧ n < (Datum.rootFrom n todo out + 1) * (Datum.rootFrom n todo out + 1)
  | 0, out, h1, h2 => by
    rw [Datum.rootFrom]
    simpa using And.intro h1 h2
  | i + 1, out, h1, h2 => by
    rw [Datum.rootFrom]
    have hp : 2 ^ (i + 1) = 2 ^ i + 2 ^ i := by rw [Nat.pow_succ]; omega
    simp only [Nat.shiftLeft_eq, Nat.one_mul]
    by_cases h : (out + 2 ^ i) * (out + 2 ^ i) ≤ n
    · rw [if_pos h]
      exact rootFrom_ok i (out + 2 ^ i) h (by rw [Nat.add_assoc, ← hp]; exact h2)
    · rw [if_neg h]
      exact rootFrom_ok i out h1 (by omega)
theorem sq_mono {a b : Nat} (h : a * a < b * b) : a < b := by
  rcases Nat.lt_or_ge a b with h2 | h2
  · exact h2
  · have := Nat.mul_le_mul h2 h2; omega
/-- The root's fraction, cut: one more than it is never too small. -/
theorem frac_root {n : Nat} (hn : n < 18446744073709551616) :
    ∃ s m : Nat, double.sqrt (double.nearest false n 0) = some s ∧ (double.read s).toInt .zero = some (m : Int) ∧ m < 9007199254740992 ∧ rootN n ≤ m + 1 := by
  obtain ⟨r1, r2, r3⟩ := rootN_ok hn
  by_cases h0 : n = 0
  · subst h0
    refine ⟨0, 0, by decide, by decide, by decide, ?_⟩
    have : rootN 0 = 0 := by decide
    omega
  · have hlog := (Nat.log2_eq_iff h0 (k := n.log2)).1 rfl
    have hl64 : n.log2 < 64 := (Nat.log2_lt h0).2 (by simpa using hn)
    generalize n.log2 = l at hlog hl64
    obtain ⟨m1, K1, p1, hr1, a1, a2, a3, a4⟩ := near_read (place := 0) hlog.1 hlog.2 (by omega) (by omega) (by omega)
    -- the root
    have hm1 : m1 ≠ 0 := by omega
    have hm1l : m1.log2 = 52 := (Nat.log2_eq_iff hm1).2 ⟨by simpa using a1, by simpa using a2⟩
    obtain ⟨more, hmore⟩ : ∃ more : Nat, 108 - 52 + ((p1 - ((108 - 52 : Nat) : Int)) % 2).toNat = more := ⟨_, rfl⟩
    obtain ⟨E, hE⟩ : ∃ E : Nat, p1 = (more : Int) - 2 * E := ⟨((more - p1) / 2).toNat, by omega⟩
    have hmo : more = 56 ∨ more = 57 := by omega
    have hN1 : 2 ^ 108 ≤ m1 * 2 ^ more ∧ m1 * 2 ^ more < 2 ^ 110 := by
      rcases hmo with e | e <;> (rw [e]; constructor <;> omega)
    have hN0 : m1 * 2 ^ more ≠ 0 := by omega
    have hNl : (m1 * 2 ^ more).log2 / 2 + 1 = 55 := by
      have b1 : (m1 * 2 ^ more).log2 < 110 := (Nat.log2_lt hN0).2 hN1.2
      have b2 : 108 ≤ (m1 * 2 ^ more).log2 := (Nat.le_log2 hN0).2 hN1.1
      omega
    obtain ⟨W, hW⟩ : ∃ W, Datum.rootFrom (m1 * 2 ^ more) 55 0 = W := ⟨_, rfl⟩
    obtain ⟨w1, w2⟩ := rootFrom_ok (n := m1 * 2 ^ more) 55 0 (by omega) (by
      refine Nat.lt_of_lt_of_le hN1.2 ?_
      decide)
    rw [hW] at w1 w2
    have hW1 : 2 ^ 54 ≤ W := by
      have : 2 ^ 54 < W + 1 := sq_mono (Nat.lt_of_le_of_lt (by simpa using hN1.1) w2)
      omega
    have hW2 : W < 2 ^ 55 := sq_mono (Nat.lt_of_le_of_lt w1 (by simpa using hN1.2))
    obtain ⟨S, hS⟩ : ∃ S : Nat, 2 * W + (W * W != m1 * 2 ^ more).toNat = S := ⟨_, rfl⟩
    have hS1 : 2 * W ≤ S ∧ S ≤ 2 * W + 1 := by
      have := Bool.toNat_le (W * W != m1 * 2 ^ more)
      omega
    have hroot : (Datum.number false m1 p1).root 54 = some (.number false S (-(E : Int) - 1)) := by
      unfold Datum.root
      simp only [if_neg hm1, hm1l, Nat.shiftLeft_eq, hmore, hNl, hW, hS]
      simp
      omega
    obtain ⟨m3, K3, p3, hr3, c1, c2, c3, c4⟩ := near_read (mag := S) (l := 55) (place := -(E : Int) - 1) (by omega) (by omega) (by omega) (by omega) (by omega)
    refine ⟨double.nearest false S (-(E : Int) - 1), m3 / 2 ^ (-p3).toNat, ?_, ?_, Nat.lt_of_le_of_lt (Nat.div_le_self _ _) c2, ?_⟩
    · unfold Format.sqrt
      rw [hr1, frac_double, hroot]
      rfl
    · rw [hr3]
      have hm3 : m3 ≠ 0 := by omega
      have hm3l : m3.log2 = 52 := (Nat.log2_eq_iff hm3).2 ⟨by simpa using c1, by simpa using c2⟩
      have hp3 : p3.toNat = 0 := by omega
      have hcut : Toward.zero.cut false m3 (-p3).toNat = m3 / 2 ^ (-p3).toNat := cut_zero (by omega)
      unfold Datum.toInt Datum.integral
      simp only [hp3, Nat.shiftLeft_zero, hcut]
      rfl
    · -- what is wanted: (R - 1) * 2 ^ (E - 2) ≤ K3
      generalize rootN n = R at r1 r2 r3 ⊢
      by_cases hR : R ≤ 1
      · exact Nat.le_trans hR (Nat.le_add_left _ _)
      · -- the fraction of n, times 2 ^ (2 * E)
        have hY : (R * R - R) * 2 ^ (2 * E) ≤ m1 * 2 ^ more := by
          have hRR : R ≤ R * R := Nat.le_mul_of_pos_left R (by omega)
          by_cases hl : l ≤ 52
          · -- told wholly
            have e1 : l - 52 = 0 := by omega
            rw [e1, Nat.pow_zero, Nat.mul_one] at a4
            have hK1 : n * 2 ^ (52 - l) ≤ K1 := by omega
            have e2 : n * 2 ^ (2 * E) ≤ m1 * 2 ^ more := by
              rcases a3 with ⟨g1, g2⟩ | ⟨g1, g2⟩
              · have g3 : 2 * E = (52 - l) + more := by omega
                rw [g3, Nat.pow_add, ← Nat.mul_assoc, g2]
                exact Nat.mul_le_mul_right _ hK1
              · have g3 : 2 * E + 1 = (52 - l) + more := by omega
                refine Nat.le_of_mul_le_mul_left (c := 2) ?_ (by decide)
                rw [← Nat.mul_assoc, Nat.mul_comm 2 n, Nat.mul_assoc, ← Nat.pow_succ', show (2 * E).succ = 2 * E + 1 from rfl, g3, Nat.pow_add, ← Nat.mul_assoc, ← Nat.mul_assoc, g2]
                exact Nat.mul_le_mul_right _ hK1
            exact Nat.le_trans (Nat.mul_le_mul_right _ (by omega)) e2
          · have e1 : 52 - l = 0 := by omega
            rw [e1, Nat.pow_zero, Nat.mul_one] at a4
            obtain ⟨d, hd⟩ : ∃ d, l - 52 = d := ⟨_, rfl⟩
            rw [hd] at a4
            have hd11 : d ≤ 11 := by omega
            have hG : 2 ^ d ≤ 2048 := Nat.pow_le_pow_right (n := 2) (by decide) hd11
            have hl53 : 2 ^ 53 ≤ n := Nat.le_trans (Nat.pow_le_pow_right (n := 2) (by decide) (by omega)) hlog.1
            have hR26 : 1024 ≤ R := by
              have : 2048 * 2048 < (R + 1) * (R + 1) := by omega
              have := sq_mono this
              omega
            have hX : R * R - R ≤ K1 * 2 ^ d := by omega
            refine Nat.le_trans (Nat.mul_le_mul_right _ hX) ?_
            rcases a3 with ⟨g1, g2⟩ | ⟨g1, g2⟩
            · have g3 : more = d + 2 * E := by omega
              rw [g3, Nat.pow_add, ← Nat.mul_assoc, g2]
              exact Nat.le_refl _
            · have g3 : more = d + 1 + 2 * E := by omega
              rw [g3, Nat.pow_add, Nat.pow_succ, ← g2]
              rw [← Nat.mul_assoc, ← Nat.mul_assoc, Nat.mul_comm 2 m1, Nat.mul_assoc m1 2, Nat.mul_comm 2 (2 ^ d), ← Nat.mul_assoc]
              exact Nat.le_refl _
        -- the root of it
        have hW3 : (R - 1) * 2 ^ E + 2 ≤ W := by
          have h8 : 8 ≤ 2 ^ E := Nat.pow_le_pow_right (n := 2) (by decide) (show 3 ≤ E by omega)
          have hsq : ((R - 1) * 2 ^ E + 2) * ((R - 1) * 2 ^ E + 2) ≤ m1 * 2 ^ more := by
            refine Nat.le_trans ?_ hY
            rw [show 2 * E = E + E by omega, Nat.pow_add]
            obtain ⟨r, rfl⟩ : ∃ r, R = r + 1 := ⟨R - 1, by omega⟩
            rw [Nat.add_sub_cancel, show (r + 1) * (r + 1) - (r + 1) = r * (r + 1) by rw [Nat.add_mul r 1]; omega]
            generalize 2 ^ E = P at h8
            have hr1 : 1 ≤ r := by omega
            have b1 : (r * P + 2) * (r * P + 2) = r * P * (r * P) + 4 * (r * P) + 4 := by
              rw [Nat.add_mul, Nat.mul_add]; omega
            have b2 : r * (r + 1) * (P * P) = r * P * (r * P) + r * P * P := by
              rw [Nat.mul_add, Nat.mul_one, Nat.add_mul, Nat.mul_assoc r P P]
              congr 1
              rw [Nat.mul_assoc r r, Nat.mul_assoc r P, Nat.mul_left_comm P r P]
            have b3 : r * P * 8 ≤ r * P * P := Nat.mul_le_mul_left _ h8
            have b4 : 8 ≤ r * P := Nat.le_trans h8 (Nat.le_mul_of_pos_left P hr1)
            rw [b1, b2]
            omega
          have := sq_mono (Nat.lt_of_le_of_lt hsq w2)
          omega
        -- the fraction of it, cut
        have hE2 : ∃ e, E = e + 2 ∧ 20 ≤ e := ⟨E - 2, by omega, by omega⟩
        obtain ⟨e, rfl, he⟩ := hE2
        have hK3 : (R - 1) * 2 ^ e ≤ K3 := by
          rw [Nat.pow_add, ← Nat.mul_assoc] at hW3
          simp at c4
          omega
        have : R - 1 ≤ m3 / 2 ^ (-p3).toNat := by
          refine (Nat.le_div_iff_mul_le (Nat.two_pow_pos _)).2 ?_
          rcases c3 with ⟨g1, g2⟩ | ⟨g1, g2⟩
          · have g3 : (-p3).toNat = e := by omega
            rw [g3, g2]
            exact hK3
          · have g3 : (-p3).toNat + 1 = e := by omega
            rw [← g3, Nat.pow_succ, ← Nat.mul_assoc] at hK3
            omega
        generalize m3 / 2 ^ (-p3).toNat = X at this
        omega
end Go.Proofs.Ytnokomlekndgfaa
