
/- Powers of two, by the document. -/
import Derived.Test.YtnokomlekndgfaaTbB
import Derived.Deep.RegionLaw
namespace Go.Proofs.Ytnokomlekndgfaa
open Go.RowKit
set_option maxHeartbeats 2000000
set_option maxRecDepth 100000
set_option linter.unusedVariables false
/-- Halved so often. -/
def halve (v : Nat) (n : Nat) : Nat := v / 2 ^ n
theorem halve_on (v n : Nat) : halve v n / 2 = halve v (n + 1) := by unfold halve; rw [Nat.div_div_eq_div_mul, ← Nat.pow_succ]
theorem halve_none {v n : Nat} (h : halve v n = 0) (m : Nat) : halve v (n + m) = 0 := by
  unfold halve at *
  rw [Nat.pow_add, ← Nat.div_div_eq_div_mul, h, Nat.zero_div]
theorem ref_Exp (frac x : Int) (hx : I64 x) (w : World) :
    Calls Try.prog 12 #[.int .i64 x, .int .i64 frac] w fun e w' => e = .returned (.tuple #[.int .i64 (expV frac x), .int .i64 (expE frac x)]) ∧ Below w.heap.size w w' := by
  by_cases h1 : frac < 0
  · obtain ⟨e1, e2⟩ := exp_bad (x := x) (show frac < 0 ∨ 30 < frac ∨ 0 < x by omega)
    rw [e1, e2]
    clear e1 e2
    go_enter Try.func12, Try.ntmps12
    go_wp2_with fail
    go_ret2
    exact ⟨rfl, Below.refl _ _⟩
  by_cases h2 : frac > 30
  · obtain ⟨e1, e2⟩ := exp_bad (x := x) (show frac < 0 ∨ 30 < frac ∨ 0 < x by omega)
    rw [e1, e2]
    clear e1 e2
    go_enter Try.func12, Try.ntmps12
    go_wp2_with fail
    go_ret2
    exact ⟨rfl, Below.refl _ _⟩
  by_cases h3 : x > 0
  · obtain ⟨e1, e2⟩ := exp_bad (x := x) (show frac < 0 ∨ 30 < frac ∨ 0 < x by omega)
    rw [e1, e2]
    clear e1 e2
    go_enter Try.func12, Try.ntmps12
    go_wp2_with fail
    go_ret2
    exact ⟨rfl, Below.refl _ _⟩
  have hn : ¬ (frac < 0 ∨ 30 < frac ∨ 0 < x) := by omega
  have CN := hid (fun w => ref_Neg x hx w)
  by_cases hm : x = -9223372036854775808
  · obtain ⟨e1, e2⟩ := exp_min hn hm
    rw [e1, e2]
    have k1 : ckV (-x) = 0 := by subst hm; decide
    have k2 : ckE (-x) = 2 := by subst hm; decide
    rw [k1, k2] at CN
    clear hn e1 e2 k1 k2 hm
    go_enter Try.func12, Try.ntmps12
    go_wp2_with fail
    refine (CN.out _).mono ?_
    rintro _ _ ⟨rfl, rfl⟩
    go_wp2_with fail
    go_ret2
    exact ⟨rfl, Below.refl _ _⟩
  · obtain ⟨e1, e2⟩ := exp_ok hn hm
    rw [e1, e2]
    obtain ⟨y, hy⟩ : ∃ y, (-x).toNat = y := ⟨_, rfl⟩
    have hyx : -x = (y : Int) := by omega
    obtain ⟨k, rfl⟩ : ∃ k : Nat, frac = (k : Int) := ⟨frac.toNat, by omega⟩
    have k1 : ckV (-x) = (y : Int) := by rw [hyx]; exact ckV_in (by unfold I64 at *; omega)
    have k2 : ckE (-x) = 0 := by rw [hyx]; exact ckE_in (by unfold I64 at *; omega)
    rw [k1, k2] at CN
    rw [hy]
    have hk : k ≤ 30 := by omega
    obtain ⟨W, P, r, c, v, q1, q2, p1, p2, q3, r1, q4, q5, q6⟩ := exp_way (y := y) hk
    have hvN : halve v c = expN y k := by
      have hw : W = y / 2 ^ k := by
        have : ((2 : Int) ^ k) = ((2 ^ k : Nat) : Int) := by simp
        rw [this, ← Int.natCast_ediv] at q1
        omega
      have hc : c = 30 - k + y / 2 ^ k := by omega
      have hr : r = y % 2 ^ k * 16 / 2 ^ k := by
        have : ((2 : Int) ^ k) = ((2 ^ k : Nat) : Int) := by simp
        rw [this, ← Int.natCast_emod] at q2
        rw [this, ← Int.natCast_ediv] at q3
        have : P = y % 2 ^ k := by omega
        rw [← this]
        omega
      unfold halve expN rowN
      rw [← q5, hc, hr]
    obtain ⟨U, hU⟩ : ∃ U, P * 16 = U := ⟨_, rfl⟩
    rw [hU] at q3
    have hV : expN y k ≤ 1073741824 := expN_up
    rw [show (k : Int).toNat = k from rfl]
    obtain ⟨V, hV2⟩ : ∃ V, expN y k = V := ⟨_, rfl⟩
    rw [hV2] at hV hvN ⊢
    have hvl : v ≤ 1073741824 := by rw [← q5]; exact rows_hi (by omega)
    have hT : (2 : Int) ^ k ≤ 1073741824 := by
      have : (2 : Int) ^ k = ((2 ^ k : Nat) : Int) := by simp
      have : 2 ^ k ≤ 2 ^ 30 := Nat.pow_le_pow_right (n := 2) (by decide) hk
      omega
    have hT1 : (1 : Int) ≤ (2 : Int) ^ k := by
      have : (2 : Int) ^ k = ((2 ^ k : Nat) : Int) := by simp
      have := Nat.two_pow_pos k
      omega
    have p3 : (P : Int) < 2 ^ k := by
      have : (2 : Int) ^ k = ((2 ^ k : Nat) : Int) := by simp
      omega
    have q5' : rowsI[r]? = some (v : Int) := by
      unfold rowsI
      rw [List.getElem?_map, List.getElem?_eq_getElem (show r < rowsN.length from r1)]
      rw [← q5, List.getD_eq_getElem?_getD, List.getElem?_eq_getElem (show r < rowsN.length from r1)]
      rfl
    have r2 : (r : Int) < 17 := by omega
    have y1 : (y : Int) ≤ 9223372036854775807 := by unfold I64 at hx; omega
    have t1 : IntKind.i64.wrap (2 ^ k) = (2 : Int) ^ k := by rw [IntKind.wrap_i64]; omega
    have t3 : IntKind.i64.wrap ((P : Int) * 16) = (U : Int) := by rw [IntKind.wrap_i64]; omega
    have n0 : ((2 : Int) ^ k == 0) = false := beq_eq_false_iff_ne.2 (by omega)
    have n1 : ¬ (2 : Int) ^ k = 0 := by omega
    have hWy : (W : Int) ≤ (y : Int) := by omega
    have t6 : wrap64 (W : Int) = (W : Int) := Go.IntWalk.wrap64_in _ (by omega)
    have t8 : IntKind.i64.wrap (r : Int) = (r : Int) := Go.IntWalk.i64_in _ (by omega)
    have t7 : wrap64 (r : Int) = (r : Int) := Go.IntWalk.wrap64_in _ (by omega)
    have HY1 := hid y1
    have HQ := hid q5'
    have HC := hid hvN
    have HC4 := hid q4
    clear hn e1 e2 k1 k2 hm hy hyx hU q4 q5 q6 q5' hV2 p1 p2 y1 hT p3 hx hvN hT1
    go_enter Try.func12, Try.ntmps12
    go_wp2_with fail
    refine (CN.out _).mono ?_
    rintro _ _ ⟨rfl, rfl⟩
    go_wp2_with fail
    go_region_law (first | (go_simp; go_at_call 17; refine (ref_Rows _).mono ?_; rintro _ w4 ⟨A4, c4, rfl, hr4, hb4⟩; obtain ⟨b4, o4, x4, rfl, l4, en4, m4⟩ := hr4.at_ (k := r) r1; obtain rfl : (v : Int) = x4 := Option.some.inj (HQ.out.symm.trans en4); clear hr4 en4))
    have HB4 : Hid (Below w.heap.size w w4) := hid ((Below.refl _ w).drew.trans hb4)
    clear hb4 l4 m4 q1 q2 q3 t1 t3 n0 n1 CN r1 r2 t8 t7 HQ
    obtain ⟨D, hD⟩ : ∃ D, 30 - k = D := ⟨_, rfl⟩
    have td : IntKind.i64.wrap (30 - (k : Int)) = (D : Int) := by rw [IntKind.wrap_i64]; omega
    have HD : Hid (30 - k = D) := hid hD
    have hD30 : D ≤ 30 := by omega
    have hWy2 : (W : Int) ≤ 9223372036854775807 := by have := HY1.out; omega
    have hVw : wrap64 (V : Int) = (V : Int) := Go.IntWalk.wrap64_in _ (by omega)
    have hh : ∀ n, halve v n ≤ 1073741824 := fun n => Nat.le_trans (Nat.div_le_self _ _) hvl
    have HH := hid hh
    clear hD hk hvl hh hV
    go_wp2_with fail
    go_loop [11, 48] (fun xo xn => ∃ n : Nat, n ≤ D ∧ xn = .int .i64 (n : Int) ∧ xo = .int .u64 (halve v n : Int)) (fun _ xn => D - (intOf xn).toNat)
    case atStart => exact ⟨0, by omega, rfl, by unfold halve; rw [Nat.pow_zero, Nat.div_one]⟩
    case round =>
      obtain ⟨n, hn, rfl, rfl⟩ := hrel
      by_cases hlt : n < D
      · obtain ⟨O, hO⟩ : ∃ O, halve v n = O := ⟨_, rfl⟩
        obtain ⟨O2, hO2⟩ : ∃ O2, halve v (n + 1) = O2 := ⟨_, rfl⟩
        have hs := halve_on v n
        rw [hO, hO2] at hs
        have hl := HH.out n
        rw [hO] at hl ⊢
        have q1 : (O : Int) / 2 = (O2 : Int) := by omega
        have q2 : IntKind.u64.wrap (O2 : Int) = (O2 : Int) := by rw [IntKind.wrap_u64]; omega
        have HO := hid hO2
        have hlt' : (n : Int) < (D : Int) := by omega
        clear hs hl hO hO2
        go_wp2_with fail
        go_round
        case rel => exact ⟨n + 1, by omega, by go_num, by rw [HO.out]⟩
        case measure => simp [intOf]; omega
      · obtain rfl : n = D := by omega
        obtain ⟨O, hO⟩ : ∃ O, halve v n = O := ⟨_, rfl⟩
        rw [hO]
        have HO := hid hO
        clear hO
        go_wp2_with fail
        go_loop [11, 12] (fun xo xi => ∃ i : Nat, i ≤ W ∧ xi = .int .i64 (i : Int) ∧ xo = .int .u64 (halve v (n + i) : Int)) (fun _ xi => W - (intOf xi).toNat)
        case atStart => exact ⟨0, by omega, rfl, by rw [Nat.add_zero, HO.out]⟩
        case round =>
          obtain ⟨i, hi, rfl, rfl⟩ := hrel
          by_cases hlt : i < W
          · obtain ⟨O', hO'⟩ : ∃ O', halve v (n + i) = O' := ⟨_, rfl⟩
            by_cases h0 : O' = 0
            · subst h0
              have hz : V = 0 := by
                rw [← HC.out, show c = n + i + (W - i) by have := HC4.out; have := HD.out; omega]
                exact halve_none hO' _
              subst hz
              rw [hO']
              have hlt' : (i : Int) < (W : Int) := by omega
              clear hO'
              go_wp2_with fail
              go_ret2
              exact ⟨rfl, HB4.out⟩
            · obtain ⟨O2, hO2⟩ : ∃ O2, halve v (n + (i + 1)) = O2 := ⟨_, rfl⟩
              have hs := halve_on v (n + i)
              rw [show n + i + 1 = n + (i + 1) from rfl, hO', hO2] at hs
              have hl := HH.out (n + i)
              rw [hO'] at hl ⊢
              have q1 : (O' : Int) / 2 = (O2 : Int) := by omega
              have q2 : IntKind.u64.wrap (O2 : Int) = (O2 : Int) := by rw [IntKind.wrap_u64]; omega
              have q3 : (O' : Int) > 0 := by omega
              have HO2 := hid hO2
              have hlt' : (i : Int) < (W : Int) := by omega
              have hw : IntKind.i64.wrap ((i : Int) + 1) = ((i + 1 : Nat) : Int) := by rw [IntKind.wrap_i64]; omega
              clear hs hl hO' hO2
              go_wp2_with fail
              go_round
              case rel => exact ⟨i + 1, by omega, by go_num, by rw [HO2.out]⟩
              case measure => simp [intOf]; omega
          · obtain rfl : i = W := by omega
            have hV0 : halve v (n + i) = V := by
              rw [← HC.out, show c = n + i by have := HC4.out; have := HD.out; omega]
            rw [hV0]
            clear hV0
            go_wp2_with fail
            go_ret2
            exact ⟨rfl, HB4.out⟩
end Go.Proofs.Ytnokomlekndgfaa
