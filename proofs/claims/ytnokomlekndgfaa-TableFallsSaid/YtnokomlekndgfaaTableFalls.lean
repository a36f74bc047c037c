
/-
  TableFalls answers true for every input. No condition.
-/
import Derived.Test.YtnokomlekndgfaaTbLv
import Derived.Test.YtnokomlekndgfaaArg
import Derived.Test.YtnokomlekndgfaaLaw
namespace Go.Proofs.Ytnokomlekndgfaa.TableFalls
open Go.ChangeShapes Go.WideShapes Go.ChangeAt Go.RowKit
set_option maxHeartbeats 400000
set_option linter.unusedVariables false
open Go.Proofs.Ytnokomlekndgfaa
theorem exp_inv {frac x : Int} (h : expE frac x = 0) : 0 ≤ frac ∧ frac ≤ 30 ∧ x ≤ 0 ∧ x ≠ -9223372036854775808 ∧ expV frac x = (expN (-x).toNat frac.toNat : Int) := by
  by_cases h1 : frac < 0 ∨ 30 < frac ∨ 0 < x
  · rw [(exp_bad h1).1] at h; exact absurd h (by decide)
  · by_cases h2 : x = -9223372036854775808
    · rw [(exp_min h1 h2).1] at h; exact absurd h (by decide)
    · exact ⟨by omega, by omega, by omega, h2, (exp_ok h1 h2).2⟩
theorem falls_ok {frac lo hi : Int} (h1 : expE frac lo = 0) (h2 : expE frac hi = 0) (hle : lo ≤ hi) (hlo : I64 lo) :
    ∃ k a b T : Nat, frac = (k : Int) ∧ k ≤ 30 ∧ 2 ^ k = T ∧ expV frac lo = (a : Int) ∧ expV frac hi = (b : Int) ∧ a ≤ b ∧ b ≤ T ∧ T ≤ 1073741824 ∧ (lo = 0 → a = T) ∧
      (-4611686018427387904 ≤ lo → expE frac (lo - (T : Int)) = 0 ∧ expV frac (lo - (T : Int)) = ((a / 2 : Nat) : Int)) := by
  obtain ⟨f0, f1, l0, l1, e1⟩ := exp_inv h1
  obtain ⟨_, _, l2, l3, e2⟩ := exp_inv h2
  obtain ⟨k, rfl⟩ : ∃ k : Nat, frac = (k : Int) := ⟨frac.toNat, by omega⟩
  have hk : k ≤ 30 := by omega
  have hT : 2 ^ k ≤ 2 ^ 30 := Nat.pow_le_pow_right (n := 2) (by decide) hk
  have hT1 := Nat.two_pow_pos k
  refine ⟨k, expN (-lo).toNat k, expN (-hi).toNat k, 2 ^ k, rfl, hk, rfl, e1, e2, expN_down (by omega), expN_le hk, by omega, ?_, ?_⟩
  · intro h
    subst h
    exact expN_zero hk
  · intro h
    have hc : ((2 ^ k : Nat) : Int) = ((2 ^ k : Nat) : Int) := rfl
    obtain ⟨g1, g2⟩ := exp_ok (frac := (k : Int)) (x := lo - ((2 ^ k : Nat) : Int)) (by omega) (by omega)
    refine ⟨g1, ?_⟩
    rw [g2]
    have e : (-(lo - ((2 ^ k : Nat) : Int))).toNat = (-lo).toNat + 2 ^ k := by omega
    rw [e, show (k : Int).toNat = k from rfl, expN_half]
theorem pow_wrap {k T : Nat} (hk : k ≤ 30) (hT : 2 ^ k = T) : IntKind.i64.wrap ((2 : Int) ^ k) = (T : Int) ∧ wrap64 ((2 : Int) ^ (min k 64)) = (T : Int) ∧ IntKind.i64.wrap ((2 : Int) ^ (min k 64)) = (T : Int) := by
  have e : (2 : Int) ^ k = (T : Int) := by rw [← hT]; simp
  have h : T ≤ 2 ^ 30 := by rw [← hT]; exact Nat.pow_le_pow_right (n := 2) (by decide) hk
  have hm : min k 64 = k := Nat.min_eq_left (by omega)
  rw [hm, e]
  clear e hm hT hk
  exact ⟨Go.IntWalk.i64_in _ (by omega), Go.IntWalk.wrap64_in _ (by omega), Go.IntWalk.i64_in _ (by omega)⟩
theorem falls_cmp {a b T k : Nat} (h1 : a ≤ b) (h2 : b ≤ T) : ¬ (a : Int) > (b : Int) ∧ ¬ (b : Int) > (T : Int) ∧ ¬ (a : Int) < 0 ∧ ¬ (k : Int) < 0 := by omega
theorem falls_i64 {lo : Int} {T : Nat} (h : I64 lo) (h2 : -4611686018427387904 ≤ lo) (h3 : T ≤ 1073741824) : I64 (lo - (T : Int)) := by unfold I64 at *; omega
theorem falls_half {a a2 : Nat} (h : a / 2 = a2) (ha : a ≤ 1073741824) : (a : Int) / 2 = (a2 : Int) ∧ wrap64 (a2 : Int) = (a2 : Int) ∧ IntKind.i64.wrap (a2 : Int) = (a2 : Int) :=
  ⟨by omega, Go.IntWalk.wrap64_in _ (by omega), Go.IntWalk.i64_in _ (by omega)⟩
theorem rowsI_at {k : Nat} (h : k < 17) : rowsI[k]? = some ((rowsN.getD k 0 : Nat) : Int) := by
  unfold rowsI
  rw [List.getElem?_map, List.getD_eq_getElem?_getD, List.getElem?_eq_getElem (show k < rowsN.length from h)]
  rfl
set_option maxHeartbeats 2000000 in
set_option maxRecDepth 100000 in
theorem walk (x y frac : Int) (hx : I64 x) (hy : I64 y) (hf : I64 frac) (w : World) :
    Calls Try.prog 6 #[.int .i64 x, .int .i64 y, .int .i64 frac] w fun e w' => e = .returned (.bool true) ∧ Below w.heap.size w w' := by
  have CX := hid (fun W => tb_Exp frac x hx W)
  have CY := hid (fun W => tb_Exp frac y hy W)
  have HIX := hid hx
  have HIY := hid hy
  clear hx hy hf
  go_enter Try.func6, Try.ntmps6
  go_wp2_with fail
  refine (tb_live _).mono ?_
  rintro _ w1 ⟨rfl, k1⟩
  have K1 := hid k1
  clear k1
  go_wp2_with fail
  refine (tb_Rows _).mono ?_
  rintro _ w2 ⟨A2, c2, rfl, r2, h2⟩
  have K2 : Hid (Below w.heap.size w w2) := hid (K1.out.trans (h2.mono K1.out.size))
  obtain ⟨b, o, v0, rfl, _, e0, m0⟩ := r2.at_ (k := 0) (by decide)
  obtain ⟨b', o', v16, e', _, e16, m16⟩ := r2.at_ (k := 16) (by decide)
  cases e'
  obtain rfl : (1073741824 : Int) = v0 := Option.some.inj ((show rowsI[0]? = some 1073741824 from rfl).symm.trans e0)
  obtain rfl : (536870912 : Int) = v16 := Option.some.inj ((show rowsI[16]? = some 536870912 from rfl).symm.trans e16)
  rw [Nat.add_zero] at m0
  have R2 := hid r2
  clear h2 K1 r2 e0 e16
  go_wp2_with fail
  go_loopw [9] (fun xi wr => ∃ i : Nat, 1 ≤ i ∧ i ≤ 17 ∧ xi = .int .i64 (i : Int) ∧ Rd (Value.int .u64) wr wr.heap.size (some ⟨b, o, none⟩) rowsI ∧ Below w.heap.size w wr) (fun xi _ => 17 - (intOf xi).toNat)
  case atStart => exact ⟨1, by decide, by decide, rfl, R2.out, K2.out⟩
  case round =>
    obtain ⟨i, h1, h2, rfl, hr, hb⟩ := hrel
    have HR := hid hr
    have HB := hid hb
    clear K2 R2 hb m0 m16
    by_cases hlt : i < 17
    · obtain ⟨j, rfl⟩ : ∃ j, i = j + 1 := ⟨i - 1, by omega⟩
      obtain ⟨b1, o1, v1, q1, _, e1, m1⟩ := hr.at_ (k := j + 1) hlt
      obtain ⟨b3, o3, v3, q3, _, e3, m3⟩ := hr.at_ (k := j) (by rw [rowsI_len]; omega)
      cases q1
      cases q3
      obtain rfl := Option.some.inj ((rowsI_at hlt).symm.trans e1)
      obtain rfl := Option.some.inj ((rowsI_at (show j < 17 by omega)).symm.trans e3)
      have hfall := rows_fall j (by omega)
      obtain ⟨p, hp⟩ : ∃ p, rowsN.getD (j + 1) 0 = p := ⟨_, rfl⟩
      obtain ⟨q, hq⟩ : ∃ q, rowsN.getD j 0 = q := ⟨_, rfl⟩
      obtain ⟨i, hi⟩ : ∃ i, j + 1 = i := ⟨_, rfl⟩
      rw [hp] at m1 hfall
      rw [hq] at m3 hfall
      rw [hi] at m1 h1 h2 hlt ⊢
      have hge : ¬ (p : Int) ≥ (q : Int) := by omega
      have t1 : IntKind.i64.wrap ((i : Int) - 1) = (j : Int) := by rw [IntKind.wrap_i64]; omega
      have hj17 : (j : Int) < 17 := by omega
      have hi17 : (i : Int) < 17 := by omega
      clear e1 e3 hp hq hfall hi hr
      go_wp2_with fail
      go_region
      go_wp2_with fail
      go_roundw
      case rel => exact ⟨i + 1, by omega, by omega, by go_num, HR.out.on (Below.refl _ _).drew, HB.out.drew⟩
      case measure => simp [intOf]; omega
    · obtain rfl : i = 17 := by omega
      clear hr HR
      by_cases hsw : y < x
      · rcases Decidable.em (expE frac y = 0) with hE1 | hE1
        · rcases Decidable.em (expE frac x = 0) with hE2 | hE2
          · obtain ⟨k, a, b2, T, rfl, hk, hT, va, vb, hab, hbT, hT3, hz, hh⟩ := falls_ok hE1 hE2 (Int.le_of_lt hsw) HIY.out
            have ca := CY
            rw [va, hE1] at ca
            have cb := CX
            rw [vb, hE2] at cb
            obtain ⟨q1, q1b, q1c⟩ := pow_wrap hk hT
            have HH := hid hh
            have HZ := hid hz
            clear hh hz hT
            obtain ⟨q2, q3, q0, kge⟩ := falls_cmp (a := a) (b := b2) (T := T) (k := k) hab hbT
            have HA3 := hid (Nat.le_trans (Nat.le_trans hab hbT) hT3)
            have HT3 := hid hT3
            clear hab hbT hT3
            by_cases hlow : y < -4611686018427387904
            · have t0 : (y == 0) = false := beq_eq_false_iff_ne.2 (fun e => absurd (e ▸ hlow) (by decide))
              have hop : ∀ t, binOp .lss t (.int .i64 y) (.int .i64 (-4611686018427387904)) = pure (.bool true) := fun t => by rw [binOp_lss, decide_eq_true hlow]
              clear hE1 hE2 hk va vb hlow
              go_wp2_with fail
              refine (ca.out _).mono ?_
              rintro _ w3 ⟨rfl, h3⟩
              have K3 : Hid (Below w.heap.size w w3) := hid (HB.out.trans (h3.mono HB.out.size))
              clear h3
              go_wp2_with fail
              refine (cb.out _).mono ?_
              rintro _ w4 ⟨rfl, h4⟩
              have K4 : Hid (Below w.heap.size w w4) := hid (K3.out.trans (h4.mono K3.out.size))
              clear h4
              go_wp2_with fail
              go_ret
              exact ⟨rfl, K4.out⟩
            · have hop : ∀ t, binOp .lss t (.int .i64 y) (.int .i64 (-4611686018427387904)) = pure (.bool false) := fun t => by rw [binOp_lss, decide_eq_false hlow]
              obtain ⟨g1, g2⟩ := HH.out (Int.not_lt.1 hlow)
              have hd := falls_i64 HIY.out (Int.not_lt.1 hlow) HT3.out
              have cc := hid (fun W => tb_Exp (k : Int) (y - (T : Int)) hd W)
              rw [g1, g2] at cc
              obtain ⟨D, hD⟩ : ∃ D, y - (T : Int) = D := ⟨_, rfl⟩
              obtain ⟨a2, ha2⟩ : ∃ a2, a / 2 = a2 := ⟨_, rfl⟩
              rw [hD, ha2] at cc
              have q4 : IntKind.i64.wrap (y - (T : Int)) = D := by rw [hD]; exact Go.IntWalk.i64_in _ (by rw [← hD]; exact hd)
              obtain ⟨q5, q6, q7⟩ := falls_half ha2 HA3.out
              by_cases h0 : y = 0
              · have haT := HZ.out h0
                have t0 : (y == 0) = true := by rw [h0]; rfl
                have t1 : ((a : Int) != (T : Int)) = false := by rw [haT]; simp
                have ea := hid haT
                clear hE1 hE2 hk va vb g1 g2 hd hD ha2 haT h0 hlow
                go_wp2_with fail
                refine (ca.out _).mono ?_
                rintro _ w3 ⟨rfl, h3⟩
                have K3 : Hid (Below w.heap.size w w3) := hid (HB.out.trans (h3.mono HB.out.size))
                clear h3
                go_wp2_with fail
                refine (cb.out _).mono ?_
                rintro _ w4 ⟨rfl, h4⟩
                have K4 : Hid (Below w.heap.size w w4) := hid (K3.out.trans (h4.mono K3.out.size))
                clear h4
                go_wp2_with fail
                refine (cc.out _).mono ?_
                rintro _ w5 ⟨rfl, h5⟩
                have K5 : Hid (Below w.heap.size w w5) := hid (K4.out.trans (h5.mono K4.out.size))
                clear h5
                go_wp2_with fail
                go_ret
                exact ⟨rfl, K5.out⟩
              · have t0 : (y == 0) = false := beq_eq_false_iff_ne.2 h0
                clear hE1 hE2 hk va vb g1 g2 hd hD ha2 h0 hlow
                go_wp2_with fail
                refine (ca.out _).mono ?_
                rintro _ w3 ⟨rfl, h3⟩
                have K3 : Hid (Below w.heap.size w w3) := hid (HB.out.trans (h3.mono HB.out.size))
                clear h3
                go_wp2_with fail
                refine (cb.out _).mono ?_
                rintro _ w4 ⟨rfl, h4⟩
                have K4 : Hid (Below w.heap.size w w4) := hid (K3.out.trans (h4.mono K3.out.size))
                clear h4
                go_wp2_with fail
                refine (cc.out _).mono ?_
                rintro _ w5 ⟨rfl, h5⟩
                have K5 : Hid (Below w.heap.size w w5) := hid (K4.out.trans (h5.mono K4.out.size))
                clear h5
                go_wp2_with fail
                go_ret
                exact ⟨rfl, K5.out⟩
          · have ca := CY
            rw [hE1] at ca
            have cb := CX
            have hne : (expE frac x != 0) = true := by simpa using hE2
            obtain ⟨E2, hE⟩ : ∃ E2, expE frac x = E2 := ⟨_, rfl⟩
            obtain ⟨V1, hV1⟩ : ∃ V1, expV frac y = V1 := ⟨_, rfl⟩
            obtain ⟨V2, hV2⟩ : ∃ V2, expV frac x = V2 := ⟨_, rfl⟩
            rw [hE] at cb hne
            rw [hV1] at ca
            rw [hV2] at cb
            clear hE1 hE2 hE hV1 hV2
            go_wp2_with fail
            refine (ca.out _).mono ?_
            rintro _ w3 ⟨rfl, h3⟩
            have K3 : Hid (Below w.heap.size w w3) := hid (HB.out.trans (h3.mono HB.out.size))
            clear h3
            go_wp2_with fail
            refine (cb.out _).mono ?_
            rintro _ w4 ⟨rfl, h4⟩
            have K4 : Hid (Below w.heap.size w w4) := hid (K3.out.trans (h4.mono K3.out.size))
            clear h4
            go_wp2_with fail
            go_ret
            exact ⟨rfl, K4.out⟩
        · have ca := CY
          have cb := CX
          have hne : (expE frac y != 0) = true := by simpa using hE1
          obtain ⟨E1, hE⟩ : ∃ E1, expE frac y = E1 := ⟨_, rfl⟩
          obtain ⟨E2, hE2⟩ : ∃ E2, expE frac x = E2 := ⟨_, rfl⟩
          obtain ⟨V1, hV1⟩ : ∃ V1, expV frac y = V1 := ⟨_, rfl⟩
          obtain ⟨V2, hV2⟩ : ∃ V2, expV frac x = V2 := ⟨_, rfl⟩
          rw [hE] at ca hne
          rw [hE2] at cb
          rw [hV1] at ca
          rw [hV2] at cb
          clear hE1 hE2 hE hV1 hV2
          go_wp2_with fail
          refine (ca.out _).mono ?_
          rintro _ w3 ⟨rfl, h3⟩
          have K3 : Hid (Below w.heap.size w w3) := hid (HB.out.trans (h3.mono HB.out.size))
          clear h3
          go_wp2_with fail
          refine (cb.out _).mono ?_
          rintro _ w4 ⟨rfl, h4⟩
          have K4 : Hid (Below w.heap.size w w4) := hid (K3.out.trans (h4.mono K3.out.size))
          clear h4
          go_wp2_with fail
          go_ret
          exact ⟨rfl, K4.out⟩
      · have hsw' := hsw
        rcases Decidable.em (expE frac x = 0) with hE1 | hE1
        · rcases Decidable.em (expE frac y = 0) with hE2 | hE2
          · obtain ⟨k, a, b2, T, rfl, hk, hT, va, vb, hab, hbT, hT3, hz, hh⟩ := falls_ok hE1 hE2 (Int.not_lt.1 hsw) HIX.out
            have ca := CX
            rw [va, hE1] at ca
            have cb := CY
            rw [vb, hE2] at cb
            obtain ⟨q1, q1b, q1c⟩ := pow_wrap hk hT
            have HH := hid hh
            have HZ := hid hz
            clear hh hz hT
            obtain ⟨q2, q3, q0, kge⟩ := falls_cmp (a := a) (b := b2) (T := T) (k := k) hab hbT
            have HA3 := hid (Nat.le_trans (Nat.le_trans hab hbT) hT3)
            have HT3 := hid hT3
            clear hab hbT hT3
            by_cases hlow : x < -4611686018427387904
            · have t0 : (x == 0) = false := beq_eq_false_iff_ne.2 (fun e => absurd (e ▸ hlow) (by decide))
              have hop : ∀ t, binOp .lss t (.int .i64 x) (.int .i64 (-4611686018427387904)) = pure (.bool true) := fun t => by rw [binOp_lss, decide_eq_true hlow]
              clear hE1 hE2 hk va vb hlow
              go_wp2_with fail
              refine (ca.out _).mono ?_
              rintro _ w3 ⟨rfl, h3⟩
              have K3 : Hid (Below w.heap.size w w3) := hid (HB.out.trans (h3.mono HB.out.size))
              clear h3
              go_wp2_with fail
              refine (cb.out _).mono ?_
              rintro _ w4 ⟨rfl, h4⟩
              have K4 : Hid (Below w.heap.size w w4) := hid (K3.out.trans (h4.mono K3.out.size))
              clear h4
              go_wp2_with fail
              go_ret
              exact ⟨rfl, K4.out⟩
            · have hop : ∀ t, binOp .lss t (.int .i64 x) (.int .i64 (-4611686018427387904)) = pure (.bool false) := fun t => by rw [binOp_lss, decide_eq_false hlow]
              obtain ⟨g1, g2⟩ := HH.out (Int.not_lt.1 hlow)
              have hd := falls_i64 HIX.out (Int.not_lt.1 hlow) HT3.out
              have cc := hid (fun W => tb_Exp (k : Int) (x - (T : Int)) hd W)
              rw [g1, g2] at cc
              obtain ⟨D, hD⟩ : ∃ D, x - (T : Int) = D := ⟨_, rfl⟩
              obtain ⟨a2, ha2⟩ : ∃ a2, a / 2 = a2 := ⟨_, rfl⟩
              rw [hD, ha2] at cc
              have q4 : IntKind.i64.wrap (x - (T : Int)) = D := by rw [hD]; exact Go.IntWalk.i64_in _ (by rw [← hD]; exact hd)
              obtain ⟨q5, q6, q7⟩ := falls_half ha2 HA3.out
              by_cases h0 : x = 0
              · have haT := HZ.out h0
                have t0 : (x == 0) = true := by rw [h0]; rfl
                have t1 : ((a : Int) != (T : Int)) = false := by rw [haT]; simp
                have ea := hid haT
                clear hE1 hE2 hk va vb g1 g2 hd hD ha2 haT h0 hlow
                go_wp2_with fail
                refine (ca.out _).mono ?_
                rintro _ w3 ⟨rfl, h3⟩
                have K3 : Hid (Below w.heap.size w w3) := hid (HB.out.trans (h3.mono HB.out.size))
                clear h3
                go_wp2_with fail
                refine (cb.out _).mono ?_
                rintro _ w4 ⟨rfl, h4⟩
                have K4 : Hid (Below w.heap.size w w4) := hid (K3.out.trans (h4.mono K3.out.size))
                clear h4
                go_wp2_with fail
                refine (cc.out _).mono ?_
                rintro _ w5 ⟨rfl, h5⟩
                have K5 : Hid (Below w.heap.size w w5) := hid (K4.out.trans (h5.mono K4.out.size))
                clear h5
                go_wp2_with fail
                go_ret
                exact ⟨rfl, K5.out⟩
              · have t0 : (x == 0) = false := beq_eq_false_iff_ne.2 h0
                clear hE1 hE2 hk va vb g1 g2 hd hD ha2 h0 hlow
                go_wp2_with fail
                refine (ca.out _).mono ?_
                rintro _ w3 ⟨rfl, h3⟩
                have K3 : Hid (Below w.heap.size w w3) := hid (HB.out.trans (h3.mono HB.out.size))
                clear h3
                go_wp2_with fail
                refine (cb.out _).mono ?_
                rintro _ w4 ⟨rfl, h4⟩
                have K4 : Hid (Below w.heap.size w w4) := hid (K3.out.trans (h4.mono K3.out.size))
                clear h4
                go_wp2_with fail
                refine (cc.out _).mono ?_
                rintro _ w5 ⟨rfl, h5⟩
                have K5 : Hid (Below w.heap.size w w5) := hid (K4.out.trans (h5.mono K4.out.size))
                clear h5
                go_wp2_with fail
                go_ret
                exact ⟨rfl, K5.out⟩
          · have ca := CX
            rw [hE1] at ca
            have cb := CY
            have hne : (expE frac y != 0) = true := by simpa using hE2
            obtain ⟨E2, hE⟩ : ∃ E2, expE frac y = E2 := ⟨_, rfl⟩
            obtain ⟨V1, hV1⟩ : ∃ V1, expV frac x = V1 := ⟨_, rfl⟩
            obtain ⟨V2, hV2⟩ : ∃ V2, expV frac y = V2 := ⟨_, rfl⟩
            rw [hE] at cb hne
            rw [hV1] at ca
            rw [hV2] at cb
            clear hE1 hE2 hE hV1 hV2
            go_wp2_with fail
            refine (ca.out _).mono ?_
            rintro _ w3 ⟨rfl, h3⟩
            have K3 : Hid (Below w.heap.size w w3) := hid (HB.out.trans (h3.mono HB.out.size))
            clear h3
            go_wp2_with fail
            refine (cb.out _).mono ?_
            rintro _ w4 ⟨rfl, h4⟩
            have K4 : Hid (Below w.heap.size w w4) := hid (K3.out.trans (h4.mono K3.out.size))
            clear h4
            go_wp2_with fail
            go_ret
            exact ⟨rfl, K4.out⟩
        · have ca := CX
          have cb := CY
          have hne : (expE frac x != 0) = true := by simpa using hE1
          obtain ⟨E1, hE⟩ : ∃ E1, expE frac x = E1 := ⟨_, rfl⟩
          obtain ⟨E2, hE2⟩ : ∃ E2, expE frac y = E2 := ⟨_, rfl⟩
          obtain ⟨V1, hV1⟩ : ∃ V1, expV frac x = V1 := ⟨_, rfl⟩
          obtain ⟨V2, hV2⟩ : ∃ V2, expV frac y = V2 := ⟨_, rfl⟩
          rw [hE] at ca hne
          rw [hE2] at cb
          rw [hV1] at ca
          rw [hV2] at cb
          clear hE1 hE2 hE hV1 hV2
          go_wp2_with fail
          refine (ca.out _).mono ?_
          rintro _ w3 ⟨rfl, h3⟩
          have K3 : Hid (Below w.heap.size w w3) := hid (HB.out.trans (h3.mono HB.out.size))
          clear h3
          go_wp2_with fail
          refine (cb.out _).mono ?_
          rintro _ w4 ⟨rfl, h4⟩
          have K4 : Hid (Below w.heap.size w w4) := hid (K3.out.trans (h4.mono K3.out.size))
          clear h4
          go_wp2_with fail
          go_ret
          exact ⟨rfl, K4.out⟩
theorem law_types : ∀ t ∈ Try.f6.params.toList, Try.prog.readableRec t = true ∧ t < Try.prog.types.size := by
  have h : (Try.f6.params.toList.all fun t => Try.prog.readableRec t && decide (t < Try.prog.types.size)) = true := by kernel_rfl
  intro t ht
  simpa using List.all_eq_true.1 h t ht
set_option maxRecDepth 100000 in
theorem lifted (os : Os) (started : os.Started) (H : Type) (enc : TypeId × Value → H) :
    ReturnsInHanded {} Try.checked os 6 .any (Rows.tableFallsSpec.pre6 enc Try.prog Try.f6 Rows.tableFallsRow.domain false) (Rows.tableFallsSpec.post enc Try.prog Try.f6 false true false false) := by
  refine returnsInHanded_of_change (C := Try.checked) own started (by kernel_rfl) Try.func6
    (ChangeSpec.witness6 (enc := enc) (C := Try.checked) false ⟨#[], #[.int .i64 0, .int .i64 0, .int .i64 0], []⟩ 8 (by kernel_rfl) (by kernel_rfl) (by kernel_rfl) (by kernel_rfl)) ?_
  intro W base args ds gs before hval0 hW hcnd _
  have hval : ∀ (j : Nat) t v, Try.f6.params[j]? = some t → args[j]? = some v → Value.okWide Try.prog W .any base t v := hval0
  have hW' := hW
  obtain ⟨p, q, hA0, hV, rfl, hfz, hnd⟩ := hW
  have hA : DataW.TrodAll enc Try.prog W 0 (fun _ => true) true Try.f6.params.toList args.toList ds p := hA0
  rw [Try.params6] at hA hval
  obtain ⟨v0, vs0, d0, ds0, p0, q0, hargs, rfl, rfl, h0, r0⟩ := trodAll_cons hA
  obtain ⟨v1, vs1, d1, ds1, p1, q1, rfl, rfl, rfl, h1, r1⟩ := trodAll_cons r0
  obtain ⟨v2, vs2, d2, ds2, p2, q2, rfl, rfl, rfl, h2, r2⟩ := trodAll_cons r1
  obtain ⟨rfl, rfl, rfl⟩ := trodAll_nil r2
  obtain rfl : args = #[v0, v1, v2] := by cases args; simp_all
  obtain ⟨rfl, rfl⟩ := trodVars_none hV
  obtain ⟨x, rfl, rfl, rfl, w0⟩ := open_int Try.underlying2 (hval 0 2 v0 rfl rfl) h0
  obtain ⟨y, rfl, rfl, rfl, w1⟩ := open_int Try.underlying2 (hval 1 2 v1 rfl rfl) h1
  obtain ⟨frac, rfl, rfl, rfl, w2⟩ := open_int Try.underlying3 (hval 2 3 v2 rfl rfl) h2
  clear hA0 hval0
  refine (walk x y frac (I64.of_wf w0) (I64.of_wf w1) (I64.of_wf w2) W).mono fun e W' ⟨he, hb⟩ => ?_
  subst he
  exact ⟨_, rfl, law_post laid (fun t ht => law_types t ht) rfl hW' ⟨rfl, rfl, rfl⟩ (by kernel_rfl) Try.underlying4 hb⟩

theorem over : Rows.tableFallsRow.holds Try.pinned (OpenSpec.ofChange Rows.tableFallsSpec) :=
  OpenClaim.holds_of_wide 6 Try.f6 rfl rfl rfl rfl rfl rfl rfl ⟨rfl, rfl, rfl, rfl, rfl⟩ rfl rfl rfl rfl rfl (by kernel_rfl) Try.func6 (by kernel_rfl)
    (of_decide_eq_true (by kernel_rfl)) (by unfold Func.isWrapper; first | (rw [if_pos (by decide +kernel)]; kernel_rfl) | (rw [if_neg (by decide +kernel)]; exact ⟨rfl, rfl⟩))
    (fun os started H enc _ => lifted os started H enc)

theorem proved : Rows.TableFallsSaid := over
end Go.Proofs.Ytnokomlekndgfaa.TableFalls
