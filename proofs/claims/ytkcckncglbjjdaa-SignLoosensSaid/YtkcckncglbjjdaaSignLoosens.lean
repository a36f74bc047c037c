
/-
  SignLoosens answers true for every input. No condition.
-/
import Derived.Test.YtkcckncglbjjdaaNg
import Derived.Test.YtkcckncglbjjdaaNf
import Derived.Test.YtkcckncglbjjdaaNd
import Derived.Test.YtkcckncglbjjdaaNd
namespace Go.Proofs.Ytkcckncglbjjdaa.SignLoosens
open Go.ChangeShapes Go.WideShapes Go.ChangeAt Go.RowKit
set_option maxHeartbeats 400000
set_option linter.unusedVariables false
open Go.Proofs.Ytkcckncglbjjdaa
theorem lo_at {v X : List Int} {M : Nat} (hX : lsgL (M : Int) (sgN v) = X) {k : Nat} {x : Int} (hx : v[k]? = some x) : X[k]? = some (if x < 0 then -(M : Int) else (M : Int)) := by
  rw [← hX]
  unfold lsgL
  rw [List.getElem?_map, sgN_at hx]
  simp
set_option maxHeartbeats 8000000 in
set_option maxRecDepth 100000 in
theorem walk (Av : Option Addr) (v : List Int) (cv : Nat) (w : World) (rv : Rd (Value.int .i64) w w.heap.size Av v) (uv : I64s v) (lv : v.length ≤ cv) (mv : cv ≤ 9223372036854775807) :
    Calls Try.prog 5 #[.slice Av v.length cv] w fun e w' => e = .returned (.bool true) ∧ Below w.heap.size w w' := by
  have HV := hid rv
  have hv : v.length ≤ 9223372036854775807 := by omega
  have CF := hid (fun W => sg_few (A := Av) (c := cv) (B := none) (d := 0) [] hv (by simp) (by simp) W (RdBs.nil W W.heap.size none))
  rw [show ([] : List (List Bool)).length = 0 from rfl] at CF
  by_cases hf : fewS v.length [] = true
  · rw [hf] at CF
    have CP := hid (fun W (h1 : Rd (Value.int .i64) W W.heap.size Av v) => sn_Press (A := Av) (c := cv) v uv hv W h1)
    by_cases hE : mnE v = 0
    · have CQ := hid (fun W h1 => (CP.out W h1).mono fun e w' => gs_parts hE)
      obtain ⟨z1, z2, z3, z4, z5, z6⟩ := sg_loose hE
      obtain ⟨s1, s2, s3⟩ := sizeV_is (mnE_ok.1 hE).2
      have hs0 := (mnE_ok.1 hE).2
      obtain ⟨M, hM⟩ : ∃ M, mnN v = M := ⟨_, rfl⟩
      rw [hM] at z3 z4 z5 z6
      have HRD := hid (fun (base : Nat) (w' : World) (A : Option Addr) (c : Nat) o => gs_rd (base := base) (w' := w') (A := A) (c := c) hE o)
      have CM := hid (fun A1 c1 W (h2 : RdS W W.heap.size (sgS v) ⟨none, 0, none, 0, none, 0, A1, c1⟩) => fs_May (sgS v) ⟨none, 0, none, 0, none, 0, A1, c1⟩ ((sgS_ln v).more (by decide)) sgS_wf W h2)
      rw [sg_may hE] at CM
      have CO := hid (fun A1 c1 W (h2 : RdS W W.heap.size (sgS v) ⟨none, 0, none, 0, none, 0, A1, c1⟩) => sn_Loosen (sgS v) ⟨none, 0, none, 0, none, 0, A1, c1⟩ ((sgS_ln v).more (by decide)) sgS_wf W h2)
      rw [z1, z2, z3] at CO
      have CI := hid (fun A1 c1 W (h1 : Rd (Value.int .i64) W W.heap.size Av v) (h2 : RdS W W.heap.size (sgS v) ⟨none, 0, none, 0, none, 0, A1, c1⟩) => sn_Is (A := Av) (c := cv) v uv hv (sgS v) ⟨none, 0, none, 0, none, 0, A1, c1⟩ ((sgS_ln v).more (by decide)) W h1 h2)
      rw [show isSB v (sgS v) = true by unfold isSB; rw [decide_eq_true hE, sameS_iff.2 rfl]; rfl] at CI
      rw [z3] at z4
      obtain ⟨X, hX⟩ : ∃ X, lsgL (M : Int) (sgN v) = X := ⟨_, rfl⟩
      rw [hX] at CO z4
      have HK := hid (fun k x (hx : v[k]? = some x) => lo_at hX hx)
      have hXl : X.length = v.length := by rw [← hX]; unfold lsgL; rw [List.length_map, sgN_len]
      have HXL := hid hXl
      have hMb : M ≤ 9223372036854775807 := by
        have h1 : 0 < v.length := List.length_pos_iff.2 (mnE_ok.1 hE).1
        have h2 : 1 * M ≤ v.length * M := Nat.mul_le_mul_right M h1
        omega
      have uX : I64s X := by
        rw [← hX]
        intro y hy
        unfold lsgL at hy
        obtain ⟨b, _, rfl⟩ := List.mem_map.1 hy
        unfold I64
        split <;> omega
      have CSv := hid (fun W (h1 : Rd (Value.int .i64) W W.heap.size Av v) => Size_any (A := Av) (c := cv) v hv uv W h1)
      rw [hs0, s3] at CSv
      have hXs : sizeE X = 0 := by rw [sizeE_is (by omega), if_pos (by omega)]
      have CSx := hid (fun A c W (h1 : Rd (Value.int .i64) W W.heap.size A X) => Size_any (A := A) (c := c) X (by omega) uX W h1)
      rw [hXs, (sizeV_is hXs).2.2] at CSx
      obtain ⟨Sa, hSa⟩ : ∃ Sa, sumS v = Sa := ⟨_, rfl⟩
      obtain ⟨Sb, hSb⟩ : ∃ Sb, sumS X = Sb := ⟨_, rfl⟩
      rw [hSa] at CSv z5 z6 s2
      rw [hSb] at CSx z4
      have hab : (Sb : Int) ≤ (Sa : Int) := by omega
      obtain ⟨Sd, hSd⟩ : ∃ Sd, Sa - Sb = Sd := ⟨_, rfl⟩
      have hd1 : (Sa : Int) - (Sb : Int) = (Sd : Int) := by omega
      have hd2 : (Sd : Int) < (v.length : Int) := by omega
      have hP := sgS_parts hE
      have e2 := sgN_len v
      rw [z3] at CQ hP
      rw [hP] at CM CO CI HRD
      have CM := hid (fun A1 c1 W h2 => show Calls Try.prog 27 #[.agg #[.int .i64 3, .int .i64 (v.length : Int), .slice none 0 0, .slice none 0 0, .int .i64 (M : Int), .int .i64 0, .slice none 0 0, .slice A1 v.length c1]] W fun e w' => e = .returned (.bool true) ∧ Below W.heap.size W w' by
        have h := CM.out A1 c1 W h2
        simp only [encT, e2, List.length_nil] at h
        exact h)
      have CO := hid (fun A1 c1 W h2 => show Calls Try.prog 16 #[.agg #[.int .i64 3, .int .i64 (v.length : Int), .slice none 0 0, .slice none 0 0, .int .i64 (M : Int), .int .i64 0, .slice none 0 0, .slice A1 v.length c1]] W (OwnE 2 .i64 W.heap.size X 0 W) by
        have h := CO.out A1 c1 W h2
        simp only [encT, e2, List.length_nil] at h
        exact h)
      have CI := hid (fun A1 c1 W h1 h2 => show Calls Try.prog 20 #[.slice Av v.length cv, .agg #[.int .i64 3, .int .i64 (v.length : Int), .slice none 0 0, .slice none 0 0, .int .i64 (M : Int), .int .i64 0, .slice none 0 0, .slice A1 v.length c1]] W fun e w' => e = .returned (.bool true) ∧ Below W.heap.size W w' by
        have h := CI.out A1 c1 W h1 h2
        simp only [encT, e2, List.length_nil] at h
        exact h)
      obtain ⟨NG, hNG⟩ : ∃ L, sgN v = L := ⟨_, rfl⟩
      rw [hNG] at CM CO CI HRD CQ
      obtain ⟨N, hN⟩ : ∃ N, -(M : Int) = N := ⟨_, rfl⟩
      rw [hN] at HK
      have hneg : IntKind.i64.wrap (-(M : Int)) = N := by rw [IntKind.wrap_i64]; omega
      have hneg2 : wrap64 (-(M : Int)) = N := by rw [wrap64_eq]; omega
      have hN0 : N ≤ 0 := by omega
      have HNM := hid (fun (h : M = 0) => show N = (M : Int) by omega)
      clear hf hE hM z1 z2 z3 z4 z5 z6 s1 s3 hs0 hXs hX hXl hP e2 hNG hN hSa hSb hSd CP uv rv uX
      go_enter Try.func5, Try.ntmps5
      go_wp2_with fail
      refine (sg_live _).mono ?_
      rintro _ w1 ⟨rfl, k1⟩
      go_wp2_with fail
      refine (CF.out w1).mono ?_
      rintro _ _ ⟨rfl, rfl⟩
      clear CF
      go_wp2_with fail
      refine (CQ.out w1 (HV.out.on k1)).mono ?_
      rintro _ w2 ⟨A2, c2, rfl, o1, hb2⟩
      have k2 := k1.trans (hb2.mono k1.size)
      have RD := hid (HRD.out _ w2 A2 c2 o1)
      have g2 := sg_grow w2 (.cells #[.int .i64 3, .int .i64 (v.length : Int), .slice none 0 0, .slice none 0 0, .int .i64 (M : Int), .int .i64 0, .slice none 0 0, .slice A2 v.length c2] 27)
      have n2 : BoxL (w2.alloc (.cells #[.int .i64 3, .int .i64 (v.length : Int), .slice none 0 0, .slice none 0 0, .int .i64 (M : Int), .int .i64 0, .slice none 0 0, .slice A2 v.length c2] 27)) w2.heap.size [.int .i64 3, .int .i64 (v.length : Int), .slice none 0 0, .slice none 0 0, .int .i64 (M : Int), .int .i64 0, .slice none 0 0, .slice A2 v.length c2] := BoxL.new w2 [.int .i64 3, .int .i64 (v.length : Int), .slice none 0 0, .slice none 0 0, .int .i64 (M : Int), .int .i64 0, .slice none 0 0, .slice A2 v.length c2] 27
      go_upto_region 7 with fail
      obtain ⟨w3, hw3⟩ : ∃ w3, w2.alloc (.cells #[.int .i64 3, .int .i64 (v.length : Int), .slice none 0 0, .slice none 0 0, .int .i64 (M : Int), .int .i64 0, .slice none 0 0, .slice A2 v.length c2] 27) = w3 := ⟨_, rfl⟩
      rw [hw3] at g2 n2 ⊢
      clear hw3 o1 hb2 HRD CQ
      have k3 := k2.trans (g2.mono k2.size)
      have RD3 := hid (RD.out.on g2)
      have XB := hid n2
      clear g2 n2 RD k1 k2
      obtain ⟨⟨f0, f1, f2, f3, f4, f5, f6, f7⟩, _⟩ := XB.out.eight
      go_wp2_with fail
      refine (CO.out _ _ w3 RD3.out).mono ?_
      rintro _ w4 ⟨A4, c4, rfl, o4, hb4⟩
      have k4 := k3.trans (hb4.mono k3.size)
      have RX := hid (own_rd o4)
      have RD4 := hid (RD3.out.on hb4)
      have XB4 := hid (XB.out.below hb4 (XB.out.lt (by simp)))
      clear o4 hb4 k3 RD3 XB CO f0 f1 f2 f3 f4 f5 f6 f7
      obtain ⟨⟨f0, f1, f2, f3, f4, f5, f6, f7⟩, _⟩ := XB4.out.eight
      go_wp2_with fail
      refine (CM.out _ _ w4 RD4.out).mono ?_
      rintro _ w5 ⟨rfl, hb5⟩
      have k5 := k4.trans (hb5.mono k4.size)
      have RX5 := hid (RX.out.on hb5)
      have RD5 := hid (RD4.out.on hb5)
      have XB5 := hid (XB4.out.below hb5 (XB4.out.lt (by simp)))
      clear hb5 k4 RX RD4 XB4 CM f0 f1 f2 f3 f4 f5 f6 f7
      obtain ⟨⟨f0, f1, f2, f3, f4, f5, f6, f7⟩, _⟩ := XB5.out.eight
      have tl : ((X.length : Int) != (v.length : Int)) = false := bne_eq_false_iff_eq.2 (by have := HXL.out; omega)
      have tl2 : (X.length != v.length) = false := bne_eq_false_iff_eq.2 HXL.out
      go_wp2_with fail
      refine (CI.out _ _ w5 (HV.out.on k5) RD5.out).mono ?_
      rintro _ w6 ⟨rfl, hb6⟩
      have k6 := k5.trans (hb6.mono k5.size)
      have RX6 := hid (RX5.out.on hb6)
      have XB6 := hid (XB5.out.below hb6 (XB5.out.lt (by simp)))
      have HV6 := hid ((HV.out.on k5).on hb6)
      clear hb6 k5 RX5 RD5 XB5 CI f0 f1 f2 f3 f4 f5 f6 f7
      go_wp2_with fail
      clear tl tl2
      go_loopw [8, 9, 61] (fun x8 x9 i wr => ∃ k : Nat, k ≤ v.length ∧ i = .int .i64 k ∧ ∃ n, wr = w6.drewN n) (fun _ _ i _ => v.length - (intOf i).toNat)
      case atStart => exact ⟨0, by omega, rfl, 0, rfl⟩
      case round =>
        obtain ⟨k, hk, rfl, n, rfl⟩ := hrel
        by_cases hlt : k < v.length
        · obtain ⟨b1, o1, x, rfl, l1, ex, d1⟩ := HV6.out.at_ hlt
          have hkX : k < X.length := by rw [HXL.out]; exact hlt
          obtain ⟨b2, o2, y, rfl, l2, ey, d2⟩ := RX6.out.at_ hkX
          have hy := HK.out k x ex
          rw [ey] at hy
          have hy2 : y = if x < 0 then N else (M : Int) := Option.some.inj hy
          have q4 := (XB6.out 4 _ rfl).1
          clear ex ey hy
          by_cases hx : x < 0
          · rw [if_pos hx] at hy2
            subst hy2
            have q1 : decide (x < 0) = true := decide_eq_true hx
            have q2 : decide (y > 0) = false := decide_eq_false (by omega)
            have q3 : decide (x > 0) = false := decide_eq_false (by omega)
            have t2 : (y != y) = false := by simp
            by_cases hm0 : M = 0
            · have t1 : (y != (M : Int)) = false := bne_eq_false_iff_eq.2 (HNM.out hm0)
              clear hm0
              go_wp2_with fail
              go_quiet (fail)
              go_wp2_with fail
              go_roundw
              case rel => exact ⟨k + 1, by omega, by go_num, _, rfl⟩
              case measure => simp [intOf]; omega
            · have t1 : (y != (M : Int)) = true := bne_iff_ne.2 (by omega)
              clear hm0
              go_wp2_with fail
              go_quiet (fail)
              go_wp2_with fail
              go_roundw
              case rel => exact ⟨k + 1, by omega, by go_num, _, rfl⟩
              case measure => simp [intOf]; omega
          · rw [if_neg hx] at hy2
            subst hy2
            have q1 : decide (x < 0) = false := decide_eq_false hx
            have q2 : decide ((M : Int) < 0) = false := decide_eq_false (by omega)
            have t1 : ((M : Int) != (M : Int)) = false := by simp
            by_cases hx0 : x > 0
            · have q3 : decide (x > 0) = true := decide_eq_true hx0
              go_wp2_with fail
              go_quiet (fail)
              go_wp2_with fail
              go_roundw
              case rel => exact ⟨k + 1, by omega, by go_num, _, rfl⟩
              case measure => simp [intOf]; omega
            · have q3 : decide (x > 0) = false := decide_eq_false hx0
              go_wp2_with fail
              go_quiet (fail)
              go_wp2_with fail
              go_roundw
              case rel => exact ⟨k + 1, by omega, by go_num, _, rfl⟩
              case measure => simp [intOf]; omega
        · have kd := belowN w6.heap.size w6 n
          have k7 := k6.trans (kd.mono k6.size)
          have HV7 := hid (HV6.out.on kd)
          have RX7 := hid (RX6.out.on kd)
          obtain ⟨w7, h7⟩ : ∃ w7, w6.drewN n = w7 := ⟨_, rfl⟩
          rw [h7] at k7 HV7 RX7 ⊢
          clear h7 kd HV6 RX6 k6
          go_wp2_with fail
          refine (CSv.out w7 HV7.out).mono ?_
          rintro _ w8 ⟨rfl, hb8⟩
          have k8 := k7.trans (hb8.mono k7.size)
          have RXe := hid (RX7.out.on hb8)
          clear hb8 k7 HV7 RX7 CSv
          go_wp2_with fail
          refine (CSx.out _ _ w8 RXe.out).mono ?_
          rintro _ w9 ⟨rfl, hb9⟩
          have k9 := k8.trans (hb9.mono k8.size)
          clear hb9 k8 RXe CSx
          go_wp2_with fail
          go_ret
          exact ⟨by simp, k9⟩
    · have CQ := hid (fun W h1 => (CP.out W h1).mono fun e w' => gs_none hE)
      obtain ⟨E, hEE⟩ : ∃ E, mnE v = E := ⟨_, rfl⟩
      rw [hEE] at CQ hE
      have hne : (E != 0) = true := by simpa using hE
      clear hf hE hEE CP uv rv
      go_enter Try.func5, Try.ntmps5
      go_wp2_with fail
      refine (sg_live _).mono ?_
      rintro _ w1 ⟨rfl, k1⟩
      go_wp2_with fail
      refine (CF.out w1).mono ?_
      rintro _ _ ⟨rfl, rfl⟩
      clear CF
      go_wp2_with fail
      refine (CQ.out w1 (HV.out.on k1)).mono ?_
      rintro _ w2 ⟨A2, c2, rfl, hb2⟩
      have k2 := k1.trans (hb2.mono k1.size)
      have k3 := k2.trans ((sg_grow w2 (.cells #[.int .i64 0, .int .i64 0, .slice none 0 0, .slice none 0 0, .int .i64 0, .int .i64 0, .slice none 0 0, .slice A2 0 c2] 27)).mono k2.size)
      go_wp2_with fail
      go_ret
      exact ⟨by simp, k3⟩
  · rw [Bool.eq_false_iff.2 hf] at CF
    clear hf rv uv
    go_enter Try.func5, Try.ntmps5
    go_wp2_with fail
    refine (sg_live _).mono ?_
    rintro _ w1 ⟨rfl, k1⟩
    go_wp2_with fail
    refine (CF.out w1).mono ?_
    rintro _ _ ⟨rfl, rfl⟩
    clear CF
    go_wp2_with fail
    go_ret
    exact ⟨rfl, k1⟩
theorem law_types : ∀ t ∈ Try.f5.params.toList, Try.prog.readableRec t = true ∧ t < Try.prog.types.size := by
  have h : (Try.f5.params.toList.all fun t => Try.prog.readableRec t && decide (t < Try.prog.types.size)) = true := by kernel_rfl
  intro t ht
  simpa using List.all_eq_true.1 h t ht
set_option maxRecDepth 100000 in
theorem lifted (os : Os) (started : os.Started) (H : Type) (enc : TypeId × Value → H) :
    ReturnsInHanded {} Try.checked os 5 .any (Rows.signLoosensSpec.pre6 enc Try.prog Try.f5 Rows.signLoosensRow.domain false) (Rows.signLoosensSpec.post enc Try.prog Try.f5 false true false false) := by
  refine returnsInHanded_of_change (C := Try.checked) own started (by kernel_rfl) Try.func5
    (ChangeSpec.witness6 (enc := enc) (C := Try.checked) false ⟨#[], #[.slice none 0 0], []⟩ 8 (by kernel_rfl) (by kernel_rfl) (by kernel_rfl) (by kernel_rfl)) ?_
  intro W base args ds gs before hval0 hW hcnd _
  have hval : ∀ (j : Nat) t v, Try.f5.params[j]? = some t → args[j]? = some v → Value.okWide Try.prog W .any base t v := hval0
  have hW' := hW
  obtain ⟨p, q, hA0, hV, rfl, hfz, hnd⟩ := hW
  have hA : DataW.TrodAll enc Try.prog W 0 (fun _ => true) true Try.f5.params.toList args.toList ds p := hA0
  rw [Try.params5] at hA hval
  obtain ⟨v0, vs0, d0, ds0, p0, q0, hargs, rfl, rfl, h0, r0⟩ := trodAll_cons hA
  obtain ⟨rfl, rfl, rfl⟩ := trodAll_nil r0
  obtain rfl : args = #[v0] := by cases args; simp_all
  obtain ⟨rfl, rfl⟩ := trodVars_none hV
  obtain ⟨Av, v, cv, rfl, rdv, iv, lcv, lmv⟩ := open_nums Try.underlying22 Try.underlying2 cells_i64' (hval 0 22 v0 rfl rfl) h0
  clear hA0 hval0
  refine (walk Av v cv W rdv (fun x hx => I64.of_wf (iv x hx)) lcv lmv).mono fun e W' ⟨he, hb⟩ => ?_
  subst he
  exact ⟨_, rfl, law_post laid (fun t ht => law_types t ht) rfl hW' ⟨rfl, rfl, rfl⟩ (by kernel_rfl) Try.underlying4 hb⟩

theorem over : Rows.signLoosensRow.holds Try.pinned (OpenSpec.ofChange Rows.signLoosensSpec) :=
  OpenClaim.holds_of_wide 5 Try.f5 rfl rfl rfl rfl rfl rfl rfl ⟨rfl, rfl, rfl, rfl, rfl⟩ rfl rfl rfl rfl rfl (by kernel_rfl) Try.func5 (by kernel_rfl)
    (of_decide_eq_true (by kernel_rfl)) (by unfold Func.isWrapper; first | (rw [if_pos (by decide +kernel)]; kernel_rfl) | (rw [if_neg (by decide +kernel)]; exact ⟨rfl, rfl⟩))
    (fun os started H enc _ => lifted os started H enc)

theorem proved : Rows.SignLoosensSaid := over
end Go.Proofs.Ytkcckncglbjjdaa.SignLoosens
