
/-
  PressAgain answers true for every input. No condition.
-/
import Derived.Test.YtecgbelgoomneaaGreatYi
import Derived.Test.YtecgbelgoomneaaGreatYe
import Derived.Test.YtecgbelgoomneaaGreatYc
namespace Go.Proofs.YtecgbelgoomneaaGreat.PressAgain
open Go.ChangeShapes Go.WideShapes Go.ChangeAt Go.RowKit
set_option maxHeartbeats 400000
set_option linter.unusedVariables false
open Go.Proofs.YtecgbelgoomneaaGreat
set_option maxHeartbeats 8000000 in
set_option maxRecDepth 100000 in
theorem walk (hs hk hw : Int) (Av : Option Addr) (v : List Int) (cv : Nat) (seed : Int) (w : World) (ihs : I64 hs) (ihk : I64 hk) (ihw : I64 hw) (rv : Rd (Value.int .i64) w w.heap.size Av v) (uv : I64s v) (lv : v.length ≤ cv) (mv : cv ≤ 9223372036854775807) (us : U64 seed) :
    Calls Tryz.prog 8 #[.agg #[.int .i64 hs, .int .i64 hk, .int .i64 hw], .slice Av v.length cv, .int .u64 seed] w fun e w' => e = .returned (.bool true) ∧ Below w.heap.size w w' := by
  have HV := hid rv
  have hv : v.length ≤ 9223372036854775807 := by omega
  have CF := hid (fun W (h : Rd (Value.int .i64) W W.heap.size Av v) => pf_one (A := Av) (c := cv) none 0 0 (by decide) v hv W h)
  have HBX := hid (BoxL.new w [.int .i64 hs, .int .i64 hk, .int .i64 hw] 23)
  obtain ⟨sd, rfl⟩ := Int.eq_ofNat_of_zero_le us.1
  have hsd : sd < 2 ^ 64 := by have := us.2; omega
  obtain ⟨sd1, hsd1⟩ : ∃ x, (sd + 1) % 18446744073709551616 = x := ⟨_, rfl⟩
  have hsd2 : sd1 < 2 ^ 64 := by omega
  have hwr : IntKind.u64.wrap ((sd : Int) + 1) = (sd1 : Int) := by rw [IntKind.wrap_u64]; omega
  clear us
  by_cases hf : fewP 0 [v] = true
  · rw [hf] at CF
    clear hf
    by_cases h200 : (v.length : Int) > 200
    · clear rv uv
      go_enter Tryz.func8, Tryz.ntmps8
      go_wp2_with fail
      refine (ps_live _).mono ?_
      rintro _ w1 ⟨rfl, hb1⟩
      have k1 : Below w.heap.size w w1 := Below.trans (by go_grown) (hb1.mono (by simp))
      have YH := hid (HBX.out.below hb1 (by simp))
      clear hb1 HBX
      go_wp2_with fail
      refine (CF.out w1 (HV.out.on k1)).mono ?_
      rintro _ w2 ⟨rfl, hw2⟩
      have g2 := sg_up w1 (.cells #[.slice Av v.length cv] 24)
      rw [hw2] at g2
      have ZH_1 := hid (YH.out.below g2 (YH.out.lt (by simp)))
      clear YH
      have k2 := k1.trans (g2.mono k1.size)
      clear k1
      clear g2 CF
      clear hw2
      go_wp2_with fail
      go_ret
      exact ⟨rfl, k2⟩
    · by_cases h2 : hs = 2
      · have t1 : (hs == 2) = true := by simpa using h2
        clear h2 rv uv
        go_enter Tryz.func8, Tryz.ntmps8
        go_wp2_with fail
        refine (ps_live _).mono ?_
        rintro _ w1 ⟨rfl, hb1⟩
        have k1 : Below w.heap.size w w1 := Below.trans (by go_grown) (hb1.mono (by simp))
        have YH := hid (HBX.out.below hb1 (by simp))
        clear hb1 HBX
        go_wp2_with fail
        refine (CF.out w1 (HV.out.on k1)).mono ?_
        rintro _ w2 ⟨rfl, hw2⟩
        have g2 := sg_up w1 (.cells #[.slice Av v.length cv] 24)
        rw [hw2] at g2
        have ZH_1 := hid (YH.out.below g2 (YH.out.lt (by simp)))
        clear YH
        have k2 := k1.trans (g2.mono k1.size)
        clear k1
        clear g2 CF
        have cH0 := (ZH_1.out 0 _ rfl).1
        have cH1 := (ZH_1.out 1 _ rfl).1
        have cH2 := (ZH_1.out 2 _ rfl).1
        clear hw2
        go_wp2_with fail
        go_ret
        exact ⟨rfl, k2⟩
      · have hvs : v.length ≤ 200 := by omega
        have t1 : (hs == 2) = false := beq_eq_false_iff_ne.2 h2
        have CP1 := hid (fun W (h : Rd (Value.int .i64) W W.heap.size Av v) => pn_Press (A := Av) (B := none) (c := cv) (d := 0) hs hk hw ihs ihw v uv hv sd hsd [] (by simp) (by decide) W h Rd.none_)
        rw [show ([] : List Int).length = 0 from rfl] at CP1
        by_cases he : ppE hs hk hw v = 0
        · have hm := (pp_may (seed := sd) (n := []) uv he).1
          have ln1 := pp_ln hs hk hw v sd []
          have wf1 := pp_wf (sch := hs) (k := hk) (v := v) (s := sd) (n := []) ihw uv
          have pE := ploE_ok.2 hm
          obtain ⟨X, hX⟩ : ∃ X, ploV (ppS hs hk hw v sd []) = X := ⟨_, rfl⟩
          obtain ⟨a1, a2, a3, a4⟩ := pp_again (seed' := sd1) (n' := []) uv h2 he hX
          have hm2 := (pp_may (seed := sd1) (n := []) a4 a1).1
          have ln2 := pp_ln hs hk hw X sd1 []
          have wf2 := pp_wf (sch := hs) (k := hk) (v := X) (s := sd1) (n := []) ihw a4
          have pE2 := ploE_ok.2 hm2
          have CP2 := hid (fun (A : Option Addr) (c : Nat) W (h : Rd (Value.int .i64) W W.heap.size A X) => pn_Press (A := A) (B := none) (c := c) (d := 0) hs hk hw ihs ihw X a4 (by omega) sd1 hsd2 [] (by simp) (by decide) W h Rd.none_)
          rw [show ([] : List Int).length = 0 from rfl, a1] at CP2
          rw [he] at CP1
          obtain ⟨S, hS⟩ : ∃ S, ppS hs hk hw v sd [] = S := ⟨_, rfl⟩
          obtain ⟨T, hT⟩ : ∃ T, ppS hs hk hw X sd1 [] = T := ⟨_, rfl⟩
          rw [hS] at CP1 ln1 wf1 pE hX
          rw [hT] at CP2 ln2 wf2 pE2 a2
          have CL1 := hid (fun (p : SentP) W (h : RdS W W.heap.size S p) => show Calls Tryz.prog 20 #[.agg #[.int .i64 S.sch, .int .i64 S.dim, .slice p.AL S.L.length p.cL, .slice p.AV S.V.length p.cV, .int .i64 S.scale, .int .i64 S.wide, .slice p.AE S.lev.length p.cE, .slice p.AN S.neg.length p.cN]] W (OwnE 2 .i64 W.heap.size X 0 W) from by
            have h9 := pn_Loosen S p (ln1.more (by decide)) wf1 W h
            rw [pE, hX] at h9
            exact h9)
          have CL2 := hid (fun (p : SentP) W (h : RdS W W.heap.size T p) => show Calls Tryz.prog 20 #[.agg #[.int .i64 T.sch, .int .i64 T.dim, .slice p.AL T.L.length p.cL, .slice p.AV T.V.length p.cV, .int .i64 T.scale, .int .i64 T.wide, .slice p.AE T.lev.length p.cE, .slice p.AN T.neg.length p.cN]] W (OwnE 2 .i64 W.heap.size X 0 W) from by
            have h9 := pn_Loosen T p (ln2.more (by decide)) wf2 W h
            rw [pE2, a2] at h9
            exact h9)
          have hXl : X.length ≤ 9223372036854775807 := by omega
          have CS := hid (fun (A B : Option Addr) (c d : Nat) W (h1 : Rd (Value.int .i64) W W.heap.size A X) (h2 : Rd (Value.int .i64) W W.heap.size B X) => Same_any (A := A) (B := B) (c := c) (d := d) X X hXl hXl W h1 h2)
          rw [eqB_self] at CS
          clear hS hT hX he hvs h2 rv uv a1 a2 a3 a4 hm hm2 ln1 ln2 wf1 wf2 pE pE2 hsd1
          go_enter Tryz.func8, Tryz.ntmps8
          go_wp2_with fail
          refine (ps_live _).mono ?_
          rintro _ w1 ⟨rfl, hb1⟩
          have k1 : Below w.heap.size w w1 := Below.trans (by go_grown) (hb1.mono (by simp))
          have YH := hid (HBX.out.below hb1 (by simp))
          clear hb1 HBX
          go_wp2_with fail
          refine (CF.out w1 (HV.out.on k1)).mono ?_
          rintro _ w2 ⟨rfl, hw2⟩
          have g2 := sg_up w1 (.cells #[.slice Av v.length cv] 24)
          rw [hw2] at g2
          have ZH_1 := hid (YH.out.below g2 (YH.out.lt (by simp)))
          clear YH
          have k2 := k1.trans (g2.mono k1.size)
          clear k1
          clear g2 CF
          have cH0 := (ZH_1.out 0 _ rfl).1
          have cH1 := (ZH_1.out 1 _ rfl).1
          have cH2 := (ZH_1.out 2 _ rfl).1
          go_wp2_with fail
          refine (CP1.out w2 (HV.out.on k2)).mono ?_
          rintro _ w3 ⟨p, rfl, ho, hb3⟩
          have ZH_2 := hid (ZH_1.out.below hb3 (ZH_1.out.lt (by simp)))
          clear ZH_1
          have k3 := k2.trans (hb3.mono k2.size)
          clear k2
          clear hb3 CP1 hw2 cH0 cH1 cH2
          have YS := hid (OwnL.rd ho)
          clear ho
          have g4 := sg_up w3 (.cells #[.int .i64 S.sch, .int .i64 S.dim, .slice p.AL S.L.length p.cL, .slice p.AV S.V.length p.cV, .int .i64 S.scale, .int .i64 S.wide, .slice p.AE S.lev.length p.cE, .slice p.AN S.neg.length p.cN] 32)
          have n4 := BoxL.new w3 [.int .i64 S.sch, .int .i64 S.dim, .slice p.AL S.L.length p.cL, .slice p.AV S.V.length p.cV, .int .i64 S.scale, .int .i64 S.wide, .slice p.AE S.lev.length p.cE, .slice p.AN S.neg.length p.cN] 32
          simp only [List.toArray] at n4
          obtain ⟨w4, hw4⟩ : ∃ wn, (w3.alloc (.cells #[.int .i64 S.sch, .int .i64 S.dim, .slice p.AL S.L.length p.cL, .slice p.AV S.V.length p.cV, .int .i64 S.scale, .int .i64 S.wide, .slice p.AE S.lev.length p.cE, .slice p.AN S.neg.length p.cN] 32)) = wn := ⟨_, rfl⟩
          rw [hw4] at g4 n4
          have ZH_3 := hid (ZH_2.out.below g4 (ZH_2.out.lt (by simp)))
          clear ZH_2
          have ZS_4 := hid (YS.out.on g4)
          clear YS
          have k4 := k3.trans (g4.mono k3.size)
          clear k3
          have YSB := hid (n4)
          clear n4 g4
          obtain ⟨⟨cSB0, cSB1, cSB2, cSB3, cSB4, cSB5, cSB6, cSB7⟩, _⟩ := YSB.out.eight
          go_wp2_with fail
          refine (CL1.out p w4 (ZS_4.out)).mono ?_
          rintro _ w5 ⟨A5, c5, rfl, o5, hb5⟩
          have ZH_5 := hid (ZH_3.out.below hb5 (ZH_3.out.lt (by simp)))
          clear ZH_3
          have ZS_6 := hid (ZS_4.out.on hb5)
          clear ZS_4
          have ZSB_7 := hid (YSB.out.below hb5 (YSB.out.lt (by simp)))
          clear YSB
          have k5 := k4.trans (hb5.mono k4.size)
          clear k4
          clear hb5 CL1 cSB0 cSB1 cSB2 cSB3 cSB4 cSB5 cSB6 cSB7
          have YX := hid (own_rd o5)
          clear o5 hw4
          clear ZS_6
          clear ZSB_7
          have cH0 := (ZH_5.out 0 _ rfl).1
          have cH1 := (ZH_5.out 1 _ rfl).1
          have cH2 := (ZH_5.out 2 _ rfl).1
          go_wp2_with fail
          refine (CP2.out A5 c5 w5 (YX.out)).mono ?_
          rintro _ w6 ⟨q, rfl, ho, hb6⟩
          have ZH_8 := hid (ZH_5.out.below hb6 (ZH_5.out.lt (by simp)))
          clear ZH_5
          have ZX_9 := hid (YX.out.on hb6)
          clear YX
          have k6 := k5.trans (hb6.mono k5.size)
          clear k5
          clear hb6 CP2 cH0 cH1 cH2
          have YT := hid (OwnL.rd ho)
          clear ho
          have g7 := sg_up w6 (.cells #[.int .i64 T.sch, .int .i64 T.dim, .slice q.AL T.L.length q.cL, .slice q.AV T.V.length q.cV, .int .i64 T.scale, .int .i64 T.wide, .slice q.AE T.lev.length q.cE, .slice q.AN T.neg.length q.cN] 32)
          have n7 := BoxL.new w6 [.int .i64 T.sch, .int .i64 T.dim, .slice q.AL T.L.length q.cL, .slice q.AV T.V.length q.cV, .int .i64 T.scale, .int .i64 T.wide, .slice q.AE T.lev.length q.cE, .slice q.AN T.neg.length q.cN] 32
          simp only [List.toArray] at n7
          obtain ⟨w7, hw7⟩ : ∃ wn, (w6.alloc (.cells #[.int .i64 T.sch, .int .i64 T.dim, .slice q.AL T.L.length q.cL, .slice q.AV T.V.length q.cV, .int .i64 T.scale, .int .i64 T.wide, .slice q.AE T.lev.length q.cE, .slice q.AN T.neg.length q.cN] 32)) = wn := ⟨_, rfl⟩
          rw [hw7] at g7 n7
          have ZH_10 := hid (ZH_8.out.below g7 (ZH_8.out.lt (by simp)))
          clear ZH_8
          have ZX_11 := hid (ZX_9.out.on g7)
          clear ZX_9
          have ZT_12 := hid (YT.out.on g7)
          clear YT
          have k7 := k6.trans (g7.mono k6.size)
          clear k6
          have YTB := hid (n7)
          clear n7 g7
          obtain ⟨⟨cTB0, cTB1, cTB2, cTB3, cTB4, cTB5, cTB6, cTB7⟩, _⟩ := YTB.out.eight
          go_wp2_with fail
          refine (CL2.out q w7 (ZT_12.out)).mono ?_
          rintro _ w8 ⟨A8, c8, rfl, o8, hb8⟩
          have ZH_13 := hid (ZH_10.out.below hb8 (ZH_10.out.lt (by simp)))
          clear ZH_10
          have ZX_14 := hid (ZX_11.out.on hb8)
          clear ZX_11
          have ZT_15 := hid (ZT_12.out.on hb8)
          clear ZT_12
          have ZTB_16 := hid (YTB.out.below hb8 (YTB.out.lt (by simp)))
          clear YTB
          have k8 := k7.trans (hb8.mono k7.size)
          clear k7
          clear hb8 CL2 cTB0 cTB1 cTB2 cTB3 cTB4 cTB5 cTB6 cTB7
          have YY := hid (own_rd o8)
          clear o8 hw7
          clear ZT_15
          clear ZTB_16
          clear ZH_13
          go_wp2_with fail
          refine (CS.out A5 A8 c5 c8 w8 (ZX_14.out) (YY.out)).mono ?_
          rintro _ w9 ⟨rfl, hb9⟩
          have ZX_17 := hid (ZX_14.out.on hb9)
          clear ZX_14
          have ZY_18 := hid (YY.out.on hb9)
          clear YY
          have k9 := k8.trans (hb9.mono k8.size)
          clear k8
          clear hb9 CS
          go_wp2_with fail
          go_ret
          exact ⟨rfl, k9⟩
        · have hne : (ppE hs hk hw v != 0) = true := by simpa using he
          obtain ⟨S, hS⟩ : ∃ S, ppS hs hk hw v sd [] = S := ⟨_, rfl⟩
          obtain ⟨E, hE⟩ : ∃ E, ppE hs hk hw v = E := ⟨_, rfl⟩
          rw [hS, hE] at CP1
          rw [hE] at hne
          clear hS hE he hvs h2 rv uv
          go_enter Tryz.func8, Tryz.ntmps8
          go_wp2_with fail
          refine (ps_live _).mono ?_
          rintro _ w1 ⟨rfl, hb1⟩
          have k1 : Below w.heap.size w w1 := Below.trans (by go_grown) (hb1.mono (by simp))
          have YH := hid (HBX.out.below hb1 (by simp))
          clear hb1 HBX
          go_wp2_with fail
          refine (CF.out w1 (HV.out.on k1)).mono ?_
          rintro _ w2 ⟨rfl, hw2⟩
          have g2 := sg_up w1 (.cells #[.slice Av v.length cv] 24)
          rw [hw2] at g2
          have ZH_1 := hid (YH.out.below g2 (YH.out.lt (by simp)))
          clear YH
          have k2 := k1.trans (g2.mono k1.size)
          clear k1
          clear g2 CF
          have cH0 := (ZH_1.out 0 _ rfl).1
          have cH1 := (ZH_1.out 1 _ rfl).1
          have cH2 := (ZH_1.out 2 _ rfl).1
          go_wp2_with fail
          refine (CP1.out w2 (HV.out.on k2)).mono ?_
          rintro _ w3 ⟨p, rfl, ho, hb3⟩
          have ZH_2 := hid (ZH_1.out.below hb3 (ZH_1.out.lt (by simp)))
          clear ZH_1
          have k3 := k2.trans (hb3.mono k2.size)
          clear k2
          clear hb3 CP1 hw2 cH0 cH1 cH2
          clear ho
          obtain ⟨w4, hw4⟩ : ∃ wn, w3.alloc (.cells #[.int .i64 S.sch, .int .i64 S.dim, .slice p.AL S.L.length p.cL, .slice p.AV S.V.length p.cV, .int .i64 S.scale, .int .i64 S.wide, .slice p.AE S.lev.length p.cE, .slice p.AN S.neg.length p.cN] 32) = wn := ⟨_, rfl⟩
          have g4 := sg_up w3 (.cells #[.int .i64 S.sch, .int .i64 S.dim, .slice p.AL S.L.length p.cL, .slice p.AV S.V.length p.cV, .int .i64 S.scale, .int .i64 S.wide, .slice p.AE S.lev.length p.cE, .slice p.AN S.neg.length p.cN] 32)
          rw [hw4] at g4
          have ZH_3 := hid (ZH_2.out.below g4 (ZH_2.out.lt (by simp)))
          clear ZH_2
          have k4 := k3.trans (g4.mono k3.size)
          clear k3
          clear g4
          go_wp2_with fail
          go_ret
          exact ⟨rfl, k4⟩
  · rw [Bool.eq_false_iff.2 hf] at CF
    clear hf rv uv
    go_enter Tryz.func8, Tryz.ntmps8
    go_wp2_with fail
    refine (ps_live _).mono ?_
    rintro _ w1 ⟨rfl, hb1⟩
    have k1 : Below w.heap.size w w1 := Below.trans (by go_grown) (hb1.mono (by simp))
    have YH := hid (HBX.out.below hb1 (by simp))
    clear hb1 HBX
    go_wp2_with fail
    refine (CF.out w1 (HV.out.on k1)).mono ?_
    rintro _ w2 ⟨rfl, hw2⟩
    have g2 := sg_up w1 (.cells #[.slice Av v.length cv] 24)
    rw [hw2] at g2
    have ZH_1 := hid (YH.out.below g2 (YH.out.lt (by simp)))
    clear YH
    have k2 := k1.trans (g2.mono k1.size)
    clear k1
    clear g2 CF
    clear hw2
    go_wp2_with fail
    go_ret
    exact ⟨rfl, k2⟩
theorem law_types : ∀ t ∈ Tryz.f8.params.toList, Tryz.prog.readableRec t = true ∧ t < Tryz.prog.types.size := by
  have h : (Tryz.f8.params.toList.all fun t => Tryz.prog.readableRec t && decide (t < Tryz.prog.types.size)) = true := by kernel_rfl
  intro t ht
  simpa using List.all_eq_true.1 h t ht
set_option maxRecDepth 100000 in
theorem lifted (os : Os) (started : os.Started) (H : Type) (enc : TypeId × Value → H) :
    ReturnsInHanded {} Tryz.checked os 8 .any (Rows.pressAgainSpec.pre6 enc Tryz.prog Tryz.f8 Rows.pressAgainRow.domain false) (Rows.pressAgainSpec.post enc Tryz.prog Tryz.f8 false true false false) := by
  refine returnsInHanded_of_change (C := Tryz.checked) own started (by kernel_rfl) Tryz.func8
    (ChangeSpec.witness6 (enc := enc) (C := Tryz.checked) false ⟨#[], #[.agg #[.int .i64 0, .int .i64 0, .int .i64 0], .slice none 0 0, .int .u64 0], []⟩ 8 (by kernel_rfl) (by kernel_rfl) (by kernel_rfl) (by kernel_rfl)) ?_
  intro W base args ds gs before hval0 hW hcnd _
  have hval : ∀ (j : Nat) t v, Tryz.f8.params[j]? = some t → args[j]? = some v → Value.okWide Tryz.prog W .any base t v := hval0
  have hW' := hW
  obtain ⟨p, q, hA0, hV, rfl, hfz, hnd⟩ := hW
  have hA : DataW.TrodAll enc Tryz.prog W 0 (fun _ => true) true Tryz.f8.params.toList args.toList ds p := hA0
  rw [Tryz.params8] at hA hval
  obtain ⟨v0, vs0, d0, ds0, p0, q0, hargs, rfl, rfl, h0, r0⟩ := trodAll_cons hA
  obtain ⟨v1, vs1, d1, ds1, p1, q1, rfl, rfl, rfl, h1, r1⟩ := trodAll_cons r0
  obtain ⟨v2, vs2, d2, ds2, p2, q2, rfl, rfl, rfl, h2, r2⟩ := trodAll_cons r1
  obtain ⟨rfl, rfl, rfl⟩ := trodAll_nil r2
  obtain rfl : args = #[v0, v1, v2] := by cases args; simp_all
  obtain ⟨rfl, rfl⟩ := trodVars_none hV
  obtain ⟨hs, hk, hw, rfl, ish, ikh, iwh⟩ := open_how (hval 0 23 v0 rfl rfl) h0
  obtain ⟨Av, v, cv, rfl, rdv, iv, lcv, lmv⟩ := open_nums Tryz.underlying24 Tryz.underlying2 cells_i64' (hval 1 24 v1 rfl rfl) h1
  obtain ⟨seed, rfl, rfl, rfl, w2⟩ := open_int Tryz.underlying25 (hval 2 25 v2 rfl rfl) h2
  clear hA0 hval0
  refine (walk hs hk hw Av v cv seed W ish ikh iwh rdv (fun x hx => I64.of_wf (iv x hx)) lcv lmv (U64.of_wf w2)).mono fun e W' ⟨he, hb⟩ => ?_
  subst he
  exact ⟨_, rfl, law_post laid (fun t ht => law_types t ht) rfl hW' ⟨rfl, rfl, rfl⟩ (by kernel_rfl) Tryz.underlying4 hb⟩

theorem over : Rows.pressAgainRow.holds Tryz.pinned (OpenSpec.ofChange Rows.pressAgainSpec) :=
  OpenClaim.holds_of_wide 8 Tryz.f8 rfl rfl rfl rfl rfl rfl rfl ⟨rfl, rfl, rfl, rfl, rfl⟩ rfl rfl rfl rfl rfl (by kernel_rfl) Tryz.func8 (by kernel_rfl)
    (of_decide_eq_true (by kernel_rfl)) (by unfold Func.isWrapper; first | (rw [if_pos (by decide +kernel)]; kernel_rfl) | (rw [if_neg (by decide +kernel)]; exact ⟨rfl, rfl⟩))
    (fun os started H enc _ => lifted os started H enc)

theorem proved : Rows.PressAgainSaid := over
end Go.Proofs.YtecgbelgoomneaaGreat.PressAgain
