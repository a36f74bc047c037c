
/-
  PressLoosens answers true for every input. No condition.
-/
import Derived.Test.YtecgbelgoomneaaGreatYi
import Derived.Test.YtecgbelgoomneaaGreatYe
import Derived.Test.YtecgbelgoomneaaGreatYc
namespace Go.Proofs.YtecgbelgoomneaaGreat.PressLoosens
open Go.ChangeShapes Go.WideShapes Go.ChangeAt Go.RowKit
set_option maxHeartbeats 400000
set_option linter.unusedVariables false
open Go.Proofs.YtecgbelgoomneaaGreat
set_option maxRecDepth 100000 in
/-- A region that draws, walked once, in a class of worlds of one's own. -/
theorem region_ten {P : Program} {C : World → Prop} {id : Nat} {Q : Exit → Act → World → Prop} {a : Act} {w : World} {l : List Oper} (hm : P.follows .mixedOrders = true) (hB : Region.lexB .any l.toArray = true) (hC : C w.drew)
    (h : wpQuiet P l.toArray C (fun a' => ∀ w', C w' → Q .normal a' w') l a) : (Code.region id l.toArray true).wp P Q a w :=
  wp_region_quiet hm hB hC (by simpa using h)
/-- A list is found the same as itself. -/
theorem same_self {X : List Int} (hX : X.length ≤ 9223372036854775807) {A B : Option Addr} {c d : Nat} (W : World) (ra : Rd (Value.int .i64) W W.heap.size A X) (rb : Rd (Value.int .i64) W W.heap.size B X) :
    Calls Tryz.prog 16 #[.slice A X.length c, .slice B X.length d] W fun e w' => e = .returned (.bool true) ∧ Below W.heap.size W w' := by
  have h := rSame_any (A := A) (B := B) (c := c) (d := d) X X hX hX W ra rb
  rw [eqB_self] at h
  exact h
set_option maxHeartbeats 8000000 in
set_option maxRecDepth 100000 in
theorem walk (hs hk hw : Int) (Av : Option Addr) (v : List Int) (cv : Nat) (s : SentV) (ps : SentP) (w : World) (ihs : I64 hs) (ihk : I64 hk) (ihw : I64 hw) (rv : Rd (Value.int .i64) w w.heap.size Av v) (uv : I64s v) (lv : v.length ≤ cv) (mv : cv ≤ 9223372036854775807) (rs : RdS w w.heap.size s ps) (ws : wfS s) (cs : capS s ps) :
    Calls Tryz.prog 4 #[.agg #[.int .i64 hs, .int .i64 hk, .int .i64 hw], .slice Av v.length cv, encT s ps] w fun e w' => e = .returned (.bool true) ∧ Below w.heap.size w w' := by
  have HV := hid rv
  have HS := hid rs
  have hv : v.length ≤ 9223372036854775807 := by omega
  have CF := hid (fun W (h : Rd (Value.int .i64) W W.heap.size Av v) => pf_one (A := Av) (c := cv) none 0 0 (by decide) v hv W h)
  have CB := hid (fun W => (show Calls Tryz.prog 19 #[.agg #[.int .i64 s.sch, .int .i64 s.dim, .slice ps.AL s.L.length ps.cL, .slice ps.AV s.V.length ps.cV, .int .i64 s.scale, .int .i64 s.wide, .slice ps.AE s.lev.length ps.cE, .slice ps.AN s.neg.length ps.cN]] W fun e w' => e = .returned (.bool (bigS s)) ∧ Below W.heap.size W w' by exact ref_Big s ps W))
  have HBX := hid ((BoxL.new w [.int .i64 hs, .int .i64 hk, .int .i64 hw] 23).below (sg_up _ (.cells #[.int .i64 s.sch, .int .i64 s.dim, .slice ps.AL s.L.length ps.cL, .slice ps.AV s.V.length ps.cV, .int .i64 s.scale, .int .i64 s.wide, .slice ps.AE s.lev.length ps.cE, .slice ps.AN s.neg.length ps.cN] 32)) (by simp))
  have HBS := hid (box2 w (.cells #[.int .i64 hs, .int .i64 hk, .int .i64 hw] 23) [.int .i64 s.sch, .int .i64 s.dim, .slice ps.AL s.L.length ps.cL, .slice ps.AV s.V.length ps.cV, .int .i64 s.scale, .int .i64 s.wide, .slice ps.AE s.lev.length ps.cE, .slice ps.AN s.neg.length ps.cN] 32)
  show Calls Tryz.prog 4 #[.agg #[.int .i64 hs, .int .i64 hk, .int .i64 hw], .slice Av v.length cv, .agg #[.int .i64 s.sch, .int .i64 s.dim, .slice ps.AL s.L.length ps.cL, .slice ps.AV s.V.length ps.cV, .int .i64 s.scale, .int .i64 s.wide, .slice ps.AE s.lev.length ps.cE, .slice ps.AN s.neg.length ps.cN]] w _
  by_cases hf : fewP 0 [v] = true
  · rw [hf] at CF
    by_cases hbig : bigS s = true
    · rw [hbig] at CB
      clear hf hbig rv uv rs ws cs
      go_enter Tryz.func4, Tryz.ntmps4
      go_wp2_with fail
      refine (ps_live _).mono ?_
      rintro _ w1 ⟨rfl, hb1⟩
      have k1 : Below w.heap.size w w1 := Below.trans (by go_grown) (hb1.mono (by simp; omega))
      have YH := hid (HBX.out.below hb1 (by simp; omega))
      have YS := hid (HBS.out.below hb1 (by simp))
      clear hb1 HBX HBS
      go_wp2_with fail
      refine (CF.out w1 (HV.out.on k1)).mono ?_
      rintro _ w2 ⟨rfl, hw2⟩
      have g2 := sg_up w1 (.cells #[.slice Av v.length cv] 24)
      rw [hw2] at g2
      have ZH_1 := hid (YH.out.below g2 (YH.out.lt (by simp)))
      clear YH
      have ZS_2 := hid (YS.out.below g2 (YS.out.lt (by simp)))
      clear YS
      have k2 := k1.trans (g2.mono k1.size)
      clear k1
      clear g2 CF hw2
      obtain ⟨⟨cS0, cS1, cS2, cS3, cS4, cS5, cS6, cS7⟩, _⟩ := ZS_2.out.eight
      go_wp2_with fail
      refine (CB.out w2).mono ?_
      rintro _ w3 ⟨rfl, hb3⟩
      have ZH_3 := hid (ZH_1.out.below hb3 (ZH_1.out.lt (by simp)))
      clear ZH_1
      have ZS_4 := hid (ZS_2.out.below hb3 (ZS_2.out.lt (by simp)))
      clear ZS_2
      have k3 := k2.trans (hb3.mono k2.size)
      clear k2
      clear hb3 CB cS0 cS1 cS2 cS3 cS4 cS5 cS6 cS7
      go_wp2_with fail
      go_ret
      exact ⟨rfl, k3⟩
    · have hb : bigS s = false := Bool.eq_false_iff.2 hbig
      rw [hb] at CB
      clear hbig
      have hln := big_ln hb
      have CL := hid (fun W (h : RdS W W.heap.size s ps) => (show Calls Tryz.prog 20 #[.agg #[.int .i64 s.sch, .int .i64 s.dim, .slice ps.AL s.L.length ps.cL, .slice ps.AV s.V.length ps.cV, .int .i64 s.scale, .int .i64 s.wide, .slice ps.AE s.lev.length ps.cE, .slice ps.AN s.neg.length ps.cN]] W (OwnE 2 .i64 W.heap.size (ploV s) (ploE s) W) by exact pn_Loosen s ps (hln.more (by decide)) ws W h))
      have DL := hid (fun W (h : RdS W W.heap.size s ps) => (show Calls Tryz.prog 21 #[.agg #[.int .i64 s.sch, .int .i64 s.dim, .slice ps.AL s.L.length ps.cL, .slice ps.AV s.V.length ps.cV, .int .i64 s.scale, .int .i64 s.wide, .slice ps.AE s.lev.length ps.cE, .slice ps.AN s.neg.length ps.cN]] W (OwnE 2 .i64 W.heap.size (ploV s) (ploE s) W) by exact ref_Loosen12 s ps (hln.more (by decide)) ws W h))
      have CG := hid (fun W (h1 : Rd (Value.int .i64) W W.heap.size Av v) (h : RdS W W.heap.size s ps) => (show Calls Tryz.prog 22 #[.slice Av v.length cv, .agg #[.int .i64 s.sch, .int .i64 s.dim, .slice ps.AL s.L.length ps.cL, .slice ps.AV s.V.length ps.cV, .int .i64 s.scale, .int .i64 s.wide, .slice ps.AE s.lev.length ps.cE, .slice ps.AN s.neg.length ps.cN]] W (OwnE 2 .i64 W.heap.size (plfV v s) (plfE v s) W) by exact pn_Left (c := cv) v uv hv s ps (hln.more (by decide)) ws W h1 h))
      have DG := hid (fun W (h1 : Rd (Value.int .i64) W W.heap.size Av v) (h : RdS W W.heap.size s ps) => (show Calls Tryz.prog 23 #[.slice Av v.length cv, .agg #[.int .i64 s.sch, .int .i64 s.dim, .slice ps.AL s.L.length ps.cL, .slice ps.AV s.V.length ps.cV, .int .i64 s.scale, .int .i64 s.wide, .slice ps.AE s.lev.length ps.cE, .slice ps.AN s.neg.length ps.cN]] W (OwnE 2 .i64 W.heap.size (plfV v s) (plfE v s) W) by exact ref_Left12 (c := cv) v uv hv s ps (hln.more (by decide)) ws W h1 h))
      have CY := hid (fun W (h : RdS W W.heap.size s ps) => (show Calls Tryz.prog 24 #[.agg #[.int .i64 s.sch, .int .i64 s.dim, .slice ps.AL s.L.length ps.cL, .slice ps.AV s.V.length ps.cV, .int .i64 s.scale, .int .i64 s.wide, .slice ps.AE s.lev.length ps.cE, .slice ps.AN s.neg.length ps.cN]] W fun e w' => e = .returned (.tuple #[.int .i64 ((bodyV s).length : Int), .int .i64 (bodyE s)]) ∧ Below W.heap.size W w' by exact pn_Bytes s ps (hln.more (by decide)) ws W h))
      have DY := hid (fun W (h : RdS W W.heap.size s ps) => (show Calls Tryz.prog 25 #[.agg #[.int .i64 s.sch, .int .i64 s.dim, .slice ps.AL s.L.length ps.cL, .slice ps.AV s.V.length ps.cV, .int .i64 s.scale, .int .i64 s.wide, .slice ps.AE s.lev.length ps.cE, .slice ps.AN s.neg.length ps.cN]] W fun e w' => e = .returned (.tuple #[.int .i64 ((bodyV s).length : Int), .int .i64 (bodyE s)]) ∧ Below W.heap.size W w' by exact ref_Bytes12 s ps (hln.more (by decide)) ws W h))
      have CM := hid (fun W (h1 : Rd (Value.int .i64) W W.heap.size Av v) (h : RdS W W.heap.size s ps) => (show Calls Tryz.prog 26 #[.agg #[.int .i64 hs, .int .i64 hk, .int .i64 hw], .slice Av v.length cv, .agg #[.int .i64 s.sch, .int .i64 s.dim, .slice ps.AL s.L.length ps.cL, .slice ps.AV s.V.length ps.cV, .int .i64 s.scale, .int .i64 s.wide, .slice ps.AE s.lev.length ps.cE, .slice ps.AN s.neg.length ps.cN]] W fun e w' => e = .returned (.bool (mtB hs hk hw v s)) ∧ Below W.heap.size W w' by exact pn_Meets (c := cv) hs hk hw ihs v uv hv s ps (hln.more (by decide)) ws W h1 h))
      have DM := hid (fun W (h1 : Rd (Value.int .i64) W W.heap.size Av v) (h : RdS W W.heap.size s ps) => (show Calls Tryz.prog 27 #[.agg #[.int .i64 hs, .int .i64 hk, .int .i64 hw], .slice Av v.length cv, .agg #[.int .i64 s.sch, .int .i64 s.dim, .slice ps.AL s.L.length ps.cL, .slice ps.AV s.V.length ps.cV, .int .i64 s.scale, .int .i64 s.wide, .slice ps.AE s.lev.length ps.cE, .slice ps.AN s.neg.length ps.cN]] W fun e w' => e = .returned (.bool (mtB hs hk hw v s)) ∧ Below W.heap.size W w' by exact ref_Meets12 (c := cv) hs hk hw v uv hv s ps (hln.more (by decide)) ws W h1 h))
      have n1 := plo_le s
      have n2 : (plfV v s).length ≤ 4096 := by unfold plfV; split; exact op_len; simp
      obtain ⟨X, e1⟩ : ∃ x, ploV s = x := ⟨_, rfl⟩
      obtain ⟨eX, e2⟩ : ∃ x, ploE s = x := ⟨_, rfl⟩
      obtain ⟨Y, e3⟩ : ∃ x, plfV v s = x := ⟨_, rfl⟩
      obtain ⟨eY, e4⟩ : ∃ x, plfE v s = x := ⟨_, rfl⟩
      obtain ⟨nb, e5⟩ : ∃ x, (bodyV s).length = x := ⟨_, rfl⟩
      obtain ⟨eb, e6⟩ : ∃ x, bodyE s = x := ⟨_, rfl⟩
      obtain ⟨mt, e7⟩ : ∃ x, mtB hs hk hw v s = x := ⟨_, rfl⟩
      rw [e1, e2] at CL DL
      rw [e3, e4] at CG DG
      rw [e5, e6] at CY DY
      rw [e7] at CM DM
      rw [e1] at n1
      rw [e3] at n2
      have t1 : (eX != eX) = false := by simp
      have t2 : (eY != eY) = false := by simp
      have t3 : ((nb : Int) != (nb : Int)) = false := by simp
      have t4 : (eb != eb) = false := by simp
      have t5 : (eX == eX) = true := by simp
      have t6 : (mt == mt) = true := by simp
      have SX := hid (fun (A B : Option Addr) (c d : Nat) (W : World) (h1 : Rd (Value.int .i64) W W.heap.size A X) (h2 : Rd (Value.int .i64) W W.heap.size B X) => same_self (X := X) (by omega) (A := A) (B := B) (c := c) (d := d) W h1 h2)
      have SY := hid (fun (A B : Option Addr) (c d : Nat) (W : World) (h1 : Rd (Value.int .i64) W W.heap.size A Y) (h2 : Rd (Value.int .i64) W W.heap.size B Y) => same_self (X := Y) (by omega) (A := A) (B := B) (c := c) (d := d) W h1 h2)
      clear e1 e2 e3 e4 e5 e6 e7 hln rv uv rs ws cs hf hb
      go_enter Tryz.func4, Tryz.ntmps4
      go_wp2_with fail
      refine (ps_live _).mono ?_
      rintro _ w1 ⟨rfl, hb1⟩
      have k1 : Below w.heap.size w w1 := Below.trans (by go_grown) (hb1.mono (by simp; omega))
      have YH := hid (HBX.out.below hb1 (by simp; omega))
      have YS := hid (HBS.out.below hb1 (by simp))
      clear hb1 HBX HBS
      go_wp2_with fail
      refine (CF.out w1 (HV.out.on k1)).mono ?_
      rintro _ w2 ⟨rfl, hw2⟩
      have g2 := sg_up w1 (.cells #[.slice Av v.length cv] 24)
      rw [hw2] at g2
      have ZH_1 := hid (YH.out.below g2 (YH.out.lt (by simp)))
      clear YH
      have ZS_2 := hid (YS.out.below g2 (YS.out.lt (by simp)))
      clear YS
      have k2 := k1.trans (g2.mono k1.size)
      clear k1
      clear g2 CF hw2
      obtain ⟨⟨cS0, cS1, cS2, cS3, cS4, cS5, cS6, cS7⟩, _⟩ := ZS_2.out.eight
      go_wp2_with fail
      refine (CB.out w2).mono ?_
      rintro _ w3 ⟨rfl, hb3⟩
      have ZH_3 := hid (ZH_1.out.below hb3 (ZH_1.out.lt (by simp)))
      clear ZH_1
      have ZS_4 := hid (ZS_2.out.below hb3 (ZS_2.out.lt (by simp)))
      clear ZS_2
      have k3 := k2.trans (hb3.mono k2.size)
      clear k2
      clear hb3 CB cS0 cS1 cS2 cS3 cS4 cS5 cS6 cS7
      have HHL := hid (show w.heap.size + 1 < w3.heap.size from ZS_4.out.lt (by simp))
      obtain ⟨⟨cS0, cS1, cS2, cS3, cS4, cS5, cS6, cS7⟩, _⟩ := ZS_4.out.eight
      go_wp2_with fail
      refine (CL.out w3 (HS.out.on k3)).mono ?_
      rintro _ w4 ⟨A4, c4, rfl, o4, hb4⟩
      have ZH_5 := hid (ZH_3.out.below hb4 (ZH_3.out.lt (by simp)))
      clear ZH_3
      have ZS_6 := hid (ZS_4.out.below hb4 (ZS_4.out.lt (by simp)))
      clear ZS_4
      have k4 := k3.trans (hb4.mono k3.size)
      clear k3
      clear hb4 cS0 cS1 cS2 cS3 cS4 cS5 cS6 cS7
      have HLT := hid (show ∀ g : Nat, A4 = some ⟨g, 0, none⟩ → g < w4.heap.size from fun g e => by subst e; exact own_lt o4)
      have YX := hid (own_rd o4)
      have YOA := hid (o4)
      clear o4
      obtain ⟨⟨cS0, cS1, cS2, cS3, cS4, cS5, cS6, cS7⟩, _⟩ := ZS_6.out.eight
      go_wp2_with fail
      refine (DL.out w4 (HS.out.on k4)).mono ?_
      rintro _ w5 ⟨A5, c5, rfl, o5, hb5⟩
      have ZOA_7 := hid (own_on YOA.out hb5)
      clear YOA
      have ZH_8 := hid (ZH_5.out.below hb5 (ZH_5.out.lt (by simp)))
      clear ZH_5
      have ZS_9 := hid (ZS_6.out.below hb5 (ZS_6.out.lt (by simp)))
      clear ZS_6
      have ZX_10 := hid (YX.out.on hb5)
      clear YX
      have k5 := k4.trans (hb5.mono k4.size)
      clear k4
      clear hb5 DL cS0 cS1 cS2 cS3 cS4 cS5 cS6 cS7
      have YY := hid (own_rd o5)
      have YOB := hid (o5)
      clear o5
      obtain ⟨⟨cS0, cS1, cS2, cS3, cS4, cS5, cS6, cS7⟩, _⟩ := ZS_9.out.eight
      go_wp2_with fail
      refine (CG.out w5 (HV.out.on k5) (HS.out.on k5)).mono ?_
      rintro _ w6 ⟨A6, c6, rfl, o6, hb6⟩
      have ZOA_11 := hid (own_on ZOA_7.out hb6)
      clear ZOA_7
      have ZOB_12 := hid (own_on YOB.out hb6)
      clear YOB
      have ZH_13 := hid (ZH_8.out.below hb6 (ZH_8.out.lt (by simp)))
      clear ZH_8
      have ZS_14 := hid (ZS_9.out.below hb6 (ZS_9.out.lt (by simp)))
      clear ZS_9
      have ZX_15 := hid (ZX_10.out.on hb6)
      clear ZX_10
      have ZY_16 := hid (YY.out.on hb6)
      clear YY
      have k6 := k5.trans (hb6.mono k5.size)
      clear k5
      clear hb6 CG cS0 cS1 cS2 cS3 cS4 cS5 cS6 cS7
      have YP := hid (own_rd o6)
      clear o6
      obtain ⟨⟨cS0, cS1, cS2, cS3, cS4, cS5, cS6, cS7⟩, _⟩ := ZS_14.out.eight
      go_wp2_with fail
      refine (DG.out w6 (HV.out.on k6) (HS.out.on k6)).mono ?_
      rintro _ w7 ⟨A7, c7, rfl, o7, hb7⟩
      have ZOA_17 := hid (own_on ZOA_11.out hb7)
      clear ZOA_11
      have ZOB_18 := hid (own_on ZOB_12.out hb7)
      clear ZOB_12
      have ZH_19 := hid (ZH_13.out.below hb7 (ZH_13.out.lt (by simp)))
      clear ZH_13
      have ZS_20 := hid (ZS_14.out.below hb7 (ZS_14.out.lt (by simp)))
      clear ZS_14
      have ZX_21 := hid (ZX_15.out.on hb7)
      clear ZX_15
      have ZY_22 := hid (ZY_16.out.on hb7)
      clear ZY_16
      have ZP_23 := hid (YP.out.on hb7)
      clear YP
      have k7 := k6.trans (hb7.mono k6.size)
      clear k6
      clear hb7 DG cS0 cS1 cS2 cS3 cS4 cS5 cS6 cS7
      have YQ := hid (own_rd o7)
      clear o7
      obtain ⟨⟨cS0, cS1, cS2, cS3, cS4, cS5, cS6, cS7⟩, _⟩ := ZS_20.out.eight
      go_wp2_with fail
      refine (CY.out w7 (HS.out.on k7)).mono ?_
      rintro _ w8 ⟨rfl, hb8⟩
      have ZOA_24 := hid (own_on ZOA_17.out hb8)
      clear ZOA_17
      have ZOB_25 := hid (own_on ZOB_18.out hb8)
      clear ZOB_18
      have ZH_26 := hid (ZH_19.out.below hb8 (ZH_19.out.lt (by simp)))
      clear ZH_19
      have ZS_27 := hid (ZS_20.out.below hb8 (ZS_20.out.lt (by simp)))
      clear ZS_20
      have ZX_28 := hid (ZX_21.out.on hb8)
      clear ZX_21
      have ZY_29 := hid (ZY_22.out.on hb8)
      clear ZY_22
      have ZP_30 := hid (ZP_23.out.on hb8)
      clear ZP_23
      have ZQ_31 := hid (YQ.out.on hb8)
      clear YQ
      have k8 := k7.trans (hb8.mono k7.size)
      clear k7
      clear hb8 CY cS0 cS1 cS2 cS3 cS4 cS5 cS6 cS7
      obtain ⟨⟨cS0, cS1, cS2, cS3, cS4, cS5, cS6, cS7⟩, _⟩ := ZS_27.out.eight
      go_wp2_with fail
      refine (DY.out w8 (HS.out.on k8)).mono ?_
      rintro _ w9 ⟨rfl, hb9⟩
      have ZOA_32 := hid (own_on ZOA_24.out hb9)
      clear ZOA_24
      have ZOB_33 := hid (own_on ZOB_25.out hb9)
      clear ZOB_25
      have ZH_34 := hid (ZH_26.out.below hb9 (ZH_26.out.lt (by simp)))
      clear ZH_26
      have ZS_35 := hid (ZS_27.out.below hb9 (ZS_27.out.lt (by simp)))
      clear ZS_27
      have ZX_36 := hid (ZX_28.out.on hb9)
      clear ZX_28
      have ZY_37 := hid (ZY_29.out.on hb9)
      clear ZY_29
      have ZP_38 := hid (ZP_30.out.on hb9)
      clear ZP_30
      have ZQ_39 := hid (ZQ_31.out.on hb9)
      clear ZQ_31
      have k9 := k8.trans (hb9.mono k8.size)
      clear k8
      clear hb9 DY cS0 cS1 cS2 cS3 cS4 cS5 cS6 cS7
      go_wp2_with fail
      refine (SX.out A4 A5 c4 c5 w9 (ZX_36.out) (ZY_37.out)).mono ?_
      rintro _ w10 ⟨rfl, hb10⟩
      have ZOA_40 := hid (own_on ZOA_32.out hb10)
      clear ZOA_32
      have ZOB_41 := hid (own_on ZOB_33.out hb10)
      clear ZOB_33
      have ZH_42 := hid (ZH_34.out.below hb10 (ZH_34.out.lt (by simp)))
      clear ZH_34
      have ZS_43 := hid (ZS_35.out.below hb10 (ZS_35.out.lt (by simp)))
      clear ZS_35
      have ZX_44 := hid (ZX_36.out.on hb10)
      clear ZX_36
      have ZY_45 := hid (ZY_37.out.on hb10)
      clear ZY_37
      have ZP_46 := hid (ZP_38.out.on hb10)
      clear ZP_38
      have ZQ_47 := hid (ZQ_39.out.on hb10)
      clear ZQ_39
      have k10 := k9.trans (hb10.mono k9.size)
      clear k9
      clear hb10 
      clear ZX_44
      clear ZY_45
      go_wp2_with fail
      refine (SY.out A6 A7 c6 c7 w10 (ZP_46.out) (ZQ_47.out)).mono ?_
      rintro _ w11 ⟨rfl, hb11⟩
      have ZOA_48 := hid (own_on ZOA_40.out hb11)
      clear ZOA_40
      have ZOB_49 := hid (own_on ZOB_41.out hb11)
      clear ZOB_41
      have ZH_50 := hid (ZH_42.out.below hb11 (ZH_42.out.lt (by simp)))
      clear ZH_42
      have ZS_51 := hid (ZS_43.out.below hb11 (ZS_43.out.lt (by simp)))
      clear ZS_43
      have ZP_52 := hid (ZP_46.out.on hb11)
      clear ZP_46
      have ZQ_53 := hid (ZQ_47.out.on hb11)
      clear ZQ_47
      have k11 := k10.trans (hb11.mono k10.size)
      clear k10
      clear hb11 SY
      clear ZP_52
      clear ZQ_53
      have K11 := hid k11
      clear k11
      go_wp2_with fail
      go_loopw [20, 99] (fun x20 i wr => ∃ (k : Nat) (zs : List Int), k ≤ X.length ∧ i = .int .i64 k ∧ zs.length = X.length ∧ wr.ownsRow w3.heap.size 2 1 (.slice A4 X.length c4) X.length (zs.map (Value.int .i64)) ∧ wr.ownsRow w4.heap.size 2 1 (.slice A5 X.length c5) X.length (X.map (Value.int .i64)) ∧ Below w3.heap.size w11 wr) (fun _ i _ => X.length - (intOf i).toNat)
      case atStart => exact ⟨0, X, by omega, rfl, rfl, ZOA_48.out, ZOB_49.out, Below.refl _ _⟩
      case round =>
        obtain ⟨k, zs, hkx, rfl, hz, hown, hob, hbr⟩ := hrel
        have HZ := hid hz
        have HO := hid hown
        have HO2 := hid hob
        by_cases hlt : k < X.length
        · obtain ⟨g, hg, hgb, hgc, hgf⟩ := own_cellk hown (show k < zs.length by omega)
          have hgl := HLT.out g hg
          subst hg
          clear hz hown hob
          go_wp2_with fail
          go_roundw
          case rel =>
            refine ⟨k + 1, zs.set k (wrap64 (zs.getD k 0 + 1)), by omega, by go_num, by rw [List.length_set]; exact HZ.out, ?_, own_set HO2.out hgl _, hbr.setCell hgb _⟩
            have h := (HO.out.stored k (.int .i64 (wrap64 (zs.getD k 0 + 1)))).1
            rw [← List.map_set] at h
            exact h
          case measure => simp [intOf]; omega
        · obtain rfl : k = X.length := by omega
          have k12 : Below w.heap.size w wr := K11.out.trans (hbr.mono (by have := HHL.out; omega))
          have YH12 := hid (ZH_50.out.below hbr (by have h8 := HHL.out; omega))
          have YS12 := hid (ZS_51.out.below hbr (by have h8 := HHL.out; omega))
          have RB12 := hid (own_rd hob)
          clear hz hown hob HZ HO HO2 hbr ZH_50 ZS_51
          obtain ⟨w12, hw12⟩ : ∃ x, wr = x := ⟨_, rfl⟩
          subst hw12
          obtain ⟨⟨cS0, cS1, cS2, cS3, cS4, cS5, cS6, cS7⟩, _⟩ := YS12.out.eight
          go_wp2_with fail
          refine (CL.out wr (HS.out.on k12)).mono ?_
          rintro _ w13 ⟨A13, c13, rfl, o13, hb13⟩
          have ZH_1 := hid (YH12.out.below hb13 (YH12.out.lt (by simp)))
          clear YH12
          have ZS_2 := hid (YS12.out.below hb13 (YS12.out.lt (by simp)))
          clear YS12
          have ZB_3 := hid (RB12.out.on hb13)
          clear RB12
          have k13 := k12.trans (hb13.mono k12.size)
          clear k12
          have RC := hid (own_rd o13)
          clear o13 hb13 CL cS0 cS1 cS2 cS3 cS4 cS5 cS6 cS7
          go_wp2_with fail
          refine region_ten (C := Below w13.heap.size w13) (by kernel_rfl) (by kernel_rfl) (belowN _ _ 1) ?_
          go_big_quiet_want
          go_big_quiet_op
          first | go_big_quiet_on | (refine ⟨_, fun _ _ => rfl, ?_⟩; go_big_quiet_on)
          go_big_quiet_want
          go_big_quiet_op
          first | go_big_quiet_on | (refine ⟨_, fun _ _ => rfl, ?_⟩; go_big_quiet_on)
          go_big_quiet_want
          go_big_quiet_op
          first | go_big_quiet_on | (refine ⟨_, fun _ _ => rfl, ?_⟩; go_big_quiet_on)
          go_big_quiet_want
          go_big_quiet_op
          first | go_big_quiet_on | (refine ⟨_, fun _ _ => rfl, ?_⟩; go_big_quiet_on)
          go_big_quiet_want
          go_big_quiet_op
          go_big_quiet_call ((intro hW; refine (SX.out _ _ _ _ _ (RC.out.on hW) (ZB_3.out.on hW)).mono ?_; rintro _ w' ⟨rfl, hb⟩; exact ⟨rfl, hW.trans (hb.mono hW.size)⟩))
          go_big_quiet_want
          go_big_quiet_op
          first | go_big_quiet_on | (refine ⟨_, fun _ _ => rfl, ?_⟩; go_big_quiet_on)
          go_big_quiet_want
          go_big_quiet_op
          first | go_big_quiet_on | (refine ⟨_, fun _ _ => rfl, ?_⟩; go_big_quiet_on)
          go_big_quiet_want
          go_big_quiet_op
          first | go_big_quiet_on | (refine ⟨_, fun _ _ => rfl, ?_⟩; go_big_quiet_on)
          go_big_quiet_want
          go_big_quiet_op
          first | go_big_quiet_on | (refine ⟨_, fun _ _ => rfl, ?_⟩; go_big_quiet_on)
          go_big_quiet_want
          go_big_quiet_op
          first | go_big_quiet_on | (refine ⟨_, fun _ _ => rfl, ?_⟩; go_big_quiet_on)
          go_big_quiet_want
          go_big_quiet_op
          first | go_big_quiet_on | (refine ⟨_, fun _ _ => rfl, ?_⟩; go_big_quiet_on)
          go_big_quiet_want
          go_big_quiet_op
          first | go_big_quiet_on | (refine ⟨_, fun _ _ => rfl, ?_⟩; go_big_quiet_on)
          go_big_quiet_want
          refine ⟨.agg #[.int .i64 hs, .int .i64 hk, .int .i64 hw], fun W hW => ?_, ?_⟩
          · have HQ := ZH_1.out.below hW (ZH_1.out.lt (by simp))
            have q0 := (HQ 0 _ rfl).1
            have q1 := (HQ 1 _ rfl).1
            have q2 := (HQ 2 _ rfl).1
            go_simp
          simp only [Act.put, List.setIfInBounds_toArray, List.set_cons_zero, List.set_cons_succ]
          go_big_quiet_on
          go_big_quiet_want
          go_big_quiet_op
          first | go_big_quiet_on | (refine ⟨_, fun _ _ => rfl, ?_⟩; go_big_quiet_on)
          go_big_quiet_want
          refine ⟨.agg #[.int .i64 s.sch, .int .i64 s.dim, .slice ps.AL s.L.length ps.cL, .slice ps.AV s.V.length ps.cV, .int .i64 s.scale, .int .i64 s.wide, .slice ps.AE s.lev.length ps.cE, .slice ps.AN s.neg.length ps.cN], fun W hW => ?_, ?_⟩
          · obtain ⟨⟨q0, q1, q2, q3, q4, q5, q6, q7⟩, _⟩ := (ZS_2.out.below hW (ZS_2.out.lt (by simp))).eight
            go_simp
          simp only [Act.put, List.setIfInBounds_toArray, List.set_cons_zero, List.set_cons_succ]
          go_big_quiet_on
          go_big_quiet_want
          go_big_quiet_op
          go_big_quiet_call ((intro hW; refine (CM.out _ (HV.out.on (k13.trans (hW.mono k13.size))) (HS.out.on (k13.trans (hW.mono k13.size)))).mono ?_; rintro _ w' ⟨rfl, hb⟩; exact ⟨rfl, hW.trans (hb.mono hW.size)⟩))
          go_big_quiet_want
          refine ⟨.agg #[.int .i64 hs, .int .i64 hk, .int .i64 hw], fun W hW => ?_, ?_⟩
          · have HQ := ZH_1.out.below hW (ZH_1.out.lt (by simp))
            have q0 := (HQ 0 _ rfl).1
            have q1 := (HQ 1 _ rfl).1
            have q2 := (HQ 2 _ rfl).1
            go_simp
          simp only [Act.put, List.setIfInBounds_toArray, List.set_cons_zero, List.set_cons_succ]
          go_big_quiet_on
          go_big_quiet_want
          go_big_quiet_op
          first | go_big_quiet_on | (refine ⟨_, fun _ _ => rfl, ?_⟩; go_big_quiet_on)
          go_big_quiet_want
          refine ⟨.agg #[.int .i64 s.sch, .int .i64 s.dim, .slice ps.AL s.L.length ps.cL, .slice ps.AV s.V.length ps.cV, .int .i64 s.scale, .int .i64 s.wide, .slice ps.AE s.lev.length ps.cE, .slice ps.AN s.neg.length ps.cN], fun W hW => ?_, ?_⟩
          · obtain ⟨⟨q0, q1, q2, q3, q4, q5, q6, q7⟩, _⟩ := (ZS_2.out.below hW (ZS_2.out.lt (by simp))).eight
            go_simp
          simp only [Act.put, List.setIfInBounds_toArray, List.set_cons_zero, List.set_cons_succ]
          go_big_quiet_on
          go_big_quiet_want
          go_big_quiet_op
          go_big_quiet_call ((intro hW; refine (DM.out _ (HV.out.on (k13.trans (hW.mono k13.size))) (HS.out.on (k13.trans (hW.mono k13.size)))).mono ?_; rintro _ w' ⟨rfl, hb⟩; exact ⟨rfl, hW.trans (hb.mono hW.size)⟩))
          go_big_quiet_want
          go_big_quiet_op
          first | go_big_quiet_on | (refine ⟨_, fun _ _ => rfl, ?_⟩; go_big_quiet_on)
          go_big_quiet_want
          go_big_quiet_op
          first | go_big_quiet_on | (refine ⟨_, fun _ _ => rfl, ?_⟩; go_big_quiet_on)
          go_big_quiet_want
          go_big_quiet_op
          first | go_big_quiet_on | (refine ⟨_, fun _ _ => rfl, ?_⟩; go_big_quiet_on)
          refine wpQuiet_nil ?_
          intro w14 hb14
          have k14 := k13.trans (hb14.mono k13.size)
          go_wp2_with fail
          go_ret
          exact ⟨rfl, k14⟩
  · rw [Bool.eq_false_iff.2 hf] at CF
    clear hf rv uv rs ws cs
    go_enter Tryz.func4, Tryz.ntmps4
    go_wp2_with fail
    refine (ps_live _).mono ?_
    rintro _ w1 ⟨rfl, hb1⟩
    have k1 : Below w.heap.size w w1 := Below.trans (by go_grown) (hb1.mono (by simp; omega))
    have YH := hid (HBX.out.below hb1 (by simp; omega))
    have YS := hid (HBS.out.below hb1 (by simp))
    clear hb1 HBX HBS
    go_wp2_with fail
    refine (CF.out w1 (HV.out.on k1)).mono ?_
    rintro _ w2 ⟨rfl, hw2⟩
    have g2 := sg_up w1 (.cells #[.slice Av v.length cv] 24)
    rw [hw2] at g2
    have ZH_1 := hid (YH.out.below g2 (YH.out.lt (by simp)))
    clear YH
    have ZS_2 := hid (YS.out.below g2 (YS.out.lt (by simp)))
    clear YS
    have k2 := k1.trans (g2.mono k1.size)
    clear k1
    clear g2 CF hw2
    go_wp2_with fail
    go_ret
    exact ⟨rfl, k2⟩
theorem law_types : ∀ t ∈ Tryz.f4.params.toList, Tryz.prog.readableRec t = true ∧ t < Tryz.prog.types.size := by
  have h : (Tryz.f4.params.toList.all fun t => Tryz.prog.readableRec t && decide (t < Tryz.prog.types.size)) = true := by kernel_rfl
  intro t ht
  simpa using List.all_eq_true.1 h t ht
set_option maxRecDepth 100000 in
theorem lifted (os : Os) (started : os.Started) (H : Type) (enc : TypeId × Value → H) :
    ReturnsInHanded {} Tryz.checked os 4 .any (Rows.pressLoosensSpec.pre6 enc Tryz.prog Tryz.f4 Rows.pressLoosensRow.domain false) (Rows.pressLoosensSpec.post enc Tryz.prog Tryz.f4 false true false false) := by
  refine returnsInHanded_of_change (C := Tryz.checked) own started (by kernel_rfl) Tryz.func4
    (ChangeSpec.witness6 (enc := enc) (C := Tryz.checked) false ⟨#[], #[.agg #[.int .i64 0, .int .i64 0, .int .i64 0], .slice none 0 0, .agg #[.int .i64 0, .int .i64 0, .slice none 0 0, .slice none 0 0, .int .i64 0, .int .i64 0, .slice none 0 0, .slice none 0 0]], []⟩ 8 (by kernel_rfl) (by kernel_rfl) (by kernel_rfl) (by kernel_rfl)) ?_
  intro W base args ds gs before hval0 hW hcnd _
  have hval : ∀ (j : Nat) t v, Tryz.f4.params[j]? = some t → args[j]? = some v → Value.okWide Tryz.prog W .any base t v := hval0
  have hW' := hW
  obtain ⟨p, q, hA0, hV, rfl, hfz, hnd⟩ := hW
  have hA : DataW.TrodAll enc Tryz.prog W 0 (fun _ => true) true Tryz.f4.params.toList args.toList ds p := hA0
  rw [Tryz.params4] at hA hval
  obtain ⟨v0, vs0, d0, ds0, p0, q0, hargs, rfl, rfl, h0, r0⟩ := trodAll_cons hA
  obtain ⟨v1, vs1, d1, ds1, p1, q1, rfl, rfl, rfl, h1, r1⟩ := trodAll_cons r0
  obtain ⟨v2, vs2, d2, ds2, p2, q2, rfl, rfl, rfl, h2, r2⟩ := trodAll_cons r1
  obtain ⟨rfl, rfl, rfl⟩ := trodAll_nil r2
  obtain rfl : args = #[v0, v1, v2] := by cases args; simp_all
  obtain ⟨rfl, rfl⟩ := trodVars_none hV
  obtain ⟨hs, hk, hw, rfl, ish, ikh, iwh⟩ := open_how (hval 0 23 v0 rfl rfl) h0
  obtain ⟨Av, v, cv, rfl, rdv, iv, lcv, lmv⟩ := open_nums Tryz.underlying24 Tryz.underlying2 cells_i64' (hval 1 24 v1 rfl rfl) h1
  obtain ⟨s, ps, rfl, rds, wfs, cps⟩ := open_sent (hval 2 32 v2 rfl rfl) h2
  clear hA0 hval0
  refine (walk hs hk hw Av v cv s ps W ish ikh iwh rdv (fun x hx => I64.of_wf (iv x hx)) lcv lmv rds wfs cps).mono fun e W' ⟨he, hb⟩ => ?_
  subst he
  exact ⟨_, rfl, law_post laid (fun t ht => law_types t ht) rfl hW' ⟨rfl, rfl, rfl⟩ (by kernel_rfl) Tryz.underlying4 hb⟩

theorem over : Rows.pressLoosensRow.holds Tryz.pinned (OpenSpec.ofChange Rows.pressLoosensSpec) :=
  OpenClaim.holds_of_wide 4 Tryz.f4 rfl rfl rfl rfl rfl rfl rfl ⟨rfl, rfl, rfl, rfl, rfl⟩ rfl rfl rfl rfl rfl (by kernel_rfl) Tryz.func4 (by kernel_rfl)
    (of_decide_eq_true (by kernel_rfl)) (by unfold Func.isWrapper; first | (rw [if_pos (by decide +kernel)]; kernel_rfl) | (rw [if_neg (by decide +kernel)]; exact ⟨rfl, rfl⟩))
    (fun os started H enc _ => lifted os started H enc)

theorem proved : Rows.PressLoosensSaid := over
end Go.Proofs.YtecgbelgoomneaaGreat.PressLoosens
