
/-
  PressMeets answers true for every input. No condition.
-/
import Derived.Test.YtecgbelgoomneaaGreatZk
import Derived.Test.YtecgbelgoomneaaGreatZe
import Derived.Test.YtecgbelgoomneaaGreatZFsO
import Derived.Test.YtecgbelgoomneaaGreatZc
namespace Go.Proofs.YtecgbelgoomneaaGreat.PressMeets
open Go.ChangeShapes Go.WideShapes Go.ChangeAt Go.RowKit
set_option maxHeartbeats 400000
set_option linter.unusedVariables false
open Go.Proofs.YtecgbelgoomneaaGreat
theorem seqE_two {num : Nat → Int × Int} (h : ∀ k, (num k).2 = 0 ∨ (num k).2 = 2) : ∀ n, seqE num n = 0 ∨ seqE num n = 2
  | 0 => .inl rfl
  | n + 1 => by
    unfold seqE
    split
    · exact h n
    · exact seqE_two h n
theorem op_two {f : Int → Int → Int} {xs ys : List Int} (h1 : xs.length ≤ 4096) (h2 : ys.length = xs.length) : opE f xs ys = 0 ∨ opE f xs ys = 2 := by
  unfold opE
  have ht : twoE xs.length ys.length = 0 := twoE_mk h1 h2
  rw [if_pos ht]
  refine seqE_two (fun k => ?_) _
  show ckE _ = 0 ∨ ckE _ = 2
  unfold ckE
  split
  · exact .inl rfl
  · exact .inr rfl
theorem left_two {v : List Int} {S : SentV} (h : mayB S = true) (hd : S.dim = v.length) (hl : v.length ≤ 4096) : plfE v S = 0 ∨ plfE v S = 2 := by
  have e : plfE v S = opE (· - ·) v (ploV S) := if_neg (by simp [ploE_ok.2 h])
  have hp := plo_len h
  rw [e]
  exact op_two hl (by omega)
theorem left_i64 {v : List Int} {S : SentV} : ∀ x ∈ plfV v S, I64 x := by
  unfold plfV
  split
  · exact op_i64
  · simp
set_option maxHeartbeats 8000000 in
set_option maxRecDepth 100000 in
theorem walk (hs hk hw : Int) (Av : Option Addr) (v : List Int) (cv : Nat) (seed : Int) (An : Option Addr) (nn : List Int) (cn : Nat) (w : World) (ihs : I64 hs) (ihk : I64 hk) (ihw : I64 hw) (rv : Rd (Value.int .i64) w w.heap.size Av v) (uv : I64s v) (lv : v.length ≤ cv) (mv : cv ≤ 9223372036854775807) (us : U64 seed)
    (rn : Rd (Value.int .i64) w w.heap.size An nn) (un : I64s nn) (ln : nn.length ≤ cn) (mn : cn ≤ 9223372036854775807) :
    Calls Tryz.prog 5 #[.agg #[.int .i64 hs, .int .i64 hk, .int .i64 hw], .slice Av v.length cv, .int .u64 seed, .slice An nn.length cn] w fun e w' => e = .returned (.bool true) ∧ Below w.heap.size w w' := by
  have HV := hid rv
  have HN := hid rn
  have hv : v.length ≤ 9223372036854775807 := by omega
  have CF := hid (fun W (h : Rd (Value.int .i64) W W.heap.size Av v) => pf_one (A := Av) (c := cv) An nn.length cn (by omega) v hv W h)
  have HBX := hid (BoxL.new w [.int .i64 hs, .int .i64 hk, .int .i64 hw] 23)
  obtain ⟨sd, rfl⟩ := Int.eq_ofNat_of_zero_le us.1
  have hsd : sd < 2 ^ 64 := by have := us.2; omega
  clear us
  by_cases hf : fewP nn.length [v] = true
  · rw [hf] at CF
    obtain ⟨hf1, hf2, _⟩ := fewP_ok.1 hf
    have hn5 : nn.length ≤ 1000 := by omega
    have hsh := hf1 v (by simp)
    have CP := hid (fun W (h1 : Rd (Value.int .i64) W W.heap.size Av v) (h2 : Rd (Value.int .i64) W W.heap.size An nn) => pn_Press (A := Av) (B := An) (c := cv) (d := cn) hs hk hw ihs ihw v uv hv sd hsd nn un hn5 W h1 h2)
    by_cases he : ppE hs hk hw v = 0
    · have h200 : v.length ≤ 200 := by
        have h1 := (ppE_ok.1 he).1
        unfold shP at hsh
        omega
      obtain ⟨m1, m2, m3⟩ := pp_may (seed := sd) (n := nn) uv he
      have hmt := pp_meets (seed := sd) (n := nn) uv he
      obtain ⟨f1, f2, f3, f4, f5, f6⟩ := pp_frame (s := sd) (n := nn) ihw uv he h200 (f := ⟨1, 0, 0, ppS hs hk hw v sd nn⟩) rfl
      have wf := pp_wf (sch := hs) (k := hk) (v := v) (s := sd) (n := nn) ihw uv
      rw [he] at CP
      obtain ⟨S, hS⟩ : ∃ S, ppS hs hk hw v sd nn = S := ⟨_, rfl⟩
      rw [hS] at CP m1 m2 m3 hmt f1 f2 f3 f4 f5 f6 wf
      replace f2 : lnS 500 S := f2
      have pE := ploE_ok.2 m1
      have hpl := plo_le S
      have hpi := plo_i64 wf
      have hlt := left_two m1 m3 (by omega)
      have hli := left_i64 (v := v) (S := S)
      have hll : (plfV v S).length ≤ 4096 := by rw [show plfV v S = opV (· - ·) v (ploV S) from if_pos pE]; exact op_len
      have hbk := fun h => plf_back (s := S) uv h
      have CL := hid (fun (p : SentP) W (h : RdS W W.heap.size S p) => show Calls Tryz.prog 20 #[.agg #[.int .i64 S.sch, .int .i64 S.dim, .slice p.AL S.L.length p.cL, .slice p.AV S.V.length p.cV, .int .i64 S.scale, .int .i64 S.wide, .slice p.AE S.lev.length p.cE, .slice p.AN S.neg.length p.cN]] W (OwnE 2 .i64 W.heap.size (ploV S) 0 W) from by
        have h9 := pn_Loosen S p (f2.more (by decide)) wf W h
        rw [pE] at h9
        exact h9)
      have CG := hid (fun (p : SentP) W (h1 : Rd (Value.int .i64) W W.heap.size Av v) (h : RdS W W.heap.size S p) => show Calls Tryz.prog 22 #[.slice Av v.length cv, .agg #[.int .i64 S.sch, .int .i64 S.dim, .slice p.AL S.L.length p.cL, .slice p.AV S.V.length p.cV, .int .i64 S.scale, .int .i64 S.wide, .slice p.AE S.lev.length p.cE, .slice p.AN S.neg.length p.cN]] W (OwnE 2 .i64 W.heap.size (plfV v S) (plfE v S) W) from pn_Left (A := Av) (c := cv) v uv hv S p (f2.more (by decide)) wf W h1 h)
      have CA := hid (fun (A B : Option Addr) (c d : Nat) W (h1 : Rd (Value.int .i64) W W.heap.size A (ploV S)) (h2 : Rd (Value.int .i64) W W.heap.size B (plfV v S)) => Add_any (A := A) (B := B) (c := c) (d := d) (ploV S) (plfV v S) (by omega) (by omega) hpi hli W h1 h2)
      have CM := hid (fun (p : SentP) W (h1 : Rd (Value.int .i64) W W.heap.size Av v) (h : RdS W W.heap.size S p) => show Calls Tryz.prog 26 #[.agg #[.int .i64 hs, .int .i64 hk, .int .i64 hw], .slice Av v.length cv, .agg #[.int .i64 S.sch, .int .i64 S.dim, .slice p.AL S.L.length p.cL, .slice p.AV S.V.length p.cV, .int .i64 S.scale, .int .i64 S.wide, .slice p.AE S.lev.length p.cE, .slice p.AN S.neg.length p.cN]] W fun e w' => e = .returned (.bool true) ∧ Below W.heap.size W w' from by
        have h9 := pn_Meets (A := Av) (c := cv) hs hk hw ihs v uv hv S p (f2.more (by decide)) wf W h1 h
        rw [hmt] at h9
        exact h9)
      obtain ⟨T, hT⟩ : ∃ T, wrtV ⟨1, 0, 0, S⟩ = T := ⟨_, rfl⟩
      have CW := hid (fun (p : SentP) (W : World) (h : RdS W W.heap.size S p) => show Calls Tryz.prog 29 #[.agg #[.int .i64 1, .int .i64 0, .int .i64 0, .int .i64 S.sch, .int .i64 S.dim, .slice p.AL S.L.length p.cL, .slice p.AV S.V.length p.cV, .int .i64 S.scale, .int .i64 S.wide, .slice p.AE S.lev.length p.cE, .slice p.AN S.neg.length p.cN]] W (OwnE 5 .u8 W.heap.size T 0 W) from by
        have h9 := wx_Write ⟨1, 0, 0, S⟩ p (f2.more (by decide)) f1 W h
        rw [hT, f3] at h9
        exact h9)
      have CR := hid (fun (A : Option Addr) (c : Nat) (W : World) (h1 : T.length ≤ c) (h2 : c ≤ 9223372036854775807) (h : Rd (Value.int .u8) W W.heap.size A T) => show Calls Tryz.prog 30 #[.slice A T.length c] W fun e w' => ∃ q : SentP, e = .returned (.tuple #[.agg #[.int .i64 1, .int .i64 0, .int .i64 0, .int .i64 S.sch, .int .i64 S.dim, .slice q.AL S.L.length q.cL, .slice q.AV S.V.length q.cV, .int .i64 S.scale, .int .i64 S.wide, .slice q.AE S.lev.length q.cE, .slice q.AN S.neg.length q.cN], .int .i64 0]) ∧ RdS w' w'.heap.size S q ∧ Below W.heap.size W w' from by
        have h9 := fr_Read A c T (by rw [← hT]; omega) h1 h2 (by rw [← hT]; exact f5) W h
        rw [hT] at f4
        rw [f4] at h9
        exact h9)
      have CS := hid (fun (p q : SentP) (W : World) (h1 : RdS W W.heap.size S p) (h2 : RdS W W.heap.size S q) => show Calls Tryz.prog 15 #[.agg #[.int .i64 S.sch, .int .i64 S.dim, .slice p.AL S.L.length p.cL, .slice p.AV S.V.length p.cV, .int .i64 S.scale, .int .i64 S.wide, .slice p.AE S.lev.length p.cE, .slice p.AN S.neg.length p.cN], .agg #[.int .i64 S.sch, .int .i64 S.dim, .slice q.AL S.L.length q.cL, .slice q.AV S.V.length q.cV, .int .i64 S.scale, .int .i64 S.wide, .slice q.AE S.lev.length q.cE, .slice q.AN S.neg.length q.cN]] W fun e w' => e = .returned (.bool true) ∧ Below W.heap.size W w' from by
        have h9 := ref_SameSent S S p q (f2.more (by decide)) (f2.more (by decide)) W (Nat.le_refl _) (Nat.le_refl _) h1 h2
        rw [sameS_iff.2 rfl] at h9
        exact h9)
      obtain ⟨X, e1⟩ : ∃ x, ploV S = x := ⟨_, rfl⟩
      obtain ⟨Y, e2⟩ : ∃ x, plfV v S = x := ⟨_, rfl⟩
      obtain ⟨E, e3⟩ : ∃ x, plfE v S = x := ⟨_, rfl⟩
      rw [e1] at CL CA hbk
      rw [e2] at CG CA hbk
      rw [e3] at CG hlt hbk
      obtain ⟨Z, e4⟩ : ∃ x, opV (· + ·) X Y = x := ⟨_, rfl⟩
      obtain ⟨F, e5⟩ : ∃ x, opE (· + ·) X Y = x := ⟨_, rfl⟩
      rw [e4, e5] at CA hbk
      have HBK := hid (show E = 0 → F = 0 ∧ Z = v from fun h => ⟨(hbk h).1, (hbk h).2.1⟩)
      have CQ := hid (fun (A B : Option Addr) (c d : Nat) W (h1 : Rd (Value.int .i64) W W.heap.size A v) (h2 : Rd (Value.int .i64) W W.heap.size B v) => Same_any (A := A) (B := B) (c := c) (d := d) v v hv hv W h1 h2)
      rw [eqB_self] at CQ
      clear hS hT e1 e2 e3 e4 e5 hbk hpl hpi hli hll hmt m1 m2 m3 f1 f2 f3 f4 f5 f6 wf pE he hsh hf hf1 hf2 rv uv rn un
      by_cases hE : E = 0
      · obtain ⟨hF, hZ⟩ := HBK.out hE
        rw [hZ] at CA
        subst hE hF
        clear hZ
        clear HBK hlt
        go_enter Tryz.func5, Tryz.ntmps5
        go_wp2_with fail
        refine (ps_live _).mono ?_
        rintro _ w1 ⟨rfl, hb1⟩
        have k1 : Below w.heap.size w w1 := Below.trans (by go_grown) (hb1.mono (by simp))
        have YH := hid (HBX.out.below hb1 (by simp))
        clear hb1 HBX
        go_wp2_with fail
        refine (CF.out w1 (HV.out.on k1)).mono ?_
        rintro _ w2 ⟨rfl, hw2⟩
        have g2 := sg_up w1 (.cells #[.slice Av v.length cv] 24)
        rw [hw2] at g2
        have ZH_1 := hid (YH.out.below g2 (YH.out.lt (by simp)))
        clear YH
        have k2 := k1.trans (g2.mono k1.size)
        clear k1
        clear g2 CF hw2
        have cH0 := (ZH_1.out 0 _ rfl).1
        have cH1 := (ZH_1.out 1 _ rfl).1
        have cH2 := (ZH_1.out 2 _ rfl).1
        go_wp2_with fail
        refine (CP.out w2 (HV.out.on k2) (HN.out.on k2)).mono ?_
        rintro _ w3 ⟨p, rfl, ho, hb3⟩
        have ZH_2 := hid (ZH_1.out.below hb3 (ZH_1.out.lt (by simp)))
        clear ZH_1
        have k3 := k2.trans (hb3.mono k2.size)
        clear k2
        clear hb3 CP cH0 cH1 cH2
        have YS := hid (OwnL.rd ho)
        clear ho
        have g4 := sg_up w3 (.cells #[.int .i64 S.sch, .int .i64 S.dim, .slice p.AL S.L.length p.cL, .slice p.AV S.V.length p.cV, .int .i64 S.scale, .int .i64 S.wide, .slice p.AE S.lev.length p.cE, .slice p.AN S.neg.length p.cN] 32)
        have n4 := BoxL.new w3 [.int .i64 S.sch, .int .i64 S.dim, .slice p.AL S.L.length p.cL, .slice p.AV S.V.length p.cV, .int .i64 S.scale, .int .i64 S.wide, .slice p.AE S.lev.length p.cE, .slice p.AN S.neg.length p.cN] 32
        simp only [List.toArray] at n4
        obtain ⟨w4, hw4⟩ : ∃ wn, (w3.alloc (.cells #[.int .i64 S.sch, .int .i64 S.dim, .slice p.AL S.L.length p.cL, .slice p.AV S.V.length p.cV, .int .i64 S.scale, .int .i64 S.wide, .slice p.AE S.lev.length p.cE, .slice p.AN S.neg.length p.cN] 32)) = wn := ⟨_, rfl⟩
        rw [hw4] at g4 n4
        have ZH_3 := hid (ZH_2.out.below g4 (ZH_2.out.lt (by simp)))
        clear ZH_2
        have ZS_4 := hid (YS.out.on g4)
        clear YS
        have k4 := k3.trans (g4.mono k3.size)
        clear k3
        have YSB := hid (n4)
        clear n4 g4
        go_upto_region 7 with fail
        try rw [hw4]
        clear hw4
        obtain ⟨⟨cSB0, cSB1, cSB2, cSB3, cSB4, cSB5, cSB6, cSB7⟩, _⟩ := YSB.out.eight
        go_wp2_with fail
        refine (CL.out p w4 (ZS_4.out)).mono ?_
        rintro _ w5 ⟨A5, c5, rfl, o5, hb5⟩
        have ZH_5 := hid (ZH_3.out.below hb5 (ZH_3.out.lt (by simp)))
        clear ZH_3
        have ZS_6 := hid (ZS_4.out.on hb5)
        clear ZS_4
        have ZSB_7 := hid (YSB.out.below hb5 (YSB.out.lt (by simp)))
        clear YSB
        have k5 := k4.trans (hb5.mono k4.size)
        clear k4
        clear hb5 CL cSB0 cSB1 cSB2 cSB3 cSB4 cSB5 cSB6 cSB7
        have YX := hid (own_rd o5)
        clear o5
        obtain ⟨⟨cSB0, cSB1, cSB2, cSB3, cSB4, cSB5, cSB6, cSB7⟩, _⟩ := ZSB_7.out.eight
        go_wp2_with fail
        refine (CG.out p w5 (HV.out.on k5) (ZS_6.out)).mono ?_
        rintro _ w6 ⟨A6, c6, rfl, o6, hb6⟩
        have ZH_8 := hid (ZH_5.out.below hb6 (ZH_5.out.lt (by simp)))
        clear ZH_5
        have ZS_9 := hid (ZS_6.out.on hb6)
        clear ZS_6
        have ZSB_10 := hid (ZSB_7.out.below hb6 (ZSB_7.out.lt (by simp)))
        clear ZSB_7
        have ZX_11 := hid (YX.out.on hb6)
        clear YX
        have k6 := k5.trans (hb6.mono k5.size)
        clear k5
        clear hb6 CG cSB0 cSB1 cSB2 cSB3 cSB4 cSB5 cSB6 cSB7
        have YY := hid (own_rd o6)
        clear o6
        go_wp2_with fail
        refine (CA.out A5 A6 c5 c6 w6 (ZX_11.out) (YY.out)).mono ?_
        rintro _ w7 ⟨A7, c7, rfl, o7, hb7⟩
        have ZH_12 := hid (ZH_8.out.below hb7 (ZH_8.out.lt (by simp)))
        clear ZH_8
        have ZS_13 := hid (ZS_9.out.on hb7)
        clear ZS_9
        have ZSB_14 := hid (ZSB_10.out.below hb7 (ZSB_10.out.lt (by simp)))
        clear ZSB_10
        have ZX_15 := hid (ZX_11.out.on hb7)
        clear ZX_11
        have ZY_16 := hid (YY.out.on hb7)
        clear YY
        have k7 := k6.trans (hb7.mono k6.size)
        clear k6
        clear hb7 CA
        have YZ := hid (own_rd o7)
        clear o7
        clear ZX_15
        clear ZY_16
        obtain ⟨⟨cSB0, cSB1, cSB2, cSB3, cSB4, cSB5, cSB6, cSB7⟩, _⟩ := ZSB_14.out.eight
        go_wp2_with fail
        refine (CW.out p w7 (ZS_13.out)).mono ?_
        rintro _ w8 ⟨A8, c8, rfl, o8, hb8⟩
        have ZH_17 := hid (ZH_12.out.below hb8 (ZH_12.out.lt (by simp)))
        clear ZH_12
        have ZS_18 := hid (ZS_13.out.on hb8)
        clear ZS_13
        have ZSB_19 := hid (ZSB_14.out.below hb8 (ZSB_14.out.lt (by simp)))
        clear ZSB_14
        have ZZ_20 := hid (YZ.out.on hb8)
        clear YZ
        have k8 := k7.trans (hb8.mono k7.size)
        clear k7
        clear hb8 CW cSB0 cSB1 cSB2 cSB3 cSB4 cSB5 cSB6 cSB7
        have hcap := own_cap o8
        have YT := hid (own_rd o8)
        clear o8
        go_wp2_with fail
        refine (CR.out A8 c8 w8 hcap.1 hcap.2 (YT.out)).mono ?_
        rintro _ w9 ⟨q, rfl, hr9, hb9⟩
        have ZH_21 := hid (ZH_17.out.below hb9 (ZH_17.out.lt (by simp)))
        clear ZH_17
        have ZS_22 := hid (ZS_18.out.on hb9)
        clear ZS_18
        have ZSB_23 := hid (ZSB_19.out.below hb9 (ZSB_19.out.lt (by simp)))
        clear ZSB_19
        have ZZ_24 := hid (ZZ_20.out.on hb9)
        clear ZZ_20
        have ZT_25 := hid (YT.out.on hb9)
        clear YT
        have k9 := k8.trans (hb9.mono k8.size)
        clear k8
        clear hb9 CR hcap
        have YQ := hid (hr9)
        clear hr9
        clear ZT_25
        have g10 := sg_up w9 (.cells #[.int .i64 1, .int .i64 0, .int .i64 0, .int .i64 S.sch, .int .i64 S.dim, .slice q.AL S.L.length q.cL, .slice q.AV S.V.length q.cV, .int .i64 S.scale, .int .i64 S.wide, .slice q.AE S.lev.length q.cE, .slice q.AN S.neg.length q.cN] 54)
        have n10 := BoxL.new w9 [.int .i64 1, .int .i64 0, .int .i64 0, .int .i64 S.sch, .int .i64 S.dim, .slice q.AL S.L.length q.cL, .slice q.AV S.V.length q.cV, .int .i64 S.scale, .int .i64 S.wide, .slice q.AE S.lev.length q.cE, .slice q.AN S.neg.length q.cN] 54
        simp only [List.toArray] at n10
        obtain ⟨w10, hw10⟩ : ∃ wn, (w9.alloc (.cells #[.int .i64 1, .int .i64 0, .int .i64 0, .int .i64 S.sch, .int .i64 S.dim, .slice q.AL S.L.length q.cL, .slice q.AV S.V.length q.cV, .int .i64 S.scale, .int .i64 S.wide, .slice q.AE S.lev.length q.cE, .slice q.AN S.neg.length q.cN] 54)) = wn := ⟨_, rfl⟩
        rw [hw10] at g10 n10
        have ZH_26 := hid (ZH_21.out.below g10 (ZH_21.out.lt (by simp)))
        clear ZH_21
        have ZS_27 := hid (ZS_22.out.on g10)
        clear ZS_22
        have ZSB_28 := hid (ZSB_23.out.below g10 (ZSB_23.out.lt (by simp)))
        clear ZSB_23
        have ZZ_29 := hid (ZZ_24.out.on g10)
        clear ZZ_24
        have ZQ_30 := hid (YQ.out.on g10)
        clear YQ
        have k10 := k9.trans (g10.mono k9.size)
        clear k9
        have YFB := hid (n10)
        clear n10 g10
        go_upto_region 14 with fail
        try rw [hw10]
        clear hw10
        have cH0 := (ZH_26.out 0 _ rfl).1
        have cH1 := (ZH_26.out 1 _ rfl).1
        have cH2 := (ZH_26.out 2 _ rfl).1
        obtain ⟨⟨cSB0, cSB1, cSB2, cSB3, cSB4, cSB5, cSB6, cSB7⟩, _⟩ := ZSB_28.out.eight
        go_wp2_with fail
        refine (CM.out p w10 (HV.out.on k10) (ZS_27.out)).mono ?_
        rintro _ w11 ⟨rfl, hb11⟩
        have ZH_31 := hid (ZH_26.out.below hb11 (ZH_26.out.lt (by simp)))
        clear ZH_26
        have ZS_32 := hid (ZS_27.out.on hb11)
        clear ZS_27
        have ZSB_33 := hid (ZSB_28.out.below hb11 (ZSB_28.out.lt (by simp)))
        clear ZSB_28
        have ZZ_34 := hid (ZZ_29.out.on hb11)
        clear ZZ_29
        have ZQ_35 := hid (ZQ_30.out.on hb11)
        clear ZQ_30
        have ZFB_36 := hid (YFB.out.below hb11 (YFB.out.lt (by simp)))
        clear YFB
        have k11 := k10.trans (hb11.mono k10.size)
        clear k10
        clear hb11 CM cH0 cH1 cH2 cSB0 cSB1 cSB2 cSB3 cSB4 cSB5 cSB6 cSB7
        obtain ⟨⟨cSB0, cSB1, cSB2, cSB3, cSB4, cSB5, cSB6, cSB7⟩, _⟩ := ZSB_33.out.eight
        obtain ⟨d0, d1, d2, d3, d4, d5, d6, d7, d8, d9, d10⟩ := BoxL.cells11 ZFB_36.out
        go_wp2_with fail
        refine (CS.out q p w11 (ZQ_35.out) (ZS_32.out)).mono ?_
        rintro _ w12 ⟨rfl, hb12⟩
        have ZH_37 := hid (ZH_31.out.below hb12 (ZH_31.out.lt (by simp)))
        clear ZH_31
        have ZS_38 := hid (ZS_32.out.on hb12)
        clear ZS_32
        have ZSB_39 := hid (ZSB_33.out.below hb12 (ZSB_33.out.lt (by simp)))
        clear ZSB_33
        have ZZ_40 := hid (ZZ_34.out.on hb12)
        clear ZZ_34
        have ZQ_41 := hid (ZQ_35.out.on hb12)
        clear ZQ_35
        have ZFB_42 := hid (ZFB_36.out.below hb12 (ZFB_36.out.lt (by simp)))
        clear ZFB_36
        have k12 := k11.trans (hb12.mono k11.size)
        clear k11
        clear hb12 CS d0 d1 d2 d3 d4 d5 d6 d7 d8 d9 d10 cSB0 cSB1 cSB2 cSB3 cSB4 cSB5 cSB6 cSB7
        clear ZQ_41
        clear ZS_38
        clear ZFB_42
        clear ZSB_39
        clear ZH_37
        go_wp2_with fail
        refine (CQ.out A7 Av c7 cv w12 (ZZ_40.out) (HV.out.on k12)).mono ?_
        rintro _ w13 ⟨rfl, hb13⟩
        have ZZ_43 := hid (ZZ_40.out.on hb13)
        clear ZZ_40
        have k13 := k12.trans (hb13.mono k12.size)
        clear k12
        clear hb13 CQ
        go_wp2_with fail
        go_ret
        exact ⟨rfl, k13⟩
      · obtain rfl : E = 2 := by omega
        clear HBK hlt hE
        go_enter Tryz.func5, Tryz.ntmps5
        go_wp2_with fail
        refine (ps_live _).mono ?_
        rintro _ w1 ⟨rfl, hb1⟩
        have k1 : Below w.heap.size w w1 := Below.trans (by go_grown) (hb1.mono (by simp))
        have YH := hid (HBX.out.below hb1 (by simp))
        clear hb1 HBX
        go_wp2_with fail
        refine (CF.out w1 (HV.out.on k1)).mono ?_
        rintro _ w2 ⟨rfl, hw2⟩
        have g2 := sg_up w1 (.cells #[.slice Av v.length cv] 24)
        rw [hw2] at g2
        have ZH_1 := hid (YH.out.below g2 (YH.out.lt (by simp)))
        clear YH
        have k2 := k1.trans (g2.mono k1.size)
        clear k1
        clear g2 CF hw2
        have cH0 := (ZH_1.out 0 _ rfl).1
        have cH1 := (ZH_1.out 1 _ rfl).1
        have cH2 := (ZH_1.out 2 _ rfl).1
        go_wp2_with fail
        refine (CP.out w2 (HV.out.on k2) (HN.out.on k2)).mono ?_
        rintro _ w3 ⟨p, rfl, ho, hb3⟩
        have ZH_2 := hid (ZH_1.out.below hb3 (ZH_1.out.lt (by simp)))
        clear ZH_1
        have k3 := k2.trans (hb3.mono k2.size)
        clear k2
        clear hb3 CP cH0 cH1 cH2
        have YS := hid (OwnL.rd ho)
        clear ho
        have g4 := sg_up w3 (.cells #[.int .i64 S.sch, .int .i64 S.dim, .slice p.AL S.L.length p.cL, .slice p.AV S.V.length p.cV, .int .i64 S.scale, .int .i64 S.wide, .slice p.AE S.lev.length p.cE, .slice p.AN S.neg.length p.cN] 32)
        have n4 := BoxL.new w3 [.int .i64 S.sch, .int .i64 S.dim, .slice p.AL S.L.length p.cL, .slice p.AV S.V.length p.cV, .int .i64 S.scale, .int .i64 S.wide, .slice p.AE S.lev.length p.cE, .slice p.AN S.neg.length p.cN] 32
        simp only [List.toArray] at n4
        obtain ⟨w4, hw4⟩ : ∃ wn, (w3.alloc (.cells #[.int .i64 S.sch, .int .i64 S.dim, .slice p.AL S.L.length p.cL, .slice p.AV S.V.length p.cV, .int .i64 S.scale, .int .i64 S.wide, .slice p.AE S.lev.length p.cE, .slice p.AN S.neg.length p.cN] 32)) = wn := ⟨_, rfl⟩
        rw [hw4] at g4 n4
        have ZH_3 := hid (ZH_2.out.below g4 (ZH_2.out.lt (by simp)))
        clear ZH_2
        have ZS_4 := hid (YS.out.on g4)
        clear YS
        have k4 := k3.trans (g4.mono k3.size)
        clear k3
        have YSB := hid (n4)
        clear n4 g4
        go_upto_region 7 with fail
        try rw [hw4]
        clear hw4
        obtain ⟨⟨cSB0, cSB1, cSB2, cSB3, cSB4, cSB5, cSB6, cSB7⟩, _⟩ := YSB.out.eight
        go_wp2_with fail
        refine (CL.out p w4 (ZS_4.out)).mono ?_
        rintro _ w5 ⟨A5, c5, rfl, o5, hb5⟩
        have ZH_5 := hid (ZH_3.out.below hb5 (ZH_3.out.lt (by simp)))
        clear ZH_3
        have ZS_6 := hid (ZS_4.out.on hb5)
        clear ZS_4
        have ZSB_7 := hid (YSB.out.below hb5 (YSB.out.lt (by simp)))
        clear YSB
        have k5 := k4.trans (hb5.mono k4.size)
        clear k4
        clear hb5 CL cSB0 cSB1 cSB2 cSB3 cSB4 cSB5 cSB6 cSB7
        have YX := hid (own_rd o5)
        clear o5
        obtain ⟨⟨cSB0, cSB1, cSB2, cSB3, cSB4, cSB5, cSB6, cSB7⟩, _⟩ := ZSB_7.out.eight
        go_wp2_with fail
        refine (CG.out p w5 (HV.out.on k5) (ZS_6.out)).mono ?_
        rintro _ w6 ⟨A6, c6, rfl, o6, hb6⟩
        have ZH_8 := hid (ZH_5.out.below hb6 (ZH_5.out.lt (by simp)))
        clear ZH_5
        have ZS_9 := hid (ZS_6.out.on hb6)
        clear ZS_6
        have ZSB_10 := hid (ZSB_7.out.below hb6 (ZSB_7.out.lt (by simp)))
        clear ZSB_7
        have ZX_11 := hid (YX.out.on hb6)
        clear YX
        have k6 := k5.trans (hb6.mono k5.size)
        clear k5
        clear hb6 CG cSB0 cSB1 cSB2 cSB3 cSB4 cSB5 cSB6 cSB7
        have YY := hid (own_rd o6)
        clear o6
        go_wp2_with fail
        refine (CA.out A5 A6 c5 c6 w6 (ZX_11.out) (YY.out)).mono ?_
        rintro _ w7 ⟨A7, c7, rfl, o7, hb7⟩
        have ZH_12 := hid (ZH_8.out.below hb7 (ZH_8.out.lt (by simp)))
        clear ZH_8
        have ZS_13 := hid (ZS_9.out.on hb7)
        clear ZS_9
        have ZSB_14 := hid (ZSB_10.out.below hb7 (ZSB_10.out.lt (by simp)))
        clear ZSB_10
        have ZX_15 := hid (ZX_11.out.on hb7)
        clear ZX_11
        have ZY_16 := hid (YY.out.on hb7)
        clear YY
        have k7 := k6.trans (hb7.mono k6.size)
        clear k6
        clear hb7 CA
        have YZ := hid (own_rd o7)
        clear o7
        clear ZX_15
        clear ZY_16
        obtain ⟨⟨cSB0, cSB1, cSB2, cSB3, cSB4, cSB5, cSB6, cSB7⟩, _⟩ := ZSB_14.out.eight
        go_wp2_with fail
        refine (CW.out p w7 (ZS_13.out)).mono ?_
        rintro _ w8 ⟨A8, c8, rfl, o8, hb8⟩
        have ZH_17 := hid (ZH_12.out.below hb8 (ZH_12.out.lt (by simp)))
        clear ZH_12
        have ZS_18 := hid (ZS_13.out.on hb8)
        clear ZS_13
        have ZSB_19 := hid (ZSB_14.out.below hb8 (ZSB_14.out.lt (by simp)))
        clear ZSB_14
        have ZZ_20 := hid (YZ.out.on hb8)
        clear YZ
        have k8 := k7.trans (hb8.mono k7.size)
        clear k7
        clear hb8 CW cSB0 cSB1 cSB2 cSB3 cSB4 cSB5 cSB6 cSB7
        have hcap := own_cap o8
        have YT := hid (own_rd o8)
        clear o8
        go_wp2_with fail
        refine (CR.out A8 c8 w8 hcap.1 hcap.2 (YT.out)).mono ?_
        rintro _ w9 ⟨q, rfl, hr9, hb9⟩
        have ZH_21 := hid (ZH_17.out.below hb9 (ZH_17.out.lt (by simp)))
        clear ZH_17
        have ZS_22 := hid (ZS_18.out.on hb9)
        clear ZS_18
        have ZSB_23 := hid (ZSB_19.out.below hb9 (ZSB_19.out.lt (by simp)))
        clear ZSB_19
        have ZZ_24 := hid (ZZ_20.out.on hb9)
        clear ZZ_20
        have ZT_25 := hid (YT.out.on hb9)
        clear YT
        have k9 := k8.trans (hb9.mono k8.size)
        clear k8
        clear hb9 CR hcap
        have YQ := hid (hr9)
        clear hr9
        clear ZT_25
        have g10 := sg_up w9 (.cells #[.int .i64 1, .int .i64 0, .int .i64 0, .int .i64 S.sch, .int .i64 S.dim, .slice q.AL S.L.length q.cL, .slice q.AV S.V.length q.cV, .int .i64 S.scale, .int .i64 S.wide, .slice q.AE S.lev.length q.cE, .slice q.AN S.neg.length q.cN] 54)
        have n10 := BoxL.new w9 [.int .i64 1, .int .i64 0, .int .i64 0, .int .i64 S.sch, .int .i64 S.dim, .slice q.AL S.L.length q.cL, .slice q.AV S.V.length q.cV, .int .i64 S.scale, .int .i64 S.wide, .slice q.AE S.lev.length q.cE, .slice q.AN S.neg.length q.cN] 54
        simp only [List.toArray] at n10
        obtain ⟨w10, hw10⟩ : ∃ wn, (w9.alloc (.cells #[.int .i64 1, .int .i64 0, .int .i64 0, .int .i64 S.sch, .int .i64 S.dim, .slice q.AL S.L.length q.cL, .slice q.AV S.V.length q.cV, .int .i64 S.scale, .int .i64 S.wide, .slice q.AE S.lev.length q.cE, .slice q.AN S.neg.length q.cN] 54)) = wn := ⟨_, rfl⟩
        rw [hw10] at g10 n10
        have ZH_26 := hid (ZH_21.out.below g10 (ZH_21.out.lt (by simp)))
        clear ZH_21
        have ZS_27 := hid (ZS_22.out.on g10)
        clear ZS_22
        have ZSB_28 := hid (ZSB_23.out.below g10 (ZSB_23.out.lt (by simp)))
        clear ZSB_23
        have ZZ_29 := hid (ZZ_24.out.on g10)
        clear ZZ_24
        have ZQ_30 := hid (YQ.out.on g10)
        clear YQ
        have k10 := k9.trans (g10.mono k9.size)
        clear k9
        have YFB := hid (n10)
        clear n10 g10
        go_upto_region 14 with fail
        try rw [hw10]
        clear hw10
        have cH0 := (ZH_26.out 0 _ rfl).1
        have cH1 := (ZH_26.out 1 _ rfl).1
        have cH2 := (ZH_26.out 2 _ rfl).1
        obtain ⟨⟨cSB0, cSB1, cSB2, cSB3, cSB4, cSB5, cSB6, cSB7⟩, _⟩ := ZSB_28.out.eight
        go_wp2_with fail
        refine (CM.out p w10 (HV.out.on k10) (ZS_27.out)).mono ?_
        rintro _ w11 ⟨rfl, hb11⟩
        have ZH_31 := hid (ZH_26.out.below hb11 (ZH_26.out.lt (by simp)))
        clear ZH_26
        have ZS_32 := hid (ZS_27.out.on hb11)
        clear ZS_27
        have ZSB_33 := hid (ZSB_28.out.below hb11 (ZSB_28.out.lt (by simp)))
        clear ZSB_28
        have ZZ_34 := hid (ZZ_29.out.on hb11)
        clear ZZ_29
        have ZQ_35 := hid (ZQ_30.out.on hb11)
        clear ZQ_30
        have ZFB_36 := hid (YFB.out.below hb11 (YFB.out.lt (by simp)))
        clear YFB
        have k11 := k10.trans (hb11.mono k10.size)
        clear k10
        clear hb11 CM cH0 cH1 cH2 cSB0 cSB1 cSB2 cSB3 cSB4 cSB5 cSB6 cSB7
        obtain ⟨⟨cSB0, cSB1, cSB2, cSB3, cSB4, cSB5, cSB6, cSB7⟩, _⟩ := ZSB_33.out.eight
        obtain ⟨d0, d1, d2, d3, d4, d5, d6, d7, d8, d9, d10⟩ := BoxL.cells11 ZFB_36.out
        go_wp2_with fail
        refine (CS.out q p w11 (ZQ_35.out) (ZS_32.out)).mono ?_
        rintro _ w12 ⟨rfl, hb12⟩
        have ZH_37 := hid (ZH_31.out.below hb12 (ZH_31.out.lt (by simp)))
        clear ZH_31
        have ZS_38 := hid (ZS_32.out.on hb12)
        clear ZS_32
        have ZSB_39 := hid (ZSB_33.out.below hb12 (ZSB_33.out.lt (by simp)))
        clear ZSB_33
        have ZZ_40 := hid (ZZ_34.out.on hb12)
        clear ZZ_34
        have ZQ_41 := hid (ZQ_35.out.on hb12)
        clear ZQ_35
        have ZFB_42 := hid (ZFB_36.out.below hb12 (ZFB_36.out.lt (by simp)))
        clear ZFB_36
        have k12 := k11.trans (hb12.mono k11.size)
        clear k11
        clear hb12 CS d0 d1 d2 d3 d4 d5 d6 d7 d8 d9 d10 cSB0 cSB1 cSB2 cSB3 cSB4 cSB5 cSB6 cSB7
        clear ZQ_41
        clear ZS_38
        clear ZFB_42
        clear ZSB_39
        clear ZH_37
        go_wp2_with fail
        go_ret
        exact ⟨rfl, k12⟩
    · have hS : ppS hs hk hw v sd nn = zeroS := if_neg he
      obtain ⟨E, hE⟩ : ∃ E, ppE hs hk hw v = E := ⟨_, rfl⟩
      rw [hS, hE] at CP
      have CPZ := hid (fun W h1 h2 => (CP.out W h1 h2).mono (fun e w' H => show ∃ p : SentP, e = .returned (.tuple #[.agg #[.int .i64 0, .int .i64 0, .slice p.AL 0 p.cL, .slice p.AV 0 p.cV, .int .i64 0, .int .i64 0, .slice p.AE 0 p.cE, .slice p.AN 0 p.cN], .int .i64 E]) ∧ Below W.heap.size W w' from by
        obtain ⟨p, h3, _, h5⟩ := H
        exact ⟨p, h3, h5⟩))
      have hne : (E != 0) = true := by rw [hE] at he; simpa using he
      clear hS hE he rv uv rn un hsh hf hf1 hf2 CP
      go_enter Tryz.func5, Tryz.ntmps5
      go_wp2_with fail
      refine (ps_live _).mono ?_
      rintro _ w1 ⟨rfl, hb1⟩
      have k1 : Below w.heap.size w w1 := Below.trans (by go_grown) (hb1.mono (by simp))
      have YH := hid (HBX.out.below hb1 (by simp))
      clear hb1 HBX
      go_wp2_with fail
      refine (CF.out w1 (HV.out.on k1)).mono ?_
      rintro _ w2 ⟨rfl, hw2⟩
      have g2 := sg_up w1 (.cells #[.slice Av v.length cv] 24)
      rw [hw2] at g2
      have ZH_1 := hid (YH.out.below g2 (YH.out.lt (by simp)))
      clear YH
      have k2 := k1.trans (g2.mono k1.size)
      clear k1
      clear g2 CF hw2
      have cH0 := (ZH_1.out 0 _ rfl).1
      have cH1 := (ZH_1.out 1 _ rfl).1
      have cH2 := (ZH_1.out 2 _ rfl).1
      go_wp2_with fail
      refine (CPZ.out w2 (HV.out.on k2) (HN.out.on k2)).mono ?_
      rintro _ w3 ⟨p, rfl, hb3⟩
      have ZH_2 := hid (ZH_1.out.below hb3 (ZH_1.out.lt (by simp)))
      clear ZH_1
      have k3 := k2.trans (hb3.mono k2.size)
      clear k2
      clear hb3 CPZ cH0 cH1 cH2
      have g4 := sg_up w3 (.cells #[.int .i64 0, .int .i64 0, .slice p.AL 0 p.cL, .slice p.AV 0 p.cV, .int .i64 0, .int .i64 0, .slice p.AE 0 p.cE, .slice p.AN 0 p.cN] 32)
      have n4 := BoxL.new w3 [.int .i64 0, .int .i64 0, .slice p.AL 0 p.cL, .slice p.AV 0 p.cV, .int .i64 0, .int .i64 0, .slice p.AE 0 p.cE, .slice p.AN 0 p.cN] 32
      simp only [List.toArray] at n4
      obtain ⟨w4, hw4⟩ : ∃ wn, (w3.alloc (.cells #[.int .i64 0, .int .i64 0, .slice p.AL 0 p.cL, .slice p.AV 0 p.cV, .int .i64 0, .int .i64 0, .slice p.AE 0 p.cE, .slice p.AN 0 p.cN] 32)) = wn := ⟨_, rfl⟩
      rw [hw4] at g4 n4
      have ZH_3 := hid (ZH_2.out.below g4 (ZH_2.out.lt (by simp)))
      clear ZH_2
      have k4 := k3.trans (g4.mono k3.size)
      clear k3
      have YSB := hid (n4)
      clear n4 g4
      obtain ⟨⟨cSB0, cSB1, cSB2, cSB3, cSB4, cSB5, cSB6, cSB7⟩, _⟩ := YSB.out.eight
      go_wp2_with fail
      go_ret
      exact ⟨rfl, k4⟩
  · rw [Bool.eq_false_iff.2 hf] at CF
    clear hf rv uv rn un
    go_enter Tryz.func5, Tryz.ntmps5
    go_wp2_with fail
    refine (ps_live _).mono ?_
    rintro _ w1 ⟨rfl, hb1⟩
    have k1 : Below w.heap.size w w1 := Below.trans (by go_grown) (hb1.mono (by simp))
    have YH := hid (HBX.out.below hb1 (by simp))
    clear hb1 HBX
    go_wp2_with fail
    refine (CF.out w1 (HV.out.on k1)).mono ?_
    rintro _ w2 ⟨rfl, hw2⟩
    have g2 := sg_up w1 (.cells #[.slice Av v.length cv] 24)
    rw [hw2] at g2
    have ZH_1 := hid (YH.out.below g2 (YH.out.lt (by simp)))
    clear YH
    have k2 := k1.trans (g2.mono k1.size)
    clear k1
    clear g2 CF hw2
    go_wp2_with fail
    go_ret
    exact ⟨rfl, k2⟩
theorem law_types : ∀ t ∈ Tryz.f5.params.toList, Tryz.prog.readableRec t = true ∧ t < Tryz.prog.types.size := by
  have h : (Tryz.f5.params.toList.all fun t => Tryz.prog.readableRec t && decide (t < Tryz.prog.types.size)) = true := by kernel_rfl
  intro t ht
  simpa using List.all_eq_true.1 h t ht
set_option maxRecDepth 100000 in
theorem lifted (os : Os) (started : os.Started) (H : Type) (enc : TypeId × Value → H) :
    ReturnsInHanded {} Tryz.checked os 5 .any (Rows.pressMeetsSpec.pre6 enc Tryz.prog Tryz.f5 Rows.pressMeetsRow.domain false) (Rows.pressMeetsSpec.post enc Tryz.prog Tryz.f5 false true false false) := by
  refine returnsInHanded_of_change (C := Tryz.checked) own started (by kernel_rfl) Tryz.func5
    (ChangeSpec.witness6 (enc := enc) (C := Tryz.checked) false ⟨#[], #[.agg #[.int .i64 0, .int .i64 0, .int .i64 0], .slice none 0 0, .int .u64 0, .slice none 0 0], []⟩ 8 (by kernel_rfl) (by kernel_rfl) (by kernel_rfl) (by kernel_rfl)) ?_
  intro W base args ds gs before hval0 hW hcnd _
  have hval : ∀ (j : Nat) t v, Tryz.f5.params[j]? = some t → args[j]? = some v → Value.okWide Tryz.prog W .any base t v := hval0
  have hW' := hW
  obtain ⟨p, q, hA0, hV, rfl, hfz, hnd⟩ := hW
  have hA : DataW.TrodAll enc Tryz.prog W 0 (fun _ => true) true Tryz.f5.params.toList args.toList ds p := hA0
  rw [Tryz.params5] at hA hval
  obtain ⟨v0, vs0, d0, ds0, p0, q0, hargs, rfl, rfl, h0, r0⟩ := trodAll_cons hA
  obtain ⟨v1, vs1, d1, ds1, p1, q1, rfl, rfl, rfl, h1, r1⟩ := trodAll_cons r0
  obtain ⟨v2, vs2, d2, ds2, p2, q2, rfl, rfl, rfl, h2, r2⟩ := trodAll_cons r1
  obtain ⟨v3, vs3, d3, ds3, p3, q3, rfl, rfl, rfl, h3, r3⟩ := trodAll_cons r2
  obtain ⟨rfl, rfl, rfl⟩ := trodAll_nil r3
  obtain rfl : args = #[v0, v1, v2, v3] := by cases args; simp_all
  obtain ⟨rfl, rfl⟩ := trodVars_none hV
  obtain ⟨hs, hk, hw, rfl, ish, ikh, iwh⟩ := open_how (hval 0 23 v0 rfl rfl) h0
  obtain ⟨Av, v, cv, rfl, rdv, iv, lcv, lmv⟩ := open_nums Tryz.underlying24 Tryz.underlying2 cells_i64' (hval 1 24 v1 rfl rfl) h1
  obtain ⟨seed, rfl, rfl, rfl, w2⟩ := open_int Tryz.underlying25 (hval 2 25 v2 rfl rfl) h2
  obtain ⟨Ann, nn, cnn, rfl, rdnn, inn, lcnn, lmnn⟩ := open_nums Tryz.underlying26 Tryz.underlying3 cells_int (hval 3 26 v3 rfl rfl) h3
  clear hA0 hval0
  refine (walk hs hk hw Av v cv seed Ann nn cnn W ish ikh iwh rdv (fun x hx => I64.of_wf (iv x hx)) lcv lmv (U64.of_wf w2) rdnn (fun x hx => I64.of_wf (inn x hx)) lcnn lmnn).mono fun e W' ⟨he, hb⟩ => ?_
  subst he
  exact ⟨_, rfl, law_post laid (fun t ht => law_types t ht) rfl hW' ⟨rfl, rfl, rfl⟩ (by kernel_rfl) Tryz.underlying4 hb⟩

theorem over : Rows.pressMeetsRow.holds Tryz.pinned (OpenSpec.ofChange Rows.pressMeetsSpec) :=
  OpenClaim.holds_of_wide 5 Tryz.f5 rfl rfl rfl rfl rfl rfl rfl ⟨rfl, rfl, rfl, rfl, rfl⟩ rfl rfl rfl rfl rfl (by kernel_rfl) Tryz.func5 (by kernel_rfl)
    (of_decide_eq_true (by kernel_rfl)) (by unfold Func.isWrapper; first | (rw [if_pos (by decide +kernel)]; kernel_rfl) | (rw [if_neg (by decide +kernel)]; exact ⟨rfl, rfl⟩))
    (fun os started H enc _ => lifted os started H enc)

theorem proved : Rows.PressMeetsSaid := over
end Go.Proofs.YtecgbelgoomneaaGreat.PressMeets
