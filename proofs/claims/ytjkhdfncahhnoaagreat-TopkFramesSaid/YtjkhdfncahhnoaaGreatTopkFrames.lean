
/-
  TopkFrames answers true for every input. No condition.
-/
import Derived.Test.YtjkhdfncahhnoaaGreatFg
import Derived.Test.YtjkhdfncahhnoaaGreatFf
import Derived.Test.YtjkhdfncahhnoaaGreatFFsR
import Derived.Test.YtjkhdfncahhnoaaGreatFFsO
import Derived.Test.YtjkhdfncahhnoaaGreatFFsC
import Derived.Test.YtjkhdfncahhnoaaGreatFIxP
import Derived.Test.YtjkhdfncahhnoaaGreatFTkS
import Derived.Test.YtjkhdfncahhnoaaGreatFc
namespace Go.Proofs.YtjkhdfncahhnoaaGreat.TopkFrames
open Go.ChangeShapes Go.WideShapes Go.ChangeAt Go.RowKit
set_option maxHeartbeats 400000
set_option linter.unusedVariables false
open Go.Proofs.YtjkhdfncahhnoaaGreat
set_option maxHeartbeats 4000000 in
set_option maxRecDepth 100000 in
theorem walk (k : Int) (Av : Option Addr) (v : List Int) (cv : Nat) (w : World) (hk : I64 k) (rv : Rd (Value.int .i64) w w.heap.size Av v) (uv : I64s v) (lv : v.length ≤ cv) (mv : cv ≤ 9223372036854775807) :
    Calls Tryz.prog 3 #[.int .i64 k, .slice Av v.length cv] w fun e w' => e = .returned (.bool true) ∧ Below w.heap.size w w' := by
  have HV := hid rv
  have hv : v.length ≤ 9223372036854775807 := by omega
  have CF := hid (fun W => tk_few (A := Av) (c := cv) v hv W)
  by_cases hl : fewT v = true
  · rw [hl] at CF
    have h5 : v.length ≤ 5000 := by
      unfold fewT at hl
      have := of_decide_eq_true hl
      omega
    have CP := hid (fun W (h : Below w.heap.size w W) => tk_Press (A := Av) (c := cv) k hk v uv h5 W (rv.on h))
    by_cases hp : prsE v k = 0
    · have h0 : v ≠ [] := fun h => by
        unfold prsE at hp
        rw [if_pos h] at hp
        cases hp
      have hpk : pikE v k = 0 := by
        unfold prsE at hp
        rwa [if_neg h0] at hp
      have h2 : v.length ≤ 200 := by
        unfold fewT at hl
        have := of_decide_eq_true hl
        have := (pikE_ok.1 hpk).1
        omega
      obtain ⟨m1, m2, m3, m4, m5, m6⟩ := prs_may uv h0 hpk
      obtain ⟨f1, f2, f3, f4, f5, f6⟩ := prs_frame uv h0 hpk h2 (f := ⟨1, 0, 0, prsS v k⟩) rfl
      rw [hp] at CP
      obtain ⟨T, hT⟩ : ∃ T, prsS v k = T := ⟨_, rfl⟩
      rw [hT] at CP m1 m2 m3 m4 m5 m6 f1 f2 f3 f4 f5 f6
      simp only at f2
      obtain ⟨S, hS⟩ : ∃ S, wrtV ⟨1, 0, 0, T⟩ = S := ⟨_, rfl⟩
      have CW := hid (fun (p : SentP) (W : World) (h : RdS W W.heap.size T p) => wx_Write ⟨1, 0, 0, T⟩ p (f2.more (by decide)) f1 W h)
      have CR := hid (fun (A : Option Addr) (c : Nat) (W : World) (h1 : S.length ≤ c) (h2 : c ≤ 9223372036854775807) (h : Rd (Value.int .u8) W W.heap.size A S) => fr_Read A c S (by rw [← hS]; omega) h1 h2 (by rw [← hS]; exact f5) W h)
      rw [hS] at f4
      rw [hS, f3] at CW
      rw [f4] at CR
      have CG := hid (fun (A : Option Addr) (c : Nat) (W : World) (h1 : Rd (Value.int .i64) W W.heap.size A T.L) (h2 : Rd (Value.int .i64) W W.heap.size Av v) => ix_Gather (A := A) (B := Av) (c := c) (d := cv) T.L v (by have := f2.1; omega) (by omega) W h1 h2)
      rw [m3, m4] at CG
      have CM := hid (fun (p : SentP) (W : World) (h : RdS W W.heap.size T p) => fs_May T p (f2.more (by decide)) m2 W h)
      rw [m1] at CM
      have CS := hid (fun (p q : SentP) (W : World) (h1 : RdS W W.heap.size T p) (h2 : RdS W W.heap.size T q) => ref_SameSent T T p q (f2.more (by decide)) (f2.more (by decide)) W (Nat.le_refl _) (Nat.le_refl _) h1 h2)
      rw [show sameS T T = true from sameS_iff.2 rfl] at CS
      have e1 : (T.dim != (v.length : Int)) = false := by rw [m5]; simp
      have HLN := hid f2
      have hV9 : T.V.length ≤ 9223372036854775807 := by have := f2.2.1; omega
      clear hT hS hp hpk h0 h2 m1 m2 m3 m4 m5 m6 f1 f2 f3 f4 f5 f6 rv uv hl
      go_enter Tryz.func3, Tryz.ntmps3
      go_wp2_with fail
      refine (tk_live _).mono ?_
      rintro _ w1 ⟨rfl, k1⟩
      go_wp2_with fail
      refine (CF.out w1).mono ?_
      rintro _ _ ⟨rfl, rfl⟩
      clear CF
      go_wp2_with fail
      refine (CP.out w1 k1).mono ?_
      rintro _ w2 ⟨A1, c1, A2, c2, rfl, hlev, hneg, hoL, hoV, hb2⟩
      have k2 := k1.trans (hb2.mono k1.size)
      have HT2 := hid (OwnSt.rd hlev hneg hoL hoV)
      have b3 : Below w2.heap.size w2 (w2.alloc (.cells #[.int .i64 T.sch, .int .i64 T.dim, .slice A1 T.L.length c1, .slice A2 T.V.length c2, .int .i64 T.scale, .int .i64 T.wide, .slice none T.lev.length 0, .slice none T.neg.length 0] 29)) := (Below.refl _ _).alloc (Nat.le_refl _) _
      have X3 := hid (BoxL.new w2 [.int .i64 T.sch, .int .i64 T.dim, .slice A1 T.L.length c1, .slice A2 T.V.length c2, .int .i64 T.scale, .int .i64 T.wide, .slice none T.lev.length 0, .slice none T.neg.length 0] 29)
      have k3 := k2.trans (b3.mono k2.size)
      have HT3 := hid (HT2.out.on b3)
      have C3 : Hid (Calls Tryz.prog 7 #[.agg #[.int .i64 1, .int .i64 0, .int .i64 0, .int .i64 T.sch, .int .i64 T.dim, .slice A1 T.L.length c1, .slice A2 T.V.length c2, .int .i64 T.scale, .int .i64 T.wide, .slice none T.lev.length 0, .slice none T.neg.length 0]] (w2.alloc (.cells #[.int .i64 T.sch, .int .i64 T.dim, .slice A1 T.L.length c1, .slice A2 T.V.length c2, .int .i64 T.scale, .int .i64 T.wide, .slice none T.lev.length 0, .slice none T.neg.length 0] 29)) (OwnE 5 .u8 (w2.alloc (.cells #[.int .i64 T.sch, .int .i64 T.dim, .slice A1 T.L.length c1, .slice A2 T.V.length c2, .int .i64 T.scale, .int .i64 T.wide, .slice none T.lev.length 0, .slice none T.neg.length 0] 29)).heap.size S 0 (w2.alloc (.cells #[.int .i64 T.sch, .int .i64 T.dim, .slice A1 T.L.length c1, .slice A2 T.V.length c2, .int .i64 T.scale, .int .i64 T.wide, .slice none T.lev.length 0, .slice none T.neg.length 0] 29)))) := hid (CW.out ⟨A1, c1, A2, c2, none, 0, none, 0⟩ _ HT3.out)
      have hs3 : w2.heap.size < (w2.alloc (.cells #[.int .i64 T.sch, .int .i64 T.dim, .slice A1 T.L.length c1, .slice A2 T.V.length c2, .int .i64 T.scale, .int .i64 T.wide, .slice none T.lev.length 0, .slice none T.neg.length 0] 29)).heap.size := by simp
      clear hlev hneg hoL hoV hb2 CP CW HT2 k1 k2
      go_wp2_with fail
      refine C3.out.mono ?_
      rintro _ w4 ⟨A4, c4, rfl, ho4, hb4⟩
      have k4 := k3.trans (hb4.mono k3.size)
      have X4 := hid (X3.out.below hb4 hs3)
      have HT4 := hid (HT3.out.on hb4)
      have hcap := own_cap ho4
      have C4 : Hid (Calls Tryz.prog 8 #[.slice A4 S.length c4] w4 fun e w' => ∃ q : SentP, e = .returned (.tuple #[.agg #[.int .i64 1, .int .i64 0, .int .i64 0, .int .i64 T.sch, .int .i64 T.dim, .slice q.AL T.L.length q.cL, .slice q.AV T.V.length q.cV, .int .i64 T.scale, .int .i64 T.wide, .slice q.AE T.lev.length q.cE, .slice q.AN T.neg.length q.cN], .int .i64 0]) ∧ RdS w' w'.heap.size T q ∧ Below w4.heap.size w4 w') := hid (CR.out A4 c4 w4 hcap.1 hcap.2 (own_rd ho4))
      have hs4 : w2.heap.size < w4.heap.size := X4.out.lt (by simp)
      clear ho4 hb4 hcap CR C3 X3 HT3 k3 b3 hs3
      go_wp2_with fail
      refine C4.out.mono ?_
      rintro _ w5 ⟨q, rfl, hr5, hb5⟩
      have k5 := k4.trans (hb5.mono k4.size)
      have X5 := hid (X4.out.below hb5 hs4)
      have HT5 := hid (HT4.out.on hb5)
      have HQ5 := hid hr5
      have b6 : Below w5.heap.size w5 (w5.alloc (.cells #[.int .i64 1, .int .i64 0, .int .i64 0, .int .i64 T.sch, .int .i64 T.dim, .slice q.AL T.L.length q.cL, .slice q.AV T.V.length q.cV, .int .i64 T.scale, .int .i64 T.wide, .slice q.AE T.lev.length q.cE, .slice q.AN T.neg.length q.cN] 37)) := (Below.refl _ _).alloc (Nat.le_refl _) _
      have Y6 := hid (BoxL.new w5 [.int .i64 1, .int .i64 0, .int .i64 0, .int .i64 T.sch, .int .i64 T.dim, .slice q.AL T.L.length q.cL, .slice q.AV T.V.length q.cV, .int .i64 T.scale, .int .i64 T.wide, .slice q.AE T.lev.length q.cE, .slice q.AN T.neg.length q.cN] 37)
      have hs5 : w2.heap.size < w5.heap.size := X5.out.lt (by simp)
      have X6 := hid (X5.out.below b6 hs5)
      have HT6 := hid (HT5.out.on b6)
      have HQ6 := hid (HQ5.out.on b6)
      have k6 := k5.trans (b6.mono k5.size)
      have HV6 := hid (HV.out.on k6)
      have C6 := hid (CG.out A1 c1 _ HT6.out.1 HV6.out)
      obtain ⟨⟨g0, g1, g2, g3, g4, g5, g6, g7⟩, n0, n1, n2, n3, n4, n5, n6, n7⟩ := X5.out.eight
      have hs6 : w5.heap.size < (w5.alloc (.cells #[.int .i64 1, .int .i64 0, .int .i64 0, .int .i64 T.sch, .int .i64 T.dim, .slice q.AL T.L.length q.cL, .slice q.AV T.V.length q.cV, .int .i64 T.scale, .int .i64 T.wide, .slice q.AE T.lev.length q.cE, .slice q.AN T.neg.length q.cN] 37)).heap.size := by simp
      clear hr5 hb5 C4 X4 HT4 HQ5 HT5 k4 k5 b6 CG hs4
      go_wp2_with fail
      refine C6.out.mono ?_
      rintro _ w7 ⟨A7, c7, rfl, ho7, hb7⟩
      have k7 := k6.trans (hb7.mono k6.size)
      have X7 := hid (X6.out.below hb7 (Nat.lt_trans hs5 hs6))
      have Y7 := hid (Y6.out.below hb7 hs6)
      have HT7 := hid (HT6.out.on hb7)
      have HQ7 := hid (HQ6.out.on hb7)
      have R7 := hid (own_rd ho7)
      have C7 : Hid (Calls Tryz.prog 10 #[.agg #[.int .i64 T.sch, .int .i64 T.dim, .slice A1 T.L.length c1, .slice A2 T.V.length c2, .int .i64 T.scale, .int .i64 T.wide, .slice none T.lev.length 0, .slice none T.neg.length 0]] w7 fun e w' => e = .returned (.bool true) ∧ Below w7.heap.size w7 w') := hid (CM.out ⟨A1, c1, A2, c2, none, 0, none, 0⟩ w7 HT7.out)
      have hs7 : w5.heap.size < w7.heap.size := Y7.out.lt (by simp)
      clear g0 g1 g2 g3 g4 g5 g6 g7 n0 n1 n2 n3 n4 n5 n6 n7 ho7 hb7 C6 X6 Y6 HT6 HQ6 HV6 k6 CM hs6 X5
      obtain ⟨⟨g0, g1, g2, g3, g4, g5, g6, g7⟩, n0, n1, n2, n3, n4, n5, n6, n7⟩ := X7.out.eight
      obtain ⟨d0, d1, d2, d3, d4, d5, d6, d7, d8, d9, d10⟩ := Y7.out.cells11
      go_wp2_with fail
      refine C7.out.mono ?_
      rintro _ w8 ⟨rfl, hb8⟩
      have k8 := k7.trans (hb8.mono k7.size)
      have X8 := hid (X7.out.below hb8 (Nat.lt_trans hs5 hs7))
      have Y8 := hid (Y7.out.below hb8 hs7)
      have R8 := hid (R7.out.on hb8)
      have HT8 := hid (HT7.out.on hb8)
      have HQ8 := hid (HQ7.out.on hb8)
      have C8 : Hid (Calls Tryz.prog 11 #[.agg #[.int .i64 T.sch, .int .i64 T.dim, .slice q.AL T.L.length q.cL, .slice q.AV T.V.length q.cV, .int .i64 T.scale, .int .i64 T.wide, .slice q.AE T.lev.length q.cE, .slice q.AN T.neg.length q.cN], .agg #[.int .i64 T.sch, .int .i64 T.dim, .slice A1 T.L.length c1, .slice A2 T.V.length c2, .int .i64 T.scale, .int .i64 T.wide, .slice none T.lev.length 0, .slice none T.neg.length 0]] w8 fun e w' => e = .returned (.bool true) ∧ Below w8.heap.size w8 w') := hid (CS.out q ⟨A1, c1, A2, c2, none, 0, none, 0⟩ w8 HQ8.out HT8.out)
      have hs8 : w5.heap.size < w8.heap.size := Y8.out.lt (by simp)
      clear g0 g1 g2 g3 g4 g5 g6 g7 n0 n1 n2 n3 n4 n5 n6 n7 d0 d1 d2 d3 d4 d5 d6 d7 d8 d9 d10 hb8 C7 X7 Y7 HT7 HQ7 R7 k7 CS hs7 HQ8
      obtain ⟨⟨g0, g1, g2, g3, g4, g5, g6, g7⟩, n0, n1, n2, n3, n4, n5, n6, n7⟩ := X8.out.eight
      obtain ⟨d0, d1, d2, d3, d4, d5, d6, d7, d8, d9, d10⟩ := Y8.out.cells11
      go_wp2_with fail
      refine C8.out.mono ?_
      rintro _ w9 ⟨rfl, hb9⟩
      have k9 := k8.trans (hb9.mono k8.size)
      have X9 := hid (X8.out.below hb9 (Nat.lt_trans hs5 hs8))
      have R9 := hid (R8.out.on hb9)
      have RV := hid (HT8.out.on hb9).2.1
      clear g0 g1 g2 g3 g4 g5 g6 g7 n0 n1 n2 n3 n4 n5 n6 n7 d0 d1 d2 d3 d4 d5 d6 d7 d8 d9 d10 hb9 C8 X8 Y8 HT8 R8 k8 hs8 hs5
      obtain ⟨⟨g0, g1, g2, g3, g4, g5, g6, g7⟩, n0, n1, n2, n3, n4, n5, n6, n7⟩ := X9.out.eight
      go_wp2_with fail
      go_loopw [93] (fun i wr => ∃ q n : Nat, q ≤ T.V.length ∧ i = .int .i64 (q : Int) ∧ wr = w9.drewN n) (fun i _ => T.V.length - (intOf i).toNat)
      case atStart => exact ⟨0, 0, by omega, rfl, rfl⟩
      case round =>
        obtain ⟨q, n, hq, rfl, rfl⟩ := hrel
        by_cases hlt : q < T.V.length
        · obtain ⟨b1, o1, x, rfl, l1, ex, d1⟩ := R9.out.at_ hlt
          obtain ⟨b2, o2, y, rfl, l2, ey, d2⟩ := RV.out.at_ hlt
          obtain rfl : x = y := by rw [ex] at ey; injection ey
          clear ex ey
          go_wp2_with fail
          go_region
          all_goals (
            go_wp2_with fail
            go_roundw
            case rel => exact ⟨q + 1, n + 1, by omega, by go_num, rfl⟩
            case measure => simp [intOf]; omega)
        · go_wp2_with fail
          go_ret
          exact ⟨rfl, k9.trans (belowN _ _ n)⟩
    · have hs : prsS v k = zeroS := if_neg hp
      rw [hs] at CP
      obtain ⟨E, hE⟩ : ∃ E, prsE v k = E := ⟨_, rfl⟩
      rw [hE] at CP hp
      have hne : (E != 0) = true := by simpa using hp
      clear hs hE hp rv uv hl
      go_enter Tryz.func3, Tryz.ntmps3
      go_wp2_with fail
      refine (tk_live _).mono ?_
      rintro _ w1 ⟨rfl, k1⟩
      go_wp2_with fail
      refine (CF.out w1).mono ?_
      rintro _ _ ⟨rfl, rfl⟩
      clear CF
      go_wp2_with fail
      refine (CP.out w1 k1).mono ?_
      rintro _ w2 ⟨A1, c1, A2, c2, rfl, _, _, _, _, hb2⟩
      have k2 := k1.trans (hb2.mono k1.size)
      go_wp2_with fail
      go_ret
      exact ⟨rfl, k2.alloc k2.size _⟩
  · rw [Bool.eq_false_iff.2 hl] at CF
    clear rv uv hl
    go_enter Tryz.func3, Tryz.ntmps3
    go_wp2_with fail
    refine (tk_live _).mono ?_
    rintro _ w1 ⟨rfl, k1⟩
    go_wp2_with fail
    refine (CF.out w1).mono ?_
    rintro _ _ ⟨rfl, rfl⟩
    clear CF
    go_wp2_with fail
    go_ret
    exact ⟨rfl, k1⟩
theorem law_types : ∀ t ∈ Tryz.f3.params.toList, Tryz.prog.readableRec t = true ∧ t < Tryz.prog.types.size := by
  have h : (Tryz.f3.params.toList.all fun t => Tryz.prog.readableRec t && decide (t < Tryz.prog.types.size)) = true := by kernel_rfl
  intro t ht
  simpa using List.all_eq_true.1 h t ht
set_option maxRecDepth 100000 in
theorem lifted (os : Os) (started : os.Started) (H : Type) (enc : TypeId × Value → H) :
    ReturnsInHanded {} Tryz.checked os 3 .any (Rows.topkFramesSpec.pre6 enc Tryz.prog Tryz.f3 Rows.topkFramesRow.domain false) (Rows.topkFramesSpec.post enc Tryz.prog Tryz.f3 false true false false) := by
  refine returnsInHanded_of_change (C := Tryz.checked) own started (by kernel_rfl) Tryz.func3
    (ChangeSpec.witness6 (enc := enc) (C := Tryz.checked) false ⟨#[], #[.int .i64 0, .slice none 0 0], []⟩ 8 (by kernel_rfl) (by kernel_rfl) (by kernel_rfl) (by kernel_rfl)) ?_
  intro W base args ds gs before hval0 hW hcnd _
  have hval : ∀ (j : Nat) t v, Tryz.f3.params[j]? = some t → args[j]? = some v → Value.okWide Tryz.prog W .any base t v := hval0
  have hW' := hW
  obtain ⟨p, q, hA0, hV, rfl, hfz, hnd⟩ := hW
  have hA : DataW.TrodAll enc Tryz.prog W 0 (fun _ => true) true Tryz.f3.params.toList args.toList ds p := hA0
  rw [Tryz.params3] at hA hval
  obtain ⟨v0, vs0, d0, ds0, p0, q0, hargs, rfl, rfl, h0, r0⟩ := trodAll_cons hA
  obtain ⟨v1, vs1, d1, ds1, p1, q1, rfl, rfl, rfl, h1, r1⟩ := trodAll_cons r0
  obtain ⟨rfl, rfl, rfl⟩ := trodAll_nil r1
  obtain rfl : args = #[v0, v1] := by cases args; simp_all
  obtain ⟨rfl, rfl⟩ := trodVars_none hV
  obtain ⟨k, rfl, rfl, rfl, w0⟩ := open_int Tryz.underlying3 (hval 0 3 v0 rfl rfl) h0
  obtain ⟨Av, v, cv, rfl, rdv, iv, lcv, lmv⟩ := open_nums Tryz.underlying22 Tryz.underlying2 cells_i64' (hval 1 22 v1 rfl rfl) h1
  clear hA0 hval0
  refine (walk k Av v cv W (I64.of_wf w0) rdv (fun x hx => I64.of_wf (iv x hx)) lcv lmv).mono fun e W' ⟨he, hb⟩ => ?_
  subst he
  exact ⟨_, rfl, law_post laid (fun t ht => law_types t ht) rfl hW' ⟨rfl, rfl, rfl⟩ (by kernel_rfl) Tryz.underlying4 hb⟩

theorem over : Rows.topkFramesRow.holds Tryz.pinned (OpenSpec.ofChange Rows.topkFramesSpec) :=
  OpenClaim.holds_of_wide 3 Tryz.f3 rfl rfl rfl rfl rfl rfl rfl ⟨rfl, rfl, rfl, rfl, rfl⟩ rfl rfl rfl rfl rfl (by kernel_rfl) Tryz.func3 (by kernel_rfl)
    (of_decide_eq_true (by kernel_rfl)) (by unfold Func.isWrapper; first | (rw [if_pos (by decide +kernel)]; kernel_rfl) | (rw [if_neg (by decide +kernel)]; exact ⟨rfl, rfl⟩))
    (fun os started H enc _ => lifted os started H enc)

theorem proved : Rows.TopkFramesSaid := over
end Go.Proofs.YtjkhdfncahhnoaaGreat.TopkFrames
