
/-
  TopkPicks answers true for every input. No condition.
-/
import Derived.Test.YtjkhdfncahhnoaaTf
import Derived.Test.YtjkhdfncahhnoaaTe
import Derived.Test.YtjkhdfncahhnoaaTd
import Derived.Test.YtjkhdfncahhnoaaTTkS
import Derived.Test.YtjkhdfncahhnoaaTIxP
import Derived.Test.YtjkhdfncahhnoaaTc
import Derived.Test.YtjkhdfncahhnoaaTb
namespace Go.Proofs.Ytjkhdfncahhnoaa.TopkPicks
open Go.ChangeShapes Go.WideShapes Go.ChangeAt Go.RowKit
set_option maxHeartbeats 400000
set_option linter.unusedVariables false
open Go.Proofs.Ytjkhdfncahhnoaa
set_option maxHeartbeats 8000000 in
set_option maxRecDepth 100000 in
theorem walk (k : Int) (Av : Option Addr) (v : List Int) (cv : Nat) (s : SentV) (ps : SentP) (Al : Option Addr) (l : List Int) (cl : Nat) (w : World) (hk : I64 k) (rv : Rd (Value.int .i64) w w.heap.size Av v) (uv : I64s v) (lv : v.length ≤ cv) (mv : cv ≤ 9223372036854775807)
    (rs : RdS w w.heap.size s ps) (ws : wfS s) (cs : capS s ps) (rl : Rd (Value.int .i64) w w.heap.size Al l) (ul : I64s l) (ll : l.length ≤ cl) (ml : cl ≤ 9223372036854775807) :
    Calls Try.prog 3 #[.int .i64 k, .slice Av v.length cv, encT s ps, .slice Al l.length cl] w fun e w' => e = .returned (.bool true) ∧ Below w.heap.size w w' := by
  have HV := hid rv
  have HL := hid rl
  have HS := hid rs
  have hv : v.length ≤ 9223372036854775807 := by omega
  have hll : l.length ≤ 9223372036854775807 := by omega
  have CF := hid (fun W => tk_few (A := Av) (c := cv) v hv W)
  have CB := hid (fun W => (show Calls Try.prog 10 #[.agg #[.int .i64 s.sch, .int .i64 s.dim, .slice ps.AL s.L.length ps.cL, .slice ps.AV s.V.length ps.cV, .int .i64 s.scale, .int .i64 s.wide, .slice ps.AE s.lev.length ps.cE, .slice ps.AN s.neg.length ps.cN]] W fun e w' => e = .returned (.bool (bigS s)) ∧ Below W.heap.size W w' by exact ref_Big s ps W))
  have HBX : Hid (BoxL (w.alloc (.cells #[.int .i64 s.sch, .int .i64 s.dim, .slice ps.AL s.L.length ps.cL, .slice ps.AV s.V.length ps.cV, .int .i64 s.scale, .int .i64 s.wide, .slice ps.AE s.lev.length ps.cE, .slice ps.AN s.neg.length ps.cN] 27)) w.heap.size [.int .i64 s.sch, .int .i64 s.dim, .slice ps.AL s.L.length ps.cL, .slice ps.AV s.V.length ps.cV, .int .i64 s.scale, .int .i64 s.wide, .slice ps.AE s.lev.length ps.cE, .slice ps.AN s.neg.length ps.cN]) := hid (BoxL.new w [.int .i64 s.sch, .int .i64 s.dim, .slice ps.AL s.L.length ps.cL, .slice ps.AV s.V.length ps.cV, .int .i64 s.scale, .int .i64 s.wide, .slice ps.AE s.lev.length ps.cE, .slice ps.AN s.neg.length ps.cN] 27)
  by_cases hf : fewT v = true
  · rw [hf] at CF
    by_cases hbig : bigS s = true
    · rw [hbig] at CB
      clear hf hbig rv uv rs ws cs rl ul hk
      go_enter Try.func3, Try.ntmps3
      go_wp2_with fail
      refine (tk_live _).mono ?_
      rintro _ w1 ⟨rfl, hb1⟩
      have k1 : Below w.heap.size w w1 := Below.trans (by go_grown) (hb1.mono (by simp))
      have X1 := hid (HBX.out.below hb1 (by simp))
      clear hb1 HBX
      go_wp2_with fail
      refine (CF.out w1).mono ?_
      rintro _ _ ⟨rfl, rfl⟩
      clear CF
      obtain ⟨⟨c0, c1, c2, c3, c4, c5, c6, c7⟩, _⟩ := X1.out.eight
      go_wp2_with fail
      refine (CB.out _).mono ?_
      rintro _ w2 ⟨rfl, hb2⟩
      have k2 := k1.trans (hb2.mono k1.size)
      have X2 := hid (X1.out.below hb2 (X1.out.lt (by simp)))
      clear hb2 X1 CB k1 c0 c1 c2 c3 c4 c5 c6 c7
      go_wp2_with fail
      go_ret
      exact ⟨rfl, k2⟩
    · have hb : bigS s = false := Bool.eq_false_iff.2 hbig
      rw [hb] at CB
      clear hbig
      by_cases hl : l.length ≤ 500
      · have hl' : ¬ (l.length : Int) > 500 := by omega
        have h5 : v.length ≤ 5000 := by
          unfold fewT at hf
          have := of_decide_eq_true hf
          omega
        have hln := (big_ln hb).more (show 500 ≤ 5000 by decide)
        have C1 := hid (fun W (h : Rd (Value.int .i64) W W.heap.size Av v) => tk_Pick (c := cv) k hk v uv h5 W h)
        have C2 := hid (fun W (h : Rd (Value.int .i64) W W.heap.size Av v) => ref_Pick9 (c := cv) k v uv hv W h)
        have C3 := hid (fun W (h : Rd (Value.int .i64) W W.heap.size Av v) => tk_Order (c := cv) v uv h5 W h)
        have C4 := hid (fun W (h : Rd (Value.int .i64) W W.heap.size Av v) => ref_Order9 (c := cv) v uv hv W h)
        have C5 := hid (fun W (h : Rd (Value.int .i64) W W.heap.size Av v) => tk_Press (c := cv) k hk v uv h5 W h)
        have C6 := hid (fun W (h : Rd (Value.int .i64) W W.heap.size Av v) => ref_Press9 (c := cv) k v uv hv W h)
        have C7 := hid (fun W (h1 : Rd (Value.int .i64) W W.heap.size Al l) (h2 : Rd (Value.int .i64) W W.heap.size Av v) => tk_Least (c := cl) (d := cv) l v uv (by omega) h5 W h1 h2)
        have C8 := hid (fun W (h1 : Rd (Value.int .i64) W W.heap.size Al l) (h2 : Rd (Value.int .i64) W W.heap.size Av v) => ref_Least9 (c := cl) (d := cv) l v uv hll hv W h1 h2)
        have C9 := hid (fun W (h1 : Rd (Value.int .i64) W W.heap.size Av v) (h2 : RdS W W.heap.size s ps) => (show Calls Try.prog 21 #[.int .i64 k, .slice Av v.length cv, .agg #[.int .i64 s.sch, .int .i64 s.dim, .slice ps.AL s.L.length ps.cL, .slice ps.AV s.V.length ps.cV, .int .i64 s.scale, .int .i64 s.wide, .slice ps.AE s.lev.length ps.cE, .slice ps.AN s.neg.length ps.cN]] W fun e w' => e = .returned (.bool (isTB v k s)) ∧ Below W.heap.size W w' by exact tk_Is (c := cv) k hk v uv h5 s ps hln W h1 h2))
        have C10 := hid (fun W (h1 : Rd (Value.int .i64) W W.heap.size Av v) (h2 : RdS W W.heap.size s ps) => (show Calls Try.prog 22 #[.int .i64 k, .slice Av v.length cv, .agg #[.int .i64 s.sch, .int .i64 s.dim, .slice ps.AL s.L.length ps.cL, .slice ps.AV s.V.length ps.cV, .int .i64 s.scale, .int .i64 s.wide, .slice ps.AE s.lev.length ps.cE, .slice ps.AN s.neg.length ps.cN]] W fun e w' => e = .returned (.bool (isTB v k s)) ∧ Below W.heap.size W w' by exact ref_Is9 (c := cv) k v uv hv s ps (hln.more (by decide)) W h1 h2))
        have hT := prsS_ln v k
        have hisT : prsE v k = 0 → isTB v k (prsS v k) = true := fun h => by unfold isTB; rw [decide_eq_true h, sameS_iff.2 rfl]; rfl
        have l1 := pikV_le v k
        have l2 := orkV_le v
        obtain ⟨a, e1⟩ : ∃ x, pikV v k = x := ⟨_, rfl⟩
        obtain ⟨ea, e2⟩ : ∃ x, pikE v k = x := ⟨_, rfl⟩
        obtain ⟨c, e3⟩ : ∃ x, orkV v = x := ⟨_, rfl⟩
        obtain ⟨ec, e4⟩ : ∃ x, orkE v = x := ⟨_, rfl⟩
        obtain ⟨T, e5⟩ : ∃ x, prsS v k = x := ⟨_, rfl⟩
        obtain ⟨et, e6⟩ : ∃ x, prsE v k = x := ⟨_, rfl⟩
        obtain ⟨⟨n, is⟩, e7⟩ : ∃ x, lstR l v = x := ⟨_, rfl⟩
        obtain ⟨is_, e8⟩ : ∃ x, isTB v k s = x := ⟨_, rfl⟩
        rw [e1, e2] at C1 C2
        rw [e3, e4] at C3 C4
        rw [e5, e6] at C5 C6
        rw [e7] at C7 C8
        rw [e8] at C9 C10
        rw [e5] at hT hisT
        rw [e6] at hisT
        rw [e1] at l1
        rw [e3] at l2
        simp only at C7 C8
        have C11 := hid (fun (p : SentP) W (h1 : Rd (Value.int .i64) W W.heap.size Av v) (h2 : RdS W W.heap.size T p) => tk_Is (c := cv) k hk v uv h5 T p (hT.more (by decide)) W h1 h2)
        have C12 := hid (fun (p q : SentP) W (h1 : RdS W W.heap.size T p) (h2 : RdS W W.heap.size T q) => ref_SameSent T T p q (hT.more (by decide)) (hT.more (by decide)) W (Nat.le_refl _) (Nat.le_refl _) h1 h2)
        rw [sameS_iff.2 rfl] at C12
        obtain ⟨ist, e9⟩ : ∃ x, isTB v k T = x := ⟨_, rfl⟩
        rw [e9] at C11 hisT
        have HIT := hid hisT
        have hVl := hT.2.1
        have CQa := hid (fun (A B : Option Addr) (cc d : Nat) (W : World) L M (h1 : Rd (Value.int .i64) W L A a) (h2 : Rd (Value.int .i64) W M B a) => equal_me (X := a) (by omega) (A := A) (B := B) (c := cc) (d := d) W h1 h2)
        have CQc := hid (fun (A B : Option Addr) (cc d : Nat) (W : World) L M (h1 : Rd (Value.int .i64) W L A c) (h2 : Rd (Value.int .i64) W M B c) => equal_me (X := c) (by omega) (A := A) (B := B) (c := cc) (d := d) W h1 h2)
        have rn : n ≤ 9223372036854775808 := by
          have h := lst_bound uv l (0, false) (by simp)
          have e : lstR l v = l.foldl (lsS v) (0, false) := rfl
          rw [← e, e7] at h
          exact h
        clear e1 e2 e3 e4 e5 e6 e7 e8 e9 hT hisT l1 l2 hln rv uv rs ws cs rl ul hf hb hk
        go_enter Try.func3, Try.ntmps3
        go_wp2_with fail
        refine (tk_live _).mono ?_
        rintro _ w1 ⟨rfl, hb1⟩
        have k1 : Below w.heap.size w w1 := Below.trans (by go_grown) (hb1.mono (by simp))
        have X1 := hid (HBX.out.below hb1 (by simp))
        clear hb1 HBX
        go_wp2_with fail
        refine (CF.out w1).mono ?_
        rintro _ _ ⟨rfl, rfl⟩
        clear CF
        obtain ⟨⟨c0, c1, c2, c3, c4, c5, c6, c7⟩, _⟩ := X1.out.eight
        go_wp2_with fail
        refine (CB.out _).mono ?_
        rintro _ w2 ⟨rfl, hb2⟩
        have k2 := k1.trans (hb2.mono k1.size)
        have X2 := hid (X1.out.below hb2 (X1.out.lt (by simp)))
        clear hb2 X1 CB k1 c0 c1 c2 c3 c4 c5 c6 c7
        go_wp2_with (at_builtin; refine wpList_app (Value.int .i64) (fun _ => rfl) _ rfl _ _ 22 rfl w2.heap.size 2 (.int .i64 0) 8 Try.underlying22 info_i64 rfl [] none 0 rfl (own_nil _ _ _) v Av cv w2.heap.size rfl (HV.out.on k2) (by simp [maxLen]; omega) (by simp; omega) (Nat.le_refl _) ?_)
        rintro SS A3 c3 w3 hSS ho3 hb3 _
        obtain rfl : v = SS := hSS.symm
        have X2_1 := hid (X2.out.below hb3 (X2.out.lt (by simp)))
        clear X2
        have k3 := k2.trans (hb3.mono k2.size)
        clear k2
        have RW := hid (own_rd ho3)
        clear ho3 hb3
        go_wp2_with fail
        refine (C1.out w3 (HV.out.on k3)).mono ?_
        rintro _ w4 ⟨A4, c4, rfl, ho4, hb4⟩
        have RW_2 := hid (RW.out.on hb4)
        clear RW
        have X2_3 := hid (X2_1.out.below hb4 (X2_1.out.lt (by simp)))
        clear X2_1
        have k4 := k3.trans (hb4.mono k3.size)
        clear k3
        have RA := hid (own_rd ho4)
        clear ho4 hb4 C1
        go_wp2_with fail
        refine (C2.out w4 (HV.out.on k4)).mono ?_
        rintro _ w5 ⟨A5, c5, rfl, ho5, hb5⟩
        have RW_4 := hid (RW_2.out.on hb5)
        clear RW_2
        have RA_5 := hid (RA.out.on hb5)
        clear RA
        have X2_6 := hid (X2_3.out.below hb5 (X2_3.out.lt (by simp)))
        clear X2_3
        have k5 := k4.trans (hb5.mono k4.size)
        clear k4
        have RB := hid (own_rd ho5)
        clear ho5 hb5 C2
        go_wp2_with fail
        refine (C3.out w5 (HV.out.on k5)).mono ?_
        rintro _ w6 ⟨A6, c6, rfl, ho6, hb6⟩
        have RW_7 := hid (RW_4.out.on hb6)
        clear RW_4
        have RA_8 := hid (RA_5.out.on hb6)
        clear RA_5
        have RB_9 := hid (RB.out.on hb6)
        clear RB
        have X2_10 := hid (X2_6.out.below hb6 (X2_6.out.lt (by simp)))
        clear X2_6
        have k6 := k5.trans (hb6.mono k5.size)
        clear k5
        have RC := hid (own_rd ho6)
        clear ho6 hb6 C3
        go_wp2_with fail
        refine (C4.out w6 (HV.out.on k6)).mono ?_
        rintro _ w7 ⟨A7, c7, rfl, ho7, hb7⟩
        have RW_11 := hid (RW_7.out.on hb7)
        clear RW_7
        have RA_12 := hid (RA_8.out.on hb7)
        clear RA_8
        have RB_13 := hid (RB_9.out.on hb7)
        clear RB_9
        have RC_14 := hid (RC.out.on hb7)
        clear RC
        have X2_15 := hid (X2_10.out.below hb7 (X2_10.out.lt (by simp)))
        clear X2_10
        have k7 := k6.trans (hb7.mono k6.size)
        clear k6
        have RD := hid (own_rd ho7)
        clear ho7 hb7 C4
        have MK := Below.refl w7.heap.size w7
        have RW7 := hid RW_11.out
        have hz0 := k7.size
        go_wp2_with fail
        refine (C5.out w7 (HV.out.on k7)).mono ?_
        rintro _ w8 ⟨A8, c8, B8, d8, rfl, hlev8, hneg8, hoL, hoV, hb8⟩
        have RW_16 := hid (RW_11.out.on hb8)
        clear RW_11
        have RA_17 := hid (RA_12.out.on hb8)
        clear RA_12
        have RB_18 := hid (RB_13.out.on hb8)
        clear RB_13
        have RC_19 := hid (RC_14.out.on hb8)
        clear RC_14
        have RD_20 := hid (RD.out.on hb8)
        clear RD
        have X2_21 := hid (X2_15.out.below hb8 (X2_15.out.lt (by simp)))
        clear X2_15
        have MK22 := MK.trans (hb8.mono MK.size)
        clear MK
        have k8 := k7.trans (hb8.mono k7.size)
        clear k7
        have RT8 := hid (OwnSt.rd hlev8 hneg8 hoL hoV)
        have OV := hid hoV
        have hrow := row_in hoV
        have hz7 := hb8.size
        clear hoL hoV hlev8 hneg8 hb8 C5
        obtain ⟨row, hrw⟩ : ∃ row, B8.map (·.block) = row := ⟨_, rfl⟩
        rw [hrw] at hrow
        have HRW := hid hrw
        have HROW := hid hrow
        clear hrw hrow
        have g8 : Below w8.heap.size w8 (w8.alloc (.cells #[.int .i64 T.sch, .int .i64 T.dim, .slice A8 T.L.length c8, .slice B8 T.V.length d8, .int .i64 T.scale, .int .i64 T.wide, .slice none T.lev.length 0, .slice none T.neg.length 0] 27)) := tk_grow _ _
        have n8 : BoxL (w8.alloc (.cells #[.int .i64 T.sch, .int .i64 T.dim, .slice A8 T.L.length c8, .slice B8 T.V.length d8, .int .i64 T.scale, .int .i64 T.wide, .slice none T.lev.length 0, .slice none T.neg.length 0] 27)) w8.heap.size [.int .i64 T.sch, .int .i64 T.dim, .slice A8 T.L.length c8, .slice B8 T.V.length d8, .int .i64 T.scale, .int .i64 T.wide, .slice none T.lev.length 0, .slice none T.neg.length 0] := BoxL.new w8 [.int .i64 T.sch, .int .i64 T.dim, .slice A8 T.L.length c8, .slice B8 T.V.length d8, .int .i64 T.scale, .int .i64 T.wide, .slice none T.lev.length 0, .slice none T.neg.length 0] 27
        go_wp2_with fail
        obtain ⟨w9, hw9⟩ : ∃ wn, (w8.alloc (.cells #[.int .i64 T.sch, .int .i64 T.dim, .slice A8 T.L.length c8, .slice B8 T.V.length d8, .int .i64 T.scale, .int .i64 T.wide, .slice none T.lev.length 0, .slice none T.neg.length 0] 27)) = wn := ⟨_, rfl⟩
        rw [hw9] at g8 n8 ⊢
        clear hw9
        have RW_23 := hid (RW_16.out.on g8)
        clear RW_16
        have RA_24 := hid (RA_17.out.on g8)
        clear RA_17
        have RB_25 := hid (RB_18.out.on g8)
        clear RB_18
        have RC_26 := hid (RC_19.out.on g8)
        clear RC_19
        have RD_27 := hid (RD_20.out.on g8)
        clear RD_20
        have RT8_28 := hid (RT8.out.on g8)
        clear RT8
        have X2_29 := hid (X2_21.out.below g8 (X2_21.out.lt (by simp)))
        clear X2_21
        have OV_30 := hid (own_on OV.out g8)
        clear OV
        have MK31 := MK22.trans (g8.mono MK22.size)
        clear MK22
        have k9 := k8.trans (g8.mono k8.size)
        clear k8
        have XX := hid n8
        clear n8 g8
        have hzx : w8.heap.size < w9.heap.size := by have h := XX.out.lt (by simp); exact h
        refine (C6.out w9 (HV.out.on k9)).mono ?_
        rintro _ w10 ⟨A10, c10, B10, d10, rfl, hlev10, hneg10, hoL, hoV, hb10⟩
        have RW_32 := hid (RW_23.out.on hb10)
        clear RW_23
        have RA_33 := hid (RA_24.out.on hb10)
        clear RA_24
        have RB_34 := hid (RB_25.out.on hb10)
        clear RB_25
        have RC_35 := hid (RC_26.out.on hb10)
        clear RC_26
        have RD_36 := hid (RD_27.out.on hb10)
        clear RD_27
        have RT8_37 := hid (RT8_28.out.on hb10)
        clear RT8_28
        have X2_38 := hid (X2_29.out.below hb10 (X2_29.out.lt (by simp)))
        clear X2_29
        have XX_39 := hid (XX.out.below hb10 (XX.out.lt (by simp)))
        clear XX
        have OV_40 := hid (own_on OV_30.out hb10)
        clear OV_30
        have MK41 := MK31.trans (hb10.mono MK31.size)
        clear MK31
        have k10 := k9.trans (hb10.mono k9.size)
        clear k9
        have RT10 := hid (OwnSt.rd hlev10 hneg10 hoL hoV)
        have hz10 := hb10.size
        have OY := hid hoL
        have OZ := hid hoV
        have HLEV := hid hlev10
        have HNEG := hid hneg10
        clear hoL hoV hlev10 hneg10 hb10 C6
        have g10 : Below w10.heap.size w10 (w10.alloc (.cells #[.int .i64 T.sch, .int .i64 T.dim, .slice A10 T.L.length c10, .slice B10 T.V.length d10, .int .i64 T.scale, .int .i64 T.wide, .slice none T.lev.length 0, .slice none T.neg.length 0] 27)) := tk_grow _ _
        have n10 : BoxL (w10.alloc (.cells #[.int .i64 T.sch, .int .i64 T.dim, .slice A10 T.L.length c10, .slice B10 T.V.length d10, .int .i64 T.scale, .int .i64 T.wide, .slice none T.lev.length 0, .slice none T.neg.length 0] 27)) w10.heap.size [.int .i64 T.sch, .int .i64 T.dim, .slice A10 T.L.length c10, .slice B10 T.V.length d10, .int .i64 T.scale, .int .i64 T.wide, .slice none T.lev.length 0, .slice none T.neg.length 0] := BoxL.new w10 [.int .i64 T.sch, .int .i64 T.dim, .slice A10 T.L.length c10, .slice B10 T.V.length d10, .int .i64 T.scale, .int .i64 T.wide, .slice none T.lev.length 0, .slice none T.neg.length 0] 27
        go_wp2_with fail
        obtain ⟨w11, hw11⟩ : ∃ wn, (w10.alloc (.cells #[.int .i64 T.sch, .int .i64 T.dim, .slice A10 T.L.length c10, .slice B10 T.V.length d10, .int .i64 T.scale, .int .i64 T.wide, .slice none T.lev.length 0, .slice none T.neg.length 0] 27)) = wn := ⟨_, rfl⟩
        rw [hw11] at g10 n10 ⊢
        clear hw11
        have RW_42 := hid (RW_32.out.on g10)
        clear RW_32
        have RA_43 := hid (RA_33.out.on g10)
        clear RA_33
        have RB_44 := hid (RB_34.out.on g10)
        clear RB_34
        have RC_45 := hid (RC_35.out.on g10)
        clear RC_35
        have RD_46 := hid (RD_36.out.on g10)
        clear RD_36
        have RT8_47 := hid (RT8_37.out.on g10)
        clear RT8_37
        have RT10_48 := hid (RT10.out.on g10)
        clear RT10
        have X2_49 := hid (X2_38.out.below g10 (X2_38.out.lt (by simp)))
        clear X2_38
        have XX_50 := hid (XX_39.out.below g10 (XX_39.out.lt (by simp)))
        clear XX_39
        have OV_51 := hid (own_on OV_40.out g10)
        clear OV_40
        have OY_52 := hid (own_on OY.out g10)
        clear OY
        have OZ_53 := hid (own_on OZ.out g10)
        clear OZ
        have MK54 := MK41.trans (g10.mono MK41.size)
        clear MK41
        have k11 := k10.trans (g10.mono k10.size)
        clear k10
        have XY := hid n10
        clear n10 g10
        refine (C7.out w11 (HL.out.on k11) (HV.out.on k11)).mono ?_
        rintro _ w12 ⟨rfl, hb12⟩
        have RW_55 := hid (RW_42.out.on hb12)
        clear RW_42
        have RA_56 := hid (RA_43.out.on hb12)
        clear RA_43
        have RB_57 := hid (RB_44.out.on hb12)
        clear RB_44
        have RC_58 := hid (RC_45.out.on hb12)
        clear RC_45
        have RD_59 := hid (RD_46.out.on hb12)
        clear RD_46
        have RT8_60 := hid (RT8_47.out.on hb12)
        clear RT8_47
        have RT10_61 := hid (RT10_48.out.on hb12)
        clear RT10_48
        have X2_62 := hid (X2_49.out.below hb12 (X2_49.out.lt (by simp)))
        clear X2_49
        have XX_63 := hid (XX_50.out.below hb12 (XX_50.out.lt (by simp)))
        clear XX_50
        have XY_64 := hid (XY.out.below hb12 (XY.out.lt (by simp)))
        clear XY
        have OV_65 := hid (own_on OV_51.out hb12)
        clear OV_51
        have OY_66 := hid (own_on OY_52.out hb12)
        clear OY_52
        have OZ_67 := hid (own_on OZ_53.out hb12)
        clear OZ_53
        have MK68 := MK54.trans (hb12.mono MK54.size)
        clear MK54
        have k12 := k11.trans (hb12.mono k11.size)
        clear k11
        clear hb12 C7
        go_wp2_with fail
        refine (C8.out w12 (HL.out.on k12) (HV.out.on k12)).mono ?_
        rintro _ _ ⟨rfl, rfl⟩
        clear C8
        go_wp2_with fail
        refine region_in (C := Below w12.heap.size w12) (by kernel_rfl) (by kernel_rfl) (belowN _ _ 1) ?_
        go_big_quiet_want
        go_big_quiet_op
        first | go_big_quiet_on | (refine ⟨_, fun _ _ => rfl, ?_⟩; go_big_quiet_on)
        go_big_quiet_want
        go_big_quiet_op
        first | go_big_quiet_on | (refine ⟨_, fun _ _ => rfl, ?_⟩; go_big_quiet_on)
        go_big_quiet_want
        go_big_quiet_op
        go_big_quiet_call ((intro hW; refine (CQa.out _ _ _ _ _ _ _ (RA_56.out.below hW) (RB_57.out.below hW)).mono ?_; rintro _ w' ⟨rfl, hb⟩; exact ⟨rfl, hW.trans (hb.mono hW.size)⟩))
        go_big_quiet_want
        go_big_quiet_op
        first | go_big_quiet_on | (refine ⟨_, fun _ _ => rfl, ?_⟩; go_big_quiet_on)
        go_big_quiet_want
        go_big_quiet_op
        first | go_big_quiet_on | (refine ⟨_, fun _ _ => rfl, ?_⟩; go_big_quiet_on)
        go_big_quiet_want
        go_big_quiet_op
        first | go_big_quiet_on | (refine ⟨_, fun _ _ => rfl, ?_⟩; go_big_quiet_on)
        go_big_quiet_want
        go_big_quiet_op
        first | go_big_quiet_on | (refine ⟨_, fun _ _ => rfl, ?_⟩; go_big_quiet_on)
        go_big_quiet_want
        go_big_quiet_op
        first | go_big_quiet_on | (refine ⟨_, fun _ _ => rfl, ?_⟩; go_big_quiet_on)
        go_big_quiet_want
        go_big_quiet_op
        first | go_big_quiet_on | (refine ⟨_, fun _ _ => rfl, ?_⟩; go_big_quiet_on)
        go_big_quiet_want
        go_big_quiet_op
        first | go_big_quiet_on | (refine ⟨_, fun _ _ => rfl, ?_⟩; go_big_quiet_on)
        go_big_quiet_want
        go_big_quiet_op
        first | go_big_quiet_on | (refine ⟨_, fun _ _ => rfl, ?_⟩; go_big_quiet_on)
        go_big_quiet_want
        go_big_quiet_op
        first | go_big_quiet_on | (refine ⟨_, fun _ _ => rfl, ?_⟩; go_big_quiet_on)
        go_big_quiet_want
        go_big_quiet_op
        go_big_quiet_call ((intro hW; refine (CQc.out _ _ _ _ _ _ _ (RC_58.out.below hW) (RD_59.out.below hW)).mono ?_; rintro _ w' ⟨rfl, hb⟩; exact ⟨rfl, hW.trans (hb.mono hW.size)⟩))
        go_big_quiet_want
        go_big_quiet_op
        first | go_big_quiet_on | (refine ⟨_, fun _ _ => rfl, ?_⟩; go_big_quiet_on)
        go_big_quiet_want
        go_big_quiet_op
        first | go_big_quiet_on | (refine ⟨_, fun _ _ => rfl, ?_⟩; go_big_quiet_on)
        go_big_quiet_want
        go_big_quiet_op
        first | go_big_quiet_on | (refine ⟨_, fun _ _ => rfl, ?_⟩; go_big_quiet_on)
        go_big_quiet_want
        go_big_quiet_op
        first | go_big_quiet_on | (refine ⟨_, fun _ _ => rfl, ?_⟩; go_big_quiet_on)
        go_big_quiet_want
        go_big_quiet_op
        first | go_big_quiet_on | (refine ⟨_, fun _ _ => rfl, ?_⟩; go_big_quiet_on)
        go_big_quiet_want
        go_big_quiet_op
        first | go_big_quiet_on | (refine ⟨_, fun _ _ => rfl, ?_⟩; go_big_quiet_on)
        go_big_quiet_want
        go_big_quiet_op
        first | go_big_quiet_on | (refine ⟨_, fun _ _ => rfl, ?_⟩; go_big_quiet_on)
        go_big_quiet_want
        go_big_quiet_op
        first | go_big_quiet_on | (refine ⟨_, fun _ _ => rfl, ?_⟩; go_big_quiet_on)
        go_big_quiet_want
        refine ⟨.agg #[.int .i64 T.sch, .int .i64 T.dim, .slice A8 T.L.length c8, .slice B8 T.V.length d8, .int .i64 T.scale, .int .i64 T.wide, .slice none T.lev.length 0, .slice none T.neg.length 0], fun W hW => ?_, ?_⟩
        · obtain ⟨⟨c0, c1, c2, c3, c4, c5, c6, c7⟩, _⟩ := (XX_63.out.below hW (XX_63.out.lt (by simp))).eight
          go_simp
        simp only [Act.put, List.setIfInBounds_toArray, List.set_cons_zero, List.set_cons_succ]
        go_big_quiet_on
        go_big_quiet_want
        refine ⟨.agg #[.int .i64 T.sch, .int .i64 T.dim, .slice A10 T.L.length c10, .slice B10 T.V.length d10, .int .i64 T.scale, .int .i64 T.wide, .slice none T.lev.length 0, .slice none T.neg.length 0], fun W hW => ?_, ?_⟩
        · obtain ⟨⟨c0, c1, c2, c3, c4, c5, c6, c7⟩, _⟩ := (XY_64.out.below hW (XY_64.out.lt (by simp))).eight
          go_simp
        simp only [Act.put, List.setIfInBounds_toArray, List.set_cons_zero, List.set_cons_succ]
        go_big_quiet_on
        go_big_quiet_want
        go_big_quiet_op
        go_big_quiet_call ((intro hW; refine (C12.out ⟨A8, c8, B8, d8, none, 0, none, 0⟩ ⟨A10, c10, B10, d10, none, 0, none, 0⟩ _ (RT8_60.out.on hW) (RT10_61.out.on hW)).mono ?_; rintro _ w' ⟨rfl, hb⟩; exact ⟨rfl, hW.trans (hb.mono hW.size)⟩))
        go_big_quiet_want
        go_big_quiet_op
        first | go_big_quiet_on | (refine ⟨_, fun _ _ => rfl, ?_⟩; go_big_quiet_on)
        go_big_quiet_want
        go_big_quiet_op
        first | go_big_quiet_on | (refine ⟨_, fun _ _ => rfl, ?_⟩; go_big_quiet_on)
        go_big_quiet_want
        go_big_quiet_op
        first | go_big_quiet_on | (refine ⟨_, fun _ _ => rfl, ?_⟩; go_big_quiet_on)
        go_big_quiet_want
        go_big_quiet_op
        first | go_big_quiet_on | (refine ⟨_, fun _ _ => rfl, ?_⟩; go_big_quiet_on)
        go_big_quiet_want
        go_big_quiet_op
        first | go_big_quiet_on | (refine ⟨_, fun _ _ => rfl, ?_⟩; go_big_quiet_on)
        go_big_quiet_want
        go_big_quiet_op
        first | go_big_quiet_on | (refine ⟨_, fun _ _ => rfl, ?_⟩; go_big_quiet_on)
        go_big_quiet_want
        go_big_quiet_op
        first | go_big_quiet_on | (refine ⟨_, fun _ _ => rfl, ?_⟩; go_big_quiet_on)
        go_big_quiet_want
        go_big_quiet_op
        first | go_big_quiet_on | (refine ⟨_, fun _ _ => rfl, ?_⟩; go_big_quiet_on)
        go_big_quiet_want
        go_big_quiet_op
        first | go_big_quiet_on | (refine ⟨_, fun _ _ => rfl, ?_⟩; go_big_quiet_on)
        go_big_quiet_want
        go_big_quiet_op
        first | go_big_quiet_on | (refine ⟨_, fun _ _ => rfl, ?_⟩; go_big_quiet_on)
        go_big_quiet_want
        go_big_quiet_op
        first | go_big_quiet_on | (refine ⟨_, fun _ _ => rfl, ?_⟩; go_big_quiet_on)
        go_big_quiet_want
        go_big_quiet_op
        first | go_big_quiet_on | (refine ⟨_, fun _ _ => rfl, ?_⟩; go_big_quiet_on)
        go_big_quiet_want
        go_big_quiet_op
        first | go_big_quiet_on | (refine ⟨_, fun _ _ => rfl, ?_⟩; go_big_quiet_on)
        go_big_quiet_want
        go_big_quiet_op
        first | go_big_quiet_on | (refine ⟨_, fun _ _ => rfl, ?_⟩; go_big_quiet_on)
        go_big_quiet_want
        go_big_quiet_op
        first | go_big_quiet_on | (refine ⟨_, fun _ _ => rfl, ?_⟩; go_big_quiet_on)
        go_big_quiet_want
        go_big_quiet_op
        first | go_big_quiet_on | (refine ⟨_, fun _ _ => rfl, ?_⟩; go_big_quiet_on)
        go_big_quiet_want
        go_big_quiet_op
        first | go_big_quiet_on | (refine ⟨_, fun _ _ => rfl, ?_⟩; go_big_quiet_on)
        go_big_quiet_want
        go_big_quiet_op
        first | go_big_quiet_on | (refine ⟨_, fun _ _ => rfl, ?_⟩; go_big_quiet_on)
        go_big_quiet_want
        go_big_quiet_op
        first | go_big_quiet_on | (refine ⟨_, fun _ _ => rfl, ?_⟩; go_big_quiet_on)
        go_big_quiet_want
        go_big_quiet_op
        first | go_big_quiet_on | (refine ⟨_, fun _ _ => rfl, ?_⟩; go_big_quiet_on)
        go_big_quiet_want
        refine ⟨.agg #[.int .i64 s.sch, .int .i64 s.dim, .slice ps.AL s.L.length ps.cL, .slice ps.AV s.V.length ps.cV, .int .i64 s.scale, .int .i64 s.wide, .slice ps.AE s.lev.length ps.cE, .slice ps.AN s.neg.length ps.cN], fun W hW => ?_, ?_⟩
        · obtain ⟨⟨c0, c1, c2, c3, c4, c5, c6, c7⟩, _⟩ := (X2_62.out.below hW (X2_62.out.lt (by simp))).eight
          go_simp
        simp only [Act.put, List.setIfInBounds_toArray, List.set_cons_zero, List.set_cons_succ]
        go_big_quiet_on
        go_big_quiet_want
        go_big_quiet_op
        go_big_quiet_call ((intro hW; refine (C9.out _ (HV.out.on (k12.trans (hW.mono k12.size))) (HS.out.on (k12.trans (hW.mono k12.size)))).mono ?_; rintro _ w' ⟨rfl, hb⟩; exact ⟨rfl, hW.trans (hb.mono hW.size)⟩))
        go_big_quiet_want
        go_big_quiet_op
        first | go_big_quiet_on | (refine ⟨_, fun _ _ => rfl, ?_⟩; go_big_quiet_on)
        go_big_quiet_want
        go_big_quiet_op
        first | go_big_quiet_on | (refine ⟨_, fun _ _ => rfl, ?_⟩; go_big_quiet_on)
        go_big_quiet_want
        refine ⟨.agg #[.int .i64 s.sch, .int .i64 s.dim, .slice ps.AL s.L.length ps.cL, .slice ps.AV s.V.length ps.cV, .int .i64 s.scale, .int .i64 s.wide, .slice ps.AE s.lev.length ps.cE, .slice ps.AN s.neg.length ps.cN], fun W hW => ?_, ?_⟩
        · obtain ⟨⟨c0, c1, c2, c3, c4, c5, c6, c7⟩, _⟩ := (X2_62.out.below hW (X2_62.out.lt (by simp))).eight
          go_simp
        simp only [Act.put, List.setIfInBounds_toArray, List.set_cons_zero, List.set_cons_succ]
        go_big_quiet_on
        go_big_quiet_want
        go_big_quiet_op
        go_big_quiet_call ((intro hW; refine (C10.out _ (HV.out.on (k12.trans (hW.mono k12.size))) (HS.out.on (k12.trans (hW.mono k12.size)))).mono ?_; rintro _ w' ⟨rfl, hb⟩; exact ⟨rfl, hW.trans (hb.mono hW.size)⟩))
        go_big_quiet_want
        go_big_quiet_op
        first | go_big_quiet_on | (refine ⟨_, fun _ _ => rfl, ?_⟩; go_big_quiet_on)
        go_big_quiet_want
        go_big_quiet_op
        first | go_big_quiet_on | (refine ⟨_, fun _ _ => rfl, ?_⟩; go_big_quiet_on)
        refine wpQuiet_nil ?_
        intro w13 hb13
        clear C9 C10 C12 CQa CQc RA_56 RB_57 RC_58 RD_59 RT8_60 RT10_61 X2_62
        have RW_69 := hid (RW_55.out.on hb13)
        clear RW_55
        have XX_70 := hid (XX_63.out.below hb13 (XX_63.out.lt (by simp)))
        clear XX_63
        have XY_71 := hid (XY_64.out.below hb13 (XY_64.out.lt (by simp)))
        clear XY_64
        have OV_72 := hid (own_on OV_65.out hb13)
        clear OV_65
        have OY_73 := hid (own_on OY_66.out hb13)
        clear OY_66
        have OZ_74 := hid (own_on OZ_67.out hb13)
        clear OZ_67
        have MK75 := MK68.trans (hb13.mono MK68.size)
        clear MK68
        have k13 := k12.trans (hb13.mono k12.size)
        clear k12
        clear hb13
        obtain ⟨⟨c0, c1, c2, c3, c4, c5, c6, c7⟩, _⟩ := XX_70.out.eight
        go_wp2_with fail
        clear c0 c1 c2 c3 c4 c5 c6 c7
        go_loopw [27, 148] (fun x27 i wr => ∃ (q : Nat) (zs : List Int), q ≤ T.V.length ∧ i = .int .i64 q ∧ zs.length = T.V.length ∧ wr.ownsRow w7.heap.size 2 1 (.slice B8 T.V.length d8) T.V.length (zs.map (Value.int .i64)) ∧ w13.grownBy wr row ∧ Below w7.heap.size w13 wr) (fun _ i _ => T.V.length - (intOf i).toNat)
        case atStart => exact ⟨0, T.V, by omega, rfl, rfl, OV_72.out, grown_me _ _, Below.refl _ _⟩
        case round =>
          obtain ⟨q, zs, hq, rfl, hz, hown, hgr, hbr⟩ := hrel
          have HZ := hid hz
          have HO := hid hown
          have HGR := hid hgr
          have XXr := hid (XX_70.out.far hgr (by intro e; have := (HROW.out _ e.symm).2; omega) (XX_70.out.lt (by simp)))
          by_cases hlt : q < T.V.length
          · obtain ⟨g, hg, hgb, hgc, hgf⟩ := own_cellk hown (show q < zs.length by omega)
            have HRg : Hid (row = some g) := hid (by rw [← HRW.out, hg]; rfl)
            subst hg
            obtain ⟨⟨c0, c1, c2, c3, c4, c5, c6, c7⟩, _⟩ := XXr.out.eight
            obtain ⟨x0, hx0⟩ : ∃ x0, zs.getD q 0 = x0 := ⟨_, rfl⟩
            rw [hx0] at hgc
            obtain ⟨y, hy⟩ : ∃ y, wrap64 (x0 + 1) = y := ⟨_, rfl⟩
            clear hz hown hx0 hgr
            go_wp2_with fail
            go_roundw
            case rel =>
              refine ⟨q + 1, zs.set q y, by omega, by go_num, by rw [List.length_set]; exact HZ.out, ?_, ?_, hbr.setCell hgb _⟩
              · have h := (HO.out.stored q (.int .i64 y)).1
                rw [← List.map_set] at h
                exact h
              · rw [HRg.out]
                have h := HGR.out
                rw [HRg.out] at h
                exact h.trans (grown_set _ ⟨g, q, none⟩ _)
            case measure => simp [intOf]; omega
          · have kr := k13.trans (hbr.mono hz0)
            have HVr := hid (HV.out.on kr)
            have RWr := hid (RW7.out.on (MK75.trans hbr))
            have OYr := own_apart OY_73.out hgr (fun b e => Nat.lt_of_lt_of_le ((HROW.out b e).2) (Nat.le_of_lt hzx))
            have OZr := own_apart OZ_74.out hgr (fun b e => Nat.lt_of_lt_of_le ((HROW.out b e).2) (Nat.le_of_lt hzx))
            have RYr := hid (OwnSt.rd HLEV.out HNEG.out OYr OZr)
            have XYr := hid (XY_71.out.far hgr (by intro e; have := (HROW.out _ e.symm).2; omega) (XY_71.out.lt (by simp)))
            clear OYr OZr hgr hz hown HZ HO HGR XXr
            go_wp2_with fail
            go_loopw [28, 161] (fun x28 i wt => ∃ j : Nat, j ≤ v.length ∧ i = .int .i64 j ∧ ∃ n, wt = wr.drewN n) (fun _ i _ => v.length - (intOf i).toNat)
            case atStart => exact ⟨0, by omega, rfl, 0, rfl⟩
            case round =>
              obtain ⟨j, hj, rfl, m, rfl⟩ := hrel
              by_cases hjl : j < v.length
              · obtain ⟨b1, o1, x, rfl, l1, ex, e1⟩ := HVr.out.at_ hjl
                obtain ⟨b2, o2, y, rfl, l2, ey, e2⟩ := RWr.out.at_ hjl
                obtain rfl : x = y := by rw [ex] at ey; injection ey
                clear ex ey
                go_wp2_with fail
                go_quiet (fail)
                go_wp2_with fail
                go_roundw
                case rel => exact ⟨j + 1, by omega, by go_num, _, rfl⟩
                case measure => simp [intOf]; omega
              · have kd := belowN wr.heap.size wr m
                have XYt := hid (XYr.out.below kd (XYr.out.lt (by simp)))
                have RYt := hid (RYr.out.on kd)
                have HVt := hid (HVr.out.on kd)
                have kt := kr.trans (kd.mono kr.size)
                obtain ⟨w14, h14⟩ : ∃ w14, wr.drewN m = w14 := ⟨_, rfl⟩
                rw [h14] at XYt RYt HVt kt ⊢
                clear h14 kd
                obtain ⟨⟨c0, c1, c2, c3, c4, c5, c6, c7⟩, _⟩ := XYt.out.eight
                by_cases het : et = 0
                · have hit := HIT.out het
                  subst het hit
                  go_wp2_with fail
                  refine (C11.out ⟨A10, c10, B10, d10, none, 0, none, 0⟩ w14 HVt.out RYt.out).mono ?_
                  rintro _ w15 ⟨rfl, hb15⟩
                  go_wp2_with fail
                  go_ret
                  exact ⟨rfl, kt.trans (hb15.mono kt.size)⟩
                · have hne : (et != 0) = true := by simpa using het
                  clear het HIT
                  go_wp2_with fail
                  go_ret
                  exact ⟨rfl, kt⟩
      · have hl' : (l.length : Int) > 500 := by omega
        clear hf hb rv uv rs ws cs rl ul hk
        go_enter Try.func3, Try.ntmps3
        go_wp2_with fail
        refine (tk_live _).mono ?_
        rintro _ w1 ⟨rfl, hb1⟩
        have k1 : Below w.heap.size w w1 := Below.trans (by go_grown) (hb1.mono (by simp))
        have X1 := hid (HBX.out.below hb1 (by simp))
        clear hb1 HBX
        go_wp2_with fail
        refine (CF.out w1).mono ?_
        rintro _ _ ⟨rfl, rfl⟩
        clear CF
        obtain ⟨⟨c0, c1, c2, c3, c4, c5, c6, c7⟩, _⟩ := X1.out.eight
        go_wp2_with fail
        refine (CB.out _).mono ?_
        rintro _ w2 ⟨rfl, hb2⟩
        have k2 := k1.trans (hb2.mono k1.size)
        have X2 := hid (X1.out.below hb2 (X1.out.lt (by simp)))
        clear hb2 X1 CB k1 c0 c1 c2 c3 c4 c5 c6 c7
        go_wp2_with fail
        go_ret
        exact ⟨rfl, k2⟩
  · rw [Bool.eq_false_iff.2 hf] at CF
    clear hf rv uv rs ws cs rl ul hk
    go_enter Try.func3, Try.ntmps3
    go_wp2_with fail
    refine (tk_live _).mono ?_
    rintro _ w1 ⟨rfl, hb1⟩
    have k1 : Below w.heap.size w w1 := Below.trans (by go_grown) (hb1.mono (by simp))
    have X1 := hid (HBX.out.below hb1 (by simp))
    clear hb1 HBX
    go_wp2_with fail
    refine (CF.out w1).mono ?_
    rintro _ _ ⟨rfl, rfl⟩
    clear CF
    go_wp2_with fail
    go_ret
    exact ⟨rfl, k1⟩
theorem law_types : ∀ t ∈ Try.f3.params.toList, Try.prog.readableRec t = true ∧ t < Try.prog.types.size := by
  have h : (Try.f3.params.toList.all fun t => Try.prog.readableRec t && decide (t < Try.prog.types.size)) = true := by kernel_rfl
  intro t ht
  simpa using List.all_eq_true.1 h t ht
set_option maxRecDepth 100000 in
theorem lifted (os : Os) (started : os.Started) (H : Type) (enc : TypeId × Value → H) :
    ReturnsInHanded {} Try.checked os 3 .any (Rows.topkPicksSpec.pre6 enc Try.prog Try.f3 Rows.topkPicksRow.domain false) (Rows.topkPicksSpec.post enc Try.prog Try.f3 false true false false) := by
  refine returnsInHanded_of_change (C := Try.checked) own started (by kernel_rfl) Try.func3
    (ChangeSpec.witness6 (enc := enc) (C := Try.checked) false ⟨#[], #[.int .i64 0, .slice none 0 0, .agg #[.int .i64 0, .int .i64 0, .slice none 0 0, .slice none 0 0, .int .i64 0, .int .i64 0, .slice none 0 0, .slice none 0 0], .slice none 0 0], []⟩ 8 (by kernel_rfl) (by kernel_rfl) (by kernel_rfl) (by kernel_rfl)) ?_
  intro W base args ds gs before hval0 hW hcnd _
  have hval : ∀ (j : Nat) t v, Try.f3.params[j]? = some t → args[j]? = some v → Value.okWide Try.prog W .any base t v := hval0
  have hW' := hW
  obtain ⟨p, q, hA0, hV, rfl, hfz, hnd⟩ := hW
  have hA : DataW.TrodAll enc Try.prog W 0 (fun _ => true) true Try.f3.params.toList args.toList ds p := hA0
  rw [Try.params3] at hA hval
  obtain ⟨v0, vs0, d0, ds0, p0, q0, hargs, rfl, rfl, h0, r0⟩ := trodAll_cons hA
  obtain ⟨v1, vs1, d1, ds1, p1, q1, rfl, rfl, rfl, h1, r1⟩ := trodAll_cons r0
  obtain ⟨v2, vs2, d2, ds2, p2, q2, rfl, rfl, rfl, h2, r2⟩ := trodAll_cons r1
  obtain ⟨v3, vs3, d3, ds3, p3, q3, rfl, rfl, rfl, h3, r3⟩ := trodAll_cons r2
  obtain ⟨rfl, rfl, rfl⟩ := trodAll_nil r3
  obtain rfl : args = #[v0, v1, v2, v3] := by cases args; simp_all
  obtain ⟨rfl, rfl⟩ := trodVars_none hV
  obtain ⟨k, rfl, rfl, rfl, w0⟩ := open_int Try.underlying3 (hval 0 3 v0 rfl rfl) h0
  obtain ⟨Av, v, cv, rfl, rdv, iv, lcv, lmv⟩ := open_nums Try.underlying22 Try.underlying2 cells_i64' (hval 1 22 v1 rfl rfl) h1
  obtain ⟨s, ps, rfl, rds, wfs, cps⟩ := open_sent (hval 2 27 v2 rfl rfl) h2
  obtain ⟨Al, l, cl, rfl, rdl, il, lcl, lml⟩ := open_nums Try.underlying23 Try.underlying3 cells_int (hval 3 23 v3 rfl rfl) h3
  clear hA0 hval0
  refine (walk k Av v cv s ps Al l cl W (I64.of_wf w0) rdv (fun x hx => I64.of_wf (iv x hx)) lcv lmv rds wfs cps rdl (fun x hx => I64.of_wf (il x hx)) lcl lml).mono fun e W' ⟨he, hb⟩ => ?_
  subst he
  exact ⟨_, rfl, law_post laid (fun t ht => law_types t ht) rfl hW' ⟨rfl, rfl, rfl⟩ (by kernel_rfl) Try.underlying4 hb⟩

theorem over : Rows.topkPicksRow.holds Try.pinned (OpenSpec.ofChange Rows.topkPicksSpec) :=
  OpenClaim.holds_of_wide 3 Try.f3 rfl rfl rfl rfl rfl rfl rfl ⟨rfl, rfl, rfl, rfl, rfl⟩ rfl rfl rfl rfl rfl (by kernel_rfl) Try.func3 (by kernel_rfl)
    (of_decide_eq_true (by kernel_rfl)) (by unfold Func.isWrapper; first | (rw [if_pos (by decide +kernel)]; kernel_rfl) | (rw [if_neg (by decide +kernel)]; exact ⟨rfl, rfl⟩))
    (fun os started H enc _ => lifted os started H enc)

theorem proved : Rows.TopkPicksSaid := over
end Go.Proofs.Ytjkhdfncahhnoaa.TopkPicks
