
/-
  SignPresses answers true for every input. No condition.
-/
import Derived.Test.YtkcckncglbjjdaaNg
import Derived.Test.YtkcckncglbjjdaaNf
import Derived.Test.YtkcckncglbjjdaaNd
import Derived.Test.YtkcckncglbjjdaaNd
namespace Go.Proofs.Ytkcckncglbjjdaa.SignPresses
open Go.ChangeShapes Go.WideShapes Go.ChangeAt Go.RowKit
set_option maxHeartbeats 400000
set_option linter.unusedVariables false
open Go.Proofs.Ytkcckncglbjjdaa
set_option maxRecDepth 100000 in
/-- A region that draws, walked once, in a class of worlds of one's own. -/
theorem region_ten {P : Program} {C : World → Prop} {id : Nat} {Q : Exit → Act → World → Prop} {a : Act} {w : World} {l : List Oper} (hm : P.follows .mixedOrders = true) (hB : Region.lexB .any l.toArray = true) (hC : C w.drew)
    (h : wpQuiet P l.toArray C (fun a' => ∀ w', C w' → Q .normal a' w') l a) : (Code.region id l.toArray true).wp P Q a w :=
  wp_region_quiet hm hB hC (by simpa using h)
/-- A list is found the same as itself. -/
theorem same_self {X : List Int} (hX : X.length ≤ 9223372036854775807) {A B : Option Addr} {c d : Nat} (W : World) (ra : Rd (Value.int .i64) W W.heap.size A X) (rb : Rd (Value.int .i64) W W.heap.size B X) :
    Calls Try.prog 19 #[.slice A X.length c, .slice B X.length d] W fun e w' => e = .returned (.bool true) ∧ Below W.heap.size W w' := by
  have h := rSame_any (A := A) (B := B) (c := c) (d := d) X X hX hX W ra rb
  rw [eqB_self] at h
  exact h
set_option maxHeartbeats 8000000 in
set_option maxRecDepth 100000 in
theorem walk (Av : Option Addr) (v : List Int) (cv : Nat) (s : SentV) (ps : SentP) (w : World) (rv : Rd (Value.int .i64) w w.heap.size Av v) (uv : I64s v) (lv : v.length ≤ cv) (mv : cv ≤ 9223372036854775807) (rs : RdS w w.heap.size s ps) (ws : wfS s) (cs : capS s ps) :
    Calls Try.prog 3 #[.slice Av v.length cv, encT s ps] w fun e w' => e = .returned (.bool true) ∧ Below w.heap.size w w' := by
  have HV := hid rv
  have HS := hid rs
  have hv : v.length ≤ 9223372036854775807 := by omega
  have CF := hid (fun W => sg_few (A := Av) (c := cv) (B := none) (d := 0) [] hv (by simp) (by simp) W (RdBs.nil W W.heap.size none))
  rw [show ([] : List (List Bool)).length = 0 from rfl] at CF
  have CB := hid (fun W => (show Calls Try.prog 11 #[.agg #[.int .i64 s.sch, .int .i64 s.dim, .slice ps.AL s.L.length ps.cL, .slice ps.AV s.V.length ps.cV, .int .i64 s.scale, .int .i64 s.wide, .slice ps.AE s.lev.length ps.cE, .slice ps.AN s.neg.length ps.cN]] W fun e w' => e = .returned (.bool (bigS s)) ∧ Below W.heap.size W w' by exact ref_Big s ps W))
  have HBX : Hid (BoxL (w.alloc (.cells #[.int .i64 s.sch, .int .i64 s.dim, .slice ps.AL s.L.length ps.cL, .slice ps.AV s.V.length ps.cV, .int .i64 s.scale, .int .i64 s.wide, .slice ps.AE s.lev.length ps.cE, .slice ps.AN s.neg.length ps.cN] 27)) w.heap.size [.int .i64 s.sch, .int .i64 s.dim, .slice ps.AL s.L.length ps.cL, .slice ps.AV s.V.length ps.cV, .int .i64 s.scale, .int .i64 s.wide, .slice ps.AE s.lev.length ps.cE, .slice ps.AN s.neg.length ps.cN]) := hid (BoxL.new w [.int .i64 s.sch, .int .i64 s.dim, .slice ps.AL s.L.length ps.cL, .slice ps.AV s.V.length ps.cV, .int .i64 s.scale, .int .i64 s.wide, .slice ps.AE s.lev.length ps.cE, .slice ps.AN s.neg.length ps.cN] 27)
  by_cases hf : fewS v.length [] = true
  · rw [hf] at CF
    by_cases hbig : bigS s = true
    · rw [hbig] at CB
      clear hf hbig rv uv rs ws cs
      go_enter Try.func3, Try.ntmps3
      go_wp2_with fail
      refine (sg_live _).mono ?_
      rintro _ w1 ⟨rfl, hb1⟩
      have k1 : Below w.heap.size w w1 := Below.trans (by go_grown) (hb1.mono (by simp))
      have X1 := hid (HBX.out.below hb1 (by simp))
      clear hb1 HBX
      go_wp2_with fail
      refine (CF.out w1).mono ?_
      rintro _ _ ⟨rfl, rfl⟩
      clear CF
      obtain ⟨⟨q0, q1, q2, q3, q4, q5, q6, q7⟩, _⟩ := X1.out.eight
      go_wp2_with fail
      refine (CB.out _).mono ?_
      rintro _ w2 ⟨rfl, hb2⟩
      have k2 := k1.trans (hb2.mono k1.size)
      have X2 := hid (X1.out.below hb2 (X1.out.lt (by simp)))
      clear hb2 X1 CB k1 q0 q1 q2 q3 q4 q5 q6 q7
      go_wp2_with fail
      go_ret
      exact ⟨rfl, k2⟩
    · have hb : bigS s = false := Bool.eq_false_iff.2 hbig
      rw [hb] at CB
      clear hbig
      have h5 := (fewS_ok hf).1
      have hln := (big_ln hb).more (show 500 ≤ 5000 by decide)
      have M1 := hid (fun W (h : Rd (Value.int .i64) W W.heap.size Av v) => sn_Mean (A := Av) (c := cv) v uv hv W h)
      have M2 := hid (fun W (h : Rd (Value.int .i64) W W.heap.size Av v) => ref_Mean11 (A := Av) (c := cv) v uv hv W h)
      have C1 := hid (fun W (h : Rd (Value.int .i64) W W.heap.size Av v) => sn_Press (A := Av) (c := cv) v uv hv W h)
      have C2 := hid (fun W (h : Rd (Value.int .i64) W W.heap.size Av v) => ref_Press11 (A := Av) (c := cv) v uv hv W h)
      have C3 := hid (fun W (h : RdS W W.heap.size s ps) => (show Calls Try.prog 16 #[.agg #[.int .i64 s.sch, .int .i64 s.dim, .slice ps.AL s.L.length ps.cL, .slice ps.AV s.V.length ps.cV, .int .i64 s.scale, .int .i64 s.wide, .slice ps.AE s.lev.length ps.cE, .slice ps.AN s.neg.length ps.cN]] W (OwnE 2 .i64 W.heap.size (lsgV s) (lsgE s) W) by exact sn_Loosen s ps (hln.more (by decide)) ws W h))
      have C4 := hid (fun W (h : RdS W W.heap.size s ps) => (show Calls Try.prog 17 #[.agg #[.int .i64 s.sch, .int .i64 s.dim, .slice ps.AL s.L.length ps.cL, .slice ps.AV s.V.length ps.cV, .int .i64 s.scale, .int .i64 s.wide, .slice ps.AE s.lev.length ps.cE, .slice ps.AN s.neg.length ps.cN]] W (OwnE 2 .i64 W.heap.size (lsgV s) (lsgE s) W) by exact ref_Loosen11 s ps (hln.more (by decide)) ws W h))
      have C9 := hid (fun W (h1 : Rd (Value.int .i64) W W.heap.size Av v) (h2 : RdS W W.heap.size s ps) => (show Calls Try.prog 20 #[.slice Av v.length cv, .agg #[.int .i64 s.sch, .int .i64 s.dim, .slice ps.AL s.L.length ps.cL, .slice ps.AV s.V.length ps.cV, .int .i64 s.scale, .int .i64 s.wide, .slice ps.AE s.lev.length ps.cE, .slice ps.AN s.neg.length ps.cN]] W fun e w' => e = .returned (.bool (isSB v s)) ∧ Below W.heap.size W w' by exact sn_Is (c := cv) v uv hv s ps (hln.more (by decide)) W h1 h2))
      have C10 := hid (fun W (h1 : Rd (Value.int .i64) W W.heap.size Av v) (h2 : RdS W W.heap.size s ps) => (show Calls Try.prog 21 #[.slice Av v.length cv, .agg #[.int .i64 s.sch, .int .i64 s.dim, .slice ps.AL s.L.length ps.cL, .slice ps.AV s.V.length ps.cV, .int .i64 s.scale, .int .i64 s.wide, .slice ps.AE s.lev.length ps.cE, .slice ps.AN s.neg.length ps.cN]] W fun e w' => e = .returned (.bool (isSB v s)) ∧ Below W.heap.size W w' by exact ref_Is11 (c := cv) v uv hv s ps (hln.more (by decide)) W h1 h2))
      have hT := sgS_ln v
      obtain ⟨T, e5⟩ : ∃ x, sgS v = x := ⟨_, rfl⟩
      rw [e5] at C1 C2 hT
      have C11 := hid (fun A1 c1 W (h1 : Rd (Value.int .i64) W W.heap.size Av v) (h : RdS W W.heap.size T ⟨none, 0, none, 0, none, 0, A1, c1⟩) => (show Calls Try.prog 20 #[.slice Av v.length cv, .agg #[.int .i64 T.sch, .int .i64 T.dim, .slice none T.L.length 0, .slice none T.V.length 0, .int .i64 T.scale, .int .i64 T.wide, .slice none T.lev.length 0, .slice A1 T.neg.length c1]] W fun e w' => e = .returned (.bool (isSB v T)) ∧ Below W.heap.size W w' by exact sn_Is (c := cv) v uv hv T ⟨none, 0, none, 0, none, 0, A1, c1⟩ (hT.more (by decide)) W h1 h))
      have C12 := hid (fun A1 c1 W (h1 : Rd (Value.int .i64) W W.heap.size Av v) (h : RdS W W.heap.size T ⟨none, 0, none, 0, none, 0, A1, c1⟩) => (show Calls Try.prog 21 #[.slice Av v.length cv, .agg #[.int .i64 T.sch, .int .i64 T.dim, .slice none T.L.length 0, .slice none T.V.length 0, .int .i64 T.scale, .int .i64 T.wide, .slice none T.lev.length 0, .slice A1 T.neg.length c1]] W fun e w' => e = .returned (.bool (isSB v T)) ∧ Below W.heap.size W w' by exact ref_Is11 (c := cv) v uv hv T ⟨none, 0, none, 0, none, 0, A1, c1⟩ (hT.more (by decide)) W h1 h))
      have C13 := hid (fun A1 B1 c1 d1 W (h1 : RdS W W.heap.size T ⟨none, 0, none, 0, none, 0, A1, c1⟩) (h2 : RdS W W.heap.size T ⟨none, 0, none, 0, none, 0, B1, d1⟩) => (show Calls Try.prog 18 #[.agg #[.int .i64 T.sch, .int .i64 T.dim, .slice none T.L.length 0, .slice none T.V.length 0, .int .i64 T.scale, .int .i64 T.wide, .slice none T.lev.length 0, .slice A1 T.neg.length c1], .agg #[.int .i64 T.sch, .int .i64 T.dim, .slice none T.L.length 0, .slice none T.V.length 0, .int .i64 T.scale, .int .i64 T.wide, .slice none T.lev.length 0, .slice B1 T.neg.length d1]] W fun e w' => e = .returned (.bool (sameS T T)) ∧ Below W.heap.size W w' by exact ref_SameSent T T ⟨none, 0, none, 0, none, 0, A1, c1⟩ ⟨none, 0, none, 0, none, 0, B1, d1⟩ (hT.more (by decide)) (hT.more (by decide)) W (Nat.le_refl _) (Nat.le_refl _) h1 h2))
      rw [sameS_iff.2 rfl] at C13
      have n1 : (lsgV s).length ≤ 9223372036854775807 := by
        unfold lsgV
        split
        · unfold lsgL; rw [List.length_map]; have := hln.2.2.2; omega
        · simp
      obtain ⟨x, e1⟩ : ∃ x, lsgV s = x := ⟨_, rfl⟩
      obtain ⟨ex, e2⟩ : ∃ x, lsgE s = x := ⟨_, rfl⟩
      obtain ⟨mm, e3⟩ : ∃ x, mnV v = x := ⟨_, rfl⟩
      obtain ⟨et, e4⟩ : ∃ x, mnE v = x := ⟨_, rfl⟩
      obtain ⟨ns, e7⟩ : ∃ x, isSB v s = x := ⟨_, rfl⟩
      obtain ⟨nt, e8⟩ : ∃ x, isSB v T = x := ⟨_, rfl⟩
      rw [e1, e2] at C3 C4
      rw [e3, e4] at M1 M2
      rw [e4] at C1 C2
      rw [e7] at C9 C10
      rw [e8] at C11 C12
      rw [e1] at n1
      have CQx := hid (fun (A B : Option Addr) (cc d : Nat) (W : World) (h1 : Rd (Value.int .i64) W W.heap.size A x) (h2 : Rd (Value.int .i64) W W.heap.size B x) => same_self (X := x) n1 (A := A) (B := B) (c := cc) (d := d) W h1 h2)
      have CQv := hid (fun (A B : Option Addr) (cc d : Nat) (W : World) (h1 : Rd (Value.int .i64) W W.heap.size A v) (h2 : Rd (Value.int .i64) W W.heap.size B v) => same_self (X := v) hv (A := A) (B := B) (c := cc) (d := d) W h1 h2)
      clear e1 e2 e3 e4 e5 e7 e8 hT hln rv uv rs ws cs hf hb
      go_enter Try.func3, Try.ntmps3
      go_wp2_with fail
      refine (sg_live _).mono ?_
      rintro _ w1 ⟨rfl, hb1⟩
      have k1 : Below w.heap.size w w1 := Below.trans (by go_grown) (hb1.mono (by simp))
      have X1 := hid (HBX.out.below hb1 (by simp))
      clear hb1 HBX
      go_wp2_with fail
      refine (CF.out w1).mono ?_
      rintro _ _ ⟨rfl, rfl⟩
      clear CF
      obtain ⟨⟨q0, q1, q2, q3, q4, q5, q6, q7⟩, _⟩ := X1.out.eight
      go_wp2_with fail
      refine (CB.out _).mono ?_
      rintro _ w2 ⟨rfl, hb2⟩
      have k2 := k1.trans (hb2.mono k1.size)
      have X2 := hid (X1.out.below hb2 (X1.out.lt (by simp)))
      clear hb2 X1 CB k1 q0 q1 q2 q3 q4 q5 q6 q7
      go_wp2_with (at_builtin; refine wpList_app (Value.int .i64) (fun _ => rfl) _ rfl _ _ 22 rfl w2.heap.size 2 (.int .i64 0) 8 Try.underlying22 info_i64 rfl [] none 0 rfl (own_nil _ _ _) v Av cv w2.heap.size rfl (HV.out.on k2) (by simp [maxLen]; omega) (by simp; omega) (Nat.le_refl _) ?_)
      rintro SS A3 c3 w3 hSS ho3 hb3 _
      obtain rfl : v = SS := hSS.symm
      have X2_1 := hid (X2.out.below hb3 (X2.out.lt (by simp)))
      clear X2
      have k3 := k2.trans (hb3.mono k2.size)
      clear k2
      have RW := hid (own_rd ho3)
      clear ho3 hb3
      go_wp2_with fail
      refine (M1.out w3 (HV.out.on k3)).mono ?_
      rintro _ w4 ⟨rfl, hb4⟩
      have RW_2 := hid (RW.out.on hb4)
      clear RW
      have X2_3 := hid (X2_1.out.below hb4 (X2_1.out.lt (by simp)))
      clear X2_1
      have k4 := k3.trans (hb4.mono k3.size)
      clear k3
      clear hb4 M1
      go_wp2_with fail
      refine (M2.out w4 (HV.out.on k4)).mono ?_
      rintro _ w5 ⟨rfl, hb5⟩
      have RW_4 := hid (RW_2.out.on hb5)
      clear RW_2
      have X2_5 := hid (X2_3.out.below hb5 (X2_3.out.lt (by simp)))
      clear X2_3
      have k5 := k4.trans (hb5.mono k4.size)
      clear k4
      clear hb5 M2
      go_wp2_with fail
      refine (C1.out w5 (HV.out.on k5)).mono ?_
      rintro _ w6 ⟨A6, c6, rfl, hL6, hV6, hE6, o1, hb6⟩
      have RW_6 := hid (RW_4.out.on hb6)
      clear RW_4
      have X2_7 := hid (X2_5.out.below hb6 (X2_5.out.lt (by simp)))
      clear X2_5
      have k6 := k5.trans (hb6.mono k5.size)
      clear k5
      have RTa := hid (OwnSg.rd hL6 hV6 hE6 o1)
      clear o1 hb6 hL6 hV6 hE6 C1
      have g6 : Below w6.heap.size w6 (w6.alloc (.cells #[.int .i64 T.sch, .int .i64 T.dim, .slice none T.L.length 0, .slice none T.V.length 0, .int .i64 T.scale, .int .i64 T.wide, .slice none T.lev.length 0, .slice A6 T.neg.length c6] 27)) := sg_grow _ _
      have n6 : BoxL (w6.alloc (.cells #[.int .i64 T.sch, .int .i64 T.dim, .slice none T.L.length 0, .slice none T.V.length 0, .int .i64 T.scale, .int .i64 T.wide, .slice none T.lev.length 0, .slice A6 T.neg.length c6] 27)) w6.heap.size [.int .i64 T.sch, .int .i64 T.dim, .slice none T.L.length 0, .slice none T.V.length 0, .int .i64 T.scale, .int .i64 T.wide, .slice none T.lev.length 0, .slice A6 T.neg.length c6] := BoxL.new w6 [.int .i64 T.sch, .int .i64 T.dim, .slice none T.L.length 0, .slice none T.V.length 0, .int .i64 T.scale, .int .i64 T.wide, .slice none T.lev.length 0, .slice A6 T.neg.length c6] 27
      obtain ⟨w7, hw7⟩ : ∃ wn, (w6.alloc (.cells #[.int .i64 T.sch, .int .i64 T.dim, .slice none T.L.length 0, .slice none T.V.length 0, .int .i64 T.scale, .int .i64 T.wide, .slice none T.lev.length 0, .slice A6 T.neg.length c6] 27)) = wn := ⟨_, rfl⟩
      rw [hw7] at g6 n6
      go_upto_region 10 with fail
      try rw [hw7]
      clear hw7
      have RW_8 := hid (RW_6.out.on g6)
      clear RW_6
      have RTa_9 := hid (RTa.out.on g6)
      clear RTa
      have X2_10 := hid (X2_7.out.below g6 (X2_7.out.lt (by simp)))
      clear X2_7
      have k7 := k6.trans (g6.mono k6.size)
      clear k6
      have XX := hid n6
      clear n6 g6
      go_wp2_with fail
      refine (C2.out w7 (HV.out.on k7)).mono ?_
      rintro _ w8 ⟨A8, c8, rfl, hL8, hV8, hE8, o1, hb8⟩
      have RW_11 := hid (RW_8.out.on hb8)
      clear RW_8
      have RTa_12 := hid (RTa_9.out.on hb8)
      clear RTa_9
      have X2_13 := hid (X2_10.out.below hb8 (X2_10.out.lt (by simp)))
      clear X2_10
      have XX_14 := hid (XX.out.below hb8 (XX.out.lt (by simp)))
      clear XX
      have k8 := k7.trans (hb8.mono k7.size)
      clear k7
      have RTb := hid (OwnSg.rd hL8 hV8 hE8 o1)
      clear o1 hb8 hL8 hV8 hE8 C2
      have g8 : Below w8.heap.size w8 (w8.alloc (.cells #[.int .i64 T.sch, .int .i64 T.dim, .slice none T.L.length 0, .slice none T.V.length 0, .int .i64 T.scale, .int .i64 T.wide, .slice none T.lev.length 0, .slice A8 T.neg.length c8] 27)) := sg_grow _ _
      have n8 : BoxL (w8.alloc (.cells #[.int .i64 T.sch, .int .i64 T.dim, .slice none T.L.length 0, .slice none T.V.length 0, .int .i64 T.scale, .int .i64 T.wide, .slice none T.lev.length 0, .slice A8 T.neg.length c8] 27)) w8.heap.size [.int .i64 T.sch, .int .i64 T.dim, .slice none T.L.length 0, .slice none T.V.length 0, .int .i64 T.scale, .int .i64 T.wide, .slice none T.lev.length 0, .slice A8 T.neg.length c8] := BoxL.new w8 [.int .i64 T.sch, .int .i64 T.dim, .slice none T.L.length 0, .slice none T.V.length 0, .int .i64 T.scale, .int .i64 T.wide, .slice none T.lev.length 0, .slice A8 T.neg.length c8] 27
      obtain ⟨w9, hw9⟩ : ∃ wn, (w8.alloc (.cells #[.int .i64 T.sch, .int .i64 T.dim, .slice none T.L.length 0, .slice none T.V.length 0, .int .i64 T.scale, .int .i64 T.wide, .slice none T.lev.length 0, .slice A8 T.neg.length c8] 27)) = wn := ⟨_, rfl⟩
      rw [hw9] at g8 n8
      go_upto_region 11 with fail
      try rw [hw9]
      clear hw9
      have RW_15 := hid (RW_11.out.on g8)
      clear RW_11
      have RTa_16 := hid (RTa_12.out.on g8)
      clear RTa_12
      have RTb_17 := hid (RTb.out.on g8)
      clear RTb
      have X2_18 := hid (X2_13.out.below g8 (X2_13.out.lt (by simp)))
      clear X2_13
      have XX_19 := hid (XX_14.out.below g8 (XX_14.out.lt (by simp)))
      clear XX_14
      have k9 := k8.trans (g8.mono k8.size)
      clear k8
      have XY := hid n8
      clear n8 g8
      obtain ⟨⟨q0, q1, q2, q3, q4, q5, q6, q7⟩, _⟩ := X2_18.out.eight
      go_wp2_with fail
      refine (C3.out w9 (HS.out.on k9)).mono ?_
      rintro _ w10 ⟨A10, c10, rfl, ho10, hb10⟩
      clear q0 q1 q2 q3 q4 q5 q6 q7
      have RW_20 := hid (RW_15.out.on hb10)
      clear RW_15
      have RTa_21 := hid (RTa_16.out.on hb10)
      clear RTa_16
      have RTb_22 := hid (RTb_17.out.on hb10)
      clear RTb_17
      have X2_23 := hid (X2_18.out.below hb10 (X2_18.out.lt (by simp)))
      clear X2_18
      have XX_24 := hid (XX_19.out.below hb10 (XX_19.out.lt (by simp)))
      clear XX_19
      have XY_25 := hid (XY.out.below hb10 (XY.out.lt (by simp)))
      clear XY
      have k10 := k9.trans (hb10.mono k9.size)
      clear k9
      have RX := hid (own_rd ho10)
      clear ho10 hb10 C3
      obtain ⟨⟨q0, q1, q2, q3, q4, q5, q6, q7⟩, _⟩ := X2_23.out.eight
      go_wp2_with fail
      refine (C4.out w10 (HS.out.on k10)).mono ?_
      rintro _ w11 ⟨A11, c11, rfl, ho11, hb11⟩
      clear q0 q1 q2 q3 q4 q5 q6 q7
      have RW_26 := hid (RW_20.out.on hb11)
      clear RW_20
      have RX_27 := hid (RX.out.on hb11)
      clear RX
      have RTa_28 := hid (RTa_21.out.on hb11)
      clear RTa_21
      have RTb_29 := hid (RTb_22.out.on hb11)
      clear RTb_22
      have X2_30 := hid (X2_23.out.below hb11 (X2_23.out.lt (by simp)))
      clear X2_23
      have XX_31 := hid (XX_24.out.below hb11 (XX_24.out.lt (by simp)))
      clear XX_24
      have XY_32 := hid (XY_25.out.below hb11 (XY_25.out.lt (by simp)))
      clear XY_25
      have k11 := k10.trans (hb11.mono k10.size)
      clear k10
      have RY := hid (own_rd ho11)
      clear ho11 hb11 C4
      go_wp2_with fail
      refine region_ten (C := Below w11.heap.size w11) (by kernel_rfl) (by kernel_rfl) (belowN _ _ 1) ?_
      go_big_quiet_want
      go_big_quiet_op
      first | go_big_quiet_on | (refine ⟨_, fun _ _ => rfl, ?_⟩; go_big_quiet_on)
      go_big_quiet_want
      go_big_quiet_op
      first | go_big_quiet_on | (refine ⟨_, fun _ _ => rfl, ?_⟩; go_big_quiet_on)
      go_big_quiet_want
      go_big_quiet_op
      first | go_big_quiet_on | (refine ⟨_, fun _ _ => rfl, ?_⟩; go_big_quiet_on)
      go_big_quiet_want
      go_big_quiet_op
      first | go_big_quiet_on | (refine ⟨_, fun _ _ => rfl, ?_⟩; go_big_quiet_on)
      go_big_quiet_want
      go_big_quiet_op
      first | go_big_quiet_on | (refine ⟨_, fun _ _ => rfl, ?_⟩; go_big_quiet_on)
      go_big_quiet_want
      go_big_quiet_op
      first | go_big_quiet_on | (refine ⟨_, fun _ _ => rfl, ?_⟩; go_big_quiet_on)
      go_big_quiet_want
      go_big_quiet_op
      first | go_big_quiet_on | (refine ⟨_, fun _ _ => rfl, ?_⟩; go_big_quiet_on)
      go_big_quiet_want
      go_big_quiet_op
      first | go_big_quiet_on | (refine ⟨_, fun _ _ => rfl, ?_⟩; go_big_quiet_on)
      go_big_quiet_want
      go_big_quiet_op
      first | go_big_quiet_on | (refine ⟨_, fun _ _ => rfl, ?_⟩; go_big_quiet_on)
      go_big_quiet_want
      go_big_quiet_op
      first | go_big_quiet_on | (refine ⟨_, fun _ _ => rfl, ?_⟩; go_big_quiet_on)
      go_big_quiet_want
      go_big_quiet_op
      first | go_big_quiet_on | (refine ⟨_, fun _ _ => rfl, ?_⟩; go_big_quiet_on)
      go_big_quiet_want
      go_big_quiet_op
      first | go_big_quiet_on | (refine ⟨_, fun _ _ => rfl, ?_⟩; go_big_quiet_on)
      go_big_quiet_want
      refine ⟨.agg #[.int .i64 T.sch, .int .i64 T.dim, .slice none T.L.length 0, .slice none T.V.length 0, .int .i64 T.scale, .int .i64 T.wide, .slice none T.lev.length 0, .slice A6 T.neg.length c6], fun W hW => ?_, ?_⟩
      · obtain ⟨⟨q0, q1, q2, q3, q4, q5, q6, q7⟩, _⟩ := (XX_31.out.below hW (XX_31.out.lt (by simp))).eight
        go_simp
      simp only [Act.put, List.setIfInBounds_toArray, List.set_cons_zero, List.set_cons_succ]
      go_big_quiet_on
      go_big_quiet_want
      refine ⟨.agg #[.int .i64 T.sch, .int .i64 T.dim, .slice none T.L.length 0, .slice none T.V.length 0, .int .i64 T.scale, .int .i64 T.wide, .slice none T.lev.length 0, .slice A8 T.neg.length c8], fun W hW => ?_, ?_⟩
      · obtain ⟨⟨q0, q1, q2, q3, q4, q5, q6, q7⟩, _⟩ := (XY_32.out.below hW (XY_32.out.lt (by simp))).eight
        go_simp
      simp only [Act.put, List.setIfInBounds_toArray, List.set_cons_zero, List.set_cons_succ]
      go_big_quiet_on
      go_big_quiet_want
      go_big_quiet_op
      go_big_quiet_call ((intro hW; refine (C13.out _ _ _ _ _ (RTa_28.out.on hW) (RTb_29.out.on hW)).mono ?_; rintro _ w' ⟨rfl, hb⟩; exact ⟨rfl, hW.trans (hb.mono hW.size)⟩))
      go_big_quiet_want
      go_big_quiet_op
      first | go_big_quiet_on | (refine ⟨_, fun _ _ => rfl, ?_⟩; go_big_quiet_on)
      go_big_quiet_want
      go_big_quiet_op
      first | go_big_quiet_on | (refine ⟨_, fun _ _ => rfl, ?_⟩; go_big_quiet_on)
      go_big_quiet_want
      go_big_quiet_op
      first | go_big_quiet_on | (refine ⟨_, fun _ _ => rfl, ?_⟩; go_big_quiet_on)
      go_big_quiet_want
      go_big_quiet_op
      first | go_big_quiet_on | (refine ⟨_, fun _ _ => rfl, ?_⟩; go_big_quiet_on)
      go_big_quiet_want
      go_big_quiet_op
      first | go_big_quiet_on | (refine ⟨_, fun _ _ => rfl, ?_⟩; go_big_quiet_on)
      go_big_quiet_want
      go_big_quiet_op
      first | go_big_quiet_on | (refine ⟨_, fun _ _ => rfl, ?_⟩; go_big_quiet_on)
      go_big_quiet_want
      go_big_quiet_op
      first | go_big_quiet_on | (refine ⟨_, fun _ _ => rfl, ?_⟩; go_big_quiet_on)
      go_big_quiet_want
      go_big_quiet_op
      first | go_big_quiet_on | (refine ⟨_, fun _ _ => rfl, ?_⟩; go_big_quiet_on)
      go_big_quiet_want
      go_big_quiet_op
      first | go_big_quiet_on | (refine ⟨_, fun _ _ => rfl, ?_⟩; go_big_quiet_on)
      go_big_quiet_want
      go_big_quiet_op
      go_big_quiet_call ((intro hW; refine (CQx.out _ _ _ _ _ (RX_27.out.on hW) (RY.out.on hW)).mono ?_; rintro _ w' ⟨rfl, hb⟩; exact ⟨rfl, hW.trans (hb.mono hW.size)⟩))
      go_big_quiet_want
      go_big_quiet_op
      first | go_big_quiet_on | (refine ⟨_, fun _ _ => rfl, ?_⟩; go_big_quiet_on)
      go_big_quiet_want
      go_big_quiet_op
      first | go_big_quiet_on | (refine ⟨_, fun _ _ => rfl, ?_⟩; go_big_quiet_on)
      go_big_quiet_want
      go_big_quiet_op
      first | go_big_quiet_on | (refine ⟨_, fun _ _ => rfl, ?_⟩; go_big_quiet_on)
      go_big_quiet_want
      go_big_quiet_op
      first | go_big_quiet_on | (refine ⟨_, fun _ _ => rfl, ?_⟩; go_big_quiet_on)
      go_big_quiet_want
      go_big_quiet_op
      first | go_big_quiet_on | (refine ⟨_, fun _ _ => rfl, ?_⟩; go_big_quiet_on)
      go_big_quiet_want
      go_big_quiet_op
      first | go_big_quiet_on | (refine ⟨_, fun _ _ => rfl, ?_⟩; go_big_quiet_on)
      go_big_quiet_want
      go_big_quiet_op
      first | go_big_quiet_on | (refine ⟨_, fun _ _ => rfl, ?_⟩; go_big_quiet_on)
      go_big_quiet_want
      go_big_quiet_op
      first | go_big_quiet_on | (refine ⟨_, fun _ _ => rfl, ?_⟩; go_big_quiet_on)
      go_big_quiet_want
      refine ⟨.agg #[.int .i64 s.sch, .int .i64 s.dim, .slice ps.AL s.L.length ps.cL, .slice ps.AV s.V.length ps.cV, .int .i64 s.scale, .int .i64 s.wide, .slice ps.AE s.lev.length ps.cE, .slice ps.AN s.neg.length ps.cN], fun W hW => ?_, ?_⟩
      · obtain ⟨⟨q0, q1, q2, q3, q4, q5, q6, q7⟩, _⟩ := (X2_30.out.below hW (X2_30.out.lt (by simp))).eight
        go_simp
      simp only [Act.put, List.setIfInBounds_toArray, List.set_cons_zero, List.set_cons_succ]
      go_big_quiet_on
      go_big_quiet_want
      go_big_quiet_op
      go_big_quiet_call ((intro hW; refine (C9.out _ (HV.out.on (k11.trans (hW.mono k11.size))) (HS.out.on (k11.trans (hW.mono k11.size)))).mono ?_; rintro _ w' ⟨rfl, hb⟩; exact ⟨rfl, hW.trans (hb.mono hW.size)⟩))
      go_big_quiet_want
      go_big_quiet_op
      first | go_big_quiet_on | (refine ⟨_, fun _ _ => rfl, ?_⟩; go_big_quiet_on)
      go_big_quiet_want
      refine ⟨.agg #[.int .i64 s.sch, .int .i64 s.dim, .slice ps.AL s.L.length ps.cL, .slice ps.AV s.V.length ps.cV, .int .i64 s.scale, .int .i64 s.wide, .slice ps.AE s.lev.length ps.cE, .slice ps.AN s.neg.length ps.cN], fun W hW => ?_, ?_⟩
      · obtain ⟨⟨q0, q1, q2, q3, q4, q5, q6, q7⟩, _⟩ := (X2_30.out.below hW (X2_30.out.lt (by simp))).eight
        go_simp
      simp only [Act.put, List.setIfInBounds_toArray, List.set_cons_zero, List.set_cons_succ]
      go_big_quiet_on
      go_big_quiet_want
      go_big_quiet_op
      go_big_quiet_call ((intro hW; refine (C10.out _ (HV.out.on (k11.trans (hW.mono k11.size))) (HS.out.on (k11.trans (hW.mono k11.size)))).mono ?_; rintro _ w' ⟨rfl, hb⟩; exact ⟨rfl, hW.trans (hb.mono hW.size)⟩))
      go_big_quiet_want
      go_big_quiet_op
      first | go_big_quiet_on | (refine ⟨_, fun _ _ => rfl, ?_⟩; go_big_quiet_on)
      go_big_quiet_want
      go_big_quiet_op
      first | go_big_quiet_on | (refine ⟨_, fun _ _ => rfl, ?_⟩; go_big_quiet_on)
      go_big_quiet_want
      go_big_quiet_op
      first | go_big_quiet_on | (refine ⟨_, fun _ _ => rfl, ?_⟩; go_big_quiet_on)
      go_big_quiet_want
      go_big_quiet_op
      first | go_big_quiet_on | (refine ⟨_, fun _ _ => rfl, ?_⟩; go_big_quiet_on)
      go_big_quiet_want
      refine ⟨.agg #[.int .i64 T.sch, .int .i64 T.dim, .slice none T.L.length 0, .slice none T.V.length 0, .int .i64 T.scale, .int .i64 T.wide, .slice none T.lev.length 0, .slice A6 T.neg.length c6], fun W hW => ?_, ?_⟩
      · obtain ⟨⟨q0, q1, q2, q3, q4, q5, q6, q7⟩, _⟩ := (XX_31.out.below hW (XX_31.out.lt (by simp))).eight
        go_simp
      simp only [Act.put, List.setIfInBounds_toArray, List.set_cons_zero, List.set_cons_succ]
      go_big_quiet_on
      go_big_quiet_want
      go_big_quiet_op
      go_big_quiet_call ((intro hW; refine (C11.out _ _ _ (HV.out.on (k11.trans (hW.mono k11.size))) (RTa_28.out.on hW)).mono ?_; rintro _ w' ⟨rfl, hb⟩; exact ⟨rfl, hW.trans (hb.mono hW.size)⟩))
      go_big_quiet_want
      go_big_quiet_op
      first | go_big_quiet_on | (refine ⟨_, fun _ _ => rfl, ?_⟩; go_big_quiet_on)
      go_big_quiet_want
      refine ⟨.agg #[.int .i64 T.sch, .int .i64 T.dim, .slice none T.L.length 0, .slice none T.V.length 0, .int .i64 T.scale, .int .i64 T.wide, .slice none T.lev.length 0, .slice A8 T.neg.length c8], fun W hW => ?_, ?_⟩
      · obtain ⟨⟨q0, q1, q2, q3, q4, q5, q6, q7⟩, _⟩ := (XY_32.out.below hW (XY_32.out.lt (by simp))).eight
        go_simp
      simp only [Act.put, List.setIfInBounds_toArray, List.set_cons_zero, List.set_cons_succ]
      go_big_quiet_on
      go_big_quiet_want
      go_big_quiet_op
      go_big_quiet_call ((intro hW; refine (C12.out _ _ _ (HV.out.on (k11.trans (hW.mono k11.size))) (RTb_29.out.on hW)).mono ?_; rintro _ w' ⟨rfl, hb⟩; exact ⟨rfl, hW.trans (hb.mono hW.size)⟩))
      go_big_quiet_want
      go_big_quiet_op
      first | go_big_quiet_on | (refine ⟨_, fun _ _ => rfl, ?_⟩; go_big_quiet_on)
      go_big_quiet_want
      go_big_quiet_op
      first | go_big_quiet_on | (refine ⟨_, fun _ _ => rfl, ?_⟩; go_big_quiet_on)
      go_big_quiet_want
      go_big_quiet_op
      first | go_big_quiet_on | (refine ⟨_, fun _ _ => rfl, ?_⟩; go_big_quiet_on)
      go_big_quiet_want
      go_big_quiet_op
      first | go_big_quiet_on | (refine ⟨_, fun _ _ => rfl, ?_⟩; go_big_quiet_on)
      go_big_quiet_want
      go_big_quiet_op
      first | go_big_quiet_on | (refine ⟨_, fun _ _ => rfl, ?_⟩; go_big_quiet_on)
      go_big_quiet_want
      go_big_quiet_op
      go_big_quiet_call ((intro hW; refine (CQv.out _ _ _ _ _ (HV.out.on (k11.trans (hW.mono k11.size))) (RW_26.out.on hW)).mono ?_; rintro _ w' ⟨rfl, hb⟩; exact ⟨rfl, hW.trans (hb.mono hW.size)⟩))
      go_big_quiet_want
      go_big_quiet_op
      first | go_big_quiet_on | (refine ⟨_, fun _ _ => rfl, ?_⟩; go_big_quiet_on)
      go_big_quiet_want
      go_big_quiet_op
      first | go_big_quiet_on | (refine ⟨_, fun _ _ => rfl, ?_⟩; go_big_quiet_on)
      refine wpQuiet_nil ?_
      intro w12 hb12
      have k12 := k11.trans (hb12.mono k11.size)
      go_wp2_with fail
      go_ret
      exact ⟨rfl, k12⟩
  · rw [Bool.eq_false_iff.2 hf] at CF
    clear hf rv uv rs ws cs
    go_enter Try.func3, Try.ntmps3
    go_wp2_with fail
    refine (sg_live _).mono ?_
    rintro _ w1 ⟨rfl, hb1⟩
    have k1 : Below w.heap.size w w1 := Below.trans (by go_grown) (hb1.mono (by simp))
    have X1 := hid (HBX.out.below hb1 (by simp))
    clear hb1 HBX
    go_wp2_with fail
    refine (CF.out w1).mono ?_
    rintro _ _ ⟨rfl, rfl⟩
    clear CF
    go_wp2_with fail
    go_ret
    exact ⟨rfl, k1⟩
theorem law_types : ∀ t ∈ Try.f3.params.toList, Try.prog.readableRec t = true ∧ t < Try.prog.types.size := by
  have h : (Try.f3.params.toList.all fun t => Try.prog.readableRec t && decide (t < Try.prog.types.size)) = true := by kernel_rfl
  intro t ht
  simpa using List.all_eq_true.1 h t ht
set_option maxRecDepth 100000 in
theorem lifted (os : Os) (started : os.Started) (H : Type) (enc : TypeId × Value → H) :
    ReturnsInHanded {} Try.checked os 3 .any (Rows.signPressesSpec.pre6 enc Try.prog Try.f3 Rows.signPressesRow.domain false) (Rows.signPressesSpec.post enc Try.prog Try.f3 false true false false) := by
  refine returnsInHanded_of_change (C := Try.checked) own started (by kernel_rfl) Try.func3
    (ChangeSpec.witness6 (enc := enc) (C := Try.checked) false ⟨#[], #[.slice none 0 0, .agg #[.int .i64 0, .int .i64 0, .slice none 0 0, .slice none 0 0, .int .i64 0, .int .i64 0, .slice none 0 0, .slice none 0 0]], []⟩ 8 (by kernel_rfl) (by kernel_rfl) (by kernel_rfl) (by kernel_rfl)) ?_
  intro W base args ds gs before hval0 hW hcnd _
  have hval : ∀ (j : Nat) t v, Try.f3.params[j]? = some t → args[j]? = some v → Value.okWide Try.prog W .any base t v := hval0
  have hW' := hW
  obtain ⟨p, q, hA0, hV, rfl, hfz, hnd⟩ := hW
  have hA : DataW.TrodAll enc Try.prog W 0 (fun _ => true) true Try.f3.params.toList args.toList ds p := hA0
  rw [Try.params3] at hA hval
  obtain ⟨v0, vs0, d0, ds0, p0, q0, hargs, rfl, rfl, h0, r0⟩ := trodAll_cons hA
  obtain ⟨v1, vs1, d1, ds1, p1, q1, rfl, rfl, rfl, h1, r1⟩ := trodAll_cons r0
  obtain ⟨rfl, rfl, rfl⟩ := trodAll_nil r1
  obtain rfl : args = #[v0, v1] := by cases args; simp_all
  obtain ⟨rfl, rfl⟩ := trodVars_none hV
  obtain ⟨Av, v, cv, rfl, rdv, iv, lcv, lmv⟩ := open_nums Try.underlying22 Try.underlying2 cells_i64' (hval 0 22 v0 rfl rfl) h0
  obtain ⟨s, ps, rfl, rds, wfs, cps⟩ := open_sent (hval 1 27 v1 rfl rfl) h1
  clear hA0 hval0
  refine (walk Av v cv s ps W rdv (fun x hx => I64.of_wf (iv x hx)) lcv lmv rds wfs cps).mono fun e W' ⟨he, hb⟩ => ?_
  subst he
  exact ⟨_, rfl, law_post laid (fun t ht => law_types t ht) rfl hW' ⟨rfl, rfl, rfl⟩ (by kernel_rfl) Try.underlying4 hb⟩

theorem over : Rows.signPressesRow.holds Try.pinned (OpenSpec.ofChange Rows.signPressesSpec) :=
  OpenClaim.holds_of_wide 3 Try.f3 rfl rfl rfl rfl rfl rfl rfl ⟨rfl, rfl, rfl, rfl, rfl⟩ rfl rfl rfl rfl rfl (by kernel_rfl) Try.func3 (by kernel_rfl)
    (of_decide_eq_true (by kernel_rfl)) (by unfold Func.isWrapper; first | (rw [if_pos (by decide +kernel)]; kernel_rfl) | (rw [if_neg (by decide +kernel)]; exact ⟨rfl, rfl⟩))
    (fun os started H enc _ => lifted os started H enc)

theorem proved : Rows.SignPressesSaid := over
end Go.Proofs.Ytkcckncglbjjdaa.SignPresses
