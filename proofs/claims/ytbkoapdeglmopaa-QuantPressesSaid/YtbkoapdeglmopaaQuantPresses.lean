
/-
  QuantPresses answers true for every input. No condition.
-/
import Derived.Test.YtbkoapdeglmopaaJg
import Derived.Test.YtbkoapdeglmopaaJf
import Derived.Test.YtbkoapdeglmopaaJd
namespace Go.Proofs.Ytbkoapdeglmopaa.QuantPresses
open Go.ChangeShapes Go.WideShapes Go.ChangeAt Go.RowKit
set_option maxHeartbeats 400000
set_option linter.unusedVariables false
open Go.Proofs.Ytbkoapdeglmopaa
set_option maxRecDepth 100000 in
/-- A region that draws, walked once, in a class of worlds of one's own. -/
theorem region_ten {P : Program} {C : World → Prop} {id : Nat} {Q : Exit → Act → World → Prop} {a : Act} {w : World} {l : List Oper} (hm : P.follows .mixedOrders = true) (hB : Region.lexB .any l.toArray = true) (hC : C w.drew)
    (h : wpQuiet P l.toArray C (fun a' => ∀ w', C w' → Q .normal a' w') l a) : (Code.region id l.toArray true).wp P Q a w :=
  wp_region_quiet hm hB hC (by simpa using h)
theorem OwnSl.rd {base : Nat} {s : SentV} {w' : World} {A A' : Option Addr} {c c' : Nat} (h1 : s.L = []) (h2 : s.V = []) (o1 : w'.ownsRow base 22 1 (.slice A s.lev.length c) s.lev.length (s.lev.map (Value.int .u64))) (o2 : w'.ownsRow base 4 1 (.slice A' s.neg.length c') s.neg.length (s.neg.map Value.bool)) :
    RdS w' w'.heap.size s ⟨none, 0, none, 0, A, c, A', c'⟩ := ⟨by rw [h1]; exact Rd.none_, by rw [h2]; exact Rd.none_, own_rd o1, own_rd o2⟩
/-- A list is found the same as itself. -/
theorem same_self {X : List Int} (hX : X.length ≤ 9223372036854775807) {A B : Option Addr} {c d : Nat} (W : World) (ra : Rd (Value.int .i64) W W.heap.size A X) (rb : Rd (Value.int .i64) W W.heap.size B X) :
    Calls Try.prog 23 #[.slice A X.length c, .slice B X.length d] W fun e w' => e = .returned (.bool true) ∧ Below W.heap.size W w' := by
  have h := rSame_any (A := A) (B := B) (c := c) (d := d) X X hX hX W ra rb
  rw [eqB_self] at h
  exact h
set_option maxHeartbeats 8000000 in
set_option maxRecDepth 100000 in
theorem walk (Av : Option Addr) (v : List Int) (cv : Nat) (wide seed : Int) (Al : Option Addr) (l : List Int) (cl : Nat) (s : SentV) (ps : SentP) (w : World) (rv : Rd (Value.int .i64) w w.heap.size Av v) (uv : I64s v) (lv : v.length ≤ cv) (mv : cv ≤ 9223372036854775807) (hw : I64 wide) (hsd : U64 seed)
    (rl : Rd (Value.int .i64) w w.heap.size Al l) (ul : I64s l) (ll : l.length ≤ cl) (ml : cl ≤ 9223372036854775807) (rs : RdS w w.heap.size s ps) (ws : wfS s) (cs : capS s ps) :
    Calls Try.prog 4 #[.slice Av v.length cv, .int .i64 wide, .int .u64 seed, .slice Al l.length cl, encT s ps] w fun e w' => e = .returned (.bool true) ∧ Below w.heap.size w w' := by
  have HV := hid rv
  have HL := hid rl
  have HS := hid rs
  obtain ⟨sd, rfl⟩ := Int.eq_ofNat_of_zero_le hsd.1
  have hs2 : sd < 2 ^ 64 := by have := hsd.2; omega
  have hv : v.length ≤ 9223372036854775807 := by omega
  have hll : l.length ≤ 9223372036854775807 := by omega
  have CF := hid (fun W => qu_few (A := Av) (c := cv) (B := Al) (d := cl) v l hv hll W)
  have CB := hid (fun W => (show Calls Try.prog 17 #[.agg #[.int .i64 s.sch, .int .i64 s.dim, .slice ps.AL s.L.length ps.cL, .slice ps.AV s.V.length ps.cV, .int .i64 s.scale, .int .i64 s.wide, .slice ps.AE s.lev.length ps.cE, .slice ps.AN s.neg.length ps.cN]] W fun e w' => e = .returned (.bool (bigS s)) ∧ Below W.heap.size W w' by exact ref_Big s ps W))
  have HBX : Hid (BoxL (w.alloc (.cells #[.int .i64 s.sch, .int .i64 s.dim, .slice ps.AL s.L.length ps.cL, .slice ps.AV s.V.length ps.cV, .int .i64 s.scale, .int .i64 s.wide, .slice ps.AE s.lev.length ps.cE, .slice ps.AN s.neg.length ps.cN] 37)) w.heap.size [.int .i64 s.sch, .int .i64 s.dim, .slice ps.AL s.L.length ps.cL, .slice ps.AV s.V.length ps.cV, .int .i64 s.scale, .int .i64 s.wide, .slice ps.AE s.lev.length ps.cE, .slice ps.AN s.neg.length ps.cN]) := hid (BoxL.new w [.int .i64 s.sch, .int .i64 s.dim, .slice ps.AL s.L.length ps.cL, .slice ps.AV s.V.length ps.cV, .int .i64 s.scale, .int .i64 s.wide, .slice ps.AE s.lev.length ps.cE, .slice ps.AN s.neg.length ps.cN] 37)
  by_cases hf : fewU v l = true
  · rw [hf] at CF
    by_cases hbig : bigS s = true
    · rw [hbig] at CB
      clear hf hbig rv uv rs ws cs rl ul hw hsd
      go_enter Try.func4, Try.ntmps4
      go_wp2_with fail
      refine (qu_live _).mono ?_
      rintro _ w1 ⟨rfl, hb1⟩
      have k1 : Below w.heap.size w w1 := Below.trans (by go_grown) (hb1.mono (by simp))
      have X1 := hid (HBX.out.below hb1 (by simp))
      clear hb1 HBX
      go_wp2_with fail
      refine (CF.out w1).mono ?_
      rintro _ _ ⟨rfl, rfl⟩
      clear CF
      obtain ⟨⟨q0, q1, q2, q3, q4, q5, q6, q7⟩, _⟩ := X1.out.eight
      go_wp2_with fail
      refine (CB.out _).mono ?_
      rintro _ w2 ⟨rfl, hb2⟩
      have k2 := k1.trans (hb2.mono k1.size)
      have X2 := hid (X1.out.below hb2 (X1.out.lt (by simp)))
      clear hb2 X1 CB k1 q0 q1 q2 q3 q4 q5 q6 q7
      go_wp2_with fail
      go_ret
      exact ⟨rfl, k2⟩
    · have hb : bigS s = false := Bool.eq_false_iff.2 hbig
      rw [hb] at CB
      clear hbig
      have h5 : v.length ≤ 5000 ∧ l.length ≤ 50 := by
        unfold fewU at hf
        have := of_decide_eq_true hf
        omega
      have hln := (big_ln hb).more (show 500 ≤ 5000 by decide)
      have C1 := hid (fun W (h : Rd (Value.int .i64) W W.heap.size Av v) (h2 : Rd (Value.int .i64) W W.heap.size Al l) => qp_Press (A := Av) (B := Al) (c := cv) (d := cl) v uv hv wide hw sd hs2 l ul (by omega) W h h2)
      have C2 := hid (fun W (h : Rd (Value.int .i64) W W.heap.size Av v) (h2 : Rd (Value.int .i64) W W.heap.size Al l) => ref_Press10 (A := Av) (B := Al) (c := cv) (d := cl) v uv hv wide hw sd hs2 l ul (by omega) W h h2)
      have C3 := hid (fun W (h : RdS W W.heap.size s ps) => (show Calls Try.prog 20 #[.agg #[.int .i64 s.sch, .int .i64 s.dim, .slice ps.AL s.L.length ps.cL, .slice ps.AV s.V.length ps.cV, .int .i64 s.scale, .int .i64 s.wide, .slice ps.AE s.lev.length ps.cE, .slice ps.AN s.neg.length ps.cN]] W (OwnE 2 .i64 W.heap.size (loqV s) (loqE s) W) by exact qp_Loosen s ps (hln.more (by decide)) ws W h))
      have C4 := hid (fun W (h : RdS W W.heap.size s ps) => (show Calls Try.prog 21 #[.agg #[.int .i64 s.sch, .int .i64 s.dim, .slice ps.AL s.L.length ps.cL, .slice ps.AV s.V.length ps.cV, .int .i64 s.scale, .int .i64 s.wide, .slice ps.AE s.lev.length ps.cE, .slice ps.AN s.neg.length ps.cN]] W (OwnE 2 .i64 W.heap.size (loqV s) (loqE s) W) by exact ref_Loosen10 s ps (hln.more (by decide)) ws W h))
      have C9 := hid (fun W (h1 : Rd (Value.int .i64) W W.heap.size Av v) (h2 : RdS W W.heap.size s ps) => (show Calls Try.prog 24 #[.slice Av v.length cv, .agg #[.int .i64 s.sch, .int .i64 s.dim, .slice ps.AL s.L.length ps.cL, .slice ps.AV s.V.length ps.cV, .int .i64 s.scale, .int .i64 s.wide, .slice ps.AE s.lev.length ps.cE, .slice ps.AN s.neg.length ps.cN]] W fun e w' => e = .returned (.bool (nearB v s)) ∧ Below W.heap.size W w' by exact qp_Near (c := cv) v uv hv s ps (hln.more (by decide)) ws W h1 h2))
      have C10 := hid (fun W (h1 : Rd (Value.int .i64) W W.heap.size Av v) (h2 : RdS W W.heap.size s ps) => (show Calls Try.prog 25 #[.slice Av v.length cv, .agg #[.int .i64 s.sch, .int .i64 s.dim, .slice ps.AL s.L.length ps.cL, .slice ps.AV s.V.length ps.cV, .int .i64 s.scale, .int .i64 s.wide, .slice ps.AE s.lev.length ps.cE, .slice ps.AN s.neg.length ps.cN]] W fun e w' => e = .returned (.bool (nearB v s)) ∧ Below W.heap.size W w' by exact ref_Near10 (c := cv) v uv hv s ps (hln.more (by decide)) ws W h1 h2))
      have hT := prqS_ln (v := v) (wide := wide) (s := sd) (n := l)
      have hTw := prqS_wf (v := v) (s := sd) (n := l) hw
      obtain ⟨T, e5⟩ : ∃ x, prqS v wide sd l = x := ⟨_, rfl⟩
      obtain ⟨et, e6⟩ : ∃ x, prqE v wide = x := ⟨_, rfl⟩
      rw [e5, e6] at C1 C2
      rw [e5] at hT hTw
      have C5 := hid (fun A1 A2 c1 c2 W (h : RdS W W.heap.size T ⟨none, 0, none, 0, A1, c1, A2, c2⟩) => (show Calls Try.prog 20 #[.agg #[.int .i64 T.sch, .int .i64 T.dim, .slice none T.L.length 0, .slice none T.V.length 0, .int .i64 T.scale, .int .i64 T.wide, .slice A1 T.lev.length c1, .slice A2 T.neg.length c2]] W (OwnE 2 .i64 W.heap.size (loqV T) (loqE T) W) by exact qp_Loosen T ⟨none, 0, none, 0, A1, c1, A2, c2⟩ (hT.more (by decide)) hTw W h))
      have C6 := hid (fun A1 A2 c1 c2 W (h : RdS W W.heap.size T ⟨none, 0, none, 0, A1, c1, A2, c2⟩) => (show Calls Try.prog 21 #[.agg #[.int .i64 T.sch, .int .i64 T.dim, .slice none T.L.length 0, .slice none T.V.length 0, .int .i64 T.scale, .int .i64 T.wide, .slice A1 T.lev.length c1, .slice A2 T.neg.length c2]] W (OwnE 2 .i64 W.heap.size (loqV T) (loqE T) W) by exact ref_Loosen10 T ⟨none, 0, none, 0, A1, c1, A2, c2⟩ (hT.more (by decide)) hTw W h))
      have C11 := hid (fun A1 A2 c1 c2 W (h1 : Rd (Value.int .i64) W W.heap.size Av v) (h : RdS W W.heap.size T ⟨none, 0, none, 0, A1, c1, A2, c2⟩) => (show Calls Try.prog 24 #[.slice Av v.length cv, .agg #[.int .i64 T.sch, .int .i64 T.dim, .slice none T.L.length 0, .slice none T.V.length 0, .int .i64 T.scale, .int .i64 T.wide, .slice A1 T.lev.length c1, .slice A2 T.neg.length c2]] W fun e w' => e = .returned (.bool (nearB v T)) ∧ Below W.heap.size W w' by exact qp_Near (c := cv) v uv hv T ⟨none, 0, none, 0, A1, c1, A2, c2⟩ (hT.more (by decide)) hTw W h1 h))
      have C12 := hid (fun A1 A2 c1 c2 W (h1 : Rd (Value.int .i64) W W.heap.size Av v) (h : RdS W W.heap.size T ⟨none, 0, none, 0, A1, c1, A2, c2⟩) => (show Calls Try.prog 25 #[.slice Av v.length cv, .agg #[.int .i64 T.sch, .int .i64 T.dim, .slice none T.L.length 0, .slice none T.V.length 0, .int .i64 T.scale, .int .i64 T.wide, .slice A1 T.lev.length c1, .slice A2 T.neg.length c2]] W fun e w' => e = .returned (.bool (nearB v T)) ∧ Below W.heap.size W w' by exact ref_Near10 (c := cv) v uv hv T ⟨none, 0, none, 0, A1, c1, A2, c2⟩ (hT.more (by decide)) hTw W h1 h))
      have C13 := hid (fun A1 A2 B1 B2 c1 c2 d1 d2 W (h1 : RdS W W.heap.size T ⟨none, 0, none, 0, A1, c1, A2, c2⟩) (h2 : RdS W W.heap.size T ⟨none, 0, none, 0, B1, d1, B2, d2⟩) => (show Calls Try.prog 22 #[.agg #[.int .i64 T.sch, .int .i64 T.dim, .slice none T.L.length 0, .slice none T.V.length 0, .int .i64 T.scale, .int .i64 T.wide, .slice A1 T.lev.length c1, .slice A2 T.neg.length c2], .agg #[.int .i64 T.sch, .int .i64 T.dim, .slice none T.L.length 0, .slice none T.V.length 0, .int .i64 T.scale, .int .i64 T.wide, .slice B1 T.lev.length d1, .slice B2 T.neg.length d2]] W fun e w' => e = .returned (.bool (sameS T T)) ∧ Below W.heap.size W w' by exact ref_SameSent T T ⟨none, 0, none, 0, A1, c1, A2, c2⟩ ⟨none, 0, none, 0, B1, d1, B2, d2⟩ (hT.more (by decide)) (hT.more (by decide)) W (Nat.le_refl _) (Nat.le_refl _) h1 h2))
      rw [sameS_iff.2 rfl] at C13
      have n1 : (loqV s).length ≤ 9223372036854775807 := by
        unfold loqV
        split
        · rw [loqL_len]; have := hln.2.2.1; omega
        · simp
      have n2 : (loqV T).length ≤ 9223372036854775807 := by
        unfold loqV
        split
        · rw [loqL_len]; have := hT.2.2.1; omega
        · simp
      obtain ⟨x, e1⟩ : ∃ x, loqV s = x := ⟨_, rfl⟩
      obtain ⟨ex, e2⟩ : ∃ x, loqE s = x := ⟨_, rfl⟩
      obtain ⟨y, e3⟩ : ∃ x, loqV T = x := ⟨_, rfl⟩
      obtain ⟨ey, e4⟩ : ∃ x, loqE T = x := ⟨_, rfl⟩
      obtain ⟨ns, e7⟩ : ∃ x, nearB v s = x := ⟨_, rfl⟩
      obtain ⟨nt, e8⟩ : ∃ x, nearB v T = x := ⟨_, rfl⟩
      rw [e1, e2] at C3 C4
      rw [e3, e4] at C5 C6
      rw [e7] at C9 C10
      rw [e8] at C11 C12
      rw [e1] at n1
      rw [e3] at n2
      have CQx := hid (fun (A B : Option Addr) (cc d : Nat) (W : World) (h1 : Rd (Value.int .i64) W W.heap.size A x) (h2 : Rd (Value.int .i64) W W.heap.size B x) => same_self (X := x) n1 (A := A) (B := B) (c := cc) (d := d) W h1 h2)
      have CQy := hid (fun (A B : Option Addr) (cc d : Nat) (W : World) (h1 : Rd (Value.int .i64) W W.heap.size A y) (h2 : Rd (Value.int .i64) W W.heap.size B y) => same_self (X := y) n2 (A := A) (B := B) (c := cc) (d := d) W h1 h2)
      have CQv := hid (fun (A B : Option Addr) (cc d : Nat) (W : World) (h1 : Rd (Value.int .i64) W W.heap.size A v) (h2 : Rd (Value.int .i64) W W.heap.size B v) => same_self (X := v) hv (A := A) (B := B) (c := cc) (d := d) W h1 h2)
      clear e1 e2 e3 e4 e5 e6 e7 e8 hT hTw hln rv uv rs ws cs rl ul hf hb hw hsd hs2
      go_enter Try.func4, Try.ntmps4
      go_wp2_with fail
      refine (qu_live _).mono ?_
      rintro _ w1 ⟨rfl, hb1⟩
      have k1 : Below w.heap.size w w1 := Below.trans (by go_grown) (hb1.mono (by simp))
      have X1 := hid (HBX.out.below hb1 (by simp))
      clear hb1 HBX
      go_wp2_with fail
      refine (CF.out w1).mono ?_
      rintro _ _ ⟨rfl, rfl⟩
      clear CF
      obtain ⟨⟨q0, q1, q2, q3, q4, q5, q6, q7⟩, _⟩ := X1.out.eight
      go_wp2_with fail
      refine (CB.out _).mono ?_
      rintro _ w2 ⟨rfl, hb2⟩
      have k2 := k1.trans (hb2.mono k1.size)
      have X2 := hid (X1.out.below hb2 (X1.out.lt (by simp)))
      clear hb2 X1 CB k1 q0 q1 q2 q3 q4 q5 q6 q7
      go_wp2_with (at_builtin; refine wpList_app (Value.int .i64) (fun _ => rfl) _ rfl _ _ 32 rfl w2.heap.size 2 (.int .i64 0) 8 Try.underlying32 info_i64 rfl [] none 0 rfl (own_nil _ _ _) v Av cv w2.heap.size rfl (HV.out.on k2) (by simp [maxLen]; omega) (by simp; omega) (Nat.le_refl _) ?_)
      rintro SS A3 c3 w3 hSS ho3 hb3 _
      obtain rfl : v = SS := hSS.symm
      have X2_1 := hid (X2.out.below hb3 (X2.out.lt (by simp)))
      clear X2
      have k3 := k2.trans (hb3.mono k2.size)
      clear k2
      have RW := hid (own_rd ho3)
      clear ho3 hb3
      go_wp2_with fail
      refine (C1.out w3 (HV.out.on k3) (HL.out.on k3)).mono ?_
      rintro _ w4 ⟨A4, c4, B4, d4, rfl, hL4, hV4, o1, o2, _, hb4⟩
      have RW_2 := hid (RW.out.on hb4)
      clear RW
      have X2_3 := hid (X2_1.out.below hb4 (X2_1.out.lt (by simp)))
      clear X2_1
      have k4 := k3.trans (hb4.mono k3.size)
      clear k3
      have RTa := hid (OwnSl.rd hL4 hV4 o1 o2)
      clear o1 o2 hb4 hL4 hV4 C1
      have g4 : Below w4.heap.size w4 (w4.alloc (.cells #[.int .i64 T.sch, .int .i64 T.dim, .slice none T.L.length 0, .slice none T.V.length 0, .int .i64 T.scale, .int .i64 T.wide, .slice A4 T.lev.length c4, .slice B4 T.neg.length d4] 37)) := qu_grow _ _
      have n4 : BoxL (w4.alloc (.cells #[.int .i64 T.sch, .int .i64 T.dim, .slice none T.L.length 0, .slice none T.V.length 0, .int .i64 T.scale, .int .i64 T.wide, .slice A4 T.lev.length c4, .slice B4 T.neg.length d4] 37)) w4.heap.size [.int .i64 T.sch, .int .i64 T.dim, .slice none T.L.length 0, .slice none T.V.length 0, .int .i64 T.scale, .int .i64 T.wide, .slice A4 T.lev.length c4, .slice B4 T.neg.length d4] := BoxL.new w4 [.int .i64 T.sch, .int .i64 T.dim, .slice none T.L.length 0, .slice none T.V.length 0, .int .i64 T.scale, .int .i64 T.wide, .slice A4 T.lev.length c4, .slice B4 T.neg.length d4] 37
      obtain ⟨w5, hw5⟩ : ∃ wn, (w4.alloc (.cells #[.int .i64 T.sch, .int .i64 T.dim, .slice none T.L.length 0, .slice none T.V.length 0, .int .i64 T.scale, .int .i64 T.wide, .slice A4 T.lev.length c4, .slice B4 T.neg.length d4] 37)) = wn := ⟨_, rfl⟩
      rw [hw5] at g4 n4
      go_upto_region 8 with fail
      try rw [hw5]
      clear hw5
      have RW_4 := hid (RW_2.out.on g4)
      clear RW_2
      have RTa_5 := hid (RTa.out.on g4)
      clear RTa
      have X2_6 := hid (X2_3.out.below g4 (X2_3.out.lt (by simp)))
      clear X2_3
      have k5 := k4.trans (g4.mono k4.size)
      clear k4
      have XX := hid n4
      clear n4 g4
      go_wp2_with fail
      refine (C2.out w5 (HV.out.on k5) (HL.out.on k5)).mono ?_
      rintro _ w6 ⟨A6, c6, B6, d6, rfl, hL6, hV6, o1, o2, _, hb6⟩
      have RW_7 := hid (RW_4.out.on hb6)
      clear RW_4
      have RTa_8 := hid (RTa_5.out.on hb6)
      clear RTa_5
      have X2_9 := hid (X2_6.out.below hb6 (X2_6.out.lt (by simp)))
      clear X2_6
      have XX_10 := hid (XX.out.below hb6 (XX.out.lt (by simp)))
      clear XX
      have k6 := k5.trans (hb6.mono k5.size)
      clear k5
      have RTb := hid (OwnSl.rd hL6 hV6 o1 o2)
      clear o1 o2 hb6 hL6 hV6 C2
      have g6 : Below w6.heap.size w6 (w6.alloc (.cells #[.int .i64 T.sch, .int .i64 T.dim, .slice none T.L.length 0, .slice none T.V.length 0, .int .i64 T.scale, .int .i64 T.wide, .slice A6 T.lev.length c6, .slice B6 T.neg.length d6] 37)) := qu_grow _ _
      have n6 : BoxL (w6.alloc (.cells #[.int .i64 T.sch, .int .i64 T.dim, .slice none T.L.length 0, .slice none T.V.length 0, .int .i64 T.scale, .int .i64 T.wide, .slice A6 T.lev.length c6, .slice B6 T.neg.length d6] 37)) w6.heap.size [.int .i64 T.sch, .int .i64 T.dim, .slice none T.L.length 0, .slice none T.V.length 0, .int .i64 T.scale, .int .i64 T.wide, .slice A6 T.lev.length c6, .slice B6 T.neg.length d6] := BoxL.new w6 [.int .i64 T.sch, .int .i64 T.dim, .slice none T.L.length 0, .slice none T.V.length 0, .int .i64 T.scale, .int .i64 T.wide, .slice A6 T.lev.length c6, .slice B6 T.neg.length d6] 37
      obtain ⟨w7, hw7⟩ : ∃ wn, (w6.alloc (.cells #[.int .i64 T.sch, .int .i64 T.dim, .slice none T.L.length 0, .slice none T.V.length 0, .int .i64 T.scale, .int .i64 T.wide, .slice A6 T.lev.length c6, .slice B6 T.neg.length d6] 37)) = wn := ⟨_, rfl⟩
      rw [hw7] at g6 n6
      go_upto_region 9 with fail
      try rw [hw7]
      clear hw7
      have RW_11 := hid (RW_7.out.on g6)
      clear RW_7
      have RTa_12 := hid (RTa_8.out.on g6)
      clear RTa_8
      have RTb_13 := hid (RTb.out.on g6)
      clear RTb
      have X2_14 := hid (X2_9.out.below g6 (X2_9.out.lt (by simp)))
      clear X2_9
      have XX_15 := hid (XX_10.out.below g6 (XX_10.out.lt (by simp)))
      clear XX_10
      have k7 := k6.trans (g6.mono k6.size)
      clear k6
      have XY := hid n6
      clear n6 g6
      obtain ⟨⟨q0, q1, q2, q3, q4, q5, q6, q7⟩, _⟩ := X2_14.out.eight
      go_wp2_with fail
      refine (C3.out w7 (HS.out.on k7)).mono ?_
      rintro _ w8 ⟨A8, c8, rfl, ho8, hb8⟩
      clear q0 q1 q2 q3 q4 q5 q6 q7
      have RW_16 := hid (RW_11.out.on hb8)
      clear RW_11
      have RTa_17 := hid (RTa_12.out.on hb8)
      clear RTa_12
      have RTb_18 := hid (RTb_13.out.on hb8)
      clear RTb_13
      have X2_19 := hid (X2_14.out.below hb8 (X2_14.out.lt (by simp)))
      clear X2_14
      have XX_20 := hid (XX_15.out.below hb8 (XX_15.out.lt (by simp)))
      clear XX_15
      have XY_21 := hid (XY.out.below hb8 (XY.out.lt (by simp)))
      clear XY
      have k8 := k7.trans (hb8.mono k7.size)
      clear k7
      have RX := hid (own_rd ho8)
      clear ho8 hb8 C3
      obtain ⟨⟨q0, q1, q2, q3, q4, q5, q6, q7⟩, _⟩ := X2_19.out.eight
      go_wp2_with fail
      refine (C4.out w8 (HS.out.on k8)).mono ?_
      rintro _ w9 ⟨A9, c9, rfl, ho9, hb9⟩
      clear q0 q1 q2 q3 q4 q5 q6 q7
      have RW_22 := hid (RW_16.out.on hb9)
      clear RW_16
      have RX_23 := hid (RX.out.on hb9)
      clear RX
      have RTa_24 := hid (RTa_17.out.on hb9)
      clear RTa_17
      have RTb_25 := hid (RTb_18.out.on hb9)
      clear RTb_18
      have X2_26 := hid (X2_19.out.below hb9 (X2_19.out.lt (by simp)))
      clear X2_19
      have XX_27 := hid (XX_20.out.below hb9 (XX_20.out.lt (by simp)))
      clear XX_20
      have XY_28 := hid (XY_21.out.below hb9 (XY_21.out.lt (by simp)))
      clear XY_21
      have k9 := k8.trans (hb9.mono k8.size)
      clear k8
      have RY := hid (own_rd ho9)
      clear ho9 hb9 C4
      obtain ⟨⟨q0, q1, q2, q3, q4, q5, q6, q7⟩, _⟩ := XX_27.out.eight
      go_wp2_with fail
      refine (C5.out A4 B4 c4 d4 w9 RTa_24.out).mono ?_
      rintro _ w10 ⟨A10, c10, rfl, ho10, hb10⟩
      clear q0 q1 q2 q3 q4 q5 q6 q7
      have RW_29 := hid (RW_22.out.on hb10)
      clear RW_22
      have RX_30 := hid (RX_23.out.on hb10)
      clear RX_23
      have RY_31 := hid (RY.out.on hb10)
      clear RY
      have RTa_32 := hid (RTa_24.out.on hb10)
      clear RTa_24
      have RTb_33 := hid (RTb_25.out.on hb10)
      clear RTb_25
      have X2_34 := hid (X2_26.out.below hb10 (X2_26.out.lt (by simp)))
      clear X2_26
      have XX_35 := hid (XX_27.out.below hb10 (XX_27.out.lt (by simp)))
      clear XX_27
      have XY_36 := hid (XY_28.out.below hb10 (XY_28.out.lt (by simp)))
      clear XY_28
      have k10 := k9.trans (hb10.mono k9.size)
      clear k9
      have RP := hid (own_rd ho10)
      clear ho10 hb10 C5
      obtain ⟨⟨q0, q1, q2, q3, q4, q5, q6, q7⟩, _⟩ := XY_36.out.eight
      go_wp2_with fail
      refine (C6.out A6 B6 c6 d6 w10 RTb_33.out).mono ?_
      rintro _ w11 ⟨A11, c11, rfl, ho11, hb11⟩
      clear q0 q1 q2 q3 q4 q5 q6 q7
      have RW_37 := hid (RW_29.out.on hb11)
      clear RW_29
      have RX_38 := hid (RX_30.out.on hb11)
      clear RX_30
      have RY_39 := hid (RY_31.out.on hb11)
      clear RY_31
      have RP_40 := hid (RP.out.on hb11)
      clear RP
      have RTa_41 := hid (RTa_32.out.on hb11)
      clear RTa_32
      have RTb_42 := hid (RTb_33.out.on hb11)
      clear RTb_33
      have X2_43 := hid (X2_34.out.below hb11 (X2_34.out.lt (by simp)))
      clear X2_34
      have XX_44 := hid (XX_35.out.below hb11 (XX_35.out.lt (by simp)))
      clear XX_35
      have XY_45 := hid (XY_36.out.below hb11 (XY_36.out.lt (by simp)))
      clear XY_36
      have k11 := k10.trans (hb11.mono k10.size)
      clear k10
      have RQ := hid (own_rd ho11)
      clear ho11 hb11 C6
      go_wp2_with fail
      refine region_ten (C := Below w11.heap.size w11) (by kernel_rfl) (by kernel_rfl) (belowN _ _ 1) ?_
      go_big_quiet_want
      go_big_quiet_op
      first | go_big_quiet_on | (refine ⟨_, fun _ _ => rfl, ?_⟩; go_big_quiet_on)
      go_big_quiet_want
      go_big_quiet_op
      first | go_big_quiet_on | (refine ⟨_, fun _ _ => rfl, ?_⟩; go_big_quiet_on)
      go_big_quiet_want
      refine ⟨.agg #[.int .i64 T.sch, .int .i64 T.dim, .slice none T.L.length 0, .slice none T.V.length 0, .int .i64 T.scale, .int .i64 T.wide, .slice A4 T.lev.length c4, .slice B4 T.neg.length d4], fun W hW => ?_, ?_⟩
      · obtain ⟨⟨q0, q1, q2, q3, q4, q5, q6, q7⟩, _⟩ := (XX_44.out.below hW (XX_44.out.lt (by simp))).eight
        go_simp
      simp only [Act.put, List.setIfInBounds_toArray, List.set_cons_zero, List.set_cons_succ]
      go_big_quiet_on
      go_big_quiet_want
      refine ⟨.agg #[.int .i64 T.sch, .int .i64 T.dim, .slice none T.L.length 0, .slice none T.V.length 0, .int .i64 T.scale, .int .i64 T.wide, .slice A6 T.lev.length c6, .slice B6 T.neg.length d6], fun W hW => ?_, ?_⟩
      · obtain ⟨⟨q0, q1, q2, q3, q4, q5, q6, q7⟩, _⟩ := (XY_45.out.below hW (XY_45.out.lt (by simp))).eight
        go_simp
      simp only [Act.put, List.setIfInBounds_toArray, List.set_cons_zero, List.set_cons_succ]
      go_big_quiet_on
      go_big_quiet_want
      go_big_quiet_op
      go_big_quiet_call ((intro hW; refine (C13.out _ _ _ _ _ _ _ _ _ (RTa_41.out.on hW) (RTb_42.out.on hW)).mono ?_; rintro _ w' ⟨rfl, hb⟩; exact ⟨rfl, hW.trans (hb.mono hW.size)⟩))
      go_big_quiet_want
      go_big_quiet_op
      first | go_big_quiet_on | (refine ⟨_, fun _ _ => rfl, ?_⟩; go_big_quiet_on)
      go_big_quiet_want
      go_big_quiet_op
      first | go_big_quiet_on | (refine ⟨_, fun _ _ => rfl, ?_⟩; go_big_quiet_on)
      go_big_quiet_want
      go_big_quiet_op
      first | go_big_quiet_on | (refine ⟨_, fun _ _ => rfl, ?_⟩; go_big_quiet_on)
      go_big_quiet_want
      go_big_quiet_op
      first | go_big_quiet_on | (refine ⟨_, fun _ _ => rfl, ?_⟩; go_big_quiet_on)
      go_big_quiet_want
      go_big_quiet_op
      first | go_big_quiet_on | (refine ⟨_, fun _ _ => rfl, ?_⟩; go_big_quiet_on)
      go_big_quiet_want
      go_big_quiet_op
      first | go_big_quiet_on | (refine ⟨_, fun _ _ => rfl, ?_⟩; go_big_quiet_on)
      go_big_quiet_want
      go_big_quiet_op
      first | go_big_quiet_on | (refine ⟨_, fun _ _ => rfl, ?_⟩; go_big_quiet_on)
      go_big_quiet_want
      go_big_quiet_op
      first | go_big_quiet_on | (refine ⟨_, fun _ _ => rfl, ?_⟩; go_big_quiet_on)
      go_big_quiet_want
      go_big_quiet_op
      first | go_big_quiet_on | (refine ⟨_, fun _ _ => rfl, ?_⟩; go_big_quiet_on)
      go_big_quiet_want
      go_big_quiet_op
      go_big_quiet_call ((intro hW; refine (CQx.out _ _ _ _ _ (RX_38.out.on hW) (RY_39.out.on hW)).mono ?_; rintro _ w' ⟨rfl, hb⟩; exact ⟨rfl, hW.trans (hb.mono hW.size)⟩))
      go_big_quiet_want
      go_big_quiet_op
      first | go_big_quiet_on | (refine ⟨_, fun _ _ => rfl, ?_⟩; go_big_quiet_on)
      go_big_quiet_want
      go_big_quiet_op
      first | go_big_quiet_on | (refine ⟨_, fun _ _ => rfl, ?_⟩; go_big_quiet_on)
      go_big_quiet_want
      go_big_quiet_op
      first | go_big_quiet_on | (refine ⟨_, fun _ _ => rfl, ?_⟩; go_big_quiet_on)
      go_big_quiet_want
      go_big_quiet_op
      first | go_big_quiet_on | (refine ⟨_, fun _ _ => rfl, ?_⟩; go_big_quiet_on)
      go_big_quiet_want
      go_big_quiet_op
      first | go_big_quiet_on | (refine ⟨_, fun _ _ => rfl, ?_⟩; go_big_quiet_on)
      go_big_quiet_want
      go_big_quiet_op
      first | go_big_quiet_on | (refine ⟨_, fun _ _ => rfl, ?_⟩; go_big_quiet_on)
      go_big_quiet_want
      go_big_quiet_op
      first | go_big_quiet_on | (refine ⟨_, fun _ _ => rfl, ?_⟩; go_big_quiet_on)
      go_big_quiet_want
      go_big_quiet_op
      first | go_big_quiet_on | (refine ⟨_, fun _ _ => rfl, ?_⟩; go_big_quiet_on)
      go_big_quiet_want
      go_big_quiet_op
      first | go_big_quiet_on | (refine ⟨_, fun _ _ => rfl, ?_⟩; go_big_quiet_on)
      go_big_quiet_want
      go_big_quiet_op
      go_big_quiet_call ((intro hW; refine (CQy.out _ _ _ _ _ (RP_40.out.on hW) (RQ.out.on hW)).mono ?_; rintro _ w' ⟨rfl, hb⟩; exact ⟨rfl, hW.trans (hb.mono hW.size)⟩))
      go_big_quiet_want
      go_big_quiet_op
      first | go_big_quiet_on | (refine ⟨_, fun _ _ => rfl, ?_⟩; go_big_quiet_on)
      go_big_quiet_want
      go_big_quiet_op
      first | go_big_quiet_on | (refine ⟨_, fun _ _ => rfl, ?_⟩; go_big_quiet_on)
      go_big_quiet_want
      go_big_quiet_op
      first | go_big_quiet_on | (refine ⟨_, fun _ _ => rfl, ?_⟩; go_big_quiet_on)
      go_big_quiet_want
      go_big_quiet_op
      first | go_big_quiet_on | (refine ⟨_, fun _ _ => rfl, ?_⟩; go_big_quiet_on)
      go_big_quiet_want
      go_big_quiet_op
      first | go_big_quiet_on | (refine ⟨_, fun _ _ => rfl, ?_⟩; go_big_quiet_on)
      go_big_quiet_want
      go_big_quiet_op
      first | go_big_quiet_on | (refine ⟨_, fun _ _ => rfl, ?_⟩; go_big_quiet_on)
      go_big_quiet_want
      go_big_quiet_op
      first | go_big_quiet_on | (refine ⟨_, fun _ _ => rfl, ?_⟩; go_big_quiet_on)
      go_big_quiet_want
      go_big_quiet_op
      first | go_big_quiet_on | (refine ⟨_, fun _ _ => rfl, ?_⟩; go_big_quiet_on)
      go_big_quiet_want
      refine ⟨.agg #[.int .i64 s.sch, .int .i64 s.dim, .slice ps.AL s.L.length ps.cL, .slice ps.AV s.V.length ps.cV, .int .i64 s.scale, .int .i64 s.wide, .slice ps.AE s.lev.length ps.cE, .slice ps.AN s.neg.length ps.cN], fun W hW => ?_, ?_⟩
      · obtain ⟨⟨q0, q1, q2, q3, q4, q5, q6, q7⟩, _⟩ := (X2_43.out.below hW (X2_43.out.lt (by simp))).eight
        go_simp
      simp only [Act.put, List.setIfInBounds_toArray, List.set_cons_zero, List.set_cons_succ]
      go_big_quiet_on
      go_big_quiet_want
      go_big_quiet_op
      go_big_quiet_call ((intro hW; refine (C9.out _ (HV.out.on (k11.trans (hW.mono k11.size))) (HS.out.on (k11.trans (hW.mono k11.size)))).mono ?_; rintro _ w' ⟨rfl, hb⟩; exact ⟨rfl, hW.trans (hb.mono hW.size)⟩))
      go_big_quiet_want
      go_big_quiet_op
      first | go_big_quiet_on | (refine ⟨_, fun _ _ => rfl, ?_⟩; go_big_quiet_on)
      go_big_quiet_want
      refine ⟨.agg #[.int .i64 s.sch, .int .i64 s.dim, .slice ps.AL s.L.length ps.cL, .slice ps.AV s.V.length ps.cV, .int .i64 s.scale, .int .i64 s.wide, .slice ps.AE s.lev.length ps.cE, .slice ps.AN s.neg.length ps.cN], fun W hW => ?_, ?_⟩
      · obtain ⟨⟨q0, q1, q2, q3, q4, q5, q6, q7⟩, _⟩ := (X2_43.out.below hW (X2_43.out.lt (by simp))).eight
        go_simp
      simp only [Act.put, List.setIfInBounds_toArray, List.set_cons_zero, List.set_cons_succ]
      go_big_quiet_on
      go_big_quiet_want
      go_big_quiet_op
      go_big_quiet_call ((intro hW; refine (C10.out _ (HV.out.on (k11.trans (hW.mono k11.size))) (HS.out.on (k11.trans (hW.mono k11.size)))).mono ?_; rintro _ w' ⟨rfl, hb⟩; exact ⟨rfl, hW.trans (hb.mono hW.size)⟩))
      go_big_quiet_want
      go_big_quiet_op
      first | go_big_quiet_on | (refine ⟨_, fun _ _ => rfl, ?_⟩; go_big_quiet_on)
      go_big_quiet_want
      go_big_quiet_op
      first | go_big_quiet_on | (refine ⟨_, fun _ _ => rfl, ?_⟩; go_big_quiet_on)
      go_big_quiet_want
      go_big_quiet_op
      first | go_big_quiet_on | (refine ⟨_, fun _ _ => rfl, ?_⟩; go_big_quiet_on)
      go_big_quiet_want
      go_big_quiet_op
      first | go_big_quiet_on | (refine ⟨_, fun _ _ => rfl, ?_⟩; go_big_quiet_on)
      go_big_quiet_want
      refine ⟨.agg #[.int .i64 T.sch, .int .i64 T.dim, .slice none T.L.length 0, .slice none T.V.length 0, .int .i64 T.scale, .int .i64 T.wide, .slice A4 T.lev.length c4, .slice B4 T.neg.length d4], fun W hW => ?_, ?_⟩
      · obtain ⟨⟨q0, q1, q2, q3, q4, q5, q6, q7⟩, _⟩ := (XX_44.out.below hW (XX_44.out.lt (by simp))).eight
        go_simp
      simp only [Act.put, List.setIfInBounds_toArray, List.set_cons_zero, List.set_cons_succ]
      go_big_quiet_on
      go_big_quiet_want
      go_big_quiet_op
      go_big_quiet_call ((intro hW; refine (C11.out _ _ _ _ _ (HV.out.on (k11.trans (hW.mono k11.size))) (RTa_41.out.on hW)).mono ?_; rintro _ w' ⟨rfl, hb⟩; exact ⟨rfl, hW.trans (hb.mono hW.size)⟩))
      go_big_quiet_want
      go_big_quiet_op
      first | go_big_quiet_on | (refine ⟨_, fun _ _ => rfl, ?_⟩; go_big_quiet_on)
      go_big_quiet_want
      refine ⟨.agg #[.int .i64 T.sch, .int .i64 T.dim, .slice none T.L.length 0, .slice none T.V.length 0, .int .i64 T.scale, .int .i64 T.wide, .slice A6 T.lev.length c6, .slice B6 T.neg.length d6], fun W hW => ?_, ?_⟩
      · obtain ⟨⟨q0, q1, q2, q3, q4, q5, q6, q7⟩, _⟩ := (XY_45.out.below hW (XY_45.out.lt (by simp))).eight
        go_simp
      simp only [Act.put, List.setIfInBounds_toArray, List.set_cons_zero, List.set_cons_succ]
      go_big_quiet_on
      go_big_quiet_want
      go_big_quiet_op
      go_big_quiet_call ((intro hW; refine (C12.out _ _ _ _ _ (HV.out.on (k11.trans (hW.mono k11.size))) (RTb_42.out.on hW)).mono ?_; rintro _ w' ⟨rfl, hb⟩; exact ⟨rfl, hW.trans (hb.mono hW.size)⟩))
      go_big_quiet_want
      go_big_quiet_op
      first | go_big_quiet_on | (refine ⟨_, fun _ _ => rfl, ?_⟩; go_big_quiet_on)
      go_big_quiet_want
      go_big_quiet_op
      first | go_big_quiet_on | (refine ⟨_, fun _ _ => rfl, ?_⟩; go_big_quiet_on)
      go_big_quiet_want
      go_big_quiet_op
      first | go_big_quiet_on | (refine ⟨_, fun _ _ => rfl, ?_⟩; go_big_quiet_on)
      go_big_quiet_want
      go_big_quiet_op
      first | go_big_quiet_on | (refine ⟨_, fun _ _ => rfl, ?_⟩; go_big_quiet_on)
      go_big_quiet_want
      go_big_quiet_op
      first | go_big_quiet_on | (refine ⟨_, fun _ _ => rfl, ?_⟩; go_big_quiet_on)
      go_big_quiet_want
      go_big_quiet_op
      go_big_quiet_call ((intro hW; refine (CQv.out _ _ _ _ _ (HV.out.on (k11.trans (hW.mono k11.size))) (RW_37.out.on hW)).mono ?_; rintro _ w' ⟨rfl, hb⟩; exact ⟨rfl, hW.trans (hb.mono hW.size)⟩))
      go_big_quiet_want
      go_big_quiet_op
      first | go_big_quiet_on | (refine ⟨_, fun _ _ => rfl, ?_⟩; go_big_quiet_on)
      go_big_quiet_want
      go_big_quiet_op
      first | go_big_quiet_on | (refine ⟨_, fun _ _ => rfl, ?_⟩; go_big_quiet_on)
      refine wpQuiet_nil ?_
      intro w12 hb12
      have k12 := k11.trans (hb12.mono k11.size)
      go_wp2_with fail
      go_ret
      exact ⟨rfl, k12⟩
  · rw [Bool.eq_false_iff.2 hf] at CF
    clear hf rv uv rs ws cs rl ul hw hsd
    go_enter Try.func4, Try.ntmps4
    go_wp2_with fail
    refine (qu_live _).mono ?_
    rintro _ w1 ⟨rfl, hb1⟩
    have k1 : Below w.heap.size w w1 := Below.trans (by go_grown) (hb1.mono (by simp))
    have X1 := hid (HBX.out.below hb1 (by simp))
    clear hb1 HBX
    go_wp2_with fail
    refine (CF.out w1).mono ?_
    rintro _ _ ⟨rfl, rfl⟩
    clear CF
    go_wp2_with fail
    go_ret
    exact ⟨rfl, k1⟩
theorem law_types : ∀ t ∈ Try.f4.params.toList, Try.prog.readableRec t = true ∧ t < Try.prog.types.size := by
  have h : (Try.f4.params.toList.all fun t => Try.prog.readableRec t && decide (t < Try.prog.types.size)) = true := by kernel_rfl
  intro t ht
  simpa using List.all_eq_true.1 h t ht
set_option maxRecDepth 100000 in
theorem lifted (os : Os) (started : os.Started) (H : Type) (enc : TypeId × Value → H) :
    ReturnsInHanded {} Try.checked os 4 .any (Rows.quantPressesSpec.pre6 enc Try.prog Try.f4 Rows.quantPressesRow.domain false) (Rows.quantPressesSpec.post enc Try.prog Try.f4 false true false false) := by
  refine returnsInHanded_of_change (C := Try.checked) own started (by kernel_rfl) Try.func4
    (ChangeSpec.witness6 (enc := enc) (C := Try.checked) false ⟨#[], #[.slice none 0 0, .int .i64 0, .int .u64 0, .slice none 0 0, .agg #[.int .i64 0, .int .i64 0, .slice none 0 0, .slice none 0 0, .int .i64 0, .int .i64 0, .slice none 0 0, .slice none 0 0]], []⟩ 8 (by kernel_rfl) (by kernel_rfl) (by kernel_rfl) (by kernel_rfl)) ?_
  intro W base args ds gs before hval0 hW hcnd _
  have hval : ∀ (j : Nat) t v, Try.f4.params[j]? = some t → args[j]? = some v → Value.okWide Try.prog W .any base t v := hval0
  have hW' := hW
  obtain ⟨p, q, hA0, hV, rfl, hfz, hnd⟩ := hW
  have hA : DataW.TrodAll enc Try.prog W 0 (fun _ => true) true Try.f4.params.toList args.toList ds p := hA0
  rw [Try.params4] at hA hval
  obtain ⟨v0, vs0, d0, ds0, p0, q0, hargs, rfl, rfl, h0, r0⟩ := trodAll_cons hA
  obtain ⟨v1, vs1, d1, ds1, p1, q1, rfl, rfl, rfl, h1, r1⟩ := trodAll_cons r0
  obtain ⟨v2, vs2, d2, ds2, p2, q2, rfl, rfl, rfl, h2, r2⟩ := trodAll_cons r1
  obtain ⟨v3, vs3, d3, ds3, p3, q3, rfl, rfl, rfl, h3, r3⟩ := trodAll_cons r2
  obtain ⟨v4, vs4, d4, ds4, p4, q4, rfl, rfl, rfl, h4, r4⟩ := trodAll_cons r3
  obtain ⟨rfl, rfl, rfl⟩ := trodAll_nil r4
  obtain rfl : args = #[v0, v1, v2, v3, v4] := by cases args; simp_all
  obtain ⟨rfl, rfl⟩ := trodVars_none hV
  obtain ⟨Av, v, cv, rfl, rdv, iv, lcv, lmv⟩ := open_nums Try.underlying32 Try.underlying2 cells_i64' (hval 0 32 v0 rfl rfl) h0
  obtain ⟨wide, rfl, rfl, rfl, w1⟩ := open_int Try.underlying3 (hval 1 3 v1 rfl rfl) h1
  obtain ⟨seed, rfl, rfl, rfl, w2⟩ := open_int Try.underlying22 (hval 2 22 v2 rfl rfl) h2
  obtain ⟨Al, l, cl, rfl, rdl, il, lcl, lml⟩ := open_nums Try.underlying33 Try.underlying3 cells_int (hval 3 33 v3 rfl rfl) h3
  obtain ⟨s, ps, rfl, rds, wfs, cps⟩ := open_sent (hval 4 37 v4 rfl rfl) h4
  clear hA0 hval0
  refine (walk Av v cv wide seed Al l cl s ps W rdv (fun x hx => I64.of_wf (iv x hx)) lcv lmv (I64.of_wf w1) (U64.of_wf w2) rdl (fun x hx => I64.of_wf (il x hx)) lcl lml rds wfs cps).mono fun e W' ⟨he, hb⟩ => ?_
  subst he
  exact ⟨_, rfl, law_post laid (fun t ht => law_types t ht) rfl hW' ⟨rfl, rfl, rfl⟩ (by kernel_rfl) Try.underlying4 hb⟩

theorem over : Rows.quantPressesRow.holds Try.pinned (OpenSpec.ofChange Rows.quantPressesSpec) :=
  OpenClaim.holds_of_wide 4 Try.f4 rfl rfl rfl rfl rfl rfl rfl ⟨rfl, rfl, rfl, rfl, rfl⟩ rfl rfl rfl rfl rfl (by kernel_rfl) Try.func4 (by kernel_rfl)
    (of_decide_eq_true (by kernel_rfl)) (by unfold Func.isWrapper; first | (rw [if_pos (by decide +kernel)]; kernel_rfl) | (rw [if_neg (by decide +kernel)]; exact ⟨rfl, rfl⟩))
    (fun os started H enc _ => lifted os started H enc)

theorem proved : Rows.QuantPressesSaid := over
end Go.Proofs.Ytbkoapdeglmopaa.QuantPresses
