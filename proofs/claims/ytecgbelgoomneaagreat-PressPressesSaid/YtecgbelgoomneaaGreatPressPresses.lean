
/-
  PressPresses answers true for every input. No condition.
-/
import Derived.Test.YtecgbelgoomneaaGreatYi
import Derived.Test.YtecgbelgoomneaaGreatYe
import Derived.Test.YtecgbelgoomneaaGreatYc
namespace Go.Proofs.YtecgbelgoomneaaGreat.PressPresses
open Go.ChangeShapes Go.WideShapes Go.ChangeAt Go.RowKit
set_option maxHeartbeats 400000
set_option linter.unusedVariables false
open Go.Proofs.YtecgbelgoomneaaGreat
set_option maxRecDepth 100000 in
/-- A region that draws, walked once, in a class of worlds of one's own. -/
theorem region_ten {P : Program} {C : World → Prop} {id : Nat} {Q : Exit → Act → World → Prop} {a : Act} {w : World} {l : List Oper} (hm : P.follows .mixedOrders = true) (hB : Region.lexB .any l.toArray = true) (hC : C w.drew)
    (h : wpQuiet P l.toArray C (fun a' => ∀ w', C w' → Q .normal a' w') l a) : (Code.region id l.toArray true).wp P Q a w :=
  wp_region_quiet hm hB hC (by simpa using h)
/-- A list is found the same as itself. -/
theorem same_self {X : List Int} (hX : X.length ≤ 9223372036854775807) {A B : Option Addr} {c d : Nat} (W : World) (ra : Rd (Value.int .i64) W W.heap.size A X) (rb : Rd (Value.int .i64) W W.heap.size B X) :
    Calls Tryz.prog 16 #[.slice A X.length c, .slice B X.length d] W fun e w' => e = .returned (.bool true) ∧ Below W.heap.size W w' := by
  have h := rSame_any (A := A) (B := B) (c := c) (d := d) X X hX hX W ra rb
  rw [eqB_self] at h
  exact h
/-- What is pressed is found the same as itself. -/
theorem sent_self {S : SentV} (hS : lnS 100000 S) (p q : SentP) (W : World) (h1 : RdS W W.heap.size S p) (h2 : RdS W W.heap.size S q) :
    Calls Tryz.prog 15 #[.agg #[.int .i64 S.sch, .int .i64 S.dim, .slice p.AL S.L.length p.cL, .slice p.AV S.V.length p.cV, .int .i64 S.scale, .int .i64 S.wide, .slice p.AE S.lev.length p.cE, .slice p.AN S.neg.length p.cN], .agg #[.int .i64 S.sch, .int .i64 S.dim, .slice q.AL S.L.length q.cL, .slice q.AV S.V.length q.cV, .int .i64 S.scale, .int .i64 S.wide, .slice q.AE S.lev.length q.cE, .slice q.AN S.neg.length q.cN]] W fun e w' => e = .returned (.bool true) ∧ Below W.heap.size W w' := by
  have h := ref_SameSent S S p q hS hS W (Nat.le_refl _) (Nat.le_refl _) h1 h2
  rw [sameS_iff.2 rfl] at h
  exact h
theorem prd_ln (sch k wide : Int) (g l : List Int) (s : Nat) (n : List Int) : lnS 100000 (prdS sch k wide g l s n) := by
  unfold prdS
  split
  · exact (pp_ln sch k wide _ s n).more (by decide)
  · exact ln_zero _
theorem prdV_len (sch k wide : Int) (g l : List Int) (s : Nat) (n : List Int) : (prdV sch k wide g l s n).length ≤ 4096 := by
  unfold prdV
  split
  · unfold plfV
    split
    · exact op_len
    · simp
  · simp
set_option maxHeartbeats 8000000 in
set_option maxRecDepth 100000 in
theorem walk (hs hk hw : Int) (Ag : Option Addr) (g : List Int) (cg : Nat) (Al : Option Addr) (l : List Int) (cl : Nat) (seed : Int) (An : Option Addr) (nn : List Int) (cn : Nat) (dim : Int) (w : World) (ihs : I64 hs) (ihk : I64 hk) (ihw : I64 hw)
    (rg : Rd (Value.int .i64) w w.heap.size Ag g) (ug : I64s g) (lg : g.length ≤ cg) (mg : cg ≤ 9223372036854775807) (rl : Rd (Value.int .i64) w w.heap.size Al l) (ul : I64s l) (ll : l.length ≤ cl) (ml : cl ≤ 9223372036854775807) (us : U64 seed)
    (rn : Rd (Value.int .i64) w w.heap.size An nn) (un : I64s nn) (ln : nn.length ≤ cn) (mn : cn ≤ 9223372036854775807) (hd : I64 dim) :
    Calls Tryz.prog 3 #[.agg #[.int .i64 hs, .int .i64 hk, .int .i64 hw], .slice Ag g.length cg, .slice Al l.length cl, .int .u64 seed, .slice An nn.length cn, .int .i64 dim] w fun e w' => e = .returned (.bool true) ∧ Below w.heap.size w w' := by
  have HG := hid rg
  have HL := hid rl
  have HN := hid rn
  have hgl : g.length ≤ 9223372036854775807 := by omega
  have hll : l.length ≤ 9223372036854775807 := by omega
  obtain ⟨sd, rfl⟩ := Int.eq_ofNat_of_zero_le us.1
  have hsd : sd < 2 ^ 64 := by have := us.2; omega
  have CF := hid (fun W (h1 : Rd (Value.int .i64) W W.heap.size Ag g) (h2 : Rd (Value.int .i64) W W.heap.size Al l) => pf_two (A := Ag) (B := Al) (c := cg) (d := cl) An nn.length cn (by omega) g l hgl hll W h1 h2)
  have HBX := hid (BoxL.new w [.int .i64 hs, .int .i64 hk, .int .i64 hw] 23)
  by_cases hf : fewP nn.length [g, l] = true
  · rw [hf] at CF
    obtain ⟨hf1, hf2, _⟩ := fewP_ok.1 hf
    have hn5 : nn.length ≤ 1000 := by omega
    have hg5 : g.length ≤ 5000 := by have h := hf1 g (by simp); unfold shP at h; omega
    have CP := hid (fun W (h1 : Rd (Value.int .i64) W W.heap.size Ag g) (h2 : Rd (Value.int .i64) W W.heap.size An nn) => pn_Press (A := Ag) (B := An) (c := cg) (d := cn) hs hk hw ihs ihw g ug hgl sd hsd nn un hn5 W h1 h2)
    have DP := hid (fun W (h1 : Rd (Value.int .i64) W W.heap.size Ag g) (h2 : Rd (Value.int .i64) W W.heap.size An nn) => ref_Press12 (A := Ag) (B := An) (c := cg) (d := cn) hs hk hw ihw g ug hgl sd hsd nn un hn5 W h1 h2)
    have CR := hid (fun W (h1 : Rd (Value.int .i64) W W.heap.size Ag g) (h2 : Rd (Value.int .i64) W W.heap.size Al l) (h3 : Rd (Value.int .i64) W W.heap.size An nn) => pn_Round (A := Ag) (B := Al) (D := An) (c := cg) (d := cl) (q := cn) hs hk hw ihs ihw g l ug ul hgl hll sd hsd nn un hn5 W h1 h2 h3)
    have DR := hid (fun W (h1 : Rd (Value.int .i64) W W.heap.size Ag g) (h2 : Rd (Value.int .i64) W W.heap.size Al l) (h3 : Rd (Value.int .i64) W W.heap.size An nn) => ref_Round12 (A := Ag) (B := Al) (D := An) (c := cg) (d := cl) (q := cn) hs hk hw ihw g l ug ul hgl hll sd hsd nn un hn5 W h1 h2 h3)
    have CC := hid (fun W => pn_Check hs hk hw dim ihs W)
    have DC := hid (fun W => ref_Check12 hs hk hw dim W)
    have ln1 := (pp_ln hs hk hw g sd nn).more (show 5000 ≤ 100000 by decide)
    have ln2 := prd_ln hs hk hw g l sd nn
    have nv := prdV_len hs hk hw g l sd nn
    obtain ⟨S, e1⟩ : ∃ x, ppS hs hk hw g sd nn = x := ⟨_, rfl⟩
    obtain ⟨eS, e2⟩ : ∃ x, ppE hs hk hw g = x := ⟨_, rfl⟩
    obtain ⟨R, e3⟩ : ∃ x, prdS hs hk hw g l sd nn = x := ⟨_, rfl⟩
    obtain ⟨V, e4⟩ : ∃ x, prdV hs hk hw g l sd nn = x := ⟨_, rfl⟩
    obtain ⟨eR, e5⟩ : ∃ x, prdE hs hk hw g l sd nn = x := ⟨_, rfl⟩
    obtain ⟨eC, e6⟩ : ∃ x, howE hs hk hw dim = x := ⟨_, rfl⟩
    rw [e1, e2] at CP DP
    rw [e3, e4, e5] at CR DR
    rw [e6] at CC DC
    rw [e1] at ln1
    rw [e3] at ln2
    rw [e4] at nv
    have t1 : (eS != eS) = false := by simp
    have t2 : (eR != eR) = false := by simp
    have t3 : (eC == eC) = true := by simp
    have S1 := hid (fun (p q : SentP) W h1 h2 => sent_self ln1 p q W h1 h2)
    have S2 := hid (fun (p q : SentP) W h1 h2 => sent_self ln2 p q W h1 h2)
    have S3 := hid (fun (A B : Option Addr) (c d : Nat) (W : World) (h1 : Rd (Value.int .i64) W W.heap.size A V) (h2 : Rd (Value.int .i64) W W.heap.size B V) => same_self (X := V) (by omega) (A := A) (B := B) (c := c) (d := d) W h1 h2)
    have S4 := hid (fun (A B : Option Addr) (c d : Nat) (W : World) (h1 : Rd (Value.int .i64) W W.heap.size A g) (h2 : Rd (Value.int .i64) W W.heap.size B g) => same_self (X := g) hgl (A := A) (B := B) (c := c) (d := d) W h1 h2)
    have hSV : S.V.length ≤ 100000 := ln1.2.1
    clear e1 e2 e3 e4 e5 e6 rg rl rn ug ul un hf hf1 hf2 us hd ihs ihk ihw ln1 ln2
    go_enter Tryz.func3, Tryz.ntmps3
    go_wp2_with fail
    refine (ps_live _).mono ?_
    rintro _ w1 ⟨rfl, hb1⟩
    have k1 : Below w.heap.size w w1 := Below.trans (by go_grown) (hb1.mono (by simp))
    have YH := hid (HBX.out.below hb1 (by simp))
    clear hb1 HBX
    go_wp2_with fail
    refine (CF.out w1 (HG.out.on k1) (HL.out.on k1)).mono ?_
    rintro _ w2 ⟨rfl, hw2⟩
    have g2 := sg_up w1 (.cells #[.slice Ag g.length cg, .slice Al l.length cl] 24)
    rw [hw2] at g2
    have ZH_1 := hid (YH.out.below g2 (YH.out.lt (by simp)))
    clear YH
    have k2 := k1.trans (g2.mono k1.size)
    clear k1
    clear g2 CF hw2
    go_wp2_with (at_builtin; refine wpList_app (Value.int .i64) (fun _ => rfl) _ rfl _ _ 24 rfl w2.heap.size 2 (.int .i64 0) 8 Tryz.underlying24 info_i64 rfl [] none 0 rfl (own_nil _ _ _) g Ag cg w2.heap.size rfl (HG.out.on k2) (by simp [maxLen]; omega) (by simp; omega) (Nat.le_refl _) ?_)
    rintro SS A3 c3 w3 hSS ho3 hb3 _
    obtain rfl : g = SS := hSS.symm
    have ZH_2 := hid (ZH_1.out.below hb3 (ZH_1.out.lt (by simp)))
    clear ZH_1
    have k3 := k2.trans (hb3.mono k2.size)
    clear k2
    have RW := hid (own_rd ho3)
    have HHL := hid (show w.heap.size < w3.heap.size from ZH_2.out.lt (by simp))
    have M3 := Below.refl w3.heap.size w3
    clear ho3 hb3
    have cH0 := (ZH_2.out 0 _ rfl).1
    have cH1 := (ZH_2.out 1 _ rfl).1
    have cH2 := (ZH_2.out 2 _ rfl).1
    go_wp2_with fail
    refine (CP.out w3 (HG.out.on k3) (HN.out.on k3)).mono ?_
    rintro _ w4 ⟨pA, rfl, ho, hb4⟩
    have M4 := M3.trans (hb4.mono M3.size)
    clear M3
    have ZH_3 := hid (ZH_2.out.below hb4 (ZH_2.out.lt (by simp)))
    clear ZH_2
    have k4 := k3.trans (hb4.mono k3.size)
    clear k3
    clear hb4 CP cH0 cH1 cH2
    have HLT := hid (show ∀ g : Nat, pA.AV = some ⟨g, 0, none⟩ → g < w4.heap.size from fun g e => by have h := ho.2.1; rw [e] at h; exact own_lt h)
    have HOV := hid ho.2.1
    have YRA := hid (OwnL.rd ho)
    clear ho
    have g5 := sg_up w4 (.cells #[.int .i64 S.sch, .int .i64 S.dim, .slice pA.AL S.L.length pA.cL, .slice pA.AV S.V.length pA.cV, .int .i64 S.scale, .int .i64 S.wide, .slice pA.AE S.lev.length pA.cE, .slice pA.AN S.neg.length pA.cN] 32)
    have n5 := BoxL.new w4 [.int .i64 S.sch, .int .i64 S.dim, .slice pA.AL S.L.length pA.cL, .slice pA.AV S.V.length pA.cV, .int .i64 S.scale, .int .i64 S.wide, .slice pA.AE S.lev.length pA.cE, .slice pA.AN S.neg.length pA.cN] 32
    simp only [List.toArray] at n5
    obtain ⟨w5, hw5⟩ : ∃ wn, (w4.alloc (.cells #[.int .i64 S.sch, .int .i64 S.dim, .slice pA.AL S.L.length pA.cL, .slice pA.AV S.V.length pA.cV, .int .i64 S.scale, .int .i64 S.wide, .slice pA.AE S.lev.length pA.cE, .slice pA.AN S.neg.length pA.cN] 32)) = wn := ⟨_, rfl⟩
    rw [hw5] at g5 n5
    have ZOV_4 := hid (own_on HOV.out g5)
    clear HOV
    have M5 := M4.trans (g5.mono M4.size)
    clear M4
    have ZH_5 := hid (ZH_3.out.below g5 (ZH_3.out.lt (by simp)))
    clear ZH_3
    have ZRA_6 := hid (YRA.out.on g5)
    clear YRA
    have k5 := k4.trans (g5.mono k4.size)
    clear k4
    have YBA := hid (n5)
    clear n5 g5
    go_upto_region 8 with fail
    try rw [hw5]
    clear hw5
    have cH0 := (ZH_5.out 0 _ rfl).1
    have cH1 := (ZH_5.out 1 _ rfl).1
    have cH2 := (ZH_5.out 2 _ rfl).1
    go_wp2_with fail
    refine (DP.out w5 (HG.out.on k5) (HN.out.on k5)).mono ?_
    rintro _ w6 ⟨pB, rfl, ho, hb6⟩
    have ZOV_7 := hid (own_on ZOV_4.out hb6)
    clear ZOV_4
    have M6 := M5.trans (hb6.mono M5.size)
    clear M5
    have ZH_8 := hid (ZH_5.out.below hb6 (ZH_5.out.lt (by simp)))
    clear ZH_5
    have ZRA_9 := hid (ZRA_6.out.on hb6)
    clear ZRA_6
    have ZBA_10 := hid (YBA.out.below hb6 (YBA.out.lt (by simp)))
    clear YBA
    have k6 := k5.trans (hb6.mono k5.size)
    clear k5
    clear hb6 DP cH0 cH1 cH2
    have YRB := hid (OwnL.rd ho)
    clear ho
    have g7 := sg_up w6 (.cells #[.int .i64 S.sch, .int .i64 S.dim, .slice pB.AL S.L.length pB.cL, .slice pB.AV S.V.length pB.cV, .int .i64 S.scale, .int .i64 S.wide, .slice pB.AE S.lev.length pB.cE, .slice pB.AN S.neg.length pB.cN] 32)
    have n7 := BoxL.new w6 [.int .i64 S.sch, .int .i64 S.dim, .slice pB.AL S.L.length pB.cL, .slice pB.AV S.V.length pB.cV, .int .i64 S.scale, .int .i64 S.wide, .slice pB.AE S.lev.length pB.cE, .slice pB.AN S.neg.length pB.cN] 32
    simp only [List.toArray] at n7
    obtain ⟨w7, hw7⟩ : ∃ wn, (w6.alloc (.cells #[.int .i64 S.sch, .int .i64 S.dim, .slice pB.AL S.L.length pB.cL, .slice pB.AV S.V.length pB.cV, .int .i64 S.scale, .int .i64 S.wide, .slice pB.AE S.lev.length pB.cE, .slice pB.AN S.neg.length pB.cN] 32)) = wn := ⟨_, rfl⟩
    rw [hw7] at g7 n7
    have ZOV_11 := hid (own_on ZOV_7.out g7)
    clear ZOV_7
    have M7 := M6.trans (g7.mono M6.size)
    clear M6
    have ZH_12 := hid (ZH_8.out.below g7 (ZH_8.out.lt (by simp)))
    clear ZH_8
    have ZRA_13 := hid (ZRA_9.out.on g7)
    clear ZRA_9
    have ZBA_14 := hid (ZBA_10.out.below g7 (ZBA_10.out.lt (by simp)))
    clear ZBA_10
    have ZRB_15 := hid (YRB.out.on g7)
    clear YRB
    have k7 := k6.trans (g7.mono k6.size)
    clear k6
    have YBB := hid (n7)
    clear n7 g7
    go_upto_region 9 with fail
    try rw [hw7]
    clear hw7
    have cH0 := (ZH_12.out 0 _ rfl).1
    have cH1 := (ZH_12.out 1 _ rfl).1
    have cH2 := (ZH_12.out 2 _ rfl).1
    go_wp2_with fail
    refine (CR.out w7 (HG.out.on k7) (HL.out.on k7) (HN.out.on k7)).mono ?_
    rintro _ w8 ⟨pX, AX, cX, rfl, ho, o9, hb8⟩
    have ZOV_16 := hid (own_on ZOV_11.out hb8)
    clear ZOV_11
    have M8 := M7.trans (hb8.mono M7.size)
    clear M7
    have ZH_17 := hid (ZH_12.out.below hb8 (ZH_12.out.lt (by simp)))
    clear ZH_12
    have ZRA_18 := hid (ZRA_13.out.on hb8)
    clear ZRA_13
    have ZBA_19 := hid (ZBA_14.out.below hb8 (ZBA_14.out.lt (by simp)))
    clear ZBA_14
    have ZRB_20 := hid (ZRB_15.out.on hb8)
    clear ZRB_15
    have ZBB_21 := hid (YBB.out.below hb8 (YBB.out.lt (by simp)))
    clear YBB
    have k8 := k7.trans (hb8.mono k7.size)
    clear k7
    clear hb8 CR cH0 cH1 cH2
    have YRX := hid (OwnL.rd ho)
    have YVX := hid (own_rd o9)
    clear ho o9
    have g9 := sg_up w8 (.cells #[.int .i64 R.sch, .int .i64 R.dim, .slice pX.AL R.L.length pX.cL, .slice pX.AV R.V.length pX.cV, .int .i64 R.scale, .int .i64 R.wide, .slice pX.AE R.lev.length pX.cE, .slice pX.AN R.neg.length pX.cN] 32)
    have n9 := BoxL.new w8 [.int .i64 R.sch, .int .i64 R.dim, .slice pX.AL R.L.length pX.cL, .slice pX.AV R.V.length pX.cV, .int .i64 R.scale, .int .i64 R.wide, .slice pX.AE R.lev.length pX.cE, .slice pX.AN R.neg.length pX.cN] 32
    simp only [List.toArray] at n9
    obtain ⟨w9, hw9⟩ : ∃ wn, (w8.alloc (.cells #[.int .i64 R.sch, .int .i64 R.dim, .slice pX.AL R.L.length pX.cL, .slice pX.AV R.V.length pX.cV, .int .i64 R.scale, .int .i64 R.wide, .slice pX.AE R.lev.length pX.cE, .slice pX.AN R.neg.length pX.cN] 32)) = wn := ⟨_, rfl⟩
    rw [hw9] at g9 n9
    have ZOV_22 := hid (own_on ZOV_16.out g9)
    clear ZOV_16
    have M9 := M8.trans (g9.mono M8.size)
    clear M8
    have ZH_23 := hid (ZH_17.out.below g9 (ZH_17.out.lt (by simp)))
    clear ZH_17
    have ZRA_24 := hid (ZRA_18.out.on g9)
    clear ZRA_18
    have ZBA_25 := hid (ZBA_19.out.below g9 (ZBA_19.out.lt (by simp)))
    clear ZBA_19
    have ZRB_26 := hid (ZRB_20.out.on g9)
    clear ZRB_20
    have ZBB_27 := hid (ZBB_21.out.below g9 (ZBB_21.out.lt (by simp)))
    clear ZBB_21
    have ZRX_28 := hid (YRX.out.on g9)
    clear YRX
    have ZVX_29 := hid (YVX.out.on g9)
    clear YVX
    have k9 := k8.trans (g9.mono k8.size)
    clear k8
    have YBX := hid (n9)
    clear n9 g9
    go_upto_region 10 with fail
    try rw [hw9]
    clear hw9
    have cH0 := (ZH_23.out 0 _ rfl).1
    have cH1 := (ZH_23.out 1 _ rfl).1
    have cH2 := (ZH_23.out 2 _ rfl).1
    go_wp2_with fail
    refine (DR.out w9 (HG.out.on k9) (HL.out.on k9) (HN.out.on k9)).mono ?_
    rintro _ w10 ⟨pY, AY, cY, rfl, ho, o9, hb10⟩
    have ZOV_30 := hid (own_on ZOV_22.out hb10)
    clear ZOV_22
    have M10 := M9.trans (hb10.mono M9.size)
    clear M9
    have ZH_31 := hid (ZH_23.out.below hb10 (ZH_23.out.lt (by simp)))
    clear ZH_23
    have ZRA_32 := hid (ZRA_24.out.on hb10)
    clear ZRA_24
    have ZBA_33 := hid (ZBA_25.out.below hb10 (ZBA_25.out.lt (by simp)))
    clear ZBA_25
    have ZRB_34 := hid (ZRB_26.out.on hb10)
    clear ZRB_26
    have ZBB_35 := hid (ZBB_27.out.below hb10 (ZBB_27.out.lt (by simp)))
    clear ZBB_27
    have ZRX_36 := hid (ZRX_28.out.on hb10)
    clear ZRX_28
    have ZVX_37 := hid (ZVX_29.out.on hb10)
    clear ZVX_29
    have ZBX_38 := hid (YBX.out.below hb10 (YBX.out.lt (by simp)))
    clear YBX
    have k10 := k9.trans (hb10.mono k9.size)
    clear k9
    clear hb10 DR cH0 cH1 cH2
    have YRY := hid (OwnL.rd ho)
    have YVY := hid (own_rd o9)
    clear ho o9
    have g11 := sg_up w10 (.cells #[.int .i64 R.sch, .int .i64 R.dim, .slice pY.AL R.L.length pY.cL, .slice pY.AV R.V.length pY.cV, .int .i64 R.scale, .int .i64 R.wide, .slice pY.AE R.lev.length pY.cE, .slice pY.AN R.neg.length pY.cN] 32)
    have n11 := BoxL.new w10 [.int .i64 R.sch, .int .i64 R.dim, .slice pY.AL R.L.length pY.cL, .slice pY.AV R.V.length pY.cV, .int .i64 R.scale, .int .i64 R.wide, .slice pY.AE R.lev.length pY.cE, .slice pY.AN R.neg.length pY.cN] 32
    simp only [List.toArray] at n11
    obtain ⟨w11, hw11⟩ : ∃ wn, (w10.alloc (.cells #[.int .i64 R.sch, .int .i64 R.dim, .slice pY.AL R.L.length pY.cL, .slice pY.AV R.V.length pY.cV, .int .i64 R.scale, .int .i64 R.wide, .slice pY.AE R.lev.length pY.cE, .slice pY.AN R.neg.length pY.cN] 32)) = wn := ⟨_, rfl⟩
    rw [hw11] at g11 n11
    have ZOV_39 := hid (own_on ZOV_30.out g11)
    clear ZOV_30
    have M11 := M10.trans (g11.mono M10.size)
    clear M10
    have ZH_40 := hid (ZH_31.out.below g11 (ZH_31.out.lt (by simp)))
    clear ZH_31
    have ZRA_41 := hid (ZRA_32.out.on g11)
    clear ZRA_32
    have ZBA_42 := hid (ZBA_33.out.below g11 (ZBA_33.out.lt (by simp)))
    clear ZBA_33
    have ZRB_43 := hid (ZRB_34.out.on g11)
    clear ZRB_34
    have ZBB_44 := hid (ZBB_35.out.below g11 (ZBB_35.out.lt (by simp)))
    clear ZBB_35
    have ZRX_45 := hid (ZRX_36.out.on g11)
    clear ZRX_36
    have ZVX_46 := hid (ZVX_37.out.on g11)
    clear ZVX_37
    have ZBX_47 := hid (ZBX_38.out.below g11 (ZBX_38.out.lt (by simp)))
    clear ZBX_38
    have ZRY_48 := hid (YRY.out.on g11)
    clear YRY
    have ZVY_49 := hid (YVY.out.on g11)
    clear YVY
    have k11 := k10.trans (g11.mono k10.size)
    clear k10
    have YBY := hid (n11)
    clear n11 g11
    go_upto_region 11 with fail
    try rw [hw11]
    clear hw11
    obtain ⟨⟨cBA0, cBA1, cBA2, cBA3, cBA4, cBA5, cBA6, cBA7⟩, _⟩ := ZBA_42.out.eight
    obtain ⟨⟨cBB0, cBB1, cBB2, cBB3, cBB4, cBB5, cBB6, cBB7⟩, _⟩ := ZBB_44.out.eight
    go_wp2_with fail
    refine (S1.out pA pB w11 (ZRA_41.out) (ZRB_43.out)).mono ?_
    rintro _ w12 ⟨rfl, hb12⟩
    have ZOV_50 := hid (own_on ZOV_39.out hb12)
    clear ZOV_39
    have M12 := M11.trans (hb12.mono M11.size)
    clear M11
    have ZH_51 := hid (ZH_40.out.below hb12 (ZH_40.out.lt (by simp)))
    clear ZH_40
    have ZRA_52 := hid (ZRA_41.out.on hb12)
    clear ZRA_41
    have ZBA_53 := hid (ZBA_42.out.below hb12 (ZBA_42.out.lt (by simp)))
    clear ZBA_42
    have ZRB_54 := hid (ZRB_43.out.on hb12)
    clear ZRB_43
    have ZBB_55 := hid (ZBB_44.out.below hb12 (ZBB_44.out.lt (by simp)))
    clear ZBB_44
    have ZRX_56 := hid (ZRX_45.out.on hb12)
    clear ZRX_45
    have ZVX_57 := hid (ZVX_46.out.on hb12)
    clear ZVX_46
    have ZBX_58 := hid (ZBX_47.out.below hb12 (ZBX_47.out.lt (by simp)))
    clear ZBX_47
    have ZRY_59 := hid (ZRY_48.out.on hb12)
    clear ZRY_48
    have ZVY_60 := hid (ZVY_49.out.on hb12)
    clear ZVY_49
    have ZBY_61 := hid (YBY.out.below hb12 (YBY.out.lt (by simp)))
    clear YBY
    have k12 := k11.trans (hb12.mono k11.size)
    clear k11
    clear hb12 S1 cBA0 cBA1 cBA2 cBA3 cBA4 cBA5 cBA6 cBA7 cBB0 cBB1 cBB2 cBB3 cBB4 cBB5 cBB6 cBB7
    clear ZRA_52
    clear ZRB_54
    clear ZBB_55
    obtain ⟨⟨cBX0, cBX1, cBX2, cBX3, cBX4, cBX5, cBX6, cBX7⟩, _⟩ := ZBX_58.out.eight
    obtain ⟨⟨cBY0, cBY1, cBY2, cBY3, cBY4, cBY5, cBY6, cBY7⟩, _⟩ := ZBY_61.out.eight
    go_wp2_with fail
    refine (S2.out pX pY w12 (ZRX_56.out) (ZRY_59.out)).mono ?_
    rintro _ w13 ⟨rfl, hb13⟩
    have ZOV_62 := hid (own_on ZOV_50.out hb13)
    clear ZOV_50
    have M13 := M12.trans (hb13.mono M12.size)
    clear M12
    have ZH_63 := hid (ZH_51.out.below hb13 (ZH_51.out.lt (by simp)))
    clear ZH_51
    have ZBA_64 := hid (ZBA_53.out.below hb13 (ZBA_53.out.lt (by simp)))
    clear ZBA_53
    have ZRX_65 := hid (ZRX_56.out.on hb13)
    clear ZRX_56
    have ZVX_66 := hid (ZVX_57.out.on hb13)
    clear ZVX_57
    have ZBX_67 := hid (ZBX_58.out.below hb13 (ZBX_58.out.lt (by simp)))
    clear ZBX_58
    have ZRY_68 := hid (ZRY_59.out.on hb13)
    clear ZRY_59
    have ZVY_69 := hid (ZVY_60.out.on hb13)
    clear ZVY_60
    have ZBY_70 := hid (ZBY_61.out.below hb13 (ZBY_61.out.lt (by simp)))
    clear ZBY_61
    have k13 := k12.trans (hb13.mono k12.size)
    clear k12
    clear hb13 S2 cBX0 cBX1 cBX2 cBX3 cBX4 cBX5 cBX6 cBX7 cBY0 cBY1 cBY2 cBY3 cBY4 cBY5 cBY6 cBY7
    clear ZRX_65
    clear ZRY_68
    clear ZBX_67
    clear ZBY_70
    go_wp2_with fail
    refine (S3.out AX AY cX cY w13 (ZVX_66.out) (ZVY_69.out)).mono ?_
    rintro _ w14 ⟨rfl, hb14⟩
    have ZOV_71 := hid (own_on ZOV_62.out hb14)
    clear ZOV_62
    have M14 := M13.trans (hb14.mono M13.size)
    clear M13
    have ZH_72 := hid (ZH_63.out.below hb14 (ZH_63.out.lt (by simp)))
    clear ZH_63
    have ZBA_73 := hid (ZBA_64.out.below hb14 (ZBA_64.out.lt (by simp)))
    clear ZBA_64
    have ZVX_74 := hid (ZVX_66.out.on hb14)
    clear ZVX_66
    have ZVY_75 := hid (ZVY_69.out.on hb14)
    clear ZVY_69
    have k14 := k13.trans (hb14.mono k13.size)
    clear k13
    clear hb14 S3
    clear ZVX_74
    clear ZVY_75
    obtain ⟨⟨cBA0, cBA1, cBA2, cBA3, cBA4, cBA5, cBA6, cBA7⟩, _⟩ := ZBA_73.out.eight
    have K14 := hid k14
    have HM := hid M14
    clear k14 M14
    go_wp2_with fail
    clear cBA0 cBA1 cBA2 cBA3 cBA4 cBA5 cBA6 cBA7
    go_loopw [25, 103] (fun x25 i wr => ∃ (k : Nat) (zs : List Int), k ≤ S.V.length ∧ i = .int .i64 k ∧ zs.length = S.V.length ∧ wr.ownsRow w3.heap.size 2 1 (.slice pA.AV S.V.length pA.cV) S.V.length (zs.map (Value.int .i64)) ∧ BoxL wr w4.heap.size [.int .i64 S.sch, .int .i64 S.dim, .slice pA.AL S.L.length pA.cL, .slice pA.AV S.V.length pA.cV, .int .i64 S.scale, .int .i64 S.wide, .slice pA.AE S.lev.length pA.cE, .slice pA.AN S.neg.length pA.cN] ∧ Below w3.heap.size w14 wr) (fun _ i _ => S.V.length - (intOf i).toNat)
    case atStart => exact ⟨0, S.V, by omega, rfl, rfl, ZOV_71.out, ZBA_73.out, Below.refl _ _⟩
    case round =>
      obtain ⟨k, zs, hkx, rfl, hz, hown, hbx, hbr⟩ := hrel
      have HZ := hid hz
      have HO := hid hown
      have HB9 := hid hbx
      have f3 := (hbx 3 _ rfl).1
      by_cases hlt : k < S.V.length
      · obtain ⟨b, hg, hgb, hgc, hgf⟩ := own_cellk hown (show k < zs.length by omega)
        have hgl := HLT.out b hg
        rw [hg] at f3
        have HGE := hid hg
        clear hz hown hbx hg
        go_wp2_with fail
        go_roundw
        case rel =>
          refine ⟨k + 1, zs.set k (wrap64 (zs.getD k 0 + 1)), by omega, by go_num, by rw [List.length_set]; exact HZ.out, ?_, HB9.out.other (by first | (show w4.heap.size ≠ b; omega) | (show b ≠ w4.heap.size; omega) | (simp; omega)) _, hbr.setCell hgb _⟩
          have h := HO.out
          rw [HGE.out] at h ⊢
          have h := (h.stored k (.int .i64 (wrap64 (zs.getD k 0 + 1)))).1
          rw [← List.map_set] at h
          exact h
        case measure => simp [intOf]; omega
      · obtain rfl : k = S.V.length := by omega
        have k15 : Below w.heap.size w wr := K14.out.trans (hbr.mono (by have := HHL.out; omega))
        have M15 := HM.out.trans hbr
        have YH15 := hid (ZH_72.out.below hbr (by have h8 := HHL.out; omega))
        have RW15 := hid ((RW.out.below M15).more M15.size)
        clear hz hown hbx HZ HO HB9 f3 hbr M15 ZH_72
        go_wp2_with fail
        refine region_ten (C := Below wr.heap.size wr) (by kernel_rfl) (by kernel_rfl) (belowN _ _ 1) ?_
        go_big_quiet_want
        go_big_quiet_op
        first | go_big_quiet_on | (refine ⟨_, fun _ _ => rfl, ?_⟩; go_big_quiet_on)
        go_big_quiet_want
        go_big_quiet_op
        first | go_big_quiet_on | (refine ⟨_, fun _ _ => rfl, ?_⟩; go_big_quiet_on)
        go_big_quiet_want
        refine ⟨.agg #[.int .i64 hs, .int .i64 hk, .int .i64 hw], fun W hW => ?_, ?_⟩
        · have HQ := YH15.out.below hW (YH15.out.lt (by simp))
          have q0 := (HQ 0 _ rfl).1
          have q1 := (HQ 1 _ rfl).1
          have q2 := (HQ 2 _ rfl).1
          go_simp
        simp only [Act.put, List.setIfInBounds_toArray, List.set_cons_zero, List.set_cons_succ]
        go_big_quiet_on
        go_big_quiet_want
        go_big_quiet_op
        first | go_big_quiet_on | (refine ⟨_, fun _ _ => rfl, ?_⟩; go_big_quiet_on)
        go_big_quiet_want
        go_big_quiet_op
        go_big_quiet_call ((intro hW; refine (CC.out _).mono ?_; rintro _ w' ⟨rfl, hb⟩; exact ⟨rfl, hW.trans (hb.mono hW.size)⟩))
        go_big_quiet_want
        refine ⟨.agg #[.int .i64 hs, .int .i64 hk, .int .i64 hw], fun W hW => ?_, ?_⟩
        · have HQ := YH15.out.below hW (YH15.out.lt (by simp))
          have q0 := (HQ 0 _ rfl).1
          have q1 := (HQ 1 _ rfl).1
          have q2 := (HQ 2 _ rfl).1
          go_simp
        simp only [Act.put, List.setIfInBounds_toArray, List.set_cons_zero, List.set_cons_succ]
        go_big_quiet_on
        go_big_quiet_want
        go_big_quiet_op
        first | go_big_quiet_on | (refine ⟨_, fun _ _ => rfl, ?_⟩; go_big_quiet_on)
        go_big_quiet_want
        go_big_quiet_op
        go_big_quiet_call ((intro hW; refine (DC.out _).mono ?_; rintro _ w' ⟨rfl, hb⟩; exact ⟨rfl, hW.trans (hb.mono hW.size)⟩))
        go_big_quiet_want
        go_big_quiet_op
        first | go_big_quiet_on | (refine ⟨_, fun _ _ => rfl, ?_⟩; go_big_quiet_on)
        go_big_quiet_want
        go_big_quiet_op
        first | go_big_quiet_on | (refine ⟨_, fun _ _ => rfl, ?_⟩; go_big_quiet_on)
        go_big_quiet_want
        go_big_quiet_op
        first | go_big_quiet_on | (refine ⟨_, fun _ _ => rfl, ?_⟩; go_big_quiet_on)
        go_big_quiet_want
        go_big_quiet_op
        first | go_big_quiet_on | (refine ⟨_, fun _ _ => rfl, ?_⟩; go_big_quiet_on)
        go_big_quiet_want
        go_big_quiet_op
        first | go_big_quiet_on | (refine ⟨_, fun _ _ => rfl, ?_⟩; go_big_quiet_on)
        go_big_quiet_want
        go_big_quiet_op
        go_big_quiet_call ((intro hW; refine (S4.out _ _ _ _ _ (HG.out.on (k15.trans (hW.mono k15.size))) (RW15.out.on hW)).mono ?_; rintro _ w' ⟨rfl, hb⟩; exact ⟨rfl, hW.trans (hb.mono hW.size)⟩))
        go_big_quiet_want
        go_big_quiet_op
        first | go_big_quiet_on | (refine ⟨_, fun _ _ => rfl, ?_⟩; go_big_quiet_on)
        go_big_quiet_want
        go_big_quiet_op
        first | go_big_quiet_on | (refine ⟨_, fun _ _ => rfl, ?_⟩; go_big_quiet_on)
        refine wpQuiet_nil ?_
        intro w16 hb16
        have k16 := k15.trans (hb16.mono k15.size)
        go_wp2_with fail
        go_ret
        exact ⟨rfl, k16⟩
  · rw [Bool.eq_false_iff.2 hf] at CF
    clear hf rg rl rn ug ul un
    go_enter Tryz.func3, Tryz.ntmps3
    go_wp2_with fail
    refine (ps_live _).mono ?_
    rintro _ w1 ⟨rfl, hb1⟩
    have k1 : Below w.heap.size w w1 := Below.trans (by go_grown) (hb1.mono (by simp))
    have YH := hid (HBX.out.below hb1 (by simp))
    clear hb1 HBX
    go_wp2_with fail
    refine (CF.out w1 (HG.out.on k1) (HL.out.on k1)).mono ?_
    rintro _ w2 ⟨rfl, hw2⟩
    have g2 := sg_up w1 (.cells #[.slice Ag g.length cg, .slice Al l.length cl] 24)
    rw [hw2] at g2
    have ZH_1 := hid (YH.out.below g2 (YH.out.lt (by simp)))
    clear YH
    have k2 := k1.trans (g2.mono k1.size)
    clear k1
    clear g2 CF hw2
    go_wp2_with fail
    go_ret
    exact ⟨rfl, k2⟩
theorem law_types : ∀ t ∈ Tryz.f3.params.toList, Tryz.prog.readableRec t = true ∧ t < Tryz.prog.types.size := by
  have h : (Tryz.f3.params.toList.all fun t => Tryz.prog.readableRec t && decide (t < Tryz.prog.types.size)) = true := by kernel_rfl
  intro t ht
  simpa using List.all_eq_true.1 h t ht
set_option maxRecDepth 100000 in
theorem lifted (os : Os) (started : os.Started) (H : Type) (enc : TypeId × Value → H) :
    ReturnsInHanded {} Tryz.checked os 3 .any (Rows.pressPressesSpec.pre6 enc Tryz.prog Tryz.f3 Rows.pressPressesRow.domain false) (Rows.pressPressesSpec.post enc Tryz.prog Tryz.f3 false true false false) := by
  refine returnsInHanded_of_change (C := Tryz.checked) own started (by kernel_rfl) Tryz.func3
    (ChangeSpec.witness6 (enc := enc) (C := Tryz.checked) false ⟨#[], #[.agg #[.int .i64 0, .int .i64 0, .int .i64 0], .slice none 0 0, .slice none 0 0, .int .u64 0, .slice none 0 0, .int .i64 0], []⟩ 8 (by kernel_rfl) (by kernel_rfl) (by kernel_rfl) (by kernel_rfl)) ?_
  intro W base args ds gs before hval0 hW hcnd _
  have hval : ∀ (j : Nat) t v, Tryz.f3.params[j]? = some t → args[j]? = some v → Value.okWide Tryz.prog W .any base t v := hval0
  have hW' := hW
  obtain ⟨p, q, hA0, hV, rfl, hfz, hnd⟩ := hW
  have hA : DataW.TrodAll enc Tryz.prog W 0 (fun _ => true) true Tryz.f3.params.toList args.toList ds p := hA0
  rw [Tryz.params3] at hA hval
  obtain ⟨v0, vs0, d0, ds0, p0, q0, hargs, rfl, rfl, h0, r0⟩ := trodAll_cons hA
  obtain ⟨v1, vs1, d1, ds1, p1, q1, rfl, rfl, rfl, h1, r1⟩ := trodAll_cons r0
  obtain ⟨v2, vs2, d2, ds2, p2, q2, rfl, rfl, rfl, h2, r2⟩ := trodAll_cons r1
  obtain ⟨v3, vs3, d3, ds3, p3, q3, rfl, rfl, rfl, h3, r3⟩ := trodAll_cons r2
  obtain ⟨v4, vs4, d4, ds4, p4, q4, rfl, rfl, rfl, h4, r4⟩ := trodAll_cons r3
  obtain ⟨v5, vs5, d5, ds5, p5, q5, rfl, rfl, rfl, h5, r5⟩ := trodAll_cons r4
  obtain ⟨rfl, rfl, rfl⟩ := trodAll_nil r5
  obtain rfl : args = #[v0, v1, v2, v3, v4, v5] := by cases args; simp_all
  obtain ⟨rfl, rfl⟩ := trodVars_none hV
  obtain ⟨hs, hk, hw, rfl, ish, ikh, iwh⟩ := open_how (hval 0 23 v0 rfl rfl) h0
  obtain ⟨Ag, g, cg, rfl, rdg, ig, lcg, lmg⟩ := open_nums Tryz.underlying24 Tryz.underlying2 cells_i64' (hval 1 24 v1 rfl rfl) h1
  obtain ⟨Al, l, cl, rfl, rdl, il, lcl, lml⟩ := open_nums Tryz.underlying24 Tryz.underlying2 cells_i64' (hval 2 24 v2 rfl rfl) h2
  obtain ⟨seed, rfl, rfl, rfl, w3⟩ := open_int Tryz.underlying25 (hval 3 25 v3 rfl rfl) h3
  obtain ⟨Ann, nn, cnn, rfl, rdnn, inn, lcnn, lmnn⟩ := open_nums Tryz.underlying26 Tryz.underlying3 cells_int (hval 4 26 v4 rfl rfl) h4
  obtain ⟨dim, rfl, rfl, rfl, w5⟩ := open_int Tryz.underlying3 (hval 5 3 v5 rfl rfl) h5
  clear hA0 hval0
  refine (walk hs hk hw Ag g cg Al l cl seed Ann nn cnn dim W ish ikh iwh rdg (fun x hx => I64.of_wf (ig x hx)) lcg lmg rdl (fun x hx => I64.of_wf (il x hx)) lcl lml (U64.of_wf w3) rdnn (fun x hx => I64.of_wf (inn x hx)) lcnn lmnn (I64.of_wf w5)).mono fun e W' ⟨he, hb⟩ => ?_
  subst he
  exact ⟨_, rfl, law_post laid (fun t ht => law_types t ht) rfl hW' ⟨rfl, rfl, rfl⟩ (by kernel_rfl) Tryz.underlying4 hb⟩

theorem over : Rows.pressPressesRow.holds Tryz.pinned (OpenSpec.ofChange Rows.pressPressesSpec) :=
  OpenClaim.holds_of_wide 3 Tryz.f3 rfl rfl rfl rfl rfl rfl rfl ⟨rfl, rfl, rfl, rfl, rfl⟩ rfl rfl rfl rfl rfl (by kernel_rfl) Tryz.func3 (by kernel_rfl)
    (of_decide_eq_true (by kernel_rfl)) (by unfold Func.isWrapper; first | (rw [if_pos (by decide +kernel)]; kernel_rfl) | (rw [if_neg (by decide +kernel)]; exact ⟨rfl, rfl⟩))
    (fun os started H enc _ => lifted os started H enc)

theorem proved : Rows.PressPressesSaid := over
end Go.Proofs.YtecgbelgoomneaaGreat.PressPresses
