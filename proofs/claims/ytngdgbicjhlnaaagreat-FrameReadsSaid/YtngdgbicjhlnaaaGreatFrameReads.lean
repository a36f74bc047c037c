
/-
  FrameReads answers true for every input. No condition.
-/
import Derived.Test.YtngdgbicjhlnaaaGreatRg
import Derived.Test.YtngdgbicjhlnaaaGreatRf
import Derived.Test.YtngdgbicjhlnaaaGreatRc
namespace Go.Proofs.YtngdgbicjhlnaaaGreat.FrameReads
open Go.ChangeShapes Go.WideShapes Go.ChangeAt Go.RowKit
set_option maxHeartbeats 400000
set_option linter.unusedVariables false
open Go.Proofs.YtngdgbicjhlnaaaGreat
set_option maxHeartbeats 8000000 in
set_option maxRecDepth 100000 in
theorem walk (Ab : Option Addr) (b : List Int) (cb : Nat) (w : World) (rb : Rd (Value.int .u8) w w.heap.size Ab b) (ub : U8s b) (lb : b.length ≤ cb) (mb : cb ≤ 9223372036854775807) :
    Calls Tryz.prog 3 #[.slice Ab b.length cb] w fun e w' => e = .returned (.bool true) ∧ Below w.heap.size w w' := by
  have RB := hid (fun W (h : Below w.heap.size w W) => rb.on h)
  by_cases hlen : b.length ≤ 3000
  · have hlb : ¬ ((b.length : Int) > 3000) := by omega
    have hse : sealE b = 0 := if_neg (by omega)
    have hsv : sealV b = b ++ le4 (sumN b) := if_neg (by omega)
    have hsl : (sealV b).length = b.length + 4 := by rw [hsv, List.length_append, le4_len]
    have us := sealV_u8 ub
    have CSl := hid (fun W (h : Rd (Value.int .u8) W W.heap.size Ab b) => crc_Seal (A := Ab) (c := cb) b (by omega) ub W h)
    rw [hse] at CSl
    obtain ⟨S, hS⟩ : ∃ S, sealV b = S := ⟨_, rfl⟩
    rw [hS] at CSl hsl us
    have hS4 : S.length ≤ 3004 := by omega
    have af := rd_all ub
    have ax := rd_all us
    have CP1 := fun W (h : Rd (Value.int .u8) W W.heap.size Ab b) => fr_Read Ab cb b (by omega) lb mb ub W h
    have CR1 := fun W (h : Rd (Value.int .u8) W W.heap.size Ab b) => ref_ReadF (A := Ab) (c := cb) b (by omega) lb mb ub W h
    have CP2 := fun (A : Option Addr) (c : Nat) W (h1 : S.length ≤ c) (h2 : c ≤ 9223372036854775807) (h : Rd (Value.int .u8) W W.heap.size A S) => fr_Read A c S (by omega) h1 h2 us W h
    have CR2 := fun (A : Option Addr) (c : Nat) W (h1 : S.length ≤ c) (h2 : c ≤ 9223372036854775807) (h : Rd (Value.int .u8) W W.heap.size A S) => ref_ReadF (A := A) (c := c) S (by omega) h1 h2 us W h
    obtain ⟨⟨f, E⟩, hf⟩ : ∃ r, rdR b = r := ⟨_, rfl⟩
    obtain ⟨⟨x, J⟩, hx⟩ : ∃ r, rdR S = r := ⟨_, rfl⟩
    rw [hf] at CP1 CR1 af
    rw [hx] at CP2 CR2 ax
    simp only at af ax
    have lf : lnS 100000 f.S := ⟨by omega, by omega, by omega, by omega⟩
    have lx : lnS 100000 x.S := ⟨by omega, by omega, by omega, by omega⟩
    have KP1 : Hid (∀ W, Rd (Value.int .u8) W W.heap.size Ab b → Calls Tryz.prog 5 #[.slice Ab b.length cb] W fun e w' => ∃ p : SentP, e = .returned (.tuple #[.agg #[.int .i64 f.knd, .int .i64 f.frm, .int .i64 f.stp, .int .i64 f.S.sch, .int .i64 f.S.dim, .slice p.AL f.S.L.length p.cL, .slice p.AV f.S.V.length p.cV, .int .i64 f.S.scale, .int .i64 f.S.wide, .slice p.AE f.S.lev.length p.cE, .slice p.AN f.S.neg.length p.cN], .int .i64 E]) ∧ RdS w' w'.heap.size f.S p ∧ Below W.heap.size W w') := hid CP1
    have KR1 : Hid (∀ W, Rd (Value.int .u8) W W.heap.size Ab b → Calls Tryz.prog 6 #[.slice Ab b.length cb] W fun e w' => ∃ p : SentP, e = .returned (.tuple #[.agg #[.int .i64 f.knd, .int .i64 f.frm, .int .i64 f.stp, .int .i64 f.S.sch, .int .i64 f.S.dim, .slice p.AL f.S.L.length p.cL, .slice p.AV f.S.V.length p.cV, .int .i64 f.S.scale, .int .i64 f.S.wide, .slice p.AE f.S.lev.length p.cE, .slice p.AN f.S.neg.length p.cN], .int .i64 E]) ∧ RdS w' w'.heap.size f.S p ∧ Below W.heap.size W w') := hid CR1
    have KP2 : Hid (∀ (A : Option Addr) (c : Nat) W, S.length ≤ c → c ≤ 9223372036854775807 → Rd (Value.int .u8) W W.heap.size A S → Calls Tryz.prog 5 #[.slice A S.length c] W fun e w' => ∃ p : SentP, e = .returned (.tuple #[.agg #[.int .i64 x.knd, .int .i64 x.frm, .int .i64 x.stp, .int .i64 x.S.sch, .int .i64 x.S.dim, .slice p.AL x.S.L.length p.cL, .slice p.AV x.S.V.length p.cV, .int .i64 x.S.scale, .int .i64 x.S.wide, .slice p.AE x.S.lev.length p.cE, .slice p.AN x.S.neg.length p.cN], .int .i64 J]) ∧ RdS w' w'.heap.size x.S p ∧ Below W.heap.size W w') := hid CP2
    have KR2 : Hid (∀ (A : Option Addr) (c : Nat) W, S.length ≤ c → c ≤ 9223372036854775807 → Rd (Value.int .u8) W W.heap.size A S → Calls Tryz.prog 6 #[.slice A S.length c] W fun e w' => ∃ p : SentP, e = .returned (.tuple #[.agg #[.int .i64 x.knd, .int .i64 x.frm, .int .i64 x.stp, .int .i64 x.S.sch, .int .i64 x.S.dim, .slice p.AL x.S.L.length p.cL, .slice p.AV x.S.V.length p.cV, .int .i64 x.S.scale, .int .i64 x.S.wide, .slice p.AE x.S.lev.length p.cE, .slice p.AN x.S.neg.length p.cN], .int .i64 J]) ∧ RdS w' w'.heap.size x.S p ∧ Below W.heap.size W w') := hid CR2
    have KSf : Hid (∀ (p q : SentP) W, RdS W W.heap.size f.S p → RdS W W.heap.size f.S q → Calls Tryz.prog 8 #[.agg #[.int .i64 f.knd, .int .i64 f.frm, .int .i64 f.stp, .int .i64 f.S.sch, .int .i64 f.S.dim, .slice p.AL f.S.L.length p.cL, .slice p.AV f.S.V.length p.cV, .int .i64 f.S.scale, .int .i64 f.S.wide, .slice p.AE f.S.lev.length p.cE, .slice p.AN f.S.neg.length p.cN], .agg #[.int .i64 f.knd, .int .i64 f.frm, .int .i64 f.stp, .int .i64 f.S.sch, .int .i64 f.S.dim, .slice q.AL f.S.L.length q.cL, .slice q.AV f.S.V.length q.cV, .int .i64 f.S.scale, .int .i64 f.S.wide, .slice q.AE f.S.lev.length q.cE, .slice q.AN f.S.neg.length q.cN]] W fun e w' => e = .returned (.bool true) ∧ Below W.heap.size W w') := hid (fun p q W h1 h2 => by
      have h := ref_SameF f f p q lf lf W (B := W.heap.size) (D := W.heap.size) (Nat.le_refl _) (Nat.le_refl _) h1 h2
      rw [sameF_self] at h
      exact h)
    have KSx : Hid (∀ (p q : SentP) W, RdS W W.heap.size x.S p → RdS W W.heap.size x.S q → Calls Tryz.prog 8 #[.agg #[.int .i64 x.knd, .int .i64 x.frm, .int .i64 x.stp, .int .i64 x.S.sch, .int .i64 x.S.dim, .slice p.AL x.S.L.length p.cL, .slice p.AV x.S.V.length p.cV, .int .i64 x.S.scale, .int .i64 x.S.wide, .slice p.AE x.S.lev.length p.cE, .slice p.AN x.S.neg.length p.cN], .agg #[.int .i64 x.knd, .int .i64 x.frm, .int .i64 x.stp, .int .i64 x.S.sch, .int .i64 x.S.dim, .slice q.AL x.S.L.length q.cL, .slice q.AV x.S.V.length q.cV, .int .i64 x.S.scale, .int .i64 x.S.wide, .slice q.AE x.S.lev.length q.cE, .slice q.AN x.S.neg.length q.cN]] W fun e w' => e = .returned (.bool true) ∧ Below W.heap.size W w') := hid (fun p q W h1 h2 => by
      have h := ref_SameF x x p q lx lx W (B := W.heap.size) (D := W.heap.size) (Nat.le_refl _) (Nat.le_refl _) h1 h2
      rw [sameF_self] at h
      exact h)
    clear CP1 CR1 CP2 CR2 hf hx af ax lf lx us hsl hsv hse hS ub rb lb mb
    go_enter Tryz.func3, Tryz.ntmps3
    go_wp2_with fail
    refine (fr_liveK _).mono ?_
    rintro _ w1 ⟨rfl, k1⟩
    go_wp2_with fail
    refine (KP1.out w1 (RB.out w1 k1)).mono ?_
    rintro _ w2 ⟨p, rfl, hr2, hb2⟩
    have k2 := k1.trans (hb2.mono k1.size)
    clear k1
    have RQa_2 := hid hr2
    clear hr2 hb2 KP1
    have g2 : Below w2.heap.size w2 (w2.alloc (.cells #[.int .i64 f.knd, .int .i64 f.frm, .int .i64 f.stp, .int .i64 f.S.sch, .int .i64 f.S.dim, .slice p.AL f.S.L.length p.cL, .slice p.AV f.S.V.length p.cV, .int .i64 f.S.scale, .int .i64 f.S.wide, .slice p.AE f.S.lev.length p.cE, .slice p.AN f.S.neg.length p.cN] 31)) := growd _ _
    have n2 : BoxL (w2.alloc (.cells #[.int .i64 f.knd, .int .i64 f.frm, .int .i64 f.stp, .int .i64 f.S.sch, .int .i64 f.S.dim, .slice p.AL f.S.L.length p.cL, .slice p.AV f.S.V.length p.cV, .int .i64 f.S.scale, .int .i64 f.S.wide, .slice p.AE f.S.lev.length p.cE, .slice p.AN f.S.neg.length p.cN] 31)) w2.heap.size (cellsG f p) := BoxL.new w2 (cellsG f p) 31
    go_wp2_with fail
    obtain ⟨w3, hw3⟩ : ∃ wn, (w2.alloc (.cells #[.int .i64 f.knd, .int .i64 f.frm, .int .i64 f.stp, .int .i64 f.S.sch, .int .i64 f.S.dim, .slice p.AL f.S.L.length p.cL, .slice p.AV f.S.V.length p.cV, .int .i64 f.S.scale, .int .i64 f.S.wide, .slice p.AE f.S.lev.length p.cE, .slice p.AN f.S.neg.length p.cN] 31)) = wn := ⟨_, rfl⟩
    rw [hw3] at g2 n2 ⊢
    clear hw3
    have RQa_3 := hid (RQa_2.out.on g2)
    clear RQa_2
    have k3 := k2.trans (g2.mono k2.size)
    clear k2
    have XA_3 := hid n2
    clear n2 g2
    refine (KR1.out w3 (RB.out w3 k3)).mono ?_
    rintro _ w4 ⟨q, rfl, hr4, hb4⟩
    have XA_4 := hid (XA_3.out.below hb4 (XA_3.out.lt (by simp [cellsG])))
    clear XA_3
    have RQa_4 := hid (RQa_3.out.on hb4)
    clear RQa_3
    have k4 := k3.trans (hb4.mono k3.size)
    clear k3
    have RQb_4 := hid hr4
    clear hr4 hb4 KR1
    have g4 : Below w4.heap.size w4 (w4.alloc (.cells #[.int .i64 f.knd, .int .i64 f.frm, .int .i64 f.stp, .int .i64 f.S.sch, .int .i64 f.S.dim, .slice q.AL f.S.L.length q.cL, .slice q.AV f.S.V.length q.cV, .int .i64 f.S.scale, .int .i64 f.S.wide, .slice q.AE f.S.lev.length q.cE, .slice q.AN f.S.neg.length q.cN] 31)) := growd _ _
    have n4 : BoxL (w4.alloc (.cells #[.int .i64 f.knd, .int .i64 f.frm, .int .i64 f.stp, .int .i64 f.S.sch, .int .i64 f.S.dim, .slice q.AL f.S.L.length q.cL, .slice q.AV f.S.V.length q.cV, .int .i64 f.S.scale, .int .i64 f.S.wide, .slice q.AE f.S.lev.length q.cE, .slice q.AN f.S.neg.length q.cN] 31)) w4.heap.size (cellsG f q) := BoxL.new w4 (cellsG f q) 31
    go_wp2_with fail
    obtain ⟨w5, hw5⟩ : ∃ wn, (w4.alloc (.cells #[.int .i64 f.knd, .int .i64 f.frm, .int .i64 f.stp, .int .i64 f.S.sch, .int .i64 f.S.dim, .slice q.AL f.S.L.length q.cL, .slice q.AV f.S.V.length q.cV, .int .i64 f.S.scale, .int .i64 f.S.wide, .slice q.AE f.S.lev.length q.cE, .slice q.AN f.S.neg.length q.cN] 31)) = wn := ⟨_, rfl⟩
    rw [hw5] at g4 n4 ⊢
    clear hw5
    have XA_5 := hid (XA_4.out.below g4 (XA_4.out.lt (by simp [cellsG])))
    clear XA_4
    have RQa_5 := hid (RQa_4.out.on g4)
    clear RQa_4
    have RQb_5 := hid (RQb_4.out.on g4)
    clear RQb_4
    have k5 := k4.trans (g4.mono k4.size)
    clear k4
    have XB_5 := hid n4
    clear n4 g4
    refine (CSl.out w5 (RB.out w5 k5)).mono ?_
    rintro _ w6 ⟨A6, c6, rfl, ho6, hb6⟩
    have XA_6 := hid (XA_5.out.below hb6 (XA_5.out.lt (by simp [cellsG])))
    clear XA_5
    have XB_6 := hid (XB_5.out.below hb6 (XB_5.out.lt (by simp [cellsG])))
    clear XB_5
    have RQa_6 := hid (RQa_5.out.on hb6)
    clear RQa_5
    have RQb_6 := hid (RQb_5.out.on hb6)
    clear RQb_5
    have k6 := k5.trans (hb6.mono k5.size)
    clear k5
    have hcap := own_cap ho6
    have RS_6 := hid (own_rd ho6)
    clear ho6 hb6 CSl
    obtain ⟨c0, c1, c2, c3, c4, c5, c6, c7, c8, c9, c10⟩ := (box_G XA_6.out).1
    obtain ⟨d0, d1, d2, d3, d4, d5, d6, d7, d8, d9, d10⟩ := (box_G XB_6.out).1
    go_wp2_with fail
    refine (KSf.out p q w6 RQa_6.out RQb_6.out).mono ?_
    rintro _ w7 ⟨rfl, hb7⟩
    clear c0 c1 c2 c3 c4 c5 c6 c7 c8 c9 c10 d0 d1 d2 d3 d4 d5 d6 d7 d8 d9 d10
    clear RQa_6 RQb_6 XA_6 XB_6
    have RS_7 := hid (RS_6.out.on hb7)
    clear RS_6
    have k7 := k6.trans (hb7.mono k6.size)
    clear k6
    clear hb7 KSf
    go_wp2_with fail
    refine (KP2.out A6 c6 w7 hcap.1 hcap.2 RS_7.out).mono ?_
    rintro _ w8 ⟨r, rfl, hr8, hb8⟩
    have RS_8 := hid (RS_7.out.on hb8)
    clear RS_7
    have k8 := k7.trans (hb8.mono k7.size)
    clear k7
    have RQc_8 := hid hr8
    clear hr8 hb8 KP2
    have g8 : Below w8.heap.size w8 (w8.alloc (.cells #[.int .i64 x.knd, .int .i64 x.frm, .int .i64 x.stp, .int .i64 x.S.sch, .int .i64 x.S.dim, .slice r.AL x.S.L.length r.cL, .slice r.AV x.S.V.length r.cV, .int .i64 x.S.scale, .int .i64 x.S.wide, .slice r.AE x.S.lev.length r.cE, .slice r.AN x.S.neg.length r.cN] 31)) := growd _ _
    have n8 : BoxL (w8.alloc (.cells #[.int .i64 x.knd, .int .i64 x.frm, .int .i64 x.stp, .int .i64 x.S.sch, .int .i64 x.S.dim, .slice r.AL x.S.L.length r.cL, .slice r.AV x.S.V.length r.cV, .int .i64 x.S.scale, .int .i64 x.S.wide, .slice r.AE x.S.lev.length r.cE, .slice r.AN x.S.neg.length r.cN] 31)) w8.heap.size (cellsG x r) := BoxL.new w8 (cellsG x r) 31
    go_wp2_with fail
    obtain ⟨w9, hw9⟩ : ∃ wn, (w8.alloc (.cells #[.int .i64 x.knd, .int .i64 x.frm, .int .i64 x.stp, .int .i64 x.S.sch, .int .i64 x.S.dim, .slice r.AL x.S.L.length r.cL, .slice r.AV x.S.V.length r.cV, .int .i64 x.S.scale, .int .i64 x.S.wide, .slice r.AE x.S.lev.length r.cE, .slice r.AN x.S.neg.length r.cN] 31)) = wn := ⟨_, rfl⟩
    rw [hw9] at g8 n8 ⊢
    clear hw9
    have RS_9 := hid (RS_8.out.on g8)
    clear RS_8
    have RQc_9 := hid (RQc_8.out.on g8)
    clear RQc_8
    have k9 := k8.trans (g8.mono k8.size)
    clear k8
    have XC_9 := hid n8
    clear n8 g8
    refine (KR2.out A6 c6 w9 hcap.1 hcap.2 RS_9.out).mono ?_
    rintro _ w10 ⟨s, rfl, hr10, hb10⟩
    have XC_10 := hid (XC_9.out.below hb10 (XC_9.out.lt (by simp [cellsG])))
    clear XC_9
    have RS_10 := hid (RS_9.out.on hb10)
    clear RS_9
    have RQc_10 := hid (RQc_9.out.on hb10)
    clear RQc_9
    have k10 := k9.trans (hb10.mono k9.size)
    clear k9
    have RQd_10 := hid hr10
    clear hr10 hb10 KR2
    have g10 : Below w10.heap.size w10 (w10.alloc (.cells #[.int .i64 x.knd, .int .i64 x.frm, .int .i64 x.stp, .int .i64 x.S.sch, .int .i64 x.S.dim, .slice s.AL x.S.L.length s.cL, .slice s.AV x.S.V.length s.cV, .int .i64 x.S.scale, .int .i64 x.S.wide, .slice s.AE x.S.lev.length s.cE, .slice s.AN x.S.neg.length s.cN] 31)) := growd _ _
    have n10 : BoxL (w10.alloc (.cells #[.int .i64 x.knd, .int .i64 x.frm, .int .i64 x.stp, .int .i64 x.S.sch, .int .i64 x.S.dim, .slice s.AL x.S.L.length s.cL, .slice s.AV x.S.V.length s.cV, .int .i64 x.S.scale, .int .i64 x.S.wide, .slice s.AE x.S.lev.length s.cE, .slice s.AN x.S.neg.length s.cN] 31)) w10.heap.size (cellsG x s) := BoxL.new w10 (cellsG x s) 31
    have m10 := XC_10.out.below g10 (XC_10.out.lt (by simp [cellsG]))
    obtain ⟨c0, c1, c2, c3, c4, c5, c6, c7, c8, c9, c10⟩ := (box_G m10).1
    obtain ⟨d0, d1, d2, d3, d4, d5, d6, d7, d8, d9, d10⟩ := (box_G n10).1
    have RX := hid (RQc_10.out.on g10)
    have RY := hid (RQd_10.out.on g10)
    have CSx := hid (KSx.out r s _ RX.out RY.out)
    have k11 : Below w.heap.size w (w10.alloc (.cells #[.int .i64 x.knd, .int .i64 x.frm, .int .i64 x.stp, .int .i64 x.S.sch, .int .i64 x.S.dim, .slice s.AL x.S.L.length s.cL, .slice s.AV x.S.V.length s.cV, .int .i64 x.S.scale, .int .i64 x.S.wide, .slice s.AE x.S.lev.length s.cE, .slice s.AN x.S.neg.length s.cN] 31)) := k10.trans (g10.mono k10.size)
    clear m10 n10 g10 KSx RX RY
    go_wp2_with fail
    refine CSx.out.mono ?_
    rintro _ w12 ⟨rfl, hb12⟩
    go_wp2_with fail
    go_ret
    exact ⟨rfl, k11.trans (hb12.mono k11.size)⟩
  · have hlb : ((b.length : Int) > 3000) := by omega
    clear hlen ub rb lb mb
    go_enter Tryz.func3, Tryz.ntmps3
    go_wp2_with fail
    refine (fr_liveK _).mono ?_
    rintro _ w1 ⟨rfl, k1⟩
    go_wp2_with fail
    go_ret
    exact ⟨rfl, k1⟩
theorem law_types : ∀ t ∈ Tryz.f3.params.toList, Tryz.prog.readableRec t = true ∧ t < Tryz.prog.types.size := by
  have h : (Tryz.f3.params.toList.all fun t => Tryz.prog.readableRec t && decide (t < Tryz.prog.types.size)) = true := by kernel_rfl
  intro t ht
  simpa using List.all_eq_true.1 h t ht
set_option maxRecDepth 100000 in
theorem lifted (os : Os) (started : os.Started) (H : Type) (enc : TypeId × Value → H) :
    ReturnsInHanded {} Tryz.checked os 3 .any (Rows.frameReadsSpec.pre6 enc Tryz.prog Tryz.f3 Rows.frameReadsRow.domain false) (Rows.frameReadsSpec.post enc Tryz.prog Tryz.f3 false true false false) := by
  refine returnsInHanded_of_change (C := Tryz.checked) own started (by kernel_rfl) Tryz.func3
    (ChangeSpec.witness6 (enc := enc) (C := Tryz.checked) false ⟨#[], #[.slice none 0 0], []⟩ 8 (by kernel_rfl) (by kernel_rfl) (by kernel_rfl) (by kernel_rfl)) ?_
  intro W base args ds gs before hval0 hW hcnd _
  have hval : ∀ (j : Nat) t v, Tryz.f3.params[j]? = some t → args[j]? = some v → Value.okWide Tryz.prog W .any base t v := hval0
  have hW' := hW
  obtain ⟨p, q, hA0, hV, rfl, hfz, hnd⟩ := hW
  have hA : DataW.TrodAll enc Tryz.prog W 0 (fun _ => true) true Tryz.f3.params.toList args.toList ds p := hA0
  rw [Tryz.params3] at hA hval
  obtain ⟨v0, vs0, d0, ds0, p0, q0, hargs, rfl, rfl, h0, r0⟩ := trodAll_cons hA
  obtain ⟨rfl, rfl, rfl⟩ := trodAll_nil r0
  obtain rfl : args = #[v0] := by cases args; simp_all
  obtain ⟨rfl, rfl⟩ := trodVars_none hV
  obtain ⟨Ab, b, cb, rfl, rdb, ib, lcb, lmb⟩ := open_nums Tryz.underlying22 Tryz.underlying5 cells_u8 (hval 0 22 v0 rfl rfl) h0
  clear hA0 hval0
  refine (walk Ab b cb W rdb (fun x hx => bounds_u8 (ib x hx)) lcb lmb).mono fun e W' ⟨he, hb⟩ => ?_
  subst he
  exact ⟨_, rfl, law_post laid (fun t ht => law_types t ht) rfl hW' ⟨rfl, rfl, rfl⟩ (by kernel_rfl) Tryz.underlying4 hb⟩

theorem over : Rows.frameReadsRow.holds Tryz.pinned (OpenSpec.ofChange Rows.frameReadsSpec) :=
  OpenClaim.holds_of_wide 3 Tryz.f3 rfl rfl rfl rfl rfl rfl rfl ⟨rfl, rfl, rfl, rfl, rfl⟩ rfl rfl rfl rfl rfl (by kernel_rfl) Tryz.func3 (by kernel_rfl)
    (of_decide_eq_true (by kernel_rfl)) (by unfold Func.isWrapper; first | (rw [if_pos (by decide +kernel)]; kernel_rfl) | (rw [if_neg (by decide +kernel)]; exact ⟨rfl, rfl⟩))
    (fun os started H enc _ => lifted os started H enc)

theorem proved : Rows.FrameReadsSaid := over
end Go.Proofs.YtngdgbicjhlnaaaGreat.FrameReads
