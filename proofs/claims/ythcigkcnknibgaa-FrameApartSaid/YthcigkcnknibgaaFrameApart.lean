
/-
  FrameApart answers true for every input. No condition.
-/
import Derived.Test.YthcigkcnknibgaaKf
import Derived.Test.YthcigkcnknibgaaKc
namespace Go.Proofs.Ythcigkcnknibgaa.FrameApart
open Go.ChangeShapes Go.WideShapes Go.ChangeAt Go.RowKit
set_option maxHeartbeats 400000
set_option linter.unusedVariables false
open Go.Proofs.Ythcigkcnknibgaa
theorem eq_of_or {a : Int} (h : a = 0 ∨ a = 1) (h0 : ¬ a = 0) : a = 1 := h.elim (fun e => absurd e h0) id
set_option maxHeartbeats 8000000 in
set_option maxRecDepth 100000 in
theorem walk (f : FrameV) (p : SentP) (g : FrameV) (q : SentP) (w : World) (rf : RdS w w.heap.size f.S p) (wf : wfF f) (cp : capS f.S p) (rg : RdS w w.heap.size g.S q) (wg : wfF g) (cq : capS g.S q) :
    Calls Try.prog 4 #[encF f p, encF g q] w fun e w' => e = .returned (.bool true) ∧ Below w.heap.size w w' := by
  have CL := hid (fun W => fr_liveK W)
  have CBf := hid (fun W => (show Calls Try.prog 6 #[.agg #[.int .i64 f.S.sch, .int .i64 f.S.dim, .slice p.AL f.S.L.length p.cL, .slice p.AV f.S.V.length p.cV, .int .i64 f.S.scale, .int .i64 f.S.wide, .slice p.AE f.S.lev.length p.cE, .slice p.AN f.S.neg.length p.cN]] W fun e w' => e = .returned (.bool (bigS f.S)) ∧ Below W.heap.size W w' by exact ref_Big f.S p W))
  have CBg := hid (fun W => (show Calls Try.prog 6 #[.agg #[.int .i64 g.S.sch, .int .i64 g.S.dim, .slice q.AL g.S.L.length q.cL, .slice q.AV g.S.V.length q.cV, .int .i64 g.S.scale, .int .i64 g.S.wide, .slice q.AE g.S.lev.length q.cE, .slice q.AN g.S.neg.length q.cN]] W fun e w' => e = .returned (.bool (bigS g.S)) ∧ Below W.heap.size W w' by exact ref_Big g.S q W))
  have HBX : Hid (BoxL ((w.alloc (.cells #[.int .i64 f.knd, .int .i64 f.frm, .int .i64 f.stp, .int .i64 f.S.sch, .int .i64 f.S.dim, .slice p.AL f.S.L.length p.cL, .slice p.AV f.S.V.length p.cV, .int .i64 f.S.scale, .int .i64 f.S.wide, .slice p.AE f.S.lev.length p.cE, .slice p.AN f.S.neg.length p.cN] 29)).alloc (.cells #[.int .i64 g.knd, .int .i64 g.frm, .int .i64 g.stp, .int .i64 g.S.sch, .int .i64 g.S.dim, .slice q.AL g.S.L.length q.cL, .slice q.AV g.S.V.length q.cV, .int .i64 g.S.scale, .int .i64 g.S.wide, .slice q.AE g.S.lev.length q.cE, .slice q.AN g.S.neg.length q.cN] 29)) w.heap.size (cellsG f p)) := hid ((BoxL.new w _ _).below (growd _ _) (by simp))
  have HBY : Hid (BoxL ((w.alloc (.cells #[.int .i64 f.knd, .int .i64 f.frm, .int .i64 f.stp, .int .i64 f.S.sch, .int .i64 f.S.dim, .slice p.AL f.S.L.length p.cL, .slice p.AV f.S.V.length p.cV, .int .i64 f.S.scale, .int .i64 f.S.wide, .slice p.AE f.S.lev.length p.cE, .slice p.AN f.S.neg.length p.cN] 29)).alloc (.cells #[.int .i64 g.knd, .int .i64 g.frm, .int .i64 g.stp, .int .i64 g.S.sch, .int .i64 g.S.dim, .slice q.AL g.S.L.length q.cL, .slice q.AV g.S.V.length q.cV, .int .i64 g.S.scale, .int .i64 g.S.wide, .slice q.AE g.S.lev.length q.cE, .slice q.AN g.S.neg.length q.cN] 29)) (w.heap.size + 1) (cellsG g q)) := hid (by have h := BoxL.new (w.alloc (.cells #[.int .i64 f.knd, .int .i64 f.frm, .int .i64 f.stp, .int .i64 f.S.sch, .int .i64 f.S.dim, .slice p.AL f.S.L.length p.cL, .slice p.AV f.S.V.length p.cV, .int .i64 f.S.scale, .int .i64 f.S.wide, .slice p.AE f.S.lev.length p.cE, .slice p.AN f.S.neg.length p.cN] 29)) (cellsG g q) 29; rwa [show (w.alloc (.cells #[.int .i64 f.knd, .int .i64 f.frm, .int .i64 f.stp, .int .i64 f.S.sch, .int .i64 f.S.dim, .slice p.AL f.S.L.length p.cL, .slice p.AV f.S.V.length p.cV, .int .i64 f.S.scale, .int .i64 f.S.wide, .slice p.AE f.S.lev.length p.cE, .slice p.AN f.S.neg.length p.cN] 29)).heap.size = w.heap.size + 1 by simp] at h)
  have RF := hid (fun W (h : Below w.heap.size w W) => ((rf.below h).more h.size : RdS W W.heap.size f.S p))
  have RG := hid (fun W (h : Below w.heap.size w W) => ((rg.below h).more h.size : RdS W W.heap.size g.S q))
  by_cases hbig : bigS f.S = true
  · rw [hbig] at CBf
    clear hbig rf wf cp rg wg cq
    go_enter Try.func4, Try.ntmps4
    go_wp2_with fail
    refine (CL.out _).mono ?_
    rintro _ w1 ⟨rfl, hb1⟩
    have k1 : Below w.heap.size w w1 := Below.trans (by go_grown) (hb1.mono (by (first | (simp; done) | (simp; omega) | omega)))
    have X1 := hid (HBX.out.below hb1 (by (first | (simp; done) | (simp; omega) | omega)))
    have Y1 := hid (HBY.out.below hb1 (by (first | (simp; done) | (simp; omega) | omega)))
    clear hb1 CL HBX HBY
    obtain ⟨c0, c1, c2, c3, c4, c5, c6, c7, c8, c9, c10⟩ := (box_G X1.out).1
    obtain ⟨d0, d1, d2, d3, d4, d5, d6, d7, d8, d9, d10⟩ := (box_G Y1.out).1
    go_wp2_with fail
    refine (CBf.out _).mono ?_
    rintro _ w2 ⟨rfl, hb2⟩
    go_wp2_with fail
    go_ret
    exact ⟨rfl, k1.trans (hb2.mono k1.size)⟩
  · have hb0 : bigS f.S = false := by cases h : bigS f.S with
      | false => rfl
      | true => exact absurd h hbig
    have hln := big_ln hb0
    rw [hb0] at CBf
    by_cases hbigg : bigS g.S = true
    · rw [hbigg] at CBg
      clear hbig hb0 hln hbigg rf wf cp rg wg cq
      go_enter Try.func4, Try.ntmps4
      go_wp2_with fail
      refine (CL.out _).mono ?_
      rintro _ w1 ⟨rfl, hb1⟩
      have k1 : Below w.heap.size w w1 := Below.trans (by go_grown) (hb1.mono (by (first | (simp; done) | (simp; omega) | omega)))
      have X1 := hid (HBX.out.below hb1 (by (first | (simp; done) | (simp; omega) | omega)))
      have Y1 := hid (HBY.out.below hb1 (by (first | (simp; done) | (simp; omega) | omega)))
      clear hb1 CL HBX HBY
      obtain ⟨c0, c1, c2, c3, c4, c5, c6, c7, c8, c9, c10⟩ := (box_G X1.out).1
      obtain ⟨d0, d1, d2, d3, d4, d5, d6, d7, d8, d9, d10⟩ := (box_G Y1.out).1
      go_wp2_with fail
      refine (CBf.out _).mono ?_
      rintro _ w2 ⟨rfl, hb2⟩
      have k2 := k1.trans (hb2.mono k1.size)
      have X2 := hid (X1.out.below hb2 (X1.out.lt (by simp [cellsG])))
      have Y2 := hid (Y1.out.below hb2 (Y1.out.lt (by simp [cellsG])))
      clear hb2 c0 c1 c2 c3 c4 c5 c6 c7 c8 c9 c10 d0 d1 d2 d3 d4 d5 d6 d7 d8 d9 d10 X1 Y1 k1
      obtain ⟨c0, c1, c2, c3, c4, c5, c6, c7, c8, c9, c10⟩ := (box_G X2.out).1
      obtain ⟨d0, d1, d2, d3, d4, d5, d6, d7, d8, d9, d10⟩ := (box_G Y2.out).1
      go_wp2_with fail
      refine (CBg.out _).mono ?_
      rintro _ w3 ⟨rfl, hb3⟩
      go_wp2_with fail
      go_ret
      exact ⟨rfl, k2.trans (hb3.mono k2.size)⟩
    · have hb1 : bigS g.S = false := by cases h : bigS g.S with
        | false => rfl
        | true => exact absurd h hbigg
      have hlg := big_ln hb1
      rw [hb1] at CBg
      clear hbig hbigg hb0 hb1
      have CWf := hid (fun W (hW : Below w.heap.size w W) => (show Calls Try.prog 7 #[.agg #[.int .i64 f.knd, .int .i64 f.frm, .int .i64 f.stp, .int .i64 f.S.sch, .int .i64 f.S.dim, .slice p.AL f.S.L.length p.cL, .slice p.AV f.S.V.length p.cV, .int .i64 f.S.scale, .int .i64 f.S.wide, .slice p.AE f.S.lev.length p.cE, .slice p.AN f.S.neg.length p.cN]] W (OwnE 5 .u8 W.heap.size (wrtV f) (wrtE f) W) by exact wx_Write f p (hln.more (by decide)) wf W ((rf.below hW).more hW.size)))
      have CWg := hid (fun W (hW : Below w.heap.size w W) => (show Calls Try.prog 7 #[.agg #[.int .i64 g.knd, .int .i64 g.frm, .int .i64 g.stp, .int .i64 g.S.sch, .int .i64 g.S.dim, .slice q.AL g.S.L.length q.cL, .slice q.AV g.S.V.length q.cV, .int .i64 g.S.scale, .int .i64 g.S.wide, .slice q.AE g.S.lev.length q.cE, .slice q.AN g.S.neg.length q.cN]] W (OwnE 5 .u8 W.heap.size (wrtV g) (wrtE g) W) by exact wx_Write g q (hlg.more (by decide)) wg W ((rg.below hW).more hW.size)))
      have CZ := hid (fun W (hW : Below w.heap.size w W) => (show Calls Try.prog 11 #[.agg #[.int .i64 f.knd, .int .i64 f.frm, .int .i64 f.stp, .int .i64 f.S.sch, .int .i64 f.S.dim, .slice p.AL f.S.L.length p.cL, .slice p.AV f.S.V.length p.cV, .int .i64 f.S.scale, .int .i64 f.S.wide, .slice p.AE f.S.lev.length p.cE, .slice p.AN f.S.neg.length p.cN]] W fun e w' => e = .returned (.tuple #[.int .i64 ((wrtV f).length : Int), .int .i64 (wrtE f)]) ∧ Below W.heap.size W w' by exact wx_Size f p (hln.more (by decide)) wf W ((rf.below hW).more hW.size)))
      have CSS := hid (fun W (hW : Below w.heap.size w W) => (show Calls Try.prog 18 #[.agg #[.int .i64 f.knd, .int .i64 f.frm, .int .i64 f.stp, .int .i64 f.S.sch, .int .i64 f.S.dim, .slice p.AL f.S.L.length p.cL, .slice p.AV f.S.V.length p.cV, .int .i64 f.S.scale, .int .i64 f.S.wide, .slice p.AE f.S.lev.length p.cE, .slice p.AN f.S.neg.length p.cN], .agg #[.int .i64 g.knd, .int .i64 g.frm, .int .i64 g.stp, .int .i64 g.S.sch, .int .i64 g.S.dim, .slice q.AL g.S.L.length q.cL, .slice q.AV g.S.V.length q.cV, .int .i64 g.S.scale, .int .i64 g.S.wide, .slice q.AE g.S.lev.length q.cE, .slice q.AN g.S.neg.length q.cN]] W fun e w' => e = .returned (.bool (sameP f g)) ∧ Below W.heap.size W w' by exact fs_Same f g p q (hln.more (by decide)) (hlg.more (by decide)) W ((rf.below hW).more hW.size) ((rg.below hW).more hW.size)))
      have CSf := hid (fun W (hW : Below w.heap.size w W) => (show Calls Try.prog 18 #[.agg #[.int .i64 f.knd, .int .i64 f.frm, .int .i64 f.stp, .int .i64 f.S.sch, .int .i64 f.S.dim, .slice p.AL f.S.L.length p.cL, .slice p.AV f.S.V.length p.cV, .int .i64 f.S.scale, .int .i64 f.S.wide, .slice p.AE f.S.lev.length p.cE, .slice p.AN f.S.neg.length p.cN], .agg #[.int .i64 f.knd, .int .i64 f.frm, .int .i64 f.stp, .int .i64 f.S.sch, .int .i64 f.S.dim, .slice p.AL f.S.L.length p.cL, .slice p.AV f.S.V.length p.cV, .int .i64 f.S.scale, .int .i64 f.S.wide, .slice p.AE f.S.lev.length p.cE, .slice p.AN f.S.neg.length p.cN]] W fun e w' => e = .returned (.bool true) ∧ Below W.heap.size W w' by exact fs_Same_yes f p p (hln.more (by decide)) W ((rf.below hW).more hW.size) ((rf.below hW).more hW.size)))
      have wkf := wrt_ok wf (show f.S.V.length ≤ 1000 by have := hln.2.1; omega)
      have wkg := wrt_ok wg (show g.S.V.length ≤ 1000 by have := hlg.2.1; omega)
      have hap := fun h1 h2 => apart wf wg (show f.S.V.length ≤ 1000 by have := hln.2.1; omega) (show g.S.V.length ≤ 1000 by have := hlg.2.1; omega) h1 h2
      have lnf := wrtV_lenM f wf
      have lng := wrtV_lenM g wg
      have rwf := fun h => rd_wrt wf (show f.S.V.length ≤ 1000 by have := hln.2.1; omega) h
      have rwg := fun h => rd_wrt wg (show g.S.V.length ≤ 1000 by have := hlg.2.1; omega) h
      rw [← sameP_eq] at hap
      have gpos : wrtE f = 0 → 0 < (wrtV f).length := fun h => by have := (rwf h).2.2.1; omega
      have uf : wrtE f = 0 → U8s (wrtV f) := fun h => (rwf h).2.1
      have ug : wrtE g = 0 → U8s (wrtV g) := fun h => (rwg h).2.1
      obtain ⟨Vf, e1⟩ : ∃ x, wrtV f = x := ⟨_, rfl⟩
      obtain ⟨Vg, e2⟩ : ∃ x, wrtV g = x := ⟨_, rfl⟩
      obtain ⟨Ef, e3⟩ : ∃ x, wrtE f = x := ⟨_, rfl⟩
      obtain ⟨Eg, e4⟩ : ∃ x, wrtE g = x := ⟨_, rfl⟩
      obtain ⟨X, e5⟩ : ∃ x, sameP f g = x := ⟨_, rfl⟩
      rw [e1, e3] at CWf CZ
      rw [e2, e4] at CWg
      rw [e5] at CSS hap
      rw [e1, e2, e3, e4] at hap
      rw [e1] at lnf
      rw [e2] at lng
      rw [e3] at wkf
      rw [e4] at wkg
      rw [e1, e3] at gpos uf
      rw [e2, e4] at ug
      clear e1 e2 e3 e4 e5 rwf rwg hln hlg rf rg wf wg cp cq
      by_cases he : Ef = 0
      · subst he
        have hpos := gpos rfl
        have UF := uf rfl
        by_cases hg : Eg = 0
        · subst hg
          have UG := ug rfl
          have CR := hid (fun (A B : Option Addr) (c d : Nat) (W : World) (L M : Nat) (h1 : Rd (Value.int .u8) W L A Vf) (h2 : Rd (Value.int .u8) W M B Vg) => ref_Same (A := A) (B := B) (c := c) (d := d) Vf Vg UF UG W h1 h2)
          rw [hap rfl rfl] at CR
          have hlz : (Vf.length == 0) = false := by simp; intro h; rw [h] at hpos; simp at hpos
          have hlz2 : ((Vf.length : Int) == 0) = false := by simp; intro h; rw [h] at hpos; simp at hpos
          clear gpos uf ug wkf wkg hap UF UG
          go_enter Try.func4, Try.ntmps4
          go_wp2_with fail
          refine (CL.out _).mono ?_
          rintro _ w1 ⟨rfl, hb1⟩
          have k1 : Below w.heap.size w w1 := Below.trans (by go_grown) (hb1.mono (by (first | (simp; done) | (simp; omega) | omega)))
          have X1 := hid (HBX.out.below hb1 (by (first | (simp; done) | (simp; omega) | omega)))
          have Y1 := hid (HBY.out.below hb1 (by (first | (simp; done) | (simp; omega) | omega)))
          clear hb1 CL HBX HBY
          obtain ⟨c0, c1, c2, c3, c4, c5, c6, c7, c8, c9, c10⟩ := (box_G X1.out).1
          obtain ⟨d0, d1, d2, d3, d4, d5, d6, d7, d8, d9, d10⟩ := (box_G Y1.out).1
          go_wp2_with fail
          refine (CBf.out _).mono ?_
          rintro _ w2 ⟨rfl, hb2⟩
          have k2 := k1.trans (hb2.mono k1.size)
          have X2 := hid (X1.out.below hb2 (X1.out.lt (by simp [cellsG])))
          have Y2 := hid (Y1.out.below hb2 (Y1.out.lt (by simp [cellsG])))
          clear hb2 c0 c1 c2 c3 c4 c5 c6 c7 c8 c9 c10 d0 d1 d2 d3 d4 d5 d6 d7 d8 d9 d10 X1 Y1 k1
          obtain ⟨c0, c1, c2, c3, c4, c5, c6, c7, c8, c9, c10⟩ := (box_G X2.out).1
          obtain ⟨d0, d1, d2, d3, d4, d5, d6, d7, d8, d9, d10⟩ := (box_G Y2.out).1
          go_wp2_with fail
          refine (CBg.out _).mono ?_
          rintro _ w3 ⟨rfl, hb3⟩
          have k3 := k2.trans (hb3.mono k2.size)
          have X3 := hid (X2.out.below hb3 (X2.out.lt (by simp [cellsG])))
          have Y3 := hid (Y2.out.below hb3 (Y2.out.lt (by simp [cellsG])))
          clear hb3 c0 c1 c2 c3 c4 c5 c6 c7 c8 c9 c10 d0 d1 d2 d3 d4 d5 d6 d7 d8 d9 d10 X2 Y2 k2
          clear CBf CBg
          obtain ⟨c0, c1, c2, c3, c4, c5, c6, c7, c8, c9, c10⟩ := (box_G X3.out).1
          obtain ⟨d0, d1, d2, d3, d4, d5, d6, d7, d8, d9, d10⟩ := (box_G Y3.out).1
          have T4 := hid (CWf.out w3 k3)
          go_wp2_with fail
          refine T4.out.mono ?_
          rintro _ w4 ⟨A4, u4, rfl, ho4, hb4⟩
          have k4 := k3.trans (hb4.mono k3.size)
          have X4 := hid (X3.out.below hb4 (X3.out.lt (by simp [cellsG])))
          have Y4 := hid (Y3.out.below hb4 (Y3.out.lt (by simp [cellsG])))
          have R4 := hid (own_rd ho4)
          clear ho4 hb4 c0 c1 c2 c3 c4 c5 c6 c7 c8 c9 c10 d0 d1 d2 d3 d4 d5 d6 d7 d8 d9 d10 X3 Y3 k3
          clear T4 CWf
          obtain ⟨c0, c1, c2, c3, c4, c5, c6, c7, c8, c9, c10⟩ := (box_G X4.out).1
          obtain ⟨d0, d1, d2, d3, d4, d5, d6, d7, d8, d9, d10⟩ := (box_G Y4.out).1
          have T5 := hid (CWg.out w4 k4)
          go_wp2_with fail
          refine T5.out.mono ?_
          rintro _ w5 ⟨A5, u5, rfl, ho5, hb5⟩
          have k5 := k4.trans (hb5.mono k4.size)
          have X5 := hid (X4.out.below hb5 (X4.out.lt (by simp [cellsG])))
          have Y5 := hid (Y4.out.below hb5 (Y4.out.lt (by simp [cellsG])))
          have R5 := hid (own_rd ho5)
          have R45 := hid (R4.out.on hb5)
          clear ho5 R4 hb5 c0 c1 c2 c3 c4 c5 c6 c7 c8 c9 c10 d0 d1 d2 d3 d4 d5 d6 d7 d8 d9 d10 X4 Y4 k4
          clear T5 CWg
          go_wp2_with fail
          refine region_in (C := Below w5.heap.size w5) (by kernel_rfl) (by kernel_rfl) (belowN _ _ 1) ?_
          go_big_quiet_want
          go_big_quiet_op
          first | go_big_quiet_on | (refine ⟨_, fun _ _ => rfl, ?_⟩; go_big_quiet_on)
          go_big_quiet_want
          go_big_quiet_op
          first | go_big_quiet_on | (refine ⟨_, fun _ _ => rfl, ?_⟩; go_big_quiet_on)
          go_big_quiet_want
          go_big_quiet_op
          first | go_big_quiet_on | (refine ⟨_, fun _ _ => rfl, ?_⟩; go_big_quiet_on)
          go_big_quiet_want
          go_big_quiet_op
          first | go_big_quiet_on | (refine ⟨_, fun _ _ => rfl, ?_⟩; go_big_quiet_on)
          go_big_quiet_want
          go_big_quiet_op
          first | go_big_quiet_on | (refine ⟨_, fun _ _ => rfl, ?_⟩; go_big_quiet_on)
          go_big_quiet_want
          go_big_quiet_op
          first | go_big_quiet_on | (refine ⟨_, fun _ _ => rfl, ?_⟩; go_big_quiet_on)
          go_big_quiet_want
          go_big_quiet_op
          first | go_big_quiet_on | (refine ⟨_, fun _ _ => rfl, ?_⟩; go_big_quiet_on)
          go_big_quiet_want
          go_big_quiet_op
          first | go_big_quiet_on | (refine ⟨_, fun _ _ => rfl, ?_⟩; go_big_quiet_on)
          go_big_quiet_want
          go_big_quiet_op
          first | go_big_quiet_on | (refine ⟨_, fun _ _ => rfl, ?_⟩; go_big_quiet_on)
          go_big_quiet_want
          go_big_quiet_op
          go_big_quiet_call ((intro hW; refine (CR.out _ _ _ _ _ _ _ (R45.out.below hW) (R5.out.below hW)).mono ?_; rintro _ _ ⟨rfl, rfl⟩; exact ⟨rfl, hW⟩))
          go_big_quiet_want
          refine ⟨.agg #[.int .i64 f.knd, .int .i64 f.frm, .int .i64 f.stp, .int .i64 f.S.sch, .int .i64 f.S.dim, .slice p.AL f.S.L.length p.cL, .slice p.AV f.S.V.length p.cV, .int .i64 f.S.scale, .int .i64 f.S.wide, .slice p.AE f.S.lev.length p.cE, .slice p.AN f.S.neg.length p.cN], fun W hW => ?_, ?_⟩
          · obtain ⟨c0, c1, c2, c3, c4, c5, c6, c7, c8, c9, c10⟩ := (box_G (X5.out.below hW (X5.out.lt (by simp [cellsG])))).1
            go_simp
          simp only [Act.put, List.setIfInBounds_toArray, List.set_cons_zero, List.set_cons_succ]
          go_big_quiet_on
          go_big_quiet_want
          refine ⟨.agg #[.int .i64 g.knd, .int .i64 g.frm, .int .i64 g.stp, .int .i64 g.S.sch, .int .i64 g.S.dim, .slice q.AL g.S.L.length q.cL, .slice q.AV g.S.V.length q.cV, .int .i64 g.S.scale, .int .i64 g.S.wide, .slice q.AE g.S.lev.length q.cE, .slice q.AN g.S.neg.length q.cN], fun W hW => ?_, ?_⟩
          · obtain ⟨c0, c1, c2, c3, c4, c5, c6, c7, c8, c9, c10⟩ := (box_G (Y5.out.below hW (Y5.out.lt (by simp [cellsG])))).1
            go_simp
          simp only [Act.put, List.setIfInBounds_toArray, List.set_cons_zero, List.set_cons_succ]
          go_big_quiet_on
          go_big_quiet_want
          go_big_quiet_op
          go_big_quiet_call ((intro hW; refine (CSS.out _ (k5.trans (hW.mono k5.size))).mono ?_; rintro _ w' ⟨rfl, hb⟩; exact ⟨rfl, hW.trans (hb.mono hW.size)⟩))
          go_big_quiet_want
          go_big_quiet_op
          first | go_big_quiet_on | (refine ⟨_, fun _ _ => rfl, ?_⟩; go_big_quiet_on)
          go_big_quiet_want
          go_big_quiet_op
          first | go_big_quiet_on | (refine ⟨_, fun _ _ => rfl, ?_⟩; go_big_quiet_on)
          refine wpQuiet_nil ?_
          intro w6 hb6
          have k6 := k5.trans (hb6.mono k5.size)
          have X6 := hid (X5.out.below hb6 (X5.out.lt (by simp [cellsG])))
          have Y6 := hid (Y5.out.below hb6 (Y5.out.lt (by simp [cellsG])))
          clear hb6 X5 Y5 k5
          obtain ⟨c0, c1, c2, c3, c4, c5, c6, c7, c8, c9, c10⟩ := (box_G X6.out).1
          obtain ⟨d0, d1, d2, d3, d4, d5, d6, d7, d8, d9, d10⟩ := (box_G Y6.out).1
          have T7 := hid (CZ.out w6 k6)
          go_wp2_with fail
          refine T7.out.mono ?_
          rintro _ w7 ⟨rfl, hb7⟩
          have k7 := k6.trans (hb7.mono k6.size)
          have X7 := hid (X6.out.below hb7 (X6.out.lt (by simp [cellsG])))
          have Y7 := hid (Y6.out.below hb7 (Y6.out.lt (by simp [cellsG])))
          clear hb7 c0 c1 c2 c3 c4 c5 c6 c7 c8 c9 c10 d0 d1 d2 d3 d4 d5 d6 d7 d8 d9 d10 X6 Y6 k6
          obtain ⟨c0, c1, c2, c3, c4, c5, c6, c7, c8, c9, c10⟩ := (box_G X7.out).1
          obtain ⟨d0, d1, d2, d3, d4, d5, d6, d7, d8, d9, d10⟩ := (box_G Y7.out).1
          have T8 := hid (CSf.out w7 k7)
          clear T7 CZ CSf
          go_wp2_with fail
          refine T8.out.mono ?_
          rintro _ w8 ⟨rfl, hb8⟩
          go_wp2_with fail
          go_ret
          exact ⟨rfl, k7.trans (hb8.mono k7.size)⟩
        · have eg1 : Eg = 1 := eq_of_or wkg.2 hg
          subst eg1
          have hlz : (Vf.length == 0) = false := by simp; intro h; rw [h] at hpos; simp at hpos
          have hlz2 : ((Vf.length : Int) == 0) = false := by simp; intro h; rw [h] at hpos; simp at hpos
          clear gpos uf ug wkf wkg hap UF hg CSS
          go_enter Try.func4, Try.ntmps4
          go_wp2_with fail
          refine (CL.out _).mono ?_
          rintro _ w1 ⟨rfl, hb1⟩
          have k1 : Below w.heap.size w w1 := Below.trans (by go_grown) (hb1.mono (by (first | (simp; done) | (simp; omega) | omega)))
          have X1 := hid (HBX.out.below hb1 (by (first | (simp; done) | (simp; omega) | omega)))
          have Y1 := hid (HBY.out.below hb1 (by (first | (simp; done) | (simp; omega) | omega)))
          clear hb1 CL HBX HBY
          obtain ⟨c0, c1, c2, c3, c4, c5, c6, c7, c8, c9, c10⟩ := (box_G X1.out).1
          obtain ⟨d0, d1, d2, d3, d4, d5, d6, d7, d8, d9, d10⟩ := (box_G Y1.out).1
          go_wp2_with fail
          refine (CBf.out _).mono ?_
          rintro _ w2 ⟨rfl, hb2⟩
          have k2 := k1.trans (hb2.mono k1.size)
          have X2 := hid (X1.out.below hb2 (X1.out.lt (by simp [cellsG])))
          have Y2 := hid (Y1.out.below hb2 (Y1.out.lt (by simp [cellsG])))
          clear hb2 c0 c1 c2 c3 c4 c5 c6 c7 c8 c9 c10 d0 d1 d2 d3 d4 d5 d6 d7 d8 d9 d10 X1 Y1 k1
          obtain ⟨c0, c1, c2, c3, c4, c5, c6, c7, c8, c9, c10⟩ := (box_G X2.out).1
          obtain ⟨d0, d1, d2, d3, d4, d5, d6, d7, d8, d9, d10⟩ := (box_G Y2.out).1
          go_wp2_with fail
          refine (CBg.out _).mono ?_
          rintro _ w3 ⟨rfl, hb3⟩
          have k3 := k2.trans (hb3.mono k2.size)
          have X3 := hid (X2.out.below hb3 (X2.out.lt (by simp [cellsG])))
          have Y3 := hid (Y2.out.below hb3 (Y2.out.lt (by simp [cellsG])))
          clear hb3 c0 c1 c2 c3 c4 c5 c6 c7 c8 c9 c10 d0 d1 d2 d3 d4 d5 d6 d7 d8 d9 d10 X2 Y2 k2
          clear CBf CBg
          obtain ⟨c0, c1, c2, c3, c4, c5, c6, c7, c8, c9, c10⟩ := (box_G X3.out).1
          obtain ⟨d0, d1, d2, d3, d4, d5, d6, d7, d8, d9, d10⟩ := (box_G Y3.out).1
          have T4 := hid (CWf.out w3 k3)
          go_wp2_with fail
          refine T4.out.mono ?_
          rintro _ w4 ⟨A4, u4, rfl, ho4, hb4⟩
          have k4 := k3.trans (hb4.mono k3.size)
          have X4 := hid (X3.out.below hb4 (X3.out.lt (by simp [cellsG])))
          have Y4 := hid (Y3.out.below hb4 (Y3.out.lt (by simp [cellsG])))
          clear ho4 hb4 c0 c1 c2 c3 c4 c5 c6 c7 c8 c9 c10 d0 d1 d2 d3 d4 d5 d6 d7 d8 d9 d10 X3 Y3 k3
          clear T4 CWf
          obtain ⟨c0, c1, c2, c3, c4, c5, c6, c7, c8, c9, c10⟩ := (box_G X4.out).1
          obtain ⟨d0, d1, d2, d3, d4, d5, d6, d7, d8, d9, d10⟩ := (box_G Y4.out).1
          have T5 := hid (CWg.out w4 k4)
          go_wp2_with fail
          refine T5.out.mono ?_
          rintro _ w5 ⟨A5, u5, rfl, ho5, hb5⟩
          have k5 := k4.trans (hb5.mono k4.size)
          have X5 := hid (X4.out.below hb5 (X4.out.lt (by simp [cellsG])))
          have Y5 := hid (Y4.out.below hb5 (Y4.out.lt (by simp [cellsG])))
          clear ho5 hb5 c0 c1 c2 c3 c4 c5 c6 c7 c8 c9 c10 d0 d1 d2 d3 d4 d5 d6 d7 d8 d9 d10 X4 Y4 k4
          clear T5 CWg
          go_wp2_with fail
          refine region_in (C := Below w5.heap.size w5) (by kernel_rfl) (by kernel_rfl) (belowN _ _ 1) ?_
          go_big_quiet_want
          go_big_quiet_op
          first | go_big_quiet_on | (refine ⟨_, fun _ _ => rfl, ?_⟩; go_big_quiet_on)
          go_big_quiet_want
          go_big_quiet_op
          first | go_big_quiet_on | (refine ⟨_, fun _ _ => rfl, ?_⟩; go_big_quiet_on)
          go_big_quiet_want
          go_big_quiet_op
          first | go_big_quiet_on | (refine ⟨_, fun _ _ => rfl, ?_⟩; go_big_quiet_on)
          go_big_quiet_want
          go_big_quiet_op
          first | go_big_quiet_on | (refine ⟨_, fun _ _ => rfl, ?_⟩; go_big_quiet_on)
          go_big_quiet_want
          go_big_quiet_op
          first | go_big_quiet_on | (refine ⟨_, fun _ _ => rfl, ?_⟩; go_big_quiet_on)
          go_big_quiet_want
          go_big_quiet_op
          first | go_big_quiet_on | (refine ⟨_, fun _ _ => rfl, ?_⟩; go_big_quiet_on)
          go_big_quiet_want
          go_big_quiet_op
          first | go_big_quiet_on | (refine ⟨_, fun _ _ => rfl, ?_⟩; go_big_quiet_on)
          go_big_quiet_skip
          go_big_quiet_skip
          go_big_quiet_skip
          go_big_quiet_skip
          go_big_quiet_skip
          go_big_quiet_skip
          go_big_quiet_skip
          go_big_quiet_want
          go_big_quiet_op
          first | go_big_quiet_on | (refine ⟨_, fun _ _ => rfl, ?_⟩; go_big_quiet_on)
          refine wpQuiet_nil ?_
          intro w6 hb6
          have k6 := k5.trans (hb6.mono k5.size)
          have X6 := hid (X5.out.below hb6 (X5.out.lt (by simp [cellsG])))
          have Y6 := hid (Y5.out.below hb6 (Y5.out.lt (by simp [cellsG])))
          clear hb6 X5 Y5 k5
          obtain ⟨c0, c1, c2, c3, c4, c5, c6, c7, c8, c9, c10⟩ := (box_G X6.out).1
          obtain ⟨d0, d1, d2, d3, d4, d5, d6, d7, d8, d9, d10⟩ := (box_G Y6.out).1
          have T7 := hid (CZ.out w6 k6)
          go_wp2_with fail
          refine T7.out.mono ?_
          rintro _ w7 ⟨rfl, hb7⟩
          have k7 := k6.trans (hb7.mono k6.size)
          have X7 := hid (X6.out.below hb7 (X6.out.lt (by simp [cellsG])))
          have Y7 := hid (Y6.out.below hb7 (Y6.out.lt (by simp [cellsG])))
          clear hb7 c0 c1 c2 c3 c4 c5 c6 c7 c8 c9 c10 d0 d1 d2 d3 d4 d5 d6 d7 d8 d9 d10 X6 Y6 k6
          obtain ⟨c0, c1, c2, c3, c4, c5, c6, c7, c8, c9, c10⟩ := (box_G X7.out).1
          obtain ⟨d0, d1, d2, d3, d4, d5, d6, d7, d8, d9, d10⟩ := (box_G Y7.out).1
          have T8 := hid (CSf.out w7 k7)
          clear T7 CZ CSf
          go_wp2_with fail
          refine T8.out.mono ?_
          rintro _ w8 ⟨rfl, hb8⟩
          go_wp2_with fail
          go_ret
          exact ⟨rfl, k7.trans (hb8.mono k7.size)⟩
      · have ef1 : Ef = 1 := eq_of_or wkf.2 he
        subst ef1
        clear gpos uf ug wkf wkg hap he CSS CZ CSf
        go_enter Try.func4, Try.ntmps4
        go_wp2_with fail
        refine (CL.out _).mono ?_
        rintro _ w1 ⟨rfl, hb1⟩
        have k1 : Below w.heap.size w w1 := Below.trans (by go_grown) (hb1.mono (by (first | (simp; done) | (simp; omega) | omega)))
        have X1 := hid (HBX.out.below hb1 (by (first | (simp; done) | (simp; omega) | omega)))
        have Y1 := hid (HBY.out.below hb1 (by (first | (simp; done) | (simp; omega) | omega)))
        clear hb1 CL HBX HBY
        obtain ⟨c0, c1, c2, c3, c4, c5, c6, c7, c8, c9, c10⟩ := (box_G X1.out).1
        obtain ⟨d0, d1, d2, d3, d4, d5, d6, d7, d8, d9, d10⟩ := (box_G Y1.out).1
        go_wp2_with fail
        refine (CBf.out _).mono ?_
        rintro _ w2 ⟨rfl, hb2⟩
        have k2 := k1.trans (hb2.mono k1.size)
        have X2 := hid (X1.out.below hb2 (X1.out.lt (by simp [cellsG])))
        have Y2 := hid (Y1.out.below hb2 (Y1.out.lt (by simp [cellsG])))
        clear hb2 c0 c1 c2 c3 c4 c5 c6 c7 c8 c9 c10 d0 d1 d2 d3 d4 d5 d6 d7 d8 d9 d10 X1 Y1 k1
        obtain ⟨c0, c1, c2, c3, c4, c5, c6, c7, c8, c9, c10⟩ := (box_G X2.out).1
        obtain ⟨d0, d1, d2, d3, d4, d5, d6, d7, d8, d9, d10⟩ := (box_G Y2.out).1
        go_wp2_with fail
        refine (CBg.out _).mono ?_
        rintro _ w3 ⟨rfl, hb3⟩
        have k3 := k2.trans (hb3.mono k2.size)
        have X3 := hid (X2.out.below hb3 (X2.out.lt (by simp [cellsG])))
        have Y3 := hid (Y2.out.below hb3 (Y2.out.lt (by simp [cellsG])))
        clear hb3 c0 c1 c2 c3 c4 c5 c6 c7 c8 c9 c10 d0 d1 d2 d3 d4 d5 d6 d7 d8 d9 d10 X2 Y2 k2
        clear CBf CBg
        obtain ⟨c0, c1, c2, c3, c4, c5, c6, c7, c8, c9, c10⟩ := (box_G X3.out).1
        obtain ⟨d0, d1, d2, d3, d4, d5, d6, d7, d8, d9, d10⟩ := (box_G Y3.out).1
        have T4 := hid (CWf.out w3 k3)
        go_wp2_with fail
        refine T4.out.mono ?_
        rintro _ w4 ⟨A4, u4, rfl, ho4, hb4⟩
        have k4 := k3.trans (hb4.mono k3.size)
        have X4 := hid (X3.out.below hb4 (X3.out.lt (by simp [cellsG])))
        have Y4 := hid (Y3.out.below hb4 (Y3.out.lt (by simp [cellsG])))
        clear ho4 hb4 c0 c1 c2 c3 c4 c5 c6 c7 c8 c9 c10 d0 d1 d2 d3 d4 d5 d6 d7 d8 d9 d10 X3 Y3 k3
        clear T4 CWf
        obtain ⟨c0, c1, c2, c3, c4, c5, c6, c7, c8, c9, c10⟩ := (box_G X4.out).1
        obtain ⟨d0, d1, d2, d3, d4, d5, d6, d7, d8, d9, d10⟩ := (box_G Y4.out).1
        have T5 := hid (CWg.out w4 k4)
        go_wp2_with fail
        refine T5.out.mono ?_
        rintro _ w5 ⟨A5, u5, rfl, ho5, hb5⟩
        have k5 := k4.trans (hb5.mono k4.size)
        have X5 := hid (X4.out.below hb5 (X4.out.lt (by simp [cellsG])))
        have Y5 := hid (Y4.out.below hb5 (Y4.out.lt (by simp [cellsG])))
        clear ho5 hb5 c0 c1 c2 c3 c4 c5 c6 c7 c8 c9 c10 d0 d1 d2 d3 d4 d5 d6 d7 d8 d9 d10 X4 Y4 k4
        clear T5 CWg
        go_wp2_with fail
        refine region_in (C := Below w5.heap.size w5) (by kernel_rfl) (by kernel_rfl) (belowN _ _ 1) ?_
        go_big_quiet_want
        go_big_quiet_op
        first | go_big_quiet_on | (refine ⟨_, fun _ _ => rfl, ?_⟩; go_big_quiet_on)
        go_big_quiet_want
        go_big_quiet_op
        first | go_big_quiet_on | (refine ⟨_, fun _ _ => rfl, ?_⟩; go_big_quiet_on)
        go_big_quiet_want
        go_big_quiet_op
        first | go_big_quiet_on | (refine ⟨_, fun _ _ => rfl, ?_⟩; go_big_quiet_on)
        go_big_quiet_skip
        go_big_quiet_skip
        go_big_quiet_want
        go_big_quiet_op
        first | go_big_quiet_on | (refine ⟨_, fun _ _ => rfl, ?_⟩; go_big_quiet_on)
        go_big_quiet_want
        go_big_quiet_op
        first | go_big_quiet_on | (refine ⟨_, fun _ _ => rfl, ?_⟩; go_big_quiet_on)
        go_big_quiet_skip
        go_big_quiet_skip
        go_big_quiet_skip
        go_big_quiet_skip
        go_big_quiet_skip
        go_big_quiet_skip
        go_big_quiet_skip
        go_big_quiet_want
        go_big_quiet_op
        first | go_big_quiet_on | (refine ⟨_, fun _ _ => rfl, ?_⟩; go_big_quiet_on)
        refine wpQuiet_nil ?_
        intro w6 hb6
        have k6 := k5.trans (hb6.mono k5.size)
        go_wp2_with fail
        go_ret
        exact ⟨rfl, k6⟩
theorem law_types : ∀ t ∈ Try.f4.params.toList, Try.prog.readableRec t = true ∧ t < Try.prog.types.size := by
  have h : (Try.f4.params.toList.all fun t => Try.prog.readableRec t && decide (t < Try.prog.types.size)) = true := by kernel_rfl
  intro t ht
  simpa using List.all_eq_true.1 h t ht
set_option maxRecDepth 100000 in
theorem lifted (os : Os) (started : os.Started) (H : Type) (enc : TypeId × Value → H) :
    ReturnsInHanded {} Try.checked os 4 .any (Rows.frameApartSpec.pre6 enc Try.prog Try.f4 Rows.frameApartRow.domain false) (Rows.frameApartSpec.post enc Try.prog Try.f4 false true false false) := by
  refine returnsInHanded_of_change (C := Try.checked) own started (by kernel_rfl) Try.func4
    (ChangeSpec.witness6 (enc := enc) (C := Try.checked) false ⟨#[], #[.agg #[.int .i64 0, .int .i64 0, .int .i64 0, .int .i64 0, .int .i64 0, .slice none 0 0, .slice none 0 0, .int .i64 0, .int .i64 0, .slice none 0 0, .slice none 0 0], .agg #[.int .i64 0, .int .i64 0, .int .i64 0, .int .i64 0, .int .i64 0, .slice none 0 0, .slice none 0 0, .int .i64 0, .int .i64 0, .slice none 0 0, .slice none 0 0]], []⟩ 8 (by kernel_rfl) (by kernel_rfl) (by kernel_rfl) (by kernel_rfl)) ?_
  intro W base args ds gs before hval0 hW hcnd _
  have hval : ∀ (j : Nat) t v, Try.f4.params[j]? = some t → args[j]? = some v → Value.okWide Try.prog W .any base t v := hval0
  have hW' := hW
  obtain ⟨p, q, hA0, hV, rfl, hfz, hnd⟩ := hW
  have hA : DataW.TrodAll enc Try.prog W 0 (fun _ => true) true Try.f4.params.toList args.toList ds p := hA0
  rw [Try.params4] at hA hval
  obtain ⟨v0, vs0, d0, ds0, p0, q0, hargs, rfl, rfl, h0, r0⟩ := trodAll_cons hA
  obtain ⟨v1, vs1, d1, ds1, p1, q1, rfl, rfl, rfl, h1, r1⟩ := trodAll_cons r0
  obtain ⟨rfl, rfl, rfl⟩ := trodAll_nil r1
  obtain rfl : args = #[v0, v1] := by cases args; simp_all
  obtain ⟨rfl, rfl⟩ := trodVars_none hV
  obtain ⟨f, pf, rfl, rdf, wff, cpf⟩ := open_frame (hval 0 29 v0 rfl rfl) h0
  obtain ⟨g, pg, rfl, rdg, wfg, cpg⟩ := open_frame (hval 1 29 v1 rfl rfl) h1
  clear hA0 hval0
  refine (walk f pf g pg W rdf wff cpf rdg wfg cpg).mono fun e W' ⟨he, hb⟩ => ?_
  subst he
  exact ⟨_, rfl, law_post laid (fun t ht => law_types t ht) rfl hW' ⟨rfl, rfl, rfl⟩ (by kernel_rfl) Try.underlying4 hb⟩

theorem over : Rows.frameApartRow.holds Try.pinned (OpenSpec.ofChange Rows.frameApartSpec) :=
  OpenClaim.holds_of_wide 4 Try.f4 rfl rfl rfl rfl rfl rfl rfl ⟨rfl, rfl, rfl, rfl, rfl⟩ rfl rfl rfl rfl rfl (by kernel_rfl) Try.func4 (by kernel_rfl)
    (of_decide_eq_true (by kernel_rfl)) (by unfold Func.isWrapper; first | (rw [if_pos (by decide +kernel)]; kernel_rfl) | (rw [if_neg (by decide +kernel)]; exact ⟨rfl, rfl⟩))
    (fun os started H enc _ => lifted os started H enc)

theorem proved : Rows.FrameApartSaid := over
end Go.Proofs.Ythcigkcnknibgaa.FrameApart
