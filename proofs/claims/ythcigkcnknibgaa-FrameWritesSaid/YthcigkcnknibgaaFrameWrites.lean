
/-
  FrameWrites answers true for every input. No condition.
-/
import Derived.Test.YthcigkcnknibgaaKf
import Derived.Test.YthcigkcnknibgaaKc
namespace Go.Proofs.Ythcigkcnknibgaa.FrameWrites
open Go.ChangeShapes Go.WideShapes Go.ChangeAt Go.RowKit
set_option maxHeartbeats 400000
set_option linter.unusedVariables false
open Go.Proofs.Ythcigkcnknibgaa
theorem eq_of_or {a : Int} (h : a = 0 ∨ a = 1) (h0 : ¬ a = 0) : a = 1 := h.elim (fun e => absurd e h0) id
set_option maxHeartbeats 8000000 in
set_option maxRecDepth 100000 in
theorem walk (f : FrameV) (p : SentP) (g : FrameV) (q : SentP) (w : World) (rf : RdS w w.heap.size f.S p) (wf : wfF f) (cp : capS f.S p) (rg : RdS w w.heap.size g.S q) (wg : wfF g) (cq : capS g.S q) :
    Calls Try.prog 3 #[encF f p, encF g q] w fun e w' => e = .returned (.bool true) ∧ Below w.heap.size w w' := by
  have CL := hid (fun W => fr_liveK W)
  have CBf := hid (fun W => (show Calls Try.prog 6 #[.agg #[.int .i64 f.S.sch, .int .i64 f.S.dim, .slice p.AL f.S.L.length p.cL, .slice p.AV f.S.V.length p.cV, .int .i64 f.S.scale, .int .i64 f.S.wide, .slice p.AE f.S.lev.length p.cE, .slice p.AN f.S.neg.length p.cN]] W fun e w' => e = .returned (.bool (bigS f.S)) ∧ Below W.heap.size W w' by exact ref_Big f.S p W))
  have CBg := hid (fun W => (show Calls Try.prog 6 #[.agg #[.int .i64 g.S.sch, .int .i64 g.S.dim, .slice q.AL g.S.L.length q.cL, .slice q.AV g.S.V.length q.cV, .int .i64 g.S.scale, .int .i64 g.S.wide, .slice q.AE g.S.lev.length q.cE, .slice q.AN g.S.neg.length q.cN]] W fun e w' => e = .returned (.bool (bigS g.S)) ∧ Below W.heap.size W w' by exact ref_Big g.S q W))
  have HBX : Hid (BoxL ((w.alloc (.cells #[.int .i64 f.knd, .int .i64 f.frm, .int .i64 f.stp, .int .i64 f.S.sch, .int .i64 f.S.dim, .slice p.AL f.S.L.length p.cL, .slice p.AV f.S.V.length p.cV, .int .i64 f.S.scale, .int .i64 f.S.wide, .slice p.AE f.S.lev.length p.cE, .slice p.AN f.S.neg.length p.cN] 29)).alloc (.cells #[.int .i64 g.knd, .int .i64 g.frm, .int .i64 g.stp, .int .i64 g.S.sch, .int .i64 g.S.dim, .slice q.AL g.S.L.length q.cL, .slice q.AV g.S.V.length q.cV, .int .i64 g.S.scale, .int .i64 g.S.wide, .slice q.AE g.S.lev.length q.cE, .slice q.AN g.S.neg.length q.cN] 29)) w.heap.size (cellsG f p)) := hid ((BoxL.new w _ _).below (growd _ _) (by simp))
  have HBY : Hid (BoxL ((w.alloc (.cells #[.int .i64 f.knd, .int .i64 f.frm, .int .i64 f.stp, .int .i64 f.S.sch, .int .i64 f.S.dim, .slice p.AL f.S.L.length p.cL, .slice p.AV f.S.V.length p.cV, .int .i64 f.S.scale, .int .i64 f.S.wide, .slice p.AE f.S.lev.length p.cE, .slice p.AN f.S.neg.length p.cN] 29)).alloc (.cells #[.int .i64 g.knd, .int .i64 g.frm, .int .i64 g.stp, .int .i64 g.S.sch, .int .i64 g.S.dim, .slice q.AL g.S.L.length q.cL, .slice q.AV g.S.V.length q.cV, .int .i64 g.S.scale, .int .i64 g.S.wide, .slice q.AE g.S.lev.length q.cE, .slice q.AN g.S.neg.length q.cN] 29)) (w.heap.size + 1) (cellsG g q)) := hid (by have h := BoxL.new (w.alloc (.cells #[.int .i64 f.knd, .int .i64 f.frm, .int .i64 f.stp, .int .i64 f.S.sch, .int .i64 f.S.dim, .slice p.AL f.S.L.length p.cL, .slice p.AV f.S.V.length p.cV, .int .i64 f.S.scale, .int .i64 f.S.wide, .slice p.AE f.S.lev.length p.cE, .slice p.AN f.S.neg.length p.cN] 29)) (cellsG g q) 29; rwa [show (w.alloc (.cells #[.int .i64 f.knd, .int .i64 f.frm, .int .i64 f.stp, .int .i64 f.S.sch, .int .i64 f.S.dim, .slice p.AL f.S.L.length p.cL, .slice p.AV f.S.V.length p.cV, .int .i64 f.S.scale, .int .i64 f.S.wide, .slice p.AE f.S.lev.length p.cE, .slice p.AN f.S.neg.length p.cN] 29)).heap.size = w.heap.size + 1 by simp] at h)
  have RF := hid (fun W (h : Below w.heap.size w W) => ((rf.below h).more h.size : RdS W W.heap.size f.S p))
  have RG := hid (fun W (h : Below w.heap.size w W) => ((rg.below h).more h.size : RdS W W.heap.size g.S q))
  by_cases hbig : bigS f.S = true
  · rw [hbig] at CBf
    clear hbig rf wf cp rg wg cq
    go_enter Try.func3, Try.ntmps3
    go_wp2_with fail
    refine (CL.out _).mono ?_
    rintro _ w1 ⟨rfl, hb1⟩
    have k1 : Below w.heap.size w w1 := Below.trans (by go_grown) (hb1.mono (by (first | (simp; done) | (simp; omega) | omega)))
    have X1 := hid (HBX.out.below hb1 (by (first | (simp; done) | (simp; omega) | omega)))
    have Y1 := hid (HBY.out.below hb1 (by (first | (simp; done) | (simp; omega) | omega)))
    clear hb1 CL HBX HBY
    obtain ⟨c0, c1, c2, c3, c4, c5, c6, c7, c8, c9, c10⟩ := (box_G X1.out).1
    obtain ⟨d0, d1, d2, d3, d4, d5, d6, d7, d8, d9, d10⟩ := (box_G Y1.out).1
    go_wp2_with fail
    refine (CBf.out _).mono ?_
    rintro _ w2 ⟨rfl, hb2⟩
    go_wp2_with fail
    go_ret
    exact ⟨rfl, k1.trans (hb2.mono k1.size)⟩
  · have hb0 : bigS f.S = false := by cases h : bigS f.S with
      | false => rfl
      | true => exact absurd h hbig
    have hln := big_ln hb0
    rw [hb0] at CBf
    by_cases hbigg : bigS g.S = true
    · rw [hbigg] at CBg
      clear hbig hb0 hln hbigg rf wf cp rg wg cq
      go_enter Try.func3, Try.ntmps3
      go_wp2_with fail
      refine (CL.out _).mono ?_
      rintro _ w1 ⟨rfl, hb1⟩
      have k1 : Below w.heap.size w w1 := Below.trans (by go_grown) (hb1.mono (by (first | (simp; done) | (simp; omega) | omega)))
      have X1 := hid (HBX.out.below hb1 (by (first | (simp; done) | (simp; omega) | omega)))
      have Y1 := hid (HBY.out.below hb1 (by (first | (simp; done) | (simp; omega) | omega)))
      clear hb1 CL HBX HBY
      obtain ⟨c0, c1, c2, c3, c4, c5, c6, c7, c8, c9, c10⟩ := (box_G X1.out).1
      obtain ⟨d0, d1, d2, d3, d4, d5, d6, d7, d8, d9, d10⟩ := (box_G Y1.out).1
      go_wp2_with fail
      refine (CBf.out _).mono ?_
      rintro _ w2 ⟨rfl, hb2⟩
      have k2 := k1.trans (hb2.mono k1.size)
      have X2 := hid (X1.out.below hb2 (X1.out.lt (by simp [cellsG])))
      have Y2 := hid (Y1.out.below hb2 (Y1.out.lt (by simp [cellsG])))
      clear hb2 c0 c1 c2 c3 c4 c5 c6 c7 c8 c9 c10 d0 d1 d2 d3 d4 d5 d6 d7 d8 d9 d10 X1 Y1 k1
      obtain ⟨c0, c1, c2, c3, c4, c5, c6, c7, c8, c9, c10⟩ := (box_G X2.out).1
      obtain ⟨d0, d1, d2, d3, d4, d5, d6, d7, d8, d9, d10⟩ := (box_G Y2.out).1
      go_wp2_with fail
      refine (CBg.out _).mono ?_
      rintro _ w3 ⟨rfl, hb3⟩
      go_wp2_with fail
      go_ret
      exact ⟨rfl, k2.trans (hb3.mono k2.size)⟩
    · have hb1 : bigS g.S = false := by cases h : bigS g.S with
        | false => rfl
        | true => exact absurd h hbigg
      have hlg := big_ln hb1
      rw [hb1] at CBg
      clear hbig hbigg hb0 hb1
      have CWf := hid (fun W (hW : Below w.heap.size w W) => (show Calls Try.prog 7 #[.agg #[.int .i64 f.knd, .int .i64 f.frm, .int .i64 f.stp, .int .i64 f.S.sch, .int .i64 f.S.dim, .slice p.AL f.S.L.length p.cL, .slice p.AV f.S.V.length p.cV, .int .i64 f.S.scale, .int .i64 f.S.wide, .slice p.AE f.S.lev.length p.cE, .slice p.AN f.S.neg.length p.cN]] W (OwnE 5 .u8 W.heap.size (wrtV f) (wrtE f) W) by exact wx_Write f p (hln.more (by decide)) wf W ((rf.below hW).more hW.size)))
      have CWr := hid (fun W (hW : Below w.heap.size w W) => (show Calls Try.prog 8 #[.agg #[.int .i64 f.knd, .int .i64 f.frm, .int .i64 f.stp, .int .i64 f.S.sch, .int .i64 f.S.dim, .slice p.AL f.S.L.length p.cL, .slice p.AV f.S.V.length p.cV, .int .i64 f.S.scale, .int .i64 f.S.wide, .slice p.AE f.S.lev.length p.cE, .slice p.AN f.S.neg.length p.cN]] W (OwnE 5 .u8 W.heap.size (wrtV f) (wrtE f) W) by exact ref_Write f p (hln.more (by decide)) wf W ((rf.below hW).more hW.size)))
      have CBo := hid (fun W (hW : Below w.heap.size w W) => (show Calls Try.prog 9 #[.agg #[.int .i64 f.S.sch, .int .i64 f.S.dim, .slice p.AL f.S.L.length p.cL, .slice p.AV f.S.V.length p.cV, .int .i64 f.S.scale, .int .i64 f.S.wide, .slice p.AE f.S.lev.length p.cE, .slice p.AN f.S.neg.length p.cN]] W (OwnE 5 .u8 W.heap.size (bodyV f.S) (bodyE f.S) W) by exact wx_Body f.S p (hln.more (by decide)) wf.2.2.2 W ((rf.below hW).more hW.size)))
      have CBr := hid (fun W (hW : Below w.heap.size w W) => (show Calls Try.prog 10 #[.agg #[.int .i64 f.S.sch, .int .i64 f.S.dim, .slice p.AL f.S.L.length p.cL, .slice p.AV f.S.V.length p.cV, .int .i64 f.S.scale, .int .i64 f.S.wide, .slice p.AE f.S.lev.length p.cE, .slice p.AN f.S.neg.length p.cN]] W (OwnE 5 .u8 W.heap.size (bodyV f.S) (bodyE f.S) W) by exact ref_Body f.S p (hln.more (by decide)) wf.2.2.2 W ((rf.below hW).more hW.size)))
      have CZ := hid (fun W (hW : Below w.heap.size w W) => (show Calls Try.prog 11 #[.agg #[.int .i64 f.knd, .int .i64 f.frm, .int .i64 f.stp, .int .i64 f.S.sch, .int .i64 f.S.dim, .slice p.AL f.S.L.length p.cL, .slice p.AV f.S.V.length p.cV, .int .i64 f.S.scale, .int .i64 f.S.wide, .slice p.AE f.S.lev.length p.cE, .slice p.AN f.S.neg.length p.cN]] W fun e w' => e = .returned (.tuple #[.int .i64 ((wrtV f).length : Int), .int .i64 (wrtE f)]) ∧ Below W.heap.size W w' by exact wx_Size f p (hln.more (by decide)) wf W ((rf.below hW).more hW.size)))
      have CZr := hid (fun W (hW : Below w.heap.size w W) => (show Calls Try.prog 12 #[.agg #[.int .i64 f.knd, .int .i64 f.frm, .int .i64 f.stp, .int .i64 f.S.sch, .int .i64 f.S.dim, .slice p.AL f.S.L.length p.cL, .slice p.AV f.S.V.length p.cV, .int .i64 f.S.scale, .int .i64 f.S.wide, .slice p.AE f.S.lev.length p.cE, .slice p.AN f.S.neg.length p.cN]] W fun e w' => e = .returned (.tuple #[.int .i64 ((wrtV f).length : Int), .int .i64 (wrtE f)]) ∧ Below W.heap.size W w' by exact ref_SizeF f p (hln.more (by decide)) wf W ((rf.below hW).more hW.size)))
      have CM := hid (fun W (hW : Below w.heap.size w W) => (show Calls Try.prog 14 #[.agg #[.int .i64 f.S.sch, .int .i64 f.S.dim, .slice p.AL f.S.L.length p.cL, .slice p.AV f.S.V.length p.cV, .int .i64 f.S.scale, .int .i64 f.S.wide, .slice p.AE f.S.lev.length p.cE, .slice p.AN f.S.neg.length p.cN]] W fun e w' => e = .returned (.bool (mayB f.S)) ∧ Below W.heap.size W w' by exact fs_May f.S p (hln.more (by decide)) wf.2.2.2 W ((rf.below hW).more hW.size)))
      have CMr := hid (fun W (hW : Below w.heap.size w W) => (show Calls Try.prog 15 #[.agg #[.int .i64 f.S.sch, .int .i64 f.S.dim, .slice p.AL f.S.L.length p.cL, .slice p.AV f.S.V.length p.cV, .int .i64 f.S.scale, .int .i64 f.S.wide, .slice p.AE f.S.lev.length p.cE, .slice p.AN f.S.neg.length p.cN]] W fun e w' => e = .returned (.bool (mayB f.S)) ∧ Below W.heap.size W w' by exact ref_May f.S p (hln.more (by decide)) wf.2.2.2 W (B := W.heap.size) (Nat.le_refl _) ((rf.below hW).more hW.size)))
      have CK := hid (fun W (hW : Below w.heap.size w W) => (show Calls Try.prog 16 #[.agg #[.int .i64 f.knd, .int .i64 f.frm, .int .i64 f.stp, .int .i64 f.S.sch, .int .i64 f.S.dim, .slice p.AL f.S.L.length p.cL, .slice p.AV f.S.V.length p.cV, .int .i64 f.S.scale, .int .i64 f.S.wide, .slice p.AE f.S.lev.length p.cE, .slice p.AN f.S.neg.length p.cN]] W fun e w' => e = .returned (.int .i64 (chkF f)) ∧ Below W.heap.size W w' by exact fs_Check f p (hln.more (by decide)) wf W ((rf.below hW).more hW.size)))
      have CKr := hid (fun W (hW : Below w.heap.size w W) => (show Calls Try.prog 17 #[.agg #[.int .i64 f.knd, .int .i64 f.frm, .int .i64 f.stp, .int .i64 f.S.sch, .int .i64 f.S.dim, .slice p.AL f.S.L.length p.cL, .slice p.AV f.S.V.length p.cV, .int .i64 f.S.scale, .int .i64 f.S.wide, .slice p.AE f.S.lev.length p.cE, .slice p.AN f.S.neg.length p.cN]] W fun e w' => e = .returned (.int .i64 (chkF f)) ∧ Below W.heap.size W w' by exact ref_CheckF f p (hln.more (by decide)) wf W (B := W.heap.size) (Nat.le_refl _) ((rf.below hW).more hW.size)))
      have CS := hid (fun W (hW : Below w.heap.size w W) => (show Calls Try.prog 18 #[.agg #[.int .i64 f.knd, .int .i64 f.frm, .int .i64 f.stp, .int .i64 f.S.sch, .int .i64 f.S.dim, .slice p.AL f.S.L.length p.cL, .slice p.AV f.S.V.length p.cV, .int .i64 f.S.scale, .int .i64 f.S.wide, .slice p.AE f.S.lev.length p.cE, .slice p.AN f.S.neg.length p.cN], .agg #[.int .i64 g.knd, .int .i64 g.frm, .int .i64 g.stp, .int .i64 g.S.sch, .int .i64 g.S.dim, .slice q.AL g.S.L.length q.cL, .slice q.AV g.S.V.length q.cV, .int .i64 g.S.scale, .int .i64 g.S.wide, .slice q.AE g.S.lev.length q.cE, .slice q.AN g.S.neg.length q.cN]] W fun e w' => e = .returned (.bool (sameP f g)) ∧ Below W.heap.size W w' by exact fs_Same f g p q (hln.more (by decide)) (hlg.more (by decide)) W ((rf.below hW).more hW.size) ((rg.below hW).more hW.size)))
      have CSr := hid (fun W (hW : Below w.heap.size w W) => (show Calls Try.prog 19 #[.agg #[.int .i64 f.knd, .int .i64 f.frm, .int .i64 f.stp, .int .i64 f.S.sch, .int .i64 f.S.dim, .slice p.AL f.S.L.length p.cL, .slice p.AV f.S.V.length p.cV, .int .i64 f.S.scale, .int .i64 f.S.wide, .slice p.AE f.S.lev.length p.cE, .slice p.AN f.S.neg.length p.cN], .agg #[.int .i64 g.knd, .int .i64 g.frm, .int .i64 g.stp, .int .i64 g.S.sch, .int .i64 g.S.dim, .slice q.AL g.S.L.length q.cL, .slice q.AV g.S.V.length q.cV, .int .i64 g.S.scale, .int .i64 g.S.wide, .slice q.AE g.S.lev.length q.cE, .slice q.AN g.S.neg.length q.cN]] W fun e w' => e = .returned (.bool (sameF f g)) ∧ Below W.heap.size W w' by exact ref_SameF f g p q (hln.more (by decide)) (hlg.more (by decide)) W (B := W.heap.size) (D := W.heap.size) (Nat.le_refl _) (Nat.le_refl _) ((rf.below hW).more hW.size) ((rg.below hW).more hW.size)))
      rw [← sameP_eq] at CSr
      have CA := hid (fun W => fs_Ack f.frm f.stp W)
      have CAr := hid (fun W => ref_Ack f.frm f.stp W)
      have CSa := hid (fun W => ref_SameF (ackF f.frm f.stp) (ackF f.frm f.stp) zeroP zeroP (ln_zero _) (ln_zero _) W (B := W.heap.size) (D := W.heap.size) (Nat.le_refl _) (Nat.le_refl _) (RdS.zero _ _) (RdS.zero _ _))
      rw [sameF_self] at CSa
      have hV5 : f.S.V.length ≤ 1000 := by have := hln.2.1; omega
      have uf : U8s (wrtV f) := by
        by_cases h : wrtE f = 0
        · exact (rd_wrt wf hV5 h).2.1
        · have hc : ¬ chkF f = 0 := fun hc => h ((wrt_ok wf hV5).1.2 hc)
          unfold wrtV
          rw [if_neg hc]
          intro x hx
          simp at hx
      have ub : U8s (bodyV f.S) := by
        unfold bodyV
        by_cases h : mayB f.S = true
        · rw [if_pos h]
          exact body_u8 (mayB_iff.1 h) wf.2.2.2
        · rw [if_neg h]
          intro x hx
          simp at hx
      have lnf := wrtV_lenM f wf
      obtain ⟨Vf, e1⟩ : ∃ x, wrtV f = x := ⟨_, rfl⟩
      obtain ⟨Ef, e2⟩ : ∃ x, wrtE f = x := ⟨_, rfl⟩
      obtain ⟨Bf, e3⟩ : ∃ x, bodyV f.S = x := ⟨_, rfl⟩
      obtain ⟨Gf, e4⟩ : ∃ x, bodyE f.S = x := ⟨_, rfl⟩
      obtain ⟨X, e5⟩ : ∃ x, sameP f g = x := ⟨_, rfl⟩
      obtain ⟨Y, e6⟩ : ∃ x, mayB f.S = x := ⟨_, rfl⟩
      obtain ⟨Z, e7⟩ : ∃ x, chkF f = x := ⟨_, rfl⟩
      rw [e1, e2] at CWf CWr CZ CZr
      rw [e3, e4] at CBo CBr
      rw [e5] at CS CSr
      rw [e6] at CM CMr
      rw [e7] at CK CKr
      rw [e1] at uf lnf
      rw [e3] at ub
      have C1 := hid (same_yes uf)
      have C2 := hid (same_yes ub)
      clear e1 e2 e3 e4 e5 e6 e7 hln hlg rf rg wf wg cp cq uf ub hV5 RF RG
      go_enter Try.func3, Try.ntmps3
      go_wp2_with fail
      refine (CL.out _).mono ?_
      rintro _ w1 ⟨rfl, hb1⟩
      have k1 : Below w.heap.size w w1 := Below.trans (by go_grown) (hb1.mono (by (first | (simp; done) | (simp; omega) | omega)))
      have X1 := hid (HBX.out.below hb1 (by (first | (simp; done) | (simp; omega) | omega)))
      have Y1 := hid (HBY.out.below hb1 (by (first | (simp; done) | (simp; omega) | omega)))
      clear hb1 CL HBX HBY
      obtain ⟨c0, c1, c2, c3, c4, c5, c6, c7, c8, c9, c10⟩ := (box_G X1.out).1
      obtain ⟨d0, d1, d2, d3, d4, d5, d6, d7, d8, d9, d10⟩ := (box_G Y1.out).1
      go_wp2_with fail
      refine (CBf.out _).mono ?_
      rintro _ w2 ⟨rfl, hb2⟩
      have k2 := k1.trans (hb2.mono k1.size)
      have X2 := hid (X1.out.below hb2 (X1.out.lt (by simp [cellsG])))
      have Y2 := hid (Y1.out.below hb2 (Y1.out.lt (by simp [cellsG])))
      clear hb2 c0 c1 c2 c3 c4 c5 c6 c7 c8 c9 c10 d0 d1 d2 d3 d4 d5 d6 d7 d8 d9 d10 X1 Y1 k1
      obtain ⟨c0, c1, c2, c3, c4, c5, c6, c7, c8, c9, c10⟩ := (box_G X2.out).1
      obtain ⟨d0, d1, d2, d3, d4, d5, d6, d7, d8, d9, d10⟩ := (box_G Y2.out).1
      go_wp2_with fail
      refine (CBg.out _).mono ?_
      rintro _ w3 ⟨rfl, hb3⟩
      have k3 := k2.trans (hb3.mono k2.size)
      have X3 := hid (X2.out.below hb3 (X2.out.lt (by simp [cellsG])))
      have Y3 := hid (Y2.out.below hb3 (Y2.out.lt (by simp [cellsG])))
      clear hb3 c0 c1 c2 c3 c4 c5 c6 c7 c8 c9 c10 d0 d1 d2 d3 d4 d5 d6 d7 d8 d9 d10 X2 Y2 k2
      clear CBf CBg
      obtain ⟨c0, c1, c2, c3, c4, c5, c6, c7, c8, c9, c10⟩ := (box_G X3.out).1
      obtain ⟨d0, d1, d2, d3, d4, d5, d6, d7, d8, d9, d10⟩ := (box_G Y3.out).1
      have T4 := hid (CWf.out w3 k3)
      go_wp2_with fail
      refine T4.out.mono ?_
      rintro _ w4 ⟨A4, u4, rfl, ho4, hb4⟩
      have R4 := hid (own_rd ho4)
      clear ho4
      have k4 := k3.trans (hb4.mono k3.size)
      have X4 := hid (X3.out.below hb4 (X3.out.lt (by simp [cellsG])))
      have Y4 := hid (Y3.out.below hb4 (Y3.out.lt (by simp [cellsG])))
      clear hb4 c0 c1 c2 c3 c4 c5 c6 c7 c8 c9 c10 d0 d1 d2 d3 d4 d5 d6 d7 d8 d9 d10 X3 Y3 k3
      clear T4 CWf
      obtain ⟨c0, c1, c2, c3, c4, c5, c6, c7, c8, c9, c10⟩ := (box_G X4.out).1
      obtain ⟨d0, d1, d2, d3, d4, d5, d6, d7, d8, d9, d10⟩ := (box_G Y4.out).1
      have T5 := hid (CWr.out w4 k4)
      go_wp2_with fail
      refine T5.out.mono ?_
      rintro _ w5 ⟨A5, u5, rfl, ho5, hb5⟩
      have R4x5 := hid (R4.out.on hb5)
      clear R4
      have R5 := hid (own_rd ho5)
      clear ho5
      have k5 := k4.trans (hb5.mono k4.size)
      have X5 := hid (X4.out.below hb5 (X4.out.lt (by simp [cellsG])))
      have Y5 := hid (Y4.out.below hb5 (Y4.out.lt (by simp [cellsG])))
      clear hb5 c0 c1 c2 c3 c4 c5 c6 c7 c8 c9 c10 d0 d1 d2 d3 d4 d5 d6 d7 d8 d9 d10 X4 Y4 k4
      clear T5 CWr
      obtain ⟨c0, c1, c2, c3, c4, c5, c6, c7, c8, c9, c10⟩ := (box_G X5.out).1
      obtain ⟨d0, d1, d2, d3, d4, d5, d6, d7, d8, d9, d10⟩ := (box_G Y5.out).1
      have T6 := hid (CBo.out w5 k5)
      go_wp2_with fail
      refine T6.out.mono ?_
      rintro _ w6 ⟨A6, u6, rfl, ho6, hb6⟩
      have R4x5x6 := hid (R4x5.out.on hb6)
      clear R4x5
      have R5x6 := hid (R5.out.on hb6)
      clear R5
      have R6 := hid (own_rd ho6)
      clear ho6
      have k6 := k5.trans (hb6.mono k5.size)
      have X6 := hid (X5.out.below hb6 (X5.out.lt (by simp [cellsG])))
      have Y6 := hid (Y5.out.below hb6 (Y5.out.lt (by simp [cellsG])))
      clear hb6 c0 c1 c2 c3 c4 c5 c6 c7 c8 c9 c10 d0 d1 d2 d3 d4 d5 d6 d7 d8 d9 d10 X5 Y5 k5
      clear T6 CBo
      obtain ⟨c0, c1, c2, c3, c4, c5, c6, c7, c8, c9, c10⟩ := (box_G X6.out).1
      obtain ⟨d0, d1, d2, d3, d4, d5, d6, d7, d8, d9, d10⟩ := (box_G Y6.out).1
      have T7 := hid (CBr.out w6 k6)
      go_wp2_with fail
      refine T7.out.mono ?_
      rintro _ w7 ⟨A7, u7, rfl, ho7, hb7⟩
      have R4x5x6x7 := hid (R4x5x6.out.on hb7)
      clear R4x5x6
      have R5x6x7 := hid (R5x6.out.on hb7)
      clear R5x6
      have R6x7 := hid (R6.out.on hb7)
      clear R6
      have R7 := hid (own_rd ho7)
      clear ho7
      have k7 := k6.trans (hb7.mono k6.size)
      have X7 := hid (X6.out.below hb7 (X6.out.lt (by simp [cellsG])))
      have Y7 := hid (Y6.out.below hb7 (Y6.out.lt (by simp [cellsG])))
      clear hb7 c0 c1 c2 c3 c4 c5 c6 c7 c8 c9 c10 d0 d1 d2 d3 d4 d5 d6 d7 d8 d9 d10 X6 Y6 k6
      clear T7 CBr
      obtain ⟨c0, c1, c2, c3, c4, c5, c6, c7, c8, c9, c10⟩ := (box_G X7.out).1
      obtain ⟨d0, d1, d2, d3, d4, d5, d6, d7, d8, d9, d10⟩ := (box_G Y7.out).1
      have T8 := hid (CZ.out w7 k7)
      go_wp2_with fail
      refine T8.out.mono ?_
      rintro _ w8 ⟨rfl, hb8⟩
      have R4x5x6x7x8 := hid (R4x5x6x7.out.on hb8)
      clear R4x5x6x7
      have R5x6x7x8 := hid (R5x6x7.out.on hb8)
      clear R5x6x7
      have R6x7x8 := hid (R6x7.out.on hb8)
      clear R6x7
      have R7x8 := hid (R7.out.on hb8)
      clear R7
      have k8 := k7.trans (hb8.mono k7.size)
      have X8 := hid (X7.out.below hb8 (X7.out.lt (by simp [cellsG])))
      have Y8 := hid (Y7.out.below hb8 (Y7.out.lt (by simp [cellsG])))
      clear hb8 c0 c1 c2 c3 c4 c5 c6 c7 c8 c9 c10 d0 d1 d2 d3 d4 d5 d6 d7 d8 d9 d10 X7 Y7 k7
      clear T8 CZ
      obtain ⟨c0, c1, c2, c3, c4, c5, c6, c7, c8, c9, c10⟩ := (box_G X8.out).1
      obtain ⟨d0, d1, d2, d3, d4, d5, d6, d7, d8, d9, d10⟩ := (box_G Y8.out).1
      have T9 := hid (CZr.out w8 k8)
      go_wp2_with fail
      refine T9.out.mono ?_
      rintro _ w9 ⟨rfl, hb9⟩
      have R4x5x6x7x8x9 := hid (R4x5x6x7x8.out.on hb9)
      clear R4x5x6x7x8
      have R5x6x7x8x9 := hid (R5x6x7x8.out.on hb9)
      clear R5x6x7x8
      have R6x7x8x9 := hid (R6x7x8.out.on hb9)
      clear R6x7x8
      have R7x8x9 := hid (R7x8.out.on hb9)
      clear R7x8
      have k9 := k8.trans (hb9.mono k8.size)
      have X9 := hid (X8.out.below hb9 (X8.out.lt (by simp [cellsG])))
      have Y9 := hid (Y8.out.below hb9 (Y8.out.lt (by simp [cellsG])))
      clear hb9 c0 c1 c2 c3 c4 c5 c6 c7 c8 c9 c10 d0 d1 d2 d3 d4 d5 d6 d7 d8 d9 d10 X8 Y8 k8
      clear T9 CZr
      go_wp2_with fail
      refine region_in (C := Below w9.heap.size w9) (by kernel_rfl) (by kernel_rfl) (belowN _ _ 1) ?_
      dsimp only [List.append]
      go_big_quiet_want
      go_big_quiet_op
      first | go_big_quiet_on | (refine ⟨_, fun _ _ => rfl, ?_⟩; go_big_quiet_on)
      go_big_quiet_want
      go_big_quiet_op
      first | go_big_quiet_on | (refine ⟨_, fun _ _ => rfl, ?_⟩; go_big_quiet_on)
      go_big_quiet_want
      go_big_quiet_op
      first | go_big_quiet_on | (refine ⟨_, fun _ _ => rfl, ?_⟩; go_big_quiet_on)
      go_big_quiet_want
      go_big_quiet_op
      first | go_big_quiet_on | (refine ⟨_, fun _ _ => rfl, ?_⟩; go_big_quiet_on)
      go_big_quiet_want
      go_big_quiet_op
      go_big_quiet_call ((intro hW; refine (C1.out _ _ _ _ _ _ _ (R4x5x6x7x8x9.out.below hW) (R5x6x7x8x9.out.below hW)).mono ?_; rintro _ _ ⟨rfl, rfl⟩; exact ⟨rfl, hW⟩))
      go_big_quiet_want
      go_big_quiet_op
      first | go_big_quiet_on | (refine ⟨_, fun _ _ => rfl, ?_⟩; go_big_quiet_on)
      go_big_quiet_want
      go_big_quiet_op
      first | go_big_quiet_on | (refine ⟨_, fun _ _ => rfl, ?_⟩; go_big_quiet_on)
      go_big_quiet_want
      go_big_quiet_op
      first | go_big_quiet_on | (refine ⟨_, fun _ _ => rfl, ?_⟩; go_big_quiet_on)
      go_big_quiet_want
      go_big_quiet_op
      first | go_big_quiet_on | (refine ⟨_, fun _ _ => rfl, ?_⟩; go_big_quiet_on)
      go_big_quiet_want
      go_big_quiet_op
      first | go_big_quiet_on | (refine ⟨_, fun _ _ => rfl, ?_⟩; go_big_quiet_on)
      go_big_quiet_want
      go_big_quiet_op
      first | go_big_quiet_on | (refine ⟨_, fun _ _ => rfl, ?_⟩; go_big_quiet_on)
      go_big_quiet_want
      go_big_quiet_op
      first | go_big_quiet_on | (refine ⟨_, fun _ _ => rfl, ?_⟩; go_big_quiet_on)
      go_big_quiet_want
      go_big_quiet_op
      first | go_big_quiet_on | (refine ⟨_, fun _ _ => rfl, ?_⟩; go_big_quiet_on)
      go_big_quiet_want
      go_big_quiet_op
      first | go_big_quiet_on | (refine ⟨_, fun _ _ => rfl, ?_⟩; go_big_quiet_on)
      go_big_quiet_want
      go_big_quiet_op
      go_big_quiet_call ((intro hW; refine (C2.out _ _ _ _ _ _ _ (R6x7x8x9.out.below hW) (R7x8x9.out.below hW)).mono ?_; rintro _ _ ⟨rfl, rfl⟩; exact ⟨rfl, hW⟩))
      go_big_quiet_want
      go_big_quiet_op
      first | go_big_quiet_on | (refine ⟨_, fun _ _ => rfl, ?_⟩; go_big_quiet_on)
      go_big_quiet_want
      go_big_quiet_op
      first | go_big_quiet_on | (refine ⟨_, fun _ _ => rfl, ?_⟩; go_big_quiet_on)
      go_big_quiet_want
      go_big_quiet_op
      first | go_big_quiet_on | (refine ⟨_, fun _ _ => rfl, ?_⟩; go_big_quiet_on)
      go_big_quiet_want
      go_big_quiet_op
      first | go_big_quiet_on | (refine ⟨_, fun _ _ => rfl, ?_⟩; go_big_quiet_on)
      go_big_quiet_want
      go_big_quiet_op
      first | go_big_quiet_on | (refine ⟨_, fun _ _ => rfl, ?_⟩; go_big_quiet_on)
      go_big_quiet_want
      go_big_quiet_op
      first | go_big_quiet_on | (refine ⟨_, fun _ _ => rfl, ?_⟩; go_big_quiet_on)
      go_big_quiet_want
      go_big_quiet_op
      first | go_big_quiet_on | (refine ⟨_, fun _ _ => rfl, ?_⟩; go_big_quiet_on)
      go_big_quiet_want
      go_big_quiet_op
      first | go_big_quiet_on | (refine ⟨_, fun _ _ => rfl, ?_⟩; go_big_quiet_on)
      go_big_quiet_want
      go_big_quiet_op
      first | go_big_quiet_on | (refine ⟨_, fun _ _ => rfl, ?_⟩; go_big_quiet_on)
      go_big_quiet_want
      go_big_quiet_op
      first | go_big_quiet_on | (refine ⟨_, fun _ _ => rfl, ?_⟩; go_big_quiet_on)
      go_big_quiet_want
      go_big_quiet_op
      first | go_big_quiet_on | (refine ⟨_, fun _ _ => rfl, ?_⟩; go_big_quiet_on)
      go_big_quiet_want
      go_big_quiet_op
      first | go_big_quiet_on | (refine ⟨_, fun _ _ => rfl, ?_⟩; go_big_quiet_on)
      go_big_quiet_want
      go_big_quiet_op
      first | go_big_quiet_on | (refine ⟨_, fun _ _ => rfl, ?_⟩; go_big_quiet_on)
      go_big_quiet_want
      go_big_quiet_op
      first | go_big_quiet_on | (refine ⟨_, fun _ _ => rfl, ?_⟩; go_big_quiet_on)
      go_big_quiet_want
      go_big_quiet_op
      first | go_big_quiet_on | (refine ⟨_, fun _ _ => rfl, ?_⟩; go_big_quiet_on)
      go_big_quiet_want
      go_big_quiet_op
      first | go_big_quiet_on | (refine ⟨_, fun _ _ => rfl, ?_⟩; go_big_quiet_on)
      go_big_quiet_want
      go_big_quiet_op
      first | go_big_quiet_on | (refine ⟨_, fun _ _ => rfl, ?_⟩; go_big_quiet_on)
      go_big_quiet_want
      go_big_quiet_op
      first | go_big_quiet_on | (refine ⟨_, fun _ _ => rfl, ?_⟩; go_big_quiet_on)
      go_big_quiet_want
      refine ⟨.agg #[.int .i64 f.S.sch, .int .i64 f.S.dim, .slice p.AL f.S.L.length p.cL, .slice p.AV f.S.V.length p.cV, .int .i64 f.S.scale, .int .i64 f.S.wide, .slice p.AE f.S.lev.length p.cE, .slice p.AN f.S.neg.length p.cN], fun W hW => ?_, ?_⟩
      · obtain ⟨c0, c1, c2, c3, c4, c5, c6, c7, c8, c9, c10⟩ := (box_G (X9.out.below hW (X9.out.lt (by simp [cellsG])))).1
        go_simp
      simp only [Act.put, List.setIfInBounds_toArray, List.set_cons_zero, List.set_cons_succ]
      go_big_quiet_on
      go_big_quiet_want
      go_big_quiet_op
      go_big_quiet_call ((intro hW; refine (CM.out _ (k9.trans (hW.mono k9.size))).mono ?_; rintro _ w' ⟨rfl, hb⟩; exact ⟨rfl, hW.trans (hb.mono hW.size)⟩))
      go_big_quiet_want
      go_big_quiet_op
      first | go_big_quiet_on | (refine ⟨_, fun _ _ => rfl, ?_⟩; go_big_quiet_on)
      go_big_quiet_want
      refine ⟨.agg #[.int .i64 f.S.sch, .int .i64 f.S.dim, .slice p.AL f.S.L.length p.cL, .slice p.AV f.S.V.length p.cV, .int .i64 f.S.scale, .int .i64 f.S.wide, .slice p.AE f.S.lev.length p.cE, .slice p.AN f.S.neg.length p.cN], fun W hW => ?_, ?_⟩
      · obtain ⟨c0, c1, c2, c3, c4, c5, c6, c7, c8, c9, c10⟩ := (box_G (X9.out.below hW (X9.out.lt (by simp [cellsG])))).1
        go_simp
      simp only [Act.put, List.setIfInBounds_toArray, List.set_cons_zero, List.set_cons_succ]
      go_big_quiet_on
      go_big_quiet_want
      go_big_quiet_op
      go_big_quiet_call ((intro hW; refine (CMr.out _ (k9.trans (hW.mono k9.size))).mono ?_; rintro _ w' ⟨rfl, hb⟩; exact ⟨rfl, hW.trans (hb.mono hW.size)⟩))
      go_big_quiet_want
      go_big_quiet_op
      first | go_big_quiet_on | (refine ⟨_, fun _ _ => rfl, ?_⟩; go_big_quiet_on)
      go_big_quiet_want
      go_big_quiet_op
      first | go_big_quiet_on | (refine ⟨_, fun _ _ => rfl, ?_⟩; go_big_quiet_on)
      go_big_quiet_want
      go_big_quiet_op
      first | go_big_quiet_on | (refine ⟨_, fun _ _ => rfl, ?_⟩; go_big_quiet_on)
      go_big_quiet_want
      refine ⟨.agg #[.int .i64 f.knd, .int .i64 f.frm, .int .i64 f.stp, .int .i64 f.S.sch, .int .i64 f.S.dim, .slice p.AL f.S.L.length p.cL, .slice p.AV f.S.V.length p.cV, .int .i64 f.S.scale, .int .i64 f.S.wide, .slice p.AE f.S.lev.length p.cE, .slice p.AN f.S.neg.length p.cN], fun W hW => ?_, ?_⟩
      · obtain ⟨c0, c1, c2, c3, c4, c5, c6, c7, c8, c9, c10⟩ := (box_G (X9.out.below hW (X9.out.lt (by simp [cellsG])))).1
        go_simp
      simp only [Act.put, List.setIfInBounds_toArray, List.set_cons_zero, List.set_cons_succ]
      go_big_quiet_on
      go_big_quiet_want
      go_big_quiet_op
      go_big_quiet_call ((intro hW; refine (CK.out _ (k9.trans (hW.mono k9.size))).mono ?_; rintro _ w' ⟨rfl, hb⟩; exact ⟨rfl, hW.trans (hb.mono hW.size)⟩))
      go_big_quiet_want
      refine ⟨.agg #[.int .i64 f.knd, .int .i64 f.frm, .int .i64 f.stp, .int .i64 f.S.sch, .int .i64 f.S.dim, .slice p.AL f.S.L.length p.cL, .slice p.AV f.S.V.length p.cV, .int .i64 f.S.scale, .int .i64 f.S.wide, .slice p.AE f.S.lev.length p.cE, .slice p.AN f.S.neg.length p.cN], fun W hW => ?_, ?_⟩
      · obtain ⟨c0, c1, c2, c3, c4, c5, c6, c7, c8, c9, c10⟩ := (box_G (X9.out.below hW (X9.out.lt (by simp [cellsG])))).1
        go_simp
      simp only [Act.put, List.setIfInBounds_toArray, List.set_cons_zero, List.set_cons_succ]
      go_big_quiet_on
      go_big_quiet_want
      go_big_quiet_op
      go_big_quiet_call ((intro hW; refine (CKr.out _ (k9.trans (hW.mono k9.size))).mono ?_; rintro _ w' ⟨rfl, hb⟩; exact ⟨rfl, hW.trans (hb.mono hW.size)⟩))
      go_big_quiet_want
      go_big_quiet_op
      first | go_big_quiet_on | (refine ⟨_, fun _ _ => rfl, ?_⟩; go_big_quiet_on)
      go_big_quiet_want
      go_big_quiet_op
      first | go_big_quiet_on | (refine ⟨_, fun _ _ => rfl, ?_⟩; go_big_quiet_on)
      go_big_quiet_want
      go_big_quiet_op
      first | go_big_quiet_on | (refine ⟨_, fun _ _ => rfl, ?_⟩; go_big_quiet_on)
      go_big_quiet_want
      refine ⟨.agg #[.int .i64 f.knd, .int .i64 f.frm, .int .i64 f.stp, .int .i64 f.S.sch, .int .i64 f.S.dim, .slice p.AL f.S.L.length p.cL, .slice p.AV f.S.V.length p.cV, .int .i64 f.S.scale, .int .i64 f.S.wide, .slice p.AE f.S.lev.length p.cE, .slice p.AN f.S.neg.length p.cN], fun W hW => ?_, ?_⟩
      · obtain ⟨c0, c1, c2, c3, c4, c5, c6, c7, c8, c9, c10⟩ := (box_G (X9.out.below hW (X9.out.lt (by simp [cellsG])))).1
        go_simp
      simp only [Act.put, List.setIfInBounds_toArray, List.set_cons_zero, List.set_cons_succ]
      go_big_quiet_on
      go_big_quiet_want
      refine ⟨.agg #[.int .i64 g.knd, .int .i64 g.frm, .int .i64 g.stp, .int .i64 g.S.sch, .int .i64 g.S.dim, .slice q.AL g.S.L.length q.cL, .slice q.AV g.S.V.length q.cV, .int .i64 g.S.scale, .int .i64 g.S.wide, .slice q.AE g.S.lev.length q.cE, .slice q.AN g.S.neg.length q.cN], fun W hW => ?_, ?_⟩
      · obtain ⟨c0, c1, c2, c3, c4, c5, c6, c7, c8, c9, c10⟩ := (box_G (Y9.out.below hW (Y9.out.lt (by simp [cellsG])))).1
        go_simp
      simp only [Act.put, List.setIfInBounds_toArray, List.set_cons_zero, List.set_cons_succ]
      go_big_quiet_on
      go_big_quiet_want
      go_big_quiet_op
      go_big_quiet_call ((intro hW; refine (CS.out _ (k9.trans (hW.mono k9.size))).mono ?_; rintro _ w' ⟨rfl, hb⟩; exact ⟨rfl, hW.trans (hb.mono hW.size)⟩))
      go_big_quiet_want
      refine ⟨.agg #[.int .i64 f.knd, .int .i64 f.frm, .int .i64 f.stp, .int .i64 f.S.sch, .int .i64 f.S.dim, .slice p.AL f.S.L.length p.cL, .slice p.AV f.S.V.length p.cV, .int .i64 f.S.scale, .int .i64 f.S.wide, .slice p.AE f.S.lev.length p.cE, .slice p.AN f.S.neg.length p.cN], fun W hW => ?_, ?_⟩
      · obtain ⟨c0, c1, c2, c3, c4, c5, c6, c7, c8, c9, c10⟩ := (box_G (X9.out.below hW (X9.out.lt (by simp [cellsG])))).1
        go_simp
      simp only [Act.put, List.setIfInBounds_toArray, List.set_cons_zero, List.set_cons_succ]
      go_big_quiet_on
      go_big_quiet_want
      refine ⟨.agg #[.int .i64 g.knd, .int .i64 g.frm, .int .i64 g.stp, .int .i64 g.S.sch, .int .i64 g.S.dim, .slice q.AL g.S.L.length q.cL, .slice q.AV g.S.V.length q.cV, .int .i64 g.S.scale, .int .i64 g.S.wide, .slice q.AE g.S.lev.length q.cE, .slice q.AN g.S.neg.length q.cN], fun W hW => ?_, ?_⟩
      · obtain ⟨c0, c1, c2, c3, c4, c5, c6, c7, c8, c9, c10⟩ := (box_G (Y9.out.below hW (Y9.out.lt (by simp [cellsG])))).1
        go_simp
      simp only [Act.put, List.setIfInBounds_toArray, List.set_cons_zero, List.set_cons_succ]
      go_big_quiet_on
      go_big_quiet_want
      go_big_quiet_op
      go_big_quiet_call ((intro hW; refine (CSr.out _ (k9.trans (hW.mono k9.size))).mono ?_; rintro _ w' ⟨rfl, hb⟩; exact ⟨rfl, hW.trans (hb.mono hW.size)⟩))
      go_big_quiet_want
      go_big_quiet_op
      first | go_big_quiet_on | (refine ⟨_, fun _ _ => rfl, ?_⟩; go_big_quiet_on)
      go_big_quiet_want
      go_big_quiet_op
      first | go_big_quiet_on | (refine ⟨_, fun _ _ => rfl, ?_⟩; go_big_quiet_on)
      go_big_quiet_want
      go_big_quiet_op
      first | go_big_quiet_on | (refine ⟨_, fun _ _ => rfl, ?_⟩; go_big_quiet_on)
      go_big_quiet_want
      go_big_quiet_op
      first | go_big_quiet_on | (refine ⟨_, fun _ _ => rfl, ?_⟩; go_big_quiet_on)
      go_big_quiet_want
      refine ⟨.int .i64 f.frm, fun W hW => ?_, ?_⟩
      · obtain ⟨c0, c1, c2, c3, c4, c5, c6, c7, c8, c9, c10⟩ := (box_G (X9.out.below hW (X9.out.lt (by simp [cellsG])))).1
        go_simp
      simp only [Act.put, List.setIfInBounds_toArray, List.set_cons_zero, List.set_cons_succ]
      go_big_quiet_on
      go_big_quiet_want
      go_big_quiet_op
      first | go_big_quiet_on | (refine ⟨_, fun _ _ => rfl, ?_⟩; go_big_quiet_on)
      go_big_quiet_want
      refine ⟨.int .i64 f.stp, fun W hW => ?_, ?_⟩
      · obtain ⟨c0, c1, c2, c3, c4, c5, c6, c7, c8, c9, c10⟩ := (box_G (X9.out.below hW (X9.out.lt (by simp [cellsG])))).1
        go_simp
      simp only [Act.put, List.setIfInBounds_toArray, List.set_cons_zero, List.set_cons_succ]
      go_big_quiet_on
      go_big_quiet_want
      go_big_quiet_op
      go_big_quiet_call ((intro hW; refine (CA.out _).mono ?_; rintro _ w' ⟨rfl, hb⟩; exact ⟨rfl, hW.trans (hb.mono hW.size)⟩))
      go_big_quiet_want
      go_big_quiet_op
      first | go_big_quiet_on | (refine ⟨_, fun _ _ => rfl, ?_⟩; go_big_quiet_on)
      go_big_quiet_want
      refine ⟨.int .i64 f.frm, fun W hW => ?_, ?_⟩
      · obtain ⟨c0, c1, c2, c3, c4, c5, c6, c7, c8, c9, c10⟩ := (box_G (X9.out.below hW (X9.out.lt (by simp [cellsG])))).1
        go_simp
      simp only [Act.put, List.setIfInBounds_toArray, List.set_cons_zero, List.set_cons_succ]
      go_big_quiet_on
      go_big_quiet_want
      go_big_quiet_op
      first | go_big_quiet_on | (refine ⟨_, fun _ _ => rfl, ?_⟩; go_big_quiet_on)
      go_big_quiet_want
      refine ⟨.int .i64 f.stp, fun W hW => ?_, ?_⟩
      · obtain ⟨c0, c1, c2, c3, c4, c5, c6, c7, c8, c9, c10⟩ := (box_G (X9.out.below hW (X9.out.lt (by simp [cellsG])))).1
        go_simp
      simp only [Act.put, List.setIfInBounds_toArray, List.set_cons_zero, List.set_cons_succ]
      go_big_quiet_on
      go_big_quiet_want
      go_big_quiet_op
      go_big_quiet_call ((intro hW; refine (CAr.out _).mono ?_; rintro _ w' ⟨rfl, hb⟩; exact ⟨rfl, hW.trans (hb.mono hW.size)⟩))
      go_big_quiet_want
      go_big_quiet_op
      go_big_quiet_call ((intro hW; refine (CSa.out _).mono ?_; rintro _ w' ⟨rfl, hb⟩; exact ⟨rfl, hW.trans (hb.mono hW.size)⟩))
      go_big_quiet_want
      go_big_quiet_op
      first | go_big_quiet_on | (refine ⟨_, fun _ _ => rfl, ?_⟩; go_big_quiet_on)
      go_big_quiet_want
      go_big_quiet_op
      first | go_big_quiet_on | (refine ⟨_, fun _ _ => rfl, ?_⟩; go_big_quiet_on)
      refine wpQuiet_nil ?_
      intro w10 hb10
      have k10 := k9.trans (hb10.mono k9.size)
      go_wp2_with fail
      go_ret
      exact ⟨rfl, k10⟩
theorem law_types : ∀ t ∈ Try.f3.params.toList, Try.prog.readableRec t = true ∧ t < Try.prog.types.size := by
  have h : (Try.f3.params.toList.all fun t => Try.prog.readableRec t && decide (t < Try.prog.types.size)) = true := by kernel_rfl
  intro t ht
  simpa using List.all_eq_true.1 h t ht
set_option maxRecDepth 100000 in
theorem lifted (os : Os) (started : os.Started) (H : Type) (enc : TypeId × Value → H) :
    ReturnsInHanded {} Try.checked os 3 .any (Rows.frameWritesSpec.pre6 enc Try.prog Try.f3 Rows.frameWritesRow.domain false) (Rows.frameWritesSpec.post enc Try.prog Try.f3 false true false false) := by
  refine returnsInHanded_of_change (C := Try.checked) own started (by kernel_rfl) Try.func3
    (ChangeSpec.witness6 (enc := enc) (C := Try.checked) false ⟨#[], #[.agg #[.int .i64 0, .int .i64 0, .int .i64 0, .int .i64 0, .int .i64 0, .slice none 0 0, .slice none 0 0, .int .i64 0, .int .i64 0, .slice none 0 0, .slice none 0 0], .agg #[.int .i64 0, .int .i64 0, .int .i64 0, .int .i64 0, .int .i64 0, .slice none 0 0, .slice none 0 0, .int .i64 0, .int .i64 0, .slice none 0 0, .slice none 0 0]], []⟩ 8 (by kernel_rfl) (by kernel_rfl) (by kernel_rfl) (by kernel_rfl)) ?_
  intro W base args ds gs before hval0 hW hcnd _
  have hval : ∀ (j : Nat) t v, Try.f3.params[j]? = some t → args[j]? = some v → Value.okWide Try.prog W .any base t v := hval0
  have hW' := hW
  obtain ⟨p, q, hA0, hV, rfl, hfz, hnd⟩ := hW
  have hA : DataW.TrodAll enc Try.prog W 0 (fun _ => true) true Try.f3.params.toList args.toList ds p := hA0
  rw [Try.params3] at hA hval
  obtain ⟨v0, vs0, d0, ds0, p0, q0, hargs, rfl, rfl, h0, r0⟩ := trodAll_cons hA
  obtain ⟨v1, vs1, d1, ds1, p1, q1, rfl, rfl, rfl, h1, r1⟩ := trodAll_cons r0
  obtain ⟨rfl, rfl, rfl⟩ := trodAll_nil r1
  obtain rfl : args = #[v0, v1] := by cases args; simp_all
  obtain ⟨rfl, rfl⟩ := trodVars_none hV
  obtain ⟨f, pf, rfl, rdf, wff, cpf⟩ := open_frame (hval 0 29 v0 rfl rfl) h0
  obtain ⟨g, pg, rfl, rdg, wfg, cpg⟩ := open_frame (hval 1 29 v1 rfl rfl) h1
  clear hA0 hval0
  refine (walk f pf g pg W rdf wff cpf rdg wfg cpg).mono fun e W' ⟨he, hb⟩ => ?_
  subst he
  exact ⟨_, rfl, law_post laid (fun t ht => law_types t ht) rfl hW' ⟨rfl, rfl, rfl⟩ (by kernel_rfl) Try.underlying4 hb⟩

theorem over : Rows.frameWritesRow.holds Try.pinned (OpenSpec.ofChange Rows.frameWritesSpec) :=
  OpenClaim.holds_of_wide 3 Try.f3 rfl rfl rfl rfl rfl rfl rfl ⟨rfl, rfl, rfl, rfl, rfl⟩ rfl rfl rfl rfl rfl (by kernel_rfl) Try.func3 (by kernel_rfl)
    (of_decide_eq_true (by kernel_rfl)) (by unfold Func.isWrapper; first | (rw [if_pos (by decide +kernel)]; kernel_rfl) | (rw [if_neg (by decide +kernel)]; exact ⟨rfl, rfl⟩))
    (fun os started H enc _ => lifted os started H enc)

theorem proved : Rows.FrameWritesSaid := over
end Go.Proofs.Ythcigkcnknibgaa.FrameWrites
