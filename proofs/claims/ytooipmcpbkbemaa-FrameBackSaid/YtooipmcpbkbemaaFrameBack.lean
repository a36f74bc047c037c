
/-
  FrameBack answers true for every input. No condition.
-/
import Derived.Test.YtooipmcpbkbemaaMFsO
import Derived.Test.YtooipmcpbkbemaaMFsE
import Derived.Test.YtooipmcpbkbemaaMc
namespace Go.Proofs.Ytooipmcpbkbemaa.FrameBack
open Go.ChangeShapes Go.WideShapes Go.ChangeAt Go.RowKit
set_option maxHeartbeats 400000
set_option linter.unusedVariables false
open Go.Proofs.Ytooipmcpbkbemaa
set_option maxHeartbeats 4000000 in
set_option maxRecDepth 100000 in
theorem walk (F : FrOk) (f : FrameV) (p : SentP) (Ab : Option Addr) (b : List Int) (cb : Nat) (w : World) (rf : RdS w w.heap.size f.S p) (wf : wfF f) (cp : capS f.S p) (rb : Rd (Value.int .u8) w w.heap.size Ab b) (ub : U8s b) (lb : b.length ≤ cb) (mb : cb ≤ 9223372036854775807) :
    Calls Try.prog 4 #[encF f p, .slice Ab b.length cb] w fun e w' => e = .returned (.bool true) ∧ Below w.heap.size w w' := by
  have CL := hid (fun W => fr_live F W)
  have CB := hid (fun W => (show Calls Try.prog 10 #[.agg #[.int .i64 f.S.sch, .int .i64 f.S.dim, .slice p.AL f.S.L.length p.cL, .slice p.AV f.S.V.length p.cV, .int .i64 f.S.scale, .int .i64 f.S.wide, .slice p.AE f.S.lev.length p.cE, .slice p.AN f.S.neg.length p.cN]] W fun e w' => e = .returned (.bool (bigS f.S)) ∧ Below W.heap.size W w' by exact ref_Big f.S p W))
  have HBX : Hid (BoxL (w.alloc (.cells #[.int .i64 f.knd, .int .i64 f.frm, .int .i64 f.stp, .int .i64 f.S.sch, .int .i64 f.S.dim, .slice p.AL f.S.L.length p.cL, .slice p.AV f.S.V.length p.cV, .int .i64 f.S.scale, .int .i64 f.S.wide, .slice p.AE f.S.lev.length p.cE, .slice p.AN f.S.neg.length p.cN] 29)) w.heap.size (cellsG f p)) := hid (BoxL.new w _ _)
  have RB := hid (fun W (h : Below w.heap.size w W) => rb.on h)
  by_cases hbig : bigS f.S = true
  · rw [hbig] at CB
    clear hbig rf wf cp rb ub
    go_enter Try.func4, Try.ntmps4
    go_wp2_with fail
    refine (CL.out _).mono ?_
    rintro _ w1 ⟨rfl, hb1⟩
    have k1 : Below w.heap.size w w1 := Below.trans (by go_grown) (hb1.mono (by simp))
    have X1 := hid (HBX.out.below hb1 (by simp))
    clear hb1 CL HBX
    obtain ⟨⟨c0, c1, c2, c3, c4, c5, c6, c7, c8, c9, c10⟩, _⟩ := box_G X1.out
    go_wp2_with fail
    refine (CB.out _).mono ?_
    rintro _ w2 ⟨rfl, hb2⟩
    have k2 := k1.trans (hb2.mono k1.size)
    have X2 := hid (X1.out.below hb2 (X1.out.lt (by simp [cellsG])))
    clear hb2 c0 c1 c2 c3 c4 c5 c6 c7 c8 c9 c10 X1 k1 CB
    go_wp2_with fail
    go_ret
    exact ⟨rfl, k2⟩
  · have hb0 : bigS f.S = false := by cases h : bigS f.S with
      | false => rfl
      | true => exact absurd h hbig
    have hln := big_ln hb0
    rw [hb0] at CB
    by_cases hlen : b.length ≤ 3000
    · have hlb : ¬ ((b.length : Int) > 3000) := by omega
      have CW := hid (fun W (hW : Below w.heap.size w W) => (show Calls Try.prog 11 #[.agg #[.int .i64 f.knd, .int .i64 f.frm, .int .i64 f.stp, .int .i64 f.S.sch, .int .i64 f.S.dim, .slice p.AL f.S.L.length p.cL, .slice p.AV f.S.V.length p.cV, .int .i64 f.S.scale, .int .i64 f.S.wide, .slice p.AE f.S.lev.length p.cE, .slice p.AN f.S.neg.length p.cN]] W (OwnE 5 .u8 W.heap.size (wrtV f) (wrtE f) W) by exact F.write f p (hln.more (by decide)) wf W ((rf.below hW).more hW.size)))
      have hwr := wrt_ok wf (show f.S.V.length ≤ 1000 by have := hln.2.1; omega)
      have CRR := fun W (h : Below w.heap.size w W) => F.read Ab cb b (by omega) lb mb ub W (rb.on h)
      have hall := rd_all ub
      have hbk := fun g (h : rdR b = (g, 0)) => wrt_rd ub h
      have hbd := rd_bad (b := b)
      have CS3 := hid (same_yes ub)
      obtain ⟨⟨g, E⟩, hg⟩ : ∃ r, rdR b = r := ⟨_, rfl⟩
      rw [hg] at CRR hall hbd
      simp only at hall hbd
      have RF := hid (fun W (h : Below w.heap.size w W) => rf.below h)
      have RF2 := hid (fun W (h : Below w.heap.size w W) => ((rf.below h).more h.size : RdS W W.heap.size f.S p))
      by_cases hE : E = 0
      · subst hE
        obtain ⟨gc, gw, gV, gE⟩ := hbk g hg
        have CRb : Hid (∀ W, Below w.heap.size w W → Calls Try.prog 26 #[.slice Ab b.length cb] W fun e w' => ∃ r : SentP, e = .returned (.tuple #[.agg #[.int .i64 g.knd, .int .i64 g.frm, .int .i64 g.stp, .int .i64 g.S.sch, .int .i64 g.S.dim, .slice r.AL g.S.L.length r.cL, .slice r.AV g.S.V.length r.cV, .int .i64 g.S.scale, .int .i64 g.S.wide, .slice r.AE g.S.lev.length r.cE, .slice r.AN g.S.neg.length r.cN], .int .i64 0]) ∧ RdS w' w'.heap.size g.S r ∧ Below W.heap.size W w') := hid CRR
        have hg5 : lnS 5000 g.S := ⟨by have := hall.2.1; omega, by have := hall.2.2.1; omega, by have := hall.2.2.2.1; omega, by have := hall.2.2.2.2; omega⟩
        have CWg : Hid (∀ (r : SentP) W, RdS W W.heap.size g.S r → Calls Try.prog 11 #[.agg #[.int .i64 g.knd, .int .i64 g.frm, .int .i64 g.stp, .int .i64 g.S.sch, .int .i64 g.S.dim, .slice r.AL g.S.L.length r.cL, .slice r.AV g.S.V.length r.cV, .int .i64 g.S.scale, .int .i64 g.S.wide, .slice r.AE g.S.lev.length r.cE, .slice r.AN g.S.neg.length r.cN]] W (OwnE 5 .u8 W.heap.size b 0 W)) := hid (fun r W h => by
          have hh := F.write g r hg5 gw W h
          rw [gV, gE] at hh
          exact hh)
        have CKg : Hid (∀ (r : SentP) W, RdS W W.heap.size g.S r → Calls Try.prog 20 #[.agg #[.int .i64 g.knd, .int .i64 g.frm, .int .i64 g.stp, .int .i64 g.S.sch, .int .i64 g.S.dim, .slice r.AL g.S.L.length r.cL, .slice r.AV g.S.V.length r.cV, .int .i64 g.S.scale, .int .i64 g.S.wide, .slice r.AE g.S.lev.length r.cE, .slice r.AN g.S.neg.length r.cN]] W fun e w' => e = .returned (.int .i64 0) ∧ Below W.heap.size W w') := hid (fun r W h => by
          have hh := F.check g r hg5 gw W h
          rw [gc] at hh
          exact hh)
        by_cases he : wrtE f = 0
        · obtain ⟨hrd, uS, hSl, _⟩ := rd_wrt wf (show f.S.V.length ≤ 1000 by have := hln.2.1; omega) he
          have htl := text_len (n := 500) (hwr.1.1 he) wf hln.2.1
          rw [he] at CW
          obtain ⟨S, hS⟩ : ∃ S, wrtV f = S := ⟨_, rfl⟩
          rw [hS] at CW hrd uS hSl
          have CRs : Hid (∀ A c W, S.length ≤ c → c ≤ 9223372036854775807 → Rd (Value.int .u8) W W.heap.size A S → Calls Try.prog 26 #[.slice A S.length c] W fun e w' => ∃ q : SentP, e = .returned (.tuple #[.agg #[.int .i64 f.knd, .int .i64 f.frm, .int .i64 f.stp, .int .i64 f.S.sch, .int .i64 f.S.dim, .slice q.AL f.S.L.length q.cL, .slice q.AV f.S.V.length q.cV, .int .i64 f.S.scale, .int .i64 f.S.wide, .slice q.AE f.S.lev.length q.cE, .slice q.AN f.S.neg.length q.cN], .int .i64 0]) ∧ RdS w' w'.heap.size f.S q ∧ Below W.heap.size W w') := hid (fun A c W h1 h2 h => by
            have hh := F.read A c S (by omega) h1 h2 uS W h
            rw [hrd] at hh
            exact hh)
          have CSf : Hid (∀ (q : SentP) W, RdS W W.heap.size f.S p → RdS W W.heap.size f.S q → Calls Try.prog 22 #[.agg #[.int .i64 f.knd, .int .i64 f.frm, .int .i64 f.stp, .int .i64 f.S.sch, .int .i64 f.S.dim, .slice p.AL f.S.L.length p.cL, .slice p.AV f.S.V.length p.cV, .int .i64 f.S.scale, .int .i64 f.S.wide, .slice p.AE f.S.lev.length p.cE, .slice p.AN f.S.neg.length p.cN], .agg #[.int .i64 f.knd, .int .i64 f.frm, .int .i64 f.stp, .int .i64 f.S.sch, .int .i64 f.S.dim, .slice q.AL f.S.L.length q.cL, .slice q.AV f.S.V.length q.cV, .int .i64 f.S.scale, .int .i64 f.S.wide, .slice q.AE f.S.lev.length q.cE, .slice q.AN f.S.neg.length q.cN]] W fun e w' => e = .returned (.bool true) ∧ Below W.heap.size W w') := hid (fun q W h1 h2 => fs_Same_yes f p q (hln.more (by decide)) W h1 h2)
          clear hrd uS hSl htl hS he hwr CRR hall hbk hbd hg
          clear hbig hb0 hln rf wf cp rb ub hlen
          go_enter Try.func4, Try.ntmps4
          go_wp2_with fail
          refine (CL.out _).mono ?_
          rintro _ w1 ⟨rfl, hb1⟩
          have k1 : Below w.heap.size w w1 := Below.trans (by go_grown) (hb1.mono (by simp))
          have X1 := hid (HBX.out.below hb1 (by simp))
          clear hb1 CL HBX
          obtain ⟨⟨c0, c1, c2, c3, c4, c5, c6, c7, c8, c9, c10⟩, _⟩ := box_G X1.out
          go_wp2_with fail
          refine (CB.out _).mono ?_
          rintro _ w2 ⟨rfl, hb2⟩
          have k2 := k1.trans (hb2.mono k1.size)
          have X2 := hid (X1.out.below hb2 (X1.out.lt (by simp [cellsG])))
          clear hb2 c0 c1 c2 c3 c4 c5 c6 c7 c8 c9 c10 X1 k1 CB
          obtain ⟨⟨c0, c1, c2, c3, c4, c5, c6, c7, c8, c9, c10⟩, _⟩ := box_G X2.out
          have CW2 := hid (CW.out w2 k2)
          clear CW
          go_wp2_with fail
          refine CW2.out.mono ?_
          rintro _ w3 ⟨A3, d3, rfl, ho3, hb3⟩
          have k3 := k2.trans (hb3.mono k2.size)
          have X3 := hid (X2.out.below hb3 (X2.out.lt (by simp [cellsG])))
          clear hb3 c0 c1 c2 c3 c4 c5 c6 c7 c8 c9 c10 X2 k2 CW2
          have hcap := own_cap ho3
          have C4 := hid (CRs.out A3 d3 w3 hcap.1 hcap.2 (own_rd ho3))
          clear ho3 hcap CRs
          go_wp2_with fail
          refine C4.out.mono ?_
          rintro _ w4 ⟨q, rfl, hr4, hb4⟩
          have k4 := k3.trans (hb4.mono k3.size)
          have X4 := hid (X3.out.below hb4 (X3.out.lt (by simp [cellsG])))
          have k5 : Below w.heap.size w (w4.alloc (.cells #[.int .i64 f.knd, .int .i64 f.frm, .int .i64 f.stp, .int .i64 f.S.sch, .int .i64 f.S.dim, .slice q.AL f.S.L.length q.cL, .slice q.AV f.S.V.length q.cV, .int .i64 f.S.scale, .int .i64 f.S.wide, .slice q.AE f.S.lev.length q.cE, .slice q.AN f.S.neg.length q.cN] 29)) := k4.alloc k4.size _
          have g5 := growd w4 (.cells #[.int .i64 f.knd, .int .i64 f.frm, .int .i64 f.stp, .int .i64 f.S.sch, .int .i64 f.S.dim, .slice q.AL f.S.L.length q.cL, .slice q.AV f.S.V.length q.cV, .int .i64 f.S.scale, .int .i64 f.S.wide, .slice q.AE f.S.lev.length q.cE, .slice q.AN f.S.neg.length q.cN] 29)
          have X5 := hid (X4.out.below g5 (X4.out.lt (by simp [cellsG])))
          have C5 := hid (CSf.out q _ (RF2.out _ k5) ((hr4.below g5).more g5.size))
          obtain ⟨⟨c0, c1, c2, c3, c4, c5, c6, c7, c8, c9, c10⟩, _⟩ := box_G X4.out
          have hl4 := X4.out.lt (by simp [cellsG])
          clear hb4 hr4 g5 X3 k3 C4 CSf X4 k4
          go_wp2_with fail
          refine C5.out.mono ?_
          rintro _ w5 ⟨rfl, hb5⟩
          have k6 := k5.trans (hb5.mono k5.size)
          clear hb5 c0 c1 c2 c3 c4 c5 c6 c7 c8 c9 c10 k5 X5 C5 hl4
          have C7 := hid (CRb.out _ k6)
          have W5N := k6
          clear CRb
          go_wp2_with fail
          refine C7.out.mono ?_
          rintro _ w7 ⟨r, rfl, hr7, hb7⟩
          have k7 := k6.trans (hb7.mono k6.size)
          have k8 : Below w.heap.size w (w7.alloc (.cells #[.int .i64 g.knd, .int .i64 g.frm, .int .i64 g.stp, .int .i64 g.S.sch, .int .i64 g.S.dim, .slice r.AL g.S.L.length r.cL, .slice r.AV g.S.V.length r.cV, .int .i64 g.S.scale, .int .i64 g.S.wide, .slice r.AE g.S.lev.length r.cE, .slice r.AN g.S.neg.length r.cN] 29)) := k7.alloc k7.size _
          have g8 := growd w7 (.cells #[.int .i64 g.knd, .int .i64 g.frm, .int .i64 g.stp, .int .i64 g.S.sch, .int .i64 g.S.dim, .slice r.AL g.S.L.length r.cL, .slice r.AV g.S.V.length r.cV, .int .i64 g.S.scale, .int .i64 g.S.wide, .slice r.AE g.S.lev.length r.cE, .slice r.AN g.S.neg.length r.cN] 29)
          have Y8 : Hid (BoxL (w7.alloc (.cells #[.int .i64 g.knd, .int .i64 g.frm, .int .i64 g.stp, .int .i64 g.S.sch, .int .i64 g.S.dim, .slice r.AL g.S.L.length r.cL, .slice r.AV g.S.V.length r.cV, .int .i64 g.S.scale, .int .i64 g.S.wide, .slice r.AE g.S.lev.length r.cE, .slice r.AN g.S.neg.length r.cN] 29)) w7.heap.size (cellsG g r)) := hid (BoxL.new w7 _ _)
          have R8 : Hid (RdS (w7.alloc (.cells #[.int .i64 g.knd, .int .i64 g.frm, .int .i64 g.stp, .int .i64 g.S.sch, .int .i64 g.S.dim, .slice r.AL g.S.L.length r.cL, .slice r.AV g.S.V.length r.cV, .int .i64 g.S.scale, .int .i64 g.S.wide, .slice r.AE g.S.lev.length r.cE, .slice r.AN g.S.neg.length r.cN] 29)) (w7.alloc (.cells #[.int .i64 g.knd, .int .i64 g.frm, .int .i64 g.stp, .int .i64 g.S.sch, .int .i64 g.S.dim, .slice r.AL g.S.L.length r.cL, .slice r.AV g.S.V.length r.cV, .int .i64 g.S.scale, .int .i64 g.S.wide, .slice r.AE g.S.lev.length r.cE, .slice r.AN g.S.neg.length r.cN] 29)).heap.size g.S r) := hid ((hr7.below g8).more g8.size)
          have C8 := hid (CWg.out r _ R8.out)
          clear hb7 hr7 g8 k7 k6 W5N C7 CWg
          go_wp2_with fail
          refine C8.out.mono ?_
          rintro _ w9 ⟨A9, d9, rfl, ho9, hb9⟩
          have k9 := k8.trans (hb9.mono k8.size)
          have Y9 := hid (Y8.out.below hb9 (by simp))
          have R9 := hid ((R8.out.below hb9).more hb9.size)
          have C9 := hid (CKg.out r _ R9.out)
          have S9 := hid (own_rd ho9)
          have B9 := hid (RB.out w9 k9)
          obtain ⟨⟨e0, e1, e2, e3, e4, e5, e6, e7, e8, e9, e10⟩, _⟩ := box_G Y9.out
          clear hb9 ho9 k8 Y8 R8 C8 CKg
          go_wp2_with fail
          refine (CS3.out _ _ _ _ w9 _ _ S9.out B9.out).mono ?_
          rintro _ _ ⟨rfl, rfl⟩
          go_wp2_with fail
          refine C9.out.mono ?_
          rintro _ w10 ⟨rfl, hb10⟩
          go_wp2_with fail
          go_ret
          exact ⟨rfl, k9.trans (hb10.mono k9.size)⟩
        · have hV : wrtV f = [] := by
            unfold wrtV
            rw [if_neg (fun h => he (hwr.1.2 h))]
          have he1 : wrtE f = 1 := by rcases hwr.2 with h | h; exact absurd h he; exact h
          rw [hV, he1] at CW
          clear hV he1 he hwr CRR hall hbk hbd hg
          clear hbig hb0 hln rf wf cp rb ub hlen
          go_enter Try.func4, Try.ntmps4
          go_wp2_with fail
          refine (CL.out _).mono ?_
          rintro _ w1 ⟨rfl, hb1⟩
          have k1 : Below w.heap.size w w1 := Below.trans (by go_grown) (hb1.mono (by simp))
          have X1 := hid (HBX.out.below hb1 (by simp))
          clear hb1 CL HBX
          obtain ⟨⟨c0, c1, c2, c3, c4, c5, c6, c7, c8, c9, c10⟩, _⟩ := box_G X1.out
          go_wp2_with fail
          refine (CB.out _).mono ?_
          rintro _ w2 ⟨rfl, hb2⟩
          have k2 := k1.trans (hb2.mono k1.size)
          have X2 := hid (X1.out.below hb2 (X1.out.lt (by simp [cellsG])))
          clear hb2 c0 c1 c2 c3 c4 c5 c6 c7 c8 c9 c10 X1 k1 CB
          obtain ⟨⟨c0, c1, c2, c3, c4, c5, c6, c7, c8, c9, c10⟩, _⟩ := box_G X2.out
          have CW2 := hid (CW.out w2 k2)
          clear CW
          go_wp2_with fail
          refine CW2.out.mono ?_
          rintro _ w3 ⟨A3, d3, rfl, ho3, hb3⟩
          have k3 := k2.trans (hb3.mono k2.size)
          have X3 := hid (X2.out.below hb3 (X2.out.lt (by simp [cellsG])))
          clear hb3 c0 c1 c2 c3 c4 c5 c6 c7 c8 c9 c10 X2 k2 CW2
          have k6 := k3
          clear ho3 X3 k3
          have C7 := hid (CRb.out _ k6)
          have W5N := k6
          clear CRb
          go_wp2_with fail
          refine C7.out.mono ?_
          rintro _ w7 ⟨r, rfl, hr7, hb7⟩
          have k7 := k6.trans (hb7.mono k6.size)
          have k8 : Below w.heap.size w (w7.alloc (.cells #[.int .i64 g.knd, .int .i64 g.frm, .int .i64 g.stp, .int .i64 g.S.sch, .int .i64 g.S.dim, .slice r.AL g.S.L.length r.cL, .slice r.AV g.S.V.length r.cV, .int .i64 g.S.scale, .int .i64 g.S.wide, .slice r.AE g.S.lev.length r.cE, .slice r.AN g.S.neg.length r.cN] 29)) := k7.alloc k7.size _
          have g8 := growd w7 (.cells #[.int .i64 g.knd, .int .i64 g.frm, .int .i64 g.stp, .int .i64 g.S.sch, .int .i64 g.S.dim, .slice r.AL g.S.L.length r.cL, .slice r.AV g.S.V.length r.cV, .int .i64 g.S.scale, .int .i64 g.S.wide, .slice r.AE g.S.lev.length r.cE, .slice r.AN g.S.neg.length r.cN] 29)
          have Y8 : Hid (BoxL (w7.alloc (.cells #[.int .i64 g.knd, .int .i64 g.frm, .int .i64 g.stp, .int .i64 g.S.sch, .int .i64 g.S.dim, .slice r.AL g.S.L.length r.cL, .slice r.AV g.S.V.length r.cV, .int .i64 g.S.scale, .int .i64 g.S.wide, .slice r.AE g.S.lev.length r.cE, .slice r.AN g.S.neg.length r.cN] 29)) w7.heap.size (cellsG g r)) := hid (BoxL.new w7 _ _)
          have R8 : Hid (RdS (w7.alloc (.cells #[.int .i64 g.knd, .int .i64 g.frm, .int .i64 g.stp, .int .i64 g.S.sch, .int .i64 g.S.dim, .slice r.AL g.S.L.length r.cL, .slice r.AV g.S.V.length r.cV, .int .i64 g.S.scale, .int .i64 g.S.wide, .slice r.AE g.S.lev.length r.cE, .slice r.AN g.S.neg.length r.cN] 29)) (w7.alloc (.cells #[.int .i64 g.knd, .int .i64 g.frm, .int .i64 g.stp, .int .i64 g.S.sch, .int .i64 g.S.dim, .slice r.AL g.S.L.length r.cL, .slice r.AV g.S.V.length r.cV, .int .i64 g.S.scale, .int .i64 g.S.wide, .slice r.AE g.S.lev.length r.cE, .slice r.AN g.S.neg.length r.cN] 29)).heap.size g.S r) := hid ((hr7.below g8).more g8.size)
          have C8 := hid (CWg.out r _ R8.out)
          clear hb7 hr7 g8 k7 k6 W5N C7 CWg
          go_wp2_with fail
          refine C8.out.mono ?_
          rintro _ w9 ⟨A9, d9, rfl, ho9, hb9⟩
          have k9 := k8.trans (hb9.mono k8.size)
          have Y9 := hid (Y8.out.below hb9 (by simp))
          have R9 := hid ((R8.out.below hb9).more hb9.size)
          have C9 := hid (CKg.out r _ R9.out)
          have S9 := hid (own_rd ho9)
          have B9 := hid (RB.out w9 k9)
          obtain ⟨⟨e0, e1, e2, e3, e4, e5, e6, e7, e8, e9, e10⟩, _⟩ := box_G Y9.out
          clear hb9 ho9 k8 Y8 R8 C8 CKg
          go_wp2_with fail
          refine (CS3.out _ _ _ _ w9 _ _ S9.out B9.out).mono ?_
          rintro _ _ ⟨rfl, rfl⟩
          go_wp2_with fail
          refine C9.out.mono ?_
          rintro _ w10 ⟨rfl, hb10⟩
          go_wp2_with fail
          go_ret
          exact ⟨rfl, k9.trans (hb10.mono k9.size)⟩
      · have hgz : g = zeroF := hbd hE
        subst hgz
        have CRb : Hid (∀ W, Below w.heap.size w W → Calls Try.prog 26 #[.slice Ab b.length cb] W fun e w' => ∃ r : SentP, e = .returned (.tuple #[.agg #[.int .i64 0, .int .i64 0, .int .i64 0, .int .i64 0, .int .i64 0, .slice r.AL 0 r.cL, .slice r.AV 0 r.cV, .int .i64 0, .int .i64 0, .slice r.AE 0 r.cE, .slice r.AN 0 r.cN], .int .i64 E]) ∧ Below W.heap.size W w') := hid (fun W h => (CRR W h).mono fun _ _ ⟨r, q1, _, q3⟩ => ⟨r, q1, q3⟩)
        have CZ : Hid (∀ (r : SentP) W, Calls Try.prog 22 #[.agg #[.int .i64 0, .int .i64 0, .int .i64 0, .int .i64 0, .int .i64 0, .slice r.AL 0 r.cL, .slice r.AV 0 r.cV, .int .i64 0, .int .i64 0, .slice r.AE 0 r.cE, .slice r.AN 0 r.cN], .agg #[.int .i64 0, .int .i64 0, .int .i64 0, .int .i64 0, .int .i64 0, .slice none 0 0, .slice none 0 0, .int .i64 0, .int .i64 0, .slice none 0 0, .slice none 0 0]] W fun e w' => e = .returned (.bool true) ∧ Below W.heap.size W w') := hid (fun r W => fs_Same_yes zeroF r bareP (by show lnS 100000 zeroS; exact ⟨by decide, by decide, by decide, by decide⟩) W ⟨fun k x h => by simp [zeroF, zeroS] at h, fun k x h => by simp [zeroF, zeroS] at h, fun k x h => by simp [zeroF, zeroS] at h, fun k x h => by simp [zeroF, zeroS] at h⟩ ⟨Rd.none_, Rd.none_, Rd.none_, Rd.none_⟩)
        have gE : (E != 0) = true := by simpa using hE
        by_cases he : wrtE f = 0
        · obtain ⟨hrd, uS, hSl, _⟩ := rd_wrt wf (show f.S.V.length ≤ 1000 by have := hln.2.1; omega) he
          have htl := text_len (n := 500) (hwr.1.1 he) wf hln.2.1
          rw [he] at CW
          obtain ⟨S, hS⟩ : ∃ S, wrtV f = S := ⟨_, rfl⟩
          rw [hS] at CW hrd uS hSl
          have CRs : Hid (∀ A c W, S.length ≤ c → c ≤ 9223372036854775807 → Rd (Value.int .u8) W W.heap.size A S → Calls Try.prog 26 #[.slice A S.length c] W fun e w' => ∃ q : SentP, e = .returned (.tuple #[.agg #[.int .i64 f.knd, .int .i64 f.frm, .int .i64 f.stp, .int .i64 f.S.sch, .int .i64 f.S.dim, .slice q.AL f.S.L.length q.cL, .slice q.AV f.S.V.length q.cV, .int .i64 f.S.scale, .int .i64 f.S.wide, .slice q.AE f.S.lev.length q.cE, .slice q.AN f.S.neg.length q.cN], .int .i64 0]) ∧ RdS w' w'.heap.size f.S q ∧ Below W.heap.size W w') := hid (fun A c W h1 h2 h => by
            have hh := F.read A c S (by omega) h1 h2 uS W h
            rw [hrd] at hh
            exact hh)
          have CSf : Hid (∀ (q : SentP) W, RdS W W.heap.size f.S p → RdS W W.heap.size f.S q → Calls Try.prog 22 #[.agg #[.int .i64 f.knd, .int .i64 f.frm, .int .i64 f.stp, .int .i64 f.S.sch, .int .i64 f.S.dim, .slice p.AL f.S.L.length p.cL, .slice p.AV f.S.V.length p.cV, .int .i64 f.S.scale, .int .i64 f.S.wide, .slice p.AE f.S.lev.length p.cE, .slice p.AN f.S.neg.length p.cN], .agg #[.int .i64 f.knd, .int .i64 f.frm, .int .i64 f.stp, .int .i64 f.S.sch, .int .i64 f.S.dim, .slice q.AL f.S.L.length q.cL, .slice q.AV f.S.V.length q.cV, .int .i64 f.S.scale, .int .i64 f.S.wide, .slice q.AE f.S.lev.length q.cE, .slice q.AN f.S.neg.length q.cN]] W fun e w' => e = .returned (.bool true) ∧ Below W.heap.size W w') := hid (fun q W h1 h2 => fs_Same_yes f p q (hln.more (by decide)) W h1 h2)
          clear hrd uS hSl htl hS he hwr CRR hall hbk hbd hg
          clear hbig hb0 hln rf wf cp rb ub hlen
          go_enter Try.func4, Try.ntmps4
          go_wp2_with fail
          refine (CL.out _).mono ?_
          rintro _ w1 ⟨rfl, hb1⟩
          have k1 : Below w.heap.size w w1 := Below.trans (by go_grown) (hb1.mono (by simp))
          have X1 := hid (HBX.out.below hb1 (by simp))
          clear hb1 CL HBX
          obtain ⟨⟨c0, c1, c2, c3, c4, c5, c6, c7, c8, c9, c10⟩, _⟩ := box_G X1.out
          go_wp2_with fail
          refine (CB.out _).mono ?_
          rintro _ w2 ⟨rfl, hb2⟩
          have k2 := k1.trans (hb2.mono k1.size)
          have X2 := hid (X1.out.below hb2 (X1.out.lt (by simp [cellsG])))
          clear hb2 c0 c1 c2 c3 c4 c5 c6 c7 c8 c9 c10 X1 k1 CB
          obtain ⟨⟨c0, c1, c2, c3, c4, c5, c6, c7, c8, c9, c10⟩, _⟩ := box_G X2.out
          have CW2 := hid (CW.out w2 k2)
          clear CW
          go_wp2_with fail
          refine CW2.out.mono ?_
          rintro _ w3 ⟨A3, d3, rfl, ho3, hb3⟩
          have k3 := k2.trans (hb3.mono k2.size)
          have X3 := hid (X2.out.below hb3 (X2.out.lt (by simp [cellsG])))
          clear hb3 c0 c1 c2 c3 c4 c5 c6 c7 c8 c9 c10 X2 k2 CW2
          have hcap := own_cap ho3
          have C4 := hid (CRs.out A3 d3 w3 hcap.1 hcap.2 (own_rd ho3))
          clear ho3 hcap CRs
          go_wp2_with fail
          refine C4.out.mono ?_
          rintro _ w4 ⟨q, rfl, hr4, hb4⟩
          have k4 := k3.trans (hb4.mono k3.size)
          have X4 := hid (X3.out.below hb4 (X3.out.lt (by simp [cellsG])))
          have k5 : Below w.heap.size w (w4.alloc (.cells #[.int .i64 f.knd, .int .i64 f.frm, .int .i64 f.stp, .int .i64 f.S.sch, .int .i64 f.S.dim, .slice q.AL f.S.L.length q.cL, .slice q.AV f.S.V.length q.cV, .int .i64 f.S.scale, .int .i64 f.S.wide, .slice q.AE f.S.lev.length q.cE, .slice q.AN f.S.neg.length q.cN] 29)) := k4.alloc k4.size _
          have g5 := growd w4 (.cells #[.int .i64 f.knd, .int .i64 f.frm, .int .i64 f.stp, .int .i64 f.S.sch, .int .i64 f.S.dim, .slice q.AL f.S.L.length q.cL, .slice q.AV f.S.V.length q.cV, .int .i64 f.S.scale, .int .i64 f.S.wide, .slice q.AE f.S.lev.length q.cE, .slice q.AN f.S.neg.length q.cN] 29)
          have X5 := hid (X4.out.below g5 (X4.out.lt (by simp [cellsG])))
          have C5 := hid (CSf.out q _ (RF2.out _ k5) ((hr4.below g5).more g5.size))
          obtain ⟨⟨c0, c1, c2, c3, c4, c5, c6, c7, c8, c9, c10⟩, _⟩ := box_G X4.out
          have hl4 := X4.out.lt (by simp [cellsG])
          clear hb4 hr4 g5 X3 k3 C4 CSf X4 k4
          go_wp2_with fail
          refine C5.out.mono ?_
          rintro _ w5 ⟨rfl, hb5⟩
          have k6 := k5.trans (hb5.mono k5.size)
          clear hb5 c0 c1 c2 c3 c4 c5 c6 c7 c8 c9 c10 k5 X5 C5 hl4
          have C7 := hid (CRb.out _ k6)
          clear CRb
          go_wp2_with fail
          refine C7.out.mono ?_
          rintro _ w7 ⟨r, rfl, hb7⟩
          have k7 := k6.trans (hb7.mono k6.size)
          have k8 : Below w.heap.size w (w7.alloc (.cells #[.int .i64 0, .int .i64 0, .int .i64 0, .int .i64 0, .int .i64 0, .slice r.AL 0 r.cL, .slice r.AV 0 r.cV, .int .i64 0, .int .i64 0, .slice r.AE 0 r.cE, .slice r.AN 0 r.cN] 29)) := k7.alloc k7.size _
          have C8 := hid (CZ.out r (w7.alloc (.cells #[.int .i64 0, .int .i64 0, .int .i64 0, .int .i64 0, .int .i64 0, .slice r.AL 0 r.cL, .slice r.AV 0 r.cV, .int .i64 0, .int .i64 0, .slice r.AE 0 r.cE, .slice r.AN 0 r.cN] 29)))
          clear hb7 k7 k6 C7 CZ
          go_wp2_with fail
          refine C8.out.mono ?_
          rintro _ w9 ⟨rfl, hb9⟩
          go_wp2_with fail
          go_ret
          exact ⟨rfl, k8.trans (hb9.mono k8.size)⟩
        · have hV : wrtV f = [] := by
            unfold wrtV
            rw [if_neg (fun h => he (hwr.1.2 h))]
          have he1 : wrtE f = 1 := by rcases hwr.2 with h | h; exact absurd h he; exact h
          rw [hV, he1] at CW
          clear hV he1 he hwr CRR hall hbk hbd hg
          clear hbig hb0 hln rf wf cp rb ub hlen
          go_enter Try.func4, Try.ntmps4
          go_wp2_with fail
          refine (CL.out _).mono ?_
          rintro _ w1 ⟨rfl, hb1⟩
          have k1 : Below w.heap.size w w1 := Below.trans (by go_grown) (hb1.mono (by simp))
          have X1 := hid (HBX.out.below hb1 (by simp))
          clear hb1 CL HBX
          obtain ⟨⟨c0, c1, c2, c3, c4, c5, c6, c7, c8, c9, c10⟩, _⟩ := box_G X1.out
          go_wp2_with fail
          refine (CB.out _).mono ?_
          rintro _ w2 ⟨rfl, hb2⟩
          have k2 := k1.trans (hb2.mono k1.size)
          have X2 := hid (X1.out.below hb2 (X1.out.lt (by simp [cellsG])))
          clear hb2 c0 c1 c2 c3 c4 c5 c6 c7 c8 c9 c10 X1 k1 CB
          obtain ⟨⟨c0, c1, c2, c3, c4, c5, c6, c7, c8, c9, c10⟩, _⟩ := box_G X2.out
          have CW2 := hid (CW.out w2 k2)
          clear CW
          go_wp2_with fail
          refine CW2.out.mono ?_
          rintro _ w3 ⟨A3, d3, rfl, ho3, hb3⟩
          have k3 := k2.trans (hb3.mono k2.size)
          have X3 := hid (X2.out.below hb3 (X2.out.lt (by simp [cellsG])))
          clear hb3 c0 c1 c2 c3 c4 c5 c6 c7 c8 c9 c10 X2 k2 CW2
          have k6 := k3
          clear ho3 X3 k3
          have C7 := hid (CRb.out _ k6)
          clear CRb
          go_wp2_with fail
          refine C7.out.mono ?_
          rintro _ w7 ⟨r, rfl, hb7⟩
          have k7 := k6.trans (hb7.mono k6.size)
          have k8 : Below w.heap.size w (w7.alloc (.cells #[.int .i64 0, .int .i64 0, .int .i64 0, .int .i64 0, .int .i64 0, .slice r.AL 0 r.cL, .slice r.AV 0 r.cV, .int .i64 0, .int .i64 0, .slice r.AE 0 r.cE, .slice r.AN 0 r.cN] 29)) := k7.alloc k7.size _
          have C8 := hid (CZ.out r (w7.alloc (.cells #[.int .i64 0, .int .i64 0, .int .i64 0, .int .i64 0, .int .i64 0, .slice r.AL 0 r.cL, .slice r.AV 0 r.cV, .int .i64 0, .int .i64 0, .slice r.AE 0 r.cE, .slice r.AN 0 r.cN] 29)))
          clear hb7 k7 k6 C7 CZ
          go_wp2_with fail
          refine C8.out.mono ?_
          rintro _ w9 ⟨rfl, hb9⟩
          go_wp2_with fail
          go_ret
          exact ⟨rfl, k8.trans (hb9.mono k8.size)⟩
    · have hlb : ((b.length : Int) > 3000) := by omega
      clear hlen rf wf cp rb ub hbig hb0 hln
      go_enter Try.func4, Try.ntmps4
      go_wp2_with fail
      refine (CL.out _).mono ?_
      rintro _ w1 ⟨rfl, hb1⟩
      have k1 : Below w.heap.size w w1 := Below.trans (by go_grown) (hb1.mono (by simp))
      have X1 := hid (HBX.out.below hb1 (by simp))
      clear hb1 CL HBX
      obtain ⟨⟨c0, c1, c2, c3, c4, c5, c6, c7, c8, c9, c10⟩, _⟩ := box_G X1.out
      go_wp2_with fail
      refine (CB.out _).mono ?_
      rintro _ w2 ⟨rfl, hb2⟩
      have k2 := k1.trans (hb2.mono k1.size)
      have X2 := hid (X1.out.below hb2 (X1.out.lt (by simp [cellsG])))
      clear hb2 c0 c1 c2 c3 c4 c5 c6 c7 c8 c9 c10 X1 k1 CB
      go_wp2_with fail
      go_ret
      exact ⟨rfl, k2⟩
theorem law_types : ∀ t ∈ Try.f4.params.toList, Try.prog.readableRec t = true ∧ t < Try.prog.types.size := by
  have h : (Try.f4.params.toList.all fun t => Try.prog.readableRec t && decide (t < Try.prog.types.size)) = true := by kernel_rfl
  intro t ht
  simpa using List.all_eq_true.1 h t ht
set_option maxRecDepth 100000 in
theorem lifted (os : Os) (started : os.Started) (H : Type) (enc : TypeId × Value → H) :
    ReturnsInHanded {} Try.checked os 4 .any (Rows.frameBackSpec.pre6 enc Try.prog Try.f4 Rows.frameBackRow.domain false) (Rows.frameBackSpec.post enc Try.prog Try.f4 false true false false) := by
  refine returnsInHanded_of_change (C := Try.checked) own started (by kernel_rfl) Try.func4
    (ChangeSpec.witness6 (enc := enc) (C := Try.checked) false ⟨#[], #[.agg #[.int .i64 0, .int .i64 0, .int .i64 0, .int .i64 0, .int .i64 0, .slice none 0 0, .slice none 0 0, .int .i64 0, .int .i64 0, .slice none 0 0, .slice none 0 0], .slice none 0 0], []⟩ 8 (by kernel_rfl) (by kernel_rfl) (by kernel_rfl) (by kernel_rfl)) ?_
  intro W base args ds gs before hval0 hW hcnd _
  have hval : ∀ (j : Nat) t v, Try.f4.params[j]? = some t → args[j]? = some v → Value.okWide Try.prog W .any base t v := hval0
  have hW' := hW
  obtain ⟨p, q, hA0, hV, rfl, hfz, hnd⟩ := hW
  have hA : DataW.TrodAll enc Try.prog W 0 (fun _ => true) true Try.f4.params.toList args.toList ds p := hA0
  rw [Try.params4] at hA hval
  obtain ⟨v0, vs0, d0, ds0, p0, q0, hargs, rfl, rfl, h0, r0⟩ := trodAll_cons hA
  obtain ⟨v1, vs1, d1, ds1, p1, q1, rfl, rfl, rfl, h1, r1⟩ := trodAll_cons r0
  obtain ⟨rfl, rfl, rfl⟩ := trodAll_nil r1
  obtain rfl : args = #[v0, v1] := by cases args; simp_all
  obtain ⟨rfl, rfl⟩ := trodVars_none hV
  obtain ⟨f, pf, rfl, rdf, wff, cpf⟩ := open_frame (hval 0 29 v0 rfl rfl) h0
  obtain ⟨Ab, b, cb, rfl, rdb, ib, lcb, lmb⟩ := open_nums Try.underlying32 Try.underlying5 cells_u8 (hval 1 32 v1 rfl rfl) h1
  clear hA0 hval0
  refine (walk frOk f pf Ab b cb W rdf wff cpf rdb (fun x hx => bounds_u8 (ib x hx)) lcb lmb).mono fun e W' ⟨he, hb⟩ => ?_
  subst he
  exact ⟨_, rfl, law_post laid (fun t ht => law_types t ht) rfl hW' ⟨rfl, rfl, rfl⟩ (by kernel_rfl) Try.underlying4 hb⟩

theorem over : Rows.frameBackRow.holds Try.pinned (OpenSpec.ofChange Rows.frameBackSpec) :=
  OpenClaim.holds_of_wide 4 Try.f4 rfl rfl rfl rfl rfl rfl rfl ⟨rfl, rfl, rfl, rfl, rfl⟩ rfl rfl rfl rfl rfl (by kernel_rfl) Try.func4 (by kernel_rfl)
    (of_decide_eq_true (by kernel_rfl)) (by unfold Func.isWrapper; first | (rw [if_pos (by decide +kernel)]; kernel_rfl) | (rw [if_neg (by decide +kernel)]; exact ⟨rfl, rfl⟩))
    (fun os started H enc _ => lifted os started H enc)

theorem proved : Rows.FrameBackSaid := over
end Go.Proofs.Ytooipmcpbkbemaa.FrameBack
