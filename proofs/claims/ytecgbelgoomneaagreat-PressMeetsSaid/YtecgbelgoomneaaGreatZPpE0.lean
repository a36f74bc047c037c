
/- ZPpE0: texts joined: PpE0. -/
import Derived.Test.YtecgbelgoomneaaGreatZi
import Derived.Test.YtecgbelgoomneaaGreatZPpC
import Derived.Test.YtecgbelgoomneaaGreatZe
/- A vector loosened by the program: all, the greatest. -/
namespace Go.Proofs.YtecgbelgoomneaaGreat
open Go.RowKit
set_option maxHeartbeats 4000000
set_option maxRecDepth 100000
set_option linter.unusedVariables false
theorem pn_Loosen0 (s : SentV) (p : SentP) (V : List Int) (hn : lnS 100000 s) (hw : wfS s) (hm : mayB s = true) (h : s.sch = 0) (w : World) (ra : RdS w w.heap.size s p)
    (CP0 : ∀ W, Below w.heap.size w W → Calls Tryz.prog 69 #[encT s p] W (OwnE 2 .i64 W.heap.size V 0 W)) :
    Calls Tryz.prog 20 #[encT s p] w (OwnE 2 .i64 w.heap.size V 0 w) := by
  obtain ⟨AL, cL, AV, cV, AE, cE, AN, cN⟩ := p
  have CM := hid (fun W (h : Below w.heap.size w W) => show Calls Tryz.prog 42 #[(.agg #[.int .i64 s.sch, .int .i64 s.dim, .slice AL s.L.length cL, .slice AV s.V.length cV, .int .i64 s.scale, .int .i64 s.wide, .slice AE s.lev.length cE, .slice AN s.neg.length cN])] W fun e w' => e = .returned (.bool (mayB s)) ∧ Below W.heap.size W w' from fs_May s ⟨AL, cL, AV, cV, AE, cE, AN, cN⟩ hn hw W (ra.on h))
  have CP := hid (fun W (h : Below w.heap.size w W) => show Calls Tryz.prog 69 #[(.agg #[.int .i64 s.sch, .int .i64 s.dim, .slice AL s.L.length cL, .slice AV s.V.length cV, .int .i64 s.scale, .int .i64 s.wide, .slice AE s.lev.length cE, .slice AN s.neg.length cN])] W fun e w' => ∃ A c, e = .returned (.tuple #[.slice A V.length c, .int .i64 0]) ∧ w'.ownsRow W.heap.size 2 1 (.slice A V.length c) V.length (V.map (Value.int .i64)) ∧ Below W.heap.size W w' from CP0 W h)
  have CW := hid (fun W => wy_ways W)
  rw [hm] at CM
  show Calls Tryz.prog 20 #[(.agg #[.int .i64 s.sch, .int .i64 s.dim, .slice AL s.L.length cL, .slice AV s.V.length cV, .int .i64 s.scale, .int .i64 s.wide, .slice AE s.lev.length cE, .slice AN s.neg.length cN])] w _
  have B0 := BoxL.new w [.int .i64 s.sch, .int .i64 s.dim, .slice AL s.L.length cL, .slice AV s.V.length cV, .int .i64 s.scale, .int .i64 s.wide, .slice AE s.lev.length cE, .slice AN s.neg.length cN] 32
  have HB0 := hid B0
  have hfd : ∀ V : World, (Instr.field 68 wyF0 2).run Tryz.prog V = .ok (.func (.func 69) #[] #[]) V := fun _ => by kernel_rfl
  have HS := hid h
  clear B0 CP0 hm h hn hw ra
  go_enter Tryz.func20, Tryz.ntmps20
  go_wp2_with fail
  refine (CM.out _ (by go_grown)).mono ?_
  rintro _ w1 ⟨rfl, hb⟩
  have HB := hid (HB0.out.below hb (by simp))
  have k1 : Below w.heap.size w w1 := Below.trans (by go_grown) (hb.mono (by simp))
  have hg1 : w.heap.size < w1.heap.size := by have := hb.size; simp at this; omega
  obtain ⟨⟨f0, f1, f2, f3, f4, f5, f6, f7⟩, _⟩ := HB.out.eight
  clear hb CM HB0
  go_wp2_with fail
  go_region_law (first | (go_simp; go_at_call 34; refine (CW.out _).mono ?_; rintro _ w2 ⟨rfl, hb2, hlt2, hf2⟩
                          have q2 : Below w1.heap.size w1 w2 := Below.trans ((Below.refl _ _).drew) hb2
                          obtain ⟨⟨e0, e1, e2, e3, e4, e5, e6, e7⟩, _⟩ := (HB.out.below q2 (by omega)).eight
                          have l2 : (Instr.lookup 69 (.map (some w1.heap.size)) (.int .i64 s.sch) false).run Tryz.prog w2 = .ok wyF0 w2 := (congrArg (fun x => (Instr.lookup 69 (.map (some w1.heap.size)) (.int .i64 x) false).run Tryz.prog w2) HS.out).trans (hf2 w2 rfl).l0)
                       | (go_simp; go_at_call 69; refine (CP.out _ (by exact k1.trans (q2.mono k1.size))).mono ?_; rintro _ w3 ⟨A3, c3, rfl, o3, hb3⟩) | fail)
  all_goals
    have hfin : OwnE 2 .i64 w.heap.size V 0 w (.returned (.tuple #[.slice A3 V.length c3, .int .i64 0])) w3 := ⟨A3, c3, rfl, own_base o3 (by have := q2.size; have := k1.size; omega), k1.trans ((q2.trans (hb3.mono q2.size)).mono k1.size)⟩
    clear o3 hb3 q2 CP CW HB e0 e1 e2 e3 e4 e5 e6 e7 f0 f1 f2 f3 f4 f5 f6 f7 l2 hfd hf2 hb2 hlt2
    go_wp2_with fail
    go_ret2
    exact hfin
theorem pn_Loosen1 (s : SentV) (p : SentP) (V : List Int) (hn : lnS 100000 s) (hw : wfS s) (hm : mayB s = true) (h : s.sch = 1) (w : World) (ra : RdS w w.heap.size s p)
    (CP0 : ∀ W, Below w.heap.size w W → Calls Tryz.prog 73 #[encT s p] W (OwnE 2 .i64 W.heap.size V 0 W)) :
    Calls Tryz.prog 20 #[encT s p] w (OwnE 2 .i64 w.heap.size V 0 w) := by
  obtain ⟨AL, cL, AV, cV, AE, cE, AN, cN⟩ := p
  have CM := hid (fun W (h : Below w.heap.size w W) => show Calls Tryz.prog 42 #[(.agg #[.int .i64 s.sch, .int .i64 s.dim, .slice AL s.L.length cL, .slice AV s.V.length cV, .int .i64 s.scale, .int .i64 s.wide, .slice AE s.lev.length cE, .slice AN s.neg.length cN])] W fun e w' => e = .returned (.bool (mayB s)) ∧ Below W.heap.size W w' from fs_May s ⟨AL, cL, AV, cV, AE, cE, AN, cN⟩ hn hw W (ra.on h))
  have CP := hid (fun W (h : Below w.heap.size w W) => show Calls Tryz.prog 73 #[(.agg #[.int .i64 s.sch, .int .i64 s.dim, .slice AL s.L.length cL, .slice AV s.V.length cV, .int .i64 s.scale, .int .i64 s.wide, .slice AE s.lev.length cE, .slice AN s.neg.length cN])] W fun e w' => ∃ A c, e = .returned (.tuple #[.slice A V.length c, .int .i64 0]) ∧ w'.ownsRow W.heap.size 2 1 (.slice A V.length c) V.length (V.map (Value.int .i64)) ∧ Below W.heap.size W w' from CP0 W h)
  have CW := hid (fun W => wy_ways W)
  rw [hm] at CM
  show Calls Tryz.prog 20 #[(.agg #[.int .i64 s.sch, .int .i64 s.dim, .slice AL s.L.length cL, .slice AV s.V.length cV, .int .i64 s.scale, .int .i64 s.wide, .slice AE s.lev.length cE, .slice AN s.neg.length cN])] w _
  have B0 := BoxL.new w [.int .i64 s.sch, .int .i64 s.dim, .slice AL s.L.length cL, .slice AV s.V.length cV, .int .i64 s.scale, .int .i64 s.wide, .slice AE s.lev.length cE, .slice AN s.neg.length cN] 32
  have HB0 := hid B0
  have hfd : ∀ V : World, (Instr.field 68 wyF1 2).run Tryz.prog V = .ok (.func (.func 73) #[] #[]) V := fun _ => by kernel_rfl
  have HS := hid h
  clear B0 CP0 hm h hn hw ra
  go_enter Tryz.func20, Tryz.ntmps20
  go_wp2_with fail
  refine (CM.out _ (by go_grown)).mono ?_
  rintro _ w1 ⟨rfl, hb⟩
  have HB := hid (HB0.out.below hb (by simp))
  have k1 : Below w.heap.size w w1 := Below.trans (by go_grown) (hb.mono (by simp))
  have hg1 : w.heap.size < w1.heap.size := by have := hb.size; simp at this; omega
  obtain ⟨⟨f0, f1, f2, f3, f4, f5, f6, f7⟩, _⟩ := HB.out.eight
  clear hb CM HB0
  go_wp2_with fail
  go_region_law (first | (go_simp; go_at_call 34; refine (CW.out _).mono ?_; rintro _ w2 ⟨rfl, hb2, hlt2, hf2⟩
                          have q2 : Below w1.heap.size w1 w2 := Below.trans ((Below.refl _ _).drew) hb2
                          obtain ⟨⟨e0, e1, e2, e3, e4, e5, e6, e7⟩, _⟩ := (HB.out.below q2 (by omega)).eight
                          have l2 : (Instr.lookup 69 (.map (some w1.heap.size)) (.int .i64 s.sch) false).run Tryz.prog w2 = .ok wyF1 w2 := (congrArg (fun x => (Instr.lookup 69 (.map (some w1.heap.size)) (.int .i64 x) false).run Tryz.prog w2) HS.out).trans (hf2 w2 rfl).l1)
                       | (go_simp; go_at_call 73; refine (CP.out _ (by exact k1.trans (q2.mono k1.size))).mono ?_; rintro _ w3 ⟨A3, c3, rfl, o3, hb3⟩) | fail)
  all_goals
    have hfin : OwnE 2 .i64 w.heap.size V 0 w (.returned (.tuple #[.slice A3 V.length c3, .int .i64 0])) w3 := ⟨A3, c3, rfl, own_base o3 (by have := q2.size; have := k1.size; omega), k1.trans ((q2.trans (hb3.mono q2.size)).mono k1.size)⟩
    clear o3 hb3 q2 CP CW HB e0 e1 e2 e3 e4 e5 e6 e7 f0 f1 f2 f3 f4 f5 f6 f7 l2 hfd hf2 hb2 hlt2
    go_wp2_with fail
    go_ret2
    exact hfin
end Go.Proofs.YtecgbelgoomneaaGreat
