
/- KFsN: texts joined: FsN. -/
import Derived.Test.YthcigkcnknibgaaKFsE
import Derived.BigQuiet
/- Are two frames the same, by the program: whatever they are. -/
namespace Go.Proofs.Ythcigkcnknibgaa
open Go.RowKit
set_option maxHeartbeats 4000000
set_option maxRecDepth 100000
set_option linter.unusedVariables false
attribute [local go_sem] equal_eight equal_three
/-- A region that draws, walked once, in a class of worlds of one's own. -/
theorem region_in {P : Program} {C : World → Prop} {id : Nat} {Q : Exit → Act → World → Prop} {a : Act} {w : World} {l : List Oper} (hm : P.follows .mixedOrders = true) (hB : Region.lexB .any l.toArray = true) (hC : C w.drew)
    (h : wpQuiet P l.toArray C (fun a' => ∀ w', C w' → Q .normal a' w') l a) : (Code.region id l.toArray true).wp P Q a w :=
  wp_region_quiet hm hB hC (by simpa using h)
def headF (f : FrameV) : List Int := [f.knd, f.frm, f.stp]
def outF (f : FrameV) : List Int := [f.S.sch, f.S.dim, f.S.scale, f.S.wide, (f.S.L.length : Int), f.S.V.length, f.S.lev.length, f.S.neg.length]
/-- The same, as the program asks it. -/
def sameP (f g : FrameV) : Bool := eqB (headF f) (headF g) && (eqB (outF f) (outF g) && (eqB f.S.L g.S.L && (eqB f.S.V g.S.V && (eqB f.S.lev g.S.lev && eqN f.S.neg g.S.neg))))
theorem sameP_iff {f g : FrameV} : sameP f g = true ↔ f = g := by
  obtain ⟨a1, a2, a3, ⟨b1, b2, b3, b4, b5, b6, b7, b8⟩⟩ := f
  obtain ⟨c1, c2, c3, ⟨d1, d2, d3, d4, d5, d6, d7, d8⟩⟩ := g
  unfold sameP eqB eqN headF outF
  simp only [Bool.and_eq_true, decide_eq_true_eq, List.cons.injEq, and_true, FrameV.mk.injEq, SentV.mk.injEq]
  constructor
  · rintro ⟨⟨h1, h2, h3⟩, ⟨h4, h5, h6, h7, _⟩, h8, h9, h10, h11⟩
    exact ⟨h1, h2, h3, h4, h5, h8, h9, h6, h7, h10, h11⟩
  · rintro ⟨rfl, rfl, rfl, rfl, rfl, rfl, rfl, rfl, rfl, rfl, rfl⟩
    exact ⟨⟨rfl, rfl, rfl⟩, ⟨rfl, rfl, rfl, rfl, rfl, rfl, rfl, rfl⟩, rfl, rfl, rfl, rfl⟩
theorem sameP_eq (f g : FrameV) : sameP f g = sameF f g := by
  rw [Bool.eq_iff_iff, sameP_iff, sameF_iff]
theorem ret_bool {a b : Bool} (h : a = b) : Ending.returned (Value.bool a) = Ending.returned (Value.bool b) := by rw [h]
theorem fs_Same (f g : FrameV) (p q : SentP) (hf : lnS 100000 f.S) (hg : lnS 100000 g.S) (w : World) (ra : RdS w w.heap.size f.S p) (rb : RdS w w.heap.size g.S q) :
    Calls Try.prog 18 #[encF f p, encF g q] w fun e w' => e = .returned (.bool (sameP f g)) ∧ Below w.heap.size w w' := by
  have CH1 := hid (fun W => (show Calls Try.prog 38 #[.agg #[.int .i64 f.knd, .int .i64 f.frm, .int .i64 f.stp, .int .i64 f.S.sch, .int .i64 f.S.dim, .slice p.AL f.S.L.length p.cL, .slice p.AV f.S.V.length p.cV, .int .i64 f.S.scale, .int .i64 f.S.wide, .slice p.AE f.S.lev.length p.cE, .slice p.AN f.S.neg.length p.cN]] W fun e w' => e = .returned (.agg #[.int .i64 f.knd, .int .i64 f.frm, .int .i64 f.stp]) ∧ Below W.heap.size W w' by exact fs_head f p W))
  have CO1 := hid (fun W => (show Calls Try.prog 39 #[.agg #[.int .i64 f.S.sch, .int .i64 f.S.dim, .slice p.AL f.S.L.length p.cL, .slice p.AV f.S.V.length p.cV, .int .i64 f.S.scale, .int .i64 f.S.wide, .slice p.AE f.S.lev.length p.cE, .slice p.AN f.S.neg.length p.cN]] W fun e w' => e = .returned (.agg #[.int .i64 f.S.sch, .int .i64 f.S.dim, .int .i64 f.S.scale, .int .i64 f.S.wide, .int .i64 f.S.L.length, .int .i64 f.S.V.length, .int .i64 f.S.lev.length, .int .i64 f.S.neg.length]) ∧ Below W.heap.size W w' by exact fs_outline f.S p W))
  have CH2 := hid (fun W => (show Calls Try.prog 38 #[.agg #[.int .i64 g.knd, .int .i64 g.frm, .int .i64 g.stp, .int .i64 g.S.sch, .int .i64 g.S.dim, .slice q.AL g.S.L.length q.cL, .slice q.AV g.S.V.length q.cV, .int .i64 g.S.scale, .int .i64 g.S.wide, .slice q.AE g.S.lev.length q.cE, .slice q.AN g.S.neg.length q.cN]] W fun e w' => e = .returned (.agg #[.int .i64 g.knd, .int .i64 g.frm, .int .i64 g.stp]) ∧ Below W.heap.size W w' by exact fs_head g q W))
  have CO2 := hid (fun W => (show Calls Try.prog 39 #[.agg #[.int .i64 g.S.sch, .int .i64 g.S.dim, .slice q.AL g.S.L.length q.cL, .slice q.AV g.S.V.length q.cV, .int .i64 g.S.scale, .int .i64 g.S.wide, .slice q.AE g.S.lev.length q.cE, .slice q.AN g.S.neg.length q.cN]] W fun e w' => e = .returned (.agg #[.int .i64 g.S.sch, .int .i64 g.S.dim, .int .i64 g.S.scale, .int .i64 g.S.wide, .int .i64 g.S.L.length, .int .i64 g.S.V.length, .int .i64 g.S.lev.length, .int .i64 g.S.neg.length]) ∧ Below W.heap.size W w' by exact fs_outline g.S q W))
  have CL := hid (fun W (h : Below w.heap.size w W) => (eq_ints (c := p.cL) (d := q.cL) f.S.L g.S.L (by have := hf.1; omega) (by have := hg.1; omega) W (ra.1.below h) (rb.1.below h)).mono fun _ w' ⟨h1, n, h2⟩ => (show _ ∧ Below W.heap.size W w' from ⟨h1, by rw [h2]; exact belowN _ _ _⟩))
  have CV := hid (fun W (h : Below w.heap.size w W) => (vec_SameQ (c := p.cV) (d := q.cV) f.S.V g.S.V (by have := hf.2.1; omega) (by have := hg.2.1; omega) W (ra.2.1.below h) (rb.2.1.below h)).mono fun _ w' ⟨h1, n, h2⟩ => (show _ ∧ Below W.heap.size W w' from ⟨h1, by rw [h2]; exact belowN _ _ _⟩))
  have CE := hid (fun W (h : Below w.heap.size w W) => (eq_u64s (c := p.cE) (d := q.cE) f.S.lev g.S.lev (by have := hf.2.2.1; omega) (by have := hg.2.2.1; omega) W (ra.2.2.1.below h) (rb.2.2.1.below h)).mono fun _ w' ⟨h1, n, h2⟩ => (show _ ∧ Below W.heap.size W w' from ⟨h1, by rw [h2]; exact belowN _ _ _⟩))
  have CN := hid (fun W (h : Below w.heap.size w W) => (eq_bools (c := p.cN) (d := q.cN) f.S.neg g.S.neg (by have := hf.2.2.2; omega) (by have := hg.2.2.2; omega) W (ra.2.2.2.below h) (rb.2.2.2.below h)).mono fun _ w' ⟨h1, n, h2⟩ => (show _ ∧ Below W.heap.size W w' from ⟨h1, by rw [h2]; exact belowN _ _ _⟩))
  have HR : Hid ((eqB (headF f) (headF g) && (eqB (outF f) (outF g) && (eqB f.S.L g.S.L && (eqB f.S.V g.S.V && (eqB f.S.lev g.S.lev && eqN f.S.neg g.S.neg))))) = sameP f g) := hid rfl
  obtain ⟨R, hR⟩ : ∃ R, sameP f g = R := ⟨_, rfl⟩
  rw [hR] at HR ⊢
  obtain ⟨X1, h1⟩ : ∃ X, eqB [f.knd, f.frm, f.stp] [g.knd, g.frm, g.stp] = X := ⟨_, rfl⟩
  obtain ⟨X2, h2⟩ : ∃ X, eqB [f.S.sch, f.S.dim, f.S.scale, f.S.wide, (f.S.L.length : Int), f.S.V.length, f.S.lev.length, f.S.neg.length] [g.S.sch, g.S.dim, g.S.scale, g.S.wide, (g.S.L.length : Int), g.S.V.length, g.S.lev.length, g.S.neg.length] = X := ⟨_, rfl⟩
  obtain ⟨X3, h3⟩ : ∃ X, eqB f.S.L g.S.L = X := ⟨_, rfl⟩
  obtain ⟨X4, h4⟩ : ∃ X, eqB f.S.V g.S.V = X := ⟨_, rfl⟩
  obtain ⟨X5, h5⟩ : ∃ X, eqB f.S.lev g.S.lev = X := ⟨_, rfl⟩
  obtain ⟨X6, h6⟩ : ∃ X, eqN f.S.neg g.S.neg = X := ⟨_, rfl⟩
  rw [show eqB (headF f) (headF g) = X1 from h1, show eqB (outF f) (outF g) = X2 from h2, h3, h4, h5, h6] at HR
  rw [h3] at CL
  rw [h4] at CV
  rw [h5] at CE
  rw [h6] at CN
  obtain ⟨C, hC⟩ : ∃ C : World → Prop, C = fun W => W.cell? ⟨w.heap.size, 0, none⟩ = some (.int .i64 f.knd) ∧ W.cell? ⟨w.heap.size, 1, none⟩ = some (.int .i64 f.frm) ∧ W.cell? ⟨w.heap.size, 2, none⟩ = some (.int .i64 f.stp) ∧ W.cell? ⟨w.heap.size, 3, none⟩ = some (.int .i64 f.S.sch) ∧ W.cell? ⟨w.heap.size, 4, none⟩ = some (.int .i64 f.S.dim) ∧ W.cell? ⟨w.heap.size, 5, none⟩ = some (.slice p.AL f.S.L.length p.cL) ∧ W.cell? ⟨w.heap.size, 6, none⟩ = some (.slice p.AV f.S.V.length p.cV) ∧ W.cell? ⟨w.heap.size, 7, none⟩ = some (.int .i64 f.S.scale) ∧ W.cell? ⟨w.heap.size, 8, none⟩ = some (.int .i64 f.S.wide) ∧ W.cell? ⟨w.heap.size, 9, none⟩ = some (.slice p.AE f.S.lev.length p.cE) ∧ W.cell? ⟨w.heap.size, 10, none⟩ = some (.slice p.AN f.S.neg.length p.cN) ∧ W.cell? ⟨w.heap.size + 1, 0, none⟩ = some (.int .i64 g.knd) ∧ W.cell? ⟨w.heap.size + 1, 1, none⟩ = some (.int .i64 g.frm) ∧ W.cell? ⟨w.heap.size + 1, 2, none⟩ = some (.int .i64 g.stp) ∧ W.cell? ⟨w.heap.size + 1, 3, none⟩ = some (.int .i64 g.S.sch) ∧ W.cell? ⟨w.heap.size + 1, 4, none⟩ = some (.int .i64 g.S.dim) ∧ W.cell? ⟨w.heap.size + 1, 5, none⟩ = some (.slice q.AL g.S.L.length q.cL) ∧ W.cell? ⟨w.heap.size + 1, 6, none⟩ = some (.slice q.AV g.S.V.length q.cV) ∧ W.cell? ⟨w.heap.size + 1, 7, none⟩ = some (.int .i64 g.S.scale) ∧ W.cell? ⟨w.heap.size + 1, 8, none⟩ = some (.int .i64 g.S.wide) ∧ W.cell? ⟨w.heap.size + 1, 9, none⟩ = some (.slice q.AE g.S.lev.length q.cE) ∧ W.cell? ⟨w.heap.size + 1, 10, none⟩ = some (.slice q.AN g.S.neg.length q.cN) ∧ Below w.heap.size w W := ⟨_, rfl⟩
  have HC : Hid (∀ W, C W → W.cell? ⟨w.heap.size, 0, none⟩ = some (.int .i64 f.knd) ∧ W.cell? ⟨w.heap.size, 1, none⟩ = some (.int .i64 f.frm) ∧ W.cell? ⟨w.heap.size, 2, none⟩ = some (.int .i64 f.stp) ∧ W.cell? ⟨w.heap.size, 3, none⟩ = some (.int .i64 f.S.sch) ∧ W.cell? ⟨w.heap.size, 4, none⟩ = some (.int .i64 f.S.dim) ∧ W.cell? ⟨w.heap.size, 5, none⟩ = some (.slice p.AL f.S.L.length p.cL) ∧ W.cell? ⟨w.heap.size, 6, none⟩ = some (.slice p.AV f.S.V.length p.cV) ∧ W.cell? ⟨w.heap.size, 7, none⟩ = some (.int .i64 f.S.scale) ∧ W.cell? ⟨w.heap.size, 8, none⟩ = some (.int .i64 f.S.wide) ∧ W.cell? ⟨w.heap.size, 9, none⟩ = some (.slice p.AE f.S.lev.length p.cE) ∧ W.cell? ⟨w.heap.size, 10, none⟩ = some (.slice p.AN f.S.neg.length p.cN) ∧ W.cell? ⟨w.heap.size + 1, 0, none⟩ = some (.int .i64 g.knd) ∧ W.cell? ⟨w.heap.size + 1, 1, none⟩ = some (.int .i64 g.frm) ∧ W.cell? ⟨w.heap.size + 1, 2, none⟩ = some (.int .i64 g.stp) ∧ W.cell? ⟨w.heap.size + 1, 3, none⟩ = some (.int .i64 g.S.sch) ∧ W.cell? ⟨w.heap.size + 1, 4, none⟩ = some (.int .i64 g.S.dim) ∧ W.cell? ⟨w.heap.size + 1, 5, none⟩ = some (.slice q.AL g.S.L.length q.cL) ∧ W.cell? ⟨w.heap.size + 1, 6, none⟩ = some (.slice q.AV g.S.V.length q.cV) ∧ W.cell? ⟨w.heap.size + 1, 7, none⟩ = some (.int .i64 g.S.scale) ∧ W.cell? ⟨w.heap.size + 1, 8, none⟩ = some (.int .i64 g.S.wide) ∧ W.cell? ⟨w.heap.size + 1, 9, none⟩ = some (.slice q.AE g.S.lev.length q.cE) ∧ W.cell? ⟨w.heap.size + 1, 10, none⟩ = some (.slice q.AN g.S.neg.length q.cN) ∧ Below w.heap.size w W) := hid (fun W h => by rw [hC] at h; exact h)
  have HK : Hid (∀ W W', C W → Below W.heap.size W W' → C W') := hid (fun W W' h hb => by rw [hC] at h ⊢; exact held22 h hb)
  have HI : Hid (∀ W, (W.cell? ⟨w.heap.size, 0, none⟩ = some (.int .i64 f.knd) ∧ W.cell? ⟨w.heap.size, 1, none⟩ = some (.int .i64 f.frm) ∧ W.cell? ⟨w.heap.size, 2, none⟩ = some (.int .i64 f.stp) ∧ W.cell? ⟨w.heap.size, 3, none⟩ = some (.int .i64 f.S.sch) ∧ W.cell? ⟨w.heap.size, 4, none⟩ = some (.int .i64 f.S.dim) ∧ W.cell? ⟨w.heap.size, 5, none⟩ = some (.slice p.AL f.S.L.length p.cL) ∧ W.cell? ⟨w.heap.size, 6, none⟩ = some (.slice p.AV f.S.V.length p.cV) ∧ W.cell? ⟨w.heap.size, 7, none⟩ = some (.int .i64 f.S.scale) ∧ W.cell? ⟨w.heap.size, 8, none⟩ = some (.int .i64 f.S.wide) ∧ W.cell? ⟨w.heap.size, 9, none⟩ = some (.slice p.AE f.S.lev.length p.cE) ∧ W.cell? ⟨w.heap.size, 10, none⟩ = some (.slice p.AN f.S.neg.length p.cN) ∧ W.cell? ⟨w.heap.size + 1, 0, none⟩ = some (.int .i64 g.knd) ∧ W.cell? ⟨w.heap.size + 1, 1, none⟩ = some (.int .i64 g.frm) ∧ W.cell? ⟨w.heap.size + 1, 2, none⟩ = some (.int .i64 g.stp) ∧ W.cell? ⟨w.heap.size + 1, 3, none⟩ = some (.int .i64 g.S.sch) ∧ W.cell? ⟨w.heap.size + 1, 4, none⟩ = some (.int .i64 g.S.dim) ∧ W.cell? ⟨w.heap.size + 1, 5, none⟩ = some (.slice q.AL g.S.L.length q.cL) ∧ W.cell? ⟨w.heap.size + 1, 6, none⟩ = some (.slice q.AV g.S.V.length q.cV) ∧ W.cell? ⟨w.heap.size + 1, 7, none⟩ = some (.int .i64 g.S.scale) ∧ W.cell? ⟨w.heap.size + 1, 8, none⟩ = some (.int .i64 g.S.wide) ∧ W.cell? ⟨w.heap.size + 1, 9, none⟩ = some (.slice q.AE g.S.lev.length q.cE) ∧ W.cell? ⟨w.heap.size + 1, 10, none⟩ = some (.slice q.AN g.S.neg.length q.cN) ∧ Below w.heap.size w W) → C W) := hid (fun W h => by rw [hC]; exact h)
  clear hR h3 h4 h5 h6 hC ra rb hf hg
  cases X1 with
  | false =>
    go_enter Try.func18, Try.ntmps18
    go_wp2_with fail
    refine region_in (C := C) (by kernel_rfl) (by kernel_rfl) ?_ ?_
    · refine HI.out _ ⟨?_, ?_, ?_, ?_, ?_, ?_, ?_, ?_, ?_, ?_, ?_, ?_, ?_, ?_, ?_, ?_, ?_, ?_, ?_, ?_, ?_, ?_, by go_grown⟩ <;> (simp [go_sem]; done)
    go_big_quiet_want
    refine ⟨.agg #[.int .i64 f.knd, .int .i64 f.frm, .int .i64 f.stp, .int .i64 f.S.sch, .int .i64 f.S.dim, .slice p.AL f.S.L.length p.cL, .slice p.AV f.S.V.length p.cV, .int .i64 f.S.scale, .int .i64 f.S.wide, .slice p.AE f.S.lev.length p.cE, .slice p.AN f.S.neg.length p.cN], fun W hW => ?_, ?_⟩
    · obtain ⟨x0, x1, x2, x3, x4, x5, x6, x7, x8, x9, x10, y0, y1, y2, y3, y4, y5, y6, y7, y8, y9, y10, hB⟩ := HC.out W hW
      go_simp
    simp only [Act.put, List.setIfInBounds_toArray, List.set_cons_zero, List.set_cons_succ]
    go_big_quiet_on
    go_big_quiet_want
    go_big_quiet_op
    go_big_quiet_call ((intro hW; refine (CH1.out _).mono ?_; rintro _ w' ⟨rfl, hb⟩; exact ⟨rfl, HK.out _ _ hW hb⟩))
    go_big_quiet_want
    refine ⟨.agg #[.int .i64 g.knd, .int .i64 g.frm, .int .i64 g.stp, .int .i64 g.S.sch, .int .i64 g.S.dim, .slice q.AL g.S.L.length q.cL, .slice q.AV g.S.V.length q.cV, .int .i64 g.S.scale, .int .i64 g.S.wide, .slice q.AE g.S.lev.length q.cE, .slice q.AN g.S.neg.length q.cN], fun W hW => ?_, ?_⟩
    · obtain ⟨x0, x1, x2, x3, x4, x5, x6, x7, x8, x9, x10, y0, y1, y2, y3, y4, y5, y6, y7, y8, y9, y10, hB⟩ := HC.out W hW
      go_simp
    simp only [Act.put, List.setIfInBounds_toArray, List.set_cons_zero, List.set_cons_succ]
    go_big_quiet_on
    go_big_quiet_want
    go_big_quiet_op
    go_big_quiet_call ((intro hW; refine (CH2.out _).mono ?_; rintro _ w' ⟨rfl, hb⟩; exact ⟨rfl, HK.out _ _ hW hb⟩))
    go_big_quiet_want
    go_big_quiet_op
    first | go_big_quiet_on | (refine ⟨_, fun _ _ => rfl, ?_⟩; go_big_quiet_on)
    go_big_quiet_want
    go_big_quiet_op
    first | go_big_quiet_on | (refine ⟨_, fun _ _ => rfl, ?_⟩; go_big_quiet_on)
    go_big_quiet_skip
    go_big_quiet_skip
    go_big_quiet_skip
    go_big_quiet_skip
    go_big_quiet_skip
    go_big_quiet_skip
    go_big_quiet_skip
    go_big_quiet_want
    go_big_quiet_op
    first | go_big_quiet_on | (refine ⟨_, fun _ _ => rfl, ?_⟩; go_big_quiet_on)
    go_big_quiet_want
    go_big_quiet_op
    first | go_big_quiet_on | (refine ⟨_, fun _ _ => rfl, ?_⟩; go_big_quiet_on)
    go_big_quiet_skip
    go_big_quiet_skip
    go_big_quiet_skip
    go_big_quiet_skip
    go_big_quiet_skip
    go_big_quiet_skip
    go_big_quiet_skip
    go_big_quiet_want
    go_big_quiet_op
    first | go_big_quiet_on | (refine ⟨_, fun _ _ => rfl, ?_⟩; go_big_quiet_on)
    go_big_quiet_want
    go_big_quiet_op
    first | go_big_quiet_on | (refine ⟨_, fun _ _ => rfl, ?_⟩; go_big_quiet_on)
    go_big_quiet_skip
    go_big_quiet_skip
    go_big_quiet_skip
    go_big_quiet_skip
    go_big_quiet_skip
    go_big_quiet_skip
    go_big_quiet_skip
    go_big_quiet_want
    go_big_quiet_op
    first | go_big_quiet_on | (refine ⟨_, fun _ _ => rfl, ?_⟩; go_big_quiet_on)
    go_big_quiet_want
    go_big_quiet_op
    first | go_big_quiet_on | (refine ⟨_, fun _ _ => rfl, ?_⟩; go_big_quiet_on)
    go_big_quiet_skip
    go_big_quiet_skip
    go_big_quiet_skip
    go_big_quiet_skip
    go_big_quiet_skip
    go_big_quiet_skip
    go_big_quiet_skip
    go_big_quiet_want
    go_big_quiet_op
    first | go_big_quiet_on | (refine ⟨_, fun _ _ => rfl, ?_⟩; go_big_quiet_on)
    go_big_quiet_want
    go_big_quiet_op
    first | go_big_quiet_on | (refine ⟨_, fun _ _ => rfl, ?_⟩; go_big_quiet_on)
    go_big_quiet_skip
    go_big_quiet_skip
    go_big_quiet_skip
    go_big_quiet_skip
    go_big_quiet_skip
    go_big_quiet_skip
    go_big_quiet_skip
    go_big_quiet_want
    go_big_quiet_op
    first | go_big_quiet_on | (refine ⟨_, fun _ _ => rfl, ?_⟩; go_big_quiet_on)
    go_big_quiet_want
    go_big_quiet_op
    first | go_big_quiet_on | (refine ⟨_, fun _ _ => rfl, ?_⟩; go_big_quiet_on)
    refine wpQuiet_nil ?_
    intro wz hz
    have hbz := heldB22 (HC.out _ hz)
    clear hz
    go_wp2_with fail
    go_ret
    exact ⟨ret_bool (by rw [← HR.out]; simp), hbz⟩
  | true =>
    cases X2 with
    | false =>
      go_enter Try.func18, Try.ntmps18
      go_wp2_with fail
      refine region_in (C := C) (by kernel_rfl) (by kernel_rfl) ?_ ?_
      · refine HI.out _ ⟨?_, ?_, ?_, ?_, ?_, ?_, ?_, ?_, ?_, ?_, ?_, ?_, ?_, ?_, ?_, ?_, ?_, ?_, ?_, ?_, ?_, ?_, by go_grown⟩ <;> (simp [go_sem]; done)
      go_big_quiet_want
      refine ⟨.agg #[.int .i64 f.knd, .int .i64 f.frm, .int .i64 f.stp, .int .i64 f.S.sch, .int .i64 f.S.dim, .slice p.AL f.S.L.length p.cL, .slice p.AV f.S.V.length p.cV, .int .i64 f.S.scale, .int .i64 f.S.wide, .slice p.AE f.S.lev.length p.cE, .slice p.AN f.S.neg.length p.cN], fun W hW => ?_, ?_⟩
      · obtain ⟨x0, x1, x2, x3, x4, x5, x6, x7, x8, x9, x10, y0, y1, y2, y3, y4, y5, y6, y7, y8, y9, y10, hB⟩ := HC.out W hW
        go_simp
      simp only [Act.put, List.setIfInBounds_toArray, List.set_cons_zero, List.set_cons_succ]
      go_big_quiet_on
      go_big_quiet_want
      go_big_quiet_op
      go_big_quiet_call ((intro hW; refine (CH1.out _).mono ?_; rintro _ w' ⟨rfl, hb⟩; exact ⟨rfl, HK.out _ _ hW hb⟩))
      go_big_quiet_want
      refine ⟨.agg #[.int .i64 g.knd, .int .i64 g.frm, .int .i64 g.stp, .int .i64 g.S.sch, .int .i64 g.S.dim, .slice q.AL g.S.L.length q.cL, .slice q.AV g.S.V.length q.cV, .int .i64 g.S.scale, .int .i64 g.S.wide, .slice q.AE g.S.lev.length q.cE, .slice q.AN g.S.neg.length q.cN], fun W hW => ?_, ?_⟩
      · obtain ⟨x0, x1, x2, x3, x4, x5, x6, x7, x8, x9, x10, y0, y1, y2, y3, y4, y5, y6, y7, y8, y9, y10, hB⟩ := HC.out W hW
        go_simp
      simp only [Act.put, List.setIfInBounds_toArray, List.set_cons_zero, List.set_cons_succ]
      go_big_quiet_on
      go_big_quiet_want
      go_big_quiet_op
      go_big_quiet_call ((intro hW; refine (CH2.out _).mono ?_; rintro _ w' ⟨rfl, hb⟩; exact ⟨rfl, HK.out _ _ hW hb⟩))
      go_big_quiet_want
      go_big_quiet_op
      first | go_big_quiet_on | (refine ⟨_, fun _ _ => rfl, ?_⟩; go_big_quiet_on)
      go_big_quiet_want
      go_big_quiet_op
      first | go_big_quiet_on | (refine ⟨_, fun _ _ => rfl, ?_⟩; go_big_quiet_on)
      go_big_quiet_want
      go_big_quiet_op
      first | go_big_quiet_on | (refine ⟨_, fun _ _ => rfl, ?_⟩; go_big_quiet_on)
      go_big_quiet_want
      refine ⟨.agg #[.int .i64 f.S.sch, .int .i64 f.S.dim, .slice p.AL f.S.L.length p.cL, .slice p.AV f.S.V.length p.cV, .int .i64 f.S.scale, .int .i64 f.S.wide, .slice p.AE f.S.lev.length p.cE, .slice p.AN f.S.neg.length p.cN], fun W hW => ?_, ?_⟩
      · obtain ⟨x0, x1, x2, x3, x4, x5, x6, x7, x8, x9, x10, y0, y1, y2, y3, y4, y5, y6, y7, y8, y9, y10, hB⟩ := HC.out W hW
        go_simp
      simp only [Act.put, List.setIfInBounds_toArray, List.set_cons_zero, List.set_cons_succ]
      go_big_quiet_on
      go_big_quiet_want
      go_big_quiet_op
      go_big_quiet_call ((intro hW; refine (CO1.out _).mono ?_; rintro _ w' ⟨rfl, hb⟩; exact ⟨rfl, HK.out _ _ hW hb⟩))
      go_big_quiet_want
      go_big_quiet_op
      first | go_big_quiet_on | (refine ⟨_, fun _ _ => rfl, ?_⟩; go_big_quiet_on)
      go_big_quiet_want
      refine ⟨.agg #[.int .i64 g.S.sch, .int .i64 g.S.dim, .slice q.AL g.S.L.length q.cL, .slice q.AV g.S.V.length q.cV, .int .i64 g.S.scale, .int .i64 g.S.wide, .slice q.AE g.S.lev.length q.cE, .slice q.AN g.S.neg.length q.cN], fun W hW => ?_, ?_⟩
      · obtain ⟨x0, x1, x2, x3, x4, x5, x6, x7, x8, x9, x10, y0, y1, y2, y3, y4, y5, y6, y7, y8, y9, y10, hB⟩ := HC.out W hW
        go_simp
      simp only [Act.put, List.setIfInBounds_toArray, List.set_cons_zero, List.set_cons_succ]
      go_big_quiet_on
      go_big_quiet_want
      go_big_quiet_op
      go_big_quiet_call ((intro hW; refine (CO2.out _).mono ?_; rintro _ w' ⟨rfl, hb⟩; exact ⟨rfl, HK.out _ _ hW hb⟩))
      go_big_quiet_want
      go_big_quiet_op
      first | go_big_quiet_on | (refine ⟨_, fun _ _ => rfl, ?_⟩; go_big_quiet_on)
      go_big_quiet_want
      go_big_quiet_op
      first | go_big_quiet_on | (refine ⟨_, fun _ _ => rfl, ?_⟩; go_big_quiet_on)
      go_big_quiet_want
      go_big_quiet_op
      first | go_big_quiet_on | (refine ⟨_, fun _ _ => rfl, ?_⟩; go_big_quiet_on)
      go_big_quiet_skip
      go_big_quiet_skip
      go_big_quiet_skip
      go_big_quiet_skip
      go_big_quiet_skip
      go_big_quiet_skip
      go_big_quiet_skip
      go_big_quiet_want
      go_big_quiet_op
      first | go_big_quiet_on | (refine ⟨_, fun _ _ => rfl, ?_⟩; go_big_quiet_on)
      go_big_quiet_want
      go_big_quiet_op
      first | go_big_quiet_on | (refine ⟨_, fun _ _ => rfl, ?_⟩; go_big_quiet_on)
      go_big_quiet_skip
      go_big_quiet_skip
      go_big_quiet_skip
      go_big_quiet_skip
      go_big_quiet_skip
      go_big_quiet_skip
      go_big_quiet_skip
      go_big_quiet_want
      go_big_quiet_op
      first | go_big_quiet_on | (refine ⟨_, fun _ _ => rfl, ?_⟩; go_big_quiet_on)
      go_big_quiet_want
      go_big_quiet_op
      first | go_big_quiet_on | (refine ⟨_, fun _ _ => rfl, ?_⟩; go_big_quiet_on)
      go_big_quiet_skip
      go_big_quiet_skip
      go_big_quiet_skip
      go_big_quiet_skip
      go_big_quiet_skip
      go_big_quiet_skip
      go_big_quiet_skip
      go_big_quiet_want
      go_big_quiet_op
      first | go_big_quiet_on | (refine ⟨_, fun _ _ => rfl, ?_⟩; go_big_quiet_on)
      go_big_quiet_want
      go_big_quiet_op
      first | go_big_quiet_on | (refine ⟨_, fun _ _ => rfl, ?_⟩; go_big_quiet_on)
      go_big_quiet_skip
      go_big_quiet_skip
      go_big_quiet_skip
      go_big_quiet_skip
      go_big_quiet_skip
      go_big_quiet_skip
      go_big_quiet_skip
      go_big_quiet_want
      go_big_quiet_op
      first | go_big_quiet_on | (refine ⟨_, fun _ _ => rfl, ?_⟩; go_big_quiet_on)
      go_big_quiet_want
      go_big_quiet_op
      first | go_big_quiet_on | (refine ⟨_, fun _ _ => rfl, ?_⟩; go_big_quiet_on)
      refine wpQuiet_nil ?_
      intro wz hz
      have hbz := heldB22 (HC.out _ hz)
      clear hz
      go_wp2_with fail
      go_ret
      exact ⟨ret_bool (by rw [← HR.out]; simp), hbz⟩
    | true =>
      cases X3 with
      | false =>
        go_enter Try.func18, Try.ntmps18
        go_wp2_with fail
        refine region_in (C := C) (by kernel_rfl) (by kernel_rfl) ?_ ?_
        · refine HI.out _ ⟨?_, ?_, ?_, ?_, ?_, ?_, ?_, ?_, ?_, ?_, ?_, ?_, ?_, ?_, ?_, ?_, ?_, ?_, ?_, ?_, ?_, ?_, by go_grown⟩ <;> (simp [go_sem]; done)
        go_big_quiet_want
        refine ⟨.agg #[.int .i64 f.knd, .int .i64 f.frm, .int .i64 f.stp, .int .i64 f.S.sch, .int .i64 f.S.dim, .slice p.AL f.S.L.length p.cL, .slice p.AV f.S.V.length p.cV, .int .i64 f.S.scale, .int .i64 f.S.wide, .slice p.AE f.S.lev.length p.cE, .slice p.AN f.S.neg.length p.cN], fun W hW => ?_, ?_⟩
        · obtain ⟨x0, x1, x2, x3, x4, x5, x6, x7, x8, x9, x10, y0, y1, y2, y3, y4, y5, y6, y7, y8, y9, y10, hB⟩ := HC.out W hW
          go_simp
        simp only [Act.put, List.setIfInBounds_toArray, List.set_cons_zero, List.set_cons_succ]
        go_big_quiet_on
        go_big_quiet_want
        go_big_quiet_op
        go_big_quiet_call ((intro hW; refine (CH1.out _).mono ?_; rintro _ w' ⟨rfl, hb⟩; exact ⟨rfl, HK.out _ _ hW hb⟩))
        go_big_quiet_want
        refine ⟨.agg #[.int .i64 g.knd, .int .i64 g.frm, .int .i64 g.stp, .int .i64 g.S.sch, .int .i64 g.S.dim, .slice q.AL g.S.L.length q.cL, .slice q.AV g.S.V.length q.cV, .int .i64 g.S.scale, .int .i64 g.S.wide, .slice q.AE g.S.lev.length q.cE, .slice q.AN g.S.neg.length q.cN], fun W hW => ?_, ?_⟩
        · obtain ⟨x0, x1, x2, x3, x4, x5, x6, x7, x8, x9, x10, y0, y1, y2, y3, y4, y5, y6, y7, y8, y9, y10, hB⟩ := HC.out W hW
          go_simp
        simp only [Act.put, List.setIfInBounds_toArray, List.set_cons_zero, List.set_cons_succ]
        go_big_quiet_on
        go_big_quiet_want
        go_big_quiet_op
        go_big_quiet_call ((intro hW; refine (CH2.out _).mono ?_; rintro _ w' ⟨rfl, hb⟩; exact ⟨rfl, HK.out _ _ hW hb⟩))
        go_big_quiet_want
        go_big_quiet_op
        first | go_big_quiet_on | (refine ⟨_, fun _ _ => rfl, ?_⟩; go_big_quiet_on)
        go_big_quiet_want
        go_big_quiet_op
        first | go_big_quiet_on | (refine ⟨_, fun _ _ => rfl, ?_⟩; go_big_quiet_on)
        go_big_quiet_want
        go_big_quiet_op
        first | go_big_quiet_on | (refine ⟨_, fun _ _ => rfl, ?_⟩; go_big_quiet_on)
        go_big_quiet_want
        refine ⟨.agg #[.int .i64 f.S.sch, .int .i64 f.S.dim, .slice p.AL f.S.L.length p.cL, .slice p.AV f.S.V.length p.cV, .int .i64 f.S.scale, .int .i64 f.S.wide, .slice p.AE f.S.lev.length p.cE, .slice p.AN f.S.neg.length p.cN], fun W hW => ?_, ?_⟩
        · obtain ⟨x0, x1, x2, x3, x4, x5, x6, x7, x8, x9, x10, y0, y1, y2, y3, y4, y5, y6, y7, y8, y9, y10, hB⟩ := HC.out W hW
          go_simp
        simp only [Act.put, List.setIfInBounds_toArray, List.set_cons_zero, List.set_cons_succ]
        go_big_quiet_on
        go_big_quiet_want
        go_big_quiet_op
        go_big_quiet_call ((intro hW; refine (CO1.out _).mono ?_; rintro _ w' ⟨rfl, hb⟩; exact ⟨rfl, HK.out _ _ hW hb⟩))
        go_big_quiet_want
        go_big_quiet_op
        first | go_big_quiet_on | (refine ⟨_, fun _ _ => rfl, ?_⟩; go_big_quiet_on)
        go_big_quiet_want
        refine ⟨.agg #[.int .i64 g.S.sch, .int .i64 g.S.dim, .slice q.AL g.S.L.length q.cL, .slice q.AV g.S.V.length q.cV, .int .i64 g.S.scale, .int .i64 g.S.wide, .slice q.AE g.S.lev.length q.cE, .slice q.AN g.S.neg.length q.cN], fun W hW => ?_, ?_⟩
        · obtain ⟨x0, x1, x2, x3, x4, x5, x6, x7, x8, x9, x10, y0, y1, y2, y3, y4, y5, y6, y7, y8, y9, y10, hB⟩ := HC.out W hW
          go_simp
        simp only [Act.put, List.setIfInBounds_toArray, List.set_cons_zero, List.set_cons_succ]
        go_big_quiet_on
        go_big_quiet_want
        go_big_quiet_op
        go_big_quiet_call ((intro hW; refine (CO2.out _).mono ?_; rintro _ w' ⟨rfl, hb⟩; exact ⟨rfl, HK.out _ _ hW hb⟩))
        go_big_quiet_want
        go_big_quiet_op
        first | go_big_quiet_on | (refine ⟨_, fun _ _ => rfl, ?_⟩; go_big_quiet_on)
        go_big_quiet_want
        go_big_quiet_op
        first | go_big_quiet_on | (refine ⟨_, fun _ _ => rfl, ?_⟩; go_big_quiet_on)
        go_big_quiet_want
        go_big_quiet_op
        first | go_big_quiet_on | (refine ⟨_, fun _ _ => rfl, ?_⟩; go_big_quiet_on)
        go_big_quiet_want
        go_big_quiet_op
        first | go_big_quiet_on | (refine ⟨_, fun _ _ => rfl, ?_⟩; go_big_quiet_on)
        go_big_quiet_want
        go_big_quiet_op
        first | go_big_quiet_on | (refine ⟨_, fun _ _ => rfl, ?_⟩; go_big_quiet_on)
        go_big_quiet_want
        refine ⟨.slice p.AL f.S.L.length p.cL, fun W hW => ?_, ?_⟩
        · obtain ⟨x0, x1, x2, x3, x4, x5, x6, x7, x8, x9, x10, y0, y1, y2, y3, y4, y5, y6, y7, y8, y9, y10, hB⟩ := HC.out W hW
          go_simp
        simp only [Act.put, List.setIfInBounds_toArray, List.set_cons_zero, List.set_cons_succ]
        go_big_quiet_on
        go_big_quiet_want
        go_big_quiet_op
        first | go_big_quiet_on | (refine ⟨_, fun _ _ => rfl, ?_⟩; go_big_quiet_on)
        go_big_quiet_want
        go_big_quiet_op
        first | go_big_quiet_on | (refine ⟨_, fun _ _ => rfl, ?_⟩; go_big_quiet_on)
        go_big_quiet_want
        refine ⟨.slice q.AL g.S.L.length q.cL, fun W hW => ?_, ?_⟩
        · obtain ⟨x0, x1, x2, x3, x4, x5, x6, x7, x8, x9, x10, y0, y1, y2, y3, y4, y5, y6, y7, y8, y9, y10, hB⟩ := HC.out W hW
          go_simp
        simp only [Act.put, List.setIfInBounds_toArray, List.set_cons_zero, List.set_cons_succ]
        go_big_quiet_on
        go_big_quiet_want
        go_big_quiet_op
        go_big_quiet_call ((intro hW; refine (CL.out _ (heldB22 (HC.out _ hW))).mono ?_; rintro _ w' ⟨rfl, hb⟩; exact ⟨rfl, HK.out _ _ hW hb⟩))
        go_big_quiet_want
        go_big_quiet_op
        first | go_big_quiet_on | (refine ⟨_, fun _ _ => rfl, ?_⟩; go_big_quiet_on)
        go_big_quiet_want
        go_big_quiet_op
        first | go_big_quiet_on | (refine ⟨_, fun _ _ => rfl, ?_⟩; go_big_quiet_on)
        go_big_quiet_skip
        go_big_quiet_skip
        go_big_quiet_skip
        go_big_quiet_skip
        go_big_quiet_skip
        go_big_quiet_skip
        go_big_quiet_skip
        go_big_quiet_want
        go_big_quiet_op
        first | go_big_quiet_on | (refine ⟨_, fun _ _ => rfl, ?_⟩; go_big_quiet_on)
        go_big_quiet_want
        go_big_quiet_op
        first | go_big_quiet_on | (refine ⟨_, fun _ _ => rfl, ?_⟩; go_big_quiet_on)
        go_big_quiet_skip
        go_big_quiet_skip
        go_big_quiet_skip
        go_big_quiet_skip
        go_big_quiet_skip
        go_big_quiet_skip
        go_big_quiet_skip
        go_big_quiet_want
        go_big_quiet_op
        first | go_big_quiet_on | (refine ⟨_, fun _ _ => rfl, ?_⟩; go_big_quiet_on)
        go_big_quiet_want
        go_big_quiet_op
        first | go_big_quiet_on | (refine ⟨_, fun _ _ => rfl, ?_⟩; go_big_quiet_on)
        go_big_quiet_skip
        go_big_quiet_skip
        go_big_quiet_skip
        go_big_quiet_skip
        go_big_quiet_skip
        go_big_quiet_skip
        go_big_quiet_skip
        go_big_quiet_want
        go_big_quiet_op
        first | go_big_quiet_on | (refine ⟨_, fun _ _ => rfl, ?_⟩; go_big_quiet_on)
        go_big_quiet_want
        go_big_quiet_op
        first | go_big_quiet_on | (refine ⟨_, fun _ _ => rfl, ?_⟩; go_big_quiet_on)
        refine wpQuiet_nil ?_
        intro wz hz
        have hbz := heldB22 (HC.out _ hz)
        clear hz
        go_wp2_with fail
        go_ret
        exact ⟨ret_bool (by rw [← HR.out]; simp), hbz⟩
      | true =>
        cases X4 with
        | false =>
          go_enter Try.func18, Try.ntmps18
          go_wp2_with fail
          refine region_in (C := C) (by kernel_rfl) (by kernel_rfl) ?_ ?_
          · refine HI.out _ ⟨?_, ?_, ?_, ?_, ?_, ?_, ?_, ?_, ?_, ?_, ?_, ?_, ?_, ?_, ?_, ?_, ?_, ?_, ?_, ?_, ?_, ?_, by go_grown⟩ <;> (simp [go_sem]; done)
          go_big_quiet_want
          refine ⟨.agg #[.int .i64 f.knd, .int .i64 f.frm, .int .i64 f.stp, .int .i64 f.S.sch, .int .i64 f.S.dim, .slice p.AL f.S.L.length p.cL, .slice p.AV f.S.V.length p.cV, .int .i64 f.S.scale, .int .i64 f.S.wide, .slice p.AE f.S.lev.length p.cE, .slice p.AN f.S.neg.length p.cN], fun W hW => ?_, ?_⟩
          · obtain ⟨x0, x1, x2, x3, x4, x5, x6, x7, x8, x9, x10, y0, y1, y2, y3, y4, y5, y6, y7, y8, y9, y10, hB⟩ := HC.out W hW
            go_simp
          simp only [Act.put, List.setIfInBounds_toArray, List.set_cons_zero, List.set_cons_succ]
          go_big_quiet_on
          go_big_quiet_want
          go_big_quiet_op
          go_big_quiet_call ((intro hW; refine (CH1.out _).mono ?_; rintro _ w' ⟨rfl, hb⟩; exact ⟨rfl, HK.out _ _ hW hb⟩))
          go_big_quiet_want
          refine ⟨.agg #[.int .i64 g.knd, .int .i64 g.frm, .int .i64 g.stp, .int .i64 g.S.sch, .int .i64 g.S.dim, .slice q.AL g.S.L.length q.cL, .slice q.AV g.S.V.length q.cV, .int .i64 g.S.scale, .int .i64 g.S.wide, .slice q.AE g.S.lev.length q.cE, .slice q.AN g.S.neg.length q.cN], fun W hW => ?_, ?_⟩
          · obtain ⟨x0, x1, x2, x3, x4, x5, x6, x7, x8, x9, x10, y0, y1, y2, y3, y4, y5, y6, y7, y8, y9, y10, hB⟩ := HC.out W hW
            go_simp
          simp only [Act.put, List.setIfInBounds_toArray, List.set_cons_zero, List.set_cons_succ]
          go_big_quiet_on
          go_big_quiet_want
          go_big_quiet_op
          go_big_quiet_call ((intro hW; refine (CH2.out _).mono ?_; rintro _ w' ⟨rfl, hb⟩; exact ⟨rfl, HK.out _ _ hW hb⟩))
          go_big_quiet_want
          go_big_quiet_op
          first | go_big_quiet_on | (refine ⟨_, fun _ _ => rfl, ?_⟩; go_big_quiet_on)
          go_big_quiet_want
          go_big_quiet_op
          first | go_big_quiet_on | (refine ⟨_, fun _ _ => rfl, ?_⟩; go_big_quiet_on)
          go_big_quiet_want
          go_big_quiet_op
          first | go_big_quiet_on | (refine ⟨_, fun _ _ => rfl, ?_⟩; go_big_quiet_on)
          go_big_quiet_want
          refine ⟨.agg #[.int .i64 f.S.sch, .int .i64 f.S.dim, .slice p.AL f.S.L.length p.cL, .slice p.AV f.S.V.length p.cV, .int .i64 f.S.scale, .int .i64 f.S.wide, .slice p.AE f.S.lev.length p.cE, .slice p.AN f.S.neg.length p.cN], fun W hW => ?_, ?_⟩
          · obtain ⟨x0, x1, x2, x3, x4, x5, x6, x7, x8, x9, x10, y0, y1, y2, y3, y4, y5, y6, y7, y8, y9, y10, hB⟩ := HC.out W hW
            go_simp
          simp only [Act.put, List.setIfInBounds_toArray, List.set_cons_zero, List.set_cons_succ]
          go_big_quiet_on
          go_big_quiet_want
          go_big_quiet_op
          go_big_quiet_call ((intro hW; refine (CO1.out _).mono ?_; rintro _ w' ⟨rfl, hb⟩; exact ⟨rfl, HK.out _ _ hW hb⟩))
          go_big_quiet_want
          go_big_quiet_op
          first | go_big_quiet_on | (refine ⟨_, fun _ _ => rfl, ?_⟩; go_big_quiet_on)
          go_big_quiet_want
          refine ⟨.agg #[.int .i64 g.S.sch, .int .i64 g.S.dim, .slice q.AL g.S.L.length q.cL, .slice q.AV g.S.V.length q.cV, .int .i64 g.S.scale, .int .i64 g.S.wide, .slice q.AE g.S.lev.length q.cE, .slice q.AN g.S.neg.length q.cN], fun W hW => ?_, ?_⟩
          · obtain ⟨x0, x1, x2, x3, x4, x5, x6, x7, x8, x9, x10, y0, y1, y2, y3, y4, y5, y6, y7, y8, y9, y10, hB⟩ := HC.out W hW
            go_simp
          simp only [Act.put, List.setIfInBounds_toArray, List.set_cons_zero, List.set_cons_succ]
          go_big_quiet_on
          go_big_quiet_want
          go_big_quiet_op
          go_big_quiet_call ((intro hW; refine (CO2.out _).mono ?_; rintro _ w' ⟨rfl, hb⟩; exact ⟨rfl, HK.out _ _ hW hb⟩))
          go_big_quiet_want
          go_big_quiet_op
          first | go_big_quiet_on | (refine ⟨_, fun _ _ => rfl, ?_⟩; go_big_quiet_on)
          go_big_quiet_want
          go_big_quiet_op
          first | go_big_quiet_on | (refine ⟨_, fun _ _ => rfl, ?_⟩; go_big_quiet_on)
          go_big_quiet_want
          go_big_quiet_op
          first | go_big_quiet_on | (refine ⟨_, fun _ _ => rfl, ?_⟩; go_big_quiet_on)
          go_big_quiet_want
          go_big_quiet_op
          first | go_big_quiet_on | (refine ⟨_, fun _ _ => rfl, ?_⟩; go_big_quiet_on)
          go_big_quiet_want
          go_big_quiet_op
          first | go_big_quiet_on | (refine ⟨_, fun _ _ => rfl, ?_⟩; go_big_quiet_on)
          go_big_quiet_want
          refine ⟨.slice p.AL f.S.L.length p.cL, fun W hW => ?_, ?_⟩
          · obtain ⟨x0, x1, x2, x3, x4, x5, x6, x7, x8, x9, x10, y0, y1, y2, y3, y4, y5, y6, y7, y8, y9, y10, hB⟩ := HC.out W hW
            go_simp
          simp only [Act.put, List.setIfInBounds_toArray, List.set_cons_zero, List.set_cons_succ]
          go_big_quiet_on
          go_big_quiet_want
          go_big_quiet_op
          first | go_big_quiet_on | (refine ⟨_, fun _ _ => rfl, ?_⟩; go_big_quiet_on)
          go_big_quiet_want
          go_big_quiet_op
          first | go_big_quiet_on | (refine ⟨_, fun _ _ => rfl, ?_⟩; go_big_quiet_on)
          go_big_quiet_want
          refine ⟨.slice q.AL g.S.L.length q.cL, fun W hW => ?_, ?_⟩
          · obtain ⟨x0, x1, x2, x3, x4, x5, x6, x7, x8, x9, x10, y0, y1, y2, y3, y4, y5, y6, y7, y8, y9, y10, hB⟩ := HC.out W hW
            go_simp
          simp only [Act.put, List.setIfInBounds_toArray, List.set_cons_zero, List.set_cons_succ]
          go_big_quiet_on
          go_big_quiet_want
          go_big_quiet_op
          go_big_quiet_call ((intro hW; refine (CL.out _ (heldB22 (HC.out _ hW))).mono ?_; rintro _ w' ⟨rfl, hb⟩; exact ⟨rfl, HK.out _ _ hW hb⟩))
          go_big_quiet_want
          go_big_quiet_op
          first | go_big_quiet_on | (refine ⟨_, fun _ _ => rfl, ?_⟩; go_big_quiet_on)
          go_big_quiet_want
          go_big_quiet_op
          first | go_big_quiet_on | (refine ⟨_, fun _ _ => rfl, ?_⟩; go_big_quiet_on)
          go_big_quiet_want
          go_big_quiet_op
          first | go_big_quiet_on | (refine ⟨_, fun _ _ => rfl, ?_⟩; go_big_quiet_on)
          go_big_quiet_want
          go_big_quiet_op
          first | go_big_quiet_on | (refine ⟨_, fun _ _ => rfl, ?_⟩; go_big_quiet_on)
          go_big_quiet_want
          refine ⟨.slice p.AV f.S.V.length p.cV, fun W hW => ?_, ?_⟩
          · obtain ⟨x0, x1, x2, x3, x4, x5, x6, x7, x8, x9, x10, y0, y1, y2, y3, y4, y5, y6, y7, y8, y9, y10, hB⟩ := HC.out W hW
            go_simp
          simp only [Act.put, List.setIfInBounds_toArray, List.set_cons_zero, List.set_cons_succ]
          go_big_quiet_on
          go_big_quiet_want
          go_big_quiet_op
          first | go_big_quiet_on | (refine ⟨_, fun _ _ => rfl, ?_⟩; go_big_quiet_on)
          go_big_quiet_want
          go_big_quiet_op
          first | go_big_quiet_on | (refine ⟨_, fun _ _ => rfl, ?_⟩; go_big_quiet_on)
          go_big_quiet_want
          refine ⟨.slice q.AV g.S.V.length q.cV, fun W hW => ?_, ?_⟩
          · obtain ⟨x0, x1, x2, x3, x4, x5, x6, x7, x8, x9, x10, y0, y1, y2, y3, y4, y5, y6, y7, y8, y9, y10, hB⟩ := HC.out W hW
            go_simp
          simp only [Act.put, List.setIfInBounds_toArray, List.set_cons_zero, List.set_cons_succ]
          go_big_quiet_on
          go_big_quiet_want
          go_big_quiet_op
          go_big_quiet_call ((intro hW; refine (CV.out _ (heldB22 (HC.out _ hW))).mono ?_; rintro _ w' ⟨rfl, hb⟩; exact ⟨rfl, HK.out _ _ hW hb⟩))
          go_big_quiet_want
          go_big_quiet_op
          first | go_big_quiet_on | (refine ⟨_, fun _ _ => rfl, ?_⟩; go_big_quiet_on)
          go_big_quiet_want
          go_big_quiet_op
          first | go_big_quiet_on | (refine ⟨_, fun _ _ => rfl, ?_⟩; go_big_quiet_on)
          go_big_quiet_skip
          go_big_quiet_skip
          go_big_quiet_skip
          go_big_quiet_skip
          go_big_quiet_skip
          go_big_quiet_skip
          go_big_quiet_skip
          go_big_quiet_want
          go_big_quiet_op
          first | go_big_quiet_on | (refine ⟨_, fun _ _ => rfl, ?_⟩; go_big_quiet_on)
          go_big_quiet_want
          go_big_quiet_op
          first | go_big_quiet_on | (refine ⟨_, fun _ _ => rfl, ?_⟩; go_big_quiet_on)
          go_big_quiet_skip
          go_big_quiet_skip
          go_big_quiet_skip
          go_big_quiet_skip
          go_big_quiet_skip
          go_big_quiet_skip
          go_big_quiet_skip
          go_big_quiet_want
          go_big_quiet_op
          first | go_big_quiet_on | (refine ⟨_, fun _ _ => rfl, ?_⟩; go_big_quiet_on)
          go_big_quiet_want
          go_big_quiet_op
          first | go_big_quiet_on | (refine ⟨_, fun _ _ => rfl, ?_⟩; go_big_quiet_on)
          refine wpQuiet_nil ?_
          intro wz hz
          have hbz := heldB22 (HC.out _ hz)
          clear hz
          go_wp2_with fail
          go_ret
          exact ⟨ret_bool (by rw [← HR.out]; simp), hbz⟩
        | true =>
          cases X5 with
          | false =>
            go_enter Try.func18, Try.ntmps18
            go_wp2_with fail
            refine region_in (C := C) (by kernel_rfl) (by kernel_rfl) ?_ ?_
            · refine HI.out _ ⟨?_, ?_, ?_, ?_, ?_, ?_, ?_, ?_, ?_, ?_, ?_, ?_, ?_, ?_, ?_, ?_, ?_, ?_, ?_, ?_, ?_, ?_, by go_grown⟩ <;> (simp [go_sem]; done)
            go_big_quiet_want
            refine ⟨.agg #[.int .i64 f.knd, .int .i64 f.frm, .int .i64 f.stp, .int .i64 f.S.sch, .int .i64 f.S.dim, .slice p.AL f.S.L.length p.cL, .slice p.AV f.S.V.length p.cV, .int .i64 f.S.scale, .int .i64 f.S.wide, .slice p.AE f.S.lev.length p.cE, .slice p.AN f.S.neg.length p.cN], fun W hW => ?_, ?_⟩
            · obtain ⟨x0, x1, x2, x3, x4, x5, x6, x7, x8, x9, x10, y0, y1, y2, y3, y4, y5, y6, y7, y8, y9, y10, hB⟩ := HC.out W hW
              go_simp
            simp only [Act.put, List.setIfInBounds_toArray, List.set_cons_zero, List.set_cons_succ]
            go_big_quiet_on
            go_big_quiet_want
            go_big_quiet_op
            go_big_quiet_call ((intro hW; refine (CH1.out _).mono ?_; rintro _ w' ⟨rfl, hb⟩; exact ⟨rfl, HK.out _ _ hW hb⟩))
            go_big_quiet_want
            refine ⟨.agg #[.int .i64 g.knd, .int .i64 g.frm, .int .i64 g.stp, .int .i64 g.S.sch, .int .i64 g.S.dim, .slice q.AL g.S.L.length q.cL, .slice q.AV g.S.V.length q.cV, .int .i64 g.S.scale, .int .i64 g.S.wide, .slice q.AE g.S.lev.length q.cE, .slice q.AN g.S.neg.length q.cN], fun W hW => ?_, ?_⟩
            · obtain ⟨x0, x1, x2, x3, x4, x5, x6, x7, x8, x9, x10, y0, y1, y2, y3, y4, y5, y6, y7, y8, y9, y10, hB⟩ := HC.out W hW
              go_simp
            simp only [Act.put, List.setIfInBounds_toArray, List.set_cons_zero, List.set_cons_succ]
            go_big_quiet_on
            go_big_quiet_want
            go_big_quiet_op
            go_big_quiet_call ((intro hW; refine (CH2.out _).mono ?_; rintro _ w' ⟨rfl, hb⟩; exact ⟨rfl, HK.out _ _ hW hb⟩))
            go_big_quiet_want
            go_big_quiet_op
            first | go_big_quiet_on | (refine ⟨_, fun _ _ => rfl, ?_⟩; go_big_quiet_on)
            go_big_quiet_want
            go_big_quiet_op
            first | go_big_quiet_on | (refine ⟨_, fun _ _ => rfl, ?_⟩; go_big_quiet_on)
            go_big_quiet_want
            go_big_quiet_op
            first | go_big_quiet_on | (refine ⟨_, fun _ _ => rfl, ?_⟩; go_big_quiet_on)
            go_big_quiet_want
            refine ⟨.agg #[.int .i64 f.S.sch, .int .i64 f.S.dim, .slice p.AL f.S.L.length p.cL, .slice p.AV f.S.V.length p.cV, .int .i64 f.S.scale, .int .i64 f.S.wide, .slice p.AE f.S.lev.length p.cE, .slice p.AN f.S.neg.length p.cN], fun W hW => ?_, ?_⟩
            · obtain ⟨x0, x1, x2, x3, x4, x5, x6, x7, x8, x9, x10, y0, y1, y2, y3, y4, y5, y6, y7, y8, y9, y10, hB⟩ := HC.out W hW
              go_simp
            simp only [Act.put, List.setIfInBounds_toArray, List.set_cons_zero, List.set_cons_succ]
            go_big_quiet_on
            go_big_quiet_want
            go_big_quiet_op
            go_big_quiet_call ((intro hW; refine (CO1.out _).mono ?_; rintro _ w' ⟨rfl, hb⟩; exact ⟨rfl, HK.out _ _ hW hb⟩))
            go_big_quiet_want
            go_big_quiet_op
            first | go_big_quiet_on | (refine ⟨_, fun _ _ => rfl, ?_⟩; go_big_quiet_on)
            go_big_quiet_want
            refine ⟨.agg #[.int .i64 g.S.sch, .int .i64 g.S.dim, .slice q.AL g.S.L.length q.cL, .slice q.AV g.S.V.length q.cV, .int .i64 g.S.scale, .int .i64 g.S.wide, .slice q.AE g.S.lev.length q.cE, .slice q.AN g.S.neg.length q.cN], fun W hW => ?_, ?_⟩
            · obtain ⟨x0, x1, x2, x3, x4, x5, x6, x7, x8, x9, x10, y0, y1, y2, y3, y4, y5, y6, y7, y8, y9, y10, hB⟩ := HC.out W hW
              go_simp
            simp only [Act.put, List.setIfInBounds_toArray, List.set_cons_zero, List.set_cons_succ]
            go_big_quiet_on
            go_big_quiet_want
            go_big_quiet_op
            go_big_quiet_call ((intro hW; refine (CO2.out _).mono ?_; rintro _ w' ⟨rfl, hb⟩; exact ⟨rfl, HK.out _ _ hW hb⟩))
            go_big_quiet_want
            go_big_quiet_op
            first | go_big_quiet_on | (refine ⟨_, fun _ _ => rfl, ?_⟩; go_big_quiet_on)
            go_big_quiet_want
            go_big_quiet_op
            first | go_big_quiet_on | (refine ⟨_, fun _ _ => rfl, ?_⟩; go_big_quiet_on)
            go_big_quiet_want
            go_big_quiet_op
            first | go_big_quiet_on | (refine ⟨_, fun _ _ => rfl, ?_⟩; go_big_quiet_on)
            go_big_quiet_want
            go_big_quiet_op
            first | go_big_quiet_on | (refine ⟨_, fun _ _ => rfl, ?_⟩; go_big_quiet_on)
            go_big_quiet_want
            go_big_quiet_op
            first | go_big_quiet_on | (refine ⟨_, fun _ _ => rfl, ?_⟩; go_big_quiet_on)
            go_big_quiet_want
            refine ⟨.slice p.AL f.S.L.length p.cL, fun W hW => ?_, ?_⟩
            · obtain ⟨x0, x1, x2, x3, x4, x5, x6, x7, x8, x9, x10, y0, y1, y2, y3, y4, y5, y6, y7, y8, y9, y10, hB⟩ := HC.out W hW
              go_simp
            simp only [Act.put, List.setIfInBounds_toArray, List.set_cons_zero, List.set_cons_succ]
            go_big_quiet_on
            go_big_quiet_want
            go_big_quiet_op
            first | go_big_quiet_on | (refine ⟨_, fun _ _ => rfl, ?_⟩; go_big_quiet_on)
            go_big_quiet_want
            go_big_quiet_op
            first | go_big_quiet_on | (refine ⟨_, fun _ _ => rfl, ?_⟩; go_big_quiet_on)
            go_big_quiet_want
            refine ⟨.slice q.AL g.S.L.length q.cL, fun W hW => ?_, ?_⟩
            · obtain ⟨x0, x1, x2, x3, x4, x5, x6, x7, x8, x9, x10, y0, y1, y2, y3, y4, y5, y6, y7, y8, y9, y10, hB⟩ := HC.out W hW
              go_simp
            simp only [Act.put, List.setIfInBounds_toArray, List.set_cons_zero, List.set_cons_succ]
            go_big_quiet_on
            go_big_quiet_want
            go_big_quiet_op
            go_big_quiet_call ((intro hW; refine (CL.out _ (heldB22 (HC.out _ hW))).mono ?_; rintro _ w' ⟨rfl, hb⟩; exact ⟨rfl, HK.out _ _ hW hb⟩))
            go_big_quiet_want
            go_big_quiet_op
            first | go_big_quiet_on | (refine ⟨_, fun _ _ => rfl, ?_⟩; go_big_quiet_on)
            go_big_quiet_want
            go_big_quiet_op
            first | go_big_quiet_on | (refine ⟨_, fun _ _ => rfl, ?_⟩; go_big_quiet_on)
            go_big_quiet_want
            go_big_quiet_op
            first | go_big_quiet_on | (refine ⟨_, fun _ _ => rfl, ?_⟩; go_big_quiet_on)
            go_big_quiet_want
            go_big_quiet_op
            first | go_big_quiet_on | (refine ⟨_, fun _ _ => rfl, ?_⟩; go_big_quiet_on)
            go_big_quiet_want
            refine ⟨.slice p.AV f.S.V.length p.cV, fun W hW => ?_, ?_⟩
            · obtain ⟨x0, x1, x2, x3, x4, x5, x6, x7, x8, x9, x10, y0, y1, y2, y3, y4, y5, y6, y7, y8, y9, y10, hB⟩ := HC.out W hW
              go_simp
            simp only [Act.put, List.setIfInBounds_toArray, List.set_cons_zero, List.set_cons_succ]
            go_big_quiet_on
            go_big_quiet_want
            go_big_quiet_op
            first | go_big_quiet_on | (refine ⟨_, fun _ _ => rfl, ?_⟩; go_big_quiet_on)
            go_big_quiet_want
            go_big_quiet_op
            first | go_big_quiet_on | (refine ⟨_, fun _ _ => rfl, ?_⟩; go_big_quiet_on)
            go_big_quiet_want
            refine ⟨.slice q.AV g.S.V.length q.cV, fun W hW => ?_, ?_⟩
            · obtain ⟨x0, x1, x2, x3, x4, x5, x6, x7, x8, x9, x10, y0, y1, y2, y3, y4, y5, y6, y7, y8, y9, y10, hB⟩ := HC.out W hW
              go_simp
            simp only [Act.put, List.setIfInBounds_toArray, List.set_cons_zero, List.set_cons_succ]
            go_big_quiet_on
            go_big_quiet_want
            go_big_quiet_op
            go_big_quiet_call ((intro hW; refine (CV.out _ (heldB22 (HC.out _ hW))).mono ?_; rintro _ w' ⟨rfl, hb⟩; exact ⟨rfl, HK.out _ _ hW hb⟩))
            go_big_quiet_want
            go_big_quiet_op
            first | go_big_quiet_on | (refine ⟨_, fun _ _ => rfl, ?_⟩; go_big_quiet_on)
            go_big_quiet_want
            go_big_quiet_op
            first | go_big_quiet_on | (refine ⟨_, fun _ _ => rfl, ?_⟩; go_big_quiet_on)
            go_big_quiet_want
            go_big_quiet_op
            first | go_big_quiet_on | (refine ⟨_, fun _ _ => rfl, ?_⟩; go_big_quiet_on)
            go_big_quiet_want
            go_big_quiet_op
            first | go_big_quiet_on | (refine ⟨_, fun _ _ => rfl, ?_⟩; go_big_quiet_on)
            go_big_quiet_want
            refine ⟨.slice p.AE f.S.lev.length p.cE, fun W hW => ?_, ?_⟩
            · obtain ⟨x0, x1, x2, x3, x4, x5, x6, x7, x8, x9, x10, y0, y1, y2, y3, y4, y5, y6, y7, y8, y9, y10, hB⟩ := HC.out W hW
              go_simp
            simp only [Act.put, List.setIfInBounds_toArray, List.set_cons_zero, List.set_cons_succ]
            go_big_quiet_on
            go_big_quiet_want
            go_big_quiet_op
            first | go_big_quiet_on | (refine ⟨_, fun _ _ => rfl, ?_⟩; go_big_quiet_on)
            go_big_quiet_want
            go_big_quiet_op
            first | go_big_quiet_on | (refine ⟨_, fun _ _ => rfl, ?_⟩; go_big_quiet_on)
            go_big_quiet_want
            refine ⟨.slice q.AE g.S.lev.length q.cE, fun W hW => ?_, ?_⟩
            · obtain ⟨x0, x1, x2, x3, x4, x5, x6, x7, x8, x9, x10, y0, y1, y2, y3, y4, y5, y6, y7, y8, y9, y10, hB⟩ := HC.out W hW
              go_simp
            simp only [Act.put, List.setIfInBounds_toArray, List.set_cons_zero, List.set_cons_succ]
            go_big_quiet_on
            go_big_quiet_want
            go_big_quiet_op
            go_big_quiet_call ((intro hW; refine (CE.out _ (heldB22 (HC.out _ hW))).mono ?_; rintro _ w' ⟨rfl, hb⟩; exact ⟨rfl, HK.out _ _ hW hb⟩))
            go_big_quiet_want
            go_big_quiet_op
            first | go_big_quiet_on | (refine ⟨_, fun _ _ => rfl, ?_⟩; go_big_quiet_on)
            go_big_quiet_want
            go_big_quiet_op
            first | go_big_quiet_on | (refine ⟨_, fun _ _ => rfl, ?_⟩; go_big_quiet_on)
            go_big_quiet_skip
            go_big_quiet_skip
            go_big_quiet_skip
            go_big_quiet_skip
            go_big_quiet_skip
            go_big_quiet_skip
            go_big_quiet_skip
            go_big_quiet_want
            go_big_quiet_op
            first | go_big_quiet_on | (refine ⟨_, fun _ _ => rfl, ?_⟩; go_big_quiet_on)
            go_big_quiet_want
            go_big_quiet_op
            first | go_big_quiet_on | (refine ⟨_, fun _ _ => rfl, ?_⟩; go_big_quiet_on)
            refine wpQuiet_nil ?_
            intro wz hz
            have hbz := heldB22 (HC.out _ hz)
            clear hz
            go_wp2_with fail
            go_ret
            exact ⟨ret_bool (by rw [← HR.out]; simp), hbz⟩
          | true =>
            cases X6 with
            | false =>
              go_enter Try.func18, Try.ntmps18
              go_wp2_with fail
              refine region_in (C := C) (by kernel_rfl) (by kernel_rfl) ?_ ?_
              · refine HI.out _ ⟨?_, ?_, ?_, ?_, ?_, ?_, ?_, ?_, ?_, ?_, ?_, ?_, ?_, ?_, ?_, ?_, ?_, ?_, ?_, ?_, ?_, ?_, by go_grown⟩ <;> (simp [go_sem]; done)
              go_big_quiet_want
              refine ⟨.agg #[.int .i64 f.knd, .int .i64 f.frm, .int .i64 f.stp, .int .i64 f.S.sch, .int .i64 f.S.dim, .slice p.AL f.S.L.length p.cL, .slice p.AV f.S.V.length p.cV, .int .i64 f.S.scale, .int .i64 f.S.wide, .slice p.AE f.S.lev.length p.cE, .slice p.AN f.S.neg.length p.cN], fun W hW => ?_, ?_⟩
              · obtain ⟨x0, x1, x2, x3, x4, x5, x6, x7, x8, x9, x10, y0, y1, y2, y3, y4, y5, y6, y7, y8, y9, y10, hB⟩ := HC.out W hW
                go_simp
              simp only [Act.put, List.setIfInBounds_toArray, List.set_cons_zero, List.set_cons_succ]
              go_big_quiet_on
              go_big_quiet_want
              go_big_quiet_op
              go_big_quiet_call ((intro hW; refine (CH1.out _).mono ?_; rintro _ w' ⟨rfl, hb⟩; exact ⟨rfl, HK.out _ _ hW hb⟩))
              go_big_quiet_want
              refine ⟨.agg #[.int .i64 g.knd, .int .i64 g.frm, .int .i64 g.stp, .int .i64 g.S.sch, .int .i64 g.S.dim, .slice q.AL g.S.L.length q.cL, .slice q.AV g.S.V.length q.cV, .int .i64 g.S.scale, .int .i64 g.S.wide, .slice q.AE g.S.lev.length q.cE, .slice q.AN g.S.neg.length q.cN], fun W hW => ?_, ?_⟩
              · obtain ⟨x0, x1, x2, x3, x4, x5, x6, x7, x8, x9, x10, y0, y1, y2, y3, y4, y5, y6, y7, y8, y9, y10, hB⟩ := HC.out W hW
                go_simp
              simp only [Act.put, List.setIfInBounds_toArray, List.set_cons_zero, List.set_cons_succ]
              go_big_quiet_on
              go_big_quiet_want
              go_big_quiet_op
              go_big_quiet_call ((intro hW; refine (CH2.out _).mono ?_; rintro _ w' ⟨rfl, hb⟩; exact ⟨rfl, HK.out _ _ hW hb⟩))
              go_big_quiet_want
              go_big_quiet_op
              first | go_big_quiet_on | (refine ⟨_, fun _ _ => rfl, ?_⟩; go_big_quiet_on)
              go_big_quiet_want
              go_big_quiet_op
              first | go_big_quiet_on | (refine ⟨_, fun _ _ => rfl, ?_⟩; go_big_quiet_on)
              go_big_quiet_want
              go_big_quiet_op
              first | go_big_quiet_on | (refine ⟨_, fun _ _ => rfl, ?_⟩; go_big_quiet_on)
              go_big_quiet_want
              refine ⟨.agg #[.int .i64 f.S.sch, .int .i64 f.S.dim, .slice p.AL f.S.L.length p.cL, .slice p.AV f.S.V.length p.cV, .int .i64 f.S.scale, .int .i64 f.S.wide, .slice p.AE f.S.lev.length p.cE, .slice p.AN f.S.neg.length p.cN], fun W hW => ?_, ?_⟩
              · obtain ⟨x0, x1, x2, x3, x4, x5, x6, x7, x8, x9, x10, y0, y1, y2, y3, y4, y5, y6, y7, y8, y9, y10, hB⟩ := HC.out W hW
                go_simp
              simp only [Act.put, List.setIfInBounds_toArray, List.set_cons_zero, List.set_cons_succ]
              go_big_quiet_on
              go_big_quiet_want
              go_big_quiet_op
              go_big_quiet_call ((intro hW; refine (CO1.out _).mono ?_; rintro _ w' ⟨rfl, hb⟩; exact ⟨rfl, HK.out _ _ hW hb⟩))
              go_big_quiet_want
              go_big_quiet_op
              first | go_big_quiet_on | (refine ⟨_, fun _ _ => rfl, ?_⟩; go_big_quiet_on)
              go_big_quiet_want
              refine ⟨.agg #[.int .i64 g.S.sch, .int .i64 g.S.dim, .slice q.AL g.S.L.length q.cL, .slice q.AV g.S.V.length q.cV, .int .i64 g.S.scale, .int .i64 g.S.wide, .slice q.AE g.S.lev.length q.cE, .slice q.AN g.S.neg.length q.cN], fun W hW => ?_, ?_⟩
              · obtain ⟨x0, x1, x2, x3, x4, x5, x6, x7, x8, x9, x10, y0, y1, y2, y3, y4, y5, y6, y7, y8, y9, y10, hB⟩ := HC.out W hW
                go_simp
              simp only [Act.put, List.setIfInBounds_toArray, List.set_cons_zero, List.set_cons_succ]
              go_big_quiet_on
              go_big_quiet_want
              go_big_quiet_op
              go_big_quiet_call ((intro hW; refine (CO2.out _).mono ?_; rintro _ w' ⟨rfl, hb⟩; exact ⟨rfl, HK.out _ _ hW hb⟩))
              go_big_quiet_want
              go_big_quiet_op
              first | go_big_quiet_on | (refine ⟨_, fun _ _ => rfl, ?_⟩; go_big_quiet_on)
              go_big_quiet_want
              go_big_quiet_op
              first | go_big_quiet_on | (refine ⟨_, fun _ _ => rfl, ?_⟩; go_big_quiet_on)
              go_big_quiet_want
              go_big_quiet_op
              first | go_big_quiet_on | (refine ⟨_, fun _ _ => rfl, ?_⟩; go_big_quiet_on)
              go_big_quiet_want
              go_big_quiet_op
              first | go_big_quiet_on | (refine ⟨_, fun _ _ => rfl, ?_⟩; go_big_quiet_on)
              go_big_quiet_want
              go_big_quiet_op
              first | go_big_quiet_on | (refine ⟨_, fun _ _ => rfl, ?_⟩; go_big_quiet_on)
              go_big_quiet_want
              refine ⟨.slice p.AL f.S.L.length p.cL, fun W hW => ?_, ?_⟩
              · obtain ⟨x0, x1, x2, x3, x4, x5, x6, x7, x8, x9, x10, y0, y1, y2, y3, y4, y5, y6, y7, y8, y9, y10, hB⟩ := HC.out W hW
                go_simp
              simp only [Act.put, List.setIfInBounds_toArray, List.set_cons_zero, List.set_cons_succ]
              go_big_quiet_on
              go_big_quiet_want
              go_big_quiet_op
              first | go_big_quiet_on | (refine ⟨_, fun _ _ => rfl, ?_⟩; go_big_quiet_on)
              go_big_quiet_want
              go_big_quiet_op
              first | go_big_quiet_on | (refine ⟨_, fun _ _ => rfl, ?_⟩; go_big_quiet_on)
              go_big_quiet_want
              refine ⟨.slice q.AL g.S.L.length q.cL, fun W hW => ?_, ?_⟩
              · obtain ⟨x0, x1, x2, x3, x4, x5, x6, x7, x8, x9, x10, y0, y1, y2, y3, y4, y5, y6, y7, y8, y9, y10, hB⟩ := HC.out W hW
                go_simp
              simp only [Act.put, List.setIfInBounds_toArray, List.set_cons_zero, List.set_cons_succ]
              go_big_quiet_on
              go_big_quiet_want
              go_big_quiet_op
              go_big_quiet_call ((intro hW; refine (CL.out _ (heldB22 (HC.out _ hW))).mono ?_; rintro _ w' ⟨rfl, hb⟩; exact ⟨rfl, HK.out _ _ hW hb⟩))
              go_big_quiet_want
              go_big_quiet_op
              first | go_big_quiet_on | (refine ⟨_, fun _ _ => rfl, ?_⟩; go_big_quiet_on)
              go_big_quiet_want
              go_big_quiet_op
              first | go_big_quiet_on | (refine ⟨_, fun _ _ => rfl, ?_⟩; go_big_quiet_on)
              go_big_quiet_want
              go_big_quiet_op
              first | go_big_quiet_on | (refine ⟨_, fun _ _ => rfl, ?_⟩; go_big_quiet_on)
              go_big_quiet_want
              go_big_quiet_op
              first | go_big_quiet_on | (refine ⟨_, fun _ _ => rfl, ?_⟩; go_big_quiet_on)
              go_big_quiet_want
              refine ⟨.slice p.AV f.S.V.length p.cV, fun W hW => ?_, ?_⟩
              · obtain ⟨x0, x1, x2, x3, x4, x5, x6, x7, x8, x9, x10, y0, y1, y2, y3, y4, y5, y6, y7, y8, y9, y10, hB⟩ := HC.out W hW
                go_simp
              simp only [Act.put, List.setIfInBounds_toArray, List.set_cons_zero, List.set_cons_succ]
              go_big_quiet_on
              go_big_quiet_want
              go_big_quiet_op
              first | go_big_quiet_on | (refine ⟨_, fun _ _ => rfl, ?_⟩; go_big_quiet_on)
              go_big_quiet_want
              go_big_quiet_op
              first | go_big_quiet_on | (refine ⟨_, fun _ _ => rfl, ?_⟩; go_big_quiet_on)
              go_big_quiet_want
              refine ⟨.slice q.AV g.S.V.length q.cV, fun W hW => ?_, ?_⟩
              · obtain ⟨x0, x1, x2, x3, x4, x5, x6, x7, x8, x9, x10, y0, y1, y2, y3, y4, y5, y6, y7, y8, y9, y10, hB⟩ := HC.out W hW
                go_simp
              simp only [Act.put, List.setIfInBounds_toArray, List.set_cons_zero, List.set_cons_succ]
              go_big_quiet_on
              go_big_quiet_want
              go_big_quiet_op
              go_big_quiet_call ((intro hW; refine (CV.out _ (heldB22 (HC.out _ hW))).mono ?_; rintro _ w' ⟨rfl, hb⟩; exact ⟨rfl, HK.out _ _ hW hb⟩))
              go_big_quiet_want
              go_big_quiet_op
              first | go_big_quiet_on | (refine ⟨_, fun _ _ => rfl, ?_⟩; go_big_quiet_on)
              go_big_quiet_want
              go_big_quiet_op
              first | go_big_quiet_on | (refine ⟨_, fun _ _ => rfl, ?_⟩; go_big_quiet_on)
              go_big_quiet_want
              go_big_quiet_op
              first | go_big_quiet_on | (refine ⟨_, fun _ _ => rfl, ?_⟩; go_big_quiet_on)
              go_big_quiet_want
              go_big_quiet_op
              first | go_big_quiet_on | (refine ⟨_, fun _ _ => rfl, ?_⟩; go_big_quiet_on)
              go_big_quiet_want
              refine ⟨.slice p.AE f.S.lev.length p.cE, fun W hW => ?_, ?_⟩
              · obtain ⟨x0, x1, x2, x3, x4, x5, x6, x7, x8, x9, x10, y0, y1, y2, y3, y4, y5, y6, y7, y8, y9, y10, hB⟩ := HC.out W hW
                go_simp
              simp only [Act.put, List.setIfInBounds_toArray, List.set_cons_zero, List.set_cons_succ]
              go_big_quiet_on
              go_big_quiet_want
              go_big_quiet_op
              first | go_big_quiet_on | (refine ⟨_, fun _ _ => rfl, ?_⟩; go_big_quiet_on)
              go_big_quiet_want
              go_big_quiet_op
              first | go_big_quiet_on | (refine ⟨_, fun _ _ => rfl, ?_⟩; go_big_quiet_on)
              go_big_quiet_want
              refine ⟨.slice q.AE g.S.lev.length q.cE, fun W hW => ?_, ?_⟩
              · obtain ⟨x0, x1, x2, x3, x4, x5, x6, x7, x8, x9, x10, y0, y1, y2, y3, y4, y5, y6, y7, y8, y9, y10, hB⟩ := HC.out W hW
                go_simp
              simp only [Act.put, List.setIfInBounds_toArray, List.set_cons_zero, List.set_cons_succ]
              go_big_quiet_on
              go_big_quiet_want
              go_big_quiet_op
              go_big_quiet_call ((intro hW; refine (CE.out _ (heldB22 (HC.out _ hW))).mono ?_; rintro _ w' ⟨rfl, hb⟩; exact ⟨rfl, HK.out _ _ hW hb⟩))
              go_big_quiet_want
              go_big_quiet_op
              first | go_big_quiet_on | (refine ⟨_, fun _ _ => rfl, ?_⟩; go_big_quiet_on)
              go_big_quiet_want
              go_big_quiet_op
              first | go_big_quiet_on | (refine ⟨_, fun _ _ => rfl, ?_⟩; go_big_quiet_on)
              go_big_quiet_want
              go_big_quiet_op
              first | go_big_quiet_on | (refine ⟨_, fun _ _ => rfl, ?_⟩; go_big_quiet_on)
              go_big_quiet_want
              go_big_quiet_op
              first | go_big_quiet_on | (refine ⟨_, fun _ _ => rfl, ?_⟩; go_big_quiet_on)
              go_big_quiet_want
              refine ⟨.slice p.AN f.S.neg.length p.cN, fun W hW => ?_, ?_⟩
              · obtain ⟨x0, x1, x2, x3, x4, x5, x6, x7, x8, x9, x10, y0, y1, y2, y3, y4, y5, y6, y7, y8, y9, y10, hB⟩ := HC.out W hW
                go_simp
              simp only [Act.put, List.setIfInBounds_toArray, List.set_cons_zero, List.set_cons_succ]
              go_big_quiet_on
              go_big_quiet_want
              go_big_quiet_op
              first | go_big_quiet_on | (refine ⟨_, fun _ _ => rfl, ?_⟩; go_big_quiet_on)
              go_big_quiet_want
              go_big_quiet_op
              first | go_big_quiet_on | (refine ⟨_, fun _ _ => rfl, ?_⟩; go_big_quiet_on)
              go_big_quiet_want
              refine ⟨.slice q.AN g.S.neg.length q.cN, fun W hW => ?_, ?_⟩
              · obtain ⟨x0, x1, x2, x3, x4, x5, x6, x7, x8, x9, x10, y0, y1, y2, y3, y4, y5, y6, y7, y8, y9, y10, hB⟩ := HC.out W hW
                go_simp
              simp only [Act.put, List.setIfInBounds_toArray, List.set_cons_zero, List.set_cons_succ]
              go_big_quiet_on
              go_big_quiet_want
              go_big_quiet_op
              go_big_quiet_call ((intro hW; refine (CN.out _ (heldB22 (HC.out _ hW))).mono ?_; rintro _ w' ⟨rfl, hb⟩; exact ⟨rfl, HK.out _ _ hW hb⟩))
              go_big_quiet_want
              go_big_quiet_op
              first | go_big_quiet_on | (refine ⟨_, fun _ _ => rfl, ?_⟩; go_big_quiet_on)
              go_big_quiet_want
              go_big_quiet_op
              first | go_big_quiet_on | (refine ⟨_, fun _ _ => rfl, ?_⟩; go_big_quiet_on)
              refine wpQuiet_nil ?_
              intro wz hz
              have hbz := heldB22 (HC.out _ hz)
              clear hz
              go_wp2_with fail
              go_ret
              exact ⟨ret_bool (by rw [← HR.out]; simp), hbz⟩
            | true =>
              go_enter Try.func18, Try.ntmps18
              go_wp2_with fail
              refine region_in (C := C) (by kernel_rfl) (by kernel_rfl) ?_ ?_
              · refine HI.out _ ⟨?_, ?_, ?_, ?_, ?_, ?_, ?_, ?_, ?_, ?_, ?_, ?_, ?_, ?_, ?_, ?_, ?_, ?_, ?_, ?_, ?_, ?_, by go_grown⟩ <;> (simp [go_sem]; done)
              go_big_quiet_want
              refine ⟨.agg #[.int .i64 f.knd, .int .i64 f.frm, .int .i64 f.stp, .int .i64 f.S.sch, .int .i64 f.S.dim, .slice p.AL f.S.L.length p.cL, .slice p.AV f.S.V.length p.cV, .int .i64 f.S.scale, .int .i64 f.S.wide, .slice p.AE f.S.lev.length p.cE, .slice p.AN f.S.neg.length p.cN], fun W hW => ?_, ?_⟩
              · obtain ⟨x0, x1, x2, x3, x4, x5, x6, x7, x8, x9, x10, y0, y1, y2, y3, y4, y5, y6, y7, y8, y9, y10, hB⟩ := HC.out W hW
                go_simp
              simp only [Act.put, List.setIfInBounds_toArray, List.set_cons_zero, List.set_cons_succ]
              go_big_quiet_on
              go_big_quiet_want
              go_big_quiet_op
              go_big_quiet_call ((intro hW; refine (CH1.out _).mono ?_; rintro _ w' ⟨rfl, hb⟩; exact ⟨rfl, HK.out _ _ hW hb⟩))
              go_big_quiet_want
              refine ⟨.agg #[.int .i64 g.knd, .int .i64 g.frm, .int .i64 g.stp, .int .i64 g.S.sch, .int .i64 g.S.dim, .slice q.AL g.S.L.length q.cL, .slice q.AV g.S.V.length q.cV, .int .i64 g.S.scale, .int .i64 g.S.wide, .slice q.AE g.S.lev.length q.cE, .slice q.AN g.S.neg.length q.cN], fun W hW => ?_, ?_⟩
              · obtain ⟨x0, x1, x2, x3, x4, x5, x6, x7, x8, x9, x10, y0, y1, y2, y3, y4, y5, y6, y7, y8, y9, y10, hB⟩ := HC.out W hW
                go_simp
              simp only [Act.put, List.setIfInBounds_toArray, List.set_cons_zero, List.set_cons_succ]
              go_big_quiet_on
              go_big_quiet_want
              go_big_quiet_op
              go_big_quiet_call ((intro hW; refine (CH2.out _).mono ?_; rintro _ w' ⟨rfl, hb⟩; exact ⟨rfl, HK.out _ _ hW hb⟩))
              go_big_quiet_want
              go_big_quiet_op
              first | go_big_quiet_on | (refine ⟨_, fun _ _ => rfl, ?_⟩; go_big_quiet_on)
              go_big_quiet_want
              go_big_quiet_op
              first | go_big_quiet_on | (refine ⟨_, fun _ _ => rfl, ?_⟩; go_big_quiet_on)
              go_big_quiet_want
              go_big_quiet_op
              first | go_big_quiet_on | (refine ⟨_, fun _ _ => rfl, ?_⟩; go_big_quiet_on)
              go_big_quiet_want
              refine ⟨.agg #[.int .i64 f.S.sch, .int .i64 f.S.dim, .slice p.AL f.S.L.length p.cL, .slice p.AV f.S.V.length p.cV, .int .i64 f.S.scale, .int .i64 f.S.wide, .slice p.AE f.S.lev.length p.cE, .slice p.AN f.S.neg.length p.cN], fun W hW => ?_, ?_⟩
              · obtain ⟨x0, x1, x2, x3, x4, x5, x6, x7, x8, x9, x10, y0, y1, y2, y3, y4, y5, y6, y7, y8, y9, y10, hB⟩ := HC.out W hW
                go_simp
              simp only [Act.put, List.setIfInBounds_toArray, List.set_cons_zero, List.set_cons_succ]
              go_big_quiet_on
              go_big_quiet_want
              go_big_quiet_op
              go_big_quiet_call ((intro hW; refine (CO1.out _).mono ?_; rintro _ w' ⟨rfl, hb⟩; exact ⟨rfl, HK.out _ _ hW hb⟩))
              go_big_quiet_want
              go_big_quiet_op
              first | go_big_quiet_on | (refine ⟨_, fun _ _ => rfl, ?_⟩; go_big_quiet_on)
              go_big_quiet_want
              refine ⟨.agg #[.int .i64 g.S.sch, .int .i64 g.S.dim, .slice q.AL g.S.L.length q.cL, .slice q.AV g.S.V.length q.cV, .int .i64 g.S.scale, .int .i64 g.S.wide, .slice q.AE g.S.lev.length q.cE, .slice q.AN g.S.neg.length q.cN], fun W hW => ?_, ?_⟩
              · obtain ⟨x0, x1, x2, x3, x4, x5, x6, x7, x8, x9, x10, y0, y1, y2, y3, y4, y5, y6, y7, y8, y9, y10, hB⟩ := HC.out W hW
                go_simp
              simp only [Act.put, List.setIfInBounds_toArray, List.set_cons_zero, List.set_cons_succ]
              go_big_quiet_on
              go_big_quiet_want
              go_big_quiet_op
              go_big_quiet_call ((intro hW; refine (CO2.out _).mono ?_; rintro _ w' ⟨rfl, hb⟩; exact ⟨rfl, HK.out _ _ hW hb⟩))
              go_big_quiet_want
              go_big_quiet_op
              first | go_big_quiet_on | (refine ⟨_, fun _ _ => rfl, ?_⟩; go_big_quiet_on)
              go_big_quiet_want
              go_big_quiet_op
              first | go_big_quiet_on | (refine ⟨_, fun _ _ => rfl, ?_⟩; go_big_quiet_on)
              go_big_quiet_want
              go_big_quiet_op
              first | go_big_quiet_on | (refine ⟨_, fun _ _ => rfl, ?_⟩; go_big_quiet_on)
              go_big_quiet_want
              go_big_quiet_op
              first | go_big_quiet_on | (refine ⟨_, fun _ _ => rfl, ?_⟩; go_big_quiet_on)
              go_big_quiet_want
              go_big_quiet_op
              first | go_big_quiet_on | (refine ⟨_, fun _ _ => rfl, ?_⟩; go_big_quiet_on)
              go_big_quiet_want
              refine ⟨.slice p.AL f.S.L.length p.cL, fun W hW => ?_, ?_⟩
              · obtain ⟨x0, x1, x2, x3, x4, x5, x6, x7, x8, x9, x10, y0, y1, y2, y3, y4, y5, y6, y7, y8, y9, y10, hB⟩ := HC.out W hW
                go_simp
              simp only [Act.put, List.setIfInBounds_toArray, List.set_cons_zero, List.set_cons_succ]
              go_big_quiet_on
              go_big_quiet_want
              go_big_quiet_op
              first | go_big_quiet_on | (refine ⟨_, fun _ _ => rfl, ?_⟩; go_big_quiet_on)
              go_big_quiet_want
              go_big_quiet_op
              first | go_big_quiet_on | (refine ⟨_, fun _ _ => rfl, ?_⟩; go_big_quiet_on)
              go_big_quiet_want
              refine ⟨.slice q.AL g.S.L.length q.cL, fun W hW => ?_, ?_⟩
              · obtain ⟨x0, x1, x2, x3, x4, x5, x6, x7, x8, x9, x10, y0, y1, y2, y3, y4, y5, y6, y7, y8, y9, y10, hB⟩ := HC.out W hW
                go_simp
              simp only [Act.put, List.setIfInBounds_toArray, List.set_cons_zero, List.set_cons_succ]
              go_big_quiet_on
              go_big_quiet_want
              go_big_quiet_op
              go_big_quiet_call ((intro hW; refine (CL.out _ (heldB22 (HC.out _ hW))).mono ?_; rintro _ w' ⟨rfl, hb⟩; exact ⟨rfl, HK.out _ _ hW hb⟩))
              go_big_quiet_want
              go_big_quiet_op
              first | go_big_quiet_on | (refine ⟨_, fun _ _ => rfl, ?_⟩; go_big_quiet_on)
              go_big_quiet_want
              go_big_quiet_op
              first | go_big_quiet_on | (refine ⟨_, fun _ _ => rfl, ?_⟩; go_big_quiet_on)
              go_big_quiet_want
              go_big_quiet_op
              first | go_big_quiet_on | (refine ⟨_, fun _ _ => rfl, ?_⟩; go_big_quiet_on)
              go_big_quiet_want
              go_big_quiet_op
              first | go_big_quiet_on | (refine ⟨_, fun _ _ => rfl, ?_⟩; go_big_quiet_on)
              go_big_quiet_want
              refine ⟨.slice p.AV f.S.V.length p.cV, fun W hW => ?_, ?_⟩
              · obtain ⟨x0, x1, x2, x3, x4, x5, x6, x7, x8, x9, x10, y0, y1, y2, y3, y4, y5, y6, y7, y8, y9, y10, hB⟩ := HC.out W hW
                go_simp
              simp only [Act.put, List.setIfInBounds_toArray, List.set_cons_zero, List.set_cons_succ]
              go_big_quiet_on
              go_big_quiet_want
              go_big_quiet_op
              first | go_big_quiet_on | (refine ⟨_, fun _ _ => rfl, ?_⟩; go_big_quiet_on)
              go_big_quiet_want
              go_big_quiet_op
              first | go_big_quiet_on | (refine ⟨_, fun _ _ => rfl, ?_⟩; go_big_quiet_on)
              go_big_quiet_want
              refine ⟨.slice q.AV g.S.V.length q.cV, fun W hW => ?_, ?_⟩
              · obtain ⟨x0, x1, x2, x3, x4, x5, x6, x7, x8, x9, x10, y0, y1, y2, y3, y4, y5, y6, y7, y8, y9, y10, hB⟩ := HC.out W hW
                go_simp
              simp only [Act.put, List.setIfInBounds_toArray, List.set_cons_zero, List.set_cons_succ]
              go_big_quiet_on
              go_big_quiet_want
              go_big_quiet_op
              go_big_quiet_call ((intro hW; refine (CV.out _ (heldB22 (HC.out _ hW))).mono ?_; rintro _ w' ⟨rfl, hb⟩; exact ⟨rfl, HK.out _ _ hW hb⟩))
              go_big_quiet_want
              go_big_quiet_op
              first | go_big_quiet_on | (refine ⟨_, fun _ _ => rfl, ?_⟩; go_big_quiet_on)
              go_big_quiet_want
              go_big_quiet_op
              first | go_big_quiet_on | (refine ⟨_, fun _ _ => rfl, ?_⟩; go_big_quiet_on)
              go_big_quiet_want
              go_big_quiet_op
              first | go_big_quiet_on | (refine ⟨_, fun _ _ => rfl, ?_⟩; go_big_quiet_on)
              go_big_quiet_want
              go_big_quiet_op
              first | go_big_quiet_on | (refine ⟨_, fun _ _ => rfl, ?_⟩; go_big_quiet_on)
              go_big_quiet_want
              refine ⟨.slice p.AE f.S.lev.length p.cE, fun W hW => ?_, ?_⟩
              · obtain ⟨x0, x1, x2, x3, x4, x5, x6, x7, x8, x9, x10, y0, y1, y2, y3, y4, y5, y6, y7, y8, y9, y10, hB⟩ := HC.out W hW
                go_simp
              simp only [Act.put, List.setIfInBounds_toArray, List.set_cons_zero, List.set_cons_succ]
              go_big_quiet_on
              go_big_quiet_want
              go_big_quiet_op
              first | go_big_quiet_on | (refine ⟨_, fun _ _ => rfl, ?_⟩; go_big_quiet_on)
              go_big_quiet_want
              go_big_quiet_op
              first | go_big_quiet_on | (refine ⟨_, fun _ _ => rfl, ?_⟩; go_big_quiet_on)
              go_big_quiet_want
              refine ⟨.slice q.AE g.S.lev.length q.cE, fun W hW => ?_, ?_⟩
              · obtain ⟨x0, x1, x2, x3, x4, x5, x6, x7, x8, x9, x10, y0, y1, y2, y3, y4, y5, y6, y7, y8, y9, y10, hB⟩ := HC.out W hW
                go_simp
              simp only [Act.put, List.setIfInBounds_toArray, List.set_cons_zero, List.set_cons_succ]
              go_big_quiet_on
              go_big_quiet_want
              go_big_quiet_op
              go_big_quiet_call ((intro hW; refine (CE.out _ (heldB22 (HC.out _ hW))).mono ?_; rintro _ w' ⟨rfl, hb⟩; exact ⟨rfl, HK.out _ _ hW hb⟩))
              go_big_quiet_want
              go_big_quiet_op
              first | go_big_quiet_on | (refine ⟨_, fun _ _ => rfl, ?_⟩; go_big_quiet_on)
              go_big_quiet_want
              go_big_quiet_op
              first | go_big_quiet_on | (refine ⟨_, fun _ _ => rfl, ?_⟩; go_big_quiet_on)
              go_big_quiet_want
              go_big_quiet_op
              first | go_big_quiet_on | (refine ⟨_, fun _ _ => rfl, ?_⟩; go_big_quiet_on)
              go_big_quiet_want
              go_big_quiet_op
              first | go_big_quiet_on | (refine ⟨_, fun _ _ => rfl, ?_⟩; go_big_quiet_on)
              go_big_quiet_want
              refine ⟨.slice p.AN f.S.neg.length p.cN, fun W hW => ?_, ?_⟩
              · obtain ⟨x0, x1, x2, x3, x4, x5, x6, x7, x8, x9, x10, y0, y1, y2, y3, y4, y5, y6, y7, y8, y9, y10, hB⟩ := HC.out W hW
                go_simp
              simp only [Act.put, List.setIfInBounds_toArray, List.set_cons_zero, List.set_cons_succ]
              go_big_quiet_on
              go_big_quiet_want
              go_big_quiet_op
              first | go_big_quiet_on | (refine ⟨_, fun _ _ => rfl, ?_⟩; go_big_quiet_on)
              go_big_quiet_want
              go_big_quiet_op
              first | go_big_quiet_on | (refine ⟨_, fun _ _ => rfl, ?_⟩; go_big_quiet_on)
              go_big_quiet_want
              refine ⟨.slice q.AN g.S.neg.length q.cN, fun W hW => ?_, ?_⟩
              · obtain ⟨x0, x1, x2, x3, x4, x5, x6, x7, x8, x9, x10, y0, y1, y2, y3, y4, y5, y6, y7, y8, y9, y10, hB⟩ := HC.out W hW
                go_simp
              simp only [Act.put, List.setIfInBounds_toArray, List.set_cons_zero, List.set_cons_succ]
              go_big_quiet_on
              go_big_quiet_want
              go_big_quiet_op
              go_big_quiet_call ((intro hW; refine (CN.out _ (heldB22 (HC.out _ hW))).mono ?_; rintro _ w' ⟨rfl, hb⟩; exact ⟨rfl, HK.out _ _ hW hb⟩))
              go_big_quiet_want
              go_big_quiet_op
              first | go_big_quiet_on | (refine ⟨_, fun _ _ => rfl, ?_⟩; go_big_quiet_on)
              go_big_quiet_want
              go_big_quiet_op
              first | go_big_quiet_on | (refine ⟨_, fun _ _ => rfl, ?_⟩; go_big_quiet_on)
              refine wpQuiet_nil ?_
              intro wz hz
              have hbz := heldB22 (HC.out _ hz)
              clear hz
              go_wp2_with fail
              go_ret
              exact ⟨ret_bool (by rw [← HR.out]; simp), hbz⟩
end Go.Proofs.Ythcigkcnknibgaa
