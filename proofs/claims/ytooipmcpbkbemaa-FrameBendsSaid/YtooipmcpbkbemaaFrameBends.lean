
/-
  FrameBends answers true for every input. No condition.
-/
import Derived.Test.YtooipmcpbkbemaaMFsO
import Derived.Test.YtooipmcpbkbemaaMFsE
import Derived.Test.YtooipmcpbkbemaaMc
namespace Go.Proofs.Ytooipmcpbkbemaa.FrameBends
open Go.ChangeShapes Go.WideShapes Go.ChangeAt Go.RowKit
set_option maxHeartbeats 400000
set_option linter.unusedVariables false
open Go.Proofs.Ytooipmcpbkbemaa
theorem held22 {w W w1 : World} {g h : Nat} {a0 b0 a1 b1 a2 b2 a3 b3 a4 b4 a5 b5 a6 b6 a7 b7 a8 b8 a9 b9 a10 b10 : Value} (hS : W.cell? ⟨g, 0, none⟩ = some a0 ∧ W.cell? ⟨g, 1, none⟩ = some a1 ∧ W.cell? ⟨g, 2, none⟩ = some a2 ∧ W.cell? ⟨g, 3, none⟩ = some a3 ∧ W.cell? ⟨g, 4, none⟩ = some a4 ∧ W.cell? ⟨g, 5, none⟩ = some a5 ∧ W.cell? ⟨g, 6, none⟩ = some a6 ∧ W.cell? ⟨g, 7, none⟩ = some a7 ∧ W.cell? ⟨g, 8, none⟩ = some a8 ∧ W.cell? ⟨g, 9, none⟩ = some a9 ∧ W.cell? ⟨g, 10, none⟩ = some a10 ∧ W.cell? ⟨h, 0, none⟩ = some b0 ∧ W.cell? ⟨h, 1, none⟩ = some b1 ∧ W.cell? ⟨h, 2, none⟩ = some b2 ∧ W.cell? ⟨h, 3, none⟩ = some b3 ∧ W.cell? ⟨h, 4, none⟩ = some b4 ∧ W.cell? ⟨h, 5, none⟩ = some b5 ∧ W.cell? ⟨h, 6, none⟩ = some b6 ∧ W.cell? ⟨h, 7, none⟩ = some b7 ∧ W.cell? ⟨h, 8, none⟩ = some b8 ∧ W.cell? ⟨h, 9, none⟩ = some b9 ∧ W.cell? ⟨h, 10, none⟩ = some b10 ∧ Below w.heap.size w W) (hb : Below W.heap.size W w1) : w1.cell? ⟨g, 0, none⟩ = some a0 ∧ w1.cell? ⟨g, 1, none⟩ = some a1 ∧ w1.cell? ⟨g, 2, none⟩ = some a2 ∧ w1.cell? ⟨g, 3, none⟩ = some a3 ∧ w1.cell? ⟨g, 4, none⟩ = some a4 ∧ w1.cell? ⟨g, 5, none⟩ = some a5 ∧ w1.cell? ⟨g, 6, none⟩ = some a6 ∧ w1.cell? ⟨g, 7, none⟩ = some a7 ∧ w1.cell? ⟨g, 8, none⟩ = some a8 ∧ w1.cell? ⟨g, 9, none⟩ = some a9 ∧ w1.cell? ⟨g, 10, none⟩ = some a10 ∧ w1.cell? ⟨h, 0, none⟩ = some b0 ∧ w1.cell? ⟨h, 1, none⟩ = some b1 ∧ w1.cell? ⟨h, 2, none⟩ = some b2 ∧ w1.cell? ⟨h, 3, none⟩ = some b3 ∧ w1.cell? ⟨h, 4, none⟩ = some b4 ∧ w1.cell? ⟨h, 5, none⟩ = some b5 ∧ w1.cell? ⟨h, 6, none⟩ = some b6 ∧ w1.cell? ⟨h, 7, none⟩ = some b7 ∧ w1.cell? ⟨h, 8, none⟩ = some b8 ∧ w1.cell? ⟨h, 9, none⟩ = some b9 ∧ w1.cell? ⟨h, 10, none⟩ = some b10 ∧ Below w.heap.size w w1 := by
  obtain ⟨x0, x1, x2, x3, x4, x5, x6, x7, x8, x9, x10, y0, y1, y2, y3, y4, y5, y6, y7, y8, y9, y10, hB⟩ := hS
  have hg := lt_of_cell x0
  have hh := lt_of_cell y0
  exact ⟨(hb.cell (p := ⟨g, 0, none⟩) hg).trans x0, (hb.cell (p := ⟨g, 1, none⟩) hg).trans x1, (hb.cell (p := ⟨g, 2, none⟩) hg).trans x2, (hb.cell (p := ⟨g, 3, none⟩) hg).trans x3, (hb.cell (p := ⟨g, 4, none⟩) hg).trans x4, (hb.cell (p := ⟨g, 5, none⟩) hg).trans x5, (hb.cell (p := ⟨g, 6, none⟩) hg).trans x6, (hb.cell (p := ⟨g, 7, none⟩) hg).trans x7, (hb.cell (p := ⟨g, 8, none⟩) hg).trans x8, (hb.cell (p := ⟨g, 9, none⟩) hg).trans x9, (hb.cell (p := ⟨g, 10, none⟩) hg).trans x10, (hb.cell (p := ⟨h, 0, none⟩) hh).trans y0, (hb.cell (p := ⟨h, 1, none⟩) hh).trans y1, (hb.cell (p := ⟨h, 2, none⟩) hh).trans y2, (hb.cell (p := ⟨h, 3, none⟩) hh).trans y3, (hb.cell (p := ⟨h, 4, none⟩) hh).trans y4, (hb.cell (p := ⟨h, 5, none⟩) hh).trans y5, (hb.cell (p := ⟨h, 6, none⟩) hh).trans y6, (hb.cell (p := ⟨h, 7, none⟩) hh).trans y7, (hb.cell (p := ⟨h, 8, none⟩) hh).trans y8, (hb.cell (p := ⟨h, 9, none⟩) hh).trans y9, (hb.cell (p := ⟨h, 10, none⟩) hh).trans y10, hB.trans (hb.mono hB.size)⟩
theorem heldB22 {w W : World} {g h : Nat} {a0 b0 a1 b1 a2 b2 a3 b3 a4 b4 a5 b5 a6 b6 a7 b7 a8 b8 a9 b9 a10 b10 : Value} (hS : W.cell? ⟨g, 0, none⟩ = some a0 ∧ W.cell? ⟨g, 1, none⟩ = some a1 ∧ W.cell? ⟨g, 2, none⟩ = some a2 ∧ W.cell? ⟨g, 3, none⟩ = some a3 ∧ W.cell? ⟨g, 4, none⟩ = some a4 ∧ W.cell? ⟨g, 5, none⟩ = some a5 ∧ W.cell? ⟨g, 6, none⟩ = some a6 ∧ W.cell? ⟨g, 7, none⟩ = some a7 ∧ W.cell? ⟨g, 8, none⟩ = some a8 ∧ W.cell? ⟨g, 9, none⟩ = some a9 ∧ W.cell? ⟨g, 10, none⟩ = some a10 ∧ W.cell? ⟨h, 0, none⟩ = some b0 ∧ W.cell? ⟨h, 1, none⟩ = some b1 ∧ W.cell? ⟨h, 2, none⟩ = some b2 ∧ W.cell? ⟨h, 3, none⟩ = some b3 ∧ W.cell? ⟨h, 4, none⟩ = some b4 ∧ W.cell? ⟨h, 5, none⟩ = some b5 ∧ W.cell? ⟨h, 6, none⟩ = some b6 ∧ W.cell? ⟨h, 7, none⟩ = some b7 ∧ W.cell? ⟨h, 8, none⟩ = some b8 ∧ W.cell? ⟨h, 9, none⟩ = some b9 ∧ W.cell? ⟨h, 10, none⟩ = some b10 ∧ Below w.heap.size w W) : Below w.heap.size w W := by
  obtain ⟨_, _, _, _, _, _, _, _, _, _, _, _, _, _, _, _, _, _, _, _, _, _, hB⟩ := hS
  exact hB
theorem own_setB {w : World} {base n : Nat} {e : TypeId} {v : Value} {vs : List Value} (h : w.ownsRow base e 1 v n vs) {p : Addr} (hp : p.block < base) (u : Value) : (w.setCell p u).ownsRow base e 1 v n vs := by
  refine ⟨h.1, ?_⟩
  rcases h.2 with hn | ⟨g, cap, cur, hv, hg, hh, r⟩
  · exact .inl hn
  · exact .inr ⟨g, cap, cur, hv, hg, (Below.heap_setCell w p u g (by omega)).trans hh, r⟩
theorem heldC {w W w1 : World} {q : Nat} {b c : Value} (l3 : w.heap.size < q) (h : W.cell? ⟨w.heap.size, 4, none⟩ = some b ∧ W.cell? ⟨w.heap.size, 5, none⟩ = some c ∧ q + 1 ≤ W.heap.size ∧ Below w.heap.size w W) (hb : Below (q + 1) W w1) : w1.cell? ⟨w.heap.size, 4, none⟩ = some b ∧ w1.cell? ⟨w.heap.size, 5, none⟩ = some c ∧ q + 1 ≤ w1.heap.size ∧ Below w.heap.size w w1 :=
  ⟨(hb.cell (p := ⟨w.heap.size, 4, none⟩) (by simp; omega)).trans h.1, (hb.cell (p := ⟨w.heap.size, 5, none⟩) (by simp; omega)).trans h.2.1, Nat.le_trans h.2.2.1 hb.size, h.2.2.2.trans (hb.mono (by omega))⟩
theorem heldC2 {w W : World} {q : Nat} {b c : Value} (h : W.cell? ⟨w.heap.size, 4, none⟩ = some b ∧ W.cell? ⟨w.heap.size, 5, none⟩ = some c ∧ q + 1 ≤ W.heap.size ∧ Below w.heap.size w W) : q + 1 ≤ W.heap.size := h.2.2.1
theorem heldC4 {w W : World} {q : Nat} {b c : Value} (h : W.cell? ⟨w.heap.size, 4, none⟩ = some b ∧ W.cell? ⟨w.heap.size, 5, none⟩ = some c ∧ q + 1 ≤ W.heap.size ∧ Below w.heap.size w W) : Below w.heap.size w W := h.2.2.2
theorem heldC3 {w W : World} {q k : Nat} {b c : Value} (l3 : w.heap.size < q) (h : W.cell? ⟨w.heap.size, 4, none⟩ = some b ∧ W.cell? ⟨w.heap.size, 5, none⟩ = some c ∧ q + 1 ≤ W.heap.size ∧ Below w.heap.size w W) (u : Value) : (W.setCell ⟨q, k, none⟩ u).cell? ⟨w.heap.size, 4, none⟩ = some b ∧ (W.setCell ⟨q, k, none⟩ u).cell? ⟨w.heap.size, 5, none⟩ = some c ∧ q + 1 ≤ (W.setCell ⟨q, k, none⟩ u).heap.size ∧ Below w.heap.size w (W.setCell ⟨q, k, none⟩ u) :=
  ⟨by rw [World.cell?_setCell_other _ _ _ _ (by intro e; injection e with e1 _; omega)]; exact h.1, by rw [World.cell?_setCell_other _ _ _ _ (by intro e; injection e with e1 _; omega)]; exact h.2.1, by rw [World.size_setCell]; exact h.2.2.1, h.2.2.2.setCell (p := ⟨q, k, none⟩) (Nat.le_of_lt l3) u⟩
set_option maxHeartbeats 4000000 in
set_option maxRecDepth 100000 in
theorem walk (F : FrOk) (f : FrameV) (p : SentP) (w : World) (rf : RdS w w.heap.size f.S p) (wf : wfF f) (cp : capS f.S p) :
    Calls Try.prog 7 #[encF f p] w fun e w' => e = .returned (.bool true) ∧ Below w.heap.size w w' := by
  have CL := hid (fun W => fr_live F W)
  have CB := hid (fun W => (show Calls Try.prog 10 #[.agg #[.int .i64 f.S.sch, .int .i64 f.S.dim, .slice p.AL f.S.L.length p.cL, .slice p.AV f.S.V.length p.cV, .int .i64 f.S.scale, .int .i64 f.S.wide, .slice p.AE f.S.lev.length p.cE, .slice p.AN f.S.neg.length p.cN]] W fun e w' => e = .returned (.bool (bigS f.S)) ∧ Below W.heap.size W w' by exact ref_Big f.S p W))
  have HBX : Hid (BoxL (w.alloc (.cells #[.int .i64 f.knd, .int .i64 f.frm, .int .i64 f.stp, .int .i64 f.S.sch, .int .i64 f.S.dim, .slice p.AL f.S.L.length p.cL, .slice p.AV f.S.V.length p.cV, .int .i64 f.S.scale, .int .i64 f.S.wide, .slice p.AE f.S.lev.length p.cE, .slice p.AN f.S.neg.length p.cN] 29)) w.heap.size (cellsG f p)) := hid (BoxL.new w _ _)
  by_cases hbig : bigS f.S = true
  · rw [hbig] at CB
    clear hbig rf wf cp
    go_enter Try.func7, Try.ntmps7
    go_wp2_with fail
    refine (CL.out _).mono ?_
    rintro _ w1 ⟨rfl, hb1⟩
    have k1 : Below w.heap.size w w1 := Below.trans (by go_grown) (hb1.mono (by simp))
    have HX := hid (HBX.out.below hb1 (by simp))
    clear hb1
    obtain ⟨⟨c0, c1, c2, c3, c4, c5, c6, c7, c8, c9, c10⟩, _⟩ := box_G HX.out
    go_wp2_with fail
    refine (CB.out _).mono ?_
    rintro _ w2 ⟨rfl, hb2⟩
    go_wp2_with fail
    go_ret
    exact ⟨rfl, k1.trans (hb2.mono k1.size)⟩
  · have hb0 : bigS f.S = false := by cases h : bigS f.S with
      | false => rfl
      | true => exact absurd h hbig
    have hln := big_ln hb0
    have hl5 := hln.more (show 500 ≤ 5000 by decide)
    rw [hb0] at CB
    have CK : Hid (∀ W, Below w.heap.size w W → Calls Try.prog 20 #[.agg #[.int .i64 f.knd, .int .i64 f.frm, .int .i64 f.stp, .int .i64 f.S.sch, .int .i64 f.S.dim, .slice p.AL f.S.L.length p.cL, .slice p.AV f.S.V.length p.cV, .int .i64 f.S.scale, .int .i64 f.S.wide, .slice p.AE f.S.lev.length p.cE, .slice p.AN f.S.neg.length p.cN]] W fun e w' => e = .returned (.int .i64 (chkF f)) ∧ Below W.heap.size W w') := hid (fun W h => F.check f p hl5 wf W ((rf.below h).more h.size))
    by_cases hc : chkF f = 0
    · rw [hc] at CK
      have hkk := chkF_ok.1 hc
      have hkn : 1 ≤ f.knd ∧ f.knd ≤ 2 := by
        rcases hkk.2.2.2.2 with h | h
        · omega
        · omega
      have K1 : Hid (∀ W, Below w.heap.size w W → Calls Try.prog 20 #[.agg #[.int .i64 f.knd, .int .i64 64, .int .i64 f.stp, .int .i64 f.S.sch, .int .i64 f.S.dim, .slice p.AL f.S.L.length p.cL, .slice p.AV f.S.V.length p.cV, .int .i64 f.S.scale, .int .i64 f.S.wide, .slice p.AE f.S.lev.length p.cE, .slice p.AN f.S.neg.length p.cN]] W fun e w' => e = .returned (.int .i64 1) ∧ Below W.heap.size W w') := hid (fun W h => by
        have hh := F.check { f with frm := 64 } p hl5 ⟨wf.1, by show I64 64; decide, wf.2.2.1, wf.2.2.2⟩ W ((rf.below h).more h.size)
        rw [no_frm] at hh
        exact hh)
      have K2 : Hid (∀ W, Below w.heap.size w W → Calls Try.prog 20 #[.agg #[.int .i64 (3 - f.knd), .int .i64 f.frm, .int .i64 f.stp, .int .i64 f.S.sch, .int .i64 f.S.dim, .slice p.AL f.S.L.length p.cL, .slice p.AV f.S.V.length p.cV, .int .i64 f.S.scale, .int .i64 f.S.wide, .slice p.AE f.S.lev.length p.cE, .slice p.AN f.S.neg.length p.cN]] W fun e w' => e = .returned (.int .i64 1) ∧ Below W.heap.size W w') := hid (fun W h => by
        have hh := F.check { f with knd := 3 - f.knd } p hl5 ⟨by show I64 (3 - f.knd); unfold I64; omega, wf.2.1, wf.2.2.1, wf.2.2.2⟩ W ((rf.below h).more h.size)
        rw [no_knd hc] at hh
        exact hh)
      have K5 : Hid (∀ W, Below w.heap.size w W → Calls Try.prog 20 #[.agg #[.int .i64 f.knd, .int .i64 f.frm, .int .i64 f.stp, .int .i64 f.S.sch, .int .i64 f.S.dim, .slice p.AL f.S.L.length p.cL, .slice p.AV f.S.V.length p.cV, .int .i64 (-1), .int .i64 f.S.wide, .slice p.AE f.S.lev.length p.cE, .slice p.AN f.S.neg.length p.cN]] W fun e w' => e = .returned (.int .i64 1) ∧ Below W.heap.size W w') := hid (fun W h => by
        have hh := F.check { f with S := { f.S with scale := -1 } } p hl5 ⟨wf.1, wf.2.1, wf.2.2.1, wf.2.2.2.1, wf.2.2.2.2.1, wf.2.2.2.2.2.1, wf.2.2.2.2.2.2.1, by show I64 (-1); decide, wf.2.2.2.2.2.2.2.2.1, wf.2.2.2.2.2.2.2.2.2⟩ W ((rf.below h).more h.size)
        rw [no_scale] at hh
        exact hh)
      have K3 : Hid (∀ (A : Option Addr) (c : Nat) (Y : List Int) W, Y = f.S.V ++ [1] → Rd (Value.int .i64) W W.heap.size A Y → Below w.heap.size w W → Calls Try.prog 20 #[.agg #[.int .i64 f.knd, .int .i64 f.frm, .int .i64 f.stp, .int .i64 f.S.sch, .int .i64 f.S.dim, .slice p.AL f.S.L.length p.cL, .slice A Y.length c, .int .i64 f.S.scale, .int .i64 f.S.wide, .slice p.AE f.S.lev.length p.cE, .slice p.AN f.S.neg.length p.cN]] W fun e w' => e = .returned (.int .i64 1) ∧ Below W.heap.size W w') := hid (fun A c Y W hY hr h => by
        subst hY
        have hh := F.check { f with S := { f.S with V := f.S.V ++ [1] } } ⟨p.AL, p.cL, A, c, p.AE, p.cE, p.AN, p.cN⟩ ⟨hl5.1, by show (f.S.V ++ [1]).length ≤ 5000; have := hln.2.1; rw [List.length_append, List.length_singleton]; omega, hl5.2.2.1, hl5.2.2.2⟩ ⟨wf.1, wf.2.1, wf.2.2.1, wf.2.2.2.1, wf.2.2.2.2.1, wf.2.2.2.2.2.1, (fun x hx => by
          rcases List.mem_append.1 hx with hx | hx
          · exact wf.2.2.2.2.2.2.1 x hx
          · simp at hx; subst hx; decide), wf.2.2.2.2.2.2.2⟩ W ⟨(rf.1.below h).more h.size, hr, (rf.2.2.1.below h).more h.size, (rf.2.2.2.below h).more h.size⟩
        rw [no_V hc] at hh
        exact hh)
      have K4 : Hid (∀ (A : Option Addr) (c : Nat) (Y : List Int) W, Y = f.S.L ++ [f.S.dim] → Rd (Value.int .i64) W W.heap.size A Y → Below w.heap.size w W → Calls Try.prog 20 #[.agg #[.int .i64 f.knd, .int .i64 f.frm, .int .i64 f.stp, .int .i64 f.S.sch, .int .i64 f.S.dim, .slice A Y.length c, .slice p.AV f.S.V.length p.cV, .int .i64 f.S.scale, .int .i64 f.S.wide, .slice p.AE f.S.lev.length p.cE, .slice p.AN f.S.neg.length p.cN]] W fun e w' => e = .returned (.int .i64 1) ∧ Below W.heap.size W w') := hid (fun A c Y W hY hr h => by
        subst hY
        have hh := F.check { f with S := { f.S with L := f.S.L ++ [f.S.dim] } } ⟨A, c, p.AV, p.cV, p.AE, p.cE, p.AN, p.cN⟩ ⟨by show (f.S.L ++ [f.S.dim]).length ≤ 5000; have := hln.1; rw [List.length_append, List.length_singleton]; omega, hl5.2.1, hl5.2.2.1, hl5.2.2.2⟩ ⟨wf.1, wf.2.1, wf.2.2.1, wf.2.2.2.1, wf.2.2.2.2.1, (fun x hx => by
          rcases List.mem_append.1 hx with hx | hx
          · exact wf.2.2.2.2.2.1 x hx
          · simp at hx; subst hx; exact wf.2.2.2.2.1), wf.2.2.2.2.2.2⟩ W ⟨hr, (rf.2.1.below h).more h.size, (rf.2.2.1.below h).more h.size, (rf.2.2.2.below h).more h.size⟩
        rw [no_L hc] at hh
        exact hh)
      have CM : Hid (∀ W, Below w.heap.size w W → Calls Try.prog 18 #[.agg #[.int .i64 f.S.sch, .int .i64 f.S.dim, .slice p.AL f.S.L.length p.cL, .slice p.AV f.S.V.length p.cV, .int .i64 f.S.scale, .int .i64 f.S.wide, .slice p.AE f.S.lev.length p.cE, .slice p.AN f.S.neg.length p.cN]] W fun e w' => e = .returned (.bool (f.knd == 1)) ∧ Below W.heap.size W w') := hid (fun W h => by
        have hh := F.may f.S p hl5 wf.2.2.2 W ((rf.below h).more h.size)
        rw [may_kinds hc] at hh
        exact hh)
      have RV := hid (fun W (h : Below w.heap.size w W) => (rf.2.1.below h).more h.size)
      have RL := hid (fun W (h : Below w.heap.size w W) => (rf.1.below h).more h.size)
      have hvl : f.S.V.length ≤ 500 := hln.2.1
      have hll : f.S.L.length ≤ 500 := hln.1
      have hdI := wf.2.2.2.2.1
      have hk3 : IntKind.i64.wrap (3 - f.knd) = 3 - f.knd := Go.IntWalk.i64_in _ (by omega)
      obtain ⟨VL, hVL⟩ : ∃ n, f.S.V.length = n := ⟨_, rfl⟩
      clear hVL
      clear hc hkk hkn rf wf cp hbig hb0 hln hl5
      go_enter Try.func7, Try.ntmps7
      go_wp2_with fail
      refine (CL.out _).mono ?_
      rintro _ w1 ⟨rfl, hb1⟩
      have k1 : Below w.heap.size w w1 := Below.trans (by go_grown) (hb1.mono (by simp))
      have X1 := hid (HBX.out.below hb1 (by simp))
      clear hb1 CL HBX
      obtain ⟨⟨c0, c1, c2, c3, c4, c5, c6, c7, c8, c9, c10⟩, _⟩ := box_G X1.out
      go_wp2_with fail
      refine (CB.out _).mono ?_
      rintro _ w2 ⟨rfl, hb2⟩
      have k2 := k1.trans (hb2.mono k1.size)
      have X2 := hid (X1.out.below hb2 (X1.out.lt (by simp [cellsG])))
      clear hb2 c0 c1 c2 c3 c4 c5 c6 c7 c8 c9 c10 X1 k1 CB
      obtain ⟨⟨c0, c1, c2, c3, c4, c5, c6, c7, c8, c9, c10⟩, _⟩ := box_G X2.out
      go_wp2_with fail
      refine (CK.out _ k2).mono ?_
      rintro _ w3 ⟨rfl, hb3⟩
      have k3 := k2.trans (hb3.mono k2.size)
      have X3 := hid (X2.out.below hb3 (X2.out.lt (by simp [cellsG])))
      clear hb3 c0 c1 c2 c3 c4 c5 c6 c7 c8 c9 c10 X2 k2 CK
      obtain ⟨⟨c0, c1, c2, c3, c4, c5, c6, c7, c8, c9, c10⟩, _⟩ := box_G X3.out
      have l3 := X3.out.lt (by simp [cellsG])
      have k4 : Below w.heap.size w (w3.alloc (.cells #[.int .i64 f.knd, .int .i64 64, .int .i64 f.stp, .int .i64 f.S.sch, .int .i64 f.S.dim, .slice p.AL f.S.L.length p.cL, .slice p.AV f.S.V.length p.cV, .int .i64 f.S.scale, .int .i64 f.S.wide, .slice p.AE f.S.lev.length p.cE, .slice p.AN f.S.neg.length p.cN] 29)) := k3.alloc k3.size _
      have X4 := hid (X3.out.below (growd w3 (.cells #[.int .i64 f.knd, .int .i64 64, .int .i64 f.stp, .int .i64 f.S.sch, .int .i64 f.S.dim, .slice p.AL f.S.L.length p.cL, .slice p.AV f.S.V.length p.cV, .int .i64 f.S.scale, .int .i64 f.S.wide, .slice p.AE f.S.lev.length p.cE, .slice p.AN f.S.neg.length p.cN] 29)) l3)
      have Y4 : Hid (BoxL (w3.alloc (.cells #[.int .i64 f.knd, .int .i64 64, .int .i64 f.stp, .int .i64 f.S.sch, .int .i64 f.S.dim, .slice p.AL f.S.L.length p.cL, .slice p.AV f.S.V.length p.cV, .int .i64 f.S.scale, .int .i64 f.S.wide, .slice p.AE f.S.lev.length p.cE, .slice p.AN f.S.neg.length p.cN] 29)) w3.heap.size (cellsG { f with frm := 64 } p)) := hid (BoxL.new w3 _ _)
      go_wp2_with fail
      refine (K1.out _ k4).mono ?_
      rintro _ u1 ⟨rfl, hb1⟩
      have ku1 := k4.trans (hb1.mono k4.size)
      have XU1 := hid (BoxL.below X4.out hb1 (BoxL.lt X4.out (by simp [cellsG])))
      have YU1 := hid (BoxL.below Y4.out hb1 (BoxL.lt Y4.out (by simp [cellsG])))
      clear hb1 k4 X4 Y4 K1
      obtain ⟨⟨c0, c1, c2, c3, c4, c5, c6, c7, c8, c9, c10⟩, _⟩ := box_G XU1.out
      have hT2 := hid (box_there (o := 0) (n := 11) YU1.out (by simp [cellsG]))
      go_wp2_with (refine wpList_st rfl 29 _ _ rfl w3.heap.size 0 #[.int .i64 f.knd, .int .i64 f.frm, .int .i64 f.stp, .int .i64 f.S.sch, .int .i64 f.S.dim, .slice p.AL f.S.L.length p.cL, .slice p.AV f.S.V.length p.cV, .int .i64 f.S.scale, .int .i64 f.S.wide, .slice p.AE f.S.lev.length p.cE, .slice p.AN f.S.neg.length p.cN] rfl rfl hT2.out info_frame (by simp [Value.oneCell']) ?_)
      intro v2 hv2
      have HG2 : Hid (BoxL v2 w3.heap.size (cellsG f p) ∧ BoxL v2 w.heap.size (cellsG f p) ∧ Below w.heap.size w v2) := hid (by
        rw [hv2.out]
        have ob := lay11_off u1 w3.heap.size f p
        exact ⟨lay11_box YU1.out f p, ob.box XU1.out (by simp [cellsG]) (by omega) (by omega), ku1.trans (ob.below (Nat.le_of_lt l3) (Nat.le_of_lt l3) ku1.size)⟩)
      have kv2 := HG2.out.2.2
      have XV2 := hid HG2.out.2.1
      have YV2 := hid HG2.out.1
      clear hv2 HG2 hT2 c0 c1 c2 c3 c4 c5 c6 c7 c8 c9 c10 XU1 YU1 ku1
      obtain ⟨⟨c0, c1, c2, c3, c4, c5, c6, c7, c8, c9, c10⟩, _⟩ := box_G XV2.out
      obtain ⟨⟨d0, d1, d2, d3, d4, d5, d6, d7, d8, d9, d10⟩, m0, m1, m2, m3, m4, m5, m6, m7, m8, m9, m10⟩ := box_G YV2.out
      have kq2 : Below w.heap.size w (v2.setCell ⟨w3.heap.size, 0, none⟩ (.int .i64 (3 - f.knd))) := kv2.setCell (p := ⟨w3.heap.size, 0, none⟩) (Nat.le_of_lt l3) _
      have XQ2 := hid (BoxL.other XV2.out (p := ⟨w3.heap.size, 0, none⟩) (by simp; omega) (.int .i64 (3 - f.knd)))
      have YQ2 : Hid (BoxL (v2.setCell ⟨w3.heap.size, 0, none⟩ (.int .i64 (3 - f.knd))) w3.heap.size (cellsG { f with knd := 3 - f.knd } p)) := hid (BoxL.one YV2.out (k := 0) rfl (.int .i64 (3 - f.knd)))
      clear XV2 YV2 kv2
      go_wp2_with fail
      refine (K2.out _ kq2).mono ?_
      rintro _ u2 ⟨rfl, hb2⟩
      have ku2 := kq2.trans (hb2.mono kq2.size)
      have XU2 := hid (BoxL.below XQ2.out hb2 (BoxL.lt XQ2.out (by simp [cellsG])))
      have YU2 := hid (BoxL.below YQ2.out hb2 (BoxL.lt YQ2.out (by simp [cellsG])))
      clear hb2 kq2 XQ2 YQ2 K2 c0 c1 c2 c3 c4 c5 c6 c7 c8 c9 c10 d0 d1 d2 d3 d4 d5 d6 d7 d8 d9 d10 m0 m1 m2 m3 m4 m5 m6 m7 m8 m9 m10 hk3
      obtain ⟨⟨c0, c1, c2, c3, c4, c5, c6, c7, c8, c9, c10⟩, _⟩ := box_G XU2.out
      have hT3 := hid (box_there (o := 0) (n := 11) YU2.out (by simp [cellsG]))
      go_wp2_with (refine wpList_st rfl 29 _ _ rfl w3.heap.size 0 #[.int .i64 f.knd, .int .i64 f.frm, .int .i64 f.stp, .int .i64 f.S.sch, .int .i64 f.S.dim, .slice p.AL f.S.L.length p.cL, .slice p.AV f.S.V.length p.cV, .int .i64 f.S.scale, .int .i64 f.S.wide, .slice p.AE f.S.lev.length p.cE, .slice p.AN f.S.neg.length p.cN] rfl rfl hT3.out info_frame (by simp [Value.oneCell']) ?_)
      intro v3 hv3
      have HG3 : Hid (BoxL v3 w3.heap.size (cellsG f p) ∧ BoxL v3 w.heap.size (cellsG f p) ∧ Below w.heap.size w v3) := hid (by
        rw [hv3.out]
        have ob := lay11_off u2 w3.heap.size f p
        exact ⟨lay11_box YU2.out f p, ob.box XU2.out (by simp [cellsG]) (by omega) (by omega), ku2.trans (ob.below (Nat.le_of_lt l3) (Nat.le_of_lt l3) ku2.size)⟩)
      have kv3 := HG3.out.2.2
      have XV3 := hid HG3.out.2.1
      have YV3 := hid HG3.out.1
      clear hv3 HG3 hT3 c0 c1 c2 c3 c4 c5 c6 c7 c8 c9 c10 XU2 YU2 ku2
      obtain ⟨⟨c0, c1, c2, c3, c4, c5, c6, c7, c8, c9, c10⟩, _⟩ := box_G XV3.out
      obtain ⟨⟨d0, d1, d2, d3, d4, d5, d6, d7, d8, d9, d10⟩, m0, m1, m2, m3, m4, m5, m6, m7, m8, m9, m10⟩ := box_G YV3.out
      have hz3 : w3.heap.size + 1 ≤ v3.heap.size := YV3.out.lt (by simp [cellsG])
      have RV3 := hid (RV.out v3 kv3)
      clear RV
      go_wp2_with (at_builtin; refine wpList_app (Value.int .i64) (fun _ => rfl) _ rfl _ _ 23 rfl (w3.heap.size + 1) 2 (.int .i64 0) 8 Try.underlying23 info_i64 rfl [] _ _ rfl (own_nil _ _ _) f.S.V _ p.cV _ rfl RV3.out (by simp [maxLen]; omega) (by simp; omega) hz3 ?_)
      rintro Z1 A1 e1 v4 hZ1 ho1 hg1 _
      have HZ1 := hid hZ1
      have hl1 : Z1.length ≤ 500 := by rw [hZ1]; simpa using hvl
      have h0 := own_on ho1 (growd v4 (.cells #[.int .i64 1] 2))
      have r1 : Rd (Value.int .i64) (v4.alloc (.cells #[.int .i64 1] 2)) _ (some ⟨v4.heap.size, 0, none⟩) [1] := rd_one (one_cell v4 (.int .i64 1) 2).1
      have hz4 : w3.heap.size + 1 ≤ (v4.alloc (.cells #[.int .i64 1] 2)).heap.size := by have := hg1.size; simp; omega
      clear hZ1 ho1 RV3 c0 c1 c2 c3 c4 c5 c6 c7 c8 c9 c10 d0 d1 d2 d3 d4 d5 d6 d7 d8 d9 d10 m0 m1 m2 m3 m4 m5 m6 m7 m8 m9 m10
      go_wp2_with (at_builtin; refine wpList_app (Value.int .i64) (fun _ => rfl) _ rfl _ _ 23 rfl (w3.heap.size + 1) 2 (.int .i64 0) 8 Try.underlying23 info_i64 rfl Z1 _ _ rfl h0 [1] _ 1 _ rfl r1 (by simp [maxLen]; omega) (by simp; omega) hz4 ?_)
      rintro Z2 A2 e2 v5 hZ2 ho2 hg2 _
      have HZ2 : Hid (Z2 = f.S.V ++ [1]) := hid (by rw [hZ2, HZ1.out] <;> simp)
      have kk5 : Below (w3.heap.size + 1) v3 v5 := (hg1.alloc (by have := hg1.size; omega) _).trans hg2
      have kv5 := kv3.trans (kk5.mono (by omega))
      have XV5 := hid (XV3.out.below kk5 (by omega))
      have YV5 := hid (YV3.out.below kk5 (by omega))
      have kq3 : Below w.heap.size w (v5.setCell ⟨w3.heap.size, 6, none⟩ (.slice A2 Z2.length e2)) := kv5.setCell (p := ⟨w3.heap.size, 6, none⟩) (Nat.le_of_lt l3) _
      have XQ3 := hid (BoxL.other XV5.out (p := ⟨w3.heap.size, 6, none⟩) (by simp; omega) (.slice A2 Z2.length e2))
      have YQ3 : Hid (BoxL (v5.setCell ⟨w3.heap.size, 6, none⟩ (.slice A2 Z2.length e2)) w3.heap.size (cellsG { f with S := { f.S with V := Z2 } } { p with AV := A2, cV := e2 })) := hid (BoxL.one YV5.out (k := 6) rfl (.slice A2 Z2.length e2))
      have RQ3 := hid (own_rd (own_setB ho2 (p := ⟨w3.heap.size, 6, none⟩) (by simp) (.slice A2 Z2.length e2)))
      obtain ⟨⟨d0, d1, d2, d3, d4, d5, d6, d7, d8, d9, d10⟩, m0, m1, m2, m3, m4, m5, m6, m7, m8, m9, m10⟩ := box_G YV5.out
      clear hZ2 ho2 hg1 hg2 h0 r1 hz3 hz4 kk5 XV5 YV5 XV3 YV3 kv3 kv5 HZ1 hl1
      go_wp2_with fail
      refine (K3.out _ _ _ _ HZ2.out RQ3.out kq3).mono ?_
      rintro _ u3 ⟨rfl, hb3⟩
      have ku3 := kq3.trans (hb3.mono kq3.size)
      have XU3 := hid (BoxL.below XQ3.out hb3 (BoxL.lt XQ3.out (by simp [cellsG])))
      have YU3 := hid (BoxL.below YQ3.out hb3 (BoxL.lt YQ3.out (by simp [cellsG])))
      clear hb3 kq3 XQ3 YQ3 K3 RQ3 HZ2 d0 d1 d2 d3 d4 d5 d6 d7 d8 d9 d10 m0 m1 m2 m3 m4 m5 m6 m7 m8 m9 m10
      obtain ⟨⟨c0, c1, c2, c3, c4, c5, c6, c7, c8, c9, c10⟩, _⟩ := box_G XU3.out
      have hT4 := hid (box_there (o := 0) (n := 11) YU3.out (by simp [cellsG]))
      go_wp2_with (refine wpList_st rfl 29 _ _ rfl w3.heap.size 0 #[.int .i64 f.knd, .int .i64 f.frm, .int .i64 f.stp, .int .i64 f.S.sch, .int .i64 f.S.dim, .slice p.AL f.S.L.length p.cL, .slice p.AV f.S.V.length p.cV, .int .i64 f.S.scale, .int .i64 f.S.wide, .slice p.AE f.S.lev.length p.cE, .slice p.AN f.S.neg.length p.cN] rfl rfl hT4.out info_frame (by simp [Value.oneCell']) ?_)
      intro v4 hv4
      have HG4 : Hid (BoxL v4 w3.heap.size (cellsG f p) ∧ BoxL v4 w.heap.size (cellsG f p) ∧ Below w.heap.size w v4) := hid (by
        rw [hv4.out]
        have ob := lay11_off u3 w3.heap.size f p
        exact ⟨lay11_box YU3.out f p, ob.box XU3.out (by simp [cellsG]) (by omega) (by omega), ku3.trans (ob.below (Nat.le_of_lt l3) (Nat.le_of_lt l3) ku3.size)⟩)
      have kv4 := HG4.out.2.2
      have XV4 := hid HG4.out.2.1
      have YV4 := hid HG4.out.1
      clear hv4 HG4 hT4 c0 c1 c2 c3 c4 c5 c6 c7 c8 c9 c10 XU3 YU3 ku3
      obtain ⟨⟨c0, c1, c2, c3, c4, c5, c6, c7, c8, c9, c10⟩, _⟩ := box_G XV4.out
      obtain ⟨⟨d0, d1, d2, d3, d4, d5, d6, d7, d8, d9, d10⟩, m0, m1, m2, m3, m4, m5, m6, m7, m8, m9, m10⟩ := box_G YV4.out
      have hz6 : w3.heap.size + 1 ≤ v4.heap.size := YV4.out.lt (by simp [cellsG])
      have g4 := c4
      have g5 := c5
      have hzw : w.heap.size < v4.heap.size := by omega
      have g5a : (v4.alloc (.cells #[.int .i64 f.S.dim] 3)).cell? ⟨w.heap.size, 5, none⟩ = some (.slice p.AL f.S.L.length p.cL) := ((growd v4 (.cells #[.int .i64 f.S.dim] 3)).cell (p := ⟨w.heap.size, 5, none⟩) hzw).trans g5
      clear c0 c1 c2 c3 c4 c5 c6 c7 c8 c9 c10 d0 d1 d2 d3 d4 d5 d6 d7 d8 d9 d10 m0 m1 m2 m3 m4 m5 m6 m7 m8 m9 m10
      go_wp2_with fail
      first | (go_region_law (first | (refine step_app (Value.int .i64) (fun _ => rfl) rfl _ _ 22 rfl (w3.heap.size + 1) 3 (.int .i64 0) 8 Try.underlying22 info_int rfl [] none 0 rfl (own_nil _ _ _) f.S.L p.AL p.cL _ rfl (RL.out _ (by first | exact kv4.drew | exact Below.alloc kv4.drew kv4.size _)) (by simp [maxLen]; omega) (by simp; omega) (by simp; omega) ?_; rintro Z1 A1 e1 v5 hZ1 ho1 hb1 hg1; have HZ1 := hid hZ1; have hl1 : Z1.length ≤ 500 := (by rw [hZ1]; simpa using hll); have hn1 := Below.grown (Below.refl _ _) hg1 (Nat.le_refl _) (by intro k hk; cases hk); have hs1 : w3.heap.size + 1 ≤ v5.heap.size := (by have h := hb1.size; simp at h; omega); try (have g4' : v5.cell? ⟨w.heap.size, 4, none⟩ = some (.int .i64 f.S.dim) := (hb1.cell (p := ⟨w.heap.size, 4, none⟩) (by simp; omega)).trans g4); clear hZ1) | (have h0 := own_on ho1 (growd v5 (.cells #[.int .i64 f.S.dim] 3)); have r1 : Rd (Value.int .i64) (v5.alloc (.cells #[.int .i64 f.S.dim] 3)) (v5.heap.size + 1) (some ⟨v5.heap.size, 0, none⟩) [f.S.dim] := (rd_one (one_cell v5 (.int .i64 f.S.dim) 3).1).more (by simp); have y1 : Z1.length + [f.S.dim].length ≤ maxLen := (by simp [maxLen]; omega); have y2 : (Z1.length + [f.S.dim].length) * 8 ≤ 140737488355328 := (by simp; omega); have y3 : w3.heap.size + 1 ≤ (v5.alloc (.cells #[.int .i64 f.S.dim] 3)).heap.size := (by simp; omega); refine step_app (Value.int .i64) (fun _ => rfl) rfl _ _ 22 rfl (w3.heap.size + 1) 3 (.int .i64 0) 8 Try.underlying22 info_int rfl Z1 A1 e1 rfl h0 [f.S.dim] _ 1 _ rfl r1 y1 y2 y3 ?_; rintro Z2 A2 e2 v6 hZ2 ho2 hb2 hg2; have HZ2 : Hid (Z2 = f.S.L ++ [f.S.dim]) := hid (by rw [hZ2, HZ1.out] <;> simp); have KK : Hid (Below (w3.heap.size + 1) v4 v6) := hid (Below.trans ((Below.refl (w3.heap.size + 1) v4).drew) (Below.trans hb1 ((Below.alloc (Below.refl _ v5) hs1 _).trans hb2))); clear hZ2; have YV6 := hid (YV4.out.below KK.out (by omega)); have q5 := (YV6.out 5 _ rfl).1; have n5 := (YV6.out 5 _ rfl).2) | (have r1 : Rd (Value.int .i64) v5 v5.heap.size (some ⟨v4.heap.size, 0, none⟩) [f.S.dim] := (by first | exact Rd.on (w := (v4.alloc (.cells #[.int .i64 f.S.dim] 3)).drew) ((rd_one (enc := Value.int .i64) (one_cell v4 (.int .i64 f.S.dim) 3).1).more (by simp)) hn1 | exact Rd.on (w := v4.drew.alloc (.cells #[.int .i64 f.S.dim] 3)) ((rd_one (enc := Value.int .i64) (one_cell v4.drew (.int .i64 f.S.dim) 3).1).more (by simp)) hn1 | fail); have y1 : Z1.length + [f.S.dim].length ≤ maxLen := (by simp [maxLen]; omega); have y2 : (Z1.length + [f.S.dim].length) * 8 ≤ 140737488355328 := (by simp; omega); have yL : Z1.length = f.S.L.length := (by rw [HZ1.out]; simp); refine step_app (Value.int .i64) (fun _ => rfl) rfl _ _ 22 rfl (w3.heap.size + 1) 3 (.int .i64 0) 8 Try.underlying22 info_int rfl Z1 A1 e1 (by first | rfl | (rw [yL]; rfl)) ho1 [f.S.dim] (some ⟨v4.heap.size, 0, none⟩) 1 v5.heap.size rfl r1 y1 y2 hs1 ?_; clear yL; rintro Z2 A2 e2 v6 hZ2 ho2 hb2 hg2; have HZ2 : Hid (Z2 = f.S.L ++ [f.S.dim]) := hid (by rw [hZ2, HZ1.out] <;> simp); have KK : Hid (Below (w3.heap.size + 1) v4 v6) := hid (by first | exact Below.trans (Below.drew (Below.alloc (Below.refl (w3.heap.size + 1) v4) hz6 (.cells #[.int .i64 f.S.dim] 3))) (Below.trans hb1 hb2) | exact Below.trans (Below.alloc ((Below.refl (w3.heap.size + 1) v4).drew) hz6 (.cells #[.int .i64 f.S.dim] 3)) (Below.trans hb1 hb2) | fail); clear hZ2; have YV6 := hid (YV4.out.below KK.out (by omega)); have q5 := (YV6.out 5 _ rfl).1; have n5 := (YV6.out 5 _ rfl).2) | fail)) | skip
      all_goals
        clear c0 c1 c2 c3 c4 c5 c6 c7 c8 c9 c10 q5 n5
        have kv6 : Below w.heap.size w v6 := kv4.trans (KK.out.mono (by omega))
        have XV6 := hid (XV4.out.below KK.out (by omega))
        have kq4 : Below w.heap.size w (v6.setCell ⟨w3.heap.size, 5, none⟩ (.slice A2 Z2.length e2)) := kv6.setCell (p := ⟨w3.heap.size, 5, none⟩) (Nat.le_of_lt l3) _
        have XQ4 := hid (BoxL.other XV6.out (p := ⟨w3.heap.size, 5, none⟩) (by simp; omega) (.slice A2 Z2.length e2))
        have YQ4 : Hid (BoxL (v6.setCell ⟨w3.heap.size, 5, none⟩ (.slice A2 Z2.length e2)) w3.heap.size (cellsG { f with S := { f.S with L := Z2 } } { p with AL := A2, cL := e2 })) := hid (BoxL.one YV6.out (k := 5) rfl (.slice A2 Z2.length e2))
        have RQ4 := hid (own_rd (own_setB ho2 (p := ⟨w3.heap.size, 5, none⟩) (by simp) (.slice A2 Z2.length e2)))
        obtain ⟨⟨d0, d1, d2, d3, d4, d5, d6, d7, d8, d9, d10⟩, m0, m1, m2, m3, m4, m5, m6, m7, m8, m9, m10⟩ := box_G YV6.out
        clear XV6 YV6 XV4 YV4 kv4 kv6 ho2 hb2 hg2 KK hz6 hzw g4 g5 g5a hs1 hl1 HZ1
        go_wp2_with fail
        refine (K4.out _ _ _ _ HZ2.out RQ4.out kq4).mono ?_
        rintro _ u4 ⟨rfl, hb4⟩
        have ku4 := kq4.trans (hb4.mono kq4.size)
        have XU4 := hid (BoxL.below XQ4.out hb4 (BoxL.lt XQ4.out (by simp [cellsG])))
        have YU4 := hid (BoxL.below YQ4.out hb4 (BoxL.lt YQ4.out (by simp [cellsG])))
        clear hb4 kq4 XQ4 YQ4 K4 RQ4 HZ2 d0 d1 d2 d3 d4 d5 d6 d7 d8 d9 d10 m0 m1 m2 m3 m4 m5 m6 m7 m8 m9 m10
      all_goals
        obtain ⟨⟨c0, c1, c2, c3, c4, c5, c6, c7, c8, c9, c10⟩, _⟩ := box_G XU4.out
        have hT7 := hid (box_there (o := 0) (n := 11) YU4.out (by simp [cellsG]))
        go_wp2_with (refine wpList_st rfl 29 _ _ rfl w3.heap.size 0 #[.int .i64 f.knd, .int .i64 f.frm, .int .i64 f.stp, .int .i64 f.S.sch, .int .i64 f.S.dim, .slice p.AL f.S.L.length p.cL, .slice p.AV f.S.V.length p.cV, .int .i64 f.S.scale, .int .i64 f.S.wide, .slice p.AE f.S.lev.length p.cE, .slice p.AN f.S.neg.length p.cN] rfl rfl hT7.out info_frame (by simp [Value.oneCell']) ?_)
        intro v7 hv7
        have HG7 : Hid (BoxL v7 w3.heap.size (cellsG f p) ∧ BoxL v7 w.heap.size (cellsG f p) ∧ Below w.heap.size w v7) := hid (by
          rw [hv7.out]
          have ob := lay11_off u4 w3.heap.size f p
          exact ⟨lay11_box YU4.out f p, ob.box XU4.out (by simp [cellsG]) (by omega) (by omega), ku4.trans (ob.below (Nat.le_of_lt l3) (Nat.le_of_lt l3) ku4.size)⟩)
        have kv7 := HG7.out.2.2
        have XV7 := hid HG7.out.2.1
        have YV7 := hid HG7.out.1
        clear hv7 HG7 hT7 c0 c1 c2 c3 c4 c5 c6 c7 c8 c9 c10 XU4 YU4 ku4
        obtain ⟨⟨c0, c1, c2, c3, c4, c5, c6, c7, c8, c9, c10⟩, _⟩ := box_G XV7.out
        obtain ⟨⟨d0, d1, d2, d3, d4, d5, d6, d7, d8, d9, d10⟩, m0, m1, m2, m3, m4, m5, m6, m7, m8, m9, m10⟩ := box_G YV7.out
        have kq5 : Below w.heap.size w (v7.setCell ⟨w3.heap.size, 7, none⟩ (.int .i64 (-1))) := kv7.setCell (p := ⟨w3.heap.size, 7, none⟩) (Nat.le_of_lt l3) _
        have XQ5 := hid (BoxL.other XV7.out (p := ⟨w3.heap.size, 7, none⟩) (by simp; omega) (.int .i64 (-1)))
        have YQ5 : Hid (BoxL (v7.setCell ⟨w3.heap.size, 7, none⟩ (.int .i64 (-1))) w3.heap.size (cellsG { f with S := { f.S with scale := -1 } } p)) := hid (BoxL.one YV7.out (k := 7) rfl (.int .i64 (-1)))
        go_wp2_with fail
        clear c0 c1 c2 c3 c4 c5 c6 c7 c8 c9 c10 d0 d1 d2 d3 d4 d5 d6 d7 d8 d9 d10 m0 m1 m2 m3 m4 m5 m6 m7 m8 m9 m10 XV7 YV7 kv7
        obtain ⟨v8, hv8⟩ : ∃ W, v7.setCell ⟨w3.heap.size, 7, none⟩ (.int .i64 (-1)) = W := ⟨_, rfl⟩
        rw [hv8] at kq5 XQ5 YQ5 ⊢
        clear hv8
        obtain ⟨⟨c0, c1, c2, c3, c4, c5, c6, c7, c8, c9, c10⟩, _⟩ := box_G XQ5.out
        obtain ⟨d0, d1, d2, d3, d4, d5, d6, d7, d8, d9, d10⟩ : v8.cell? ⟨w3.heap.size, 0, none⟩ = some (.int .i64 f.knd) ∧ v8.cell? ⟨w3.heap.size, 1, none⟩ = some (.int .i64 f.frm) ∧ v8.cell? ⟨w3.heap.size, 2, none⟩ = some (.int .i64 f.stp) ∧ v8.cell? ⟨w3.heap.size, 3, none⟩ = some (.int .i64 f.S.sch) ∧ v8.cell? ⟨w3.heap.size, 4, none⟩ = some (.int .i64 f.S.dim) ∧ v8.cell? ⟨w3.heap.size, 5, none⟩ = some (.slice p.AL f.S.L.length p.cL) ∧ v8.cell? ⟨w3.heap.size, 6, none⟩ = some (.slice p.AV f.S.V.length p.cV) ∧ v8.cell? ⟨w3.heap.size, 7, none⟩ = some (.int .i64 (-1)) ∧ v8.cell? ⟨w3.heap.size, 8, none⟩ = some (.int .i64 f.S.wide) ∧ v8.cell? ⟨w3.heap.size, 9, none⟩ = some (.slice p.AE f.S.lev.length p.cE) ∧ v8.cell? ⟨w3.heap.size, 10, none⟩ = some (.slice p.AN f.S.neg.length p.cN) := ⟨(YQ5.out 0 _ rfl).1, (YQ5.out 1 _ rfl).1, (YQ5.out 2 _ rfl).1, (YQ5.out 3 _ rfl).1, (YQ5.out 4 _ rfl).1, (YQ5.out 5 _ rfl).1, (YQ5.out 6 _ rfl).1, (YQ5.out 7 _ rfl).1, (YQ5.out 8 _ rfl).1, (YQ5.out 9 _ rfl).1, (YQ5.out 10 _ rfl).1⟩
        clear XQ5 YQ5
        first | (go_region_held3 (fun w' => w'.cell? ⟨w.heap.size, 0, none⟩ = some (.int .i64 f.knd) ∧ w'.cell? ⟨w.heap.size, 1, none⟩ = some (.int .i64 f.frm) ∧ w'.cell? ⟨w.heap.size, 2, none⟩ = some (.int .i64 f.stp) ∧ w'.cell? ⟨w.heap.size, 3, none⟩ = some (.int .i64 f.S.sch) ∧ w'.cell? ⟨w.heap.size, 4, none⟩ = some (.int .i64 f.S.dim) ∧ w'.cell? ⟨w.heap.size, 5, none⟩ = some (.slice p.AL f.S.L.length p.cL) ∧ w'.cell? ⟨w.heap.size, 6, none⟩ = some (.slice p.AV f.S.V.length p.cV) ∧ w'.cell? ⟨w.heap.size, 7, none⟩ = some (.int .i64 f.S.scale) ∧ w'.cell? ⟨w.heap.size, 8, none⟩ = some (.int .i64 f.S.wide) ∧ w'.cell? ⟨w.heap.size, 9, none⟩ = some (.slice p.AE f.S.lev.length p.cE) ∧ w'.cell? ⟨w.heap.size, 10, none⟩ = some (.slice p.AN f.S.neg.length p.cN) ∧ w'.cell? ⟨w3.heap.size, 0, none⟩ = some (.int .i64 f.knd) ∧ w'.cell? ⟨w3.heap.size, 1, none⟩ = some (.int .i64 f.frm) ∧ w'.cell? ⟨w3.heap.size, 2, none⟩ = some (.int .i64 f.stp) ∧ w'.cell? ⟨w3.heap.size, 3, none⟩ = some (.int .i64 f.S.sch) ∧ w'.cell? ⟨w3.heap.size, 4, none⟩ = some (.int .i64 f.S.dim) ∧ w'.cell? ⟨w3.heap.size, 5, none⟩ = some (.slice p.AL f.S.L.length p.cL) ∧ w'.cell? ⟨w3.heap.size, 6, none⟩ = some (.slice p.AV f.S.V.length p.cV) ∧ w'.cell? ⟨w3.heap.size, 7, none⟩ = some (.int .i64 (-1)) ∧ w'.cell? ⟨w3.heap.size, 8, none⟩ = some (.int .i64 f.S.wide) ∧ w'.cell? ⟨w3.heap.size, 9, none⟩ = some (.slice p.AE f.S.lev.length p.cE) ∧ w'.cell? ⟨w3.heap.size, 10, none⟩ = some (.slice p.AN f.S.neg.length p.cN) ∧ Below w.heap.size w w') (first | exact held22 (by assumption) hb | exact held22 (by assumption) (belowN _ _ _) | exact heldD (by assumption) | exact held22 (by assumption) ((Below.refl _ _).drew) | exact ⟨c0, c1, c2, c3, c4, c5, c6, c7, c8, c9, c10, d0, d1, d2, d3, d4, d5, d6, d7, d8, d9, d10, kq5⟩ | exact ⟨c0, c1, c2, c3, c4, c5, c6, c7, c8, c9, c10, d0, d1, d2, d3, d4, d5, d6, d7, d8, d9, d10, kq5.drew⟩ | fail) (first | (go_at_call 20; (with_reducible refine (K5.out _ (heldB22 (by assumption))).mono ?_); rintro _ w9 ⟨rfl, hb⟩) | (go_at_call 18; (with_reducible refine (CM.out _ (heldB22 (by assumption))).mono ?_); rintro _ w9 ⟨rfl, hb⟩) | fail)) | skip
        all_goals (go_wp2_with fail; go_ret; refine ⟨?_, heldB22 (by assumption)⟩; first | rfl | (simp; done) | (by_cases h : f.knd = 1 <;> simp [h]))
    · have ce : chkF f = 1 := chkF_no (fun h => hc (chkF_ok.2 h))
      rw [ce] at CK
      clear hc ce rf wf cp hbig hb0 hln hl5
      go_enter Try.func7, Try.ntmps7
      go_wp2_with fail
      refine (CL.out _).mono ?_
      rintro _ w1 ⟨rfl, hb1⟩
      have k1 : Below w.heap.size w w1 := Below.trans (by go_grown) (hb1.mono (by simp))
      have X1 := hid (HBX.out.below hb1 (by simp))
      clear hb1 CL HBX
      obtain ⟨⟨c0, c1, c2, c3, c4, c5, c6, c7, c8, c9, c10⟩, _⟩ := box_G X1.out
      go_wp2_with fail
      refine (CB.out _).mono ?_
      rintro _ w2 ⟨rfl, hb2⟩
      have k2 := k1.trans (hb2.mono k1.size)
      have X2 := hid (X1.out.below hb2 (X1.out.lt (by simp [cellsG])))
      clear hb2 c0 c1 c2 c3 c4 c5 c6 c7 c8 c9 c10 X1 k1 CB
      obtain ⟨⟨c0, c1, c2, c3, c4, c5, c6, c7, c8, c9, c10⟩, _⟩ := box_G X2.out
      go_wp2_with fail
      refine (CK.out _ k2).mono ?_
      rintro _ w3 ⟨rfl, hb3⟩
      go_wp2_with fail
      go_ret
      exact ⟨rfl, k2.trans (hb3.mono k2.size)⟩
theorem law_types : ∀ t ∈ Try.f7.params.toList, Try.prog.readableRec t = true ∧ t < Try.prog.types.size := by
  have h : (Try.f7.params.toList.all fun t => Try.prog.readableRec t && decide (t < Try.prog.types.size)) = true := by kernel_rfl
  intro t ht
  simpa using List.all_eq_true.1 h t ht
set_option maxRecDepth 100000 in
theorem lifted (os : Os) (started : os.Started) (H : Type) (enc : TypeId × Value → H) :
    ReturnsInHanded {} Try.checked os 7 .any (Rows.frameBendsSpec.pre6 enc Try.prog Try.f7 Rows.frameBendsRow.domain false) (Rows.frameBendsSpec.post enc Try.prog Try.f7 false true false false) := by
  refine returnsInHanded_of_change (C := Try.checked) own started (by kernel_rfl) Try.func7
    (ChangeSpec.witness6 (enc := enc) (C := Try.checked) false ⟨#[], #[.agg #[.int .i64 0, .int .i64 0, .int .i64 0, .int .i64 0, .int .i64 0, .slice none 0 0, .slice none 0 0, .int .i64 0, .int .i64 0, .slice none 0 0, .slice none 0 0]], []⟩ 8 (by kernel_rfl) (by kernel_rfl) (by kernel_rfl) (by kernel_rfl)) ?_
  intro W base args ds gs before hval0 hW hcnd _
  have hval : ∀ (j : Nat) t v, Try.f7.params[j]? = some t → args[j]? = some v → Value.okWide Try.prog W .any base t v := hval0
  have hW' := hW
  obtain ⟨p, q, hA0, hV, rfl, hfz, hnd⟩ := hW
  have hA : DataW.TrodAll enc Try.prog W 0 (fun _ => true) true Try.f7.params.toList args.toList ds p := hA0
  rw [Try.params7] at hA hval
  obtain ⟨v0, vs0, d0, ds0, p0, q0, hargs, rfl, rfl, h0, r0⟩ := trodAll_cons hA
  obtain ⟨rfl, rfl, rfl⟩ := trodAll_nil r0
  obtain rfl : args = #[v0] := by cases args; simp_all
  obtain ⟨rfl, rfl⟩ := trodVars_none hV
  obtain ⟨f, pf, rfl, rdf, wff, cpf⟩ := open_frame (hval 0 29 v0 rfl rfl) h0
  clear hA0 hval0
  refine (walk frOk f pf W rdf wff cpf).mono fun e W' ⟨he, hb⟩ => ?_
  subst he
  exact ⟨_, rfl, law_post laid (fun t ht => law_types t ht) rfl hW' ⟨rfl, rfl, rfl⟩ (by kernel_rfl) Try.underlying4 hb⟩

theorem over : Rows.frameBendsRow.holds Try.pinned (OpenSpec.ofChange Rows.frameBendsSpec) :=
  OpenClaim.holds_of_wide 7 Try.f7 rfl rfl rfl rfl rfl rfl rfl ⟨rfl, rfl, rfl, rfl, rfl⟩ rfl rfl rfl rfl rfl (by kernel_rfl) Try.func7 (by kernel_rfl)
    (of_decide_eq_true (by kernel_rfl)) (by unfold Func.isWrapper; first | (rw [if_pos (by decide +kernel)]; kernel_rfl) | (rw [if_neg (by decide +kernel)]; exact ⟨rfl, rfl⟩))
    (fun os started H enc _ => lifted os started H enc)

theorem proved : Rows.FrameBendsSaid := over
end Go.Proofs.Ytooipmcpbkbemaa.FrameBends
