
/- ZPpF0: texts joined: PpF0. -/
import Derived.Test.YtecgbelgoomneaaGreatZb
import Derived.Test.YtecgbelgoomneaaGreatZPsA
import Derived.Deep.RegionHeld3
/- Whether a vector is pressed so, by the program: what a region keeps. All, the greatest. -/
namespace Go.Proofs.YtecgbelgoomneaaGreat
open Go.RowKit
set_option maxHeartbeats 4000000
set_option maxRecDepth 100000
set_option linter.unusedVariables false
theorem heldM {w W w1 : World} {g : Nat} {a b c d e f i j k l m : Value} (h : W.cell? ⟨g, 0, none⟩ = some (a) ∧ W.cell? ⟨g, 1, none⟩ = some (b) ∧ W.cell? ⟨g, 2, none⟩ = some (c) ∧ W.cell? ⟨(g + 1), 0, none⟩ = some (d) ∧ W.cell? ⟨(g + 1), 1, none⟩ = some (e) ∧ W.cell? ⟨(g + 1), 2, none⟩ = some (f) ∧ W.cell? ⟨(g + 1), 3, none⟩ = some (i) ∧ W.cell? ⟨(g + 1), 4, none⟩ = some (j) ∧ W.cell? ⟨(g + 1), 5, none⟩ = some (k) ∧ W.cell? ⟨(g + 1), 6, none⟩ = some (l) ∧ W.cell? ⟨(g + 1), 7, none⟩ = some (m) ∧ g + 2 ≤ W.heap.size ∧ Below g w W) (hb : Below (g + 2) W w1) : w1.cell? ⟨g, 0, none⟩ = some (a) ∧ w1.cell? ⟨g, 1, none⟩ = some (b) ∧ w1.cell? ⟨g, 2, none⟩ = some (c) ∧ w1.cell? ⟨(g + 1), 0, none⟩ = some (d) ∧ w1.cell? ⟨(g + 1), 1, none⟩ = some (e) ∧ w1.cell? ⟨(g + 1), 2, none⟩ = some (f) ∧ w1.cell? ⟨(g + 1), 3, none⟩ = some (i) ∧ w1.cell? ⟨(g + 1), 4, none⟩ = some (j) ∧ w1.cell? ⟨(g + 1), 5, none⟩ = some (k) ∧ w1.cell? ⟨(g + 1), 6, none⟩ = some (l) ∧ w1.cell? ⟨(g + 1), 7, none⟩ = some (m) ∧ g + 2 ≤ w1.heap.size ∧ Below g w w1 := by
  obtain ⟨h0, h1, h2, h3, h4, h5, h6, h7, h8, h9, h10, hz, hB⟩ := h
  exact ⟨(hb.cell (p := ⟨g, 0, none⟩) (by simp)).trans h0, (hb.cell (p := ⟨g, 1, none⟩) (by simp)).trans h1, (hb.cell (p := ⟨g, 2, none⟩) (by simp)).trans h2, (hb.cell (p := ⟨g + 1, 0, none⟩) (by simp)).trans h3, (hb.cell (p := ⟨g + 1, 1, none⟩) (by simp)).trans h4, (hb.cell (p := ⟨g + 1, 2, none⟩) (by simp)).trans h5, (hb.cell (p := ⟨g + 1, 3, none⟩) (by simp)).trans h6, (hb.cell (p := ⟨g + 1, 4, none⟩) (by simp)).trans h7, (hb.cell (p := ⟨g + 1, 5, none⟩) (by simp)).trans h8, (hb.cell (p := ⟨g + 1, 6, none⟩) (by simp)).trans h9, (hb.cell (p := ⟨g + 1, 7, none⟩) (by simp)).trans h10, Nat.le_trans hz hb.size, hB.trans (hb.mono (by omega))⟩
theorem heldMZ {w W : World} {g : Nat} {a b c d e f i j k l m : Value} (h : W.cell? ⟨g, 0, none⟩ = some (a) ∧ W.cell? ⟨g, 1, none⟩ = some (b) ∧ W.cell? ⟨g, 2, none⟩ = some (c) ∧ W.cell? ⟨(g + 1), 0, none⟩ = some (d) ∧ W.cell? ⟨(g + 1), 1, none⟩ = some (e) ∧ W.cell? ⟨(g + 1), 2, none⟩ = some (f) ∧ W.cell? ⟨(g + 1), 3, none⟩ = some (i) ∧ W.cell? ⟨(g + 1), 4, none⟩ = some (j) ∧ W.cell? ⟨(g + 1), 5, none⟩ = some (k) ∧ W.cell? ⟨(g + 1), 6, none⟩ = some (l) ∧ W.cell? ⟨(g + 1), 7, none⟩ = some (m) ∧ g + 2 ≤ W.heap.size ∧ Below g w W) : g + 2 ≤ W.heap.size := h.2.2.2.2.2.2.2.2.2.2.2.1
theorem heldMB {w W : World} {g : Nat} {a b c d e f i j k l m : Value} (h : W.cell? ⟨g, 0, none⟩ = some (a) ∧ W.cell? ⟨g, 1, none⟩ = some (b) ∧ W.cell? ⟨g, 2, none⟩ = some (c) ∧ W.cell? ⟨(g + 1), 0, none⟩ = some (d) ∧ W.cell? ⟨(g + 1), 1, none⟩ = some (e) ∧ W.cell? ⟨(g + 1), 2, none⟩ = some (f) ∧ W.cell? ⟨(g + 1), 3, none⟩ = some (i) ∧ W.cell? ⟨(g + 1), 4, none⟩ = some (j) ∧ W.cell? ⟨(g + 1), 5, none⟩ = some (k) ∧ W.cell? ⟨(g + 1), 6, none⟩ = some (l) ∧ W.cell? ⟨(g + 1), 7, none⟩ = some (m) ∧ g + 2 ≤ W.heap.size ∧ Below g w W) : Below g w W := h.2.2.2.2.2.2.2.2.2.2.2.2
theorem pm_0 {A : Option Addr} {c nv : Nat} (k wide : Int) (s : SentV) (AL AV AE AN : Option Addr) (cL cV cE cN : Nat) (w : World) (hnv : nv ≤ 9223372036854775807) (R : Bool) (CC0 : ∀ W, Calls Tryz.prog 17 #[.agg #[.int .i64 0, .int .i64 k, .int .i64 wide], .int .i64 (nv : Int)] W fun e w' => e = .returned (.int .i64 0) ∧ Below W.heap.size W w') (CM0 : ∀ W, Below w.heap.size w W → Calls Tryz.prog 42 #[(.agg #[.int .i64 s.sch, .int .i64 s.dim, .slice AL s.L.length cL, .slice AV s.V.length cV, .int .i64 s.scale, .int .i64 s.wide, .slice AE s.lev.length cE, .slice AN s.neg.length cN])] W fun e w' => e = .returned (.bool true) ∧ Below W.heap.size W w') (CI0 : ∀ W, Below w.heap.size w W → Calls Tryz.prog 70 #[.agg #[.int .i64 0, .int .i64 k, .int .i64 wide], .slice A nv c, (.agg #[.int .i64 s.sch, .int .i64 s.dim, .slice AL s.L.length cL, .slice AV s.V.length cV, .int .i64 s.scale, .int .i64 s.wide, .slice AE s.lev.length cE, .slice AN s.neg.length cN])] W fun e w' => e = .returned (.bool R) ∧ Below W.heap.size W w') (th : (s.sch == 0) = true) :
    Calls Tryz.prog 26 #[.agg #[.int .i64 0, .int .i64 k, .int .i64 wide], .slice A nv c, (.agg #[.int .i64 s.sch, .int .i64 s.dim, .slice AL s.L.length cL, .slice AV s.V.length cV, .int .i64 s.scale, .int .i64 s.wide, .slice AE s.lev.length cE, .slice AN s.neg.length cN])] w fun e w' => e = .returned (.bool R) ∧ Below w.heap.size w w' := by
  have CC := hid CC0
  have CM := hid CM0
  have CI := hid CI0
  have CW := hid (fun W => wy_ways W)
  have hfd : ∀ V : World, (Instr.field 68 wyF0 3).run Tryz.prog V = .ok (.func (.func 70) #[] #[]) V := fun _ => by kernel_rfl
  clear CC0 CM0 CI0
  have BH := (BoxL.new w [.int .i64 0, .int .i64 k, .int .i64 wide] 23).below (sg_up _ (.cells #[.int .i64 s.sch, .int .i64 s.dim, .slice AL s.L.length cL, .slice AV s.V.length cV, .int .i64 s.scale, .int .i64 s.wide, .slice AE s.lev.length cE, .slice AN s.neg.length cN] 32)) (by simp)
  have BS := box2 w (.cells #[.int .i64 0, .int .i64 k, .int .i64 wide] 23) [.int .i64 s.sch, .int .i64 s.dim, .slice AL s.L.length cL, .slice AV s.V.length cV, .int .i64 s.scale, .int .i64 s.wide, .slice AE s.lev.length cE, .slice AN s.neg.length cN] 32
  have k0 : Below w.heap.size w ((w.alloc (.cells #[.int .i64 0, .int .i64 k, .int .i64 wide] 23)).alloc (.cells #[.int .i64 s.sch, .int .i64 s.dim, .slice AL s.L.length cL, .slice AV s.V.length cV, .int .i64 s.scale, .int .i64 s.wide, .slice AE s.lev.length cE, .slice AN s.neg.length cN] 32)) := by go_grown
  obtain ⟨⟨f0, f1, f2, f3, f4, f5, f6, f7⟩, _⟩ := BS.eight
  have y0 := (BH 0 _ rfl).1
  have y1 := (BH 1 _ rfl).1
  have y2 := (BH 2 _ rfl).1
  simp only [List.toArray] at y0 y1 y2 f0 f1 f2 f3 f4 f5 f6 f7
  have hz0 : w.heap.size + 2 ≤ ((w.alloc (.cells #[.int .i64 0, .int .i64 k, .int .i64 wide] 23)).alloc (.cells #[.int .i64 s.sch, .int .i64 s.dim, .slice AL s.L.length cL, .slice AV s.V.length cV, .int .i64 s.scale, .int .i64 s.wide, .slice AE s.lev.length cE, .slice AN s.neg.length cN] 32)).heap.size := by simp
  clear BH BS
  go_enter Tryz.func26, Tryz.ntmps26
  go_wp2_with fail
  first | (go_region_held3 (fun W => W.cell? ⟨w.heap.size, 0, none⟩ = some (.int .i64 0) ∧ W.cell? ⟨w.heap.size, 1, none⟩ = some (.int .i64 k) ∧ W.cell? ⟨w.heap.size, 2, none⟩ = some (.int .i64 wide) ∧ W.cell? ⟨w.heap.size + 1, 0, none⟩ = some (.int .i64 s.sch) ∧ W.cell? ⟨w.heap.size + 1, 1, none⟩ = some (.int .i64 s.dim) ∧ W.cell? ⟨w.heap.size + 1, 2, none⟩ = some (.slice AL s.L.length cL) ∧ W.cell? ⟨w.heap.size + 1, 3, none⟩ = some (.slice AV s.V.length cV) ∧ W.cell? ⟨w.heap.size + 1, 4, none⟩ = some (.int .i64 s.scale) ∧ W.cell? ⟨w.heap.size + 1, 5, none⟩ = some (.int .i64 s.wide) ∧ W.cell? ⟨w.heap.size + 1, 6, none⟩ = some (.slice AE s.lev.length cE) ∧ W.cell? ⟨w.heap.size + 1, 7, none⟩ = some (.slice AN s.neg.length cN) ∧ w.heap.size + 2 ≤ W.heap.size ∧ Below w.heap.size w W) (first | exact heldM (by assumption) (hb4.mono (heldMZ (by assumption))) | exact heldM (by assumption) (hb3.mono (heldMZ (by assumption))) | exact heldM (by assumption) (hb2.mono (heldMZ (by assumption))) | exact heldM (by assumption) (hb1.mono (heldMZ (by assumption))) | exact heldM (by assumption) ((growd _ _).mono (heldMZ (by assumption))) | assumption | exact ⟨y0, y1, y2, f0, f1, f2, f3, f4, f5, f6, f7, hz0, k0⟩ | exact ⟨y0, y1, y2, f0, f1, f2, f3, f4, f5, f6, f7, hz0, k0.drew⟩) (first | (go_at_call 17; refine (CC.out _).mono ?_; rintro _ w1 ⟨rfl, hb1⟩) | (go_at_call 42; refine (CM.out _ (heldMB (by assumption))).mono ?_; rintro _ w2 ⟨rfl, hb2⟩) | (go_at_call 34; refine (CW.out _).mono ?_; rintro _ w3 ⟨rfl, hb3, hlt3, hf3⟩; have l3 := (hf3 w3 rfl).l0) | (go_at_call 70; refine (CI.out _ (heldMB (by assumption))).mono ?_; rintro _ w4 ⟨rfl, hb4⟩) | fail)) | fail
  all_goals
    have kk := heldMB (by assumption)
    go_wp2_with fail
    go_ret
    exact ⟨rfl, kk⟩
theorem pm_1 {A : Option Addr} {c nv : Nat} (k wide : Int) (s : SentV) (AL AV AE AN : Option Addr) (cL cV cE cN : Nat) (w : World) (hnv : nv ≤ 9223372036854775807) (R : Bool) (CC0 : ∀ W, Calls Tryz.prog 17 #[.agg #[.int .i64 1, .int .i64 k, .int .i64 wide], .int .i64 (nv : Int)] W fun e w' => e = .returned (.int .i64 0) ∧ Below W.heap.size W w') (CM0 : ∀ W, Below w.heap.size w W → Calls Tryz.prog 42 #[(.agg #[.int .i64 s.sch, .int .i64 s.dim, .slice AL s.L.length cL, .slice AV s.V.length cV, .int .i64 s.scale, .int .i64 s.wide, .slice AE s.lev.length cE, .slice AN s.neg.length cN])] W fun e w' => e = .returned (.bool true) ∧ Below W.heap.size W w') (CI0 : ∀ W, Below w.heap.size w W → Calls Tryz.prog 74 #[.agg #[.int .i64 1, .int .i64 k, .int .i64 wide], .slice A nv c, (.agg #[.int .i64 s.sch, .int .i64 s.dim, .slice AL s.L.length cL, .slice AV s.V.length cV, .int .i64 s.scale, .int .i64 s.wide, .slice AE s.lev.length cE, .slice AN s.neg.length cN])] W fun e w' => e = .returned (.bool R) ∧ Below W.heap.size W w') (th : (s.sch == 1) = true) :
    Calls Tryz.prog 26 #[.agg #[.int .i64 1, .int .i64 k, .int .i64 wide], .slice A nv c, (.agg #[.int .i64 s.sch, .int .i64 s.dim, .slice AL s.L.length cL, .slice AV s.V.length cV, .int .i64 s.scale, .int .i64 s.wide, .slice AE s.lev.length cE, .slice AN s.neg.length cN])] w fun e w' => e = .returned (.bool R) ∧ Below w.heap.size w w' := by
  have CC := hid CC0
  have CM := hid CM0
  have CI := hid CI0
  have CW := hid (fun W => wy_ways W)
  have hfd : ∀ V : World, (Instr.field 68 wyF1 3).run Tryz.prog V = .ok (.func (.func 74) #[] #[]) V := fun _ => by kernel_rfl
  clear CC0 CM0 CI0
  have BH := (BoxL.new w [.int .i64 1, .int .i64 k, .int .i64 wide] 23).below (sg_up _ (.cells #[.int .i64 s.sch, .int .i64 s.dim, .slice AL s.L.length cL, .slice AV s.V.length cV, .int .i64 s.scale, .int .i64 s.wide, .slice AE s.lev.length cE, .slice AN s.neg.length cN] 32)) (by simp)
  have BS := box2 w (.cells #[.int .i64 1, .int .i64 k, .int .i64 wide] 23) [.int .i64 s.sch, .int .i64 s.dim, .slice AL s.L.length cL, .slice AV s.V.length cV, .int .i64 s.scale, .int .i64 s.wide, .slice AE s.lev.length cE, .slice AN s.neg.length cN] 32
  have k0 : Below w.heap.size w ((w.alloc (.cells #[.int .i64 1, .int .i64 k, .int .i64 wide] 23)).alloc (.cells #[.int .i64 s.sch, .int .i64 s.dim, .slice AL s.L.length cL, .slice AV s.V.length cV, .int .i64 s.scale, .int .i64 s.wide, .slice AE s.lev.length cE, .slice AN s.neg.length cN] 32)) := by go_grown
  obtain ⟨⟨f0, f1, f2, f3, f4, f5, f6, f7⟩, _⟩ := BS.eight
  have y0 := (BH 0 _ rfl).1
  have y1 := (BH 1 _ rfl).1
  have y2 := (BH 2 _ rfl).1
  simp only [List.toArray] at y0 y1 y2 f0 f1 f2 f3 f4 f5 f6 f7
  have hz0 : w.heap.size + 2 ≤ ((w.alloc (.cells #[.int .i64 1, .int .i64 k, .int .i64 wide] 23)).alloc (.cells #[.int .i64 s.sch, .int .i64 s.dim, .slice AL s.L.length cL, .slice AV s.V.length cV, .int .i64 s.scale, .int .i64 s.wide, .slice AE s.lev.length cE, .slice AN s.neg.length cN] 32)).heap.size := by simp
  clear BH BS
  go_enter Tryz.func26, Tryz.ntmps26
  go_wp2_with fail
  first | (go_region_held3 (fun W => W.cell? ⟨w.heap.size, 0, none⟩ = some (.int .i64 1) ∧ W.cell? ⟨w.heap.size, 1, none⟩ = some (.int .i64 k) ∧ W.cell? ⟨w.heap.size, 2, none⟩ = some (.int .i64 wide) ∧ W.cell? ⟨w.heap.size + 1, 0, none⟩ = some (.int .i64 s.sch) ∧ W.cell? ⟨w.heap.size + 1, 1, none⟩ = some (.int .i64 s.dim) ∧ W.cell? ⟨w.heap.size + 1, 2, none⟩ = some (.slice AL s.L.length cL) ∧ W.cell? ⟨w.heap.size + 1, 3, none⟩ = some (.slice AV s.V.length cV) ∧ W.cell? ⟨w.heap.size + 1, 4, none⟩ = some (.int .i64 s.scale) ∧ W.cell? ⟨w.heap.size + 1, 5, none⟩ = some (.int .i64 s.wide) ∧ W.cell? ⟨w.heap.size + 1, 6, none⟩ = some (.slice AE s.lev.length cE) ∧ W.cell? ⟨w.heap.size + 1, 7, none⟩ = some (.slice AN s.neg.length cN) ∧ w.heap.size + 2 ≤ W.heap.size ∧ Below w.heap.size w W) (first | exact heldM (by assumption) (hb4.mono (heldMZ (by assumption))) | exact heldM (by assumption) (hb3.mono (heldMZ (by assumption))) | exact heldM (by assumption) (hb2.mono (heldMZ (by assumption))) | exact heldM (by assumption) (hb1.mono (heldMZ (by assumption))) | exact heldM (by assumption) ((growd _ _).mono (heldMZ (by assumption))) | assumption | exact ⟨y0, y1, y2, f0, f1, f2, f3, f4, f5, f6, f7, hz0, k0⟩ | exact ⟨y0, y1, y2, f0, f1, f2, f3, f4, f5, f6, f7, hz0, k0.drew⟩) (first | (go_at_call 17; refine (CC.out _).mono ?_; rintro _ w1 ⟨rfl, hb1⟩) | (go_at_call 42; refine (CM.out _ (heldMB (by assumption))).mono ?_; rintro _ w2 ⟨rfl, hb2⟩) | (go_at_call 34; refine (CW.out _).mono ?_; rintro _ w3 ⟨rfl, hb3, hlt3, hf3⟩; have l3 := (hf3 w3 rfl).l1) | (go_at_call 74; refine (CI.out _ (heldMB (by assumption))).mono ?_; rintro _ w4 ⟨rfl, hb4⟩) | fail)) | fail
  all_goals
    have kk := heldMB (by assumption)
    go_wp2_with fail
    go_ret
    exact ⟨rfl, kk⟩
end Go.Proofs.YtecgbelgoomneaaGreat
