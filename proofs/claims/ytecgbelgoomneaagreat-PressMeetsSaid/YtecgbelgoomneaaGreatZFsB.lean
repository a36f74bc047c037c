
/- ZFsB: texts joined: FsB. -/
import Derived.Test.YtecgbelgoomneaaGreatZb
import Derived.Test.YtecgbelgoomneaaGreatZFrB
import Derived.Test.YtecgbelgoomneaaGreatZPlR
/- Whether a vector may be, by the program: an outline, what is left, signs, levels, what its scheme names. -/
namespace Go.Proofs.YtecgbelgoomneaaGreat
open Go.RowKit
set_option maxHeartbeats 400000
set_option maxRecDepth 100000
set_option linter.unusedVariables false
attribute [local go_sem] equal_eight
def outL (s : SentV) : List Int := [s.sch, s.dim, s.scale, s.wide, s.L.length, s.V.length, s.lev.length, s.neg.length]
def empB (s : SentV) : Bool := eqB (outL s) [0, 0, 0, 0, 0, 0, 0, 0]
theorem empB_iff {s : SentV} : empB s = true ↔ s.sch = 0 ∧ s.dim = 0 ∧ s.scale = 0 ∧ s.wide = 0 ∧ s.L = [] ∧ s.V = [] ∧ s.lev = [] ∧ s.neg = [] := by
  unfold empB eqB outL
  simp [List.length_eq_zero_iff]
theorem fs_outline (s : SentV) (p : SentP) (w : World) :
    Calls Tryz.prog 139 #[encT s p] w fun e w' => e = .returned (.agg #[.int .i64 s.sch, .int .i64 s.dim, .int .i64 s.scale, .int .i64 s.wide, .int .i64 s.L.length, .int .i64 s.V.length, .int .i64 s.lev.length, .int .i64 s.neg.length]) ∧ Below w.heap.size w w' := by
  go_enter Tryz.func139, Tryz.ntmps139
  go_wp2_with fail
  refine bodyPost_ret (v := .agg #[.int .i64 s.sch, .int .i64 s.dim, .int .i64 s.scale, .int .i64 s.wide, .int .i64 s.L.length, .int .i64 s.V.length, .int .i64 s.lev.length, .int .i64 s.neg.length]) (by simp [results, Tryz.results139, go_sem]) rfl ⟨rfl, by go_grown⟩
theorem fs_empty (s : SentV) (p : SentP) (w : World) :
    Calls Tryz.prog 91 #[encT s p] w fun e w' => e = .returned (.bool (empB s)) ∧ Below w.heap.size w w' := by
  have C1 := hid (fun W => fs_outline s p W)
  have C2 := hid (fun W => fs_outline zeroS zeroP W)
  have HE : Hid (∀ X, eqB (outL s) X = X.isEqv (outL s) (fun a b => a == b) ∨ True) := hid (fun _ => Or.inr trivial)
  obtain ⟨R, hR⟩ : ∃ R, empB s = R := ⟨_, rfl⟩
  have HR := hid hR
  rw [hR]
  clear hR HE
  go_enter Tryz.func91, Tryz.ntmps91
  go_wp2_with fail
  refine (C1.out _).mono ?_
  rintro _ w1 ⟨rfl, hb1⟩
  have k1 : Below w.heap.size w w1 := Below.trans (by go_grown) (hb1.mono (by simp))
  go_wp2_with fail
  refine (C2.out _).mono ?_
  rintro _ w2 ⟨rfl, hb2⟩
  have k2 := k1.trans (hb2.mono k1.size)
  go_wp2_with fail
  go_ret
  exact ⟨by rw [← HR.out]; rfl, k2⟩
theorem fs_rest0 (s : SentV) (p : SentP) (w : World) (hs : s.sch = 0) :
    Calls Tryz.prog 92 #[encT s p] w fun e w' => e = .returned (encT ⟨0, 0, s.L, [], s.scale, s.wide, s.lev, s.neg⟩ ⟨p.AL, p.cL, none, 0, p.AE, p.cE, p.AN, p.cN⟩) ∧ Below w.heap.size w w' := by
  go_enter Tryz.func92, Tryz.ntmps92
  go_wp2_with fail
  refine bodyPost_ret (v := encT ⟨0, 0, s.L, [], s.scale, s.wide, s.lev, s.neg⟩ ⟨p.AL, p.cL, none, 0, p.AE, p.cE, p.AN, p.cN⟩) (by simp [results, Tryz.results92, go_sem]) rfl ⟨rfl, by go_grown⟩
theorem fs_rest1 (s : SentV) (p : SentP) (w : World) (hs : s.sch = 1) :
    Calls Tryz.prog 92 #[encT s p] w fun e w' => e = .returned (encT ⟨0, 0, [], [], s.scale, s.wide, s.lev, s.neg⟩ ⟨none, 0, none, 0, p.AE, p.cE, p.AN, p.cN⟩) ∧ Below w.heap.size w w' := by
  go_enter Tryz.func92, Tryz.ntmps92
  go_wp2_with fail
  refine bodyPost_ret (v := encT ⟨0, 0, [], [], s.scale, s.wide, s.lev, s.neg⟩ ⟨none, 0, none, 0, p.AE, p.cE, p.AN, p.cN⟩) (by simp [results, Tryz.results92, go_sem]) rfl ⟨rfl, by go_grown⟩
theorem fs_rest2 (s : SentV) (p : SentP) (w : World) (hs : s.sch = 2) :
    Calls Tryz.prog 92 #[encT s p] w fun e w' => e = .returned (encT ⟨0, 0, s.L, s.V, 0, 0, [], []⟩ ⟨p.AL, p.cL, p.AV, p.cV, none, 0, none, 0⟩) ∧ Below w.heap.size w w' := by
  go_enter Tryz.func92, Tryz.ntmps92
  go_wp2_with fail
  refine bodyPost_ret (v := encT ⟨0, 0, s.L, s.V, 0, 0, [], []⟩ ⟨p.AL, p.cL, p.AV, p.cV, none, 0, none, 0⟩) (by simp [results, Tryz.results92, go_sem]) rfl ⟨rfl, by go_grown⟩
theorem fs_rest3 (s : SentV) (p : SentP) (w : World) (hs : s.sch = 3) :
    Calls Tryz.prog 92 #[encT s p] w fun e w' => e = .returned (encT ⟨0, 0, s.L, s.V, 0, s.wide, s.lev, []⟩ ⟨p.AL, p.cL, p.AV, p.cV, p.AE, p.cE, none, 0⟩) ∧ Below w.heap.size w w' := by
  go_enter Tryz.func92, Tryz.ntmps92
  go_wp2_with fail
  refine bodyPost_ret (v := encT ⟨0, 0, s.L, s.V, 0, s.wide, s.lev, []⟩ ⟨p.AL, p.cL, p.AV, p.cV, p.AE, p.cE, none, 0⟩) (by simp [results, Tryz.results92, go_sem]) rfl ⟨rfl, by go_grown⟩
def sgB (s : SentV) : Bool := decide (0 ≤ s.scale ∧ (s.neg.length : Int) = s.dim)
theorem fs_signs (s : SentV) (p : SentP) (w : World) :
    Calls Tryz.prog 137 #[encT s p] w fun e w' => e = .returned (.bool (sgB s)) ∧ Below w.heap.size w w' := by
  have HR : sgB s = true ↔ (0 ≤ s.scale ∧ (s.neg.length : Int) = s.dim) := by unfold sgB; rw [decide_eq_true_eq]
  obtain ⟨R, hR⟩ : ∃ R, sgB s = R := ⟨_, rfl⟩
  rw [hR] at HR ⊢
  have HR2 := hid HR
  clear hR HR
  go_enter Tryz.func137, Tryz.ntmps137
  go_wp2_with fail
  all_goals (go_ret; refine ⟨ret_of ?_, by go_grown⟩; rw [HR2.out]; first | (simp [*]; done) | (simp [*]; omega))
def lvB (s : SentV) : Bool := decide (1 ≤ s.wide ∧ s.wide ≤ 8 ∧ (s.lev.length : Int) = s.dim ∧ fitsB s.wide s.lev = true)
theorem width_lv {g : Nat} {wd x : Int} {w : World} (hc : w.cell? ⟨g, 5, none⟩ = some (.int .i64 wd)) (ux : U64 x) :
    Calls Tryz.prog 184 (#[.int .u64 x] ++ #[.pointer (some ⟨g, 0, none⟩)]) w fun e w' => e = .returned (.bool (decide (wd < (wdt x : Int)))) ∧ ∃ n, w' = w.drewN n := by
  have CW := hid (fun W => pl_Width x ux W)
  obtain ⟨z, hz⟩ : ∃ z, wdt x = z := ⟨_, rfl⟩
  rw [hz] at CW ⊢
  clear hz
  go_enter Tryz.func184, Tryz.ntmps184
  go_wp2_with fail
  go_quiet ((go_at_call 185; exact quietL CW.out _))
  go_wp2_with fail
  go_ret
  exact ⟨rfl, _, rfl⟩
theorem fs_levels (s : SentV) (p : SentP) (hn : lnS 100000 s) (ul : U64s s.lev) (w : World) {B : Nat} (hB : B ≤ w.heap.size) (ra : RdS w B s p) :
    Calls Tryz.prog 138 #[encT s p] w fun e w' => e = .returned (.bool (lvB s)) ∧ Below w.heap.size w w' := by
  have HR : lvB s = true ↔ (1 ≤ s.wide ∧ s.wide ≤ 8 ∧ (s.lev.length : Int) = s.dim ∧ fitsB s.wide s.lev = true) := by unfold lvB; rw [decide_eq_true_eq]
  obtain ⟨R, hR⟩ : ∃ R, lvB s = R := ⟨_, rfl⟩
  rw [hR] at HR ⊢
  have CC : Hid (∀ W, Below w.heap.size w W → W.cell? ⟨w.heap.size, 5, none⟩ = some (.int .i64 s.wide) → Calls Tryz.prog 183 #[.slice p.AE s.lev.length p.cE, .func (.func 184) #[] #[.pointer (some ⟨w.heap.size, 0, none⟩)]] W fun e w' => e = .returned (.bool (!fitsB s.wide s.lev)) ∧ ∃ n, w' = W.drewN n) := hid (fun W hb hc => by
    have h := contains_any (A := p.AE) (c := p.cE) 184 #[.pointer (some ⟨w.heap.size, 0, none⟩)] s.lev (by have := hn.2.2.1; omega) (fun x => decide (s.wide < (wdt x : Int))) W (cl_enter 184 (by kernel_rfl)) (ra.2.2.1.below (hb.mono hB)) (fun x hx n => width_lv (w := W.drewN n) hc (ul x hx))
    rw [any_fits] at h
    exact h)
  obtain ⟨v, hv⟩ : ∃ v, fitsB s.wide s.lev = v := ⟨_, rfl⟩
  rw [hv] at HR CC
  have HR2 := hid HR
  clear hR HR hv ra hn ul
  go_enter Tryz.func138, Tryz.ntmps138
  go_wp2_with fail
  any_goals (go_ret; refine ⟨ret_of ?_, by go_grown⟩; rw [HR2.out]; first | (simp [*]; done) | (simp [*]; omega))
  refine (CC.out _ (by go_grown) (by simp [go_sem])).mono ?_
  rintro _ _ ⟨rfl, n1, rfl⟩
  go_wp2_with fail
  go_ret
  refine ⟨ret_of ?_, Below.trans (by go_grown) (belowN _ _ _)⟩
  rw [HR2.out]
  first | (simp [*]; done) | (simp [*]; omega)
end Go.Proofs.YtecgbelgoomneaaGreat
