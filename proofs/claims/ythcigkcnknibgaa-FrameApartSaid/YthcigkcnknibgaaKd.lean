
/- Kd: texts joined: FsB FsC PlS FsG FsL. -/
import Derived.Test.YthcigkcnknibgaaKb
import Derived.Test.YthcigkcnknibgaaKFrB
import Derived.Test.YthcigkcnknibgaaKPlR
import Derived.Test.YthcigkcnknibgaaKc
import Derived.Test.YthcigkcnknibgaaKa
import Derived.Deep.RegionHeld3
/- Whether a vector may be, by the program: an outline, what is left, signs, levels, what its scheme names. -/
namespace Go.Proofs.Ythcigkcnknibgaa
open Go.RowKit
set_option maxHeartbeats 400000
set_option maxRecDepth 100000
set_option linter.unusedVariables false
attribute [local go_sem] equal_eight
def outL (s : SentV) : List Int := [s.sch, s.dim, s.scale, s.wide, s.L.length, s.V.length, s.lev.length, s.neg.length]
def outV (s : SentV) : Value := .agg #[.int .i64 s.sch, .int .i64 s.dim, .int .i64 s.scale, .int .i64 s.wide, .int .i64 s.L.length, .int .i64 s.V.length, .int .i64 s.lev.length, .int .i64 s.neg.length]
def empB (s : SentV) : Bool := eqB (outL s) [0, 0, 0, 0, 0, 0, 0, 0]
theorem empB_iff {s : SentV} : empB s = true ↔ s.sch = 0 ∧ s.dim = 0 ∧ s.scale = 0 ∧ s.wide = 0 ∧ s.L = [] ∧ s.V = [] ∧ s.lev = [] ∧ s.neg = [] := by
  unfold empB eqB outL
  simp [List.length_eq_zero_iff]
theorem fs_outline (s : SentV) (p : SentP) (w : World) :
    Calls Try.prog 39 #[encT s p] w fun e w' => e = .returned (.agg #[.int .i64 s.sch, .int .i64 s.dim, .int .i64 s.scale, .int .i64 s.wide, .int .i64 s.L.length, .int .i64 s.V.length, .int .i64 s.lev.length, .int .i64 s.neg.length]) ∧ Below w.heap.size w w' := by
  go_enter Try.func39, Try.ntmps39
  go_wp2_with fail
  refine bodyPost_ret (v := .agg #[.int .i64 s.sch, .int .i64 s.dim, .int .i64 s.scale, .int .i64 s.wide, .int .i64 s.L.length, .int .i64 s.V.length, .int .i64 s.lev.length, .int .i64 s.neg.length]) (by simp [results, Try.results39, go_sem]) rfl ⟨rfl, by go_grown⟩
theorem fs_empty (s : SentV) (p : SentP) (w : World) :
    Calls Try.prog 32 #[encT s p] w fun e w' => e = .returned (.bool (empB s)) ∧ Below w.heap.size w w' := by
  have C1 := hid (fun W => fs_outline s p W)
  have C2 := hid (fun W => fs_outline zeroS zeroP W)
  have HE : Hid (∀ X, eqB (outL s) X = X.isEqv (outL s) (fun a b => a == b) ∨ True) := hid (fun _ => Or.inr trivial)
  obtain ⟨R, hR⟩ : ∃ R, empB s = R := ⟨_, rfl⟩
  have HR := hid hR
  rw [hR]
  clear hR HE
  go_enter Try.func32, Try.ntmps32
  go_wp2_with fail
  refine (C1.out _).mono ?_
  rintro _ w1 ⟨rfl, hb1⟩
  have k1 : Below w.heap.size w w1 := Below.trans (by go_grown) (hb1.mono (by simp))
  go_wp2_with fail
  refine (C2.out _).mono ?_
  rintro _ w2 ⟨rfl, hb2⟩
  have k2 := k1.trans (hb2.mono k1.size)
  go_wp2_with fail
  go_ret
  exact ⟨by rw [← HR.out]; rfl, k2⟩
theorem fs_rest0 (s : SentV) (p : SentP) (w : World) (hs : s.sch = 0) :
    Calls Try.prog 33 #[encT s p] w fun e w' => e = .returned (encT ⟨0, 0, s.L, [], s.scale, s.wide, s.lev, s.neg⟩ ⟨p.AL, p.cL, none, 0, p.AE, p.cE, p.AN, p.cN⟩) ∧ Below w.heap.size w w' := by
  go_enter Try.func33, Try.ntmps33
  go_wp2_with fail
  refine bodyPost_ret (v := encT ⟨0, 0, s.L, [], s.scale, s.wide, s.lev, s.neg⟩ ⟨p.AL, p.cL, none, 0, p.AE, p.cE, p.AN, p.cN⟩) (by simp [results, Try.results33, go_sem]) rfl ⟨rfl, by go_grown⟩
theorem fs_rest1 (s : SentV) (p : SentP) (w : World) (hs : s.sch = 1) :
    Calls Try.prog 33 #[encT s p] w fun e w' => e = .returned (encT ⟨0, 0, [], [], s.scale, s.wide, s.lev, s.neg⟩ ⟨none, 0, none, 0, p.AE, p.cE, p.AN, p.cN⟩) ∧ Below w.heap.size w w' := by
  go_enter Try.func33, Try.ntmps33
  go_wp2_with fail
  refine bodyPost_ret (v := encT ⟨0, 0, [], [], s.scale, s.wide, s.lev, s.neg⟩ ⟨none, 0, none, 0, p.AE, p.cE, p.AN, p.cN⟩) (by simp [results, Try.results33, go_sem]) rfl ⟨rfl, by go_grown⟩
theorem fs_rest2 (s : SentV) (p : SentP) (w : World) (hs : s.sch = 2) :
    Calls Try.prog 33 #[encT s p] w fun e w' => e = .returned (encT ⟨0, 0, s.L, s.V, 0, 0, [], []⟩ ⟨p.AL, p.cL, p.AV, p.cV, none, 0, none, 0⟩) ∧ Below w.heap.size w w' := by
  go_enter Try.func33, Try.ntmps33
  go_wp2_with fail
  refine bodyPost_ret (v := encT ⟨0, 0, s.L, s.V, 0, 0, [], []⟩ ⟨p.AL, p.cL, p.AV, p.cV, none, 0, none, 0⟩) (by simp [results, Try.results33, go_sem]) rfl ⟨rfl, by go_grown⟩
theorem fs_rest3 (s : SentV) (p : SentP) (w : World) (hs : s.sch = 3) :
    Calls Try.prog 33 #[encT s p] w fun e w' => e = .returned (encT ⟨0, 0, s.L, s.V, 0, s.wide, s.lev, []⟩ ⟨p.AL, p.cL, p.AV, p.cV, p.AE, p.cE, none, 0⟩) ∧ Below w.heap.size w w' := by
  go_enter Try.func33, Try.ntmps33
  go_wp2_with fail
  refine bodyPost_ret (v := encT ⟨0, 0, s.L, s.V, 0, s.wide, s.lev, []⟩ ⟨p.AL, p.cL, p.AV, p.cV, p.AE, p.cE, none, 0⟩) (by simp [results, Try.results33, go_sem]) rfl ⟨rfl, by go_grown⟩
def sgB (s : SentV) : Bool := decide (0 ≤ s.scale ∧ (s.neg.length : Int) = s.dim)
theorem fs_signs (s : SentV) (p : SentP) (w : World) :
    Calls Try.prog 58 #[encT s p] w fun e w' => e = .returned (.bool (sgB s)) ∧ Below w.heap.size w w' := by
  have HR : sgB s = true ↔ (0 ≤ s.scale ∧ (s.neg.length : Int) = s.dim) := by unfold sgB; rw [decide_eq_true_eq]
  obtain ⟨R, hR⟩ : ∃ R, sgB s = R := ⟨_, rfl⟩
  rw [hR] at HR ⊢
  have HR2 := hid HR
  clear hR HR
  go_enter Try.func58, Try.ntmps58
  go_wp2_with fail
  all_goals (go_ret; refine ⟨ret_of ?_, by go_grown⟩; rw [HR2.out]; first | (simp [*]; done) | (simp [*]; omega))
def lvB (s : SentV) : Bool := decide (1 ≤ s.wide ∧ s.wide ≤ 8 ∧ (s.lev.length : Int) = s.dim ∧ fitsB s.wide s.lev = true)
theorem width_lv {g : Nat} {wd x : Int} {w : World} (hc : w.cell? ⟨g, 5, none⟩ = some (.int .i64 wd)) (ux : U64 x) :
    Calls Try.prog 80 (#[.int .u64 x] ++ #[.pointer (some ⟨g, 0, none⟩)]) w fun e w' => e = .returned (.bool (decide (wd < (wdt x : Int)))) ∧ ∃ n, w' = w.drewN n := by
  have CW := hid (fun W => pl_Width x ux W)
  obtain ⟨z, hz⟩ : ∃ z, wdt x = z := ⟨_, rfl⟩
  rw [hz] at CW ⊢
  clear hz
  go_enter Try.func80, Try.ntmps80
  go_wp2_with fail
  go_quiet ((go_at_call 81; exact quietL CW.out _))
  go_wp2_with fail
  go_ret
  exact ⟨rfl, _, rfl⟩
theorem fs_levels (s : SentV) (p : SentP) (hn : lnS 100000 s) (ul : U64s s.lev) (w : World) {B : Nat} (hB : B ≤ w.heap.size) (ra : RdS w B s p) :
    Calls Try.prog 59 #[encT s p] w fun e w' => e = .returned (.bool (lvB s)) ∧ Below w.heap.size w w' := by
  have HR : lvB s = true ↔ (1 ≤ s.wide ∧ s.wide ≤ 8 ∧ (s.lev.length : Int) = s.dim ∧ fitsB s.wide s.lev = true) := by unfold lvB; rw [decide_eq_true_eq]
  obtain ⟨R, hR⟩ : ∃ R, lvB s = R := ⟨_, rfl⟩
  rw [hR] at HR ⊢
  have CC : Hid (∀ W, Below w.heap.size w W → W.cell? ⟨w.heap.size, 5, none⟩ = some (.int .i64 s.wide) → Calls Try.prog 79 #[.slice p.AE s.lev.length p.cE, .func (.func 80) #[] #[.pointer (some ⟨w.heap.size, 0, none⟩)]] W fun e w' => e = .returned (.bool (!fitsB s.wide s.lev)) ∧ ∃ n, w' = W.drewN n) := hid (fun W hb hc => by
    have h := contains_any (A := p.AE) (c := p.cE) 80 #[.pointer (some ⟨w.heap.size, 0, none⟩)] s.lev (by have := hn.2.2.1; omega) (fun x => decide (s.wide < (wdt x : Int))) W (cl_enter 80 (by kernel_rfl)) (ra.2.2.1.below (hb.mono hB)) (fun x hx n => width_lv (w := W.drewN n) hc (ul x hx))
    rw [any_fits] at h
    exact h)
  obtain ⟨v, hv⟩ : ∃ v, fitsB s.wide s.lev = v := ⟨_, rfl⟩
  rw [hv] at HR CC
  have HR2 := hid HR
  clear hR HR hv ra hn ul
  go_enter Try.func59, Try.ntmps59
  go_wp2_with fail
  any_goals (go_ret; refine ⟨ret_of ?_, by go_grown⟩; rw [HR2.out]; first | (simp [*]; done) | (simp [*]; omega))
  refine (CC.out _ (by go_grown) (by simp [go_sem])).mono ?_
  rintro _ _ ⟨rfl, n1, rfl⟩
  go_wp2_with fail
  go_ret
  refine ⟨ret_of ?_, Below.trans (by go_grown) (belowN _ _ _)⟩
  rw [HR2.out]
  first | (simp [*]; done) | (simp [*]; omega)
end Go.Proofs.Ythcigkcnknibgaa
/- Whether a vector may be, by the program. -/
namespace Go.Proofs.Ythcigkcnknibgaa
open Go.RowKit
set_option maxHeartbeats 400000
set_option maxRecDepth 100000
set_option linter.unusedVariables false
def namP (s : SentV) : Prop := (s.sch = 0 ∧ (s.V.length : Int) = s.dim) ∨ (s.sch = 1 ∧ chkE s.dim s.L = 0 ∧ s.V.length = s.L.length) ∨ (s.sch = 2 ∧ sgB s = true ∧ lvB s = true) ∨ (s.sch = 3 ∧ sgB s = true)
instance (s : SentV) : Decidable (namP s) := by unfold namP; infer_instance
def namB (s : SentV) : Bool := decide (namP s)
theorem namB_iff {s : SentV} : namB s = true ↔ namP s := by unfold namB; exact decide_eq_true_iff
theorem boxT_new (w : World) (s : SentV) (p : SentP) (t : TypeId) : BoxL (w.alloc (.cells #[.int .i64 s.sch, .int .i64 s.dim, .slice p.AL s.L.length p.cL, .slice p.AV s.V.length p.cV, .int .i64 s.scale, .int .i64 s.wide, .slice p.AE s.lev.length p.cE, .slice p.AN s.neg.length p.cN] t)) w.heap.size
    [.int .i64 s.sch, .int .i64 s.dim, .slice p.AL s.L.length p.cL, .slice p.AV s.V.length p.cV, .int .i64 s.scale, .int .i64 s.wide, .slice p.AE s.lev.length p.cE, .slice p.AN s.neg.length p.cN] := BoxL.new w _ t
theorem fs_named0 (s : SentV) (p : SentP) (w : World) (hs : s.sch = 0) :
    Calls Try.prog 31 #[encT s p] w fun e w' => e = .returned (.bool (namB s)) ∧ Below w.heap.size w w' := by
  have HR : namB s = true ↔ (s.V.length : Int) = s.dim := by rw [namB_iff]; unfold namP; simp [hs]
  obtain ⟨R, hR⟩ : ∃ R, namB s = R := ⟨_, rfl⟩
  rw [hR] at HR ⊢
  have HR2 := hid HR
  clear hR HR
  go_enter Try.func31, Try.ntmps31
  go_wp2_with fail
  all_goals (go_ret; refine ⟨ret_of ?_, by go_grown⟩; rw [HR2.out]; first | (simp [*]; done) | (simp [*]; omega))
theorem fs_named1 (s : SentV) (p : SentP) (hn : lnS 100000 s) (hd : I64 s.dim) (w : World) (ra : RdS w w.heap.size s p) (hs : s.sch = 1) :
    Calls Try.prog 31 #[encT s p] w fun e w' => e = .returned (.bool (namB s)) ∧ Below w.heap.size w w' := by
  have HR : namB s = true ↔ (chkE s.dim s.L = 0 ∧ s.V.length = s.L.length) := by rw [namB_iff]; unfold namP; simp [hs]
  have C := hid (fun W (h : Below w.heap.size w W) => ix_Check (A := p.AL) (c := p.cL) s.dim s.L hd (by have := hn.1; omega) W ((ra.1.below h).more h.size))
  obtain ⟨R, hR⟩ : ∃ R, namB s = R := ⟨_, rfl⟩
  rw [hR] at HR ⊢
  obtain ⟨E, hE⟩ : ∃ E, chkE s.dim s.L = E := ⟨_, rfl⟩
  rw [hE] at HR C
  have HR2 := hid HR
  have HB0 := hid (boxT_new w s p 27)
  clear hR HR hE ra hn hd
  have g0 : (s.sch == 0) = false := by rw [hs]; rfl
  have g1 : (s.sch == 1) = true := by rw [hs]; rfl
  clear hs
  go_enter Try.func31, Try.ntmps31
  go_wp2_with fail
  refine (C.out _ (by go_grown)).mono ?_
  rintro _ w1 ⟨rfl, hb1⟩
  have k1 : Below w.heap.size w w1 := Below.trans (by go_grown) (hb1.mono (by simp))
  have HB1 := hid (HB0.out.below hb1 (by simp))
  obtain ⟨⟨c0, c1, c2, c3, c4, c5, c6, c7⟩, _⟩ := HB1.out.eight
  clear hb1 HB0
  go_wp2_with fail
  all_goals (go_ret; refine ⟨ret_of ?_, k1⟩; rw [HR2.out]; first | (simp [*]; done) | (simp [*]; omega))
theorem fs_named2 (s : SentV) (p : SentP) (hn : lnS 100000 s) (ul : U64s s.lev) (w : World) (ra : RdS w w.heap.size s p) (hs : s.sch = 2) :
    Calls Try.prog 31 #[encT s p] w fun e w' => e = .returned (.bool (namB s)) ∧ Below w.heap.size w w' := by
  have HR : namB s = true ↔ (sgB s = true ∧ lvB s = true) := by rw [namB_iff]; unfold namP; simp [hs]
  have C := hid (fun W => fs_signs s p W)
  have D := hid (fun W (h : Below w.heap.size w W) => fs_levels s p hn ul W h.size (ra.below h))
  obtain ⟨R, hR⟩ : ∃ R, namB s = R := ⟨_, rfl⟩
  rw [hR] at HR ⊢
  obtain ⟨v1, h1⟩ : ∃ E, sgB s = E := ⟨_, rfl⟩
  rw [h1] at HR C
  obtain ⟨v2, h2⟩ : ∃ E, lvB s = E := ⟨_, rfl⟩
  rw [h2] at HR D
  have HR2 := hid HR
  have HB0 := hid (boxT_new w s p 27)
  clear hR HR h1 h2 ra hn ul
  have g0 : (s.sch == 0) = false := by rw [hs]; rfl
  have g1 : (s.sch == 1) = false := by rw [hs]; rfl
  have g2 : (s.sch == 2) = true := by rw [hs]; rfl
  clear hs
  go_enter Try.func31, Try.ntmps31
  go_wp2_with fail
  refine (C.out _).mono ?_
  rintro _ w1 ⟨rfl, hb1⟩
  have k1 : Below w.heap.size w w1 := Below.trans (by go_grown) (hb1.mono (by simp))
  have HB1 := hid (HB0.out.below hb1 (by simp))
  obtain ⟨⟨c0, c1, c2, c3, c4, c5, c6, c7⟩, _⟩ := HB1.out.eight
  clear hb1 HB0
  cases v1 with
  | false =>
    go_wp2_with fail
    go_ret
    exact ⟨ret_of (by rw [HR2.out]; simp), k1⟩
  | true =>
    go_wp2_with fail
    refine (D.out _ k1).mono ?_
    rintro _ w2 ⟨rfl, hb2⟩
    go_wp2_with fail
    go_ret
    exact ⟨ret_of (by rw [HR2.out]; simp), k1.trans (hb2.mono k1.size)⟩
theorem fs_named3 (s : SentV) (p : SentP) (w : World) (hs : s.sch = 3) :
    Calls Try.prog 31 #[encT s p] w fun e w' => e = .returned (.bool (namB s)) ∧ Below w.heap.size w w' := by
  have HR : namB s = true ↔ (sgB s = true) := by rw [namB_iff]; unfold namP; simp [hs]
  have C := hid (fun W => fs_signs s p W)
  obtain ⟨R, hR⟩ : ∃ R, namB s = R := ⟨_, rfl⟩
  rw [hR] at HR ⊢
  obtain ⟨v1, h1⟩ : ∃ E, sgB s = E := ⟨_, rfl⟩
  rw [h1] at HR C
  have HR2 := hid HR
  clear hR HR h1
  have g0 : (s.sch == 0) = false := by rw [hs]; rfl
  have g1 : (s.sch == 1) = false := by rw [hs]; rfl
  have g2 : (s.sch == 2) = false := by rw [hs]; rfl
  have g3 : (s.sch == 3) = true := by rw [hs]; rfl
  clear hs
  go_enter Try.func31, Try.ntmps31
  go_wp2_with fail
  refine (C.out _).mono ?_
  rintro _ w1 ⟨rfl, hb1⟩
  have k1 : Below w.heap.size w w1 := Below.trans (by go_grown) (hb1.mono (by simp))
  go_wp2_with fail
  go_ret
  exact ⟨ret_of (by rw [HR2.out]), k1⟩
theorem fs_namedX (s : SentV) (p : SentP) (w : World) (h0 : s.sch ≠ 0) (h1 : s.sch ≠ 1) (h2 : s.sch ≠ 2) (h3 : s.sch ≠ 3) :
    Calls Try.prog 31 #[encT s p] w fun e w' => e = .returned (.bool (namB s)) ∧ Below w.heap.size w w' := by
  have hR : namB s = false := decide_eq_false (by unfold namP; simp [h0, h1, h2, h3])
  rw [hR]
  clear hR
  go_enter Try.func31, Try.ntmps31
  go_wp2_with fail
  go_ret
  exact ⟨rfl, by go_grown⟩
theorem fs_named (s : SentV) (p : SentP) (hn : lnS 100000 s) (hw : wfS s) (w : World) (ra : RdS w w.heap.size s p) :
    Calls Try.prog 31 #[encT s p] w fun e w' => e = .returned (.bool (namB s)) ∧ Below w.heap.size w w' := by
  by_cases h0 : s.sch = 0
  · exact fs_named0 s p w h0
  · by_cases h1 : s.sch = 1
    · exact fs_named1 s p hn hw.2.1 w ra h1
    · by_cases h2 : s.sch = 2
      · exact fs_named2 s p hn hw.2.2.2.2.2.2 w ra h2
      · by_cases h3 : s.sch = 3
        · exact fs_named3 s p w h3
        · exact fs_namedX s p w h0 h1 h2 h3
theorem may_named {s : SentV} (h : mayP s) : namP s := by
  obtain ⟨h1, h2, h⟩ := h
  unfold namP sgB lvB
  rcases h with h | h | h | h
  · exact Or.inl ⟨h.1, h.2.2.1⟩
  · exact Or.inr (Or.inl ⟨h.1, h.2.1, h.2.2.1⟩)
  · exact Or.inr (Or.inr (Or.inl ⟨h.1, by simp [h.2.2.2.2.2.2.2.1, h.2.2.2.2.2.2.2.2], by simp [h.2.1, h.2.2.1, h.2.2.2.1, h.2.2.2.2.1]⟩))
  · exact Or.inr (Or.inr (Or.inr ⟨h.1, by simp [h.2.2.2.2.2.1, h.2.2.2.2.2.2]⟩))
/-- What is asked at the end, for any way that is left. -/
theorem fs_MayK (s t : SentV) (p q : SentP) (hn : lnS 100000 s) (hw : wfS s) (w : World) (ra : RdS w w.heap.size s p) (h1 : 1 ≤ s.dim) (h2 : s.dim ≤ 4096)
    (CR : ∀ W : World, Calls Try.prog 33 #[encT s p] W fun e w' => e = .returned (encT t q) ∧ Below W.heap.size W w') (hM : mayB s = true ↔ (namB s = true ∧ empB t = true)) :
    Calls Try.prog 14 #[encT s p] w fun e w' => e = .returned (.bool (mayB s)) ∧ Below w.heap.size w w' := by
  have C := hid (fun W (h : Below w.heap.size w W) => fs_named s p hn hw W ((ra.below h).more h.size))
  have D := hid CR
  have E := hid (fun W => fs_empty t q W)
  obtain ⟨R, hR⟩ : ∃ R, mayB s = R := ⟨_, rfl⟩
  rw [hR] at hM ⊢
  obtain ⟨v1, e1⟩ : ∃ E, namB s = E := ⟨_, rfl⟩
  rw [e1] at hM C
  obtain ⟨v2, e2⟩ : ∃ E, empB t = E := ⟨_, rfl⟩
  rw [e2] at hM E
  have HR2 := hid hM
  have HB0 := hid (boxT_new w s p 27)
  clear hR hM e1 e2 ra hn hw CR
  go_enter Try.func14, Try.ntmps14
  go_wp2_with fail
  refine (C.out _ (by go_grown)).mono ?_
  rintro _ w1 ⟨rfl, hb1⟩
  have k1 : Below w.heap.size w w1 := Below.trans (by go_grown) (hb1.mono (by simp))
  have HB1 := hid (HB0.out.below hb1 (by simp))
  obtain ⟨⟨c0, c1, c2, c3, c4, c5, c6, c7⟩, _⟩ := HB1.out.eight
  clear hb1 HB0
  cases v1 with
  | false =>
    go_wp2_with fail
    go_ret
    exact ⟨ret_of (by rw [HR2.out]; simp), k1⟩
  | true =>
    go_wp2_with fail
    refine (D.out _).mono ?_
    rintro _ w2 ⟨rfl, hb2⟩
    have k2 := k1.trans (hb2.mono k1.size)
    clear c0 c1 c2 c3 c4 c5 c6 c7
    go_wp2_with fail
    refine (E.out _).mono ?_
    rintro _ w3 ⟨rfl, hb3⟩
    have k3 := k2.trans (hb3.mono k2.size)
    go_wp2_with fail
    go_ret
    exact ⟨ret_of (by rw [HR2.out]; simp), k3⟩
theorem fs_MayD (s : SentV) (p : SentP) (w : World) (h : s.dim < 1 ∨ 4096 < s.dim) :
    Calls Try.prog 14 #[encT s p] w fun e w' => e = .returned (.bool (mayB s)) ∧ Below w.heap.size w w' := by
  have HR : mayB s = false := mayB_no (fun h2 => by have h3 := h2.1; have h4 := h2.2.1; omega)
  rw [HR]
  clear HR
  rcases h with h | h
  · go_enter Try.func14, Try.ntmps14
    go_wp2_with fail
    all_goals (go_ret; exact ⟨rfl, by go_grown⟩)
  · go_enter Try.func14, Try.ntmps14
    go_wp2_with fail
    all_goals (go_ret; exact ⟨rfl, by go_grown⟩)
theorem fs_May (s : SentV) (p : SentP) (hn : lnS 100000 s) (hw : wfS s) (w : World) (ra : RdS w w.heap.size s p) :
    Calls Try.prog 14 #[encT s p] w fun e w' => e = .returned (.bool (mayB s)) ∧ Below w.heap.size w w' := by
  by_cases hd : 1 ≤ s.dim ∧ s.dim ≤ 4096
  · by_cases h0 : s.sch = 0
    · refine fs_MayK s _ p _ hn hw w ra hd.1 hd.2 (fun W => fs_rest0 s p W h0) ?_
      rw [mayB_iff, namB_iff, empB_iff]; unfold mayP namP sgB lvB
      simp [h0, hd.1, hd.2]
      constructor
      · rintro ⟨a, b, c, d, e, f⟩; exact ⟨b, e, c, a, d, f⟩
      · rintro ⟨b, e, c, a, d, f⟩; exact ⟨a, b, c, d, e, f⟩
    · by_cases h1 : s.sch = 1
      · refine fs_MayK s _ p _ hn hw w ra hd.1 hd.2 (fun W => fs_rest1 s p W h1) ?_
        rw [mayB_iff, namB_iff, empB_iff]; unfold mayP namP sgB lvB
        simp [h1, hd.1, hd.2]
        constructor
        · rintro ⟨a, b, c, d, e, f⟩; exact ⟨⟨a, b⟩, e, c, d, f⟩
        · rintro ⟨⟨a, b⟩, e, c, d, f⟩; exact ⟨a, b, c, d, e, f⟩
      · by_cases h2 : s.sch = 2
        · refine fs_MayK s _ p _ hn hw w ra hd.1 hd.2 (fun W => fs_rest2 s p W h2) ?_
          rw [mayB_iff, namB_iff, empB_iff]; unfold mayP namP sgB lvB
          simp [h2, hd.1, hd.2]
          constructor
          · rintro ⟨a, b, c, d, e, f, g, h⟩; exact ⟨⟨⟨g, h⟩, a, b, c, d⟩, e, f⟩
          · rintro ⟨⟨⟨g, h⟩, a, b, c, d⟩, e, f⟩; exact ⟨a, b, c, d, e, f, g, h⟩
        · by_cases h3 : s.sch = 3
          · refine fs_MayK s _ p _ hn hw w ra hd.1 hd.2 (fun W => fs_rest3 s p W h3) ?_
            rw [mayB_iff, namB_iff, empB_iff]; unfold mayP namP sgB lvB
            simp [h3, hd.1, hd.2]
            constructor
            · rintro ⟨a, b, c, d, e, f⟩; exact ⟨⟨e, f⟩, c, a, b, d⟩
            · rintro ⟨⟨e, f⟩, c, a, b, d⟩; exact ⟨a, b, c, d, e, f⟩
          · have hN : namB s = false := decide_eq_false (by unfold namP; simp [h0, h1, h2, h3])
            have hM : mayB s = false := mayB_no (fun h => by have := may_named h; unfold namB at hN; rw [decide_eq_false_iff_not] at hN; exact hN this)
            have C := hid (fun W (h : Below w.heap.size w W) => fs_named s p hn hw W ((ra.below h).more h.size))
            rw [hN] at C
            rw [hM]
            obtain ⟨hd1, hd2⟩ := hd
            clear hN hM h0 h1 h2 h3 ra hn hw
            go_enter Try.func14, Try.ntmps14
            go_wp2_with fail
            refine (C.out _ (by go_grown)).mono ?_
            rintro _ w1 ⟨rfl, hb1⟩
            have k1 : Below w.heap.size w w1 := Below.trans (by go_grown) (hb1.mono (by simp))
            go_wp2_with fail
            go_ret
            exact ⟨rfl, k1⟩
  · exact fs_MayD s p w (by omega)
end Go.Proofs.Ythcigkcnknibgaa
/- The program's numbers packed and woven, and signs. -/
namespace Go.Proofs.Ythcigkcnknibgaa
open Go.RowKit
set_option maxHeartbeats 400000
set_option maxRecDepth 100000
set_option linter.unusedVariables false
theorem pl_side (v : Int) (w : World) :
    Calls Try.prog 97 #[.int .i64 v] w fun e w' => e = .returned (.func (.func 98) #[] #[.pointer (some ⟨w.heap.size, 0, none⟩)]) ∧ w'.cell? ⟨w.heap.size, 0, none⟩ = some (.int .i64 v) ∧ w.heap.size < w'.heap.size ∧ Below w.heap.size w w' := by
  have hb := one_cell w (.int .i64 v) 3
  have HB := hid hb
  clear hb
  go_enter Try.func97, Try.ntmps97
  go_wp2_with fail
  go_ret
  exact ⟨rfl, HB.out.1, by simp [go_sem], HB.out.2⟩
theorem pl_planes (v : Int) (w : World) :
    Calls Try.prog 85 #[.int .i64 v] w fun e w' => e = .returned (.func (.func 94) #[] #[.pointer (some ⟨w.heap.size, 0, none⟩)]) ∧ w'.cell? ⟨w.heap.size, 0, none⟩ = some (.int .i64 v) ∧ w.heap.size < w'.heap.size ∧ Below w.heap.size w w' := by
  have hb := one_cell w (.int .i64 v) 3
  have HB := hid hb
  clear hb
  go_enter Try.func85, Try.ntmps85
  go_wp2_with fail
  go_ret
  exact ⟨rfl, HB.out.1, by simp [go_sem], HB.out.2⟩
theorem place_few {i j k m : Nat} (hi : i < m) (hj : j < k) (hk : k ≤ 32) (hm : m ≤ 4096) : i * k + j ≤ 1000000 := by
  have h := place_lt hi hj
  have := Nat.mul_le_mul hk hm
  omega
theorem few_place {i j k m : Nat} (hi : i < m) (hj : j < k) (hk : k ≤ 32) (hm : m ≤ 4096) : j * m + i ≤ 1000000 := by
  have h := place_lt (w := m) (m := k) hj hi
  have := Nat.mul_le_mul hm hk
  omega
theorem pl_Pack {A : Option Addr} {c : Nat} (wd : Int) (l : List Int) (hw : I64 wd) (hl : l.length ≤ 100000) (ul : U64s l) (w : World) (ra : Rd (Value.int .u64) w w.heap.size A l) :
    Calls Try.prog 95 #[.int .i64 wd, .slice A l.length c] w (OwnE 5 .u8 w.heap.size (pckV wd l) (mayE wd l) w) := by
  have CW : Hid (∀ w1 : World, w1.cell? ⟨w.heap.size, 0, none⟩ = some (.int .i64 wd) → w.heap.size < w1.heap.size → Below w.heap.size w w1 →
      Calls Try.prog 84 #[.int .i64 wd, .slice A l.length c, .func (.func 98) #[] #[.pointer (some ⟨w.heap.size, 0, none⟩)]] w1 (OwnE 5 .u8 w1.heap.size (pckV wd l) (mayE wd l) w1)) := hid (fun w1 hc hlt hb => by
    refine pl_write (A := A) (c := c) 98 _ wd l hw hl ul w1 (ra.on hb) (cl_enter _ (by kernel_rfl)) (sdF wd.toNat l) _ _ _ (places_side _ _) (fun i j x hx hj => by rw [sd_at hj, getD_of hx]) (fun hm i j hi hj W hW => ?_)
    obtain ⟨k, rfl, hk, h1, h2⟩ := may_nat hm ul
    have h4 := (bys_ok h1).2.2
    rw [Int.toNat_natCast] at hj ⊢
    exact side_cl ((hW.cell (p := ⟨w.heap.size, 0, none⟩) hlt).trans hc) rfl (place_few hi hj hk (by omega)))
  obtain ⟨X, hX⟩ : ∃ X, pckV wd l = X := ⟨_, rfl⟩
  obtain ⟨E, hE⟩ : ∃ E, mayE wd l = E := ⟨_, rfl⟩
  rw [hX, hE] at CW ⊢
  have CS := hid (pl_side wd w)
  clear hX hE ra ul
  go_enter Try.func95, Try.ntmps95
  go_wp2_with fail
  refine CS.out.mono ?_
  rintro _ w1 ⟨rfl, hc1, hlt1, hb1⟩
  have CW1 := hid (CW.out w1 hc1 hlt1 hb1)
  clear hc1 hlt1
  go_wp2_with fail
  refine CW1.out.mono ?_
  rintro _ w2 ⟨A2, c2, rfl, ho, hb2⟩
  have HO := hid (own_base ho hb1.size)
  clear ho
  go_wp2_with fail
  go_ret2
  exact ⟨A2, c2, rfl, HO.out, hb1.trans (hb2.mono hb1.size)⟩
theorem pl_Weave {A : Option Addr} {c : Nat} (wd : Int) (l : List Int) (hw : I64 wd) (hl : l.length ≤ 100000) (ul : U64s l) (w : World) (ra : Rd (Value.int .u64) w w.heap.size A l) :
    Calls Try.prog 69 #[.int .i64 wd, .slice A l.length c] w (OwnE 5 .u8 w.heap.size (wevV wd l) (mayE wd l) w) := by
  have CW : Hid (∀ w1 : World, w1.cell? ⟨w.heap.size, 0, none⟩ = some (.int .i64 (l.length : Int)) → w.heap.size < w1.heap.size → Below w.heap.size w w1 →
      Calls Try.prog 84 #[.int .i64 wd, .slice A l.length c, .func (.func 94) #[] #[.pointer (some ⟨w.heap.size, 0, none⟩)]] w1 (OwnE 5 .u8 w1.heap.size (wevV wd l) (mayE wd l) w1)) := hid (fun w1 hc hlt hb => by
    refine pl_write (A := A) (c := c) 94 _ wd l hw hl ul w1 (ra.on hb) (cl_enter _ (by kernel_rfl)) (plF wd.toNat l) _ _ _ (places_plane _ _) (fun i j x hx hj => by rw [pl_at ((List.getElem?_eq_some_iff.1 hx).1), getD_of hx]) (fun hm i j hi hj W hW => ?_)
    obtain ⟨k, rfl, hk, h1, h2⟩ := may_nat hm ul
    have h4 := (bys_ok h1).2.2
    rw [Int.toNat_natCast] at hj
    exact plane_cl ((hW.cell (p := ⟨w.heap.size, 0, none⟩) hlt).trans hc) rfl (few_place hi hj hk (by omega)))
  obtain ⟨X, hX⟩ : ∃ X, wevV wd l = X := ⟨_, rfl⟩
  obtain ⟨E, hE⟩ : ∃ E, mayE wd l = E := ⟨_, rfl⟩
  rw [hX, hE] at CW ⊢
  have CS := hid (pl_planes l.length w)
  clear hX hE ra ul
  go_enter Try.func69, Try.ntmps69
  go_wp2_with fail
  refine CS.out.mono ?_
  rintro _ w1 ⟨rfl, hc1, hlt1, hb1⟩
  have CW1 := hid (CW.out w1 hc1 hlt1 hb1)
  clear hc1 hlt1
  go_wp2_with fail
  refine CW1.out.mono ?_
  rintro _ w2 ⟨A2, c2, rfl, ho, hb2⟩
  have HO := hid (own_base ho hb1.size)
  clear ho
  go_wp2_with fail
  go_ret2
  exact ⟨A2, c2, rfl, HO.out, hb1.trans (hb2.mono hb1.size)⟩
/-- Signs as numbers. -/
theorem b2_u64 (bs : List Bool) : U64s (bs.map b2) := by
  intro x hx
  obtain ⟨v, _, rfl⟩ := List.mem_map.1 hx
  cases v <;> decide
theorem wdt_b2 (v : Bool) : wdt (b2 v) ≤ 1 := by cases v <;> decide
theorem sgn_may {bs : List Bool} (h : bs.length ≤ 4096) : mayE 1 (bs.map b2) = 0 := by
  unfold mayE
  rw [List.length_map]
  have h1 : bysE 1 (bs.length : Int) = 0 := by unfold bysE; rw [if_neg (by omega), if_neg (by omega)]
  rw [if_pos h1, if_pos]
  unfold fitsB
  rw [List.all_eq_true]
  intro x hx
  obtain ⟨v, _, rfl⟩ := List.mem_map.1 hx
  have := wdt_b2 v
  exact decide_eq_true (by omega)
theorem sgn_pck {bs : List Bool} (h : bs.length ≤ 4096) : pckV 1 (bs.map b2) = sgnV bs := by
  unfold pckV sgnV
  rw [if_pos (sgn_may h), if_neg (by omega), List.length_map]
  rw [show (1 : Int).toNat = 1 from rfl, Nat.one_mul]
  refine pkL_congr fun p hp => ?_
  unfold sdF
  rw [Nat.div_one, Nat.mod_one, List.getD_eq_getElem?_getD, List.getElem?_map, List.getD_eq_getElem?_getD, List.getElem?_eq_getElem hp, Option.map_some, Option.getD_some, Option.getD_some]
  cases bs[p] <;> decide
theorem pl_Signs {A : Option Addr} {c : Nat} (bs : List Bool) (hl : bs.length ≤ 1000000) (w : World) (ra : Rd Value.bool w w.heap.size A bs) :
    Calls Try.prog 86 #[.slice A bs.length c] w (OwnE 5 .u8 w.heap.size (sgnV bs) (sgnE bs) w) := by
  have CB := hid (fun W => pl_Bytes 1 bs.length (by decide) (by unfold I64; omega) W)
  by_cases h : 4096 < bs.length
  · have h1 : bysE 1 (bs.length : Int) = 3 := by unfold bysE; rw [if_neg (by omega), if_pos (by omega)]
    have h2 : sgnV bs = [] := if_pos h
    have h3 : sgnE bs = 3 := if_pos h
    rw [h1] at CB
    rw [h2, h3]
    obtain ⟨V, hV⟩ : ∃ V, bysV 1 (bs.length : Int) = V := ⟨_, rfl⟩
    rw [hV] at CB
    clear h1 h2 h3 hV ra
    go_enter Try.func86, Try.ntmps86
    go_wp2_with fail
    refine (CB.out _).mono ?_
    rintro _ _ ⟨rfl, rfl⟩
    go_wp2_with fail
    go_ret2
    exact .nil (Below.refl _ _)
  · have h1 : bysE 1 (bs.length : Int) = 0 := by unfold bysE; rw [if_neg (by omega), if_neg (by omega)]
    have h3 : sgnE bs = 0 := if_neg h
    rw [h1] at CB
    rw [h3]
    obtain ⟨V, hV⟩ : ∃ V, bysV 1 (bs.length : Int) = V := ⟨_, rfl⟩
    rw [hV] at CB
    have CP : Hid (∀ w1 : World, w1.rowIs w.heap.size 44 bs.length (fun j => .int .u64 (b2 (bs.getD j false))) → Calls Try.prog 95 #[.int .i64 1, .slice (some ⟨w.heap.size, 0, none⟩) bs.length bs.length] w1 (OwnE 5 .u8 w1.heap.size (sgnV bs) 0 w1)) := hid (fun w1 hr => by
      have h := pl_Pack (A := some ⟨w.heap.size, 0, none⟩) (c := bs.length) 1 (bs.map b2) (by decide) (by rw [List.length_map]; omega) (b2_u64 bs) w1 (by
        intro j x hx
        refine ⟨w.heap.size, 0, rfl, hr.lt, ?_⟩
        have hj := (List.getElem?_eq_some_iff.1 hx).1
        rw [List.length_map] at hj
        rw [Nat.zero_add, hr.cell hj]
        rw [List.getElem?_map, List.getElem?_eq_getElem hj, Option.map_some] at hx
        injection hx with hx
        rw [← hx, List.getD_eq_getElem?_getD, List.getElem?_eq_getElem hj, Option.getD_some])
      rw [List.length_map, sgn_pck (by omega), sgn_may (by omega)] at h
      exact h)
    obtain ⟨X, hX⟩ : ∃ X, sgnV bs = X := ⟨_, rfl⟩
    rw [hX] at CP ⊢
    have HG : Hid (∀ k x, bs[k]? = some x → bs.getD k false = x) := hid (fun k x hx => by rw [List.getD_eq_getElem?_getD, hx]; rfl)
    obtain ⟨g, hg⟩ : ∃ g : Nat → Bool, (fun j => bs.getD j false) = g := ⟨_, rfl⟩
    have hg' : ∀ j, bs.getD j false = g j := fun j => by rw [← hg]
    simp only [hg'] at CP HG
    have RA := hid ra
    obtain ⟨N, hN⟩ : ∃ N, bs.length = N := ⟨_, rfl⟩
    have HN := hid hN
    rw [hN] at CB CP hl h ⊢
    have hmk := fun W => run_make_row' (P := Try.prog) 24 44 (.int .u64 0) 8 Try.underlying24 info_u64 rfl .i64 .i64 N (by omega) (by omega) W
    clear h1 h3 hV hX hg hg' ra hN
    go_enter Try.func86, Try.ntmps86
    go_wp2_with fail
    refine (CB.out _).mono ?_
    rintro _ _ ⟨rfl, rfl⟩
    go_wp2_with fail
    go_loopw [7, 8, 23] (fun a b i wr => ∃ k : Nat, k ≤ N ∧ i = .int .i64 k ∧ wr.rowIs w.heap.size 44 N (fun j => if j < k then .int .u64 (b2 (g j)) else .int .u64 0) ∧ Below w.heap.size w wr) (fun _ _ i _ => N - (intOf i).toNat)
    case atStart => exact ⟨0, by omega, rfl, by simpa using World.rowIs_made w (.int .u64 0) N _, by go_grown⟩
    case round =>
      obtain ⟨k, hk, rfl, hrow, hbel⟩ := hrel
      have HR := hid hrow
      clear hmk
      by_cases hlt : k < N
      · obtain ⟨b1, o1, x, rfl, l1, ex, c1⟩ := (RA.out.below hbel).at_ (k := k) (by rw [HN.out]; exact hlt)
        have hgk := HG.out k x ex
        have f1 := hrow.frozen k
        have c2 := hrow.cell hlt
        rw [if_neg (Nat.lt_irrefl k)] at c2
        have HGk := hid hgk
        clear ex hgk hrow
        cases x with
        | false =>
          go_wp2_with fail
          go_roundw
          case rel =>
            refine ⟨k + 1, by omega, by go_num, HR.out.congr fun j hj => ?_, hbel⟩
            by_cases e : j = k
            · rw [e, if_neg (Nat.lt_irrefl k), if_pos (by omega), HGk.out]; rfl
            · by_cases e2 : j < k
              · rw [if_pos e2, if_pos (by omega)]
              · rw [if_neg e2, if_neg (by omega)]
          case measure => simp [intOf]; omega
        | true =>
          go_wp2_with fail
          go_roundw
          case rel =>
            refine ⟨k + 1, by omega, by go_num, ?_, hbel.setCell (Nat.le_refl _) _⟩
            refine (HR.out.set k (.int .u64 1)).congr fun j hj => ?_
            by_cases e : j = k
            · rw [if_pos e, e, if_pos (by omega), HGk.out]; rfl
            · rw [if_neg e]
              by_cases e2 : j < k
              · rw [if_pos e2, if_pos (by omega)]
              · rw [if_neg e2, if_neg (by omega)]
          case measure => simp [intOf]; omega
      · obtain rfl : k = N := by omega
        have CP1 := hid (CP.out wr (HR.out.congr fun j hj => by rw [if_pos hj]))
        clear hrow HR
        go_wp2_with fail
        refine CP1.out.mono ?_
        rintro _ w2 ⟨A2, c2, rfl, ho, hb2⟩
        have HO := hid (own_base ho hbel.size)
        clear ho
        go_wp2_with fail
        go_ret2
        exact ⟨A2, c2, rfl, HO.out, hbel.trans (hb2.mono hbel.size)⟩
end Go.Proofs.Ythcigkcnknibgaa
/- The parts of a vector's body, by the program. -/
namespace Go.Proofs.Ythcigkcnknibgaa
open Go.RowKit
set_option maxHeartbeats 1000000
set_option maxRecDepth 100000
set_option linter.unusedVariables false
theorem held8 {w W w1 : World} {g : Nat} {a b c d e f i j : Value} (h : W.cell? ⟨g, 0, none⟩ = some a ∧ W.cell? ⟨g, 1, none⟩ = some b ∧ W.cell? ⟨g, 2, none⟩ = some c ∧ W.cell? ⟨g, 3, none⟩ = some d ∧ W.cell? ⟨g, 4, none⟩ = some e ∧ W.cell? ⟨g, 5, none⟩ = some f ∧ W.cell? ⟨g, 6, none⟩ = some i ∧ W.cell? ⟨g, 7, none⟩ = some j ∧ Below w.heap.size w W) (hb : Below W.heap.size W w1) : w1.cell? ⟨g, 0, none⟩ = some a ∧ w1.cell? ⟨g, 1, none⟩ = some b ∧ w1.cell? ⟨g, 2, none⟩ = some c ∧ w1.cell? ⟨g, 3, none⟩ = some d ∧ w1.cell? ⟨g, 4, none⟩ = some e ∧ w1.cell? ⟨g, 5, none⟩ = some f ∧ w1.cell? ⟨g, 6, none⟩ = some i ∧ w1.cell? ⟨g, 7, none⟩ = some j ∧ Below w.heap.size w w1 := by
  obtain ⟨h0, h1, h2, h3, h4, h5, h6, h7, h8⟩ := h
  have hg := lt_of_cell h0
  exact ⟨(hb.cell (p := ⟨g, 0, none⟩) hg).trans h0, (hb.cell (p := ⟨g, 1, none⟩) hg).trans h1, (hb.cell (p := ⟨g, 2, none⟩) hg).trans h2, (hb.cell (p := ⟨g, 3, none⟩) hg).trans h3, (hb.cell (p := ⟨g, 4, none⟩) hg).trans h4, (hb.cell (p := ⟨g, 5, none⟩) hg).trans h5, (hb.cell (p := ⟨g, 6, none⟩) hg).trans h6, (hb.cell (p := ⟨g, 7, none⟩) hg).trans h7, h8.trans (hb.mono h8.size)⟩
theorem heldB {w W : World} {g : Nat} {a b c d e f i j : Value} (h : W.cell? ⟨g, 0, none⟩ = some a ∧ W.cell? ⟨g, 1, none⟩ = some b ∧ W.cell? ⟨g, 2, none⟩ = some c ∧ W.cell? ⟨g, 3, none⟩ = some d ∧ W.cell? ⟨g, 4, none⟩ = some e ∧ W.cell? ⟨g, 5, none⟩ = some f ∧ W.cell? ⟨g, 6, none⟩ = some i ∧ W.cell? ⟨g, 7, none⟩ = some j ∧ Below w.heap.size w W) : Below w.heap.size w W := h.2.2.2.2.2.2.2.2
theorem growd (w : World) (o : Obj) : Below w.heap.size w (w.alloc o) := (Below.refl _ _).alloc (Nat.le_refl _) _
theorem wx_scale (s : SentV) (p : SentP) (h0 : 0 ≤ s.scale) (h1 : s.scale ≤ 9223372036854775807) (w : World) :
    Calls Try.prog 70 #[encT s p] w (OwnOf 5 .u8 w.heap.size (lebI s.scale) w) := by
  have CP : Hid (∀ (g : Nat) (W : World), W.cell? ⟨g, 0, none⟩ = some (.int .u64 s.scale) → Calls Try.prog 22 #[.slice none 0 0, .slice (some ⟨g, 0, none⟩) 1 1] W (OwnOf 5 .u8 W.heap.size (lebI s.scale) W)) := hid (fun g W h => by
    have h2 := leb_Put (A := none) (B := some ⟨g, 0, none⟩) (c := 0) (d := 1) [] [s.scale] (by simp) (by simp) (by intro x hx; simp at hx; subst hx; unfold U64; omega) W Rd.none_ (rd_one h)
    rw [List.nil_append, encs_one] at h2
    exact h2)
  obtain ⟨X, hX⟩ : ∃ X, lebI s.scale = X := ⟨_, rfl⟩
  rw [hX] at CP ⊢
  clear hX
  go_enter Try.func70, Try.ntmps70
  go_wp2_with fail
  refine (CP.out _ _ (by simp [go_sem])).mono ?_
  rintro _ w1 ⟨A1, d1, rfl, ho1, hb1⟩
  have HO := hid (own_base ho1 (show w.heap.size ≤ _ by simp; omega))
  clear ho1
  go_wp2_with fail
  go_ret
  exact ⟨A1, d1, rfl, HO.out, Below.trans (by go_grown) (hb1.mono (by simp; omega))⟩
theorem wx_dense (s : SentV) (p : SentP) (hn : lnS 5000 s) (hw : wfS s) (w : World) (ra : RdS w w.heap.size s p) :
    Calls Try.prog 46 #[encT s p] w (OwnOf 5 .u8 w.heap.size (sgnd s.V) w) := by
  have CP : Hid (∀ (W : World), Below w.heap.size w W → Calls Try.prog 67 #[.slice none 0 0, .slice p.AV s.V.length p.cV] W (OwnOf 5 .u8 W.heap.size (sgnd s.V) W)) := hid (fun W h => by
    have h2 := leb_Signed (A := none) (B := p.AV) (c := 0) (d := p.cV) [] s.V (by simp) hn.2.1 hw.2.2.2.1 W Rd.none_ ((ra.2.1.below h).more h.size)
    rw [List.nil_append] at h2
    exact h2)
  obtain ⟨X, hX⟩ : ∃ X, sgnd s.V = X := ⟨_, rfl⟩
  rw [hX] at CP ⊢
  clear hX ra hn hw
  go_enter Try.func46, Try.ntmps46
  go_wp2_with fail
  refine (CP.out _ (by go_grown)).mono ?_
  rintro _ w1 ⟨A1, d1, rfl, ho1, hb1⟩
  have HO := hid (own_base ho1 (show w.heap.size ≤ _ by simp))
  clear ho1
  go_wp2_with fail
  go_ret
  exact ⟨A1, d1, rfl, HO.out, Below.trans (by go_grown) (hb1.mono (by simp))⟩
theorem wx_sgns (s : SentV) (p : SentP) (hn : lnS 5000 s) (w : World) (ra : RdS w w.heap.size s p) :
    Calls Try.prog 71 #[encT s p] w (OwnOf 5 .u8 w.heap.size (sgnV s.neg) w) := by
  have CP := hid (fun W (h : Below w.heap.size w W) => pl_Signs (A := p.AN) (c := p.cN) s.neg (by have := hn.2.2.2; omega) W ((ra.2.2.2.below h).more h.size))
  obtain ⟨X, hX⟩ : ∃ X, sgnV s.neg = X := ⟨_, rfl⟩
  obtain ⟨E, hE⟩ : ∃ X, sgnE s.neg = X := ⟨_, rfl⟩
  rw [hX, hE] at CP
  rw [hX]
  clear hX hE ra hn
  go_enter Try.func71, Try.ntmps71
  go_wp2_with fail
  refine (CP.out _ (by go_grown)).mono ?_
  rintro _ w1 ⟨A1, d1, rfl, ho1, hb1⟩
  have HO := hid (own_base ho1 (show w.heap.size ≤ _ by simp))
  clear ho1
  go_wp2_with fail
  go_ret
  exact ⟨A1, d1, rfl, HO.out, Below.trans (by go_grown) (hb1.mono (by simp))⟩
theorem wx_top (s : SentV) (p : SentP) (hn : lnS 5000 s) (hw : wfS s) (w : World) (ra : RdS w w.heap.size s p) :
    Calls Try.prog 47 #[encT s p] w (OwnOf 5 .u8 w.heap.size (pixV s.dim s.L ++ sgnd s.V) w) := by
  have CI := hid (fun W (h : Below w.heap.size w W) => ix_Put (A := p.AL) (c := p.cL) s.dim s.L hw.2.1 (by have := hn.1; omega) W ((ra.1.below h).more h.size))
  have CP := hid (fun A c W (h : Below w.heap.size w W) (hr : Rd (Value.int .u8) W W.heap.size A (pixV s.dim s.L)) => leb_Signed (A := A) (B := p.AV) (c := c) (d := p.cV) (pixV s.dim s.L) s.V (by have := pixV_len s.dim s.L; omega) hn.2.1 hw.2.2.2.1 W hr ((ra.2.1.below h).more h.size))
  have hR : pixV s.dim s.L ++ encs (s.V.map zigI) = pixV s.dim s.L ++ sgnd s.V := rfl
  rw [hR] at CP
  obtain ⟨R, hRR⟩ : ∃ R, pixV s.dim s.L ++ sgnd s.V = R := ⟨_, rfl⟩
  rw [hRR] at CP ⊢
  obtain ⟨X, hX⟩ : ∃ X, pixV s.dim s.L = X := ⟨_, rfl⟩
  obtain ⟨E, hE⟩ : ∃ X, chkE s.dim s.L = X := ⟨_, rfl⟩
  rw [hX] at CP
  rw [hX, hE] at CI
  have HB0 := hid (boxT_new w s p 45)
  clear hR hRR hX hE ra hn hw
  go_enter Try.func47, Try.ntmps47
  go_wp2_with fail
  refine (CI.out _ (by go_grown)).mono ?_
  rintro _ w1 ⟨A1, d1, rfl, ho1, hb1⟩
  have k1 : Below w.heap.size w w1 := Below.trans (by go_grown) (hb1.mono (by simp))
  have HB1 := hid (HB0.out.below hb1 (by simp))
  have HR1 := hid (own_rd ho1)
  obtain ⟨⟨c0, c1, c2, c3, c4, c5, c6, c7⟩, _⟩ := HB1.out.eight
  clear hb1 HB0 ho1
  go_wp2_with fail
  refine (CP.out _ _ _ k1 HR1.out).mono ?_
  rintro _ w2 ⟨A2, d2, rfl, ho2, hb2⟩
  have HO := hid (own_base ho2 k1.size)
  clear ho2
  go_wp2_with fail
  go_ret
  exact ⟨A2, d2, rfl, HO.out, k1.trans (hb2.mono k1.size)⟩
theorem wx_sign (s : SentV) (p : SentP) (hn : lnS 5000 s) (h0 : 0 ≤ s.scale) (h1 : s.scale ≤ 9223372036854775807) (w : World) (ra : RdS w w.heap.size s p) :
    Calls Try.prog 49 #[encT s p] w (OwnOf 5 .u8 w.heap.size (lebI s.scale ++ sgnV s.neg) w) := by
  have CSc := hid (fun W => wx_scale s p h0 h1 W)
  have CSg := hid (fun W (h : Below w.heap.size w W) => wx_sgns s p hn W ((ra.1.below h).more h.size |> fun a => ⟨a, (ra.2.1.below h).more h.size, (ra.2.2.1.below h).more h.size, (ra.2.2.2.below h).more h.size⟩))
  have l1 := lebI_ten (n := s.scale) (by unfold U64; omega)
  have l2 : (sgnV s.neg).length ≤ 1000 := by
    by_cases h : s.neg.length ≤ 4096
    · rw [sgnV_len h]; omega
    · unfold sgnV; rw [if_pos (by omega)]; simp
  obtain ⟨X, hX⟩ : ∃ X, lebI s.scale = X := ⟨_, rfl⟩
  obtain ⟨Y, hY⟩ : ∃ X, sgnV s.neg = X := ⟨_, rfl⟩
  rw [hX] at CSc l1
  rw [hY] at CSg l2
  rw [hX, hY]
  have CC : Hid (∀ (A : Option Addr) (c : Nat) (W : World), Below w.heap.size w W → RdRow8 W W.heap.size A [X, Y] → Calls Try.prog 51 #[.slice A 2 c] W fun e w' => ∃ A3 d3, e = .returned (.slice A3 (X ++ Y).length d3) ∧ w'.ownsRow w.heap.size 5 1 (.slice A3 (X ++ Y).length d3) (X ++ Y).length ((X ++ Y).map (Value.int .u8)) ∧ Below W.heap.size W w') := hid (fun A c W h hr => by
    have hh := by_concat (A := A) (c := c) [X, Y] (by simp) (by simp; omega) W hr
    simp only [List.flatten_cons, List.flatten_nil, List.append_nil] at hh
    exact hh.mono fun _ _ ⟨A3, d3, e1, e2, e3⟩ => ⟨A3, d3, e1, own_base e2 h.size, e3⟩)
  obtain ⟨R, hR⟩ : ∃ R, X ++ Y = R := ⟨_, rfl⟩
  rw [hR] at CC ⊢
  clear hX hY hR ra hn l1 l2
  go_enter Try.func49, Try.ntmps49
  go_wp2_with fail
  go_region_held3 (fun w' => w'.cell? ⟨w.heap.size, 0, none⟩ = some (.int .i64 s.sch) ∧ w'.cell? ⟨w.heap.size, 1, none⟩ = some (.int .i64 s.dim) ∧ w'.cell? ⟨w.heap.size, 2, none⟩ = some (.slice p.AL s.L.length p.cL) ∧ w'.cell? ⟨w.heap.size, 3, none⟩ = some (.slice p.AV s.V.length p.cV) ∧ w'.cell? ⟨w.heap.size, 4, none⟩ = some (.int .i64 s.scale) ∧ w'.cell? ⟨w.heap.size, 5, none⟩ = some (.int .i64 s.wide) ∧ w'.cell? ⟨w.heap.size, 6, none⟩ = some (.slice p.AE s.lev.length p.cE) ∧ w'.cell? ⟨w.heap.size, 7, none⟩ = some (.slice p.AN s.neg.length p.cN) ∧ Below w.heap.size w w') (first | exact ⟨by simp [go_sem], by simp [go_sem], by simp [go_sem], by simp [go_sem], by simp [go_sem], by simp [go_sem], by simp [go_sem], by simp [go_sem], by go_grown⟩ | exact held8 (by assumption) hb3 | exact held8 (by assumption) hb2 | exact held8 (by assumption) hb1 | exact held8 (by assumption) (growd _ _))
    (first | (go_at_call 70; refine (CSc.out _).mono ?_; rintro _ w1 ⟨A1, d1, rfl, ho1, hb1⟩) | (go_at_call 71; refine (CSg.out _ (heldB (by assumption))).mono ?_; rintro _ w2 ⟨A2, d2, rfl, ho2, hb2⟩) | (go_at_call 51; refine (CC.out _ _ _ (heldB (by assumption)) (row8_two X Y _ (own_rd (own_on ho1 hb2)) (own_rd ho2) _)).mono ?_; rintro _ w3 ⟨A3, d3, rfl, ho3, hb3⟩))
  all_goals
    have HO := hid ho3
    clear ho1 ho2 ho3
    go_wp2_with fail
    go_ret
    exact ⟨A3, d3, rfl, HO.out, heldB (by assumption)⟩
end Go.Proofs.Ythcigkcnknibgaa
/- A vector's body with levels, by the program. -/
namespace Go.Proofs.Ythcigkcnknibgaa
open Go.RowKit
set_option maxHeartbeats 1000000
set_option maxRecDepth 100000
set_option linter.unusedVariables false
theorem row8_fourG {A1 A2 A3 A4 : Option Addr} {c1 c2 c3 c4 g : Nat} (x1 x2 x3 x4 : List Int) (W : World) (r1 : Rd (Value.int .u8) W W.heap.size A1 x1) (r2 : Rd (Value.int .u8) W W.heap.size A2 x2) (r3 : Rd (Value.int .u8) W W.heap.size A3 x3) (r4 : Rd (Value.int .u8) W W.heap.size A4 x4) (t : TypeId) (hg : g = W.heap.size) :
    RdRow8 (W.alloc (.cells #[.slice A1 x1.length c1, .slice A2 x2.length c2, .slice A3 x3.length c3, .slice A4 x4.length c4] t)) (W.alloc (.cells #[.slice A1 x1.length c1, .slice A2 x2.length c2, .slice A3 x3.length c3, .slice A4 x4.length c4] t)).heap.size (some ⟨g, 0, none⟩) [x1, x2, x3, x4] := by
  subst hg
  exact row8_four x1 x2 x3 x4 W r1 r2 r3 r4 t
theorem wx_level (s : SentV) (p : SentP) (hn : lnS 5000 s) (hw : wfS s) (h0 : 0 ≤ s.scale) (h1 : 1 ≤ s.wide) (h8 : s.wide ≤ 8) (hl4 : s.lev.length ≤ 4096) (hf : fitsB s.wide s.lev = true) (w : World) (ra : RdS w w.heap.size s p) :
    Calls Try.prog 48 #[encT s p] w (OwnOf 5 .u8 w.heap.size (lebI s.scale ++ ((s.wide :: wevV s.wide s.lev) ++ sgnV s.neg)) w) := by
  have hsc : I64 s.scale := hw.2.2.2.2.1
  have hwd : I64 s.wide := hw.2.2.2.2.2.1
  unfold I64 at hsc
  have CSc := hid (fun W => wx_scale s p h0 hsc.2 W)
  have CSg := hid (fun W (h : Below w.heap.size w W) => wx_sgns s p hn W ⟨(ra.1.below h).more h.size, (ra.2.1.below h).more h.size, (ra.2.2.1.below h).more h.size, (ra.2.2.2.below h).more h.size⟩)
  have CWv := hid (fun W (h : Below w.heap.size w W) => pl_Weave (A := p.AE) (c := p.cE) s.wide s.lev hwd (by omega) hw.2.2.2.2.2.2 W ((ra.2.2.1.below h).more h.size))
  have hb8 : bysE s.wide s.lev.length = 0 := by unfold bysE; rw [if_neg (by omega), if_neg (by omega)]
  have hme : mayE s.wide s.lev = 0 := by unfold mayE; rw [if_pos hb8, if_pos hf]
  rw [hme] at CWv
  have hwl := ((may_same s.wide s.lev).2 hme).2
  have hwl2 : (wevV s.wide s.lev).length ≤ 5000 := by
    have h9 : s.wide.toNat * s.lev.length ≤ 8 * 4096 := Nat.mul_le_mul (by omega) (by omega)
    rw [hwl]; omega
  have l1 := lebI_ten (n := s.scale) (by unfold U64; omega)
  have l2 : (sgnV s.neg).length ≤ 1000 := by
    by_cases h : s.neg.length ≤ 4096
    · rw [sgnV_len h]; omega
    · unfold sgnV; rw [if_pos (by omega)]; simp
  obtain ⟨X, hX⟩ : ∃ X, lebI s.scale = X := ⟨_, rfl⟩
  obtain ⟨NV, hY⟩ : ∃ X, sgnV s.neg = X := ⟨_, rfl⟩
  obtain ⟨WV, hV⟩ : ∃ X, wevV s.wide s.lev = X := ⟨_, rfl⟩
  rw [hX] at CSc l1
  rw [hY] at CSg l2
  rw [hV] at CWv hwl2
  rw [hX, hY, hV]
  obtain ⟨R, hR⟩ : ∃ R, X ++ ((s.wide :: WV) ++ NV) = R := ⟨_, rfl⟩
  have CC : Hid (∀ (A : Option Addr) (c : Nat) (W : World), Below w.heap.size w W → RdRow8 W W.heap.size A [X, [s.wide], WV, NV] → Calls Try.prog 51 #[.slice A 4 c] W fun e w' => ∃ A3 d3, e = .returned (.slice A3 R.length d3) ∧ w'.ownsRow w.heap.size 5 1 (.slice A3 R.length d3) R.length (R.map (Value.int .u8)) ∧ Below W.heap.size W w') := hid (fun A c W h hr => by
    have hh := by_concat (A := A) (c := c) [X, [s.wide], WV, NV] (by simp) (by simp; omega) W hr
    have e : [X, [s.wide], WV, NV].flatten = R := by rw [← hR]; simp
    rw [e] at hh
    exact hh.mono fun _ _ ⟨A3, d3, e1, e2, e3⟩ => ⟨A3, d3, e1, own_base e2 h.size, e3⟩)
  have HB0 := hid (boxT_new w s p 45)
  have hwb : s.wide % 256 = s.wide := by omega
  have hwb2 : IntKind.u8.wrap s.wide = s.wide := by rw [IntKind.wrap_u8]; omega
  rw [hR]
  clear hwb hX hY hV hR ra hn l1 l2 hwl hwl2 hb8 hme hf hw hwd
  go_enter Try.func48, Try.ntmps48
  go_wp2_with fail
  refine (CWv.out _ (by go_grown)).mono ?_
  rintro _ w0 ⟨AW, dW, rfl, ho0, hb0⟩
  have k0 : Below w.heap.size w w0 := Below.trans (by go_grown) (hb0.mono (by simp))
  have HB1 := hid (HB0.out.below hb0 (by simp))
  have HRW : Hid (Rd (Value.int .u8) w0.drew w0.drew.heap.size AW WV) := hid (own_rd ho0)
  clear hb0 HB0 ho0 CWv
  go_wp2_with fail
  obtain ⟨⟨c0, c1, c2, c3, c4, c5, c6, c7⟩, _⟩ := HB1.out.eight
  go_region_held3 (fun w' => w'.cell? ⟨w.heap.size, 0, none⟩ = some (.int .i64 s.sch) ∧ w'.cell? ⟨w.heap.size, 1, none⟩ = some (.int .i64 s.dim) ∧ w'.cell? ⟨w.heap.size, 2, none⟩ = some (.slice p.AL s.L.length p.cL) ∧ w'.cell? ⟨w.heap.size, 3, none⟩ = some (.slice p.AV s.V.length p.cV) ∧ w'.cell? ⟨w.heap.size, 4, none⟩ = some (.int .i64 s.scale) ∧ w'.cell? ⟨w.heap.size, 5, none⟩ = some (.int .i64 s.wide) ∧ w'.cell? ⟨w.heap.size, 6, none⟩ = some (.slice p.AE s.lev.length p.cE) ∧ w'.cell? ⟨w.heap.size, 7, none⟩ = some (.slice p.AN s.neg.length p.cN) ∧ Below w.heap.size w w') (first | exact ⟨c0, c1, c2, c3, c4, c5, c6, c7, k0.drew⟩ | exact held8 (by assumption) hb3 | exact held8 (by assumption) hb2 | exact held8 (by assumption) hb1 | exact held8 (by assumption) (growd _ _))
    (first | (go_at_call 70; refine (CSc.out _).mono ?_; rintro _ w1 ⟨A1, d1, rfl, ho1, hb1⟩) | (go_at_call 71; refine (CSg.out _ (heldB (by assumption))).mono ?_; rintro _ w2 ⟨A2, d2, rfl, ho2, hb2⟩) | (go_at_call 51; (with_reducible have e0 := hb2); (with_reducible have e00 : Below (w0.alloc (.cells #[.int .u8 s.wide] 5)).drew.heap.size (w0.alloc (.cells #[.int .u8 s.wide] 5)).drew w1 := hb1); have r2 := ((show Rd (Value.int .u8) (w0.alloc (.cells #[.int .u8 s.wide] 5)).drew (w0.alloc (.cells #[.int .u8 s.wide] 5)).drew.heap.size (some ⟨w0.heap.size, 0, none⟩) [s.wide] from rd_one (enc := Value.int .u8) (one_cell w0 (.int .u8 s.wide) 5).1).on hb1).on hb2; have r1 := own_rd (own_on ho1 hb2); have r3 := ((show Rd (Value.int .u8) (w0.alloc (.cells #[.int .u8 s.wide] 5)).drew (w0.alloc (.cells #[.int .u8 s.wide] 5)).drew.heap.size AW WV from (show Rd (Value.int .u8) w0 w0.heap.size AW WV from HRW.out).on (growd w0 (.cells #[.int .u8 s.wide] 5)).drew).on hb1).on hb2; have r4 := own_rd ho2; refine (CC.out _ _ _ (heldB (by assumption)) (row8_fourG X [s.wide] WV NV _ r1 r2 r3 r4 _ (by first | rfl | simp))).mono ?_; rintro _ w3 ⟨A3, d3, rfl, ho3, hb3⟩) | (go_at_call 51; (with_reducible have r2 := (rd_one (enc := Value.int .u8) (one_cell w1 (.int .u8 s.wide) 5).1).on hb2); have e1 := (growd w1 (.cells #[.int .u8 s.wide] 5)).trans (hb2.mono (growd w1 (.cells #[.int .u8 s.wide] 5)).size); have r1 := own_rd (own_on ho1 e1); have r3 := (HRW.out.on hb1).on e1; have r4 := own_rd ho2; refine (CC.out _ _ _ (heldB (by assumption)) (row8_fourG X [s.wide] WV NV _ r1 r2 r3 r4 _ (by first | rfl | simp))).mono ?_; rintro _ w3 ⟨A3, d3, rfl, ho3, hb3⟩) | (go_at_call 51; have r2 := (rd_one (enc := Value.int .u8) (one_cell w2 (.int .u8 s.wide) 5).1); have e1 := growd w2 (.cells #[.int .u8 s.wide] 5); have r1 := own_rd (own_on (own_on ho1 hb2) e1); have r3 := ((HRW.out.on hb1).on hb2).on e1; have r4 := own_rd (own_on ho2 e1); refine (CC.out _ _ _ (heldB (by assumption)) (row8_fourG X [s.wide] WV NV _ r1 r2 r3 r4 _ (by first | rfl | simp))).mono ?_; rintro _ w3 ⟨A3, d3, rfl, ho3, hb3⟩) | fail)
  all_goals
    have HO := hid ho3
    clear r1 r2 r3 r4 ho1 ho2 ho3
    go_wp2_with fail
    go_ret
    exact ⟨A3, d3, rfl, HO.out, heldB (by assumption)⟩
end Go.Proofs.Ythcigkcnknibgaa
