
/- Nf: texts joined: FsB FsC. -/
import Derived.Test.YtkcckncglbjjdaaNd
import Derived.Test.YtkcckncglbjjdaaNFrB
import Derived.Test.YtkcckncglbjjdaaNc
/- Whether a vector may be, by the program: an outline, what is left, signs, levels, what its scheme names. -/
namespace Go.Proofs.Ytkcckncglbjjdaa
open Go.RowKit
set_option maxHeartbeats 400000
set_option maxRecDepth 100000
set_option linter.unusedVariables false
attribute [local go_sem] equal_eight
def outL (s : SentV) : List Int := [s.sch, s.dim, s.scale, s.wide, s.L.length, s.V.length, s.lev.length, s.neg.length]
def outV (s : SentV) : Value := .agg #[.int .i64 s.sch, .int .i64 s.dim, .int .i64 s.scale, .int .i64 s.wide, .int .i64 s.L.length, .int .i64 s.V.length, .int .i64 s.lev.length, .int .i64 s.neg.length]
def empB (s : SentV) : Bool := eqB (outL s) [0, 0, 0, 0, 0, 0, 0, 0]
theorem empB_iff {s : SentV} : empB s = true ↔ s.sch = 0 ∧ s.dim = 0 ∧ s.scale = 0 ∧ s.wide = 0 ∧ s.L = [] ∧ s.V = [] ∧ s.lev = [] ∧ s.neg = [] := by
  unfold empB eqB outL
  simp [List.length_eq_zero_iff]
theorem fs_outline (s : SentV) (p : SentP) (w : World) :
    Calls Try.prog 57 #[encT s p] w fun e w' => e = .returned (.agg #[.int .i64 s.sch, .int .i64 s.dim, .int .i64 s.scale, .int .i64 s.wide, .int .i64 s.L.length, .int .i64 s.V.length, .int .i64 s.lev.length, .int .i64 s.neg.length]) ∧ Below w.heap.size w w' := by
  go_enter Try.func57, Try.ntmps57
  go_wp2_with fail
  refine bodyPost_ret (v := .agg #[.int .i64 s.sch, .int .i64 s.dim, .int .i64 s.scale, .int .i64 s.wide, .int .i64 s.L.length, .int .i64 s.V.length, .int .i64 s.lev.length, .int .i64 s.neg.length]) (by simp [results, Try.results57, go_sem]) rfl ⟨rfl, by go_grown⟩
theorem fs_empty (s : SentV) (p : SentP) (w : World) :
    Calls Try.prog 44 #[encT s p] w fun e w' => e = .returned (.bool (empB s)) ∧ Below w.heap.size w w' := by
  have C1 := hid (fun W => fs_outline s p W)
  have C2 := hid (fun W => fs_outline zeroS zeroP W)
  have HE : Hid (∀ X, eqB (outL s) X = X.isEqv (outL s) (fun a b => a == b) ∨ True) := hid (fun _ => Or.inr trivial)
  obtain ⟨R, hR⟩ : ∃ R, empB s = R := ⟨_, rfl⟩
  have HR := hid hR
  rw [hR]
  clear hR HE
  go_enter Try.func44, Try.ntmps44
  go_wp2_with fail
  refine (C1.out _).mono ?_
  rintro _ w1 ⟨rfl, hb1⟩
  have k1 : Below w.heap.size w w1 := Below.trans (by go_grown) (hb1.mono (by simp))
  go_wp2_with fail
  refine (C2.out _).mono ?_
  rintro _ w2 ⟨rfl, hb2⟩
  have k2 := k1.trans (hb2.mono k1.size)
  go_wp2_with fail
  go_ret
  exact ⟨by rw [← HR.out]; rfl, k2⟩
theorem fs_rest0 (s : SentV) (p : SentP) (w : World) (hs : s.sch = 0) :
    Calls Try.prog 45 #[encT s p] w fun e w' => e = .returned (encT ⟨0, 0, s.L, [], s.scale, s.wide, s.lev, s.neg⟩ ⟨p.AL, p.cL, none, 0, p.AE, p.cE, p.AN, p.cN⟩) ∧ Below w.heap.size w w' := by
  go_enter Try.func45, Try.ntmps45
  go_wp2_with fail
  refine bodyPost_ret (v := encT ⟨0, 0, s.L, [], s.scale, s.wide, s.lev, s.neg⟩ ⟨p.AL, p.cL, none, 0, p.AE, p.cE, p.AN, p.cN⟩) (by simp [results, Try.results45, go_sem]) rfl ⟨rfl, by go_grown⟩
theorem fs_rest1 (s : SentV) (p : SentP) (w : World) (hs : s.sch = 1) :
    Calls Try.prog 45 #[encT s p] w fun e w' => e = .returned (encT ⟨0, 0, [], [], s.scale, s.wide, s.lev, s.neg⟩ ⟨none, 0, none, 0, p.AE, p.cE, p.AN, p.cN⟩) ∧ Below w.heap.size w w' := by
  go_enter Try.func45, Try.ntmps45
  go_wp2_with fail
  refine bodyPost_ret (v := encT ⟨0, 0, [], [], s.scale, s.wide, s.lev, s.neg⟩ ⟨none, 0, none, 0, p.AE, p.cE, p.AN, p.cN⟩) (by simp [results, Try.results45, go_sem]) rfl ⟨rfl, by go_grown⟩
theorem fs_rest2 (s : SentV) (p : SentP) (w : World) (hs : s.sch = 2) :
    Calls Try.prog 45 #[encT s p] w fun e w' => e = .returned (encT ⟨0, 0, s.L, s.V, 0, 0, [], []⟩ ⟨p.AL, p.cL, p.AV, p.cV, none, 0, none, 0⟩) ∧ Below w.heap.size w w' := by
  go_enter Try.func45, Try.ntmps45
  go_wp2_with fail
  refine bodyPost_ret (v := encT ⟨0, 0, s.L, s.V, 0, 0, [], []⟩ ⟨p.AL, p.cL, p.AV, p.cV, none, 0, none, 0⟩) (by simp [results, Try.results45, go_sem]) rfl ⟨rfl, by go_grown⟩
theorem fs_rest3 (s : SentV) (p : SentP) (w : World) (hs : s.sch = 3) :
    Calls Try.prog 45 #[encT s p] w fun e w' => e = .returned (encT ⟨0, 0, s.L, s.V, 0, s.wide, s.lev, []⟩ ⟨p.AL, p.cL, p.AV, p.cV, p.AE, p.cE, none, 0⟩) ∧ Below w.heap.size w w' := by
  go_enter Try.func45, Try.ntmps45
  go_wp2_with fail
  refine bodyPost_ret (v := encT ⟨0, 0, s.L, s.V, 0, s.wide, s.lev, []⟩ ⟨p.AL, p.cL, p.AV, p.cV, p.AE, p.cE, none, 0⟩) (by simp [results, Try.results45, go_sem]) rfl ⟨rfl, by go_grown⟩
def sgB (s : SentV) : Bool := decide (0 ≤ s.scale ∧ (s.neg.length : Int) = s.dim)
theorem fs_signs (s : SentV) (p : SentP) (w : World) :
    Calls Try.prog 55 #[encT s p] w fun e w' => e = .returned (.bool (sgB s)) ∧ Below w.heap.size w w' := by
  have HR : sgB s = true ↔ (0 ≤ s.scale ∧ (s.neg.length : Int) = s.dim) := by unfold sgB; rw [decide_eq_true_eq]
  obtain ⟨R, hR⟩ : ∃ R, sgB s = R := ⟨_, rfl⟩
  rw [hR] at HR ⊢
  have HR2 := hid HR
  clear hR HR
  go_enter Try.func55, Try.ntmps55
  go_wp2_with fail
  all_goals (go_ret; refine ⟨ret_of ?_, by go_grown⟩; rw [HR2.out]; first | (simp [*]; done) | (simp [*]; omega))
def lvB (s : SentV) : Bool := decide (1 ≤ s.wide ∧ s.wide ≤ 8 ∧ (s.lev.length : Int) = s.dim ∧ fitsB s.wide s.lev = true)
theorem width_lv {g : Nat} {wd x : Int} {w : World} (hc : w.cell? ⟨g, 5, none⟩ = some (.int .i64 wd)) (ux : U64 x) :
    Calls Try.prog 66 (#[.int .u64 x] ++ #[.pointer (some ⟨g, 0, none⟩)]) w fun e w' => e = .returned (.bool (decide (wd < (wdt x : Int)))) ∧ ∃ n, w' = w.drewN n := by
  have CW := hid (fun W => pl_Width x ux W)
  obtain ⟨z, hz⟩ : ∃ z, wdt x = z := ⟨_, rfl⟩
  rw [hz] at CW ⊢
  clear hz
  go_enter Try.func66, Try.ntmps66
  go_wp2_with fail
  go_quiet ((go_at_call 67; exact quietL CW.out _))
  go_wp2_with fail
  go_ret
  exact ⟨rfl, _, rfl⟩
theorem fs_levels (s : SentV) (p : SentP) (hn : lnS 100000 s) (ul : U64s s.lev) (w : World) {B : Nat} (hB : B ≤ w.heap.size) (ra : RdS w B s p) :
    Calls Try.prog 56 #[encT s p] w fun e w' => e = .returned (.bool (lvB s)) ∧ Below w.heap.size w w' := by
  have HR : lvB s = true ↔ (1 ≤ s.wide ∧ s.wide ≤ 8 ∧ (s.lev.length : Int) = s.dim ∧ fitsB s.wide s.lev = true) := by unfold lvB; rw [decide_eq_true_eq]
  obtain ⟨R, hR⟩ : ∃ R, lvB s = R := ⟨_, rfl⟩
  rw [hR] at HR ⊢
  have CC : Hid (∀ W, Below w.heap.size w W → W.cell? ⟨w.heap.size, 5, none⟩ = some (.int .i64 s.wide) → Calls Try.prog 65 #[.slice p.AE s.lev.length p.cE, .func (.func 66) #[] #[.pointer (some ⟨w.heap.size, 0, none⟩)]] W fun e w' => e = .returned (.bool (!fitsB s.wide s.lev)) ∧ ∃ n, w' = W.drewN n) := hid (fun W hb hc => by
    have h := contains_any (A := p.AE) (c := p.cE) 66 #[.pointer (some ⟨w.heap.size, 0, none⟩)] s.lev (by have := hn.2.2.1; omega) (fun x => decide (s.wide < (wdt x : Int))) W (cl_enter 66 (by kernel_rfl)) (ra.2.2.1.below (hb.mono hB)) (fun x hx n => width_lv (w := W.drewN n) hc (ul x hx))
    rw [any_fits] at h
    exact h)
  obtain ⟨v, hv⟩ : ∃ v, fitsB s.wide s.lev = v := ⟨_, rfl⟩
  rw [hv] at HR CC
  have HR2 := hid HR
  clear hR HR hv ra hn ul
  go_enter Try.func56, Try.ntmps56
  go_wp2_with fail
  any_goals (go_ret; refine ⟨ret_of ?_, by go_grown⟩; rw [HR2.out]; first | (simp [*]; done) | (simp [*]; omega))
  refine (CC.out _ (by go_grown) (by simp [go_sem])).mono ?_
  rintro _ _ ⟨rfl, n1, rfl⟩
  go_wp2_with fail
  go_ret
  refine ⟨ret_of ?_, Below.trans (by go_grown) (belowN _ _ _)⟩
  rw [HR2.out]
  first | (simp [*]; done) | (simp [*]; omega)
end Go.Proofs.Ytkcckncglbjjdaa
/- Whether a vector may be, by the program. -/
namespace Go.Proofs.Ytkcckncglbjjdaa
open Go.RowKit
set_option maxHeartbeats 400000
set_option maxRecDepth 100000
set_option linter.unusedVariables false
def namP (s : SentV) : Prop := (s.sch = 0 ∧ (s.V.length : Int) = s.dim) ∨ (s.sch = 1 ∧ chkE s.dim s.L = 0 ∧ s.V.length = s.L.length) ∨ (s.sch = 2 ∧ sgB s = true ∧ lvB s = true) ∨ (s.sch = 3 ∧ sgB s = true)
instance (s : SentV) : Decidable (namP s) := by unfold namP; infer_instance
def namB (s : SentV) : Bool := decide (namP s)
theorem namB_iff {s : SentV} : namB s = true ↔ namP s := by unfold namB; exact decide_eq_true_iff
theorem boxT_new (w : World) (s : SentV) (p : SentP) (t : TypeId) : BoxL (w.alloc (.cells #[.int .i64 s.sch, .int .i64 s.dim, .slice p.AL s.L.length p.cL, .slice p.AV s.V.length p.cV, .int .i64 s.scale, .int .i64 s.wide, .slice p.AE s.lev.length p.cE, .slice p.AN s.neg.length p.cN] t)) w.heap.size
    [.int .i64 s.sch, .int .i64 s.dim, .slice p.AL s.L.length p.cL, .slice p.AV s.V.length p.cV, .int .i64 s.scale, .int .i64 s.wide, .slice p.AE s.lev.length p.cE, .slice p.AN s.neg.length p.cN] := BoxL.new w _ t
theorem fs_named0 (s : SentV) (p : SentP) (w : World) (hs : s.sch = 0) :
    Calls Try.prog 43 #[encT s p] w fun e w' => e = .returned (.bool (namB s)) ∧ Below w.heap.size w w' := by
  have HR : namB s = true ↔ (s.V.length : Int) = s.dim := by rw [namB_iff]; unfold namP; simp [hs]
  obtain ⟨R, hR⟩ : ∃ R, namB s = R := ⟨_, rfl⟩
  rw [hR] at HR ⊢
  have HR2 := hid HR
  clear hR HR
  go_enter Try.func43, Try.ntmps43
  go_wp2_with fail
  all_goals (go_ret; refine ⟨ret_of ?_, by go_grown⟩; rw [HR2.out]; first | (simp [*]; done) | (simp [*]; omega))
theorem fs_named1 (s : SentV) (p : SentP) (hn : lnS 100000 s) (hd : I64 s.dim) (w : World) (ra : RdS w w.heap.size s p) (hs : s.sch = 1) :
    Calls Try.prog 43 #[encT s p] w fun e w' => e = .returned (.bool (namB s)) ∧ Below w.heap.size w w' := by
  have HR : namB s = true ↔ (chkE s.dim s.L = 0 ∧ s.V.length = s.L.length) := by rw [namB_iff]; unfold namP; simp [hs]
  have C := hid (fun W (h : Below w.heap.size w W) => ix_Check (A := p.AL) (c := p.cL) s.dim s.L hd (by have := hn.1; omega) W ((ra.1.below h).more h.size))
  obtain ⟨R, hR⟩ : ∃ R, namB s = R := ⟨_, rfl⟩
  rw [hR] at HR ⊢
  obtain ⟨E, hE⟩ : ∃ E, chkE s.dim s.L = E := ⟨_, rfl⟩
  rw [hE] at HR C
  have HR2 := hid HR
  have HB0 := hid (boxT_new w s p 27)
  clear hR HR hE ra hn hd
  have g0 : (s.sch == 0) = false := by rw [hs]; rfl
  have g1 : (s.sch == 1) = true := by rw [hs]; rfl
  clear hs
  go_enter Try.func43, Try.ntmps43
  go_wp2_with fail
  refine (C.out _ (by go_grown)).mono ?_
  rintro _ w1 ⟨rfl, hb1⟩
  have k1 : Below w.heap.size w w1 := Below.trans (by go_grown) (hb1.mono (by simp))
  have HB1 := hid (HB0.out.below hb1 (by simp))
  obtain ⟨⟨c0, c1, c2, c3, c4, c5, c6, c7⟩, _⟩ := HB1.out.eight
  clear hb1 HB0
  go_wp2_with fail
  all_goals (go_ret; refine ⟨ret_of ?_, k1⟩; rw [HR2.out]; first | (simp [*]; done) | (simp [*]; omega))
theorem fs_named2 (s : SentV) (p : SentP) (hn : lnS 100000 s) (ul : U64s s.lev) (w : World) (ra : RdS w w.heap.size s p) (hs : s.sch = 2) :
    Calls Try.prog 43 #[encT s p] w fun e w' => e = .returned (.bool (namB s)) ∧ Below w.heap.size w w' := by
  have HR : namB s = true ↔ (sgB s = true ∧ lvB s = true) := by rw [namB_iff]; unfold namP; simp [hs]
  have C := hid (fun W => fs_signs s p W)
  have D := hid (fun W (h : Below w.heap.size w W) => fs_levels s p hn ul W h.size (ra.below h))
  obtain ⟨R, hR⟩ : ∃ R, namB s = R := ⟨_, rfl⟩
  rw [hR] at HR ⊢
  obtain ⟨v1, h1⟩ : ∃ E, sgB s = E := ⟨_, rfl⟩
  rw [h1] at HR C
  obtain ⟨v2, h2⟩ : ∃ E, lvB s = E := ⟨_, rfl⟩
  rw [h2] at HR D
  have HR2 := hid HR
  have HB0 := hid (boxT_new w s p 27)
  clear hR HR h1 h2 ra hn ul
  have g0 : (s.sch == 0) = false := by rw [hs]; rfl
  have g1 : (s.sch == 1) = false := by rw [hs]; rfl
  have g2 : (s.sch == 2) = true := by rw [hs]; rfl
  clear hs
  go_enter Try.func43, Try.ntmps43
  go_wp2_with fail
  refine (C.out _).mono ?_
  rintro _ w1 ⟨rfl, hb1⟩
  have k1 : Below w.heap.size w w1 := Below.trans (by go_grown) (hb1.mono (by simp))
  have HB1 := hid (HB0.out.below hb1 (by simp))
  obtain ⟨⟨c0, c1, c2, c3, c4, c5, c6, c7⟩, _⟩ := HB1.out.eight
  clear hb1 HB0
  cases v1 with
  | false =>
    go_wp2_with fail
    go_ret
    exact ⟨ret_of (by rw [HR2.out]; simp), k1⟩
  | true =>
    go_wp2_with fail
    refine (D.out _ k1).mono ?_
    rintro _ w2 ⟨rfl, hb2⟩
    go_wp2_with fail
    go_ret
    exact ⟨ret_of (by rw [HR2.out]; simp), k1.trans (hb2.mono k1.size)⟩
theorem fs_named3 (s : SentV) (p : SentP) (w : World) (hs : s.sch = 3) :
    Calls Try.prog 43 #[encT s p] w fun e w' => e = .returned (.bool (namB s)) ∧ Below w.heap.size w w' := by
  have HR : namB s = true ↔ (sgB s = true) := by rw [namB_iff]; unfold namP; simp [hs]
  have C := hid (fun W => fs_signs s p W)
  obtain ⟨R, hR⟩ : ∃ R, namB s = R := ⟨_, rfl⟩
  rw [hR] at HR ⊢
  obtain ⟨v1, h1⟩ : ∃ E, sgB s = E := ⟨_, rfl⟩
  rw [h1] at HR C
  have HR2 := hid HR
  clear hR HR h1
  have g0 : (s.sch == 0) = false := by rw [hs]; rfl
  have g1 : (s.sch == 1) = false := by rw [hs]; rfl
  have g2 : (s.sch == 2) = false := by rw [hs]; rfl
  have g3 : (s.sch == 3) = true := by rw [hs]; rfl
  clear hs
  go_enter Try.func43, Try.ntmps43
  go_wp2_with fail
  refine (C.out _).mono ?_
  rintro _ w1 ⟨rfl, hb1⟩
  have k1 : Below w.heap.size w w1 := Below.trans (by go_grown) (hb1.mono (by simp))
  go_wp2_with fail
  go_ret
  exact ⟨ret_of (by rw [HR2.out]), k1⟩
theorem fs_namedX (s : SentV) (p : SentP) (w : World) (h0 : s.sch ≠ 0) (h1 : s.sch ≠ 1) (h2 : s.sch ≠ 2) (h3 : s.sch ≠ 3) :
    Calls Try.prog 43 #[encT s p] w fun e w' => e = .returned (.bool (namB s)) ∧ Below w.heap.size w w' := by
  have hR : namB s = false := decide_eq_false (by unfold namP; simp [h0, h1, h2, h3])
  rw [hR]
  clear hR
  go_enter Try.func43, Try.ntmps43
  go_wp2_with fail
  go_ret
  exact ⟨rfl, by go_grown⟩
theorem fs_named (s : SentV) (p : SentP) (hn : lnS 100000 s) (hw : wfS s) (w : World) (ra : RdS w w.heap.size s p) :
    Calls Try.prog 43 #[encT s p] w fun e w' => e = .returned (.bool (namB s)) ∧ Below w.heap.size w w' := by
  by_cases h0 : s.sch = 0
  · exact fs_named0 s p w h0
  · by_cases h1 : s.sch = 1
    · exact fs_named1 s p hn hw.2.1 w ra h1
    · by_cases h2 : s.sch = 2
      · exact fs_named2 s p hn hw.2.2.2.2.2.2 w ra h2
      · by_cases h3 : s.sch = 3
        · exact fs_named3 s p w h3
        · exact fs_namedX s p w h0 h1 h2 h3
theorem may_named {s : SentV} (h : mayP s) : namP s := by
  obtain ⟨h1, h2, h⟩ := h
  unfold namP sgB lvB
  rcases h with h | h | h | h
  · exact Or.inl ⟨h.1, h.2.2.1⟩
  · exact Or.inr (Or.inl ⟨h.1, h.2.1, h.2.2.1⟩)
  · exact Or.inr (Or.inr (Or.inl ⟨h.1, by simp [h.2.2.2.2.2.2.2.1, h.2.2.2.2.2.2.2.2], by simp [h.2.1, h.2.2.1, h.2.2.2.1, h.2.2.2.2.1]⟩))
  · exact Or.inr (Or.inr (Or.inr ⟨h.1, by simp [h.2.2.2.2.2.1, h.2.2.2.2.2.2]⟩))
/-- What is asked at the end, for any way that is left. -/
theorem fs_MayK (s t : SentV) (p q : SentP) (hn : lnS 100000 s) (hw : wfS s) (w : World) (ra : RdS w w.heap.size s p) (h1 : 1 ≤ s.dim) (h2 : s.dim ≤ 4096)
    (CR : ∀ W : World, Calls Try.prog 45 #[encT s p] W fun e w' => e = .returned (encT t q) ∧ Below W.heap.size W w') (hM : mayB s = true ↔ (namB s = true ∧ empB t = true)) :
    Calls Try.prog 27 #[encT s p] w fun e w' => e = .returned (.bool (mayB s)) ∧ Below w.heap.size w w' := by
  have C := hid (fun W (h : Below w.heap.size w W) => fs_named s p hn hw W ((ra.below h).more h.size))
  have D := hid CR
  have E := hid (fun W => fs_empty t q W)
  obtain ⟨R, hR⟩ : ∃ R, mayB s = R := ⟨_, rfl⟩
  rw [hR] at hM ⊢
  obtain ⟨v1, e1⟩ : ∃ E, namB s = E := ⟨_, rfl⟩
  rw [e1] at hM C
  obtain ⟨v2, e2⟩ : ∃ E, empB t = E := ⟨_, rfl⟩
  rw [e2] at hM E
  have HR2 := hid hM
  have HB0 := hid (boxT_new w s p 27)
  clear hR hM e1 e2 ra hn hw CR
  go_enter Try.func27, Try.ntmps27
  go_wp2_with fail
  refine (C.out _ (by go_grown)).mono ?_
  rintro _ w1 ⟨rfl, hb1⟩
  have k1 : Below w.heap.size w w1 := Below.trans (by go_grown) (hb1.mono (by simp))
  have HB1 := hid (HB0.out.below hb1 (by simp))
  obtain ⟨⟨c0, c1, c2, c3, c4, c5, c6, c7⟩, _⟩ := HB1.out.eight
  clear hb1 HB0
  cases v1 with
  | false =>
    go_wp2_with fail
    go_ret
    exact ⟨ret_of (by rw [HR2.out]; simp), k1⟩
  | true =>
    go_wp2_with fail
    refine (D.out _).mono ?_
    rintro _ w2 ⟨rfl, hb2⟩
    have k2 := k1.trans (hb2.mono k1.size)
    clear c0 c1 c2 c3 c4 c5 c6 c7
    go_wp2_with fail
    refine (E.out _).mono ?_
    rintro _ w3 ⟨rfl, hb3⟩
    have k3 := k2.trans (hb3.mono k2.size)
    go_wp2_with fail
    go_ret
    exact ⟨ret_of (by rw [HR2.out]; simp), k3⟩
theorem fs_MayD (s : SentV) (p : SentP) (w : World) (h : s.dim < 1 ∨ 4096 < s.dim) :
    Calls Try.prog 27 #[encT s p] w fun e w' => e = .returned (.bool (mayB s)) ∧ Below w.heap.size w w' := by
  have HR : mayB s = false := mayB_no (fun h2 => by have h3 := h2.1; have h4 := h2.2.1; omega)
  rw [HR]
  clear HR
  rcases h with h | h
  · go_enter Try.func27, Try.ntmps27
    go_wp2_with fail
    all_goals (go_ret; exact ⟨rfl, by go_grown⟩)
  · go_enter Try.func27, Try.ntmps27
    go_wp2_with fail
    all_goals (go_ret; exact ⟨rfl, by go_grown⟩)
theorem fs_May (s : SentV) (p : SentP) (hn : lnS 100000 s) (hw : wfS s) (w : World) (ra : RdS w w.heap.size s p) :
    Calls Try.prog 27 #[encT s p] w fun e w' => e = .returned (.bool (mayB s)) ∧ Below w.heap.size w w' := by
  by_cases hd : 1 ≤ s.dim ∧ s.dim ≤ 4096
  · by_cases h0 : s.sch = 0
    · refine fs_MayK s _ p _ hn hw w ra hd.1 hd.2 (fun W => fs_rest0 s p W h0) ?_
      rw [mayB_iff, namB_iff, empB_iff]; unfold mayP namP sgB lvB
      simp [h0, hd.1, hd.2]
      constructor
      · rintro ⟨a, b, c, d, e, f⟩; exact ⟨b, e, c, a, d, f⟩
      · rintro ⟨b, e, c, a, d, f⟩; exact ⟨a, b, c, d, e, f⟩
    · by_cases h1 : s.sch = 1
      · refine fs_MayK s _ p _ hn hw w ra hd.1 hd.2 (fun W => fs_rest1 s p W h1) ?_
        rw [mayB_iff, namB_iff, empB_iff]; unfold mayP namP sgB lvB
        simp [h1, hd.1, hd.2]
        constructor
        · rintro ⟨a, b, c, d, e, f⟩; exact ⟨⟨a, b⟩, e, c, d, f⟩
        · rintro ⟨⟨a, b⟩, e, c, d, f⟩; exact ⟨a, b, c, d, e, f⟩
      · by_cases h2 : s.sch = 2
        · refine fs_MayK s _ p _ hn hw w ra hd.1 hd.2 (fun W => fs_rest2 s p W h2) ?_
          rw [mayB_iff, namB_iff, empB_iff]; unfold mayP namP sgB lvB
          simp [h2, hd.1, hd.2]
          constructor
          · rintro ⟨a, b, c, d, e, f, g, h⟩; exact ⟨⟨⟨g, h⟩, a, b, c, d⟩, e, f⟩
          · rintro ⟨⟨⟨g, h⟩, a, b, c, d⟩, e, f⟩; exact ⟨a, b, c, d, e, f, g, h⟩
        · by_cases h3 : s.sch = 3
          · refine fs_MayK s _ p _ hn hw w ra hd.1 hd.2 (fun W => fs_rest3 s p W h3) ?_
            rw [mayB_iff, namB_iff, empB_iff]; unfold mayP namP sgB lvB
            simp [h3, hd.1, hd.2]
            constructor
            · rintro ⟨a, b, c, d, e, f⟩; exact ⟨⟨e, f⟩, c, a, b, d⟩
            · rintro ⟨⟨e, f⟩, c, a, b, d⟩; exact ⟨a, b, c, d, e, f⟩
          · have hN : namB s = false := decide_eq_false (by unfold namP; simp [h0, h1, h2, h3])
            have hM : mayB s = false := mayB_no (fun h => by have := may_named h; unfold namB at hN; rw [decide_eq_false_iff_not] at hN; exact hN this)
            have C := hid (fun W (h : Below w.heap.size w W) => fs_named s p hn hw W ((ra.below h).more h.size))
            rw [hN] at C
            rw [hM]
            obtain ⟨hd1, hd2⟩ := hd
            clear hN hM h0 h1 h2 h3 ra hn hw
            go_enter Try.func27, Try.ntmps27
            go_wp2_with fail
            refine (C.out _ (by go_grown)).mono ?_
            rintro _ w1 ⟨rfl, hb1⟩
            have k1 : Below w.heap.size w w1 := Below.trans (by go_grown) (hb1.mono (by simp))
            go_wp2_with fail
            go_ret
            exact ⟨rfl, k1⟩
  · exact fs_MayD s p w (by omega)
end Go.Proofs.Ytkcckncglbjjdaa
