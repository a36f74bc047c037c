
/- YFrB: texts joined: FrB. -/
import Derived.Test.YtecgbelgoomneaaGreatYa
/- Whether a vector may be, a frame may be; an acknowledgement: by the document. -/
namespace Go.Proofs.YtecgbelgoomneaaGreat
open Go.RowKit
set_option maxHeartbeats 400000
set_option maxRecDepth 100000
set_option linter.unusedVariables false
def bigS (s : SentV) : Bool := decide (500 < s.L.length ∨ 500 < s.V.length ∨ 500 < s.lev.length ∨ 500 < s.neg.length)
theorem big_ln {s : SentV} (h : bigS s = false) : lnS 500 s := by
  unfold bigS at h
  rw [decide_eq_false_iff_not] at h
  exact ⟨by omega, by omega, by omega, by omega⟩
theorem ret_of {v R : Bool} (h : v = true ↔ R = true) : Ending.returned (Value.bool v) = Ending.returned (Value.bool R) := by
  cases v <;> cases R <;> simp_all
theorem ref_Big (s : SentV) (p : SentP) (w : World) :
    Calls Tryz.prog 19 #[encT s p] w fun e w' => e = .returned (.bool (bigS s)) ∧ Below w.heap.size w w' := by
  have HR : bigS s = true ↔ (500 < s.L.length ∨ 500 < s.V.length ∨ 500 < s.lev.length ∨ 500 < s.neg.length) := by
    unfold bigS; rw [decide_eq_true_eq]
  obtain ⟨R, hR⟩ : ∃ R, bigS s = R := ⟨_, rfl⟩
  rw [hR] at HR ⊢
  have HR2 := hid HR
  clear hR HR
  go_enter Tryz.func19, Tryz.ntmps19
  go_wp2_with fail
  all_goals (go_ret; refine ⟨ret_of ?_, by go_grown⟩; rw [HR2.out]; simp; omega)
theorem ref_May0 (s : SentV) (p : SentP) (w : World) (h1 : 1 ≤ s.dim) (h2 : s.dim ≤ 4096) (hs : s.sch = 0) :
    Calls Tryz.prog 43 #[encT s p] w fun e w' => e = .returned (.bool (mayB s)) ∧ Below w.heap.size w w' := by
  have HR : mayB s = true ↔ (s.L = [] ∧ (s.V.length : Int) = s.dim ∧ s.wide = 0 ∧ s.lev = [] ∧ s.scale = 0 ∧ s.neg = []) := by
    rw [mayB_iff]; unfold mayP; simp [h1, h2, hs]
  obtain ⟨R, hR⟩ : ∃ R, mayB s = R := ⟨_, rfl⟩
  rw [hR] at HR ⊢
  have HR2 := hid HR
  clear hR HR
  go_enter Tryz.func43, Tryz.ntmps43
  go_wp2_with fail
  all_goals (go_ret; refine ⟨ret_of ?_, by go_grown⟩; rw [HR2.out]; simp [*])
theorem ref_May3 (s : SentV) (p : SentP) (w : World) (h1 : 1 ≤ s.dim) (h2 : s.dim ≤ 4096) (hs : s.sch = 3) :
    Calls Tryz.prog 43 #[encT s p] w fun e w' => e = .returned (.bool (mayB s)) ∧ Below w.heap.size w w' := by
  have HR : mayB s = true ↔ (s.L = [] ∧ s.V = [] ∧ s.wide = 0 ∧ s.lev = [] ∧ 0 ≤ s.scale ∧ (s.neg.length : Int) = s.dim) := by
    rw [mayB_iff]; unfold mayP; simp [h1, h2, hs]
  obtain ⟨R, hR⟩ : ∃ R, mayB s = R := ⟨_, rfl⟩
  rw [hR] at HR ⊢
  have HR2 := hid HR
  clear hR HR
  go_enter Tryz.func43, Tryz.ntmps43
  go_wp2_with fail
  all_goals (go_ret; refine ⟨ret_of ?_, by go_grown⟩; rw [HR2.out]; first | (simp [*]; done) | (simp [*]; omega))
theorem ref_MayX (s : SentV) (p : SentP) (w : World) (h1 : 1 ≤ s.dim) (h2 : s.dim ≤ 4096) (h0 : s.sch ≠ 0) (h1' : s.sch ≠ 1) (h2' : s.sch ≠ 2) (h3' : s.sch ≠ 3) :
    Calls Tryz.prog 43 #[encT s p] w fun e w' => e = .returned (.bool (mayB s)) ∧ Below w.heap.size w w' := by
  have HR : mayB s = false := mayB_no (by unfold mayP; simp [h0, h1', h2', h3'])
  rw [HR]
  clear HR
  go_enter Tryz.func43, Tryz.ntmps43
  go_wp2_with fail
  all_goals (go_ret; exact ⟨rfl, by go_grown⟩)
theorem ref_MayD (s : SentV) (p : SentP) (w : World) (h : s.dim < 1 ∨ 4096 < s.dim) :
    Calls Tryz.prog 43 #[encT s p] w fun e w' => e = .returned (.bool (mayB s)) ∧ Below w.heap.size w w' := by
  have HR : mayB s = false := mayB_no (fun h2 => by have h3 := h2.1; have h4 := h2.2.1; omega)
  rw [HR]
  clear HR
  rcases h with h | h
  · go_enter Tryz.func43, Tryz.ntmps43
    go_wp2_with fail
    all_goals (go_ret; exact ⟨rfl, by go_grown⟩)
  · go_enter Tryz.func43, Tryz.ntmps43
    go_wp2_with fail
    all_goals (go_ret; exact ⟨rfl, by go_grown⟩)
set_option maxHeartbeats 4000000 in
theorem ref_May1 (s : SentV) (p : SentP) (hn : lnS 100000 s) (w : World) {B : Nat} (hB : B ≤ w.heap.size) (ra : RdS w B s p) (h1 : 1 ≤ s.dim) (h2 : s.dim ≤ 4096) (hs : s.sch = 1) :
    Calls Tryz.prog 43 #[encT s p] w fun e w' => e = .returned (.bool (mayB s)) ∧ Below w.heap.size w w' := by
  have HR : mayB s = true ↔ (chkE s.dim s.L = 0 ∧ s.V.length = s.L.length ∧ s.wide = 0 ∧ s.lev = [] ∧ s.scale = 0 ∧ s.neg = []) := by
    rw [mayB_iff]; unfold mayP; simp [h1, h2, hs]
  have C := hid (fun W (h : Below w.heap.size w W) => ref_Check (A := p.AL) (c := p.cL) s.dim s.L (by unfold I64; omega) (by have := hn.1; omega) W (ra.1.below (h.mono hB)))
  obtain ⟨R, hR⟩ : ∃ R, mayB s = R := ⟨_, rfl⟩
  obtain ⟨E, hE⟩ : ∃ E, chkE s.dim s.L = E := ⟨_, rfl⟩
  rw [hE] at HR C
  rw [hR] at HR ⊢
  have HR2 := hid HR
  clear hR hE HR ra hn
  by_cases hL : s.L = []
  · rw [hL, List.length_nil] at C
    rw [hL, List.length_nil] at HR2
    go_enter Tryz.func43, Tryz.ntmps43
    go_wp2_with fail
    all_goals (refine (C.out _ (by go_grown)).mono ?_; rintro _ _ ⟨rfl, n1, rfl⟩)
    all_goals (go_wp2_with fail)
    all_goals (go_ret; refine ⟨ret_of ?_, Below.trans (by go_grown) (belowN _ _ _)⟩; rw [HR2.out]; first | (simp [*]; done) | (simp [*]; omega))
  · go_enter Tryz.func43, Tryz.ntmps43
    go_wp2_with fail
    all_goals (refine (C.out _ (by go_grown)).mono ?_; rintro _ _ ⟨rfl, n1, rfl⟩)
    all_goals (go_wp2_with fail)
    all_goals (go_ret; refine ⟨ret_of ?_, Below.trans (by go_grown) (belowN _ _ _)⟩; rw [HR2.out]; first | (simp [*]; done) | (simp [*]; omega))
end Go.Proofs.YtecgbelgoomneaaGreat
