
/- Ze: texts joined: SgB FrD FrE FsC SpA SpB FsG FsL FsQ FsD FrF FsS FrK ArgF ArgV. -/
import Derived.Test.YtecgbelgoomneaaGreatZd
import Derived.Test.YtecgbelgoomneaaGreatZFrC
import Derived.Test.YtecgbelgoomneaaGreatZb
import Derived.Test.YtecgbelgoomneaaGreatZa
import Derived.Deep.RegionLaw
import Derived.Test.YtecgbelgoomneaaGreatZFsB
import Derived.Test.YtecgbelgoomneaaGreatZc
import Derived.Deep.RegionHeld3
import Derived.BigQuiet
import Derived.ChangeSame
/- Loosened; whether one is pressed so: by the document. -/
namespace Go.Proofs.YtecgbelgoomneaaGreat
open Go.RowKit
set_option maxHeartbeats 1000000
set_option maxRecDepth 100000
set_option linter.unusedVariables false
/-- Whether one is pressed so. -/
def isSB (v : List Int) (s : SentV) : Bool := decide (mnE v = 0) && sameS (sgS v) s
theorem sgS_ln (v : List Int) : lnS 4096 (sgS v) := by
  unfold sgS
  split
  · rename_i h
    have h2 := (sizeV_is (mnE_ok.1 h).2).1
    exact ⟨by simp, by simp, by simp, by show (sgN v).length ≤ 4096; rw [sgN_len]; exact h2⟩
  · exact ⟨by simp [zeroS], by simp [zeroS], by simp [zeroS], by simp [zeroS]⟩
theorem sgS_wf {v : List Int} : wfS (sgS v) := by
  unfold sgS
  split
  · rename_i h
    have h2 := sizeV_is (mnE_ok.1 h).2
    have h3 := mnN_le v
    have h4 : mnV v = (mnN v : Int) := if_pos h
    refine ⟨by show I64 3; decide, by show I64 (v.length : Int); unfold I64; omega, by simp, by simp, by show I64 (mnV v); rw [h4]; unfold I64; omega, by show I64 0; decide, by intro x hx; simp at hx⟩
  · exact ⟨by show I64 0; decide, by show I64 0; decide, by simp [zeroS], by simp [zeroS], by show I64 0; decide, by show I64 0; decide, by simp [zeroS, U64s]⟩
end Go.Proofs.YtecgbelgoomneaaGreat
/- Whether a frame may be, and is the same; an acknowledgement: by the document. -/
namespace Go.Proofs.YtecgbelgoomneaaGreat
open Go.RowKit
set_option maxHeartbeats 400000
set_option maxRecDepth 100000
set_option linter.unusedVariables false
abbrev encF (f : FrameV) (p : SentP) : Value := .agg #[.int .i64 f.knd, .int .i64 f.frm, .int .i64 f.stp, .int .i64 f.S.sch, .int .i64 f.S.dim, .slice p.AL f.S.L.length p.cL, .slice p.AV f.S.V.length p.cV, .int .i64 f.S.scale, .int .i64 f.S.wide, .slice p.AE f.S.lev.length p.cE, .slice p.AN f.S.neg.length p.cN]
end Go.Proofs.YtecgbelgoomneaaGreat
/- A vector's body, by the document. -/
namespace Go.Proofs.YtecgbelgoomneaaGreat
open Go.RowKit
set_option maxHeartbeats 400000
set_option maxRecDepth 100000
set_option linter.unusedVariables false
/-- A vector in a box of its own. -/
def BoxS (w : World) (b : Nat) (s : SentV) (p : SentP) : Prop :=
  w.cell? ⟨b, 0, none⟩ = some (.int .i64 s.sch) ∧ w.cell? ⟨b, 1, none⟩ = some (.int .i64 s.dim) ∧ w.cell? ⟨b, 2, none⟩ = some (.slice p.AL s.L.length p.cL) ∧ w.cell? ⟨b, 3, none⟩ = some (.slice p.AV s.V.length p.cV) ∧
  w.cell? ⟨b, 4, none⟩ = some (.int .i64 s.scale) ∧ w.cell? ⟨b, 5, none⟩ = some (.int .i64 s.wide) ∧ w.cell? ⟨b, 6, none⟩ = some (.slice p.AE s.lev.length p.cE) ∧ w.cell? ⟨b, 7, none⟩ = some (.slice p.AN s.neg.length p.cN)
theorem BoxS.below {w w' : World} {b B : Nat} {s : SentV} {p : SentP} (h : BoxS w b s p) (hb : Below B w w') (hB : b < B) : BoxS w' b s p := by
  obtain ⟨h0, h1, h2, h3, h4, h5, h6, h7⟩ := h
  exact ⟨(hb.cell (p := ⟨b, 0, none⟩) hB).trans h0, (hb.cell (p := ⟨b, 1, none⟩) hB).trans h1, (hb.cell (p := ⟨b, 2, none⟩) hB).trans h2, (hb.cell (p := ⟨b, 3, none⟩) hB).trans h3,
    (hb.cell (p := ⟨b, 4, none⟩) hB).trans h4, (hb.cell (p := ⟨b, 5, none⟩) hB).trans h5, (hb.cell (p := ⟨b, 6, none⟩) hB).trans h6, (hb.cell (p := ⟨b, 7, none⟩) hB).trans h7⟩
end Go.Proofs.YtecgbelgoomneaaGreat
/- Whether a vector may be, by the program. -/
namespace Go.Proofs.YtecgbelgoomneaaGreat
open Go.RowKit
set_option maxHeartbeats 400000
set_option maxRecDepth 100000
set_option linter.unusedVariables false
def namP (s : SentV) : Prop := (s.sch = 0 ∧ (s.V.length : Int) = s.dim) ∨ (s.sch = 1 ∧ chkE s.dim s.L = 0 ∧ s.V.length = s.L.length) ∨ (s.sch = 2 ∧ sgB s = true ∧ lvB s = true) ∨ (s.sch = 3 ∧ sgB s = true)
instance (s : SentV) : Decidable (namP s) := by unfold namP; infer_instance
def namB (s : SentV) : Bool := decide (namP s)
theorem namB_iff {s : SentV} : namB s = true ↔ namP s := by unfold namB; exact decide_eq_true_iff
theorem boxT_new (w : World) (s : SentV) (p : SentP) (t : TypeId) : BoxL (w.alloc (.cells #[.int .i64 s.sch, .int .i64 s.dim, .slice p.AL s.L.length p.cL, .slice p.AV s.V.length p.cV, .int .i64 s.scale, .int .i64 s.wide, .slice p.AE s.lev.length p.cE, .slice p.AN s.neg.length p.cN] t)) w.heap.size
    [.int .i64 s.sch, .int .i64 s.dim, .slice p.AL s.L.length p.cL, .slice p.AV s.V.length p.cV, .int .i64 s.scale, .int .i64 s.wide, .slice p.AE s.lev.length p.cE, .slice p.AN s.neg.length p.cN] := BoxL.new w _ t
theorem fs_named0 (s : SentV) (p : SentP) (w : World) (hs : s.sch = 0) :
    Calls Tryz.prog 90 #[encT s p] w fun e w' => e = .returned (.bool (namB s)) ∧ Below w.heap.size w w' := by
  have HR : namB s = true ↔ (s.V.length : Int) = s.dim := by rw [namB_iff]; unfold namP; simp [hs]
  obtain ⟨R, hR⟩ : ∃ R, namB s = R := ⟨_, rfl⟩
  rw [hR] at HR ⊢
  have HR2 := hid HR
  clear hR HR
  go_enter Tryz.func90, Tryz.ntmps90
  go_wp2_with fail
  all_goals (go_ret; refine ⟨ret_of ?_, by go_grown⟩; rw [HR2.out]; first | (simp [*]; done) | (simp [*]; omega))
theorem fs_named1 (s : SentV) (p : SentP) (hn : lnS 100000 s) (hd : I64 s.dim) (w : World) (ra : RdS w w.heap.size s p) (hs : s.sch = 1) :
    Calls Tryz.prog 90 #[encT s p] w fun e w' => e = .returned (.bool (namB s)) ∧ Below w.heap.size w w' := by
  have HR : namB s = true ↔ (chkE s.dim s.L = 0 ∧ s.V.length = s.L.length) := by rw [namB_iff]; unfold namP; simp [hs]
  have C := hid (fun W (h : Below w.heap.size w W) => ix_Check (A := p.AL) (c := p.cL) s.dim s.L hd (by have := hn.1; omega) W ((ra.1.below h).more h.size))
  obtain ⟨R, hR⟩ : ∃ R, namB s = R := ⟨_, rfl⟩
  rw [hR] at HR ⊢
  obtain ⟨E, hE⟩ : ∃ E, chkE s.dim s.L = E := ⟨_, rfl⟩
  rw [hE] at HR C
  have HR2 := hid HR
  have HB0 := hid (boxT_new w s p 32)
  clear hR HR hE ra hn hd
  have g0 : (s.sch == 0) = false := by rw [hs]; rfl
  have g1 : (s.sch == 1) = true := by rw [hs]; rfl
  clear hs
  go_enter Tryz.func90, Tryz.ntmps90
  go_wp2_with fail
  refine (C.out _ (by go_grown)).mono ?_
  rintro _ w1 ⟨rfl, hb1⟩
  have k1 : Below w.heap.size w w1 := Below.trans (by go_grown) (hb1.mono (by simp))
  have HB1 := hid (HB0.out.below hb1 (by simp))
  obtain ⟨⟨c0, c1, c2, c3, c4, c5, c6, c7⟩, _⟩ := HB1.out.eight
  clear hb1 HB0
  go_wp2_with fail
  all_goals (go_ret; refine ⟨ret_of ?_, k1⟩; rw [HR2.out]; first | (simp [*]; done) | (simp [*]; omega))
theorem fs_named2 (s : SentV) (p : SentP) (hn : lnS 100000 s) (ul : U64s s.lev) (w : World) (ra : RdS w w.heap.size s p) (hs : s.sch = 2) :
    Calls Tryz.prog 90 #[encT s p] w fun e w' => e = .returned (.bool (namB s)) ∧ Below w.heap.size w w' := by
  have HR : namB s = true ↔ (sgB s = true ∧ lvB s = true) := by rw [namB_iff]; unfold namP; simp [hs]
  have C := hid (fun W => fs_signs s p W)
  have D := hid (fun W (h : Below w.heap.size w W) => fs_levels s p hn ul W h.size (ra.below h))
  obtain ⟨R, hR⟩ : ∃ R, namB s = R := ⟨_, rfl⟩
  rw [hR] at HR ⊢
  obtain ⟨v1, h1⟩ : ∃ E, sgB s = E := ⟨_, rfl⟩
  rw [h1] at HR C
  obtain ⟨v2, h2⟩ : ∃ E, lvB s = E := ⟨_, rfl⟩
  rw [h2] at HR D
  have HR2 := hid HR
  have HB0 := hid (boxT_new w s p 32)
  clear hR HR h1 h2 ra hn ul
  have g0 : (s.sch == 0) = false := by rw [hs]; rfl
  have g1 : (s.sch == 1) = false := by rw [hs]; rfl
  have g2 : (s.sch == 2) = true := by rw [hs]; rfl
  clear hs
  go_enter Tryz.func90, Tryz.ntmps90
  go_wp2_with fail
  refine (C.out _).mono ?_
  rintro _ w1 ⟨rfl, hb1⟩
  have k1 : Below w.heap.size w w1 := Below.trans (by go_grown) (hb1.mono (by simp))
  have HB1 := hid (HB0.out.below hb1 (by simp))
  obtain ⟨⟨c0, c1, c2, c3, c4, c5, c6, c7⟩, _⟩ := HB1.out.eight
  clear hb1 HB0
  cases v1 with
  | false =>
    go_wp2_with fail
    go_ret
    exact ⟨ret_of (by rw [HR2.out]; simp), k1⟩
  | true =>
    go_wp2_with fail
    refine (D.out _ k1).mono ?_
    rintro _ w2 ⟨rfl, hb2⟩
    go_wp2_with fail
    go_ret
    exact ⟨ret_of (by rw [HR2.out]; simp), k1.trans (hb2.mono k1.size)⟩
theorem fs_named3 (s : SentV) (p : SentP) (w : World) (hs : s.sch = 3) :
    Calls Tryz.prog 90 #[encT s p] w fun e w' => e = .returned (.bool (namB s)) ∧ Below w.heap.size w w' := by
  have HR : namB s = true ↔ (sgB s = true) := by rw [namB_iff]; unfold namP; simp [hs]
  have C := hid (fun W => fs_signs s p W)
  obtain ⟨R, hR⟩ : ∃ R, namB s = R := ⟨_, rfl⟩
  rw [hR] at HR ⊢
  obtain ⟨v1, h1⟩ : ∃ E, sgB s = E := ⟨_, rfl⟩
  rw [h1] at HR C
  have HR2 := hid HR
  clear hR HR h1
  have g0 : (s.sch == 0) = false := by rw [hs]; rfl
  have g1 : (s.sch == 1) = false := by rw [hs]; rfl
  have g2 : (s.sch == 2) = false := by rw [hs]; rfl
  have g3 : (s.sch == 3) = true := by rw [hs]; rfl
  clear hs
  go_enter Tryz.func90, Tryz.ntmps90
  go_wp2_with fail
  refine (C.out _).mono ?_
  rintro _ w1 ⟨rfl, hb1⟩
  have k1 : Below w.heap.size w w1 := Below.trans (by go_grown) (hb1.mono (by simp))
  go_wp2_with fail
  go_ret
  exact ⟨ret_of (by rw [HR2.out]), k1⟩
theorem fs_namedX (s : SentV) (p : SentP) (w : World) (h0 : s.sch ≠ 0) (h1 : s.sch ≠ 1) (h2 : s.sch ≠ 2) (h3 : s.sch ≠ 3) :
    Calls Tryz.prog 90 #[encT s p] w fun e w' => e = .returned (.bool (namB s)) ∧ Below w.heap.size w w' := by
  have hR : namB s = false := decide_eq_false (by unfold namP; simp [h0, h1, h2, h3])
  rw [hR]
  clear hR
  go_enter Tryz.func90, Tryz.ntmps90
  go_wp2_with fail
  go_ret
  exact ⟨rfl, by go_grown⟩
theorem fs_named (s : SentV) (p : SentP) (hn : lnS 100000 s) (hw : wfS s) (w : World) (ra : RdS w w.heap.size s p) :
    Calls Tryz.prog 90 #[encT s p] w fun e w' => e = .returned (.bool (namB s)) ∧ Below w.heap.size w w' := by
  by_cases h0 : s.sch = 0
  · exact fs_named0 s p w h0
  · by_cases h1 : s.sch = 1
    · exact fs_named1 s p hn hw.2.1 w ra h1
    · by_cases h2 : s.sch = 2
      · exact fs_named2 s p hn hw.2.2.2.2.2.2 w ra h2
      · by_cases h3 : s.sch = 3
        · exact fs_named3 s p w h3
        · exact fs_namedX s p w h0 h1 h2 h3
theorem may_named {s : SentV} (h : mayP s) : namP s := by
  obtain ⟨h1, h2, h⟩ := h
  unfold namP sgB lvB
  rcases h with h | h | h | h
  · exact Or.inl ⟨h.1, h.2.2.1⟩
  · exact Or.inr (Or.inl ⟨h.1, h.2.1, h.2.2.1⟩)
  · exact Or.inr (Or.inr (Or.inl ⟨h.1, by simp [h.2.2.2.2.2.2.2.1, h.2.2.2.2.2.2.2.2], by simp [h.2.1, h.2.2.1, h.2.2.2.1, h.2.2.2.2.1]⟩))
  · exact Or.inr (Or.inr (Or.inr ⟨h.1, by simp [h.2.2.2.2.2.1, h.2.2.2.2.2.2]⟩))
/-- What is asked at the end, for any way that is left. -/
theorem fs_MayK (s t : SentV) (p q : SentP) (hn : lnS 100000 s) (hw : wfS s) (w : World) (ra : RdS w w.heap.size s p) (h1 : 1 ≤ s.dim) (h2 : s.dim ≤ 4096)
    (CR : ∀ W : World, Calls Tryz.prog 92 #[encT s p] W fun e w' => e = .returned (encT t q) ∧ Below W.heap.size W w') (hM : mayB s = true ↔ (namB s = true ∧ empB t = true)) :
    Calls Tryz.prog 42 #[encT s p] w fun e w' => e = .returned (.bool (mayB s)) ∧ Below w.heap.size w w' := by
  have C := hid (fun W (h : Below w.heap.size w W) => fs_named s p hn hw W ((ra.below h).more h.size))
  have D := hid CR
  have E := hid (fun W => fs_empty t q W)
  obtain ⟨R, hR⟩ : ∃ R, mayB s = R := ⟨_, rfl⟩
  rw [hR] at hM ⊢
  obtain ⟨v1, e1⟩ : ∃ E, namB s = E := ⟨_, rfl⟩
  rw [e1] at hM C
  obtain ⟨v2, e2⟩ : ∃ E, empB t = E := ⟨_, rfl⟩
  rw [e2] at hM E
  have HR2 := hid hM
  have HB0 := hid (boxT_new w s p 32)
  clear hR hM e1 e2 ra hn hw CR
  go_enter Tryz.func42, Tryz.ntmps42
  go_wp2_with fail
  refine (C.out _ (by go_grown)).mono ?_
  rintro _ w1 ⟨rfl, hb1⟩
  have k1 : Below w.heap.size w w1 := Below.trans (by go_grown) (hb1.mono (by simp))
  have HB1 := hid (HB0.out.below hb1 (by simp))
  obtain ⟨⟨c0, c1, c2, c3, c4, c5, c6, c7⟩, _⟩ := HB1.out.eight
  clear hb1 HB0
  cases v1 with
  | false =>
    go_wp2_with fail
    go_ret
    exact ⟨ret_of (by rw [HR2.out]; simp), k1⟩
  | true =>
    go_wp2_with fail
    refine (D.out _).mono ?_
    rintro _ w2 ⟨rfl, hb2⟩
    have k2 := k1.trans (hb2.mono k1.size)
    clear c0 c1 c2 c3 c4 c5 c6 c7
    go_wp2_with fail
    refine (E.out _).mono ?_
    rintro _ w3 ⟨rfl, hb3⟩
    have k3 := k2.trans (hb3.mono k2.size)
    go_wp2_with fail
    go_ret
    exact ⟨ret_of (by rw [HR2.out]; simp), k3⟩
theorem fs_MayD (s : SentV) (p : SentP) (w : World) (h : s.dim < 1 ∨ 4096 < s.dim) :
    Calls Tryz.prog 42 #[encT s p] w fun e w' => e = .returned (.bool (mayB s)) ∧ Below w.heap.size w w' := by
  have HR : mayB s = false := mayB_no (fun h2 => by have h3 := h2.1; have h4 := h2.2.1; omega)
  rw [HR]
  clear HR
  rcases h with h | h
  · go_enter Tryz.func42, Tryz.ntmps42
    go_wp2_with fail
    all_goals (go_ret; exact ⟨rfl, by go_grown⟩)
  · go_enter Tryz.func42, Tryz.ntmps42
    go_wp2_with fail
    all_goals (go_ret; exact ⟨rfl, by go_grown⟩)
theorem fs_May (s : SentV) (p : SentP) (hn : lnS 100000 s) (hw : wfS s) (w : World) (ra : RdS w w.heap.size s p) :
    Calls Tryz.prog 42 #[encT s p] w fun e w' => e = .returned (.bool (mayB s)) ∧ Below w.heap.size w w' := by
  by_cases hd : 1 ≤ s.dim ∧ s.dim ≤ 4096
  · by_cases h0 : s.sch = 0
    · refine fs_MayK s _ p _ hn hw w ra hd.1 hd.2 (fun W => fs_rest0 s p W h0) ?_
      rw [mayB_iff, namB_iff, empB_iff]; unfold mayP namP sgB lvB
      simp [h0, hd.1, hd.2]
      constructor
      · rintro ⟨a, b, c, d, e, f⟩; exact ⟨b, e, c, a, d, f⟩
      · rintro ⟨b, e, c, a, d, f⟩; exact ⟨a, b, c, d, e, f⟩
    · by_cases h1 : s.sch = 1
      · refine fs_MayK s _ p _ hn hw w ra hd.1 hd.2 (fun W => fs_rest1 s p W h1) ?_
        rw [mayB_iff, namB_iff, empB_iff]; unfold mayP namP sgB lvB
        simp [h1, hd.1, hd.2]
        constructor
        · rintro ⟨a, b, c, d, e, f⟩; exact ⟨⟨a, b⟩, e, c, d, f⟩
        · rintro ⟨⟨a, b⟩, e, c, d, f⟩; exact ⟨a, b, c, d, e, f⟩
      · by_cases h2 : s.sch = 2
        · refine fs_MayK s _ p _ hn hw w ra hd.1 hd.2 (fun W => fs_rest2 s p W h2) ?_
          rw [mayB_iff, namB_iff, empB_iff]; unfold mayP namP sgB lvB
          simp [h2, hd.1, hd.2]
          constructor
          · rintro ⟨a, b, c, d, e, f, g, h⟩; exact ⟨⟨⟨g, h⟩, a, b, c, d⟩, e, f⟩
          · rintro ⟨⟨⟨g, h⟩, a, b, c, d⟩, e, f⟩; exact ⟨a, b, c, d, e, f, g, h⟩
        · by_cases h3 : s.sch = 3
          · refine fs_MayK s _ p _ hn hw w ra hd.1 hd.2 (fun W => fs_rest3 s p W h3) ?_
            rw [mayB_iff, namB_iff, empB_iff]; unfold mayP namP sgB lvB
            simp [h3, hd.1, hd.2]
            constructor
            · rintro ⟨a, b, c, d, e, f⟩; exact ⟨⟨e, f⟩, c, a, b, d⟩
            · rintro ⟨⟨e, f⟩, c, a, b, d⟩; exact ⟨a, b, c, d, e, f⟩
          · have hN : namB s = false := decide_eq_false (by unfold namP; simp [h0, h1, h2, h3])
            have hM : mayB s = false := mayB_no (fun h => by have := may_named h; unfold namB at hN; rw [decide_eq_false_iff_not] at hN; exact hN this)
            have C := hid (fun W (h : Below w.heap.size w W) => fs_named s p hn hw W ((ra.below h).more h.size))
            rw [hN] at C
            rw [hM]
            obtain ⟨hd1, hd2⟩ := hd
            clear hN hM h0 h1 h2 h3 ra hn hw
            go_enter Tryz.func42, Tryz.ntmps42
            go_wp2_with fail
            refine (C.out _ (by go_grown)).mono ?_
            rintro _ w1 ⟨rfl, hb1⟩
            have k1 : Below w.heap.size w w1 := Below.trans (by go_grown) (hb1.mono (by simp))
            go_wp2_with fail
            go_ret
            exact ⟨rfl, k1⟩
  · exact fs_MayD s p w (by omega)
end Go.Proofs.YtecgbelgoomneaaGreat
/- Signs, by the program: something made of each thing; whether a vector is one of signs that may be; the mean size. -/
namespace Go.Proofs.YtecgbelgoomneaaGreat
open Go.RowKit
set_option maxHeartbeats 1000000
set_option maxRecDepth 100000
set_option linter.unusedVariables false
theorem made_map {α β : Type} (v : List α) (d : α) (f : α → β) : (List.range v.length).map (fun j => f (v.getD j d)) = v.map f := by
  refine List.ext_getElem (by simp) fun i h1 h2 => ?_
  have hi : i < v.length := by simpa using h2
  simp [List.getD_eq_getElem?_getD, List.getElem?_eq_getElem hi]
theorem each_ib {A : Option Addr} {c : Nat} (K : FuncId) (caps : Array Value) (v : List Int) (hl : v.length ≤ 4096) (P : Int → Bool) (w : World)
   (hK : ∀ (args : Array Value) (W : World), (callFunc K args).run Tryz.prog W = .ok (.enter K args) W) (ra : Rd (Value.int .i64) w w.heap.size A v)
   (H : ∀ x, x ∈ v → ∀ W, Below w.heap.size w W → Calls Tryz.prog K (#[Value.int .i64 x] ++ caps) W fun e w' => e = .returned (Value.bool (P x)) ∧ W = w') :
    Calls Tryz.prog 175 #[.slice A v.length c, .func (.func K) #[] caps] w fun e w' => ∃ A' c', e = .returned (.slice A' v.length c') ∧ w'.ownsRow w.heap.size 4 1 (.slice A' v.length c') v.length ((v.map P).map Value.bool) ∧ Below w.heap.size w w' := by
  have hmk := fun W => run_make_row' (P := Tryz.prog) 30 4 (Value.bool false) 1 Tryz.underlying30 info_bool rfl .i64 .i64 v.length (by omega) (by omega) W
  have HH := hid H
  have RA := hid ra
  have HM := hid (made_map v (0 : Int) (fun x => Value.bool (P x)))
  clear H ra
  go_enter Tryz.func175, Tryz.ntmps175
  go_wp2_with fail
  go_loopw [6, 7, 13] (fun x6 x7 i wr => ∃ k : Nat, k ≤ v.length ∧ i = .int .i64 k ∧ wr.rowIs w.heap.size 4 v.length (fun j => if j < k then Value.bool (P (v.getD j (0 : Int))) else Value.bool false) ∧ Below w.heap.size w wr) (fun _ _ i _ => v.length - (intOf i).toNat)
  case atStart => exact ⟨0, by omega, rfl, by simpa using World.rowIs_made w (Value.bool false) v.length _, by go_grown⟩
  case round =>
    obtain ⟨k, hk, rfl, hrow, hbel⟩ := hrel
    have hz := hrow.lt
    clear hmk
    by_cases hlt : k < v.length
    · obtain ⟨b1, o1, x, rfl, l1, ex, d1⟩ := (RA.out.below hbel).at_ hlt
      have hx := List.mem_of_getElem? ex
      have C := hid (HH.out x hx wr hbel)
      have hg : v.getD k (0 : Int) = x := by rw [List.getD_eq_getElem?_getD, ex]; rfl
      have HG := hid hg
      obtain ⟨y, hy⟩ : ∃ y, P x = y := ⟨_, rfl⟩
      rw [hy] at C
      have HY := hid hy
      have c1 := hrow.cell hlt
      rw [if_neg (Nat.lt_irrefl k)] at c1
      have f1 := hrow.frozen k
      have HR := hid hrow
      have hzz := hid hz
      clear ex hx hg hy hrow
      go_wp2_with fail
      refine C.out.mono ?_
      rintro _ _ ⟨rfl, rfl⟩
      go_wp2_with fail
      go_roundw
      case rel =>
        refine ⟨k + 1, by omega, by go_num, ?_, hbel.setCell (Nat.le_refl _) _⟩
        refine (HR.out.set k (Value.bool y)).congr fun j hj => ?_
        by_cases e : j = k
        · subst e
          rw [if_pos rfl, if_pos (by omega), HG.out, HY.out]
        · rw [if_neg e]
          by_cases e2 : j < k
          · rw [if_pos e2, if_pos (by omega)]
          · rw [if_neg e2, if_neg (by omega)]
      case measure => simp [intOf]; omega
    · obtain rfl : k = v.length := by omega
      have hfin : ∃ A' c', (Ending.returned (Value.slice (some ⟨w.heap.size, 0, none⟩) v.length v.length) : Ending) = .returned (.slice A' v.length c') ∧ wr.ownsRow w.heap.size 4 1 (.slice A' v.length c') v.length ((v.map P).map Value.bool) ∧ Below w.heap.size w wr := by
        refine ⟨_, _, rfl, ?_, hbel⟩
        have h := own_made (B := w.heap.size) (w' := w) (hrow.congr (g := fun j => Value.bool (P (v.getD j (0 : Int)))) fun i hi => by rw [if_pos hi]) (Nat.le_refl _) (by unfold maxLen; omega)
        rw [HM.out] at h
        rw [List.map_map]
        exact h
      clear hrow HM
      go_wp2_with fail
      go_ret
      exact hfin
theorem each_bi {A : Option Addr} {c : Nat} (K : FuncId) (caps : Array Value) (v : List Bool) (hl : v.length ≤ 4096) (P : Bool → Int) (w : World)
   (hK : ∀ (args : Array Value) (W : World), (callFunc K args).run Tryz.prog W = .ok (.enter K args) W) (ra : Rd Value.bool w w.heap.size A v)
   (H : ∀ x, x ∈ v → ∀ W, Below w.heap.size w W → Calls Tryz.prog K (#[Value.bool x] ++ caps) W fun e w' => e = .returned (Value.int .i64 (P x)) ∧ W = w') :
    Calls Tryz.prog 127 #[.slice A v.length c, .func (.func K) #[] caps] w fun e w' => ∃ A' c', e = .returned (.slice A' v.length c') ∧ w'.ownsRow w.heap.size 2 1 (.slice A' v.length c') v.length ((v.map P).map (Value.int .i64)) ∧ Below w.heap.size w w' := by
  have hmk := fun W => run_make_row' (P := Tryz.prog) 24 2 (Value.int .i64 0) 8 Tryz.underlying24 info_i64 rfl .i64 .i64 v.length (by omega) (by omega) W
  have HH := hid H
  have RA := hid ra
  have HM := hid (made_map v false (fun x => (Value.int .i64) (P x)))
  clear H ra
  go_enter Tryz.func127, Tryz.ntmps127
  go_wp2_with fail
  go_loopw [6, 7, 13] (fun x6 x7 i wr => ∃ k : Nat, k ≤ v.length ∧ i = .int .i64 k ∧ wr.rowIs w.heap.size 2 v.length (fun j => if j < k then (Value.int .i64) (P (v.getD j false)) else (Value.int .i64) 0) ∧ Below w.heap.size w wr) (fun _ _ i _ => v.length - (intOf i).toNat)
  case atStart => exact ⟨0, by omega, rfl, by simpa using World.rowIs_made w (Value.int .i64 0) v.length _, by go_grown⟩
  case round =>
    obtain ⟨k, hk, rfl, hrow, hbel⟩ := hrel
    have hz := hrow.lt
    clear hmk
    by_cases hlt : k < v.length
    · obtain ⟨b1, o1, x, rfl, l1, ex, d1⟩ := (RA.out.below hbel).at_ hlt
      have hx := List.mem_of_getElem? ex
      have C := hid (HH.out x hx wr hbel)
      have hg : v.getD k false = x := by rw [List.getD_eq_getElem?_getD, ex]; rfl
      have HG := hid hg
      obtain ⟨y, hy⟩ : ∃ y, P x = y := ⟨_, rfl⟩
      rw [hy] at C
      have HY := hid hy
      have c1 := hrow.cell hlt
      rw [if_neg (Nat.lt_irrefl k)] at c1
      have f1 := hrow.frozen k
      have HR := hid hrow
      have hzz := hid hz
      clear ex hx hg hy hrow
      go_wp2_with fail
      refine C.out.mono ?_
      rintro _ _ ⟨rfl, rfl⟩
      go_wp2_with fail
      go_roundw
      case rel =>
        refine ⟨k + 1, by omega, by go_num, ?_, hbel.setCell (Nat.le_refl _) _⟩
        refine (HR.out.set k ((Value.int .i64) y)).congr fun j hj => ?_
        by_cases e : j = k
        · subst e
          rw [if_pos rfl, if_pos (by omega), HG.out, HY.out]
        · rw [if_neg e]
          by_cases e2 : j < k
          · rw [if_pos e2, if_pos (by omega)]
          · rw [if_neg e2, if_neg (by omega)]
      case measure => simp [intOf]; omega
    · obtain rfl : k = v.length := by omega
      have hfin : ∃ A' c', (Ending.returned (Value.slice (some ⟨w.heap.size, 0, none⟩) v.length v.length) : Ending) = .returned (.slice A' v.length c') ∧ wr.ownsRow w.heap.size 2 1 (.slice A' v.length c') v.length ((v.map P).map (Value.int .i64)) ∧ Below w.heap.size w wr := by
        refine ⟨_, _, rfl, ?_, hbel⟩
        have h := own_made (B := w.heap.size) (w' := w) (hrow.congr (g := fun j => (Value.int .i64) (P (v.getD j false))) fun i hi => by rw [if_pos hi]) (Nat.le_refl _) (by unfold maxLen; omega)
        rw [HM.out] at h
        rw [List.map_map]
        exact h
      clear hrow HM
      go_wp2_with fail
      go_ret
      exact hfin
/-- One of signs that may be. -/
def mySg (s : SentV) : Bool := decide (s.sch = 3 ∧ 1 ≤ s.dim ∧ s.dim ≤ 4096 ∧ s.L = [] ∧ s.V = [] ∧ s.wide = 0 ∧ s.lev = [] ∧ 0 ≤ s.scale ∧ (s.neg.length : Int) = s.dim)
theorem mySg_iff {s : SentV} : mySg s = true ↔ mayB s = true ∧ s.sch = 3 := by
  unfold mySg
  rw [decide_eq_true_iff, mayB_iff]
  unfold mayP
  constructor
  · rintro ⟨a, b, c, d, e, f, g, h1, h2⟩
    exact ⟨⟨b, c, .inr (.inr (.inr ⟨a, d, e, f, g, h1, h2⟩))⟩, a⟩
  · rintro ⟨⟨b, c, h⟩, a⟩
    rcases h with h | h | h | ⟨_, d, e, f, g, h1, h2⟩
    · have := h.1; omega
    · have := h.1; omega
    · have := h.1; omega
    · exact ⟨a, b, c, d, e, f, g, h1, h2⟩
theorem sn_may_v (sch dim scale wide : Int) (nL nV nE nN : Nat) (AL AV AE AN : Option Addr) (cL cV cE cN : Nat) (R : Bool) (w : World)
    (HR : Hid (R = true ↔ (sch = 3 ∧ 1 ≤ dim ∧ dim ≤ 4096 ∧ nL = 0 ∧ nV = 0 ∧ wide = 0 ∧ nE = 0 ∧ 0 ≤ scale ∧ (nN : Int) = dim))) :
    Calls Tryz.prog 126 #[.agg #[.int .i64 sch, .int .i64 dim, .slice AL nL cL, .slice AV nV cV, .int .i64 scale, .int .i64 wide, .slice AE nE cE, .slice AN nN cN]] w fun e w' => e = .returned (.bool R) ∧ Below w.heap.size w w' := by
  by_cases h1 : sch = 3
  · subst h1
    by_cases h2 : dim ≥ 1
    · skip
      by_cases h3 : dim ≤ 4096
      · skip
        by_cases h4 : nL = 0
        · subst h4
          by_cases h5 : nV = 0
          · subst h5
            by_cases h6 : wide = 0
            · subst h6
              by_cases h7 : nE = 0
              · subst h7
                by_cases h8 : scale ≥ 0
                · skip
                  by_cases h9 : (nN : Int) = dim
                  · subst h9
                    have hF : R = true := HR.out.2 ⟨rfl, h2, h3, rfl, rfl, rfl, rfl, h8, rfl⟩
                    subst hF
                    clear HR
                    go_enter Tryz.func126, Tryz.ntmps126
                    go_wp2_with fail
                    go_ret
                    exact ⟨rfl, by go_grown⟩
                  · have hF : R = false := Bool.eq_false_iff.2 (fun hR => h9 (by have h := HR.out.1 hR; exact h.2.2.2.2.2.2.2.2))
                    have t9 : ((nN : Int) == dim) = false := beq_eq_false_iff_ne.2 h9
                    subst hF
                    clear HR
                    go_enter Tryz.func126, Tryz.ntmps126
                    go_wp2_with fail
                    go_ret
                    exact ⟨rfl, by go_grown⟩
                · have hF : R = false := Bool.eq_false_iff.2 (fun hR => h8 (by have h := HR.out.1 hR; exact h.2.2.2.2.2.2.2.1))
                  subst hF
                  clear HR
                  go_enter Tryz.func126, Tryz.ntmps126
                  go_wp2_with fail
                  go_ret
                  exact ⟨rfl, by go_grown⟩
              · have hF : R = false := Bool.eq_false_iff.2 (fun hR => h7 (by have h := HR.out.1 hR; exact h.2.2.2.2.2.2.1))
                have t7 : ((nE : Int) == 0) = false := beq_eq_false_iff_ne.2 (by omega)
                have t7b : (nE == 0) = false := beq_eq_false_iff_ne.2 h7
                subst hF
                clear HR
                go_enter Tryz.func126, Tryz.ntmps126
                go_wp2_with fail
                go_ret
                exact ⟨rfl, by go_grown⟩
            · have hF : R = false := Bool.eq_false_iff.2 (fun hR => h6 (by have h := HR.out.1 hR; exact h.2.2.2.2.2.1))
              have t6 : (wide == 0) = false := beq_eq_false_iff_ne.2 h6
              subst hF
              clear HR
              go_enter Tryz.func126, Tryz.ntmps126
              go_wp2_with fail
              go_ret
              exact ⟨rfl, by go_grown⟩
          · have hF : R = false := Bool.eq_false_iff.2 (fun hR => h5 (by have h := HR.out.1 hR; exact h.2.2.2.2.1))
            have t5 : ((nV : Int) == 0) = false := beq_eq_false_iff_ne.2 (by omega)
            have t5b : (nV == 0) = false := beq_eq_false_iff_ne.2 h5
            subst hF
            clear HR
            go_enter Tryz.func126, Tryz.ntmps126
            go_wp2_with fail
            go_ret
            exact ⟨rfl, by go_grown⟩
        · have hF : R = false := Bool.eq_false_iff.2 (fun hR => h4 (by have h := HR.out.1 hR; exact h.2.2.2.1))
          have t4 : ((nL : Int) == 0) = false := beq_eq_false_iff_ne.2 (by omega)
          have t4b : (nL == 0) = false := beq_eq_false_iff_ne.2 h4
          subst hF
          clear HR
          go_enter Tryz.func126, Tryz.ntmps126
          go_wp2_with fail
          go_ret
          exact ⟨rfl, by go_grown⟩
      · have hF : R = false := Bool.eq_false_iff.2 (fun hR => h3 (by have h := HR.out.1 hR; exact h.2.2.1))
        subst hF
        clear HR
        go_enter Tryz.func126, Tryz.ntmps126
        go_wp2_with fail
        go_ret
        exact ⟨rfl, by go_grown⟩
    · have hF : R = false := Bool.eq_false_iff.2 (fun hR => h2 (by have h := HR.out.1 hR; exact h.2.1))
      subst hF
      clear HR
      go_enter Tryz.func126, Tryz.ntmps126
      go_wp2_with fail
      go_ret
      exact ⟨rfl, by go_grown⟩
  · have hF : R = false := Bool.eq_false_iff.2 (fun hR => h1 (by have h := HR.out.1 hR; exact h.1))
    have t1 : (sch == 3) = false := beq_eq_false_iff_ne.2 h1
    subst hF
    clear HR
    go_enter Tryz.func126, Tryz.ntmps126
    go_wp2_with fail
    go_ret
    exact ⟨rfl, by go_grown⟩
theorem sn_may (s : SentV) (p : SentP) (w : World) :
    Calls Tryz.prog 126 #[encT s p] w fun e w' => e = .returned (.bool (mySg s)) ∧ Below w.heap.size w w' := by
  refine sn_may_v s.sch s.dim s.scale s.wide s.L.length s.V.length s.lev.length s.neg.length p.AL p.AV p.AE p.AN p.cL p.cV p.cE p.cN (mySg s) w (hid ?_)
  unfold mySg; rw [decide_eq_true_eq, List.length_eq_zero_iff, List.length_eq_zero_iff, List.length_eq_zero_iff]
theorem sn_Mean {A : Option Addr} {c : Nat} (v : List Int) (uv : ∀ x ∈ v, I64 x) (hl : v.length ≤ 9223372036854775807) (w : World) (ra : Rd (Value.int .i64) w w.heap.size A v) :
    Calls Tryz.prog 174 #[.slice A v.length c] w fun e w' => e = .returned (.tuple #[.int .i64 (mnV v), .int .i64 (mnE v)]) ∧ Below w.heap.size w w' := by
  by_cases h0 : v = []
  · have he : mnE v = 1 := if_pos h0
    have hv : mnV v = 0 := if_neg (by rw [he]; decide)
    rw [he, hv]
    subst h0
    clear he hv ra uv hl
    go_enter Tryz.func174, Tryz.ntmps174
    go_wp2_with fail
    go_ret2
    exact ⟨rfl, Below.refl _ _⟩
  · have h0' : ¬ v.length = 0 := fun h => h0 (List.length_eq_zero_iff.1 h)
    have t1 : ((v.length : Int) == 0) = false := beq_eq_false_iff_ne.2 (by omega)
    have t2 : (v.length == 0) = false := beq_eq_false_iff_ne.2 h0'
    have CS := hid (Size_any (A := A) (c := c) v hl uv w ra)
    have hE : mnE v = sizeE v := if_neg h0
    by_cases he : sizeE v = 0
    · obtain ⟨z1, z2, z3⟩ := sizeV_is he
      have hV : mnV v = ((sumS v / v.length : Nat) : Int) := if_pos (hE.trans he)
      rw [hE, he, hV]
      rw [he, z3] at CS
      obtain ⟨S, hS⟩ : ∃ S, sumS v = S := ⟨_, rfl⟩
      rw [hS] at CS z2 ⊢
      obtain ⟨q, hq⟩ : ∃ q, S / v.length = q := ⟨_, rfl⟩
      have i1 : (S : Int) / (v.length : Int) = (q : Int) := by rw [← hq]; simp
      have i2 : (S : Int).tdiv (v.length : Int) = (q : Int) := by rw [Int.tdiv_eq_ediv_of_nonneg (by omega)]; exact i1
      have hq2 : q ≤ S := by rw [← hq]; exact Nat.div_le_self _ _
      have i3 : (v.length : Int) ≠ 0 := by omega
      rw [hq]
      clear hS hq hE he hV z3 ra uv h0 h0'
      go_enter Tryz.func174, Tryz.ntmps174
      go_wp2_with fail
      refine CS.out.mono ?_
      rintro _ w1 ⟨rfl, hb⟩
      go_wp2_with fail
      go_ret2
      exact ⟨by go_num, hb⟩
    · have hV : mnV v = 0 := if_neg (by rw [hE]; exact he)
      rw [hV, hE]
      obtain ⟨E, hEE⟩ : ∃ E, sizeE v = E := ⟨_, rfl⟩
      rw [hEE] at CS he ⊢
      have hne : (E != 0) = true := by simpa using he
      clear hV hE hEE he ra uv h0 h0'
      go_enter Tryz.func174, Tryz.ntmps174
      go_wp2_with fail
      refine CS.out.mono ?_
      rintro _ w1 ⟨rfl, hb⟩
      go_wp2_with fail
      go_ret2
      exact ⟨rfl, hb⟩
end Go.Proofs.YtecgbelgoomneaaGreat
/- Signs, by the program: pressed, loosened, whether it is pressed so. -/
namespace Go.Proofs.YtecgbelgoomneaaGreat
open Go.RowKit
set_option maxHeartbeats 1000000
set_option maxRecDepth 100000
set_option linter.unusedVariables false
theorem press_cl (x : Int) (w : World) :
    Calls Tryz.prog 176 (#[.int .i64 x] ++ #[]) w fun e w' => e = .returned (.bool (decide (x < 0))) ∧ w = w' := by
  go_enter Tryz.func176, Tryz.ntmps176
  go_wp2_with fail
  go_ret
  exact ⟨rfl, rfl⟩
set_option maxHeartbeats 4000000 in
theorem sn_Press {A : Option Addr} {c : Nat} (v : List Int) (uv : ∀ x ∈ v, I64 x) (hl : v.length ≤ 9223372036854775807) (w : World) (ra : Rd (Value.int .i64) w w.heap.size A v) :
    Calls Tryz.prog 125 #[.slice A v.length c] w (OwnSg w.heap.size (sgS v) (mnE v) w) := by
  have CM := hid (fun W (h : Below w.heap.size w W) => sn_Mean (A := A) (c := c) v uv hl W (ra.on h))
  by_cases he : mnE v = 0
  · have hS : sgS v = ⟨3, v.length, [], [], mnV v, 0, [], sgN v⟩ := if_pos he
    obtain ⟨z1, z2, z3⟩ := sizeV_is (mnE_ok.1 he).2
    rw [hS, he]
    rw [he] at CM
    have hNl := sgN_len v
    have CE := hid (fun W (h : Below w.heap.size w W) => show Calls Tryz.prog 175 #[.slice A v.length c, .func (.func 176) #[] #[]] W fun e w' => ∃ A' c', e = .returned (.slice A' v.length c') ∧ w'.ownsRow W.heap.size 4 1 (.slice A' (sgN v).length c') (sgN v).length ((sgN v).map Value.bool) ∧ Below W.heap.size W w' from by
      rw [hNl]
      exact each_ib (A := A) (c := c) 176 #[] v z1 (fun x => decide (x < 0)) W (cl_enter 176 (by kernel_rfl)) (ra.on h) (fun x hx W2 h2 => press_cl x W2))
    have hm : mnV v = (mnN v : Int) := if_pos he
    have hle := mnN_le v
    rw [hm] at CM ⊢
    obtain ⟨M, hM⟩ : ∃ M, mnN v = M := ⟨_, rfl⟩
    rw [hM] at CM hle ⊢
    obtain ⟨N, hN⟩ : ∃ N, sgN v = N := ⟨_, rfl⟩
    rw [hN] at CE hNl ⊢
    have HNL := hid hNl
    clear hS he hm hM hN z3 ra uv hNl
    go_enter Tryz.func125, Tryz.ntmps125
    go_wp2_with fail
    have B0 := BoxL.new w [.int .i64 0, .int .i64 0, .slice none 0 0, .slice none 0 0, .int .i64 0, .int .i64 0, .slice none 0 0, .slice none 0 0] 32
    refine (CM.out _ (by go_grown)).mono ?_
    rintro _ w1 ⟨rfl, hb⟩
    have HB1 := hid (B0.below hb (by simp))
    have k1 : Below w.heap.size w w1 := Below.trans (by go_grown) (hb.mono (by simp))
    have hg1 : w.heap.size < w1.heap.size := by have := hb.size; simp at this; omega
    clear B0 hb CM
    go_wp2_with fail
    refine (CE.out _ k1).mono ?_
    rintro _ w2 ⟨A2, c2, rfl, o2, hb2⟩
    have B2 := HB1.out.below hb2 hg1
    have HO := hid (own_base o2 (show w.heap.size + 1 ≤ w1.heap.size by omega))
    have k2 : Below w.heap.size w w2 := k1.trans (hb2.mono k1.size)
    obtain ⟨⟨g0, g1, g2, g3, g4, g5, g6, g7⟩, n0, n1, n2, n3, n4, n5, n6, n7⟩ := B2.eight
    clear o2 hb2 CE HB1 B2
    go_wp2_with fail
    refine bodyPost_ret (v := .tuple #[.agg #[.int .i64 3, .int .i64 (v.length : Int), .slice none 0 0, .slice none 0 0, .int .i64 (M : Int), .int .i64 0, .slice none 0 0, .slice A2 v.length c2], .int .i64 0]) (by simp [results, Tryz.results125, go_sem, g0, g1, g2, g3, g4, g5, g6, g7]) rfl ?_
    refine ⟨A2, c2, by rw [← HNL.out]; rfl, rfl, rfl, rfl, ?_, ?_⟩
    · have hz : w.heap.size < w.heap.size + 1 := by omega
      exact own_base (own_set (own_set (own_set (own_set (own_set (own_set (own_set (own_set HO.out hz _) hz _) hz _) hz _) hz _) hz _) hz _) hz _) (by omega)
    · exact (((((((k2.setCell (by simp) _).setCell (by simp) _).setCell (by simp) _).setCell (by simp) _).setCell (by simp) _).setCell (by simp) _).setCell (by simp) _).setCell (by simp) _
  · have hS : sgS v = zeroS := if_neg he
    rw [hS]
    obtain ⟨E, hE⟩ : ∃ E, mnE v = E := ⟨_, rfl⟩
    obtain ⟨V, hV⟩ : ∃ V, mnV v = V := ⟨_, rfl⟩
    rw [hE, hV] at CM
    rw [hE] at he ⊢
    have hne : (E != 0) = true := by simpa using he
    clear hS he hE hV ra uv
    go_enter Tryz.func125, Tryz.ntmps125
    go_wp2_with fail
    have B0 := BoxL.new w [.int .i64 0, .int .i64 0, .slice none 0 0, .slice none 0 0, .int .i64 0, .int .i64 0, .slice none 0 0, .slice none 0 0] 32
    refine (CM.out _ (by go_grown)).mono ?_
    rintro _ w1 ⟨rfl, hb⟩
    have B1 := B0.below hb (by simp)
    have k1 : Below w.heap.size w w1 := Below.trans (by go_grown) (hb.mono (by simp))
    obtain ⟨⟨g0, g1, g2, g3, g4, g5, g6, g7⟩, n0, n1, n2, n3, n4, n5, n6, n7⟩ := B1.eight
    clear B0 B1 hb CM
    go_wp2_with fail
    refine bodyPost_ret (v := .tuple #[encT zeroS zeroP, .int .i64 E]) (by simp [results, Tryz.results125, go_sem, zeroS, zeroP, g0, g1, g2, g3, g4, g5, g6, g7]) rfl ⟨none, 0, rfl, rfl, rfl, rfl, own_nil _ _ _, ?_⟩
    exact (((((((k1.setCell (by simp) _).setCell (by simp) _).setCell (by simp) _).setCell (by simp) _).setCell (by simp) _).setCell (by simp) _).setCell (by simp) _).setCell (by simp) _
theorem loosen_cl {g : Nat} {scale : Int} {w : World} (hc : w.cell? ⟨g, 4, none⟩ = some (.int .i64 scale)) (h0 : 0 ≤ scale) (h1 : scale ≤ 9223372036854775807) (b : Bool) :
    Calls Tryz.prog 128 (#[.bool b] ++ #[.pointer (some ⟨g, 0, none⟩)]) w fun e w' => e = .returned (.int .i64 (if b = true then -scale else scale)) ∧ w = w' := by
  obtain ⟨Z, hZ⟩ : ∃ Z, -scale = Z := ⟨_, rfl⟩
  have hneg : IntKind.i64.wrap (-scale) = Z := by rw [IntKind.wrap_i64]; omega
  have hneg2 : wrap64 (-scale) = Z := by rw [wrap64_eq]; omega
  cases b with
  | true =>
    rw [if_pos rfl, hZ]
    clear hZ
    go_enter Tryz.func128, Tryz.ntmps128
    go_wp2_with fail
    go_ret
    exact ⟨rfl, rfl⟩
  | false =>
    rw [if_neg (by decide)]
    clear hZ
    go_enter Tryz.func128, Tryz.ntmps128
    go_wp2_with fail
    go_ret
    exact ⟨rfl, rfl⟩
set_option maxHeartbeats 4000000 in
theorem sn_Loosen (s : SentV) (p : SentP) (hn : lnS 100000 s) (hw : wfS s) (w : World) (ra : RdS w w.heap.size s p) :
    Calls Tryz.prog 80 #[encT s p] w (OwnE 2 .i64 w.heap.size (lsgV s) (lsgE s) w) := by
  obtain ⟨AL, cL, AV, cV, AE, cE, AN, cN⟩ := p
  have CM := hid (fun W => show Calls Tryz.prog 126 #[.agg #[.int .i64 s.sch, .int .i64 s.dim, .slice AL s.L.length cL, .slice AV s.V.length cV, .int .i64 s.scale, .int .i64 s.wide, .slice AE s.lev.length cE, .slice AN s.neg.length cN]] W fun e w' => e = .returned (.bool (mySg s)) ∧ Below W.heap.size W w' from sn_may s ⟨AL, cL, AV, cV, AE, cE, AN, cN⟩ W)
  show Calls Tryz.prog 80 #[.agg #[.int .i64 s.sch, .int .i64 s.dim, .slice AL s.L.length cL, .slice AV s.V.length cV, .int .i64 s.scale, .int .i64 s.wide, .slice AE s.lev.length cE, .slice AN s.neg.length cN]] w _
  by_cases hm : mayB s = true ∧ s.sch = 3
  · have he : lsgE s = 0 := if_pos hm
    have hv : lsgV s = lsgL s.scale s.neg := if_pos he
    rw [he, hv]
    rw [mySg_iff.2 hm] at CM
    have hmy := of_decide_eq_true (mySg_iff.2 hm)
    have hsc := hw.2.2.2.2.1
    have hs0 : 0 ≤ s.scale := hmy.2.2.2.2.2.2.2.1
    have hs63 : s.scale ≤ 9223372036854775807 := by unfold I64 at hsc; omega
    have hnl : s.neg.length ≤ 4096 := by have h1 := hmy.2.2.1; have h2 := hmy.2.2.2.2.2.2.2.2; omega
    have hln : (lsgL s.scale s.neg).length = s.neg.length := by unfold lsgL; rw [List.length_map]
    have CE := hid (fun W (h : Below w.heap.size w W) (hX : BoxL W w.heap.size [.int .i64 s.sch, .int .i64 s.dim, .slice AL s.L.length cL, .slice AV s.V.length cV, .int .i64 s.scale, .int .i64 s.wide, .slice AE s.lev.length cE, .slice AN s.neg.length cN]) => show Calls Tryz.prog 127 #[.slice AN s.neg.length cN, .func (.func 128) #[] #[.pointer (some ⟨w.heap.size, 0, none⟩)]] W fun e w' => ∃ A' c', e = .returned (.slice A' (lsgL s.scale s.neg).length c') ∧ w'.ownsRow W.heap.size 2 1 (.slice A' (lsgL s.scale s.neg).length c') (lsgL s.scale s.neg).length ((lsgL s.scale s.neg).map (Value.int .i64)) ∧ Below W.heap.size W w' from by
      rw [hln]
      exact each_bi (A := AN) (c := cN) 128 #[.pointer (some ⟨w.heap.size, 0, none⟩)] s.neg hnl (fun b => if b = true then -s.scale else s.scale) W (cl_enter 128 (by kernel_rfl)) ((ra.2.2.2.below h).more h.size) (fun x hx W2 h2 => loosen_cl ((hX.below h2 (hX.lt (by simp))) 4 _ rfl).1 hs0 hs63 x))
    obtain ⟨Q, hQ⟩ : ∃ Q, lsgL s.scale s.neg = Q := ⟨_, rfl⟩
    rw [hQ] at CE ⊢
    clear he hv hm ra hn hw hsc hmy hln hQ
    go_enter Tryz.func80, Tryz.ntmps80
    go_wp2_with fail
    have B0 := BoxL.new w [.int .i64 s.sch, .int .i64 s.dim, .slice AL s.L.length cL, .slice AV s.V.length cV, .int .i64 s.scale, .int .i64 s.wide, .slice AE s.lev.length cE, .slice AN s.neg.length cN] 32
    refine (CM.out _).mono ?_
    rintro _ w1 ⟨rfl, hb⟩
    have HB1 := hid (B0.below hb (by simp))
    have k1 : Below w.heap.size w w1 := Below.trans (by go_grown) (hb.mono (by simp))
    have f7 := (HB1.out 7 _ rfl).1
    clear B0 hb CM
    go_wp2_with fail
    refine (CE.out _ k1 HB1.out).mono ?_
    rintro _ w2 ⟨A2, c2, rfl, o2, hb2⟩
    have hfin : OwnE 2 .i64 w.heap.size Q 0 w (.returned (.tuple #[.slice A2 Q.length c2, .int .i64 0])) w2 := ⟨A2, c2, rfl, own_base o2 k1.size, k1.trans (hb2.mono k1.size)⟩
    clear o2 hb2 CE HB1 f7
    go_wp2_with fail
    go_ret2
    exact hfin
  · have he : lsgE s = 1 := if_neg hm
    have hv : lsgV s = [] := if_neg (by rw [he]; decide)
    rw [he, hv]
    have hq : mySg s = false := by
      cases h : mySg s with
      | false => rfl
      | true => exact absurd (mySg_iff.1 h) hm
    rw [hq] at CM
    clear he hv hm ra hn hw hq
    go_enter Tryz.func80, Tryz.ntmps80
    go_wp2_with fail
    refine (CM.out _).mono ?_
    rintro _ w1 ⟨rfl, hb⟩
    have k1 : Below w.heap.size w w1 := Below.trans (by go_grown) (hb.mono (by simp))
    go_wp2_with fail
    go_ret2
    exact .nil k1
theorem isSB_no {v : List Int} {s : SentV} (h : ¬ (mnE v = 0 ∧ sgS v = s)) : isSB v s = false := by
  unfold isSB
  by_cases h0 : mnE v = 0
  · rw [decide_eq_true h0, Bool.true_and]
    exact Bool.eq_false_iff.2 (fun h2 => h ⟨h0, sameS_iff.1 h2⟩)
  · rw [decide_eq_false h0, Bool.false_and]
theorem isSB_in {v : List Int} {s : SentV} (h0 : mnE v = 0) (hm : mySg s = true) (hs : s.scale = mnV v) : isSB v s = eqN s.neg (sgN v) := by
  obtain ⟨a, b, c, d, e, f, g, h1, h2⟩ := of_decide_eq_true hm
  unfold isSB
  rw [decide_eq_true h0, Bool.true_and]
  rw [Bool.eq_iff_iff, sameS_iff]
  unfold eqN
  rw [decide_eq_true_eq]
  have hS : sgS v = ⟨3, v.length, [], [], mnV v, 0, [], sgN v⟩ := if_pos h0
  constructor
  · intro h
    rw [← h, hS]
  · intro h
    rw [hS]
    obtain ⟨s1, s2, s3, s4, s5, s6, s7, s8⟩ := s
    simp only at a b c d e f g h1 h2 hs h
    subst a d e f g hs h
    rw [sgN_len] at h2
    rw [← h2]
theorem isSB_parts {v : List Int} {s : SentV} (h : sgS v = s) (h0 : mnE v = 0) : mySg s = true ∧ s.scale = mnV v := by
  have hm := sg_may h0
  rw [h] at hm
  have hS : sgS v = ⟨3, v.length, [], [], mnV v, 0, [], sgN v⟩ := if_pos h0
  rw [hS] at h
  subst h
  exact ⟨mySg_iff.2 ⟨hm, rfl⟩, rfl⟩
set_option maxHeartbeats 4000000 in
theorem sn_Is {A : Option Addr} {c : Nat} (v : List Int) (uv : ∀ x ∈ v, I64 x) (hl : v.length ≤ 9223372036854775807) (s : SentV) (p : SentP) (hn : lnS 100000 s) (w : World) (ra : Rd (Value.int .i64) w w.heap.size A v) (rs : RdS w w.heap.size s p) :
    Calls Tryz.prog 129 #[.slice A v.length c, encT s p] w fun e w' => e = .returned (.bool (isSB v s)) ∧ Below w.heap.size w w' := by
  obtain ⟨AL, cL, AV, cV, AE, cE, AN, cN⟩ := p
  have CM := hid (fun W => show Calls Tryz.prog 126 #[.agg #[.int .i64 s.sch, .int .i64 s.dim, .slice AL s.L.length cL, .slice AV s.V.length cV, .int .i64 s.scale, .int .i64 s.wide, .slice AE s.lev.length cE, .slice AN s.neg.length cN]] W fun e w' => e = .returned (.bool (mySg s)) ∧ Below W.heap.size W w' from sn_may s ⟨AL, cL, AV, cV, AE, cE, AN, cN⟩ W)
  have CP := hid (fun W (h : Below w.heap.size w W) => sn_Press (A := A) (c := c) v uv hl W (ra.on h))
  show Calls Tryz.prog 129 #[.slice A v.length c, .agg #[.int .i64 s.sch, .int .i64 s.dim, .slice AL s.L.length cL, .slice AV s.V.length cV, .int .i64 s.scale, .int .i64 s.wide, .slice AE s.lev.length cE, .slice AN s.neg.length cN]] w _
  by_cases he : mnE v = 0
  · have hS : sgS v = ⟨3, v.length, [], [], mnV v, 0, [], sgN v⟩ := if_pos he
    have hNl := sgN_len v
    have hv5 : v.length ≤ 4096 := (sizeV_is (mnE_ok.1 he).2).1
    have CQ := hid (fun W (h : Below w.heap.size w W) => show Calls Tryz.prog 125 #[.slice A v.length c] W fun e w' => ∃ A' c', e = .returned (.tuple #[.agg #[.int .i64 3, .int .i64 (v.length : Int), .slice none 0 0, .slice none 0 0, .int .i64 (mnV v), .int .i64 0, .slice none 0 0, .slice A' (sgN v).length c'], .int .i64 0]) ∧ Rd Value.bool w' w'.heap.size A' (sgN v) ∧ Below W.heap.size W w' from (CP.out W h).mono (by
      intro e w' H
      rw [hS, he] at H
      obtain ⟨A', c', h1, _, _, _, h2, h3⟩ := H
      exact ⟨A', c', h1, own_rd h2, h3⟩))
    have CEq := hid (fun (A' : Option Addr) (c' : Nat) W (h : Below w.heap.size w W) (r : Rd Value.bool W W.heap.size A' (sgN v)) => eq_bools (A := AN) (B := A') (c := cN) (d := c') s.neg (sgN v) (by have := hn.2.2.2; omega) (by omega) W (rs.2.2.2.below h) r)
    have HIN := hid (fun h1 h2 => isSB_in (v := v) (s := s) he h1 h2)
    have HNO := hid (fun h => isSB_no (v := v) (s := s) h)
    have HPA := hid (fun h => isSB_parts (v := v) (s := s) h he)
    obtain ⟨R, hR⟩ : ∃ R, isSB v s = R := ⟨_, rfl⟩
    rw [hR] at HIN HNO ⊢
    obtain ⟨G, hG⟩ : ∃ G, sgS v = G := ⟨_, rfl⟩
    rw [hG] at HNO HPA
    obtain ⟨N, hN⟩ : ∃ N, sgN v = N := ⟨_, rfl⟩
    rw [hN] at CQ CEq HIN
    obtain ⟨M, hM⟩ : ∃ M, mnV v = M := ⟨_, rfl⟩
    rw [hM] at CQ HIN HPA
    obtain ⟨nl, hnl⟩ : ∃ nl, N.length = nl := ⟨_, rfl⟩
    rw [hnl] at CQ CEq
    clear hS hNl hR hG hN hM hnl uv ra rs CP he hn
    by_cases hm : mySg s = true
    · rw [hm] at CM
      by_cases hsc : s.scale = M
      · have hF : R = eqN s.neg N := HIN.out hm hsc
        obtain ⟨z, hz⟩ : ∃ z, eqN s.neg N = z := ⟨_, rfl⟩
        rw [hz] at CEq hF
        subst hF
        have HSC := hid hsc
        clear hm hsc hz HIN HNO HPA
        go_enter Tryz.func129, Tryz.ntmps129
        go_wp2_with fail
        have B0 := BoxL.new w [.int .i64 s.sch, .int .i64 s.dim, .slice AL s.L.length cL, .slice AV s.V.length cV, .int .i64 s.scale, .int .i64 s.wide, .slice AE s.lev.length cE, .slice AN s.neg.length cN] 32
        refine (CQ.out _ (by go_grown)).mono ?_
        rintro _ w1 ⟨A1, c1, rfl, r1, hb⟩
        have HB1 := hid (B0.below hb (by simp))
        have k1 : Below w.heap.size w w1 := Below.trans (by go_grown) (hb.mono (by simp))
        have hg1 : w.heap.size < w1.heap.size := by have := hb.size; simp at this; omega
        have R1 := hid r1
        clear B0 hb CQ r1
        have N2 := BoxL.new w1 [.int .i64 3, .int .i64 (v.length : Int), .slice none 0 0, .slice none 0 0, .int .i64 M, .int .i64 0, .slice none 0 0, .slice A1 nl c1] 32
        have G2 : Below w1.heap.size w1 (w1.alloc (.cells #[.int .i64 3, .int .i64 (v.length : Int), .slice none 0 0, .slice none 0 0, .int .i64 M, .int .i64 0, .slice none 0 0, .slice A1 nl c1] 32)) := (Below.refl _ _).alloc (Nat.le_refl _) _
        obtain ⟨w2, hw2⟩ : ∃ w2, w1.alloc (.cells #[.int .i64 3, .int .i64 (v.length : Int), .slice none 0 0, .slice none 0 0, .int .i64 M, .int .i64 0, .slice none 0 0, .slice A1 nl c1] 32) = w2 := ⟨_, rfl⟩
        simp only [List.toArray] at N2
        rw [hw2] at N2 G2
        have HN2 := hid N2
        have X2 := HB1.out.below G2 hg1
        have k2 : Below w.heap.size w w2 := k1.trans (G2.mono k1.size)
        have R2 := hid (R1.out.on G2)
        obtain ⟨⟨f0, f1, f2, f3, f4, f5, f6, f7⟩, _⟩ := X2.eight
        have HX2 := hid X2
        have hg2 : w.heap.size < w2.heap.size := by have := G2.size; omega
        have hg3 : w1.heap.size < w2.heap.size := HN2.out.lt (by simp)
        clear N2 G2 X2 R1 HB1
        go_wp2_with fail
        refine (CM.out _).mono ?_
        rintro _ w3 ⟨rfl, hb3⟩
        have X3 := HX2.out.below hb3 hg2
        have N3 := HN2.out.below hb3 hg3
        have k3 : Below w.heap.size w w3 := k2.trans (hb3.mono k2.size)
        have R3 := R2.out.on hb3
        have g4 := (X3 4 _ rfl).1
        have g7 := (X3 7 _ rfl).1
        have e4 := (N3 4 _ rfl).1
        have e7 := (N3 7 _ rfl).1
        rw [HSC.out] at g4
        have t1 : (M == M) = true := by simp
        have CE := hid (CEq.out A1 c1 w3 k3 R3)
        clear f0 f1 f2 f3 f4 f5 f6 f7 hb3 X3 N3 HX2 HN2 R2 R3 CEq CM
        go_wp2_with fail
        refine CE.out.mono ?_
        rintro _ _ ⟨rfl, n, rfl⟩
        go_wp2_with fail
        go_ret
        exact ⟨rfl, k3.trans (belowN _ _ _)⟩
      · have hF : R = false := HNO.out (fun h => hsc (HPA.out h.2).2)
        have t1 : (s.scale == M) = false := beq_eq_false_iff_ne.2 hsc
        subst hF
        clear hm hsc HIN HNO HPA CEq
        go_enter Tryz.func129, Tryz.ntmps129
        go_wp2_with fail
        have B0 := BoxL.new w [.int .i64 s.sch, .int .i64 s.dim, .slice AL s.L.length cL, .slice AV s.V.length cV, .int .i64 s.scale, .int .i64 s.wide, .slice AE s.lev.length cE, .slice AN s.neg.length cN] 32
        refine (CQ.out _ (by go_grown)).mono ?_
        rintro _ w1 ⟨A1, c1, rfl, r1, hb⟩
        have HB1 := hid (B0.below hb (by simp))
        have k1 : Below w.heap.size w w1 := Below.trans (by go_grown) (hb.mono (by simp))
        have hg1 : w.heap.size < w1.heap.size := by have := hb.size; simp at this; omega
        clear B0 hb CQ r1
        have N2 := BoxL.new w1 [.int .i64 3, .int .i64 (v.length : Int), .slice none 0 0, .slice none 0 0, .int .i64 M, .int .i64 0, .slice none 0 0, .slice A1 nl c1] 32
        have G2 : Below w1.heap.size w1 (w1.alloc (.cells #[.int .i64 3, .int .i64 (v.length : Int), .slice none 0 0, .slice none 0 0, .int .i64 M, .int .i64 0, .slice none 0 0, .slice A1 nl c1] 32)) := (Below.refl _ _).alloc (Nat.le_refl _) _
        obtain ⟨w2, hw2⟩ : ∃ w2, w1.alloc (.cells #[.int .i64 3, .int .i64 (v.length : Int), .slice none 0 0, .slice none 0 0, .int .i64 M, .int .i64 0, .slice none 0 0, .slice A1 nl c1] 32) = w2 := ⟨_, rfl⟩
        simp only [List.toArray] at N2
        rw [hw2] at N2 G2
        have HN2 := hid N2
        have X2 := HB1.out.below G2 hg1
        have k2 : Below w.heap.size w w2 := k1.trans (G2.mono k1.size)
        obtain ⟨⟨f0, f1, f2, f3, f4, f5, f6, f7⟩, _⟩ := X2.eight
        have HX2 := hid X2
        have hg2 : w.heap.size < w2.heap.size := by have := G2.size; omega
        have hg3 : w1.heap.size < w2.heap.size := HN2.out.lt (by simp)
        clear N2 G2 X2 HB1
        go_wp2_with fail
        refine (CM.out _).mono ?_
        rintro _ w3 ⟨rfl, hb3⟩
        have X3 := HX2.out.below hb3 hg2
        have N3 := HN2.out.below hb3 hg3
        have k3 : Below w.heap.size w w3 := k2.trans (hb3.mono k2.size)
        have g4 := (X3 4 _ rfl).1
        have e4 := (N3 4 _ rfl).1
        clear f0 f1 f2 f3 f4 f5 f6 f7 hb3 X3 N3 HX2 HN2 CM
        go_wp2_with fail
        go_ret
        exact ⟨rfl, k3⟩
    · have hF : R = false := HNO.out (fun h => hm (HPA.out h.2).1)
      have hm2 : mySg s = false := by simpa using hm
      rw [hm2] at CM
      subst hF
      clear hm hm2 HIN HNO HPA CEq
      go_enter Tryz.func129, Tryz.ntmps129
      go_wp2_with fail
      have B0 := BoxL.new w [.int .i64 s.sch, .int .i64 s.dim, .slice AL s.L.length cL, .slice AV s.V.length cV, .int .i64 s.scale, .int .i64 s.wide, .slice AE s.lev.length cE, .slice AN s.neg.length cN] 32
      refine (CQ.out _ (by go_grown)).mono ?_
      rintro _ w1 ⟨A1, c1, rfl, r1, hb⟩
      have HB1 := hid (B0.below hb (by simp))
      have k1 : Below w.heap.size w w1 := Below.trans (by go_grown) (hb.mono (by simp))
      have hg1 : w.heap.size < w1.heap.size := by have := hb.size; simp at this; omega
      clear B0 hb CQ r1
      have G2 : Below w1.heap.size w1 (w1.alloc (.cells #[.int .i64 3, .int .i64 (v.length : Int), .slice none 0 0, .slice none 0 0, .int .i64 M, .int .i64 0, .slice none 0 0, .slice A1 nl c1] 32)) := (Below.refl _ _).alloc (Nat.le_refl _) _
      obtain ⟨w2, hw2⟩ : ∃ w2, w1.alloc (.cells #[.int .i64 3, .int .i64 (v.length : Int), .slice none 0 0, .slice none 0 0, .int .i64 M, .int .i64 0, .slice none 0 0, .slice A1 nl c1] 32) = w2 := ⟨_, rfl⟩
      rw [hw2] at G2
      have X2 := HB1.out.below G2 hg1
      have k2 : Below w.heap.size w w2 := k1.trans (G2.mono k1.size)
      obtain ⟨⟨f0, f1, f2, f3, f4, f5, f6, f7⟩, _⟩ := X2.eight
      clear G2 X2 HB1
      go_wp2_with fail
      refine (CM.out _).mono ?_
      rintro _ w3 ⟨rfl, hb3⟩
      have k3 : Below w.heap.size w w3 := k2.trans (hb3.mono k2.size)
      clear f0 f1 f2 f3 f4 f5 f6 f7 hb3 CM
      go_wp2_with fail
      go_ret
      exact ⟨rfl, k3⟩
  · have hF : isSB v s = false := isSB_no (fun h => he h.1)
    have hS : sgS v = zeroS := if_neg he
    rw [hF]
    rw [hS] at CP
    obtain ⟨E, hE⟩ : ∃ E, mnE v = E := ⟨_, rfl⟩
    rw [hE] at CP he
    have hne : (E == 0) = false := beq_eq_false_iff_ne.2 he
    have CQ := hid (fun W (h : Below w.heap.size w W) => show Calls Tryz.prog 125 #[.slice A v.length c] W fun e w' => ∃ A' c', e = .returned (.tuple #[.agg #[.int .i64 0, .int .i64 0, .slice none 0 0, .slice none 0 0, .int .i64 0, .int .i64 0, .slice none 0 0, .slice A' 0 c'], .int .i64 E]) ∧ Below W.heap.size W w' from (CP.out W h).mono (by
      intro e w' H
      obtain ⟨A', c', h1, _, _, _, h2, h3⟩ := H
      exact ⟨A', c', h1, h3⟩))
    clear hF hS hE he uv ra rs CP CM hn
    go_enter Tryz.func129, Tryz.ntmps129
    go_wp2_with fail
    refine (CQ.out _ (by go_grown)).mono ?_
    rintro _ w1 ⟨A1, c1, rfl, hb⟩
    have k1 : Below w.heap.size w w1 := Below.trans (by go_grown) (hb.mono (by simp))
    have k2 : Below w.heap.size w (w1.alloc (.cells #[.int .i64 0, .int .i64 0, .slice none 0 0, .slice none 0 0, .int .i64 0, .int .i64 0, .slice none 0 0, .slice A1 0 c1] 32)) := k1.alloc k1.size _
    clear hb CQ
    go_wp2_with fail
    go_ret
    exact ⟨rfl, k2⟩
end Go.Proofs.YtecgbelgoomneaaGreat
/- The parts of a vector's body, by the program. -/
namespace Go.Proofs.YtecgbelgoomneaaGreat
open Go.RowKit
set_option maxHeartbeats 1000000
set_option maxRecDepth 100000
set_option linter.unusedVariables false
theorem held8 {w W w1 : World} {g : Nat} {a b c d e f i j : Value} (h : W.cell? ⟨g, 0, none⟩ = some a ∧ W.cell? ⟨g, 1, none⟩ = some b ∧ W.cell? ⟨g, 2, none⟩ = some c ∧ W.cell? ⟨g, 3, none⟩ = some d ∧ W.cell? ⟨g, 4, none⟩ = some e ∧ W.cell? ⟨g, 5, none⟩ = some f ∧ W.cell? ⟨g, 6, none⟩ = some i ∧ W.cell? ⟨g, 7, none⟩ = some j ∧ Below w.heap.size w W) (hb : Below W.heap.size W w1) : w1.cell? ⟨g, 0, none⟩ = some a ∧ w1.cell? ⟨g, 1, none⟩ = some b ∧ w1.cell? ⟨g, 2, none⟩ = some c ∧ w1.cell? ⟨g, 3, none⟩ = some d ∧ w1.cell? ⟨g, 4, none⟩ = some e ∧ w1.cell? ⟨g, 5, none⟩ = some f ∧ w1.cell? ⟨g, 6, none⟩ = some i ∧ w1.cell? ⟨g, 7, none⟩ = some j ∧ Below w.heap.size w w1 := by
  obtain ⟨h0, h1, h2, h3, h4, h5, h6, h7, h8⟩ := h
  have hg := lt_of_cell h0
  exact ⟨(hb.cell (p := ⟨g, 0, none⟩) hg).trans h0, (hb.cell (p := ⟨g, 1, none⟩) hg).trans h1, (hb.cell (p := ⟨g, 2, none⟩) hg).trans h2, (hb.cell (p := ⟨g, 3, none⟩) hg).trans h3, (hb.cell (p := ⟨g, 4, none⟩) hg).trans h4, (hb.cell (p := ⟨g, 5, none⟩) hg).trans h5, (hb.cell (p := ⟨g, 6, none⟩) hg).trans h6, (hb.cell (p := ⟨g, 7, none⟩) hg).trans h7, h8.trans (hb.mono h8.size)⟩
theorem heldB {w W : World} {g : Nat} {a b c d e f i j : Value} (h : W.cell? ⟨g, 0, none⟩ = some a ∧ W.cell? ⟨g, 1, none⟩ = some b ∧ W.cell? ⟨g, 2, none⟩ = some c ∧ W.cell? ⟨g, 3, none⟩ = some d ∧ W.cell? ⟨g, 4, none⟩ = some e ∧ W.cell? ⟨g, 5, none⟩ = some f ∧ W.cell? ⟨g, 6, none⟩ = some i ∧ W.cell? ⟨g, 7, none⟩ = some j ∧ Below w.heap.size w W) : Below w.heap.size w W := h.2.2.2.2.2.2.2.2
theorem growd (w : World) (o : Obj) : Below w.heap.size w (w.alloc o) := (Below.refl _ _).alloc (Nat.le_refl _) _
theorem wx_scale (s : SentV) (p : SentP) (h0 : 0 ≤ s.scale) (h1 : s.scale ≤ 9223372036854775807) (w : World) :
    Calls Tryz.prog 149 #[encT s p] w (OwnOf 5 .u8 w.heap.size (lebI s.scale) w) := by
  have CP : Hid (∀ (g : Nat) (W : World), W.cell? ⟨g, 0, none⟩ = some (.int .u64 s.scale) → Calls Tryz.prog 58 #[.slice none 0 0, .slice (some ⟨g, 0, none⟩) 1 1] W (OwnOf 5 .u8 W.heap.size (lebI s.scale) W)) := hid (fun g W h => by
    have h2 := leb_Put (A := none) (B := some ⟨g, 0, none⟩) (c := 0) (d := 1) [] [s.scale] (by simp) (by simp) (by intro x hx; simp at hx; subst hx; unfold U64; omega) W Rd.none_ (rd_one h)
    rw [List.nil_append, encs_one] at h2
    exact h2)
  obtain ⟨X, hX⟩ : ∃ X, lebI s.scale = X := ⟨_, rfl⟩
  rw [hX] at CP ⊢
  clear hX
  go_enter Tryz.func149, Tryz.ntmps149
  go_wp2_with fail
  refine (CP.out _ _ (by simp [go_sem])).mono ?_
  rintro _ w1 ⟨A1, d1, rfl, ho1, hb1⟩
  have HO := hid (own_base ho1 (show w.heap.size ≤ _ by simp; omega))
  clear ho1
  go_wp2_with fail
  go_ret
  exact ⟨A1, d1, rfl, HO.out, Below.trans (by go_grown) (hb1.mono (by simp; omega))⟩
theorem wx_dense (s : SentV) (p : SentP) (hn : lnS 5000 s) (hw : wfS s) (w : World) (ra : RdS w w.heap.size s p) :
    Calls Tryz.prog 107 #[encT s p] w (OwnOf 5 .u8 w.heap.size (sgnd s.V) w) := by
  have CP : Hid (∀ (W : World), Below w.heap.size w W → Calls Tryz.prog 146 #[.slice none 0 0, .slice p.AV s.V.length p.cV] W (OwnOf 5 .u8 W.heap.size (sgnd s.V) W)) := hid (fun W h => by
    have h2 := leb_Signed (A := none) (B := p.AV) (c := 0) (d := p.cV) [] s.V (by simp) hn.2.1 hw.2.2.2.1 W Rd.none_ ((ra.2.1.below h).more h.size)
    rw [List.nil_append] at h2
    exact h2)
  obtain ⟨X, hX⟩ : ∃ X, sgnd s.V = X := ⟨_, rfl⟩
  rw [hX] at CP ⊢
  clear hX ra hn hw
  go_enter Tryz.func107, Tryz.ntmps107
  go_wp2_with fail
  refine (CP.out _ (by go_grown)).mono ?_
  rintro _ w1 ⟨A1, d1, rfl, ho1, hb1⟩
  have HO := hid (own_base ho1 (show w.heap.size ≤ _ by simp))
  clear ho1
  go_wp2_with fail
  go_ret
  exact ⟨A1, d1, rfl, HO.out, Below.trans (by go_grown) (hb1.mono (by simp))⟩
theorem wx_sgns (s : SentV) (p : SentP) (hn : lnS 5000 s) (w : World) (ra : RdS w w.heap.size s p) :
    Calls Tryz.prog 150 #[encT s p] w (OwnOf 5 .u8 w.heap.size (sgnV s.neg) w) := by
  have CP := hid (fun W (h : Below w.heap.size w W) => pl_Signs (A := p.AN) (c := p.cN) s.neg (by have := hn.2.2.2; omega) W ((ra.2.2.2.below h).more h.size))
  obtain ⟨X, hX⟩ : ∃ X, sgnV s.neg = X := ⟨_, rfl⟩
  obtain ⟨E, hE⟩ : ∃ X, sgnE s.neg = X := ⟨_, rfl⟩
  rw [hX, hE] at CP
  rw [hX]
  clear hX hE ra hn
  go_enter Tryz.func150, Tryz.ntmps150
  go_wp2_with fail
  refine (CP.out _ (by go_grown)).mono ?_
  rintro _ w1 ⟨A1, d1, rfl, ho1, hb1⟩
  have HO := hid (own_base ho1 (show w.heap.size ≤ _ by simp))
  clear ho1
  go_wp2_with fail
  go_ret
  exact ⟨A1, d1, rfl, HO.out, Below.trans (by go_grown) (hb1.mono (by simp))⟩
theorem wx_top (s : SentV) (p : SentP) (hn : lnS 5000 s) (hw : wfS s) (w : World) (ra : RdS w w.heap.size s p) :
    Calls Tryz.prog 108 #[encT s p] w (OwnOf 5 .u8 w.heap.size (pixV s.dim s.L ++ sgnd s.V) w) := by
  have CI := hid (fun W (h : Below w.heap.size w W) => ix_Put (A := p.AL) (c := p.cL) s.dim s.L hw.2.1 (by have := hn.1; omega) W ((ra.1.below h).more h.size))
  have CP := hid (fun A c W (h : Below w.heap.size w W) (hr : Rd (Value.int .u8) W W.heap.size A (pixV s.dim s.L)) => leb_Signed (A := A) (B := p.AV) (c := c) (d := p.cV) (pixV s.dim s.L) s.V (by have := pixV_len s.dim s.L; omega) hn.2.1 hw.2.2.2.1 W hr ((ra.2.1.below h).more h.size))
  have hR : pixV s.dim s.L ++ encs (s.V.map zigI) = pixV s.dim s.L ++ sgnd s.V := rfl
  rw [hR] at CP
  obtain ⟨R, hRR⟩ : ∃ R, pixV s.dim s.L ++ sgnd s.V = R := ⟨_, rfl⟩
  rw [hRR] at CP ⊢
  obtain ⟨X, hX⟩ : ∃ X, pixV s.dim s.L = X := ⟨_, rfl⟩
  obtain ⟨E, hE⟩ : ∃ X, chkE s.dim s.L = X := ⟨_, rfl⟩
  rw [hX] at CP
  rw [hX, hE] at CI
  have HB0 := hid (boxT_new w s p 87)
  clear hR hRR hX hE ra hn hw
  go_enter Tryz.func108, Tryz.ntmps108
  go_wp2_with fail
  refine (CI.out _ (by go_grown)).mono ?_
  rintro _ w1 ⟨A1, d1, rfl, ho1, hb1⟩
  have k1 : Below w.heap.size w w1 := Below.trans (by go_grown) (hb1.mono (by simp))
  have HB1 := hid (HB0.out.below hb1 (by simp))
  have HR1 := hid (own_rd ho1)
  obtain ⟨⟨c0, c1, c2, c3, c4, c5, c6, c7⟩, _⟩ := HB1.out.eight
  clear hb1 HB0 ho1
  go_wp2_with fail
  refine (CP.out _ _ _ k1 HR1.out).mono ?_
  rintro _ w2 ⟨A2, d2, rfl, ho2, hb2⟩
  have HO := hid (own_base ho2 k1.size)
  clear ho2
  go_wp2_with fail
  go_ret
  exact ⟨A2, d2, rfl, HO.out, k1.trans (hb2.mono k1.size)⟩
theorem wx_sign (s : SentV) (p : SentP) (hn : lnS 5000 s) (h0 : 0 ≤ s.scale) (h1 : s.scale ≤ 9223372036854775807) (w : World) (ra : RdS w w.heap.size s p) :
    Calls Tryz.prog 110 #[encT s p] w (OwnOf 5 .u8 w.heap.size (lebI s.scale ++ sgnV s.neg) w) := by
  have CSc := hid (fun W => wx_scale s p h0 h1 W)
  have CSg := hid (fun W (h : Below w.heap.size w W) => wx_sgns s p hn W ((ra.1.below h).more h.size |> fun a => ⟨a, (ra.2.1.below h).more h.size, (ra.2.2.1.below h).more h.size, (ra.2.2.2.below h).more h.size⟩))
  have l1 := lebI_ten (n := s.scale) (by unfold U64; omega)
  have l2 : (sgnV s.neg).length ≤ 1000 := by
    by_cases h : s.neg.length ≤ 4096
    · rw [sgnV_len h]; omega
    · unfold sgnV; rw [if_pos (by omega)]; simp
  obtain ⟨X, hX⟩ : ∃ X, lebI s.scale = X := ⟨_, rfl⟩
  obtain ⟨Y, hY⟩ : ∃ X, sgnV s.neg = X := ⟨_, rfl⟩
  rw [hX] at CSc l1
  rw [hY] at CSg l2
  rw [hX, hY]
  have CC : Hid (∀ (A : Option Addr) (c : Nat) (W : World), Below w.heap.size w W → RdRow8 W W.heap.size A [X, Y] → Calls Tryz.prog 112 #[.slice A 2 c] W fun e w' => ∃ A3 d3, e = .returned (.slice A3 (X ++ Y).length d3) ∧ w'.ownsRow w.heap.size 5 1 (.slice A3 (X ++ Y).length d3) (X ++ Y).length ((X ++ Y).map (Value.int .u8)) ∧ Below W.heap.size W w') := hid (fun A c W h hr => by
    have hh := by_concat (A := A) (c := c) [X, Y] (by simp) (by simp; omega) W hr
    simp only [List.flatten_cons, List.flatten_nil, List.append_nil] at hh
    exact hh.mono fun _ _ ⟨A3, d3, e1, e2, e3⟩ => ⟨A3, d3, e1, own_base e2 h.size, e3⟩)
  obtain ⟨R, hR⟩ : ∃ R, X ++ Y = R := ⟨_, rfl⟩
  rw [hR] at CC ⊢
  clear hX hY hR ra hn l1 l2
  go_enter Tryz.func110, Tryz.ntmps110
  go_wp2_with fail
  go_region_held3 (fun w' => w'.cell? ⟨w.heap.size, 0, none⟩ = some (.int .i64 s.sch) ∧ w'.cell? ⟨w.heap.size, 1, none⟩ = some (.int .i64 s.dim) ∧ w'.cell? ⟨w.heap.size, 2, none⟩ = some (.slice p.AL s.L.length p.cL) ∧ w'.cell? ⟨w.heap.size, 3, none⟩ = some (.slice p.AV s.V.length p.cV) ∧ w'.cell? ⟨w.heap.size, 4, none⟩ = some (.int .i64 s.scale) ∧ w'.cell? ⟨w.heap.size, 5, none⟩ = some (.int .i64 s.wide) ∧ w'.cell? ⟨w.heap.size, 6, none⟩ = some (.slice p.AE s.lev.length p.cE) ∧ w'.cell? ⟨w.heap.size, 7, none⟩ = some (.slice p.AN s.neg.length p.cN) ∧ Below w.heap.size w w') (first | exact ⟨by simp [go_sem], by simp [go_sem], by simp [go_sem], by simp [go_sem], by simp [go_sem], by simp [go_sem], by simp [go_sem], by simp [go_sem], by go_grown⟩ | exact held8 (by assumption) hb3 | exact held8 (by assumption) hb2 | exact held8 (by assumption) hb1 | exact held8 (by assumption) (growd _ _))
    (first | (go_at_call 149; refine (CSc.out _).mono ?_; rintro _ w1 ⟨A1, d1, rfl, ho1, hb1⟩) | (go_at_call 150; refine (CSg.out _ (heldB (by assumption))).mono ?_; rintro _ w2 ⟨A2, d2, rfl, ho2, hb2⟩) | (go_at_call 112; refine (CC.out _ _ _ (heldB (by assumption)) (row8_two X Y _ (own_rd (own_on ho1 hb2)) (own_rd ho2) _)).mono ?_; rintro _ w3 ⟨A3, d3, rfl, ho3, hb3⟩))
  all_goals
    have HO := hid ho3
    clear ho1 ho2 ho3
    go_wp2_with fail
    go_ret
    exact ⟨A3, d3, rfl, HO.out, heldB (by assumption)⟩
end Go.Proofs.YtecgbelgoomneaaGreat
/- A vector's body with levels, by the program. -/
namespace Go.Proofs.YtecgbelgoomneaaGreat
open Go.RowKit
set_option maxHeartbeats 1000000
set_option maxRecDepth 100000
set_option linter.unusedVariables false
theorem row8_fourG {A1 A2 A3 A4 : Option Addr} {c1 c2 c3 c4 g : Nat} (x1 x2 x3 x4 : List Int) (W : World) (r1 : Rd (Value.int .u8) W W.heap.size A1 x1) (r2 : Rd (Value.int .u8) W W.heap.size A2 x2) (r3 : Rd (Value.int .u8) W W.heap.size A3 x3) (r4 : Rd (Value.int .u8) W W.heap.size A4 x4) (t : TypeId) (hg : g = W.heap.size) :
    RdRow8 (W.alloc (.cells #[.slice A1 x1.length c1, .slice A2 x2.length c2, .slice A3 x3.length c3, .slice A4 x4.length c4] t)) (W.alloc (.cells #[.slice A1 x1.length c1, .slice A2 x2.length c2, .slice A3 x3.length c3, .slice A4 x4.length c4] t)).heap.size (some ⟨g, 0, none⟩) [x1, x2, x3, x4] := by
  subst hg
  exact row8_four x1 x2 x3 x4 W r1 r2 r3 r4 t
theorem wx_level (s : SentV) (p : SentP) (hn : lnS 5000 s) (hw : wfS s) (h0 : 0 ≤ s.scale) (h1 : 1 ≤ s.wide) (h8 : s.wide ≤ 8) (hl4 : s.lev.length ≤ 4096) (hf : fitsB s.wide s.lev = true) (w : World) (ra : RdS w w.heap.size s p) :
    Calls Tryz.prog 109 #[encT s p] w (OwnOf 5 .u8 w.heap.size (lebI s.scale ++ ((s.wide :: wevV s.wide s.lev) ++ sgnV s.neg)) w) := by
  have hsc : I64 s.scale := hw.2.2.2.2.1
  have hwd : I64 s.wide := hw.2.2.2.2.2.1
  unfold I64 at hsc
  have CSc := hid (fun W => wx_scale s p h0 hsc.2 W)
  have CSg := hid (fun W (h : Below w.heap.size w W) => wx_sgns s p hn W ⟨(ra.1.below h).more h.size, (ra.2.1.below h).more h.size, (ra.2.2.1.below h).more h.size, (ra.2.2.2.below h).more h.size⟩)
  have CWv := hid (fun W (h : Below w.heap.size w W) => pl_Weave (A := p.AE) (c := p.cE) s.wide s.lev hwd (by omega) hw.2.2.2.2.2.2 W ((ra.2.2.1.below h).more h.size))
  have hb8 : bysE s.wide s.lev.length = 0 := by unfold bysE; rw [if_neg (by omega), if_neg (by omega)]
  have hme : mayE s.wide s.lev = 0 := by unfold mayE; rw [if_pos hb8, if_pos hf]
  rw [hme] at CWv
  have hwl := ((may_same s.wide s.lev).2 hme).2
  have hwl2 : (wevV s.wide s.lev).length ≤ 5000 := by
    have h9 : s.wide.toNat * s.lev.length ≤ 8 * 4096 := Nat.mul_le_mul (by omega) (by omega)
    rw [hwl]; omega
  have l1 := lebI_ten (n := s.scale) (by unfold U64; omega)
  have l2 : (sgnV s.neg).length ≤ 1000 := by
    by_cases h : s.neg.length ≤ 4096
    · rw [sgnV_len h]; omega
    · unfold sgnV; rw [if_pos (by omega)]; simp
  obtain ⟨X, hX⟩ : ∃ X, lebI s.scale = X := ⟨_, rfl⟩
  obtain ⟨NV, hY⟩ : ∃ X, sgnV s.neg = X := ⟨_, rfl⟩
  obtain ⟨WV, hV⟩ : ∃ X, wevV s.wide s.lev = X := ⟨_, rfl⟩
  rw [hX] at CSc l1
  rw [hY] at CSg l2
  rw [hV] at CWv hwl2
  rw [hX, hY, hV]
  obtain ⟨R, hR⟩ : ∃ R, X ++ ((s.wide :: WV) ++ NV) = R := ⟨_, rfl⟩
  have CC : Hid (∀ (A : Option Addr) (c : Nat) (W : World), Below w.heap.size w W → RdRow8 W W.heap.size A [X, [s.wide], WV, NV] → Calls Tryz.prog 112 #[.slice A 4 c] W fun e w' => ∃ A3 d3, e = .returned (.slice A3 R.length d3) ∧ w'.ownsRow w.heap.size 5 1 (.slice A3 R.length d3) R.length (R.map (Value.int .u8)) ∧ Below W.heap.size W w') := hid (fun A c W h hr => by
    have hh := by_concat (A := A) (c := c) [X, [s.wide], WV, NV] (by simp) (by simp; omega) W hr
    have e : [X, [s.wide], WV, NV].flatten = R := by rw [← hR]; simp
    rw [e] at hh
    exact hh.mono fun _ _ ⟨A3, d3, e1, e2, e3⟩ => ⟨A3, d3, e1, own_base e2 h.size, e3⟩)
  have HB0 := hid (boxT_new w s p 87)
  have hwb : s.wide % 256 = s.wide := by omega
  have hwb2 : IntKind.u8.wrap s.wide = s.wide := by rw [IntKind.wrap_u8]; omega
  rw [hR]
  clear hwb hX hY hV hR ra hn l1 l2 hwl hwl2 hb8 hme hf hw hwd
  go_enter Tryz.func109, Tryz.ntmps109
  go_wp2_with fail
  refine (CWv.out _ (by go_grown)).mono ?_
  rintro _ w0 ⟨AW, dW, rfl, ho0, hb0⟩
  have k0 : Below w.heap.size w w0 := Below.trans (by go_grown) (hb0.mono (by simp))
  have HB1 := hid (HB0.out.below hb0 (by simp))
  have HRW : Hid (Rd (Value.int .u8) w0.drew w0.drew.heap.size AW WV) := hid (own_rd ho0)
  clear hb0 HB0 ho0 CWv
  go_wp2_with fail
  obtain ⟨⟨c0, c1, c2, c3, c4, c5, c6, c7⟩, _⟩ := HB1.out.eight
  go_region_held3 (fun w' => w'.cell? ⟨w.heap.size, 0, none⟩ = some (.int .i64 s.sch) ∧ w'.cell? ⟨w.heap.size, 1, none⟩ = some (.int .i64 s.dim) ∧ w'.cell? ⟨w.heap.size, 2, none⟩ = some (.slice p.AL s.L.length p.cL) ∧ w'.cell? ⟨w.heap.size, 3, none⟩ = some (.slice p.AV s.V.length p.cV) ∧ w'.cell? ⟨w.heap.size, 4, none⟩ = some (.int .i64 s.scale) ∧ w'.cell? ⟨w.heap.size, 5, none⟩ = some (.int .i64 s.wide) ∧ w'.cell? ⟨w.heap.size, 6, none⟩ = some (.slice p.AE s.lev.length p.cE) ∧ w'.cell? ⟨w.heap.size, 7, none⟩ = some (.slice p.AN s.neg.length p.cN) ∧ Below w.heap.size w w') (first | exact ⟨c0, c1, c2, c3, c4, c5, c6, c7, k0.drew⟩ | exact held8 (by assumption) hb3 | exact held8 (by assumption) hb2 | exact held8 (by assumption) hb1 | exact held8 (by assumption) (growd _ _))
    (first | (go_at_call 149; refine (CSc.out _).mono ?_; rintro _ w1 ⟨A1, d1, rfl, ho1, hb1⟩) | (go_at_call 150; refine (CSg.out _ (heldB (by assumption))).mono ?_; rintro _ w2 ⟨A2, d2, rfl, ho2, hb2⟩) | (go_at_call 112; (with_reducible have e0 := hb2); (with_reducible have e00 : Below (w0.alloc (.cells #[.int .u8 s.wide] 5)).drew.heap.size (w0.alloc (.cells #[.int .u8 s.wide] 5)).drew w1 := hb1); have r2 := ((show Rd (Value.int .u8) (w0.alloc (.cells #[.int .u8 s.wide] 5)).drew (w0.alloc (.cells #[.int .u8 s.wide] 5)).drew.heap.size (some ⟨w0.heap.size, 0, none⟩) [s.wide] from rd_one (enc := Value.int .u8) (one_cell w0 (.int .u8 s.wide) 5).1).on hb1).on hb2; have r1 := own_rd (own_on ho1 hb2); have r3 := ((show Rd (Value.int .u8) (w0.alloc (.cells #[.int .u8 s.wide] 5)).drew (w0.alloc (.cells #[.int .u8 s.wide] 5)).drew.heap.size AW WV from (show Rd (Value.int .u8) w0 w0.heap.size AW WV from HRW.out).on (growd w0 (.cells #[.int .u8 s.wide] 5)).drew).on hb1).on hb2; have r4 := own_rd ho2; refine (CC.out _ _ _ (heldB (by assumption)) (row8_fourG X [s.wide] WV NV _ r1 r2 r3 r4 _ (by first | rfl | simp))).mono ?_; rintro _ w3 ⟨A3, d3, rfl, ho3, hb3⟩) | (go_at_call 112; (with_reducible have r2 := (rd_one (enc := Value.int .u8) (one_cell w1 (.int .u8 s.wide) 5).1).on hb2); have e1 := (growd w1 (.cells #[.int .u8 s.wide] 5)).trans (hb2.mono (growd w1 (.cells #[.int .u8 s.wide] 5)).size); have r1 := own_rd (own_on ho1 e1); have r3 := (HRW.out.on hb1).on e1; have r4 := own_rd ho2; refine (CC.out _ _ _ (heldB (by assumption)) (row8_fourG X [s.wide] WV NV _ r1 r2 r3 r4 _ (by first | rfl | simp))).mono ?_; rintro _ w3 ⟨A3, d3, rfl, ho3, hb3⟩) | (go_at_call 112; have r2 := (rd_one (enc := Value.int .u8) (one_cell w2 (.int .u8 s.wide) 5).1); have e1 := growd w2 (.cells #[.int .u8 s.wide] 5); have r1 := own_rd (own_on (own_on ho1 hb2) e1); have r3 := ((HRW.out.on hb1).on hb2).on e1; have r4 := own_rd (own_on ho2 e1); refine (CC.out _ _ _ (heldB (by assumption)) (row8_fourG X [s.wide] WV NV _ r1 r2 r3 r4 _ (by first | rfl | simp))).mono ?_; rintro _ w3 ⟨A3, d3, rfl, ho3, hb3⟩) | fail)
  all_goals
    have HO := hid ho3
    clear r1 r2 r3 r4 ho1 ho2 ho3
    go_wp2_with fail
    go_ret
    exact ⟨A3, d3, rfl, HO.out, heldB (by assumption)⟩
end Go.Proofs.YtecgbelgoomneaaGreat
/- A vector's body, by the program: its scheme's method out of a map. -/
namespace Go.Proofs.YtecgbelgoomneaaGreat
open Go.RowKit
set_option maxHeartbeats 2000000
set_option maxRecDepth 100000
set_option linter.unusedVariables false
theorem held12 {P : Program} {t : TypeId} {key F : Value} {w W W5 w1 : World} {g : Nat} {a b c d e f i j : Value} (HL : ∀ W : World, W.heap[g + 1]? = W5.heap[g + 1]? → (Instr.lookup t (.map (some (g + 1))) key false).run P W = .ok F W)
    (h : W.cell? ⟨g, 0, none⟩ = some a ∧ W.cell? ⟨g, 1, none⟩ = some b ∧ W.cell? ⟨g, 2, none⟩ = some c ∧ W.cell? ⟨g, 3, none⟩ = some d ∧ W.cell? ⟨g, 4, none⟩ = some e ∧ W.cell? ⟨g, 5, none⟩ = some f ∧ W.cell? ⟨g, 6, none⟩ = some i ∧ W.cell? ⟨g, 7, none⟩ = some j ∧ (Instr.lookup t (.map (some (g + 1))) key false).run P W = .ok F W ∧ W.heap[g + 1]? = W5.heap[g + 1]? ∧ g + 2 ≤ W.heap.size ∧ Below g w W) (hb : Below (g + 2) W w1) : w1.cell? ⟨g, 0, none⟩ = some a ∧ w1.cell? ⟨g, 1, none⟩ = some b ∧ w1.cell? ⟨g, 2, none⟩ = some c ∧ w1.cell? ⟨g, 3, none⟩ = some d ∧ w1.cell? ⟨g, 4, none⟩ = some e ∧ w1.cell? ⟨g, 5, none⟩ = some f ∧ w1.cell? ⟨g, 6, none⟩ = some i ∧ w1.cell? ⟨g, 7, none⟩ = some j ∧ (Instr.lookup t (.map (some (g + 1))) key false).run P w1 = .ok F w1 ∧ w1.heap[g + 1]? = W5.heap[g + 1]? ∧ g + 2 ≤ w1.heap.size ∧ Below g w w1 := by
  obtain ⟨h0, h1, h2, h3, h4, h5, h6, h7, hl, hm, hz, hB⟩ := h
  have hm1 := (hb.block (g + 1) (by omega)).trans hm
  exact ⟨(hb.cell (p := ⟨g, 0, none⟩) (by simp)).trans h0, (hb.cell (p := ⟨g, 1, none⟩) (by simp)).trans h1, (hb.cell (p := ⟨g, 2, none⟩) (by simp)).trans h2, (hb.cell (p := ⟨g, 3, none⟩) (by simp)).trans h3, (hb.cell (p := ⟨g, 4, none⟩) (by simp)).trans h4, (hb.cell (p := ⟨g, 5, none⟩) (by simp)).trans h5, (hb.cell (p := ⟨g, 6, none⟩) (by simp)).trans h6, (hb.cell (p := ⟨g, 7, none⟩) (by simp)).trans h7, HL _ hm1, hm1, Nat.le_trans hz hb.size, hB.trans (hb.mono (by omega))⟩
theorem held12B {P : Program} {t : TypeId} {key F : Value} {w W W5 : World} {g : Nat} {a b c d e f i j : Value} (h : W.cell? ⟨g, 0, none⟩ = some a ∧ W.cell? ⟨g, 1, none⟩ = some b ∧ W.cell? ⟨g, 2, none⟩ = some c ∧ W.cell? ⟨g, 3, none⟩ = some d ∧ W.cell? ⟨g, 4, none⟩ = some e ∧ W.cell? ⟨g, 5, none⟩ = some f ∧ W.cell? ⟨g, 6, none⟩ = some i ∧ W.cell? ⟨g, 7, none⟩ = some j ∧ (Instr.lookup t (.map (some (g + 1))) key false).run P W = .ok F W ∧ W.heap[g + 1]? = W5.heap[g + 1]? ∧ g + 2 ≤ W.heap.size ∧ Below g w W) : Below g w W := h.2.2.2.2.2.2.2.2.2.2.2
theorem held12Z {P : Program} {t : TypeId} {key F : Value} {w W W5 : World} {g : Nat} {a b c d e f i j : Value} (h : W.cell? ⟨g, 0, none⟩ = some a ∧ W.cell? ⟨g, 1, none⟩ = some b ∧ W.cell? ⟨g, 2, none⟩ = some c ∧ W.cell? ⟨g, 3, none⟩ = some d ∧ W.cell? ⟨g, 4, none⟩ = some e ∧ W.cell? ⟨g, 5, none⟩ = some f ∧ W.cell? ⟨g, 6, none⟩ = some i ∧ W.cell? ⟨g, 7, none⟩ = some j ∧ (Instr.lookup t (.map (some (g + 1))) key false).run P W = .ok F W ∧ W.heap[g + 1]? = W5.heap[g + 1]? ∧ g + 2 ≤ W.heap.size ∧ Below g w W) : g + 2 ≤ W.heap.size := h.2.2.2.2.2.2.2.2.2.2.1
theorem head_len {s : SentV} (hd1 : 1 ≤ s.dim) (hd4 : s.dim ≤ 4096) : ([s.sch] ++ encs [s.dim]).length ≤ 11 := by
  have h := lebI_ten (n := s.dim) (by unfold U64; omega)
  rw [encs_one, List.length_append, List.length_singleton]
  omega
end Go.Proofs.YtecgbelgoomneaaGreat
/- Whether a frame may be, and is the same; an acknowledgement: by the program. -/
namespace Go.Proofs.YtecgbelgoomneaaGreat
open Go.RowKit
set_option maxHeartbeats 400000
set_option maxRecDepth 100000
set_option linter.unusedVariables false
def carP (f : FrameV) : Prop := (f.knd = 1 ∧ mayB f.S = true) ∨ (f.knd = 2 ∧ empB f.S = true)
instance (f : FrameV) : Decidable (carP f) := by unfold carP; infer_instance
def carB (f : FrameV) : Bool := decide (carP f)
theorem carB_iff {f : FrameV} : carB f = true ↔ carP f := by unfold carB; exact decide_eq_true_iff
theorem emp_zero {s : SentV} : empB s = true ↔ sameS s zeroS = true := by
  rw [empB_iff, sameS_iff]
  obtain ⟨a1, a2, a3, a4, a5, a6, a7, a8⟩ := s
  unfold zeroS
  simp
  intros
  constructor
  · rintro ⟨h3, h4, h5, h6, h7, h8⟩; exact ⟨h5, h6, h3, h4, h7, h8⟩
  · rintro ⟨h5, h6, h3, h4, h7, h8⟩; exact ⟨h3, h4, h5, h6, h7, h8⟩
theorem fs_carries (f : FrameV) (p : SentP) (hn : lnS 100000 f.S) (hw : wfF f) (w : World) (ra : RdS w w.heap.size f.S p) :
    Calls Tryz.prog 104 #[encF f p] w fun e w' => e = .returned (.bool (carB f)) ∧ Below w.heap.size w w' := by
  by_cases h1 : f.knd = 1
  · have C := hid (fun W (h : Below w.heap.size w W) => fs_May f.S p hn hw.2.2.2 W ((ra.below h).more h.size))
    have HR : carB f = mayB f.S := by
      have h : carB f = true ↔ mayB f.S = true := by rw [carB_iff]; unfold carP; simp [h1]
      cases hx : mayB f.S <;> simp_all
    rw [HR]
    have g0 : (f.knd == 1) = true := by rw [h1]; rfl
    clear h1 HR ra hn hw
    go_enter Tryz.func104, Tryz.ntmps104
    go_wp2_with fail
    refine (C.out _ (by go_grown)).mono ?_
    rintro _ w1 ⟨rfl, hb1⟩
    go_wp2_with fail
    go_ret
    exact ⟨rfl, Below.trans (by go_grown) (hb1.mono (by simp))⟩
  · by_cases h2 : f.knd = 2
    · have C := hid (fun W => fs_empty f.S p W)
      have HR : carB f = empB f.S := by
        have h : carB f = true ↔ empB f.S = true := by rw [carB_iff]; unfold carP; simp [h2]
        cases hx : empB f.S <;> simp_all
      rw [HR]
      have g0 : (f.knd == 1) = false := by rw [h2]; rfl
      have g1 : (f.knd == 2) = true := by rw [h2]; rfl
      clear h1 h2 HR ra hn hw
      go_enter Tryz.func104, Tryz.ntmps104
      go_wp2_with fail
      refine (C.out _).mono ?_
      rintro _ w1 ⟨rfl, hb1⟩
      go_wp2_with fail
      go_ret
      exact ⟨rfl, Below.trans (by go_grown) (hb1.mono (by simp))⟩
    · have HR : carB f = false := decide_eq_false (by unfold carP; simp [h1, h2])
      rw [HR]
      clear HR ra hn hw
      go_enter Tryz.func104, Tryz.ntmps104
      go_wp2_with fail
      go_ret
      exact ⟨rfl, by go_grown⟩
theorem fs_Check (f : FrameV) (p : SentP) (hn : lnS 100000 f.S) (hw : wfF f) (w : World) (ra : RdS w w.heap.size f.S p) :
    Calls Tryz.prog 57 #[encF f p] w fun e w' => e = .returned (.int .i64 (chkF f)) ∧ Below w.heap.size w w' := by
  have C := hid (fun W (h : Below w.heap.size w W) => fs_carries f p hn hw W ((ra.below h).more h.size))
  have HR : chkF f = 0 ↔ (0 ≤ f.frm ∧ f.frm < 64 ∧ 0 ≤ f.stp ∧ f.stp ≤ 1073741824 ∧ carB f = true) := by
    rw [chkF_ok, carB_iff]; unfold frmP carP; rw [emp_zero]
  have HE : chkF f = 0 ∨ chkF f = 1 := by unfold chkF; split <;> simp
  obtain ⟨R, hR⟩ : ∃ R, chkF f = R := ⟨_, rfl⟩
  obtain ⟨v, hv⟩ : ∃ R, carB f = R := ⟨_, rfl⟩
  rw [hR] at HR HE ⊢
  rw [hv] at HR C
  have HR2 := hid HR
  have HE2 := hid HE
  clear hR hv HR HE ra hn hw
  by_cases ok : 0 ≤ f.frm ∧ f.frm < 64 ∧ 0 ≤ f.stp ∧ f.stp ≤ 1073741824
  · obtain ⟨o1, o2, o3, o4⟩ := ok
    cases v with
    | true =>
      obtain rfl : R = 0 := HR2.out.2 ⟨o1, o2, o3, o4, rfl⟩
      clear HR2 HE2
      go_enter Tryz.func57, Tryz.ntmps57
      go_wp2_with fail
      refine (C.out _ (by go_grown)).mono ?_
      rintro _ w1 ⟨rfl, hb1⟩
      go_wp2_with fail
      go_ret
      exact ⟨rfl, Below.trans (by go_grown) (hb1.mono (by simp))⟩
    | false =>
      obtain rfl : R = 1 := by rcases HE2.out with h | h; have := (HR2.out.1 h).2.2.2.2; simp at this; exact h
      clear HR2 HE2
      go_enter Tryz.func57, Tryz.ntmps57
      go_wp2_with fail
      refine (C.out _ (by go_grown)).mono ?_
      rintro _ w1 ⟨rfl, hb1⟩
      go_wp2_with fail
      go_ret
      exact ⟨rfl, Below.trans (by go_grown) (hb1.mono (by simp))⟩
  · obtain rfl : R = 1 := by
      rcases HE2.out with h | h
      · have h5 := HR2.out.1 h; exact absurd ⟨h5.1, h5.2.1, h5.2.2.1, h5.2.2.2.1⟩ ok
      · exact h
    clear HR2 HE2 C
    by_cases o1 : 0 ≤ f.frm
    · by_cases o2 : f.frm < 64
      · by_cases o3 : 0 ≤ f.stp
        · have o4 : ¬ f.stp ≤ 1073741824 := fun h => ok ⟨o1, o2, o3, h⟩
          clear ok
          go_enter Tryz.func57, Tryz.ntmps57
          go_wp2_with fail
          all_goals (go_ret; exact ⟨rfl, by go_grown⟩)
        · clear ok
          go_enter Tryz.func57, Tryz.ntmps57
          go_wp2_with fail
          all_goals (go_ret; exact ⟨rfl, by go_grown⟩)
      · clear ok
        go_enter Tryz.func57, Tryz.ntmps57
        go_wp2_with fail
        all_goals (go_ret; exact ⟨rfl, by go_grown⟩)
    · clear ok
      go_enter Tryz.func57, Tryz.ntmps57
      go_wp2_with fail
      all_goals (go_ret; exact ⟨rfl, by go_grown⟩)
end Go.Proofs.YtecgbelgoomneaaGreat
/- A frame's text, and how many bytes it has, by the document. -/
namespace Go.Proofs.YtecgbelgoomneaaGreat
open Go.RowKit
set_option maxHeartbeats 400000
set_option maxRecDepth 100000
set_option linter.unusedVariables false
/-- A frame in a box of its own. -/
def BoxF (w : World) (b : Nat) (f : FrameV) (p : SentP) : Prop :=
  w.cell? ⟨b, 0, none⟩ = some (.int .i64 f.knd) ∧ w.cell? ⟨b, 1, none⟩ = some (.int .i64 f.frm) ∧ w.cell? ⟨b, 2, none⟩ = some (.int .i64 f.stp) ∧
  w.cell? ⟨b, 3, none⟩ = some (.int .i64 f.S.sch) ∧ w.cell? ⟨b, 4, none⟩ = some (.int .i64 f.S.dim) ∧ w.cell? ⟨b, 5, none⟩ = some (.slice p.AL f.S.L.length p.cL) ∧ w.cell? ⟨b, 6, none⟩ = some (.slice p.AV f.S.V.length p.cV) ∧
  w.cell? ⟨b, 7, none⟩ = some (.int .i64 f.S.scale) ∧ w.cell? ⟨b, 8, none⟩ = some (.int .i64 f.S.wide) ∧ w.cell? ⟨b, 9, none⟩ = some (.slice p.AE f.S.lev.length p.cE) ∧ w.cell? ⟨b, 10, none⟩ = some (.slice p.AN f.S.neg.length p.cN)
theorem BoxF.below {w w' : World} {b B : Nat} {f : FrameV} {p : SentP} (h : BoxF w b f p) (hb : Below B w w') (hB : b < B) : BoxF w' b f p := by
  obtain ⟨h0, h1, h2, h3, h4, h5, h6, h7, h8, h9, h10⟩ := h
  exact ⟨(hb.cell (p := ⟨b, 0, none⟩) hB).trans h0, (hb.cell (p := ⟨b, 1, none⟩) hB).trans h1, (hb.cell (p := ⟨b, 2, none⟩) hB).trans h2, (hb.cell (p := ⟨b, 3, none⟩) hB).trans h3,
    (hb.cell (p := ⟨b, 4, none⟩) hB).trans h4, (hb.cell (p := ⟨b, 5, none⟩) hB).trans h5, (hb.cell (p := ⟨b, 6, none⟩) hB).trans h6, (hb.cell (p := ⟨b, 7, none⟩) hB).trans h7, (hb.cell (p := ⟨b, 8, none⟩) hB).trans h8, (hb.cell (p := ⟨b, 9, none⟩) hB).trans h9, (hb.cell (p := ⟨b, 10, none⟩) hB).trans h10⟩
theorem boxF_new (w : World) (f : FrameV) (p : SentP) (t : TypeId) : BoxF (w.alloc (.cells #[.int .i64 f.knd, .int .i64 f.frm, .int .i64 f.stp, .int .i64 f.S.sch, .int .i64 f.S.dim, .slice p.AL f.S.L.length p.cL, .slice p.AV f.S.V.length p.cV, .int .i64 f.S.scale, .int .i64 f.S.wide, .slice p.AE f.S.lev.length p.cE, .slice p.AN f.S.neg.length p.cN] t)) w.heap.size f p :=
  ⟨by simp [go_sem], by simp [go_sem], by simp [go_sem], by simp [go_sem], by simp [go_sem], by simp [go_sem], by simp [go_sem], by simp [go_sem], by simp [go_sem], by simp [go_sem], by simp [go_sem]⟩
theorem two_rd (w : World) (k k' : IntKind) (a b c d : Int) (t t' : TypeId) :
    Rd (Value.int k) ((w.alloc (.cells #[.int k a, .int k b] t)).alloc (.cells #[.int k' c, .int k' d] t')) ((w.alloc (.cells #[.int k a, .int k b] t)).alloc (.cells #[.int k' c, .int k' d] t')).heap.size (some ⟨w.heap.size, 0, none⟩) [a, b] ∧
    Rd (Value.int k') ((w.alloc (.cells #[.int k a, .int k b] t)).alloc (.cells #[.int k' c, .int k' d] t')) ((w.alloc (.cells #[.int k a, .int k b] t)).alloc (.cells #[.int k' c, .int k' d] t')).heap.size (some ⟨w.heap.size + 1, 0, none⟩) [c, d] ∧
    Below w.heap.size w ((w.alloc (.cells #[.int k a, .int k b] t)).alloc (.cells #[.int k' c, .int k' d] t')) := by
  refine ⟨?_, ?_, by go_grown⟩
  · have h := rd_new (enc := Value.int k) w t [a, b]
    exact h.on (grow (w.alloc (.cells #[.int k a, .int k b] t)) _)
  · have h := rd_new (enc := Value.int k') (w.alloc (.cells #[.int k a, .int k b] t)) t' [c, d]
    have e : (w.alloc (.cells #[.int k a, .int k b] t)).heap.size = w.heap.size + 1 := World.size_alloc _ _
    have h2 := h
    rw [show (some (⟨(w.alloc (.cells #[.int k a, .int k b] t)).heap.size, 0, none⟩ : Addr)) = some ⟨w.heap.size + 1, 0, none⟩ by rw [e]] at h2
    exact h2
end Go.Proofs.YtecgbelgoomneaaGreat
/- The program's reader: on, or none; the next bytes; the next byte; the next number. -/
namespace Go.Proofs.YtecgbelgoomneaaGreat
open Go.RowKit
set_option maxHeartbeats 1000000
set_option maxRecDepth 100000
set_option linter.unusedVariables false
/-- All but two blocks are as they were. -/
structure Off (g h : Nat) (w w' : World) : Prop where
  os : w'.os = w.os
  tape : w'.tape = w.tape
  output : w'.output = w.output
  size : w.heap.size ≤ w'.heap.size
  block : ∀ k, k < w.heap.size → k ≠ g → k ≠ h → w'.heap[k]? = w.heap[k]?
section
variable {g h B : Nat} {w w' w'' : World}
theorem Off.refl (g h : Nat) (w : World) : Off g h w w := ⟨rfl, rfl, rfl, Nat.le_refl _, fun _ _ _ _ => rfl⟩
theorem Off.trans (a : Off g h w w') (b : Off g h w' w'') : Off g h w w'' := ⟨b.os.trans a.os, b.tape.trans a.tape, b.output.trans a.output, Nat.le_trans a.size b.size, fun k hk h1 h2 => (b.block k (Nat.lt_of_lt_of_le hk a.size) h1 h2).trans (a.block k hk h1 h2)⟩
theorem Off.of (a : Below w.heap.size w w') : Off g h w w' := ⟨a.os, a.tape, a.output, a.size, fun k hk _ _ => a.block k hk⟩
theorem Off.left (a : Off g g w w') : Off g h w w' := ⟨a.os, a.tape, a.output, a.size, fun k hk h1 _ => a.block k hk h1 h1⟩
theorem Off.set (k : Nat) (u : Value) : Off g g w (w.setCell ⟨g, k, none⟩ u) := ⟨rfl, rfl, rfl, by simp [World.setCell], fun i _ h1 _ => Below.heap_setCell _ _ _ _ h1⟩
theorem Off.setR (k : Nat) (u : Value) : Off g h w (w.setCell ⟨h, k, none⟩ u) := ⟨rfl, rfl, rfl, by simp [World.setCell], fun i _ _ h2 => Below.heap_setCell _ _ _ _ h2⟩
theorem Off.below (a : Off g h w w') (hg : B ≤ g) (hh : B ≤ h) (hB : B ≤ w.heap.size) : Below B w w' := ⟨a.os, a.tape, a.output, a.size, fun k hk => a.block k (by omega) (by omega) (by omega)⟩
theorem Off.drop (a : Off g h w w') (hh : w.heap.size ≤ h) : Off g g w w' := ⟨a.os, a.tape, a.output, a.size, fun k hk h1 _ => a.block k hk h1 (by omega)⟩
theorem Off.box {b : Nat} {vs : List Value} (a : Off g h w w') (hb : BoxL w b vs) (h0 : 0 < vs.length) (h1 : b ≠ g) (h2 : b ≠ h) : BoxL w' b vs := fun k v hv =>
  have e := a.block b (hb.lt h0) h1 h2
  ⟨(World.cell?_of_block (w := w) (a := ⟨b, k, none⟩) e).trans (hb k v hv).1, (World.frozen?_of_block (w := w) (a := ⟨b, k, none⟩) e).trans (hb k v hv).2⟩
theorem Off.own {base n : Nat} {e : TypeId} {v : Value} {vs : List Value} (a : Off g h w w') (ho : w.ownsRow base e 1 v n vs) (hg : g < base) (hh : h < base) : w'.ownsRow base e 1 v n vs := by
  refine ⟨ho.1, ?_⟩
  rcases ho.2 with hn | ⟨k, cap, cur, hv, hg2, hh2, r⟩
  · exact .inl hn
  · exact .inr ⟨k, cap, cur, hv, hg2, (a.block k (Array.getElem?_eq_some_iff.1 hh2).1 (by omega) (by omega)).trans hh2, r⟩
end
/-- A reader in its box. -/
def RdB (w : World) (g : Nat) (A : Option Addr) (n c : Nat) (σ : Rs) : Prop := BoxL w g [.slice A n c, .int .i64 (σ.1 : Int), .bool σ.2]
theorem RdB.three {w : World} {g n c : Nat} {A : Option Addr} {σ : Rs} (h : RdB w g A n c σ) : w.cell? ⟨g, 0, none⟩ = some (.slice A n c) ∧ w.cell? ⟨g, 1, none⟩ = some (.int .i64 (σ.1 : Int)) ∧ w.cell? ⟨g, 2, none⟩ = some (.bool σ.2) ∧ w.frozen? ⟨g, 0, none⟩ = false ∧ w.frozen? ⟨g, 1, none⟩ = false ∧ w.frozen? ⟨g, 2, none⟩ = false :=
  ⟨(h 0 _ rfl).1, (h 1 _ rfl).1, (h 2 _ rfl).1, (h 0 _ rfl).2, (h 1 _ rfl).2, (h 2 _ rfl).2⟩
theorem fr_pass {g n c : Nat} {A : Option Addr} (σ : Rs) (a e : Int) (ha : e = 0 → 0 ≤ a) (w : World) (hb : RdB w g A n c σ) :
    Calls Tryz.prog 155 #[.pointer (some ⟨g, 0, none⟩), .int .i64 a, .int .i64 e] w fun r w' => r = .returned (.tuple #[]) ∧ RdB w' g A n c (pas σ a e) ∧ Off g g w w' := by
  obtain ⟨c0, c1, c2, f0, f1, f2⟩ := hb.three
  unfold pas
  by_cases he : e = 0
  · have ha0 := ha he
    rw [if_pos he]
    obtain ⟨k, rfl⟩ := Int.eq_ofNat_of_zero_le ha0
    have hbn : RdB (w.setCell ⟨g, 1, none⟩ (.int .i64 (k : Int))) g A n c (k, σ.2) := BoxL.one hb (k := 1) rfl (.int .i64 (k : Int))
    rw [Int.toNat_natCast]
    have HB := hid hbn
    have g0 : (e != 0) = false := by simp [he]
    clear hb ha he ha0 hbn
    go_enter Tryz.func155, Tryz.ntmps155
    go_wp2_with fail
    first | go_end0 | (refine bodyPost_ret (results_none rfl _ _ _) rfl ?_)
    exact ⟨rfl, HB.out, Off.set _ _⟩
  · rw [if_neg he]
    have hbn : RdB (w.setCell ⟨g, 2, none⟩ (.bool true)) g A n c (σ.1, true) := BoxL.one hb (k := 2) rfl (.bool true)
    have HB := hid hbn
    have g0 : (e != 0) = true := by simp [he]
    clear hb ha he hbn
    go_enter Tryz.func155, Tryz.ntmps155
    go_wp2_with fail
    first | go_end0 | (refine bodyPost_ret (results_none rfl _ _ _) rfl ?_)
    exact ⟨rfl, HB.out, Off.set _ _⟩
theorem fr_take {g c : Nat} {A : Option Addr} (o : List Int) (ho : o.length ≤ c) (hc : c ≤ 9223372036854775807) (hol : o.length ≤ 70000) (σ : Rs) (ha : σ.1 ≤ o.length) (m : Int) (hm0 : 0 ≤ m) (hm1 : m ≤ 1000000) (w : World) (hb : RdB w g A o.length c σ) (ra : Rd (Value.int .u8) w g A o) :
    Calls Tryz.prog 153 #[.pointer (some ⟨g, 0, none⟩), .int .i64 m] w fun r w' => ∃ A2 c2, r = .returned (.slice A2 (tak o σ m).1.length c2) ∧ Rd (Value.int .u8) w' g A2 (tak o σ m).1 ∧ RdB w' g A o.length c (tak o σ m).2 ∧ Off g g w w' := by
  obtain ⟨c0, c1, c2, f0, f1, f2⟩ := hb.three
  obtain ⟨a, z⟩ := σ
  simp only at ha c1 c2
  unfold tak
  simp only
  have e1 : IntKind.i64.wrap ((o.length : Int) - (a : Int)) = (o.length : Int) - (a : Int) := Go.IntWalk.i64_in _ (by omega)
  by_cases hf : (o.length : Int) - (a : Int) < m
  · rw [if_pos hf]
    have hbn : RdB (w.setCell ⟨g, 2, none⟩ (.bool true)) g A o.length c (a, true) := BoxL.one hb (k := 2) rfl (.bool true)
    have HB := hid hbn
    have HRn : Hid (Rd (Value.int .u8) (w.setCell ⟨g, 2, none⟩ (.bool true)) g none []) := hid Rd.none_
    clear hb hbn ra
    go_enter Tryz.func153, Tryz.ntmps153
    go_wp2_with fail
    go_quiet (fail)
    go_wp2_with fail
    go_ret
    exact ⟨none, 0, rfl, HRn.out, HB.out, (Off.of (belowN _ w _)).trans (Off.set _ _)⟩
  · rw [if_neg hf]
    obtain ⟨k, rfl⟩ := Int.eq_ofNat_of_zero_le hm0
    rw [Int.toNat_natCast]
    have hk : a + k ≤ o.length := by omega
    have e2 : IntKind.i64.wrap ((a : Int) + (k : Int)) = (a : Int) + (k : Int) := Go.IntWalk.i64_in _ (by omega)
    have hbn : RdB (w.setCell ⟨g, 1, none⟩ (.int .i64 ((a : Int) + (k : Int)))) g A o.length c (a + k, z) := BoxL.one hb (k := 1) rfl (.int .i64 ((a : Int) + (k : Int)))
    have HB := hid hbn
    obtain ⟨c0', c1', c2', f0', f1', f2'⟩ := hbn.three
    have hcast : ((a + k : Nat) : Int) = (a : Int) + (k : Int) := by omega
    simp only [hcast] at c1'
    have hsl := fun W => run_part (P := Tryz.prog) 50 Tryz.underlying50 Tryz.sizeOf5 A o.length c a (a + k) (by omega) (by omega) W
    rw [hcast, show a + k - a = k by omega] at hsl
    have hrd : Rd (Value.int .u8) (w.setCell ⟨g, 1, none⟩ (.int .i64 ((a : Int) + (k : Int)))) g (cutA A a c) ((o.drop a).take k) := (((ra.below ((Below.refl g w).setCell (p := ⟨g, 1, none⟩) (Nat.le_refl _) _)).cut a ho).some_cut k)
    have hlen : ((o.drop a).take k).length = k := by rw [List.length_take, List.length_drop]; omega
    obtain ⟨A2, hA2⟩ : ∃ A2, cutA A a c = A2 := ⟨_, rfl⟩
    rw [hA2] at hsl hrd
    have HRD := hid hrd
    have HLN := hid hlen
    clear hb hbn ra hrd hA2 hcast hlen
    go_enter Tryz.func153, Tryz.ntmps153
    go_wp2_with fail
    go_quiet (fail)
    go_wp2_with fail
    go_quiet (fail)
    go_wp2_with fail
    go_ret
    rw [HLN.out]
    exact ⟨A2, _, rfl, HRD.out, HB.out, ((Off.of (belowN _ w _)).trans (Off.set _ _)).trans (Off.of (belowN _ _ _))⟩
end Go.Proofs.YtecgbelgoomneaaGreat
/- What the laws ask of the program's frame: seven contracts, as one bundle; to be shown over the landed code. -/
namespace Go.Proofs.YtecgbelgoomneaaGreat
open Go.RowKit
set_option maxRecDepth 100000
set_option linter.unusedVariables false
/-- A frame told, in memory that reads so, and an error. -/
def OwnFr (r : FrameV × Int) (w : World) (e : Ending) (w' : World) : Prop :=
  ∃ p, e = .returned (.tuple #[encF r.1 p, .int .i64 r.2]) ∧ RdS w' w'.heap.size r.1.S p ∧ Below w.heap.size w w'
end Go.Proofs.YtecgbelgoomneaaGreat
/- An argument that is a frame, opened. -/
namespace Go.Proofs.YtecgbelgoomneaaGreat
open Go.ChangeShapes Go.WideShapes Go.ChangeAt Go.RowKit
set_option maxRecDepth 100000
set_option linter.unusedVariables false
theorem cellsOf_int : Tryz.prog.cellsOf 3 = 1 := by kernel_rfl
section
variable {H : Type} {enc : TypeId × Value → H} {P : Program} {W : World}
end
end Go.Proofs.YtecgbelgoomneaaGreat
/- An argument that is a way of pressing: a struct of three numbers; and a list of these. -/
namespace Go.Proofs.YtecgbelgoomneaaGreat
open Go.RowKit Go.ChangeShapes Go.WideShapes
set_option maxRecDepth 100000
set_option linter.unusedVariables false
theorem cellsOf_how : Tryz.prog.cellsOf 23 = 3 := by kernel_rfl
section
variable {H : Type} {enc : TypeId × Value → H} {W : World}
theorem list3 {cs : List Value} (h : cs.length = 3) : ∃ a b c, cs = [a, b, c] := by
  match cs, h with
  | [a, b, c], _ => exact ⟨a, b, c, rfl⟩
theorem cell_how {c0 c1 c2 : Value} {fuel : Nat} {x : DataW H × List MemPlace}
    (hf : DataW.trod enc Tryz.prog W 0 (fun _ => true) true fuel 23 [c0, c1, c2] = some x) :
    ∃ a b c : Int, [c0, c1, c2] = [.int .i64 a, .int .i64 b, .int .i64 c] ∧ I64 a ∧ I64 b ∧ I64 c := by
  obtain ⟨xs, n, _, _, _, hlen, hg⟩ := DataW.trod_struct Tryz.underlying23 hf
  have h0 := hg 0 _ rfl
  have h1 := hg 1 _ rfl
  have h2 := hg 2 _ rfl
  have hlen3 : xs.length = 3 := hlen
  obtain ⟨x0, x1, x2, rfl⟩ : ∃ x0 x1 x2, xs = [x0, x1, x2] := by
    match xs, hlen3 with
    | [x0, x1, x2], _ => exact ⟨x0, x1, x2, rfl⟩
  simp [cellsOf_int] at h0
  simp [cellsOf_int] at h1
  simp [cellsOf_int] at h2
  obtain ⟨a, e0, _, w0⟩ := DataW.trod_int Tryz.underlying3 h0
  obtain ⟨b, e1, _, w1⟩ := DataW.trod_int Tryz.underlying3 h1
  obtain ⟨c, e2, _, w2⟩ := DataW.trod_int Tryz.underlying3 h2
  simp only [List.cons.injEq, and_true] at e0 e1 e2
  subst e0 e1 e2
  exact ⟨a, b, c, rfl, I64.of_wf w0, I64.of_wf w1, I64.of_wf w2⟩
theorem open_how {r : Reach} {v : Value} {d : DataW H} {ps : List MemPlace} {b0 : Nat}
    (hval : Value.okWide Tryz.prog W r b0 23 v) (hd : DataW.Trod enc Tryz.prog W 0 (fun _ => true) true 23 v d ps) :
    ∃ a b c : Int, v = .agg #[.int .i64 a, .int .i64 b, .int .i64 c] ∧ I64 a ∧ I64 b ∧ I64 c := by
  obtain ⟨cs, rfl, hs⟩ := okWide_struct Tryz.underlying23 hval
  obtain ⟨fuel, hf⟩ := hd
  rw [cellsOf_how] at hs
  obtain ⟨cs⟩ := cs
  obtain ⟨c0, c1, c2, rfl⟩ := list3 (by simpa using hs)
  have hf' : DataW.trod enc Tryz.prog W 0 (fun _ => true) true fuel 23 [c0, c1, c2] = some (d, ps) := by simpa [Value.cells] using hf
  obtain ⟨a, b, c, e, ha, hb, hc⟩ := cell_how hf'
  simp only [List.cons.injEq, and_true] at e
  obtain ⟨e0, e1, e2⟩ := e
  subst e0 e1 e2
  exact ⟨a, b, c, rfl, ha, hb, hc⟩
end
end Go.Proofs.YtecgbelgoomneaaGreat
