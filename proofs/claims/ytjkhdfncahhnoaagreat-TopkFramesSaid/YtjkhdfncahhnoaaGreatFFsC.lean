
/- FFsC: texts joined: FsC. -/
import Derived.Test.YtjkhdfncahhnoaaGreatFf
import Derived.Test.YtjkhdfncahhnoaaGreatFb
/- Whether a vector may be, by the program. -/
namespace Go.Proofs.YtjkhdfncahhnoaaGreat
open Go.RowKit
set_option maxHeartbeats 400000
set_option maxRecDepth 100000
set_option linter.unusedVariables false
def namP (s : SentV) : Prop := (s.sch = 0 ∧ (s.V.length : Int) = s.dim) ∨ (s.sch = 1 ∧ chkE s.dim s.L = 0 ∧ s.V.length = s.L.length) ∨ (s.sch = 2 ∧ sgB s = true ∧ lvB s = true) ∨ (s.sch = 3 ∧ sgB s = true)
instance (s : SentV) : Decidable (namP s) := by unfold namP; infer_instance
def namB (s : SentV) : Bool := decide (namP s)
theorem namB_iff {s : SentV} : namB s = true ↔ namP s := by unfold namB; exact decide_eq_true_iff
theorem boxT_new (w : World) (s : SentV) (p : SentP) (t : TypeId) : BoxL (w.alloc (.cells #[.int .i64 s.sch, .int .i64 s.dim, .slice p.AL s.L.length p.cL, .slice p.AV s.V.length p.cV, .int .i64 s.scale, .int .i64 s.wide, .slice p.AE s.lev.length p.cE, .slice p.AN s.neg.length p.cN] t)) w.heap.size
    [.int .i64 s.sch, .int .i64 s.dim, .slice p.AL s.L.length p.cL, .slice p.AV s.V.length p.cV, .int .i64 s.scale, .int .i64 s.wide, .slice p.AE s.lev.length p.cE, .slice p.AN s.neg.length p.cN] := BoxL.new w _ t
theorem fs_named0 (s : SentV) (p : SentP) (w : World) (hs : s.sch = 0) :
    Calls Tryz.prog 23 #[encT s p] w fun e w' => e = .returned (.bool (namB s)) ∧ Below w.heap.size w w' := by
  have HR : namB s = true ↔ (s.V.length : Int) = s.dim := by rw [namB_iff]; unfold namP; simp [hs]
  obtain ⟨R, hR⟩ : ∃ R, namB s = R := ⟨_, rfl⟩
  rw [hR] at HR ⊢
  have HR2 := hid HR
  clear hR HR
  go_enter Tryz.func23, Tryz.ntmps23
  go_wp2_with fail
  all_goals (go_ret; refine ⟨ret_of ?_, by go_grown⟩; rw [HR2.out]; first | (simp [*]; done) | (simp [*]; omega))
theorem fs_named1 (s : SentV) (p : SentP) (hn : lnS 100000 s) (hd : I64 s.dim) (w : World) (ra : RdS w w.heap.size s p) (hs : s.sch = 1) :
    Calls Tryz.prog 23 #[encT s p] w fun e w' => e = .returned (.bool (namB s)) ∧ Below w.heap.size w w' := by
  have HR : namB s = true ↔ (chkE s.dim s.L = 0 ∧ s.V.length = s.L.length) := by rw [namB_iff]; unfold namP; simp [hs]
  have C := hid (fun W (h : Below w.heap.size w W) => ix_Check (A := p.AL) (c := p.cL) s.dim s.L hd (by have := hn.1; omega) W ((ra.1.below h).more h.size))
  obtain ⟨R, hR⟩ : ∃ R, namB s = R := ⟨_, rfl⟩
  rw [hR] at HR ⊢
  obtain ⟨E, hE⟩ : ∃ E, chkE s.dim s.L = E := ⟨_, rfl⟩
  rw [hE] at HR C
  have HR2 := hid HR
  have HB0 := hid (boxT_new w s p 29)
  clear hR HR hE ra hn hd
  have g0 : (s.sch == 0) = false := by rw [hs]; rfl
  have g1 : (s.sch == 1) = true := by rw [hs]; rfl
  clear hs
  go_enter Tryz.func23, Tryz.ntmps23
  go_wp2_with fail
  refine (C.out _ (by go_grown)).mono ?_
  rintro _ w1 ⟨rfl, hb1⟩
  have k1 : Below w.heap.size w w1 := Below.trans (by go_grown) (hb1.mono (by simp))
  have HB1 := hid (HB0.out.below hb1 (by simp))
  obtain ⟨⟨c0, c1, c2, c3, c4, c5, c6, c7⟩, _⟩ := HB1.out.eight
  clear hb1 HB0
  go_wp2_with fail
  all_goals (go_ret; refine ⟨ret_of ?_, k1⟩; rw [HR2.out]; first | (simp [*]; done) | (simp [*]; omega))
theorem fs_named2 (s : SentV) (p : SentP) (hn : lnS 100000 s) (ul : U64s s.lev) (w : World) (ra : RdS w w.heap.size s p) (hs : s.sch = 2) :
    Calls Tryz.prog 23 #[encT s p] w fun e w' => e = .returned (.bool (namB s)) ∧ Below w.heap.size w w' := by
  have HR : namB s = true ↔ (sgB s = true ∧ lvB s = true) := by rw [namB_iff]; unfold namP; simp [hs]
  have C := hid (fun W => fs_signs s p W)
  have D := hid (fun W (h : Below w.heap.size w W) => fs_levels s p hn ul W h.size (ra.below h))
  obtain ⟨R, hR⟩ : ∃ R, namB s = R := ⟨_, rfl⟩
  rw [hR] at HR ⊢
  obtain ⟨v1, h1⟩ : ∃ E, sgB s = E := ⟨_, rfl⟩
  rw [h1] at HR C
  obtain ⟨v2, h2⟩ : ∃ E, lvB s = E := ⟨_, rfl⟩
  rw [h2] at HR D
  have HR2 := hid HR
  have HB0 := hid (boxT_new w s p 29)
  clear hR HR h1 h2 ra hn ul
  have g0 : (s.sch == 0) = false := by rw [hs]; rfl
  have g1 : (s.sch == 1) = false := by rw [hs]; rfl
  have g2 : (s.sch == 2) = true := by rw [hs]; rfl
  clear hs
  go_enter Tryz.func23, Tryz.ntmps23
  go_wp2_with fail
  refine (C.out _).mono ?_
  rintro _ w1 ⟨rfl, hb1⟩
  have k1 : Below w.heap.size w w1 := Below.trans (by go_grown) (hb1.mono (by simp))
  have HB1 := hid (HB0.out.below hb1 (by simp))
  obtain ⟨⟨c0, c1, c2, c3, c4, c5, c6, c7⟩, _⟩ := HB1.out.eight
  clear hb1 HB0
  cases v1 with
  | false =>
    go_wp2_with fail
    go_ret
    exact ⟨ret_of (by rw [HR2.out]; simp), k1⟩
  | true =>
    go_wp2_with fail
    refine (D.out _ k1).mono ?_
    rintro _ w2 ⟨rfl, hb2⟩
    go_wp2_with fail
    go_ret
    exact ⟨ret_of (by rw [HR2.out]; simp), k1.trans (hb2.mono k1.size)⟩
theorem fs_named3 (s : SentV) (p : SentP) (w : World) (hs : s.sch = 3) :
    Calls Tryz.prog 23 #[encT s p] w fun e w' => e = .returned (.bool (namB s)) ∧ Below w.heap.size w w' := by
  have HR : namB s = true ↔ (sgB s = true) := by rw [namB_iff]; unfold namP; simp [hs]
  have C := hid (fun W => fs_signs s p W)
  obtain ⟨R, hR⟩ : ∃ R, namB s = R := ⟨_, rfl⟩
  rw [hR] at HR ⊢
  obtain ⟨v1, h1⟩ : ∃ E, sgB s = E := ⟨_, rfl⟩
  rw [h1] at HR C
  have HR2 := hid HR
  clear hR HR h1
  have g0 : (s.sch == 0) = false := by rw [hs]; rfl
  have g1 : (s.sch == 1) = false := by rw [hs]; rfl
  have g2 : (s.sch == 2) = false := by rw [hs]; rfl
  have g3 : (s.sch == 3) = true := by rw [hs]; rfl
  clear hs
  go_enter Tryz.func23, Tryz.ntmps23
  go_wp2_with fail
  refine (C.out _).mono ?_
  rintro _ w1 ⟨rfl, hb1⟩
  have k1 : Below w.heap.size w w1 := Below.trans (by go_grown) (hb1.mono (by simp))
  go_wp2_with fail
  go_ret
  exact ⟨ret_of (by rw [HR2.out]), k1⟩
theorem fs_namedX (s : SentV) (p : SentP) (w : World) (h0 : s.sch ≠ 0) (h1 : s.sch ≠ 1) (h2 : s.sch ≠ 2) (h3 : s.sch ≠ 3) :
    Calls Tryz.prog 23 #[encT s p] w fun e w' => e = .returned (.bool (namB s)) ∧ Below w.heap.size w w' := by
  have hR : namB s = false := decide_eq_false (by unfold namP; simp [h0, h1, h2, h3])
  rw [hR]
  clear hR
  go_enter Tryz.func23, Tryz.ntmps23
  go_wp2_with fail
  go_ret
  exact ⟨rfl, by go_grown⟩
theorem fs_named (s : SentV) (p : SentP) (hn : lnS 100000 s) (hw : wfS s) (w : World) (ra : RdS w w.heap.size s p) :
    Calls Tryz.prog 23 #[encT s p] w fun e w' => e = .returned (.bool (namB s)) ∧ Below w.heap.size w w' := by
  by_cases h0 : s.sch = 0
  · exact fs_named0 s p w h0
  · by_cases h1 : s.sch = 1
    · exact fs_named1 s p hn hw.2.1 w ra h1
    · by_cases h2 : s.sch = 2
      · exact fs_named2 s p hn hw.2.2.2.2.2.2 w ra h2
      · by_cases h3 : s.sch = 3
        · exact fs_named3 s p w h3
        · exact fs_namedX s p w h0 h1 h2 h3
theorem may_named {s : SentV} (h : mayP s) : namP s := by
  obtain ⟨h1, h2, h⟩ := h
  unfold namP sgB lvB
  rcases h with h | h | h | h
  · exact Or.inl ⟨h.1, h.2.2.1⟩
  · exact Or.inr (Or.inl ⟨h.1, h.2.1, h.2.2.1⟩)
  · exact Or.inr (Or.inr (Or.inl ⟨h.1, by simp [h.2.2.2.2.2.2.2.1, h.2.2.2.2.2.2.2.2], by simp [h.2.1, h.2.2.1, h.2.2.2.1, h.2.2.2.2.1]⟩))
  · exact Or.inr (Or.inr (Or.inr ⟨h.1, by simp [h.2.2.2.2.2.1, h.2.2.2.2.2.2]⟩))
/-- What is asked at the end, for any way that is left. -/
theorem fs_MayK (s t : SentV) (p q : SentP) (hn : lnS 100000 s) (hw : wfS s) (w : World) (ra : RdS w w.heap.size s p) (h1 : 1 ≤ s.dim) (h2 : s.dim ≤ 4096)
    (CR : ∀ W : World, Calls Tryz.prog 25 #[encT s p] W fun e w' => e = .returned (encT t q) ∧ Below W.heap.size W w') (hM : mayB s = true ↔ (namB s = true ∧ empB t = true)) :
    Calls Tryz.prog 10 #[encT s p] w fun e w' => e = .returned (.bool (mayB s)) ∧ Below w.heap.size w w' := by
  have C := hid (fun W (h : Below w.heap.size w W) => fs_named s p hn hw W ((ra.below h).more h.size))
  have D := hid CR
  have E := hid (fun W => fs_empty t q W)
  obtain ⟨R, hR⟩ : ∃ R, mayB s = R := ⟨_, rfl⟩
  rw [hR] at hM ⊢
  obtain ⟨v1, e1⟩ : ∃ E, namB s = E := ⟨_, rfl⟩
  rw [e1] at hM C
  obtain ⟨v2, e2⟩ : ∃ E, empB t = E := ⟨_, rfl⟩
  rw [e2] at hM E
  have HR2 := hid hM
  have HB0 := hid (boxT_new w s p 29)
  clear hR hM e1 e2 ra hn hw CR
  go_enter Tryz.func10, Tryz.ntmps10
  go_wp2_with fail
  refine (C.out _ (by go_grown)).mono ?_
  rintro _ w1 ⟨rfl, hb1⟩
  have k1 : Below w.heap.size w w1 := Below.trans (by go_grown) (hb1.mono (by simp))
  have HB1 := hid (HB0.out.below hb1 (by simp))
  obtain ⟨⟨c0, c1, c2, c3, c4, c5, c6, c7⟩, _⟩ := HB1.out.eight
  clear hb1 HB0
  cases v1 with
  | false =>
    go_wp2_with fail
    go_ret
    exact ⟨ret_of (by rw [HR2.out]; simp), k1⟩
  | true =>
    go_wp2_with fail
    refine (D.out _).mono ?_
    rintro _ w2 ⟨rfl, hb2⟩
    have k2 := k1.trans (hb2.mono k1.size)
    clear c0 c1 c2 c3 c4 c5 c6 c7
    go_wp2_with fail
    refine (E.out _).mono ?_
    rintro _ w3 ⟨rfl, hb3⟩
    have k3 := k2.trans (hb3.mono k2.size)
    go_wp2_with fail
    go_ret
    exact ⟨ret_of (by rw [HR2.out]; simp), k3⟩
theorem fs_MayD (s : SentV) (p : SentP) (w : World) (h : s.dim < 1 ∨ 4096 < s.dim) :
    Calls Tryz.prog 10 #[encT s p] w fun e w' => e = .returned (.bool (mayB s)) ∧ Below w.heap.size w w' := by
  have HR : mayB s = false := mayB_no (fun h2 => by have h3 := h2.1; have h4 := h2.2.1; omega)
  rw [HR]
  clear HR
  rcases h with h | h
  · go_enter Tryz.func10, Tryz.ntmps10
    go_wp2_with fail
    all_goals (go_ret; exact ⟨rfl, by go_grown⟩)
  · go_enter Tryz.func10, Tryz.ntmps10
    go_wp2_with fail
    all_goals (go_ret; exact ⟨rfl, by go_grown⟩)
theorem fs_May (s : SentV) (p : SentP) (hn : lnS 100000 s) (hw : wfS s) (w : World) (ra : RdS w w.heap.size s p) :
    Calls Tryz.prog 10 #[encT s p] w fun e w' => e = .returned (.bool (mayB s)) ∧ Below w.heap.size w w' := by
  by_cases hd : 1 ≤ s.dim ∧ s.dim ≤ 4096
  · by_cases h0 : s.sch = 0
    · refine fs_MayK s _ p _ hn hw w ra hd.1 hd.2 (fun W => fs_rest0 s p W h0) ?_
      rw [mayB_iff, namB_iff, empB_iff]; unfold mayP namP sgB lvB
      simp [h0, hd.1, hd.2]
      constructor
      · rintro ⟨a, b, c, d, e, f⟩; exact ⟨b, e, c, a, d, f⟩
      · rintro ⟨b, e, c, a, d, f⟩; exact ⟨a, b, c, d, e, f⟩
    · by_cases h1 : s.sch = 1
      · refine fs_MayK s _ p _ hn hw w ra hd.1 hd.2 (fun W => fs_rest1 s p W h1) ?_
        rw [mayB_iff, namB_iff, empB_iff]; unfold mayP namP sgB lvB
        simp [h1, hd.1, hd.2]
        constructor
        · rintro ⟨a, b, c, d, e, f⟩; exact ⟨⟨a, b⟩, e, c, d, f⟩
        · rintro ⟨⟨a, b⟩, e, c, d, f⟩; exact ⟨a, b, c, d, e, f⟩
      · by_cases h2 : s.sch = 2
        · refine fs_MayK s _ p _ hn hw w ra hd.1 hd.2 (fun W => fs_rest2 s p W h2) ?_
          rw [mayB_iff, namB_iff, empB_iff]; unfold mayP namP sgB lvB
          simp [h2, hd.1, hd.2]
          constructor
          · rintro ⟨a, b, c, d, e, f, g, h⟩; exact ⟨⟨⟨g, h⟩, a, b, c, d⟩, e, f⟩
          · rintro ⟨⟨⟨g, h⟩, a, b, c, d⟩, e, f⟩; exact ⟨a, b, c, d, e, f, g, h⟩
        · by_cases h3 : s.sch = 3
          · refine fs_MayK s _ p _ hn hw w ra hd.1 hd.2 (fun W => fs_rest3 s p W h3) ?_
            rw [mayB_iff, namB_iff, empB_iff]; unfold mayP namP sgB lvB
            simp [h3, hd.1, hd.2]
            constructor
            · rintro ⟨a, b, c, d, e, f⟩; exact ⟨⟨e, f⟩, c, a, b, d⟩
            · rintro ⟨⟨e, f⟩, c, a, b, d⟩; exact ⟨a, b, c, d, e, f⟩
          · have hN : namB s = false := decide_eq_false (by unfold namP; simp [h0, h1, h2, h3])
            have hM : mayB s = false := mayB_no (fun h => by have := may_named h; unfold namB at hN; rw [decide_eq_false_iff_not] at hN; exact hN this)
            have C := hid (fun W (h : Below w.heap.size w W) => fs_named s p hn hw W ((ra.below h).more h.size))
            rw [hN] at C
            rw [hM]
            obtain ⟨hd1, hd2⟩ := hd
            clear hN hM h0 h1 h2 h3 ra hn hw
            go_enter Tryz.func10, Tryz.ntmps10
            go_wp2_with fail
            refine (C.out _ (by go_grown)).mono ?_
            rintro _ w1 ⟨rfl, hb1⟩
            have k1 : Below w.heap.size w w1 := Below.trans (by go_grown) (hb1.mono (by simp))
            go_wp2_with fail
            go_ret
            exact ⟨rfl, k1⟩
  · exact fs_MayD s p w (by omega)
end Go.Proofs.YtjkhdfncahhnoaaGreat
