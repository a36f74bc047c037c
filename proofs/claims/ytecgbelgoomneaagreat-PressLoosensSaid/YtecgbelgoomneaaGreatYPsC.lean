
/- YPsC: texts joined: PsC. -/
import Derived.Test.YtecgbelgoomneaaGreatYPsB
import Derived.Test.YtecgbelgoomneaaGreatYf
/- A round, and whether a vector is pressed so: the document's. -/
namespace Go.Proofs.YtecgbelgoomneaaGreat
open Go.RowKit
set_option maxHeartbeats 4000000
set_option maxRecDepth 100000
set_option linter.unusedVariables false
/-- A call's answer: a pressed vector, what is left, both in memory of the call's own, and an error. -/
def OwnRo (base : Nat) (s : SentV) (xs : List Int) (er : Int) (w : World) (e : Ending) (w' : World) : Prop :=
  ∃ (p : SentP) (A : Option Addr) (c : Nat), e = .returned (.tuple #[encT s p, .slice A xs.length c, .int .i64 er]) ∧ OwnL w' base s p ∧ w'.ownsRow base 2 1 (.slice A xs.length c) xs.length (xs.map (Value.int .i64)) ∧ Below base w w'
theorem OwnRo.zero {base : Nat} {E : Int} {w w' : World} (hb : Below base w w') : OwnRo base zeroS [] E w (.returned (.tuple #[encT zeroS zeroP, .slice none 0 0, .int .i64 E])) w' := ⟨zeroP, none, 0, rfl, OwnL.zero _ _, own_nil _ _ _, hb⟩
theorem prd_err1 {sch k wide : Int} {g l : List Int} {s : Nat} {n : List Int} (h : ¬ opE (· + ·) g l = 0) : prdE sch k wide g l s n = opE (· + ·) g l ∧ prdS sch k wide g l s n = zeroS ∧ prdV sch k wide g l s n = [] := by
  have e : prdE sch k wide g l s n = opE (· + ·) g l := if_pos h
  exact ⟨e, if_neg (by rw [e]; exact h), if_neg (by rw [e]; exact h)⟩
theorem prd_err2 {sch k wide : Int} {g l : List Int} {s : Nat} {n : List Int} (h : opE (· + ·) g l = 0) (h2 : ¬ ppE sch k wide (prdU g l) = 0) : prdE sch k wide g l s n = ppE sch k wide (prdU g l) ∧ prdS sch k wide g l s n = zeroS ∧ prdV sch k wide g l s n = [] := by
  have e : prdE sch k wide g l s n = ppE sch k wide (prdU g l) := by unfold prdE; rw [if_neg (by simp [h]), if_pos h2]
  exact ⟨e, if_neg (by rw [e]; exact h2), if_neg (by rw [e]; exact h2)⟩
theorem prd_err3 {sch k wide : Int} {g l : List Int} {s : Nat} {n : List Int} (h : opE (· + ·) g l = 0) (h2 : ppE sch k wide (prdU g l) = 0) : prdE sch k wide g l s n = plfE (prdU g l) (ppS sch k wide (prdU g l) s n) ∧
    (¬ plfE (prdU g l) (ppS sch k wide (prdU g l) s n) = 0 → prdS sch k wide g l s n = zeroS ∧ prdV sch k wide g l s n = []) ∧
    (plfE (prdU g l) (ppS sch k wide (prdU g l) s n) = 0 → prdS sch k wide g l s n = ppS sch k wide (prdU g l) s n ∧ prdV sch k wide g l s n = plfV (prdU g l) (ppS sch k wide (prdU g l) s n)) := by
  have e : prdE sch k wide g l s n = plfE (prdU g l) (ppS sch k wide (prdU g l) s n) := by unfold prdE; rw [if_neg (by simp [h]), if_neg (by simp [h2])]
  exact ⟨e, fun h3 => ⟨if_neg (by rw [e]; exact h3), if_neg (by rw [e]; exact h3)⟩, fun h3 => ⟨if_pos (by rw [e]; exact h3), if_pos (by rw [e]; exact h3)⟩⟩
theorem op_none {f : Int → Int → Int} {g l : List Int} (h : ¬ opE f g l = 0) : opV f g l = [] := by
  unfold opE at h
  unfold opV
  by_cases ht : twoE g.length l.length = 0
  · rw [if_pos ht] at h ⊢
    exact if_neg h
  · rw [if_neg ht]
theorem op_len {f : Int → Int → Int} {g l : List Int} : (opV f g l).length ≤ 4096 := by
  by_cases h : opE f g l = 0
  · obtain ⟨a1, a2, a3, a4⟩ := op_ok h
    rw [a4]
    simp
    omega
  · have : opV f g l = [] := op_none h
    rw [this]; simp
theorem op_i64 {f : Int → Int → Int} {g l : List Int} : ∀ x ∈ opV f g l, I64 x := by
  by_cases h : opE f g l = 0
  · obtain ⟨a1, a2, a3, a4⟩ := op_ok h
    intro x hx
    rw [a4] at hx
    obtain ⟨j, hj, rfl⟩ := List.mem_map.1 hx
    exact a3 j (List.mem_range.1 hj)
  · have : opV f g l = [] := op_none h
    rw [this]; simp
theorem ref_Round12 {A B D : Option Addr} {c d q : Nat} (sch k wide : Int) (hwd : I64 wide) (g l : List Int) (ug : ∀ x ∈ g, I64 x) (ul : ∀ x ∈ l, I64 x) (hg : g.length ≤ 9223372036854775807) (hl : l.length ≤ 9223372036854775807) (s : Nat) (hs : s < 2 ^ 64) (n : List Int) (un : ∀ x ∈ n, I64 x) (hn : n.length ≤ 1000) (w : World) (rg : Rd (Value.int .i64) w w.heap.size A g) (rl : Rd (Value.int .i64) w w.heap.size B l) (rn : Rd (Value.int .i64) w w.heap.size D n) :
    Calls Tryz.prog 14 #[.agg #[.int .i64 sch, .int .i64 k, .int .i64 wide], .slice A g.length c, .slice B l.length d, .int .u64 (s : Int), .slice D n.length q] w (OwnRo w.heap.size (prdS sch k wide g l s n) (prdV sch k wide g l s n) (prdE sch k wide g l s n) w) := by
  have CA := hid (fun W (h : Below w.heap.size w W) => rAdd_any (A := A) (B := B) (c := c) (d := d) g l hg hl ug ul W (rg.on h) (rl.on h))
  have uU : ∀ x ∈ prdU g l, I64 x := op_i64
  have lU : (prdU g l).length ≤ 4096 := op_len
  have CP := hid (fun (A' : Option Addr) (c' : Nat) W (h : Below w.heap.size w W) (r : Rd (Value.int .i64) W W.heap.size A' (prdU g l)) => (ref_Press12 (A := A') (B := D) (c := c') (d := q) sch k wide hwd (prdU g l) uU (by omega) s hs n un hn W r (rn.on h)))
  have CL := hid (fun (A' : Option Addr) (c' : Nat) (p : SentP) W (r : Rd (Value.int .i64) W W.heap.size A' (prdU g l)) (r2 : RdS W W.heap.size (ppS sch k wide (prdU g l) s n) p) => ref_Left12 (A := A') (c := c') (prdU g l) uU (by omega) (ppS sch k wide (prdU g l) s n) p ((pp_ln sch k wide _ s n).more (by decide)) (pp_wf hwd uU) W r r2)
  rw [show opV (· + ·) g l = prdU g l from rfl] at CA
  by_cases h1 : opE (· + ·) g l = 0
  · rw [h1] at CA
    by_cases h2 : ppE sch k wide (prdU g l) = 0
    · rw [h2] at CP
      obtain ⟨e3, n3, y3⟩ := prd_err3 (s := s) (n := n) h1 h2
      by_cases h3 : plfE (prdU g l) (ppS sch k wide (prdU g l) s n) = 0
      · obtain ⟨eS, eV⟩ := y3 h3
        rw [e3, eS, eV, h3]
        rw [h3] at CL
        obtain ⟨U, hU⟩ : ∃ U, prdU g l = U := ⟨_, rfl⟩
        rw [hU] at CA CP CL lU ⊢
        obtain ⟨S, hS⟩ : ∃ S, ppS sch k wide U s n = S := ⟨_, rfl⟩
        rw [hS] at CP CL ⊢
        obtain ⟨Q, hQ⟩ : ∃ Q, plfV U S = Q := ⟨_, rfl⟩
        rw [hQ] at CL ⊢
        clear e3 n3 y3 h1 h2 h3 eS eV hU hS hQ uU ug ul un rg rl rn
        go_enter Tryz.func14, Tryz.ntmps14
        go_wp2_with fail
        have BH := (BoxL.new w [.int .i64 sch, .int .i64 k, .int .i64 wide] 23).below (sg_up _ (.cells #[.int .i64 0, .int .i64 0, .slice none 0 0, .slice none 0 0, .int .i64 0, .int .i64 0, .slice none 0 0, .slice none 0 0] 32)) (by simp)
        have BR := box2 w (.cells #[.int .i64 sch, .int .i64 k, .int .i64 wide] 23) [.int .i64 0, .int .i64 0, .slice none 0 0, .slice none 0 0, .int .i64 0, .int .i64 0, .slice none 0 0, .slice none 0 0] 32
        refine (CA.out _ (by go_grown)).mono ?_
        rintro _ w1 ⟨A1, c1, rfl, o1, hb⟩
        have BH1 := BH.below hb (by first | omega | (simp; done) | (simp; omega))
        have BR1 := BR.below hb (by simp)
        have k1 : Below w.heap.size w w1 := Below.trans (by go_grown) (hb.mono (by first | omega | (simp; done) | (simp; omega)))
        have hg1 : w.heap.size + 1 < w1.heap.size := by have := hb.size; simp at this; omega
        have R1 := hid (own_rd o1)
        obtain ⟨⟨g0, g1, g2, g3, g4, g5, g6, g7⟩, n0, n1, n2, n3, n4, n5, n6, n7⟩ := BR1.eight
        have HR1 := hid BR1
        have f0 := (BH1 0 _ rfl).1
        have f1 := (BH1 1 _ rfl).1
        have f2 := (BH1 2 _ rfl).1
        clear BH BR hb CA BH1 BR1 o1
        go_wp2_with fail
        refine (CP.out _ _ _ k1 R1.out).mono ?_
        rintro _ w2 ⟨p, rfl, ho, hb2⟩
        have HO := hid (show OwnL w2 (w.heap.size + 2) _ p from OwnL.base ho (by omega))
        have k2 : Below w.heap.size w w2 := k1.trans (hb2.mono k1.size)
        have hg2 : w.heap.size + 1 < w2.heap.size := by have := hb2.size; omega
        have R2 := hid (R1.out.on hb2)
        have BR2 := HR1.out.below hb2 (by first | omega | (simp; done) | (simp; omega))
        clear g0 g1 g2 g3 g4 g5 g6 g7 n0 n1 n2 n3 n4 n5 n6 n7 f0 f1 f2 ho hb2 CP R1 HR1
        have G3 := sg_up w2 (.cells #[.int .i64 S.sch, .int .i64 S.dim, .slice p.AL S.L.length p.cL, .slice p.AV S.V.length p.cV, .int .i64 S.scale, .int .i64 S.wide, .slice p.AE S.lev.length p.cE, .slice p.AN S.neg.length p.cN] 32)
        have B3 := BoxL.new w2 [.int .i64 S.sch, .int .i64 S.dim, .slice p.AL S.L.length p.cL, .slice p.AV S.V.length p.cV, .int .i64 S.scale, .int .i64 S.wide, .slice p.AE S.lev.length p.cE, .slice p.AN S.neg.length p.cN] 32
        simp only [List.toArray] at B3
        obtain ⟨w3, hw3⟩ : ∃ w3, w2.alloc (.cells #[.int .i64 S.sch, .int .i64 S.dim, .slice p.AL S.L.length p.cL, .slice p.AV S.V.length p.cV, .int .i64 S.scale, .int .i64 S.wide, .slice p.AE S.lev.length p.cE, .slice p.AN S.neg.length p.cN] 32) = w3 := ⟨_, rfl⟩
        rw [hw3] at G3 B3
        have k3 : Below w.heap.size w w3 := k2.trans (G3.mono k2.size)
        have HO3 := hid (HO.out.on G3)
        have R3 := hid (R2.out.on G3)
        have hg3 : w.heap.size + 1 < w3.heap.size := by have := G3.size; omega
        have BR3 := BR2.below G3 (by first | omega | (simp; done) | (simp; omega))
        have X3 := hid B3
        have hx3 : w2.heap.size < w3.heap.size := B3.lt (by simp)
        have HR3 := hid BR3
        obtain ⟨⟨g0, g1, g2, g3, g4, g5, g6, g7⟩, n0, n1, n2, n3, n4, n5, n6, n7⟩ := BR3.eight
        obtain ⟨⟨e0, e1, e2, e3, e4, e5, e6, e7⟩, _⟩ := B3.eight
        clear G3 B3 BR2 BR3 R2 HO
        go_wp2_with fail
        refine (CL.out _ _ p _ R3.out (OwnL.rd HO3.out)).mono ?_
        rintro _ w4 ⟨A4, c4, rfl, o4, hb4⟩
        have HO4 := hid (HO3.out.on hb4)
        have O4 := hid (own_base o4 (show w.heap.size + 2 ≤ w3.heap.size by omega))
        have k4 : Below w.heap.size w w4 := k3.trans (hb4.mono k3.size)
        clear g0 g1 g2 g3 g4 g5 g6 g7 n0 n1 n2 n3 n4 n5 n6 n7 e0 e1 e2 e3 e4 e5 e6 e7
        obtain ⟨⟨g0, g1, g2, g3, g4, g5, g6, g7⟩, n0, n1, n2, n3, n4, n5, n6, n7⟩ := (HR3.out.below hb4 (by first | omega | (simp; done) | (simp; omega))).eight
        obtain ⟨⟨e0, e1, e2, e3, e4, e5, e6, e7⟩, _⟩ := (X3.out.below hb4 hx3).eight
        clear HR3 X3 hb4 o4 CL R3 HO3 hw3
        go_wp2_with fail
        refine bodyPost_ret (v := .tuple #[encT S p, .slice A4 Q.length c4, .int .i64 0]) (by simp [results, Tryz.results14, go_sem, g0, g1, g2, g3, g4, g5, g6, g7]) rfl ⟨p, A4, c4, rfl, ?_, ?_, ?_⟩
        · have hz : w.heap.size + 1 < w.heap.size + 2 := by omega
          exact (((((((((HO4.out).set hz _).set hz _).set hz _).set hz _).set hz _).set hz _).set hz _).set hz _).base (by omega)
        · have hz : w.heap.size + 1 < w.heap.size + 2 := by omega
          exact own_base (own_set (own_set (own_set (own_set (own_set (own_set (own_set (own_set O4.out hz _) hz _) hz _) hz _) hz _) hz _) hz _) hz _) (by omega)
        · exact (((((((k4.setCell (by simp) _).setCell (by simp) _).setCell (by simp) _).setCell (by simp) _).setCell (by simp) _).setCell (by simp) _).setCell (by simp) _).setCell (by simp) _
      · obtain ⟨eS, eV⟩ := n3 h3
        rw [e3, eS, eV]
        obtain ⟨U, hU⟩ : ∃ U, prdU g l = U := ⟨_, rfl⟩
        rw [hU] at CA CP CL lU ⊢
        obtain ⟨S, hS⟩ : ∃ S, ppS sch k wide U s n = S := ⟨_, rfl⟩
        rw [hS] at CP CL
        rw [hU, hS] at h3
        rw [hS]
        obtain ⟨Q, hQ⟩ : ∃ Q, plfV U S = Q := ⟨_, rfl⟩
        rw [hQ] at CL
        obtain ⟨E, hE⟩ : ∃ E, plfE U S = E := ⟨_, rfl⟩
        rw [hE] at CL h3 ⊢
        have hne : (E != 0) = true := by simpa using h3
        clear e3 n3 y3 h1 h2 h3 eS eV hU hS hQ hE uU ug ul un rg rl rn
        go_enter Tryz.func14, Tryz.ntmps14
        go_wp2_with fail
        have BH := (BoxL.new w [.int .i64 sch, .int .i64 k, .int .i64 wide] 23).below (sg_up _ (.cells #[.int .i64 0, .int .i64 0, .slice none 0 0, .slice none 0 0, .int .i64 0, .int .i64 0, .slice none 0 0, .slice none 0 0] 32)) (by simp)
        have BR := box2 w (.cells #[.int .i64 sch, .int .i64 k, .int .i64 wide] 23) [.int .i64 0, .int .i64 0, .slice none 0 0, .slice none 0 0, .int .i64 0, .int .i64 0, .slice none 0 0, .slice none 0 0] 32
        refine (CA.out _ (by go_grown)).mono ?_
        rintro _ w1 ⟨A1, c1, rfl, o1, hb⟩
        have BH1 := BH.below hb (by first | omega | (simp; done) | (simp; omega))
        have BR1 := BR.below hb (by simp)
        have k1 : Below w.heap.size w w1 := Below.trans (by go_grown) (hb.mono (by first | omega | (simp; done) | (simp; omega)))
        have hg1 : w.heap.size + 1 < w1.heap.size := by have := hb.size; simp at this; omega
        have R1 := hid (own_rd o1)
        obtain ⟨⟨g0, g1, g2, g3, g4, g5, g6, g7⟩, n0, n1, n2, n3, n4, n5, n6, n7⟩ := BR1.eight
        have HR1 := hid BR1
        have f0 := (BH1 0 _ rfl).1
        have f1 := (BH1 1 _ rfl).1
        have f2 := (BH1 2 _ rfl).1
        clear BH BR hb CA BH1 BR1 o1
        go_wp2_with fail
        refine (CP.out _ _ _ k1 R1.out).mono ?_
        rintro _ w2 ⟨p, rfl, ho, hb2⟩
        have HO := hid (show OwnL w2 (w.heap.size + 2) _ p from OwnL.base ho (by omega))
        have k2 : Below w.heap.size w w2 := k1.trans (hb2.mono k1.size)
        have hg2 : w.heap.size + 1 < w2.heap.size := by have := hb2.size; omega
        have R2 := hid (R1.out.on hb2)
        have BR2 := HR1.out.below hb2 (by first | omega | (simp; done) | (simp; omega))
        clear g0 g1 g2 g3 g4 g5 g6 g7 n0 n1 n2 n3 n4 n5 n6 n7 f0 f1 f2 ho hb2 CP R1 HR1
        have G3 := sg_up w2 (.cells #[.int .i64 S.sch, .int .i64 S.dim, .slice p.AL S.L.length p.cL, .slice p.AV S.V.length p.cV, .int .i64 S.scale, .int .i64 S.wide, .slice p.AE S.lev.length p.cE, .slice p.AN S.neg.length p.cN] 32)
        have B3 := BoxL.new w2 [.int .i64 S.sch, .int .i64 S.dim, .slice p.AL S.L.length p.cL, .slice p.AV S.V.length p.cV, .int .i64 S.scale, .int .i64 S.wide, .slice p.AE S.lev.length p.cE, .slice p.AN S.neg.length p.cN] 32
        simp only [List.toArray] at B3
        obtain ⟨w3, hw3⟩ : ∃ w3, w2.alloc (.cells #[.int .i64 S.sch, .int .i64 S.dim, .slice p.AL S.L.length p.cL, .slice p.AV S.V.length p.cV, .int .i64 S.scale, .int .i64 S.wide, .slice p.AE S.lev.length p.cE, .slice p.AN S.neg.length p.cN] 32) = w3 := ⟨_, rfl⟩
        rw [hw3] at G3 B3
        have k3 : Below w.heap.size w w3 := k2.trans (G3.mono k2.size)
        have HO3 := hid (HO.out.on G3)
        have R3 := hid (R2.out.on G3)
        have hg3 : w.heap.size + 1 < w3.heap.size := by have := G3.size; omega
        have BR3 := BR2.below G3 (by first | omega | (simp; done) | (simp; omega))
        have X3 := hid B3
        have hx3 : w2.heap.size < w3.heap.size := B3.lt (by simp)
        have HR3 := hid BR3
        obtain ⟨⟨g0, g1, g2, g3, g4, g5, g6, g7⟩, n0, n1, n2, n3, n4, n5, n6, n7⟩ := BR3.eight
        obtain ⟨⟨e0, e1, e2, e3, e4, e5, e6, e7⟩, _⟩ := B3.eight
        clear G3 B3 BR2 BR3 R2 HO
        go_wp2_with fail
        refine (CL.out _ _ p _ R3.out (OwnL.rd HO3.out)).mono ?_
        rintro _ w4 ⟨A4, c4, rfl, o4, hb4⟩
        have HO4 := hid (HO3.out.on hb4)
        have O4 := hid (own_base o4 (show w.heap.size + 2 ≤ w3.heap.size by omega))
        have k4 : Below w.heap.size w w4 := k3.trans (hb4.mono k3.size)
        clear g0 g1 g2 g3 g4 g5 g6 g7 n0 n1 n2 n3 n4 n5 n6 n7 e0 e1 e2 e3 e4 e5 e6 e7
        obtain ⟨⟨g0, g1, g2, g3, g4, g5, g6, g7⟩, n0, n1, n2, n3, n4, n5, n6, n7⟩ := (HR3.out.below hb4 (by first | omega | (simp; done) | (simp; omega))).eight
        obtain ⟨⟨e0, e1, e2, e3, e4, e5, e6, e7⟩, _⟩ := (X3.out.below hb4 hx3).eight
        clear HR3 X3 hb4 o4 CL R3 HO3 hw3
        go_wp2_with fail
        refine bodyPost_ret (v := .tuple #[encT zeroS zeroP, .slice none 0 0, .int .i64 E]) (by simp [results, Tryz.results14, go_sem, zeroS, zeroP, g0, g1, g2, g3, g4, g5, g6, g7]) rfl (OwnRo.zero ?_)
        exact (((((((k4.setCell (by simp) _).setCell (by simp) _).setCell (by simp) _).setCell (by simp) _).setCell (by simp) _).setCell (by simp) _).setCell (by simp) _).setCell (by simp) _
    · obtain ⟨e2, eS, eV⟩ := prd_err2 (s := s) (n := n) h1 h2
      rw [e2, eS, eV]
      obtain ⟨U, hU⟩ : ∃ U, prdU g l = U := ⟨_, rfl⟩
      rw [hU] at CA CP CL lU ⊢
      obtain ⟨S, hS⟩ : ∃ S, ppS sch k wide U s n = S := ⟨_, rfl⟩
      rw [hS] at CP CL
      rw [hU] at h2
      obtain ⟨E, hE⟩ : ∃ E, ppE sch k wide U = E := ⟨_, rfl⟩
      rw [hE] at CP h2 ⊢
      have hne : (E != 0) = true := by simpa using h2
      clear e2 h1 h2 eS eV hU hS hE uU ug ul un rg rl rn CL
      go_enter Tryz.func14, Tryz.ntmps14
      go_wp2_with fail
      have BH := (BoxL.new w [.int .i64 sch, .int .i64 k, .int .i64 wide] 23).below (sg_up _ (.cells #[.int .i64 0, .int .i64 0, .slice none 0 0, .slice none 0 0, .int .i64 0, .int .i64 0, .slice none 0 0, .slice none 0 0] 32)) (by simp)
      have BR := box2 w (.cells #[.int .i64 sch, .int .i64 k, .int .i64 wide] 23) [.int .i64 0, .int .i64 0, .slice none 0 0, .slice none 0 0, .int .i64 0, .int .i64 0, .slice none 0 0, .slice none 0 0] 32
      refine (CA.out _ (by go_grown)).mono ?_
      rintro _ w1 ⟨A1, c1, rfl, o1, hb⟩
      have BH1 := BH.below hb (by first | omega | (simp; done) | (simp; omega))
      have BR1 := BR.below hb (by simp)
      have k1 : Below w.heap.size w w1 := Below.trans (by go_grown) (hb.mono (by first | omega | (simp; done) | (simp; omega)))
      have hg1 : w.heap.size + 1 < w1.heap.size := by have := hb.size; simp at this; omega
      have R1 := hid (own_rd o1)
      obtain ⟨⟨g0, g1, g2, g3, g4, g5, g6, g7⟩, n0, n1, n2, n3, n4, n5, n6, n7⟩ := BR1.eight
      have HR1 := hid BR1
      have f0 := (BH1 0 _ rfl).1
      have f1 := (BH1 1 _ rfl).1
      have f2 := (BH1 2 _ rfl).1
      clear BH BR hb CA BH1 BR1 o1
      go_wp2_with fail
      refine (CP.out _ _ _ k1 R1.out).mono ?_
      rintro _ w2 ⟨p, rfl, ho, hb2⟩
      have HO := hid (show OwnL w2 (w.heap.size + 2) _ p from OwnL.base ho (by omega))
      have k2 : Below w.heap.size w w2 := k1.trans (hb2.mono k1.size)
      have hg2 : w.heap.size + 1 < w2.heap.size := by have := hb2.size; omega
      have R2 := hid (R1.out.on hb2)
      have BR2 := HR1.out.below hb2 (by first | omega | (simp; done) | (simp; omega))
      clear g0 g1 g2 g3 g4 g5 g6 g7 n0 n1 n2 n3 n4 n5 n6 n7 f0 f1 f2 ho hb2 CP R1 HR1
      have k3 := k2.alloc k2.size (.cells #[.int .i64 S.sch, .int .i64 S.dim, .slice p.AL S.L.length p.cL, .slice p.AV S.V.length p.cV, .int .i64 S.scale, .int .i64 S.wide, .slice p.AE S.lev.length p.cE, .slice p.AN S.neg.length p.cN] 32)
      have BR3 := BR2.below (sg_up w2 (.cells #[.int .i64 S.sch, .int .i64 S.dim, .slice p.AL S.L.length p.cL, .slice p.AV S.V.length p.cV, .int .i64 S.scale, .int .i64 S.wide, .slice p.AE S.lev.length p.cE, .slice p.AN S.neg.length p.cN] 32)) (by first | omega | (simp; done) | (simp; omega))
      obtain ⟨w3, hw3⟩ : ∃ w3, w2.alloc (.cells #[.int .i64 S.sch, .int .i64 S.dim, .slice p.AL S.L.length p.cL, .slice p.AV S.V.length p.cV, .int .i64 S.scale, .int .i64 S.wide, .slice p.AE S.lev.length p.cE, .slice p.AN S.neg.length p.cN] 32) = w3 := ⟨_, rfl⟩
      rw [hw3] at k3 BR3
      obtain ⟨⟨g0, g1, g2, g3, g4, g5, g6, g7⟩, n0, n1, n2, n3, n4, n5, n6, n7⟩ := BR3.eight
      clear BR2 BR3 R2 HO
      go_wp2_with fail
      refine bodyPost_ret (v := .tuple #[encT zeroS zeroP, .slice none 0 0, .int .i64 E]) (by simp [results, Tryz.results14, go_sem, zeroS, zeroP, g0, g1, g2, g3, g4, g5, g6, g7]) rfl (OwnRo.zero ?_)
      exact (((((((k3.setCell (by simp) _).setCell (by simp) _).setCell (by simp) _).setCell (by simp) _).setCell (by simp) _).setCell (by simp) _).setCell (by simp) _).setCell (by simp) _
  · obtain ⟨e1, eS, eV⟩ := prd_err1 (sch := sch) (k := k) (wide := wide) (s := s) (n := n) h1
    rw [e1, eS, eV]
    obtain ⟨U, hU⟩ : ∃ U, prdU g l = U := ⟨_, rfl⟩
    rw [hU] at CA
    obtain ⟨E, hE⟩ : ∃ E, opE (· + ·) g l = E := ⟨_, rfl⟩
    rw [hE] at CA h1 ⊢
    have hne : (E != 0) = true := by simpa using h1
    clear e1 h1 eS eV hU hE uU ug ul un rg rl rn CL CP
    go_enter Tryz.func14, Tryz.ntmps14
    go_wp2_with fail
    have BH := (BoxL.new w [.int .i64 sch, .int .i64 k, .int .i64 wide] 23).below (sg_up _ (.cells #[.int .i64 0, .int .i64 0, .slice none 0 0, .slice none 0 0, .int .i64 0, .int .i64 0, .slice none 0 0, .slice none 0 0] 32)) (by simp)
    have BR := box2 w (.cells #[.int .i64 sch, .int .i64 k, .int .i64 wide] 23) [.int .i64 0, .int .i64 0, .slice none 0 0, .slice none 0 0, .int .i64 0, .int .i64 0, .slice none 0 0, .slice none 0 0] 32
    refine (CA.out _ (by go_grown)).mono ?_
    rintro _ w1 ⟨A1, c1, rfl, o1, hb⟩
    have BH1 := BH.below hb (by first | omega | (simp; done) | (simp; omega))
    have BR1 := BR.below hb (by simp)
    have k1 : Below w.heap.size w w1 := Below.trans (by go_grown) (hb.mono (by first | omega | (simp; done) | (simp; omega)))
    have hg1 : w.heap.size + 1 < w1.heap.size := by have := hb.size; simp at this; omega
    have R1 := hid (own_rd o1)
    obtain ⟨⟨g0, g1, g2, g3, g4, g5, g6, g7⟩, n0, n1, n2, n3, n4, n5, n6, n7⟩ := BR1.eight
    have HR1 := hid BR1
    have f0 := (BH1 0 _ rfl).1
    have f1 := (BH1 1 _ rfl).1
    have f2 := (BH1 2 _ rfl).1
    clear BH BR hb CA BH1 BR1 o1
    clear HR1 R1 f0 f1 f2
    go_wp2_with fail
    refine bodyPost_ret (v := .tuple #[encT zeroS zeroP, .slice none 0 0, .int .i64 E]) (by simp [results, Tryz.results14, go_sem, zeroS, zeroP, g0, g1, g2, g3, g4, g5, g6, g7]) rfl (OwnRo.zero ?_)
    exact (((((((k1.setCell (by simp) _).setCell (by simp) _).setCell (by simp) _).setCell (by simp) _).setCell (by simp) _).setCell (by simp) _).setCell (by simp) _).setCell (by simp) _
theorem mt_in {sch k wide : Int} {v : List Int} {s : SentV} (h1 : howE sch k wide v.length = 0) (h2 : mayB s = true) (h3 : s.sch = sch) :
    mtB sch k wide v s = if sch = 1 then isTB v k s else if sch = 2 then (decide (s.wide = wide) && nearB v s) else if sch = 3 then isGB v s else eqB s.V v := by
  unfold mtB
  rw [decide_eq_true ⟨howE_ok.1 h1, h2, h3⟩, Bool.true_and]
theorem mt_no {sch k wide : Int} {v : List Int} {s : SentV} (h : ¬ (howE sch k wide v.length = 0 ∧ mayB s = true ∧ s.sch = sch)) : mtB sch k wide v s = false := by
  unfold mtB
  rw [decide_eq_false (fun h2 => h ⟨howE_ok.2 h2.1, h2.2⟩), Bool.false_and]
theorem ref_Meets12 {A : Option Addr} {c : Nat} (sch k wide : Int) (v : List Int) (uv : ∀ x ∈ v, I64 x) (hl : v.length ≤ 9223372036854775807) (s : SentV) (p : SentP) (hn : lnS 100000 s) (hw : wfS s) (w : World) (rv : Rd (Value.int .i64) w w.heap.size A v) (ra : RdS w w.heap.size s p) :
    Calls Tryz.prog 27 #[.agg #[.int .i64 sch, .int .i64 k, .int .i64 wide], .slice A v.length c, encT s p] w fun e w' => e = .returned (.bool (mtB sch k wide v s)) ∧ Below w.heap.size w w' := by
  obtain ⟨AL, cL, AV, cV, AE, cE, AN, cN⟩ := p
  have CC := hid (fun W => ref_Check12 sch k wide v.length W)
  have CM := hid (fun W (h : Below w.heap.size w W) => show Calls Tryz.prog 43 #[.agg #[.int .i64 s.sch, .int .i64 s.dim, .slice AL s.L.length cL, .slice AV s.V.length cV, .int .i64 s.scale, .int .i64 s.wide, .slice AE s.lev.length cE, .slice AN s.neg.length cN]] W fun e w' => e = .returned (.bool (mayB s)) ∧ Below W.heap.size W w' from ref_May s ⟨AL, cL, AV, cV, AE, cE, AN, cN⟩ hn hw W (B := w.heap.size) h.size (ra.below h))
  show Calls Tryz.prog 27 #[.agg #[.int .i64 sch, .int .i64 k, .int .i64 wide], .slice A v.length c, .agg #[.int .i64 s.sch, .int .i64 s.dim, .slice AL s.L.length cL, .slice AV s.V.length cV, .int .i64 s.scale, .int .i64 s.wide, .slice AE s.lev.length cE, .slice AN s.neg.length cN]] w _
  obtain ⟨E, hE⟩ : ∃ E, howE sch k wide v.length = E := ⟨_, rfl⟩
  have HIN := hid (fun h1 h2 h3 => mt_in (sch := sch) (k := k) (wide := wide) (v := v) (s := s) h1 h2 h3)
  have HNO := hid (fun h => mt_no (sch := sch) (k := k) (wide := wide) (v := v) (s := s) h)
  have HP := hid (fun h => (howE_ok (sch := sch) (k := k) (wide := wide) (dim := v.length)).1 h)
  rw [hE] at CC HIN HNO HP
  have hvl := hn.2.1
  by_cases he : E = 0
  · by_cases hm : mayB s = true
    · by_cases hs : s.sch = sch
      · have hv4 : v.length ≤ 4096 := by have := (HP.out he).2.1; omega
        have C0 := hid (fun W (h : Below w.heap.size w W) => rSame_any (A := AV) (B := A) (c := cV) (d := c) s.V v (by omega) hl W ((ra.2.1.below h).more h.size) (rv.on h))
        have C1 := hid (fun W (h : Below w.heap.size w W) => show Calls Tryz.prog 50 #[.int .i64 k, .slice A v.length c, .agg #[.int .i64 s.sch, .int .i64 s.dim, .slice AL s.L.length cL, .slice AV s.V.length cV, .int .i64 s.scale, .int .i64 s.wide, .slice AE s.lev.length cE, .slice AN s.neg.length cN]] W fun e w' => e = .returned (.bool (isTB v k s)) ∧ Below W.heap.size W w' from ref_Is9 (A := A) (c := c) k v uv hl s ⟨AL, cL, AV, cV, AE, cE, AN, cN⟩ hn W (rv.on h) (ra.on h))
        have C2 := hid (fun W (h : Below w.heap.size w W) => show Calls Tryz.prog 51 #[.slice A v.length c, .agg #[.int .i64 s.sch, .int .i64 s.dim, .slice AL s.L.length cL, .slice AV s.V.length cV, .int .i64 s.scale, .int .i64 s.wide, .slice AE s.lev.length cE, .slice AN s.neg.length cN]] W fun e w' => e = .returned (.bool (nearB v s)) ∧ Below W.heap.size W w' from ref_Near10 (A := A) (c := c) v uv hl s ⟨AL, cL, AV, cV, AE, cE, AN, cN⟩ hn hw W (rv.on h) (ra.on h))
        have C3 := hid (fun W (h : Below w.heap.size w W) => show Calls Tryz.prog 52 #[.slice A v.length c, .agg #[.int .i64 s.sch, .int .i64 s.dim, .slice AL s.L.length cL, .slice AV s.V.length cV, .int .i64 s.scale, .int .i64 s.wide, .slice AE s.lev.length cE, .slice AN s.neg.length cN]] W fun e w' => e = .returned (.bool (isGB v s)) ∧ Below W.heap.size W w' from ref_Is11 (A := A) (c := c) v uv hl s ⟨AL, cL, AV, cV, AE, cE, AN, cN⟩ hn W (rv.on h) (ra.on h))
        rw [hm] at CM
        have HS := hid hs
        have hq : sch = 0 ∨ sch = 1 ∨ sch = 2 ∨ sch = 3 := by have h := (HP.out he).2.2; omega
        have hR := HIN.out he hm hs
        rw [hR]
        subst he
        rcases hq with rfl | rfl | rfl | rfl
        · have hV : (if (0 : Int) = 1 then isTB v k s else if (0 : Int) = 2 then (decide (s.wide = wide) && nearB v s) else if (0 : Int) = 3 then isGB v s else eqB s.V v) = eqB s.V v := by simp
          rw [hV]
          obtain ⟨Z, hZ⟩ : ∃ Z, eqB s.V v = Z := ⟨_, rfl⟩
          rw [hZ] at C0 ⊢
          have th : (s.sch != 0) = false := by simpa using hs
          clear HS hR hV hZ hm hs uv rv ra hn hw HIN HNO HP hE C1 C2 C3
          go_enter Tryz.func27, Tryz.ntmps27
          go_wp2_with fail
          have BH := (BoxL.new w [.int .i64 0, .int .i64 k, .int .i64 wide] 23).below (sg_up _ (.cells #[.int .i64 s.sch, .int .i64 s.dim, .slice AL s.L.length cL, .slice AV s.V.length cV, .int .i64 s.scale, .int .i64 s.wide, .slice AE s.lev.length cE, .slice AN s.neg.length cN] 32)) (by simp)
          have BS := box2 w (.cells #[.int .i64 0, .int .i64 k, .int .i64 wide] 23) [.int .i64 s.sch, .int .i64 s.dim, .slice AL s.L.length cL, .slice AV s.V.length cV, .int .i64 s.scale, .int .i64 s.wide, .slice AE s.lev.length cE, .slice AN s.neg.length cN] 32
          refine (CC.out _).mono ?_
          rintro _ w1 ⟨rfl, hb⟩
          have BH1 := BH.below hb (by first | omega | (simp; done) | (simp; omega))
          have BS1 := BS.below hb (by simp)
          have k1 : Below w.heap.size w w1 := Below.trans (by go_grown) (hb.mono (by first | omega | (simp; done) | (simp; omega)))
          have hg1 : w.heap.size + 1 < w1.heap.size := by have := hb.size; simp at this; omega
          obtain ⟨⟨f0, f1, f2, f3, f4, f5, f6, f7⟩, _⟩ := BS1.eight
          have y0 := (BH1 0 _ rfl).1
          have y1 := (BH1 1 _ rfl).1
          have y2 := (BH1 2 _ rfl).1
          have HBH := hid BH1
          have HBS := hid BS1
          clear BH BS hb CC BH1 BS1
          go_wp2_with fail
          refine (CM.out _ k1).mono ?_
          rintro _ w2 ⟨rfl, hb2⟩
          have BH2 := HBH.out.below hb2 (by first | omega | (simp; done) | (simp; omega))
          have BS2 := HBS.out.below hb2 (by first | omega | (simp; done) | (simp; omega))
          have k2 : Below w.heap.size w w2 := k1.trans (hb2.mono k1.size)
          clear f0 f1 f2 f3 f4 f5 f6 f7 y0 y1 y2 HBH HBS
          obtain ⟨⟨f0, f1, f2, f3, f4, f5, f6, f7⟩, _⟩ := BS2.eight
          have y0 := (BH2 0 _ rfl).1
          have y1 := (BH2 1 _ rfl).1
          have y2 := (BH2 2 _ rfl).1
          clear BH2 BS2 hb2 CM
          go_wp2_with fail
          refine (C0.out _ k2).mono ?_
          rintro _ w3 ⟨rfl, hb3⟩
          go_wp2_with fail
          go_ret
          exact ⟨by simp, k2.trans (hb3.mono k2.size)⟩
        · have hV : (if (1 : Int) = 1 then isTB v k s else if (1 : Int) = 2 then (decide (s.wide = wide) && nearB v s) else if (1 : Int) = 3 then isGB v s else eqB s.V v) = isTB v k s := by simp
          rw [hV]
          obtain ⟨Z, hZ⟩ : ∃ Z, isTB v k s = Z := ⟨_, rfl⟩
          rw [hZ] at C1 ⊢
          have th : (s.sch != 1) = false := by simpa using hs
          clear HS hR hV hZ hm hs uv rv ra hn hw HIN HNO HP hE C0 C2 C3
          go_enter Tryz.func27, Tryz.ntmps27
          go_wp2_with fail
          have BH := (BoxL.new w [.int .i64 1, .int .i64 k, .int .i64 wide] 23).below (sg_up _ (.cells #[.int .i64 s.sch, .int .i64 s.dim, .slice AL s.L.length cL, .slice AV s.V.length cV, .int .i64 s.scale, .int .i64 s.wide, .slice AE s.lev.length cE, .slice AN s.neg.length cN] 32)) (by simp)
          have BS := box2 w (.cells #[.int .i64 1, .int .i64 k, .int .i64 wide] 23) [.int .i64 s.sch, .int .i64 s.dim, .slice AL s.L.length cL, .slice AV s.V.length cV, .int .i64 s.scale, .int .i64 s.wide, .slice AE s.lev.length cE, .slice AN s.neg.length cN] 32
          refine (CC.out _).mono ?_
          rintro _ w1 ⟨rfl, hb⟩
          have BH1 := BH.below hb (by first | omega | (simp; done) | (simp; omega))
          have BS1 := BS.below hb (by simp)
          have k1 : Below w.heap.size w w1 := Below.trans (by go_grown) (hb.mono (by first | omega | (simp; done) | (simp; omega)))
          have hg1 : w.heap.size + 1 < w1.heap.size := by have := hb.size; simp at this; omega
          obtain ⟨⟨f0, f1, f2, f3, f4, f5, f6, f7⟩, _⟩ := BS1.eight
          have y0 := (BH1 0 _ rfl).1
          have y1 := (BH1 1 _ rfl).1
          have y2 := (BH1 2 _ rfl).1
          have HBH := hid BH1
          have HBS := hid BS1
          clear BH BS hb CC BH1 BS1
          go_wp2_with fail
          refine (CM.out _ k1).mono ?_
          rintro _ w2 ⟨rfl, hb2⟩
          have BH2 := HBH.out.below hb2 (by first | omega | (simp; done) | (simp; omega))
          have BS2 := HBS.out.below hb2 (by first | omega | (simp; done) | (simp; omega))
          have k2 : Below w.heap.size w w2 := k1.trans (hb2.mono k1.size)
          clear f0 f1 f2 f3 f4 f5 f6 f7 y0 y1 y2 HBH HBS
          obtain ⟨⟨f0, f1, f2, f3, f4, f5, f6, f7⟩, _⟩ := BS2.eight
          have y0 := (BH2 0 _ rfl).1
          have y1 := (BH2 1 _ rfl).1
          have y2 := (BH2 2 _ rfl).1
          clear BH2 BS2 hb2 CM
          go_wp2_with fail
          refine (C1.out _ k2).mono ?_
          rintro _ w3 ⟨rfl, hb3⟩
          go_wp2_with fail
          go_ret
          exact ⟨by simp, k2.trans (hb3.mono k2.size)⟩
        · have hV : (if (2 : Int) = 1 then isTB v k s else if (2 : Int) = 2 then (decide (s.wide = wide) && nearB v s) else if (2 : Int) = 3 then isGB v s else eqB s.V v) = (decide (s.wide = wide) && nearB v s) := by simp
          rw [hV]
          obtain ⟨Z, hZ⟩ : ∃ Z, nearB v s = Z := ⟨_, rfl⟩
          rw [hZ] at C2 ⊢
          have th : (s.sch != 2) = false := by simpa using hs
          clear HS hR hV hZ hm hs uv rv ra hn hw HIN HNO HP hE C0 C1 C3
          by_cases hwd : s.wide = wide
          · have tw : (s.wide == wide) = true := by simpa using hwd
            have tw2 : decide (s.wide = wide) = true := decide_eq_true hwd
            rw [tw2, Bool.true_and]
            clear hwd tw2
            go_enter Tryz.func27, Tryz.ntmps27
            go_wp2_with fail
            have BH := (BoxL.new w [.int .i64 2, .int .i64 k, .int .i64 wide] 23).below (sg_up _ (.cells #[.int .i64 s.sch, .int .i64 s.dim, .slice AL s.L.length cL, .slice AV s.V.length cV, .int .i64 s.scale, .int .i64 s.wide, .slice AE s.lev.length cE, .slice AN s.neg.length cN] 32)) (by simp)
            have BS := box2 w (.cells #[.int .i64 2, .int .i64 k, .int .i64 wide] 23) [.int .i64 s.sch, .int .i64 s.dim, .slice AL s.L.length cL, .slice AV s.V.length cV, .int .i64 s.scale, .int .i64 s.wide, .slice AE s.lev.length cE, .slice AN s.neg.length cN] 32
            refine (CC.out _).mono ?_
            rintro _ w1 ⟨rfl, hb⟩
            have BH1 := BH.below hb (by first | omega | (simp; done) | (simp; omega))
            have BS1 := BS.below hb (by simp)
            have k1 : Below w.heap.size w w1 := Below.trans (by go_grown) (hb.mono (by first | omega | (simp; done) | (simp; omega)))
            have hg1 : w.heap.size + 1 < w1.heap.size := by have := hb.size; simp at this; omega
            obtain ⟨⟨f0, f1, f2, f3, f4, f5, f6, f7⟩, _⟩ := BS1.eight
            have y0 := (BH1 0 _ rfl).1
            have y1 := (BH1 1 _ rfl).1
            have y2 := (BH1 2 _ rfl).1
            have HBH := hid BH1
            have HBS := hid BS1
            clear BH BS hb CC BH1 BS1
            go_wp2_with fail
            refine (CM.out _ k1).mono ?_
            rintro _ w2 ⟨rfl, hb2⟩
            have BH2 := HBH.out.below hb2 (by first | omega | (simp; done) | (simp; omega))
            have BS2 := HBS.out.below hb2 (by first | omega | (simp; done) | (simp; omega))
            have k2 : Below w.heap.size w w2 := k1.trans (hb2.mono k1.size)
            clear f0 f1 f2 f3 f4 f5 f6 f7 y0 y1 y2 HBH HBS
            obtain ⟨⟨f0, f1, f2, f3, f4, f5, f6, f7⟩, _⟩ := BS2.eight
            have y0 := (BH2 0 _ rfl).1
            have y1 := (BH2 1 _ rfl).1
            have y2 := (BH2 2 _ rfl).1
            clear BH2 BS2 hb2 CM
            go_wp2_with fail
            refine (C2.out _ k2).mono ?_
            rintro _ w3 ⟨rfl, hb3⟩
            go_wp2_with fail
            go_ret
            exact ⟨by simp, k2.trans (hb3.mono k2.size)⟩
          · have tw : (s.wide == wide) = false := beq_eq_false_iff_ne.2 hwd
            rw [decide_eq_false hwd, Bool.false_and]
            clear hwd
            go_enter Tryz.func27, Tryz.ntmps27
            go_wp2_with fail
            have BH := (BoxL.new w [.int .i64 2, .int .i64 k, .int .i64 wide] 23).below (sg_up _ (.cells #[.int .i64 s.sch, .int .i64 s.dim, .slice AL s.L.length cL, .slice AV s.V.length cV, .int .i64 s.scale, .int .i64 s.wide, .slice AE s.lev.length cE, .slice AN s.neg.length cN] 32)) (by simp)
            have BS := box2 w (.cells #[.int .i64 2, .int .i64 k, .int .i64 wide] 23) [.int .i64 s.sch, .int .i64 s.dim, .slice AL s.L.length cL, .slice AV s.V.length cV, .int .i64 s.scale, .int .i64 s.wide, .slice AE s.lev.length cE, .slice AN s.neg.length cN] 32
            refine (CC.out _).mono ?_
            rintro _ w1 ⟨rfl, hb⟩
            have BH1 := BH.below hb (by first | omega | (simp; done) | (simp; omega))
            have BS1 := BS.below hb (by simp)
            have k1 : Below w.heap.size w w1 := Below.trans (by go_grown) (hb.mono (by first | omega | (simp; done) | (simp; omega)))
            have hg1 : w.heap.size + 1 < w1.heap.size := by have := hb.size; simp at this; omega
            obtain ⟨⟨f0, f1, f2, f3, f4, f5, f6, f7⟩, _⟩ := BS1.eight
            have y0 := (BH1 0 _ rfl).1
            have y1 := (BH1 1 _ rfl).1
            have y2 := (BH1 2 _ rfl).1
            have HBH := hid BH1
            have HBS := hid BS1
            clear BH BS hb CC BH1 BS1
            go_wp2_with fail
            refine (CM.out _ k1).mono ?_
            rintro _ w2 ⟨rfl, hb2⟩
            have BH2 := HBH.out.below hb2 (by first | omega | (simp; done) | (simp; omega))
            have BS2 := HBS.out.below hb2 (by first | omega | (simp; done) | (simp; omega))
            have k2 : Below w.heap.size w w2 := k1.trans (hb2.mono k1.size)
            clear f0 f1 f2 f3 f4 f5 f6 f7 y0 y1 y2 HBH HBS
            obtain ⟨⟨f0, f1, f2, f3, f4, f5, f6, f7⟩, _⟩ := BS2.eight
            have y0 := (BH2 0 _ rfl).1
            have y1 := (BH2 1 _ rfl).1
            have y2 := (BH2 2 _ rfl).1
            clear BH2 BS2 hb2 CM
            go_wp2_with fail
            go_ret
            exact ⟨by simp, k2⟩
        · have hV : (if (3 : Int) = 1 then isTB v k s else if (3 : Int) = 2 then (decide (s.wide = wide) && nearB v s) else if (3 : Int) = 3 then isGB v s else eqB s.V v) = isGB v s := by simp
          rw [hV]
          obtain ⟨Z, hZ⟩ : ∃ Z, isGB v s = Z := ⟨_, rfl⟩
          rw [hZ] at C3 ⊢
          have th : (s.sch != 3) = false := by simpa using hs
          clear HS hR hV hZ hm hs uv rv ra hn hw HIN HNO HP hE C0 C1 C2
          go_enter Tryz.func27, Tryz.ntmps27
          go_wp2_with fail
          have BH := (BoxL.new w [.int .i64 3, .int .i64 k, .int .i64 wide] 23).below (sg_up _ (.cells #[.int .i64 s.sch, .int .i64 s.dim, .slice AL s.L.length cL, .slice AV s.V.length cV, .int .i64 s.scale, .int .i64 s.wide, .slice AE s.lev.length cE, .slice AN s.neg.length cN] 32)) (by simp)
          have BS := box2 w (.cells #[.int .i64 3, .int .i64 k, .int .i64 wide] 23) [.int .i64 s.sch, .int .i64 s.dim, .slice AL s.L.length cL, .slice AV s.V.length cV, .int .i64 s.scale, .int .i64 s.wide, .slice AE s.lev.length cE, .slice AN s.neg.length cN] 32
          refine (CC.out _).mono ?_
          rintro _ w1 ⟨rfl, hb⟩
          have BH1 := BH.below hb (by first | omega | (simp; done) | (simp; omega))
          have BS1 := BS.below hb (by simp)
          have k1 : Below w.heap.size w w1 := Below.trans (by go_grown) (hb.mono (by first | omega | (simp; done) | (simp; omega)))
          have hg1 : w.heap.size + 1 < w1.heap.size := by have := hb.size; simp at this; omega
          obtain ⟨⟨f0, f1, f2, f3, f4, f5, f6, f7⟩, _⟩ := BS1.eight
          have y0 := (BH1 0 _ rfl).1
          have y1 := (BH1 1 _ rfl).1
          have y2 := (BH1 2 _ rfl).1
          have HBH := hid BH1
          have HBS := hid BS1
          clear BH BS hb CC BH1 BS1
          go_wp2_with fail
          refine (CM.out _ k1).mono ?_
          rintro _ w2 ⟨rfl, hb2⟩
          have BH2 := HBH.out.below hb2 (by first | omega | (simp; done) | (simp; omega))
          have BS2 := HBS.out.below hb2 (by first | omega | (simp; done) | (simp; omega))
          have k2 : Below w.heap.size w w2 := k1.trans (hb2.mono k1.size)
          clear f0 f1 f2 f3 f4 f5 f6 f7 y0 y1 y2 HBH HBS
          obtain ⟨⟨f0, f1, f2, f3, f4, f5, f6, f7⟩, _⟩ := BS2.eight
          have y0 := (BH2 0 _ rfl).1
          have y1 := (BH2 1 _ rfl).1
          have y2 := (BH2 2 _ rfl).1
          clear BH2 BS2 hb2 CM
          go_wp2_with fail
          refine (C3.out _ k2).mono ?_
          rintro _ w3 ⟨rfl, hb3⟩
          go_wp2_with fail
          go_ret
          exact ⟨by simp, k2.trans (hb3.mono k2.size)⟩
      · skip
        have hR := HNO.out (by rintro ⟨a, b, c⟩; first | exact he a | exact hm b | exact hs c)
        rw [hR]
        rw [hm] at CM
        subst he
        have t1 : (s.sch != sch) = true := by simpa using hs
        clear hs hm
        clear hR HIN HNO HP uv rv ra hn hw hE
        go_enter Tryz.func27, Tryz.ntmps27
        go_wp2_with fail
        have BH := (BoxL.new w [.int .i64 sch, .int .i64 k, .int .i64 wide] 23).below (sg_up _ (.cells #[.int .i64 s.sch, .int .i64 s.dim, .slice AL s.L.length cL, .slice AV s.V.length cV, .int .i64 s.scale, .int .i64 s.wide, .slice AE s.lev.length cE, .slice AN s.neg.length cN] 32)) (by simp)
        have BS := box2 w (.cells #[.int .i64 sch, .int .i64 k, .int .i64 wide] 23) [.int .i64 s.sch, .int .i64 s.dim, .slice AL s.L.length cL, .slice AV s.V.length cV, .int .i64 s.scale, .int .i64 s.wide, .slice AE s.lev.length cE, .slice AN s.neg.length cN] 32
        refine (CC.out _).mono ?_
        rintro _ w1 ⟨rfl, hb⟩
        have BH1 := BH.below hb (by first | omega | (simp; done) | (simp; omega))
        have BS1 := BS.below hb (by simp)
        have k1 : Below w.heap.size w w1 := Below.trans (by go_grown) (hb.mono (by first | omega | (simp; done) | (simp; omega)))
        have hg1 : w.heap.size + 1 < w1.heap.size := by have := hb.size; simp at this; omega
        obtain ⟨⟨f0, f1, f2, f3, f4, f5, f6, f7⟩, _⟩ := BS1.eight
        have y0 := (BH1 0 _ rfl).1
        have y1 := (BH1 1 _ rfl).1
        have y2 := (BH1 2 _ rfl).1
        have HBH := hid BH1
        have HBS := hid BS1
        clear BH BS hb CC BH1 BS1
        go_wp2_with fail
        refine (CM.out _ k1).mono ?_
        rintro _ w2 ⟨rfl, hb2⟩
        have BH2 := HBH.out.below hb2 (by first | omega | (simp; done) | (simp; omega))
        have BS2 := HBS.out.below hb2 (by first | omega | (simp; done) | (simp; omega))
        have k2 : Below w.heap.size w w2 := k1.trans (hb2.mono k1.size)
        clear f0 f1 f2 f3 f4 f5 f6 f7 y0 y1 y2 HBH HBS
        obtain ⟨⟨f0, f1, f2, f3, f4, f5, f6, f7⟩, _⟩ := BS2.eight
        have y0 := (BH2 0 _ rfl).1
        have y1 := (BH2 1 _ rfl).1
        have y2 := (BH2 2 _ rfl).1
        clear BH2 BS2 hb2 CM
        go_wp2_with fail
        go_ret
        exact ⟨rfl, k2⟩
    · skip
      have hR := HNO.out (by rintro ⟨a, b, c⟩; first | exact he a | exact hm b | exact hs c)
      rw [hR]
      have hm2 : mayB s = false := by simpa using hm
      rw [hm2] at CM
      subst he
      clear hm hm2
      clear hR HIN HNO HP uv rv ra hn hw hE
      go_enter Tryz.func27, Tryz.ntmps27
      go_wp2_with fail
      have BH := (BoxL.new w [.int .i64 sch, .int .i64 k, .int .i64 wide] 23).below (sg_up _ (.cells #[.int .i64 s.sch, .int .i64 s.dim, .slice AL s.L.length cL, .slice AV s.V.length cV, .int .i64 s.scale, .int .i64 s.wide, .slice AE s.lev.length cE, .slice AN s.neg.length cN] 32)) (by simp)
      have BS := box2 w (.cells #[.int .i64 sch, .int .i64 k, .int .i64 wide] 23) [.int .i64 s.sch, .int .i64 s.dim, .slice AL s.L.length cL, .slice AV s.V.length cV, .int .i64 s.scale, .int .i64 s.wide, .slice AE s.lev.length cE, .slice AN s.neg.length cN] 32
      refine (CC.out _).mono ?_
      rintro _ w1 ⟨rfl, hb⟩
      have BH1 := BH.below hb (by first | omega | (simp; done) | (simp; omega))
      have BS1 := BS.below hb (by simp)
      have k1 : Below w.heap.size w w1 := Below.trans (by go_grown) (hb.mono (by first | omega | (simp; done) | (simp; omega)))
      have hg1 : w.heap.size + 1 < w1.heap.size := by have := hb.size; simp at this; omega
      obtain ⟨⟨f0, f1, f2, f3, f4, f5, f6, f7⟩, _⟩ := BS1.eight
      have y0 := (BH1 0 _ rfl).1
      have y1 := (BH1 1 _ rfl).1
      have y2 := (BH1 2 _ rfl).1
      have HBH := hid BH1
      have HBS := hid BS1
      clear BH BS hb CC BH1 BS1
      go_wp2_with fail
      refine (CM.out _ k1).mono ?_
      rintro _ w2 ⟨rfl, hb2⟩
      have BH2 := HBH.out.below hb2 (by first | omega | (simp; done) | (simp; omega))
      have BS2 := HBS.out.below hb2 (by first | omega | (simp; done) | (simp; omega))
      have k2 : Below w.heap.size w w2 := k1.trans (hb2.mono k1.size)
      clear f0 f1 f2 f3 f4 f5 f6 f7 y0 y1 y2 HBH HBS
      obtain ⟨⟨f0, f1, f2, f3, f4, f5, f6, f7⟩, _⟩ := BS2.eight
      have y0 := (BH2 0 _ rfl).1
      have y1 := (BH2 1 _ rfl).1
      have y2 := (BH2 2 _ rfl).1
      clear BH2 BS2 hb2 CM
      go_wp2_with fail
      go_ret
      exact ⟨rfl, k2⟩
  · skip
    have hR := HNO.out (by rintro ⟨a, b, c⟩; first | exact he a | exact hm b | exact hs c)
    rw [hR]
    have hne : (E != 0) = true := by simpa using he
    clear he CM
    clear hR HIN HNO HP uv rv ra hn hw hE
    go_enter Tryz.func27, Tryz.ntmps27
    go_wp2_with fail
    have BH := (BoxL.new w [.int .i64 sch, .int .i64 k, .int .i64 wide] 23).below (sg_up _ (.cells #[.int .i64 s.sch, .int .i64 s.dim, .slice AL s.L.length cL, .slice AV s.V.length cV, .int .i64 s.scale, .int .i64 s.wide, .slice AE s.lev.length cE, .slice AN s.neg.length cN] 32)) (by simp)
    have BS := box2 w (.cells #[.int .i64 sch, .int .i64 k, .int .i64 wide] 23) [.int .i64 s.sch, .int .i64 s.dim, .slice AL s.L.length cL, .slice AV s.V.length cV, .int .i64 s.scale, .int .i64 s.wide, .slice AE s.lev.length cE, .slice AN s.neg.length cN] 32
    refine (CC.out _).mono ?_
    rintro _ w1 ⟨rfl, hb⟩
    have BH1 := BH.below hb (by first | omega | (simp; done) | (simp; omega))
    have BS1 := BS.below hb (by simp)
    have k1 : Below w.heap.size w w1 := Below.trans (by go_grown) (hb.mono (by first | omega | (simp; done) | (simp; omega)))
    have hg1 : w.heap.size + 1 < w1.heap.size := by have := hb.size; simp at this; omega
    obtain ⟨⟨f0, f1, f2, f3, f4, f5, f6, f7⟩, _⟩ := BS1.eight
    have y0 := (BH1 0 _ rfl).1
    have y1 := (BH1 1 _ rfl).1
    have y2 := (BH1 2 _ rfl).1
    have HBH := hid BH1
    have HBS := hid BS1
    clear BH BS hb CC BH1 BS1
    go_wp2_with fail
    go_ret
    exact ⟨rfl, k1⟩
end Go.Proofs.YtecgbelgoomneaaGreat
