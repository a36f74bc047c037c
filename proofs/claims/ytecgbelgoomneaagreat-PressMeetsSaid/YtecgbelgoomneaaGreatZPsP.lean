
/- ZPsP: texts joined: PsP. -/
import Derived.Test.YtecgbelgoomneaaGreatZj
import Derived.Test.YtecgbelgoomneaaGreatZPpF1
import Derived.Test.YtecgbelgoomneaaGreatZPpF2
import Derived.Test.YtecgbelgoomneaaGreatZPsC
import Derived.Test.YtecgbelgoomneaaGreatZf
import Derived.Test.YtecgbelgoomneaaGreatZb
import Derived.Test.YtecgbelgoomneaaGreatZQpE
import Derived.Test.YtecgbelgoomneaaGreatZd
import Derived.Test.YtecgbelgoomneaaGreatZe
/- What is left, how many bytes, a round, whether a vector is pressed so: the program's. -/
namespace Go.Proofs.YtecgbelgoomneaaGreat
open Go.RowKit
set_option maxHeartbeats 4000000
set_option maxRecDepth 100000
set_option linter.unusedVariables false
theorem pn_Left {A : Option Addr} {c : Nat} (v : List Int) (uv : ∀ x ∈ v, I64 x) (hl : v.length ≤ 9223372036854775807) (s : SentV) (p : SentP) (hn : lnS 100000 s) (hw : wfS s) (w : World) (rv : Rd (Value.int .i64) w w.heap.size A v) (ra : RdS w w.heap.size s p) :
    Calls Tryz.prog 22 #[.slice A v.length c, encT s p] w (OwnE 2 .i64 w.heap.size (plfV v s) (plfE v s) w) := by
  obtain ⟨AL, cL, AV, cV, AE, cE, AN, cN⟩ := p
  have CL := hid (fun W (h : Below w.heap.size w W) => show Calls Tryz.prog 20 #[.agg #[.int .i64 s.sch, .int .i64 s.dim, .slice AL s.L.length cL, .slice AV s.V.length cV, .int .i64 s.scale, .int .i64 s.wide, .slice AE s.lev.length cE, .slice AN s.neg.length cN]] W (OwnE 2 .i64 W.heap.size (ploV s) (ploE s) W) from pn_Loosen s ⟨AL, cL, AV, cV, AE, cE, AN, cN⟩ hn hw W (ra.on h))
  show Calls Tryz.prog 22 #[.slice A v.length c, .agg #[.int .i64 s.sch, .int .i64 s.dim, .slice AL s.L.length cL, .slice AV s.V.length cV, .int .i64 s.scale, .int .i64 s.wide, .slice AE s.lev.length cE, .slice AN s.neg.length cN]] w _
  by_cases he : ploE s = 0
  · have hE : plfE v s = opE (· - ·) v (ploV s) := if_neg (by simp [he])
    have hV : plfV v s = opV (· - ·) v (ploV s) := if_pos he
    rw [hE, hV]
    rw [he] at CL
    have u64 := plo_i64 hw
    have hlp := plo_le s
    obtain ⟨X, hX⟩ : ∃ X, ploV s = X := ⟨_, rfl⟩
    rw [hX] at CL u64 hlp ⊢
    have CS := hid (fun (A' : Option Addr) (c' : Nat) W (h : Below w.heap.size w W) (r : Rd (Value.int .i64) W W.heap.size A' X) => Sub_any (A := A) (B := A') (c := c) (d := c') v X hl (by omega) uv u64 W (rv.on h) r)
    obtain ⟨Q, hQ⟩ : ∃ Q, opV (· - ·) v X = Q := ⟨_, rfl⟩
    obtain ⟨E, hEE⟩ : ∃ E, opE (· - ·) v X = E := ⟨_, rfl⟩
    rw [hQ, hEE] at CS ⊢
    clear hE hV he u64 hX hQ hEE uv rv ra hn hw
    go_enter Tryz.func22, Tryz.ntmps22
    go_wp2_with fail
    refine (CL.out _ (by go_grown)).mono ?_
    rintro _ w1 ⟨A1, c1, rfl, o1, hb⟩
    have k1 : Below w.heap.size w w1 := Below.trans (by go_grown) (hb.mono (by simp))
    have r1 := own_rd o1
    clear o1 hb CL
    go_wp2_with fail
    refine (CS.out _ _ _ k1 r1).mono ?_
    rintro _ w2 ⟨A2, c2, rfl, o2, hb2⟩
    have hfin : OwnE 2 .i64 w.heap.size Q E w (.returned (.tuple #[.slice A2 Q.length c2, .int .i64 E])) w2 := ⟨A2, c2, rfl, own_base o2 k1.size, k1.trans (hb2.mono k1.size)⟩
    clear o2 hb2 CS r1
    go_wp2_with fail
    go_ret2
    exact hfin
  · have hE : plfE v s = ploE s := if_pos he
    have hV : plfV v s = [] := if_neg he
    rw [hE, hV]
    obtain ⟨E, hEE⟩ : ∃ E, ploE s = E := ⟨_, rfl⟩
    obtain ⟨X, hX⟩ : ∃ X, ploV s = X := ⟨_, rfl⟩
    rw [hEE, hX] at CL
    rw [hEE] at he ⊢
    have hne : (E != 0) = true := by simpa using he
    clear hE hV he hEE hX uv rv ra hn hw
    go_enter Tryz.func22, Tryz.ntmps22
    go_wp2_with fail
    refine (CL.out _ (by go_grown)).mono ?_
    rintro _ w1 ⟨A1, c1, rfl, o1, hb⟩
    have k1 : Below w.heap.size w w1 := Below.trans (by go_grown) (hb.mono (by simp))
    clear o1 hb CL
    go_wp2_with fail
    go_ret2
    exact .nil k1
theorem pn_Round {A B D : Option Addr} {c d q : Nat} (sch k wide : Int) (hsc : I64 sch) (hwd : I64 wide) (g l : List Int) (ug : ∀ x ∈ g, I64 x) (ul : ∀ x ∈ l, I64 x) (hg : g.length ≤ 9223372036854775807) (hl : l.length ≤ 9223372036854775807) (s : Nat) (hs : s < 2 ^ 64) (n : List Int) (un : ∀ x ∈ n, I64 x) (hn : n.length ≤ 1000) (w : World) (rg : Rd (Value.int .i64) w w.heap.size A g) (rl : Rd (Value.int .i64) w w.heap.size B l) (rn : Rd (Value.int .i64) w w.heap.size D n) :
    Calls Tryz.prog 13 #[.agg #[.int .i64 sch, .int .i64 k, .int .i64 wide], .slice A g.length c, .slice B l.length d, .int .u64 (s : Int), .slice D n.length q] w (OwnRo w.heap.size (prdS sch k wide g l s n) (prdV sch k wide g l s n) (prdE sch k wide g l s n) w) := by
  have CA := hid (fun W (h : Below w.heap.size w W) => Add_any (A := A) (B := B) (c := c) (d := d) g l hg hl ug ul W (rg.on h) (rl.on h))
  have uU : ∀ x ∈ prdU g l, I64 x := op_i64
  have lU : (prdU g l).length ≤ 4096 := op_len
  have CP := hid (fun (A' : Option Addr) (c' : Nat) W (h : Below w.heap.size w W) (r : Rd (Value.int .i64) W W.heap.size A' (prdU g l)) => (pn_Press (A := A') (B := D) (c := c') (d := q) sch k wide hsc hwd (prdU g l) uU (by omega) s hs n un hn W r (rn.on h)))
  have CL := hid (fun (A' : Option Addr) (c' : Nat) (p : SentP) W (r : Rd (Value.int .i64) W W.heap.size A' (prdU g l)) (r2 : RdS W W.heap.size (ppS sch k wide (prdU g l) s n) p) => pn_Left (A := A') (c := c') (prdU g l) uU (by omega) (ppS sch k wide (prdU g l) s n) p ((pp_ln sch k wide _ s n).more (by decide)) (pp_wf hwd uU) W r r2)
  rw [show opV (· + ·) g l = prdU g l from rfl] at CA
  by_cases h1 : opE (· + ·) g l = 0
  · rw [h1] at CA
    by_cases h2 : ppE sch k wide (prdU g l) = 0
    · rw [h2] at CP
      obtain ⟨e3, n3, y3⟩ := prd_err3 (s := s) (n := n) h1 h2
      by_cases h3 : plfE (prdU g l) (ppS sch k wide (prdU g l) s n) = 0
      · obtain ⟨eS, eV⟩ := y3 h3
        rw [e3, eS, eV, h3]
        rw [h3] at CL
        obtain ⟨U, hU⟩ : ∃ U, prdU g l = U := ⟨_, rfl⟩
        rw [hU] at CA CP CL lU ⊢
        obtain ⟨S, hS⟩ : ∃ S, ppS sch k wide U s n = S := ⟨_, rfl⟩
        rw [hS] at CP CL ⊢
        obtain ⟨Q, hQ⟩ : ∃ Q, plfV U S = Q := ⟨_, rfl⟩
        rw [hQ] at CL ⊢
        clear e3 n3 y3 h1 h2 h3 eS eV hU hS hQ uU ug ul un rg rl rn
        go_enter Tryz.func13, Tryz.ntmps13
        go_wp2_with fail
        have BH := (BoxL.new w [.int .i64 sch, .int .i64 k, .int .i64 wide] 23).below (sg_up _ (.cells #[.int .i64 0, .int .i64 0, .slice none 0 0, .slice none 0 0, .int .i64 0, .int .i64 0, .slice none 0 0, .slice none 0 0] 32)) (by simp)
        have BR := box2 w (.cells #[.int .i64 sch, .int .i64 k, .int .i64 wide] 23) [.int .i64 0, .int .i64 0, .slice none 0 0, .slice none 0 0, .int .i64 0, .int .i64 0, .slice none 0 0, .slice none 0 0] 32
        refine (CA.out _ (by go_grown)).mono ?_
        rintro _ w1 ⟨A1, c1, rfl, o1, hb⟩
        have BH1 := BH.below hb (by first | omega | (simp; done) | (simp; omega))
        have BR1 := BR.below hb (by simp)
        have k1 : Below w.heap.size w w1 := Below.trans (by go_grown) (hb.mono (by first | omega | (simp; done) | (simp; omega)))
        have hg1 : w.heap.size + 1 < w1.heap.size := by have := hb.size; simp at this; omega
        have R1 := hid (own_rd o1)
        obtain ⟨⟨g0, g1, g2, g3, g4, g5, g6, g7⟩, n0, n1, n2, n3, n4, n5, n6, n7⟩ := BR1.eight
        have HR1 := hid BR1
        have f0 := (BH1 0 _ rfl).1
        have f1 := (BH1 1 _ rfl).1
        have f2 := (BH1 2 _ rfl).1
        clear BH BR hb CA BH1 BR1 o1
        go_wp2_with fail
        refine (CP.out _ _ _ k1 R1.out).mono ?_
        rintro _ w2 ⟨p, rfl, ho, hb2⟩
        have HO := hid (show OwnL w2 (w.heap.size + 2) _ p from OwnL.base ho (by omega))
        have k2 : Below w.heap.size w w2 := k1.trans (hb2.mono k1.size)
        have hg2 : w.heap.size + 1 < w2.heap.size := by have := hb2.size; omega
        have R2 := hid (R1.out.on hb2)
        have BR2 := HR1.out.below hb2 (by first | omega | (simp; done) | (simp; omega))
        clear g0 g1 g2 g3 g4 g5 g6 g7 n0 n1 n2 n3 n4 n5 n6 n7 f0 f1 f2 ho hb2 CP R1 HR1
        have G3 := sg_up w2 (.cells #[.int .i64 S.sch, .int .i64 S.dim, .slice p.AL S.L.length p.cL, .slice p.AV S.V.length p.cV, .int .i64 S.scale, .int .i64 S.wide, .slice p.AE S.lev.length p.cE, .slice p.AN S.neg.length p.cN] 32)
        have B3 := BoxL.new w2 [.int .i64 S.sch, .int .i64 S.dim, .slice p.AL S.L.length p.cL, .slice p.AV S.V.length p.cV, .int .i64 S.scale, .int .i64 S.wide, .slice p.AE S.lev.length p.cE, .slice p.AN S.neg.length p.cN] 32
        simp only [List.toArray] at B3
        obtain ⟨w3, hw3⟩ : ∃ w3, w2.alloc (.cells #[.int .i64 S.sch, .int .i64 S.dim, .slice p.AL S.L.length p.cL, .slice p.AV S.V.length p.cV, .int .i64 S.scale, .int .i64 S.wide, .slice p.AE S.lev.length p.cE, .slice p.AN S.neg.length p.cN] 32) = w3 := ⟨_, rfl⟩
        rw [hw3] at G3 B3
        have k3 : Below w.heap.size w w3 := k2.trans (G3.mono k2.size)
        have HO3 := hid (HO.out.on G3)
        have R3 := hid (R2.out.on G3)
        have hg3 : w.heap.size + 1 < w3.heap.size := by have := G3.size; omega
        have BR3 := BR2.below G3 (by first | omega | (simp; done) | (simp; omega))
        have X3 := hid B3
        have hx3 : w2.heap.size < w3.heap.size := B3.lt (by simp)
        have HR3 := hid BR3
        obtain ⟨⟨g0, g1, g2, g3, g4, g5, g6, g7⟩, n0, n1, n2, n3, n4, n5, n6, n7⟩ := BR3.eight
        obtain ⟨⟨e0, e1, e2, e3, e4, e5, e6, e7⟩, _⟩ := B3.eight
        clear G3 B3 BR2 BR3 R2 HO
        go_wp2_with fail
        refine (CL.out _ _ p _ R3.out (OwnL.rd HO3.out)).mono ?_
        rintro _ w4 ⟨A4, c4, rfl, o4, hb4⟩
        have HO4 := hid (HO3.out.on hb4)
        have O4 := hid (own_base o4 (show w.heap.size + 2 ≤ w3.heap.size by omega))
        have k4 : Below w.heap.size w w4 := k3.trans (hb4.mono k3.size)
        clear g0 g1 g2 g3 g4 g5 g6 g7 n0 n1 n2 n3 n4 n5 n6 n7 e0 e1 e2 e3 e4 e5 e6 e7
        obtain ⟨⟨g0, g1, g2, g3, g4, g5, g6, g7⟩, n0, n1, n2, n3, n4, n5, n6, n7⟩ := (HR3.out.below hb4 (by first | omega | (simp; done) | (simp; omega))).eight
        obtain ⟨⟨e0, e1, e2, e3, e4, e5, e6, e7⟩, _⟩ := (X3.out.below hb4 hx3).eight
        clear HR3 X3 hb4 o4 CL R3 HO3 hw3
        go_wp2_with fail
        refine bodyPost_ret (v := .tuple #[encT S p, .slice A4 Q.length c4, .int .i64 0]) (by simp [results, Tryz.results13, go_sem, g0, g1, g2, g3, g4, g5, g6, g7]) rfl ⟨p, A4, c4, rfl, ?_, ?_, ?_⟩
        · have hz : w.heap.size + 1 < w.heap.size + 2 := by omega
          exact (((((((((HO4.out).set hz _).set hz _).set hz _).set hz _).set hz _).set hz _).set hz _).set hz _).base (by omega)
        · have hz : w.heap.size + 1 < w.heap.size + 2 := by omega
          exact own_base (own_set (own_set (own_set (own_set (own_set (own_set (own_set (own_set O4.out hz _) hz _) hz _) hz _) hz _) hz _) hz _) hz _) (by omega)
        · exact (((((((k4.setCell (by simp) _).setCell (by simp) _).setCell (by simp) _).setCell (by simp) _).setCell (by simp) _).setCell (by simp) _).setCell (by simp) _).setCell (by simp) _
      · obtain ⟨eS, eV⟩ := n3 h3
        rw [e3, eS, eV]
        obtain ⟨U, hU⟩ : ∃ U, prdU g l = U := ⟨_, rfl⟩
        rw [hU] at CA CP CL lU ⊢
        obtain ⟨S, hS⟩ : ∃ S, ppS sch k wide U s n = S := ⟨_, rfl⟩
        rw [hS] at CP CL
        rw [hU, hS] at h3
        rw [hS]
        obtain ⟨Q, hQ⟩ : ∃ Q, plfV U S = Q := ⟨_, rfl⟩
        rw [hQ] at CL
        obtain ⟨E, hE⟩ : ∃ E, plfE U S = E := ⟨_, rfl⟩
        rw [hE] at CL h3 ⊢
        have hne : (E != 0) = true := by simpa using h3
        clear e3 n3 y3 h1 h2 h3 eS eV hU hS hQ hE uU ug ul un rg rl rn
        go_enter Tryz.func13, Tryz.ntmps13
        go_wp2_with fail
        have BH := (BoxL.new w [.int .i64 sch, .int .i64 k, .int .i64 wide] 23).below (sg_up _ (.cells #[.int .i64 0, .int .i64 0, .slice none 0 0, .slice none 0 0, .int .i64 0, .int .i64 0, .slice none 0 0, .slice none 0 0] 32)) (by simp)
        have BR := box2 w (.cells #[.int .i64 sch, .int .i64 k, .int .i64 wide] 23) [.int .i64 0, .int .i64 0, .slice none 0 0, .slice none 0 0, .int .i64 0, .int .i64 0, .slice none 0 0, .slice none 0 0] 32
        refine (CA.out _ (by go_grown)).mono ?_
        rintro _ w1 ⟨A1, c1, rfl, o1, hb⟩
        have BH1 := BH.below hb (by first | omega | (simp; done) | (simp; omega))
        have BR1 := BR.below hb (by simp)
        have k1 : Below w.heap.size w w1 := Below.trans (by go_grown) (hb.mono (by first | omega | (simp; done) | (simp; omega)))
        have hg1 : w.heap.size + 1 < w1.heap.size := by have := hb.size; simp at this; omega
        have R1 := hid (own_rd o1)
        obtain ⟨⟨g0, g1, g2, g3, g4, g5, g6, g7⟩, n0, n1, n2, n3, n4, n5, n6, n7⟩ := BR1.eight
        have HR1 := hid BR1
        have f0 := (BH1 0 _ rfl).1
        have f1 := (BH1 1 _ rfl).1
        have f2 := (BH1 2 _ rfl).1
        clear BH BR hb CA BH1 BR1 o1
        go_wp2_with fail
        refine (CP.out _ _ _ k1 R1.out).mono ?_
        rintro _ w2 ⟨p, rfl, ho, hb2⟩
        have HO := hid (show OwnL w2 (w.heap.size + 2) _ p from OwnL.base ho (by omega))
        have k2 : Below w.heap.size w w2 := k1.trans (hb2.mono k1.size)
        have hg2 : w.heap.size + 1 < w2.heap.size := by have := hb2.size; omega
        have R2 := hid (R1.out.on hb2)
        have BR2 := HR1.out.below hb2 (by first | omega | (simp; done) | (simp; omega))
        clear g0 g1 g2 g3 g4 g5 g6 g7 n0 n1 n2 n3 n4 n5 n6 n7 f0 f1 f2 ho hb2 CP R1 HR1
        have G3 := sg_up w2 (.cells #[.int .i64 S.sch, .int .i64 S.dim, .slice p.AL S.L.length p.cL, .slice p.AV S.V.length p.cV, .int .i64 S.scale, .int .i64 S.wide, .slice p.AE S.lev.length p.cE, .slice p.AN S.neg.length p.cN] 32)
        have B3 := BoxL.new w2 [.int .i64 S.sch, .int .i64 S.dim, .slice p.AL S.L.length p.cL, .slice p.AV S.V.length p.cV, .int .i64 S.scale, .int .i64 S.wide, .slice p.AE S.lev.length p.cE, .slice p.AN S.neg.length p.cN] 32
        simp only [List.toArray] at B3
        obtain ⟨w3, hw3⟩ : ∃ w3, w2.alloc (.cells #[.int .i64 S.sch, .int .i64 S.dim, .slice p.AL S.L.length p.cL, .slice p.AV S.V.length p.cV, .int .i64 S.scale, .int .i64 S.wide, .slice p.AE S.lev.length p.cE, .slice p.AN S.neg.length p.cN] 32) = w3 := ⟨_, rfl⟩
        rw [hw3] at G3 B3
        have k3 : Below w.heap.size w w3 := k2.trans (G3.mono k2.size)
        have HO3 := hid (HO.out.on G3)
        have R3 := hid (R2.out.on G3)
        have hg3 : w.heap.size + 1 < w3.heap.size := by have := G3.size; omega
        have BR3 := BR2.below G3 (by first | omega | (simp; done) | (simp; omega))
        have X3 := hid B3
        have hx3 : w2.heap.size < w3.heap.size := B3.lt (by simp)
        have HR3 := hid BR3
        obtain ⟨⟨g0, g1, g2, g3, g4, g5, g6, g7⟩, n0, n1, n2, n3, n4, n5, n6, n7⟩ := BR3.eight
        obtain ⟨⟨e0, e1, e2, e3, e4, e5, e6, e7⟩, _⟩ := B3.eight
        clear G3 B3 BR2 BR3 R2 HO
        go_wp2_with fail
        refine (CL.out _ _ p _ R3.out (OwnL.rd HO3.out)).mono ?_
        rintro _ w4 ⟨A4, c4, rfl, o4, hb4⟩
        have HO4 := hid (HO3.out.on hb4)
        have O4 := hid (own_base o4 (show w.heap.size + 2 ≤ w3.heap.size by omega))
        have k4 : Below w.heap.size w w4 := k3.trans (hb4.mono k3.size)
        clear g0 g1 g2 g3 g4 g5 g6 g7 n0 n1 n2 n3 n4 n5 n6 n7 e0 e1 e2 e3 e4 e5 e6 e7
        obtain ⟨⟨g0, g1, g2, g3, g4, g5, g6, g7⟩, n0, n1, n2, n3, n4, n5, n6, n7⟩ := (HR3.out.below hb4 (by first | omega | (simp; done) | (simp; omega))).eight
        obtain ⟨⟨e0, e1, e2, e3, e4, e5, e6, e7⟩, _⟩ := (X3.out.below hb4 hx3).eight
        clear HR3 X3 hb4 o4 CL R3 HO3 hw3
        go_wp2_with fail
        refine bodyPost_ret (v := .tuple #[encT zeroS zeroP, .slice none 0 0, .int .i64 E]) (by simp [results, Tryz.results13, go_sem, zeroS, zeroP, g0, g1, g2, g3, g4, g5, g6, g7]) rfl (OwnRo.zero ?_)
        exact (((((((k4.setCell (by simp) _).setCell (by simp) _).setCell (by simp) _).setCell (by simp) _).setCell (by simp) _).setCell (by simp) _).setCell (by simp) _).setCell (by simp) _
    · obtain ⟨e2, eS, eV⟩ := prd_err2 (s := s) (n := n) h1 h2
      rw [e2, eS, eV]
      obtain ⟨U, hU⟩ : ∃ U, prdU g l = U := ⟨_, rfl⟩
      rw [hU] at CA CP CL lU ⊢
      obtain ⟨S, hS⟩ : ∃ S, ppS sch k wide U s n = S := ⟨_, rfl⟩
      rw [hS] at CP CL
      rw [hU] at h2
      obtain ⟨E, hE⟩ : ∃ E, ppE sch k wide U = E := ⟨_, rfl⟩
      rw [hE] at CP h2 ⊢
      have hne : (E != 0) = true := by simpa using h2
      clear e2 h1 h2 eS eV hU hS hE uU ug ul un rg rl rn CL
      go_enter Tryz.func13, Tryz.ntmps13
      go_wp2_with fail
      have BH := (BoxL.new w [.int .i64 sch, .int .i64 k, .int .i64 wide] 23).below (sg_up _ (.cells #[.int .i64 0, .int .i64 0, .slice none 0 0, .slice none 0 0, .int .i64 0, .int .i64 0, .slice none 0 0, .slice none 0 0] 32)) (by simp)
      have BR := box2 w (.cells #[.int .i64 sch, .int .i64 k, .int .i64 wide] 23) [.int .i64 0, .int .i64 0, .slice none 0 0, .slice none 0 0, .int .i64 0, .int .i64 0, .slice none 0 0, .slice none 0 0] 32
      refine (CA.out _ (by go_grown)).mono ?_
      rintro _ w1 ⟨A1, c1, rfl, o1, hb⟩
      have BH1 := BH.below hb (by first | omega | (simp; done) | (simp; omega))
      have BR1 := BR.below hb (by simp)
      have k1 : Below w.heap.size w w1 := Below.trans (by go_grown) (hb.mono (by first | omega | (simp; done) | (simp; omega)))
      have hg1 : w.heap.size + 1 < w1.heap.size := by have := hb.size; simp at this; omega
      have R1 := hid (own_rd o1)
      obtain ⟨⟨g0, g1, g2, g3, g4, g5, g6, g7⟩, n0, n1, n2, n3, n4, n5, n6, n7⟩ := BR1.eight
      have HR1 := hid BR1
      have f0 := (BH1 0 _ rfl).1
      have f1 := (BH1 1 _ rfl).1
      have f2 := (BH1 2 _ rfl).1
      clear BH BR hb CA BH1 BR1 o1
      go_wp2_with fail
      refine (CP.out _ _ _ k1 R1.out).mono ?_
      rintro _ w2 ⟨p, rfl, ho, hb2⟩
      have HO := hid (show OwnL w2 (w.heap.size + 2) _ p from OwnL.base ho (by omega))
      have k2 : Below w.heap.size w w2 := k1.trans (hb2.mono k1.size)
      have hg2 : w.heap.size + 1 < w2.heap.size := by have := hb2.size; omega
      have R2 := hid (R1.out.on hb2)
      have BR2 := HR1.out.below hb2 (by first | omega | (simp; done) | (simp; omega))
      clear g0 g1 g2 g3 g4 g5 g6 g7 n0 n1 n2 n3 n4 n5 n6 n7 f0 f1 f2 ho hb2 CP R1 HR1
      have k3 := k2.alloc k2.size (.cells #[.int .i64 S.sch, .int .i64 S.dim, .slice p.AL S.L.length p.cL, .slice p.AV S.V.length p.cV, .int .i64 S.scale, .int .i64 S.wide, .slice p.AE S.lev.length p.cE, .slice p.AN S.neg.length p.cN] 32)
      have BR3 := BR2.below (sg_up w2 (.cells #[.int .i64 S.sch, .int .i64 S.dim, .slice p.AL S.L.length p.cL, .slice p.AV S.V.length p.cV, .int .i64 S.scale, .int .i64 S.wide, .slice p.AE S.lev.length p.cE, .slice p.AN S.neg.length p.cN] 32)) (by first | omega | (simp; done) | (simp; omega))
      obtain ⟨w3, hw3⟩ : ∃ w3, w2.alloc (.cells #[.int .i64 S.sch, .int .i64 S.dim, .slice p.AL S.L.length p.cL, .slice p.AV S.V.length p.cV, .int .i64 S.scale, .int .i64 S.wide, .slice p.AE S.lev.length p.cE, .slice p.AN S.neg.length p.cN] 32) = w3 := ⟨_, rfl⟩
      rw [hw3] at k3 BR3
      obtain ⟨⟨g0, g1, g2, g3, g4, g5, g6, g7⟩, n0, n1, n2, n3, n4, n5, n6, n7⟩ := BR3.eight
      clear BR2 BR3 R2 HO
      go_wp2_with fail
      refine bodyPost_ret (v := .tuple #[encT zeroS zeroP, .slice none 0 0, .int .i64 E]) (by simp [results, Tryz.results13, go_sem, zeroS, zeroP, g0, g1, g2, g3, g4, g5, g6, g7]) rfl (OwnRo.zero ?_)
      exact (((((((k3.setCell (by simp) _).setCell (by simp) _).setCell (by simp) _).setCell (by simp) _).setCell (by simp) _).setCell (by simp) _).setCell (by simp) _).setCell (by simp) _
  · obtain ⟨e1, eS, eV⟩ := prd_err1 (sch := sch) (k := k) (wide := wide) (s := s) (n := n) h1
    rw [e1, eS, eV]
    obtain ⟨U, hU⟩ : ∃ U, prdU g l = U := ⟨_, rfl⟩
    rw [hU] at CA
    obtain ⟨E, hE⟩ : ∃ E, opE (· + ·) g l = E := ⟨_, rfl⟩
    rw [hE] at CA h1 ⊢
    have hne : (E != 0) = true := by simpa using h1
    clear e1 h1 eS eV hU hE uU ug ul un rg rl rn CL CP
    go_enter Tryz.func13, Tryz.ntmps13
    go_wp2_with fail
    have BH := (BoxL.new w [.int .i64 sch, .int .i64 k, .int .i64 wide] 23).below (sg_up _ (.cells #[.int .i64 0, .int .i64 0, .slice none 0 0, .slice none 0 0, .int .i64 0, .int .i64 0, .slice none 0 0, .slice none 0 0] 32)) (by simp)
    have BR := box2 w (.cells #[.int .i64 sch, .int .i64 k, .int .i64 wide] 23) [.int .i64 0, .int .i64 0, .slice none 0 0, .slice none 0 0, .int .i64 0, .int .i64 0, .slice none 0 0, .slice none 0 0] 32
    refine (CA.out _ (by go_grown)).mono ?_
    rintro _ w1 ⟨A1, c1, rfl, o1, hb⟩
    have BH1 := BH.below hb (by first | omega | (simp; done) | (simp; omega))
    have BR1 := BR.below hb (by simp)
    have k1 : Below w.heap.size w w1 := Below.trans (by go_grown) (hb.mono (by first | omega | (simp; done) | (simp; omega)))
    have hg1 : w.heap.size + 1 < w1.heap.size := by have := hb.size; simp at this; omega
    have R1 := hid (own_rd o1)
    obtain ⟨⟨g0, g1, g2, g3, g4, g5, g6, g7⟩, n0, n1, n2, n3, n4, n5, n6, n7⟩ := BR1.eight
    have HR1 := hid BR1
    have f0 := (BH1 0 _ rfl).1
    have f1 := (BH1 1 _ rfl).1
    have f2 := (BH1 2 _ rfl).1
    clear BH BR hb CA BH1 BR1 o1
    clear HR1 R1 f0 f1 f2
    go_wp2_with fail
    refine bodyPost_ret (v := .tuple #[encT zeroS zeroP, .slice none 0 0, .int .i64 E]) (by simp [results, Tryz.results13, go_sem, zeroS, zeroP, g0, g1, g2, g3, g4, g5, g6, g7]) rfl (OwnRo.zero ?_)
    exact (((((((k1.setCell (by simp) _).setCell (by simp) _).setCell (by simp) _).setCell (by simp) _).setCell (by simp) _).setCell (by simp) _).setCell (by simp) _).setCell (by simp) _

theorem pn_Meets {A : Option Addr} {c : Nat} (sch k wide : Int) (hsc : I64 sch) (v : List Int) (uv : ∀ x ∈ v, I64 x) (hl : v.length ≤ 9223372036854775807) (s : SentV) (p : SentP) (hn : lnS 100000 s) (hw : wfS s) (w : World) (rv : Rd (Value.int .i64) w w.heap.size A v) (ra : RdS w w.heap.size s p) :
    Calls Tryz.prog 26 #[.agg #[.int .i64 sch, .int .i64 k, .int .i64 wide], .slice A v.length c, encT s p] w fun e w' => e = .returned (.bool (mtB sch k wide v s)) ∧ Below w.heap.size w w' := by
  obtain ⟨AL, cL, AV, cV, AE, cE, AN, cN⟩ := p
  have CC := fun W => pn_Check sch k wide v.length hsc W
  have CM := fun W (h : Below w.heap.size w W) => show Calls Tryz.prog 42 #[(.agg #[.int .i64 s.sch, .int .i64 s.dim, .slice AL s.L.length cL, .slice AV s.V.length cV, .int .i64 s.scale, .int .i64 s.wide, .slice AE s.lev.length cE, .slice AN s.neg.length cN])] W fun e w' => e = .returned (.bool (mayB s)) ∧ Below W.heap.size W w' from fs_May s ⟨AL, cL, AV, cV, AE, cE, AN, cN⟩ hn hw W (ra.on h)
  by_cases he : howE sch k wide v.length = 0
  · rw [he] at CC
    by_cases hm : mayB s = true
    · rw [hm] at CM
      by_cases hs : s.sch = sch
      · have hP := howE_ok.1 he
        have hv4 : v.length ≤ 4096 := by unfold howP at hP; omega
        have hk : I64 k := by unfold howP at hP; unfold I64; omega
        have hq : sch = 0 ∨ sch = 1 ∨ sch = 2 ∨ sch = 3 := by unfold howP at hP; omega
        have hvl := hn.2.1
        rw [mt_in he hm hs]
        rcases hq with rfl | rfl | rfl | rfl
        · rw [show (if (0 : Int) = 1 then isTB v k s else if (0 : Int) = 2 then (decide (s.wide = wide) && nearB v s) else if (0 : Int) = 3 then isGB v s else eqB s.V v) = eqB s.V v by simp]
          exact pm_0 k wide s AL AV AE AN cL cV cE cN w hl _ CC CM (fun W h => wi_Dense 0 k wide v s ⟨AL, cL, AV, cV, AE, cE, AN, cN⟩ _ W (fun V hV => Same_any (A := AV) (B := A) (c := cV) (d := c) s.V v (by omega) hl V (((ra.on h).on hV).2.1) ((rv.on h).on hV))) (by simpa using hs)
        · rw [show (if (1 : Int) = 1 then isTB v k s else if (1 : Int) = 2 then (decide (s.wide = wide) && nearB v s) else if (1 : Int) = 3 then isGB v s else eqB s.V v) = isTB v k s by simp]
          have hn5 : lnS 5000 s := by have h := may_len (mayB_iff.1 hm); exact ⟨by omega, by omega, by omega, by omega⟩
          exact pm_1 k wide s AL AV AE AN cL cV cE cN w hl _ CC CM (fun W h => wi_Top 1 k wide v s ⟨AL, cL, AV, cV, AE, cE, AN, cN⟩ _ W (fun V hV => tk_Is (A := A) (c := c) k hk v uv (by omega) s ⟨AL, cL, AV, cV, AE, cE, AN, cN⟩ hn5 V ((rv.on h).on hV) ((ra.on h).on hV))) (by simpa using hs)
        · rw [show (if (2 : Int) = 1 then isTB v k s else if (2 : Int) = 2 then (decide (s.wide = wide) && nearB v s) else if (2 : Int) = 3 then isGB v s else eqB s.V v) = (decide (s.wide = wide) && nearB v s) by simp]
          exact pm_2 k wide s AL AV AE AN cL cV cE cN w hl _ CC CM (fun W h => wi_Level 2 k wide v s ⟨AL, cL, AV, cV, AE, cE, AN, cN⟩ _ W (fun V hV => qp_Near (A := A) (c := c) v uv hl s ⟨AL, cL, AV, cV, AE, cE, AN, cN⟩ hn hw V ((rv.on h).on hV) ((ra.on h).on hV))) (by simpa using hs)
        · rw [show (if (3 : Int) = 1 then isTB v k s else if (3 : Int) = 2 then (decide (s.wide = wide) && nearB v s) else if (3 : Int) = 3 then isGB v s else eqB s.V v) = isGB v s by simp]
          exact pm_3 k wide s AL AV AE AN cL cV cE cN w hl _ CC CM (fun W h => wi_Sign 3 k wide v s ⟨AL, cL, AV, cV, AE, cE, AN, cN⟩ _ W (fun V hV => sn_Is (A := A) (c := c) v uv hl s ⟨AL, cL, AV, cV, AE, cE, AN, cN⟩ hn V ((rv.on h).on hV) ((ra.on h).on hV))) (by simpa using hs)
      · rw [mt_no (fun h => hs h.2.2)]
        exact pm_sch sch k wide s AL AV AE AN cL cV cE cN w hl CC CM (beq_eq_false_iff_ne.2 hs)
    · rw [mt_no (fun h => hm h.2.1)]
      rw [show mayB s = false by simpa using hm] at CM
      exact pm_may sch k wide s AL AV AE AN cL cV cE cN w hl CC CM
  · rw [mt_no (fun h => he h.1)]
    rw [show howE sch k wide v.length = 1 by unfold howE at he ⊢; split at he <;> simp_all] at CC
    exact pm_chk sch k wide s AL AV AE AN cL cV cE cN w hl CC
end Go.Proofs.YtecgbelgoomneaaGreat
