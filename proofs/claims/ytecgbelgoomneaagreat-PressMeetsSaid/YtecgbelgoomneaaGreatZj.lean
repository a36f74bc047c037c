
/- Zj: texts joined: PpD. -/
import Derived.Test.YtecgbelgoomneaaGreatZPpD0
import Derived.Test.YtecgbelgoomneaaGreatZPpD1
import Derived.Test.YtecgbelgoomneaaGreatZPpD2
import Derived.Test.YtecgbelgoomneaaGreatZPpD3
import Derived.Test.YtecgbelgoomneaaGreatZPpE0
import Derived.Test.YtecgbelgoomneaaGreatZPpE1
import Derived.Test.YtecgbelgoomneaaGreatZd
import Derived.Test.YtecgbelgoomneaaGreatZf
import Derived.Test.YtecgbelgoomneaaGreatZQpF
import Derived.Test.YtecgbelgoomneaaGreatZe
/- A vector pressed, a vector loosened: the program's. -/
namespace Go.Proofs.YtecgbelgoomneaaGreat
open Go.RowKit
set_option maxHeartbeats 4000000
set_option maxRecDepth 100000
set_option linter.unusedVariables false
theorem pn_Press {A B : Option Addr} {c d : Nat} (sch k wide : Int) (hsc : I64 sch) (hwd : I64 wide) (v : List Int) (uv : ∀ x ∈ v, I64 x) (hl : v.length ≤ 9223372036854775807) (s : Nat) (hs : s < 2 ^ 64) (n : List Int) (un : ∀ x ∈ n, I64 x) (hn : n.length ≤ 1000) (w : World) (ra : Rd (Value.int .i64) w w.heap.size A v) (rb : Rd (Value.int .i64) w w.heap.size B n) :
    Calls Tryz.prog 11 #[.agg #[.int .i64 sch, .int .i64 k, .int .i64 wide], .slice A v.length c, .int .u64 (s : Int), .slice B n.length d] w (OwnSS w.heap.size (ppS sch k wide v s n) (ppE sch k wide v) w) := by
  by_cases h4 : 4096 < v.length
  · have he : ppE sch k wide v = 3 := if_pos h4
    have hS : ppS sch k wide v s n = zeroS := if_neg (by rw [he]; decide)
    rw [he, hS]
    have CK := hid (fun W => Check_any A v.length c hl W)
    rw [show oneE v.length = 3 from if_pos h4] at CK
    clear he hS uv un ra rb
    go_enter Tryz.func11, Tryz.ntmps11
    go_wp2_with fail
    refine (CK.out _).mono ?_
    rintro _ _ ⟨rfl, rfl⟩
    clear CK
    go_wp2_with fail
    refine bodyPost_ret (v := .tuple #[encT zeroS zeroP, .int .i64 3]) (by simp [results, Tryz.results11, go_sem, zeroS, zeroP]) rfl ⟨zeroP, rfl, OwnL.zero _ _, ?_⟩
    go_grown
  · by_cases he : howE sch k wide v.length = 0
    · obtain ⟨e1, e2⟩ := pp_way (s := s) (n := n) h4 he
      rw [e1, e2]
      have hP := howE_ok.1 he
      have hv4 : v.length ≤ 4096 := by omega
      have hq : sch = 0 ∨ sch = 1 ∨ sch = 2 ∨ sch = 3 := by unfold howP at hP; omega
      have hk : I64 k := by unfold howP at hP; unfold I64; omega
      rcases hq with rfl | rfl | rfl | rfl
      · rw [show wayE 0 k wide v = 0 by unfold wayE; simp, show wayS 0 k wide v s n = denS v by unfold wayS; simp]
        exact pn_Press0 k wide v n s _ _ hv4 w he (fun W h => wp_Dense 0 k wide v n s hv4 W (ra.on h))
      · rw [show wayE 1 k wide v = prsE v k by unfold wayE; simp, show wayS 1 k wide v s n = prsS v k by unfold wayS; simp]
        exact pn_Press1 k wide v n s _ _ hv4 w he (fun W h => wp_Top 1 k wide v n s _ _ W (fun V hV => (tk_Press (A := A) (c := c) k hk v uv (by omega) V ((ra.on h).on hV)).mono (by
          rintro e w' ⟨A1, c1, A2, c2, h1, h2, h3, o1, o2, hb⟩
          exact ⟨⟨A1, c1, A2, c2, none, 0, none, 0⟩, h1, ownt_l h2 h3 o1 o2, hb⟩)))
      · rw [show wayE 2 k wide v = prqE v wide by unfold wayE; simp, show wayS 2 k wide v s n = prqS v wide s n by unfold wayS; simp]
        exact pn_Press2 k wide v n s _ _ hv4 w he (fun W h => wp_Level 2 k wide v n s _ _ W (fun V hV => (qp_Press (A := A) (B := B) (c := c) (d := d) v uv hl wide hwd s hs n un hn V ((ra.on h).on hV) ((rb.on h).on hV)).mono (by
          rintro e w' ⟨A1, c1, A2, c2, h1, h2, h3, o1, o2, _, hb⟩
          exact ⟨⟨none, 0, none, 0, A1, c1, A2, c2⟩, h1, ownl_l h2 h3 o1 o2, hb⟩)))
      · rw [show wayE 3 k wide v = mnE v by unfold wayE; simp, show wayS 3 k wide v s n = sgS v by unfold wayS; simp]
        exact pn_Press3 k wide v n s _ _ hv4 w he (fun W h => wp_Sign 3 k wide v n s _ _ W (fun V hV => (sn_Press (A := A) (c := c) v uv hl V ((ra.on h).on hV)).mono (by
          rintro e w' ⟨A1, c1, h1, h2, h3, h4, o1, hb⟩
          exact ⟨⟨none, 0, none, 0, none, 0, A1, c1⟩, h1, owng_l h2 h3 h4 o1, hb⟩)))
    · have hE1 : howE sch k wide v.length = 1 := by unfold howE at he ⊢; split at he <;> simp_all
      have he2 : ppE sch k wide v = 1 := by unfold ppE; rw [if_neg h4, if_pos he]
      have hS : ppS sch k wide v s n = zeroS := if_neg (by rw [he2]; decide)
      rw [he2, hS]
      have CK := hid (fun W => Check_any A v.length c hl W)
      rw [show oneE v.length = 0 from if_neg (by omega)] at CK
      have CC := hid (fun W => pn_Check sch k wide v.length hsc W)
      rw [hE1] at CC
      clear he he2 hS hE1 uv un ra rb
      have BH := (BoxL.new w [.int .i64 sch, .int .i64 k, .int .i64 wide] 23).below (sg_up _ (.cells #[.int .i64 0, .int .i64 0, .slice none 0 0, .slice none 0 0, .int .i64 0, .int .i64 0, .slice none 0 0, .slice none 0 0] 32)) (by simp)
      have BR := box2 w (.cells #[.int .i64 sch, .int .i64 k, .int .i64 wide] 23) [.int .i64 0, .int .i64 0, .slice none 0 0, .slice none 0 0, .int .i64 0, .int .i64 0, .slice none 0 0, .slice none 0 0] 32
      have HH := hid BH
      have HR := hid BR
      clear BH BR
      go_enter Tryz.func11, Tryz.ntmps11
      go_wp2_with fail
      refine (CK.out _).mono ?_
      rintro _ _ ⟨rfl, rfl⟩
      have BH := HH.out
      have f0 := (BH 0 _ rfl).1
      have f1 := (BH 1 _ rfl).1
      have f2 := (BH 2 _ rfl).1
      simp only [List.toArray] at f0 f1 f2
      clear BH CK
      go_wp2_with fail
      refine (CC.out _).mono ?_
      rintro _ w1 ⟨rfl, hb⟩
      have k1 : Below w.heap.size w w1 := Below.trans (by go_grown) (hb.mono (by first | omega | (simp; done) | (simp; omega)))
      obtain ⟨⟨g0, g1, g2, g3, g4, g5, g6, g7⟩, n0, n1, n2, n3, n4, n5, n6, n7⟩ := (HR.out.below hb (by simp)).eight
      clear HR HH hb CC f0 f1 f2
      go_wp2_with fail
      refine bodyPost_ret (v := .tuple #[encT zeroS zeroP, .int .i64 1]) (by simp [results, Tryz.results11, go_sem, zeroS, zeroP, g0, g1, g2, g3, g4, g5, g6, g7]) rfl ⟨zeroP, rfl, OwnL.zero _ _, ?_⟩
      exact ((((((((k1.setCell (by simp) _).setCell (by simp) _).setCell (by simp) _).setCell (by simp) _).setCell (by simp) _).setCell (by simp) _).setCell (by simp) _).setCell (by simp) _)
theorem pn_Loosen (s : SentV) (p : SentP) (hn : lnS 100000 s) (hw : wfS s) (w : World) (ra : RdS w w.heap.size s p) :
    Calls Tryz.prog 20 #[encT s p] w (OwnE 2 .i64 w.heap.size (ploV s) (ploE s) w) := by
  by_cases hm : mayB s = true
  · obtain ⟨p0, p1, p2, p3⟩ := plo_by hm
    rw [show ploE s = 0 from ploE_ok.2 hm]
    rcases may_sch hm with h | h | h | h
    · rw [p0 h]
      exact pn_Loosen0 s p _ hn hw hm h w ra (fun W hW => wl_Dense s p hn W (ra.on hW))
    · rw [p1 h]
      exact pn_Loosen1 s p _ hn hw hm h w ra (fun W hW => wl_Top s p hn hw hm h W (ra.on hW))
    · obtain ⟨q1, q2⟩ := p2 h
      rw [q1]
      exact pn_Loosen2 s p _ hn hw hm h w ra (fun W hW => by have := qp_Loosen s p hn hw W (ra.on hW); rwa [q2] at this)
    · obtain ⟨q1, q2⟩ := p3 h
      rw [q1]
      exact pn_Loosen3 s p _ hn hw hm h w ra (fun W hW => by have := sn_Loosen s p hn hw W (ra.on hW); rwa [q2] at this)
  · obtain ⟨AL, cL, AV, cV, AE, cE, AN, cN⟩ := p
    have CM := hid (fun W (h : Below w.heap.size w W) => show Calls Tryz.prog 42 #[(.agg #[.int .i64 s.sch, .int .i64 s.dim, .slice AL s.L.length cL, .slice AV s.V.length cV, .int .i64 s.scale, .int .i64 s.wide, .slice AE s.lev.length cE, .slice AN s.neg.length cN])] W fun e w' => e = .returned (.bool (mayB s)) ∧ Below W.heap.size W w' from fs_May s ⟨AL, cL, AV, cV, AE, cE, AN, cN⟩ hn hw W (ra.on h))
    show Calls Tryz.prog 20 #[(.agg #[.int .i64 s.sch, .int .i64 s.dim, .slice AL s.L.length cL, .slice AV s.V.length cV, .int .i64 s.scale, .int .i64 s.wide, .slice AE s.lev.length cE, .slice AN s.neg.length cN])] w _
    have hE : ploE s = 1 := if_neg hm
    have hV : ploV s = [] := if_neg hm
    have hm2 : mayB s = false := by simpa using hm
    rw [hE, hV]
    rw [hm2] at CM
    clear hE hV hm hm2 ra hn hw
    go_enter Tryz.func20, Tryz.ntmps20
    go_wp2_with fail
    refine (CM.out _ (by go_grown)).mono ?_
    rintro _ w1 ⟨rfl, hb⟩
    have k1 : Below w.heap.size w w1 := Below.trans (by go_grown) (hb.mono (by simp))
    go_wp2_with fail
    go_ret2
    exact .nil k1
end Go.Proofs.YtecgbelgoomneaaGreat
