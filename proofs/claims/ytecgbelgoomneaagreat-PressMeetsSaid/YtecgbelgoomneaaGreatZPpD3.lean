
/- ZPpD3: texts joined: PpD3. -/
import Derived.Test.YtecgbelgoomneaaGreatZi
import Derived.Test.YtecgbelgoomneaaGreatZPpC
import Derived.Test.YtecgbelgoomneaaGreatZa
/- A vector pressed by the program: the way of signs. -/
namespace Go.Proofs.YtecgbelgoomneaaGreat
open Go.RowKit
set_option maxHeartbeats 4000000
set_option maxRecDepth 100000
set_option linter.unusedVariables false
theorem pn_Press3 {A B : Option Addr} {c d : Nat} (k wide : Int) (v n : List Int) (s : Nat) (S : SentV) (E : Int) (h4 : v.length ≤ 4096) (w : World)
    (hh : howE 3 k wide v.length = 0)
    (CP0 : ∀ W, Below w.heap.size w W → Calls Tryz.prog 79 #[.agg #[.int .i64 3, .int .i64 k, .int .i64 wide], .slice A v.length c, .int .u64 (s : Int), .slice B n.length d] W (OwnSS W.heap.size S E W)) :
    Calls Tryz.prog 11 #[.agg #[.int .i64 3, .int .i64 k, .int .i64 wide], .slice A v.length c, .int .u64 (s : Int), .slice B n.length d] w (OwnSS w.heap.size S E w) := by
  have CK := hid (fun W => Check_any A v.length c (by omega) W)
  have CC := hid (fun W => pn_Check 3 k wide v.length (by decide) W)
  have CW := hid (fun W => wy_ways W)
  have CP := hid CP0
  rw [hh] at CC
  rw [show oneE v.length = 0 from if_neg (by omega)] at CK
  clear hh CP0
  have BH := (BoxL.new w [.int .i64 3, .int .i64 k, .int .i64 wide] 23).below (sg_up _ (.cells #[.int .i64 0, .int .i64 0, .slice none 0 0, .slice none 0 0, .int .i64 0, .int .i64 0, .slice none 0 0, .slice none 0 0] 32)) (by simp)
  have BR := box2 w (.cells #[.int .i64 3, .int .i64 k, .int .i64 wide] 23) [.int .i64 0, .int .i64 0, .slice none 0 0, .slice none 0 0, .int .i64 0, .int .i64 0, .slice none 0 0, .slice none 0 0] 32
  have HH := hid BH
  have HR := hid BR
  have hfd : ∀ V : World, (Instr.field 68 wyF3 1).run Tryz.prog V = .ok (.func (.func 79) #[] #[]) V := fun _ => by kernel_rfl
  clear BH BR
  go_enter Tryz.func11, Tryz.ntmps11
  go_wp2_with fail
  refine (CK.out _).mono ?_
  rintro _ _ ⟨rfl, rfl⟩
  have BH := HH.out
  have f0 := (BH 0 _ rfl).1
  have f1 := (BH 1 _ rfl).1
  have f2 := (BH 2 _ rfl).1
  simp only [List.toArray] at f0 f1 f2
  clear BH CK
  go_wp2_with fail
  refine (CC.out _).mono ?_
  rintro _ w1 ⟨rfl, hb⟩
  have BH1 := HH.out.below hb (by first | omega | (simp; done) | (simp; omega))
  have BR1 := HR.out.below hb (by simp)
  have k1 : Below w.heap.size w w1 := Below.trans (by go_grown) (hb.mono (by first | omega | (simp; done) | (simp; omega)))
  have hg1 : w.heap.size + 1 < w1.heap.size := by have := hb.size; simp at this; omega
  clear f0 f1 f2 HH HR hb CC
  have f0 := (BH1 0 _ rfl).1
  have f1 := (BH1 1 _ rfl).1
  have f2 := (BH1 2 _ rfl).1
  have HB := hid BH1
  have HR := hid BR1
  clear BH1 BR1
  go_wp2_with fail
  go_region_law (first | (go_simp; go_at_call 34; refine (CW.out _).mono ?_; rintro _ w2 ⟨rfl, hb2, hlt2, hf2⟩
                          have q2 : Below w1.heap.size w1 w2 := Below.trans ((Below.refl _ _).drew) hb2
                          have e0 := (HB.out.below q2 (by omega) 0 _ rfl).1
                          have e1 := (HB.out.below q2 (by omega) 1 _ rfl).1
                          have e2 := (HB.out.below q2 (by omega) 2 _ rfl).1
                          have l2 : (Instr.lookup 69 (.map (some w1.heap.size)) (.int .i64 3) false).run Tryz.prog w2 = .ok wyF3 w2 := (hf2 w2 rfl).l3)
                       | (go_simp; go_at_call 79; refine (CP.out _ (by exact k1.trans (q2.mono k1.size))).mono ?_; rintro _ w3 ⟨p, rfl, ho, hb3⟩
                          have q3 : Below w1.heap.size w1 w3 := q2.trans (hb3.mono q2.size)
                          obtain ⟨⟨g0, g1, g2, g3, g4, g5, g6, g7⟩, n0, n1, n2, n3, n4, n5, n6, n7⟩ := (HR.out.below q3 (by omega)).eight) | fail)
  all_goals
    have HO := hid (OwnL.base ho (show w.heap.size + 2 ≤ w2.heap.size by have := q2.size; omega))
    have k3 : Below w.heap.size w w3 := k1.trans (q3.mono k1.size)
    clear ho hb3 q3 q2 CP CW HB HR f0 f1 f2 e0 e1 e2 l2 hfd hf2 hb2 hlt2
    go_wp2_with fail
    refine bodyPost_ret (v := .tuple #[encT S p, .int .i64 E]) (by simp [results, Tryz.results11, go_sem, g0, g1, g2, g3, g4, g5, g6, g7]) rfl ⟨p, rfl, ?_, ?_⟩
    · have hz : w.heap.size + 1 < w.heap.size + 2 := by omega
      exact (((((((((HO.out).set hz _).set hz _).set hz _).set hz _).set hz _).set hz _).set hz _).set hz _).base (by omega)
    · exact ((((((((k3.setCell (by simp) _).setCell (by simp) _).setCell (by simp) _).setCell (by simp) _).setCell (by simp) _).setCell (by simp) _).setCell (by simp) _).setCell (by simp) _)
end Go.Proofs.YtecgbelgoomneaaGreat
