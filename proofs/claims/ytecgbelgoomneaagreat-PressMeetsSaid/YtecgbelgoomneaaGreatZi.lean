
/- Zi: texts joined: PpB. -/
import Derived.Test.YtecgbelgoomneaaGreatZPsB
import Derived.Test.YtecgbelgoomneaaGreatZb
/- What the program does with vectors of each way: pressed, loosened, whether they are pressed so. -/
namespace Go.Proofs.YtecgbelgoomneaaGreat
open Go.RowKit
set_option maxHeartbeats 4000000
set_option maxRecDepth 100000
set_option linter.unusedVariables false
theorem wp_Dense {A B : Option Addr} {c d : Nat} (sch k wide : Int) (v n : List Int) (s : Nat) (hv : v.length ≤ 4096) (w : World) (ra : Rd (Value.int .i64) w w.heap.size A v) :
    Calls Tryz.prog 68 #[.agg #[.int .i64 sch, .int .i64 k, .int .i64 wide], .slice A v.length c, .int .u64 (s : Int), .slice B n.length d] w (OwnSS w.heap.size (denS v) 0 w) := by
  have CP := hid (fun W (h : Below w.heap.size w W) => show Calls Tryz.prog 118 #[.slice A v.length c] W fun e w' => ∃ A c, e = .returned (.slice A v.length c) ∧ w'.ownsRow W.heap.size 2 1 (.slice A v.length c) v.length (v.map (Value.int .i64)) ∧ Below W.heap.size W w' from Clone_any (A := A) (c := c) v (by omega) W (ra.on h))
  clear ra
  have BH := (BoxL.new w [.int .i64 sch, .int .i64 k, .int .i64 wide] 23).below (sg_up _ (.cells #[.int .i64 0, .int .i64 0, .slice none 0 0, .slice none 0 0, .int .i64 0, .int .i64 0, .slice none 0 0, .slice none 0 0] 32)) (by simp)
  have BR := box2 w (.cells #[.int .i64 sch, .int .i64 k, .int .i64 wide] 23) [.int .i64 0, .int .i64 0, .slice none 0 0, .slice none 0 0, .int .i64 0, .int .i64 0, .slice none 0 0, .slice none 0 0] 32
  have HR := hid BR
  have f0 := (BH 0 _ rfl).1
  have f1 := (BH 1 _ rfl).1
  have f2 := (BH 2 _ rfl).1
  simp only [List.toArray] at f0 f1 f2
  clear BH BR
  go_enter Tryz.func68, Tryz.ntmps68
  go_wp2_with fail
  clear f0 f1 f2
  refine (CP.out _ (by go_grown)).mono ?_
  rintro _ w2 ⟨A', c', rfl, ho, hb2⟩
  have HO := hid (own_base ho (show w.heap.size + 2 ≤ _ by simp))
  have k2 : Below w.heap.size w w2 := Below.trans (by go_grown) (hb2.mono (by simp; omega))
  obtain ⟨⟨g0, g1, g2, g3, g4, g5, g6, g7⟩, n0, n1, n2, n3, n4, n5, n6, n7⟩ := (HR.out.below hb2 (by simp)).eight
  clear ho hb2 CP HR
  go_wp2_with fail
  refine bodyPost_ret (v := .tuple #[encT (denS v) ⟨none, 0, A', c', none, 0, none, 0⟩, .int .i64 0]) (by simp [results, Tryz.results68, go_sem, denS, g0, g1, g2, g3, g4, g5, g6, g7]) rfl ⟨⟨none, 0, A', c', none, 0, none, 0⟩, rfl, ?_, ?_⟩
  · have hz : w.heap.size + 1 < w.heap.size + 2 := by omega
    have hO2 : OwnL w2 (w.heap.size + 2) (denS v) ⟨none, 0, A', c', none, 0, none, 0⟩ := ⟨own_nil _ _ _, HO.out, own_nil _ _ _, own_nil _ _ _⟩
    exact (((((((((hO2).set hz _).set hz _).set hz _).set hz _).set hz _).set hz _).set hz _).set hz _).base (by omega)
  · exact (((((((k2.setCell (by simp) _).setCell (by simp) _).setCell (by simp) _).setCell (by simp) _).setCell (by simp) _).setCell (by simp) _).setCell (by simp) _).setCell (by simp) _
theorem wp_Top {A B : Option Addr} {c d : Nat} (sch k wide : Int) (v n : List Int) (s : Nat) (S : SentV) (E : Int) (w : World)
    (CP0 : ∀ W, Below w.heap.size w W → Calls Tryz.prog 119 #[.int .i64 k, .slice A v.length c] W fun e w' => ∃ p : SentP, e = .returned (.tuple #[encT S p, .int .i64 E]) ∧ OwnL w' W.heap.size S p ∧ Below W.heap.size W w') :
    Calls Tryz.prog 72 #[.agg #[.int .i64 sch, .int .i64 k, .int .i64 wide], .slice A v.length c, .int .u64 (s : Int), .slice B n.length d] w (OwnSS w.heap.size S E w) := by
  have CP := hid CP0
  clear CP0
  have BH := (BoxL.new w [.int .i64 sch, .int .i64 k, .int .i64 wide] 23).below (sg_up _ (.cells #[.int .i64 0, .int .i64 0, .slice none 0 0, .slice none 0 0, .int .i64 0, .int .i64 0, .slice none 0 0, .slice none 0 0] 32)) (by simp)
  have BR := box2 w (.cells #[.int .i64 sch, .int .i64 k, .int .i64 wide] 23) [.int .i64 0, .int .i64 0, .slice none 0 0, .slice none 0 0, .int .i64 0, .int .i64 0, .slice none 0 0, .slice none 0 0] 32
  have HR := hid BR
  have f0 := (BH 0 _ rfl).1
  have f1 := (BH 1 _ rfl).1
  have f2 := (BH 2 _ rfl).1
  simp only [List.toArray] at f0 f1 f2
  clear BH BR
  go_enter Tryz.func72, Tryz.ntmps72
  go_wp2_with fail
  clear f0 f1 f2
  refine (CP.out _ (by go_grown)).mono ?_
  rintro _ w2 ⟨p, rfl, ho, hb2⟩
  have HO := hid (ho.base (show w.heap.size + 2 ≤ _ by simp))
  have k2 : Below w.heap.size w w2 := Below.trans (by go_grown) (hb2.mono (by simp; omega))
  obtain ⟨⟨g0, g1, g2, g3, g4, g5, g6, g7⟩, n0, n1, n2, n3, n4, n5, n6, n7⟩ := (HR.out.below hb2 (by simp)).eight
  clear ho hb2 CP HR
  go_wp2_with fail
  refine bodyPost_ret (v := .tuple #[encT S p, .int .i64 E]) (by simp [results, Tryz.results72, go_sem, g0, g1, g2, g3, g4, g5, g6, g7]) rfl ⟨p, rfl, ?_, ?_⟩
  · have hz : w.heap.size + 1 < w.heap.size + 2 := by omega
    exact (((((((((HO.out).set hz _).set hz _).set hz _).set hz _).set hz _).set hz _).set hz _).set hz _).base (by omega)
  · exact (((((((k2.setCell (by simp) _).setCell (by simp) _).setCell (by simp) _).setCell (by simp) _).setCell (by simp) _).setCell (by simp) _).setCell (by simp) _).setCell (by simp) _
theorem wp_Level {A B : Option Addr} {c d : Nat} (sch k wide : Int) (v n : List Int) (s : Nat) (S : SentV) (E : Int) (w : World)
    (CP0 : ∀ W, Below w.heap.size w W → Calls Tryz.prog 121 #[.slice A v.length c, .int .i64 wide, .int .u64 (s : Int), .slice B n.length d] W fun e w' => ∃ p : SentP, e = .returned (.tuple #[encT S p, .int .i64 E]) ∧ OwnL w' W.heap.size S p ∧ Below W.heap.size W w') :
    Calls Tryz.prog 76 #[.agg #[.int .i64 sch, .int .i64 k, .int .i64 wide], .slice A v.length c, .int .u64 (s : Int), .slice B n.length d] w (OwnSS w.heap.size S E w) := by
  have CP := hid CP0
  clear CP0
  have BH := (BoxL.new w [.int .i64 sch, .int .i64 k, .int .i64 wide] 23).below (sg_up _ (.cells #[.int .i64 0, .int .i64 0, .slice none 0 0, .slice none 0 0, .int .i64 0, .int .i64 0, .slice none 0 0, .slice none 0 0] 32)) (by simp)
  have BR := box2 w (.cells #[.int .i64 sch, .int .i64 k, .int .i64 wide] 23) [.int .i64 0, .int .i64 0, .slice none 0 0, .slice none 0 0, .int .i64 0, .int .i64 0, .slice none 0 0, .slice none 0 0] 32
  have HR := hid BR
  have f0 := (BH 0 _ rfl).1
  have f1 := (BH 1 _ rfl).1
  have f2 := (BH 2 _ rfl).1
  simp only [List.toArray] at f0 f1 f2
  clear BH BR
  go_enter Tryz.func76, Tryz.ntmps76
  go_wp2_with fail
  clear f0 f1 f2
  refine (CP.out _ (by go_grown)).mono ?_
  rintro _ w2 ⟨p, rfl, ho, hb2⟩
  have HO := hid (ho.base (show w.heap.size + 2 ≤ _ by simp))
  have k2 : Below w.heap.size w w2 := Below.trans (by go_grown) (hb2.mono (by simp; omega))
  obtain ⟨⟨g0, g1, g2, g3, g4, g5, g6, g7⟩, n0, n1, n2, n3, n4, n5, n6, n7⟩ := (HR.out.below hb2 (by simp)).eight
  clear ho hb2 CP HR
  go_wp2_with fail
  refine bodyPost_ret (v := .tuple #[encT S p, .int .i64 E]) (by simp [results, Tryz.results76, go_sem, g0, g1, g2, g3, g4, g5, g6, g7]) rfl ⟨p, rfl, ?_, ?_⟩
  · have hz : w.heap.size + 1 < w.heap.size + 2 := by omega
    exact (((((((((HO.out).set hz _).set hz _).set hz _).set hz _).set hz _).set hz _).set hz _).set hz _).base (by omega)
  · exact (((((((k2.setCell (by simp) _).setCell (by simp) _).setCell (by simp) _).setCell (by simp) _).setCell (by simp) _).setCell (by simp) _).setCell (by simp) _).setCell (by simp) _
theorem wp_Sign {A B : Option Addr} {c d : Nat} (sch k wide : Int) (v n : List Int) (s : Nat) (S : SentV) (E : Int) (w : World)
    (CP0 : ∀ W, Below w.heap.size w W → Calls Tryz.prog 125 #[.slice A v.length c] W fun e w' => ∃ p : SentP, e = .returned (.tuple #[encT S p, .int .i64 E]) ∧ OwnL w' W.heap.size S p ∧ Below W.heap.size W w') :
    Calls Tryz.prog 79 #[.agg #[.int .i64 sch, .int .i64 k, .int .i64 wide], .slice A v.length c, .int .u64 (s : Int), .slice B n.length d] w (OwnSS w.heap.size S E w) := by
  have CP := hid CP0
  clear CP0
  have BH := (BoxL.new w [.int .i64 sch, .int .i64 k, .int .i64 wide] 23).below (sg_up _ (.cells #[.int .i64 0, .int .i64 0, .slice none 0 0, .slice none 0 0, .int .i64 0, .int .i64 0, .slice none 0 0, .slice none 0 0] 32)) (by simp)
  have BR := box2 w (.cells #[.int .i64 sch, .int .i64 k, .int .i64 wide] 23) [.int .i64 0, .int .i64 0, .slice none 0 0, .slice none 0 0, .int .i64 0, .int .i64 0, .slice none 0 0, .slice none 0 0] 32
  have HR := hid BR
  have f0 := (BH 0 _ rfl).1
  have f1 := (BH 1 _ rfl).1
  have f2 := (BH 2 _ rfl).1
  simp only [List.toArray] at f0 f1 f2
  clear BH BR
  go_enter Tryz.func79, Tryz.ntmps79
  go_wp2_with fail
  clear f0 f1 f2
  refine (CP.out _ (by go_grown)).mono ?_
  rintro _ w2 ⟨p, rfl, ho, hb2⟩
  have HO := hid (ho.base (show w.heap.size + 2 ≤ _ by simp))
  have k2 : Below w.heap.size w w2 := Below.trans (by go_grown) (hb2.mono (by simp; omega))
  obtain ⟨⟨g0, g1, g2, g3, g4, g5, g6, g7⟩, n0, n1, n2, n3, n4, n5, n6, n7⟩ := (HR.out.below hb2 (by simp)).eight
  clear ho hb2 CP HR
  go_wp2_with fail
  refine bodyPost_ret (v := .tuple #[encT S p, .int .i64 E]) (by simp [results, Tryz.results79, go_sem, g0, g1, g2, g3, g4, g5, g6, g7]) rfl ⟨p, rfl, ?_, ?_⟩
  · have hz : w.heap.size + 1 < w.heap.size + 2 := by omega
    exact (((((((((HO.out).set hz _).set hz _).set hz _).set hz _).set hz _).set hz _).set hz _).set hz _).base (by omega)
  · exact (((((((k2.setCell (by simp) _).setCell (by simp) _).setCell (by simp) _).setCell (by simp) _).setCell (by simp) _).setCell (by simp) _).setCell (by simp) _).setCell (by simp) _
theorem wl_Dense (s : SentV) (p : SentP) (hn : lnS 100000 s) (w : World) (ra : RdS w w.heap.size s p) :
    Calls Tryz.prog 69 #[encT s p] w (OwnE 2 .i64 w.heap.size s.V 0 w) := by
  obtain ⟨AL, cL, AV, cV, AE, cE, AN, cN⟩ := p
  have hvl : s.V.length ≤ 100000 := hn.2.1
  have CP := hid (fun W (h : Below w.heap.size w W) => show Calls Tryz.prog 118 #[.slice AV s.V.length cV] W fun e w' => ∃ A c, e = .returned (.slice A s.V.length c) ∧ w'.ownsRow W.heap.size 2 1 (.slice A s.V.length c) s.V.length (s.V.map (Value.int .i64)) ∧ Below W.heap.size W w' from Clone_any (A := AV) (c := cV) s.V (by omega) W ((ra.2.1.below h).more h.size))
  show Calls Tryz.prog 69 #[(.agg #[.int .i64 s.sch, .int .i64 s.dim, .slice AL s.L.length cL, .slice AV s.V.length cV, .int .i64 s.scale, .int .i64 s.wide, .slice AE s.lev.length cE, .slice AN s.neg.length cN])] w _
  have B0 := BoxL.new w [.int .i64 s.sch, .int .i64 s.dim, .slice AL s.L.length cL, .slice AV s.V.length cV, .int .i64 s.scale, .int .i64 s.wide, .slice AE s.lev.length cE, .slice AN s.neg.length cN] 32
  have f3 := (B0 3 _ rfl).1
  simp only [List.toArray] at f3
  clear B0 ra hn
  go_enter Tryz.func69, Tryz.ntmps69
  go_wp2_with fail
  clear f3
  refine (CP.out _ (by go_grown)).mono ?_
  rintro _ w2 ⟨A2, c2, rfl, o2, hb2⟩
  have hfin : OwnE 2 .i64 w.heap.size s.V 0 w (.returned (.tuple #[.slice A2 s.V.length c2, .int .i64 0])) w2 := ⟨A2, c2, rfl, own_base o2 (by simp), Below.trans (by go_grown) (hb2.mono (by simp))⟩
  clear o2 hb2 CP
  go_wp2_with fail
  go_ret2
  exact hfin
theorem wl_Top (s : SentV) (p : SentP) (hn : lnS 100000 s) (hw : wfS s) (hm : mayB s = true) (h : s.sch = 1) (w : World) (ra : RdS w w.heap.size s p) :
    Calls Tryz.prog 73 #[encT s p] w (OwnE 2 .i64 w.heap.size (spV s.dim s.L s.V) 0 w) := by
  obtain ⟨AL, cL, AV, cV, AE, cE, AN, cN⟩ := p
  show Calls Tryz.prog 73 #[(.agg #[.int .i64 s.sch, .int .i64 s.dim, .slice AL s.L.length cL, .slice AV s.V.length cV, .int .i64 s.scale, .int .i64 s.wide, .slice AE s.lev.length cE, .slice AN s.neg.length cN])] w _
  obtain ⟨d1, d2, hc, hvl⟩ := may_top hm h
  obtain ⟨K, hK⟩ := Int.eq_ofNat_of_zero_le (show 0 ≤ s.dim by omega)
  have hP := chk_ok.1 hc
  have hsp : spV s.dim s.L s.V = (List.range K).map fun j : Nat => spF s.L s.V (j : Int) := by
    rw [hK] at hc ⊢
    rw [(sp_ok hc hvl.symm).2, sp_map]
  rw [hsp]
  have hK4 : K ≤ 4096 := by omega
  have hmk := fun W => run_make_row' (P := Tryz.prog) 24 2 (.int .i64 0) 8 Tryz.underlying24 info_i64 rfl .i64 .i64 K (by omega) (by omega) W
  have HF : Hid (∀ k n x, s.L[k]? = some n → s.V[k]? = some x → ∀ j, spF (s.L.take (k + 1)) (s.V.take (k + 1)) j = if j = n then x else spF (s.L.take k) (s.V.take k) j) := hid (fun k n x h1 h2 j => spF_step h1 h2 j)
  have HF0 : Hid (∀ j, spF (s.L.take 0) (s.V.take 0) j = 0) := hid (fun j => rfl)
  have HFe : Hid (∀ k, s.L.length ≤ k → ∀ j, spF (s.L.take k) (s.V.take k) j = spF s.L s.V j) := hid (fun k hk j => by rw [List.take_of_length_le hk, List.take_of_length_le (by omega)])
  have HP : Hid (∀ (k : Nat) (n : Int), s.L[k]? = some n → 0 ≤ n ∧ n < K) := hid (fun k n h => by have h2 := hP.2.2.2 n (List.mem_of_getElem? h); omega)
  have HLL := hid (fun W (h : Below w.heap.size w W) => (ra.1.below h).more h.size)
  have HLV := hid (fun W (h : Below w.heap.size w W) => (ra.2.1.below h).more h.size)
  have HVL := hid hvl
  have HK := hid hK
  have hll : s.L.length ≤ 100000 := hn.1
  clear hm h ra hn hw hc hP hsp d1 d2 hvl
  have B0 := BoxL.new w [.int .i64 s.sch, .int .i64 K, .slice AL s.L.length cL, .slice AV s.V.length cV, .int .i64 s.scale, .int .i64 s.wide, .slice AE s.lev.length cE, .slice AN s.neg.length cN] 32
  rw [hK]
  clear hK
  simp only [List.toArray] at B0
  have G0 := sg_up w (.cells #[.int .i64 s.sch, .int .i64 K, .slice AL s.L.length cL, .slice AV s.V.length cV, .int .i64 s.scale, .int .i64 s.wide, .slice AE s.lev.length cE, .slice AN s.neg.length cN] 32)
  have HB0 := hid B0
  have HG0 := hid G0
  clear B0 G0
  go_enter Tryz.func73, Tryz.ntmps73
  go_upto_region 1 with fail
  obtain ⟨w1, hw1⟩ : ∃ w1, w.alloc (.cells #[.int .i64 s.sch, .int .i64 K, .slice AL s.L.length cL, .slice AV s.V.length cV, .int .i64 s.scale, .int .i64 s.wide, .slice AE s.lev.length cE, .slice AN s.neg.length cN] 32) = w1 := ⟨_, rfl⟩
  rw [hw1]
  have HB1 : Hid (BoxL w1 w.heap.size [.int .i64 s.sch, .int .i64 K, .slice AL s.L.length cL, .slice AV s.V.length cV, .int .i64 s.scale, .int .i64 s.wide, .slice AE s.lev.length cE, .slice AN s.neg.length cN]) := hid (hw1 ▸ HB0.out)
  have k1 : Below w.heap.size w w1 := hw1 ▸ HG0.out
  have hg1 : w.heap.size < w1.heap.size := HB1.out.lt (by simp)
  have f1 := (HB1.out 1 _ rfl).1
  have f2 := (HB1.out 2 _ rfl).1
  have f2' := ((HB1.out.below (sg_up w1 (.cells (Array.replicate K (.int .i64 0)) 2)) hg1) 2 _ rfl).1
  clear hw1 HB0 HG0
  go_wp2_with fail
  clear f1 f2 f2'
  go_loopw [5, 6, 13] (fun x5 x6 i wr => ∃ k : Nat, k ≤ s.L.length ∧ i = .int .i64 k ∧ wr.rowIs w1.heap.size 2 K (fun j => .int .i64 (spF (s.L.take k) (s.V.take k) (j : Int))) ∧ Below w1.heap.size w1 wr) (fun _ _ i _ => s.L.length - (intOf i).toNat)
  case atStart => exact ⟨0, by omega, rfl, (World.rowIs_made w1 (.int .i64 0) K _).congr (fun j hj => by rw [HF0.out]), by go_grown⟩
  case round =>
    obtain ⟨k, hk, rfl, hrow, hbel⟩ := hrel
    have HR := hid hrow
    clear hmk
    by_cases hlt : k < s.L.length
    · have kw := k1.trans (hbel.mono k1.size)
      obtain ⟨b1, o1, n, rfl, l1, en, c1⟩ := (HLL.out _ kw).at_ hlt
      obtain ⟨b2, o2, x, rfl, l2, ex, c2⟩ := (HLV.out _ kw).at_ (k := k) (by rw [HVL.out]; exact hlt)
      have hlt2 : k < s.V.length := by rw [HVL.out]; exact hlt
      have hn := HP.out k n en
      have HSS := hid (HF.out k n x en ex)
      obtain ⟨m, rfl⟩ := Int.eq_ofNat_of_zero_le hn.1
      have hm : m < K := by omega
      have f1 := hrow.frozen m
      have c3 := hrow.cell hm
      have f3 := (HB1.out.below hbel hg1 3 _ rfl).1
      clear en ex hrow
      go_wp2_with fail
      go_roundw
      case rel =>
        refine ⟨k + 1, by omega, by go_num, ?_, hbel.setCell (Nat.le_refl _) _⟩
        refine World.rowIs.congr (HR.out.set m (.int .i64 x)) fun j hj => ?_
        rw [HSS.out]
        by_cases e : j = m
        · rw [if_pos e, if_pos (by omega)]
        · rw [if_neg e, if_neg (by omega)]
      case measure => simp [intOf]; omega
    · have HE := HFe.out k (by omega)
      have HR2 : Hid (wr.rowIs w1.heap.size 2 K (fun j => .int .i64 (spF s.L s.V (j : Int)))) := hid (HR.out.congr fun j hj => by rw [HE])
      clear hrow HE HR
      go_wp2_with fail
      go_ret2
      have h := own_made (w' := wr) HR2.out (show w.heap.size ≤ w1.heap.size from k1.size) (by unfold maxLen; omega)
      refine ⟨some ⟨w1.heap.size, 0, none⟩, K, ?_, ?_, k1.trans (hbel.mono k1.size)⟩
      · rw [List.length_map, List.length_range]; rfl
      · rw [List.length_map, List.length_range, List.map_map]; exact h
theorem wi_Dense {A : Option Addr} {c : Nat} (sch k wide : Int) (v : List Int) (s : SentV) (p : SentP) (R : Bool) (w : World)
    (CP0 : ∀ W, Below w.heap.size w W → Calls Tryz.prog 31 #[.slice p.AV s.V.length p.cV, .slice A v.length c] W fun e w' => e = .returned (.bool R) ∧ Below W.heap.size W w') :
    Calls Tryz.prog 70 #[.agg #[.int .i64 sch, .int .i64 k, .int .i64 wide], .slice A v.length c, encT s p] w fun e w' => e = .returned (.bool R) ∧ Below w.heap.size w w' := by
  obtain ⟨AL, cL, AV, cV, AE, cE, AN, cN⟩ := p
  show Calls Tryz.prog 70 #[.agg #[.int .i64 sch, .int .i64 k, .int .i64 wide], .slice A v.length c, (.agg #[.int .i64 s.sch, .int .i64 s.dim, .slice AL s.L.length cL, .slice AV s.V.length cV, .int .i64 s.scale, .int .i64 s.wide, .slice AE s.lev.length cE, .slice AN s.neg.length cN])] w _
  have CP := hid (fun W (h : Below w.heap.size w W) => show Calls Tryz.prog 31 #[.slice AV s.V.length cV, .slice A v.length c] W fun e w' => e = .returned (.bool R) ∧ Below W.heap.size W w' from CP0 W h)
  clear CP0
  have BH := (BoxL.new w [.int .i64 sch, .int .i64 k, .int .i64 wide] 23).below (sg_up _ (.cells #[.int .i64 s.sch, .int .i64 s.dim, .slice AL s.L.length cL, .slice AV s.V.length cV, .int .i64 s.scale, .int .i64 s.wide, .slice AE s.lev.length cE, .slice AN s.neg.length cN] 32)) (by simp)
  have BR := box2 w (.cells #[.int .i64 sch, .int .i64 k, .int .i64 wide] 23) [.int .i64 s.sch, .int .i64 s.dim, .slice AL s.L.length cL, .slice AV s.V.length cV, .int .i64 s.scale, .int .i64 s.wide, .slice AE s.lev.length cE, .slice AN s.neg.length cN] 32
  have f0 := (BH 0 _ rfl).1
  have f1 := (BH 1 _ rfl).1
  have f2 := (BH 2 _ rfl).1
  obtain ⟨⟨g0, g1, g2, g3, g4, g5, g6, g7⟩, _⟩ := BR.eight
  simp only [List.toArray] at f0 f1 f2 g0 g1 g2 g3 g4 g5 g6 g7
  clear BH BR
  go_enter Tryz.func70, Tryz.ntmps70
  go_wp2_with fail
  clear f0 f1 f2 g0 g1 g2 g3 g4 g5 g6 g7
  refine (CP.out _ (by go_grown)).mono ?_
  rintro _ w2 ⟨rfl, hb2⟩
  have k2 : Below w.heap.size w w2 := Below.trans (by go_grown) (hb2.mono (by simp; omega))
  clear hb2 CP
  go_wp2_with fail
  go_ret
  exact ⟨rfl, k2⟩
theorem wi_Top {A : Option Addr} {c : Nat} (sch k wide : Int) (v : List Int) (s : SentV) (p : SentP) (R : Bool) (w : World)
    (CP0 : ∀ W, Below w.heap.size w W → Calls Tryz.prog 120 #[.int .i64 k, .slice A v.length c, encT s p] W fun e w' => e = .returned (.bool R) ∧ Below W.heap.size W w') :
    Calls Tryz.prog 74 #[.agg #[.int .i64 sch, .int .i64 k, .int .i64 wide], .slice A v.length c, encT s p] w fun e w' => e = .returned (.bool R) ∧ Below w.heap.size w w' := by
  obtain ⟨AL, cL, AV, cV, AE, cE, AN, cN⟩ := p
  show Calls Tryz.prog 74 #[.agg #[.int .i64 sch, .int .i64 k, .int .i64 wide], .slice A v.length c, (.agg #[.int .i64 s.sch, .int .i64 s.dim, .slice AL s.L.length cL, .slice AV s.V.length cV, .int .i64 s.scale, .int .i64 s.wide, .slice AE s.lev.length cE, .slice AN s.neg.length cN])] w _
  have CP := hid (fun W (h : Below w.heap.size w W) => show Calls Tryz.prog 120 #[.int .i64 k, .slice A v.length c, (.agg #[.int .i64 s.sch, .int .i64 s.dim, .slice AL s.L.length cL, .slice AV s.V.length cV, .int .i64 s.scale, .int .i64 s.wide, .slice AE s.lev.length cE, .slice AN s.neg.length cN])] W fun e w' => e = .returned (.bool R) ∧ Below W.heap.size W w' from CP0 W h)
  clear CP0
  have BH := (BoxL.new w [.int .i64 sch, .int .i64 k, .int .i64 wide] 23).below (sg_up _ (.cells #[.int .i64 s.sch, .int .i64 s.dim, .slice AL s.L.length cL, .slice AV s.V.length cV, .int .i64 s.scale, .int .i64 s.wide, .slice AE s.lev.length cE, .slice AN s.neg.length cN] 32)) (by simp)
  have BR := box2 w (.cells #[.int .i64 sch, .int .i64 k, .int .i64 wide] 23) [.int .i64 s.sch, .int .i64 s.dim, .slice AL s.L.length cL, .slice AV s.V.length cV, .int .i64 s.scale, .int .i64 s.wide, .slice AE s.lev.length cE, .slice AN s.neg.length cN] 32
  have f0 := (BH 0 _ rfl).1
  have f1 := (BH 1 _ rfl).1
  have f2 := (BH 2 _ rfl).1
  obtain ⟨⟨g0, g1, g2, g3, g4, g5, g6, g7⟩, _⟩ := BR.eight
  simp only [List.toArray] at f0 f1 f2 g0 g1 g2 g3 g4 g5 g6 g7
  clear BH BR
  go_enter Tryz.func74, Tryz.ntmps74
  go_wp2_with fail
  clear f0 f1 f2 g0 g1 g2 g3 g4 g5 g6 g7
  refine (CP.out _ (by go_grown)).mono ?_
  rintro _ w2 ⟨rfl, hb2⟩
  have k2 : Below w.heap.size w w2 := Below.trans (by go_grown) (hb2.mono (by simp; omega))
  clear hb2 CP
  go_wp2_with fail
  go_ret
  exact ⟨rfl, k2⟩
theorem wi_Level {A : Option Addr} {c : Nat} (sch k wide : Int) (v : List Int) (s : SentV) (p : SentP) (R : Bool) (w : World)
    (CP0 : ∀ W, Below w.heap.size w W → Calls Tryz.prog 124 #[.slice A v.length c, encT s p] W fun e w' => e = .returned (.bool R) ∧ Below W.heap.size W w') :
    Calls Tryz.prog 78 #[.agg #[.int .i64 sch, .int .i64 k, .int .i64 wide], .slice A v.length c, encT s p] w fun e w' => e = .returned (.bool (decide (s.wide = wide) && R)) ∧ Below w.heap.size w w' := by
  obtain ⟨AL, cL, AV, cV, AE, cE, AN, cN⟩ := p
  show Calls Tryz.prog 78 #[.agg #[.int .i64 sch, .int .i64 k, .int .i64 wide], .slice A v.length c, (.agg #[.int .i64 s.sch, .int .i64 s.dim, .slice AL s.L.length cL, .slice AV s.V.length cV, .int .i64 s.scale, .int .i64 s.wide, .slice AE s.lev.length cE, .slice AN s.neg.length cN])] w _
  have CP := hid (fun W (h : Below w.heap.size w W) => show Calls Tryz.prog 124 #[.slice A v.length c, (.agg #[.int .i64 s.sch, .int .i64 s.dim, .slice AL s.L.length cL, .slice AV s.V.length cV, .int .i64 s.scale, .int .i64 s.wide, .slice AE s.lev.length cE, .slice AN s.neg.length cN])] W fun e w' => e = .returned (.bool R) ∧ Below W.heap.size W w' from CP0 W h)
  clear CP0
  have BH := (BoxL.new w [.int .i64 sch, .int .i64 k, .int .i64 wide] 23).below (sg_up _ (.cells #[.int .i64 s.sch, .int .i64 s.dim, .slice AL s.L.length cL, .slice AV s.V.length cV, .int .i64 s.scale, .int .i64 s.wide, .slice AE s.lev.length cE, .slice AN s.neg.length cN] 32)) (by simp)
  have BR := box2 w (.cells #[.int .i64 sch, .int .i64 k, .int .i64 wide] 23) [.int .i64 s.sch, .int .i64 s.dim, .slice AL s.L.length cL, .slice AV s.V.length cV, .int .i64 s.scale, .int .i64 s.wide, .slice AE s.lev.length cE, .slice AN s.neg.length cN] 32
  have f0 := (BH 0 _ rfl).1
  have f1 := (BH 1 _ rfl).1
  have f2 := (BH 2 _ rfl).1
  obtain ⟨⟨g0, g1, g2, g3, g4, g5, g6, g7⟩, _⟩ := BR.eight
  simp only [List.toArray] at f0 f1 f2 g0 g1 g2 g3 g4 g5 g6 g7
  clear BH BR
  by_cases h : s.wide = wide
  · have t : (s.wide == wide) = true := by simpa using h
    rw [show (decide (s.wide = wide) && R) = R by simp [h]]
    clear h
    go_enter Tryz.func78, Tryz.ntmps78
    go_wp2_with fail
    clear f0 f1 f2 g0 g1 g2 g3 g4 g5 g6 g7
    refine (CP.out _ (by go_grown)).mono ?_
    rintro _ w2 ⟨rfl, hb2⟩
    have k2 : Below w.heap.size w w2 := Below.trans (by go_grown) (hb2.mono (by simp; omega))
    clear hb2 CP
    go_wp2_with fail
    go_ret
    exact ⟨rfl, k2⟩
  · have t : (s.wide == wide) = false := beq_eq_false_iff_ne.2 h
    rw [show (decide (s.wide = wide) && R) = false by simp [h]]
    clear h CP
    go_enter Tryz.func78, Tryz.ntmps78
    go_wp2_with fail
    go_ret
    exact ⟨rfl, by go_grown⟩
theorem wi_Sign {A : Option Addr} {c : Nat} (sch k wide : Int) (v : List Int) (s : SentV) (p : SentP) (R : Bool) (w : World)
    (CP0 : ∀ W, Below w.heap.size w W → Calls Tryz.prog 129 #[.slice A v.length c, encT s p] W fun e w' => e = .returned (.bool R) ∧ Below W.heap.size W w') :
    Calls Tryz.prog 81 #[.agg #[.int .i64 sch, .int .i64 k, .int .i64 wide], .slice A v.length c, encT s p] w fun e w' => e = .returned (.bool R) ∧ Below w.heap.size w w' := by
  obtain ⟨AL, cL, AV, cV, AE, cE, AN, cN⟩ := p
  show Calls Tryz.prog 81 #[.agg #[.int .i64 sch, .int .i64 k, .int .i64 wide], .slice A v.length c, (.agg #[.int .i64 s.sch, .int .i64 s.dim, .slice AL s.L.length cL, .slice AV s.V.length cV, .int .i64 s.scale, .int .i64 s.wide, .slice AE s.lev.length cE, .slice AN s.neg.length cN])] w _
  have CP := hid (fun W (h : Below w.heap.size w W) => show Calls Tryz.prog 129 #[.slice A v.length c, (.agg #[.int .i64 s.sch, .int .i64 s.dim, .slice AL s.L.length cL, .slice AV s.V.length cV, .int .i64 s.scale, .int .i64 s.wide, .slice AE s.lev.length cE, .slice AN s.neg.length cN])] W fun e w' => e = .returned (.bool R) ∧ Below W.heap.size W w' from CP0 W h)
  clear CP0
  have BH := (BoxL.new w [.int .i64 sch, .int .i64 k, .int .i64 wide] 23).below (sg_up _ (.cells #[.int .i64 s.sch, .int .i64 s.dim, .slice AL s.L.length cL, .slice AV s.V.length cV, .int .i64 s.scale, .int .i64 s.wide, .slice AE s.lev.length cE, .slice AN s.neg.length cN] 32)) (by simp)
  have BR := box2 w (.cells #[.int .i64 sch, .int .i64 k, .int .i64 wide] 23) [.int .i64 s.sch, .int .i64 s.dim, .slice AL s.L.length cL, .slice AV s.V.length cV, .int .i64 s.scale, .int .i64 s.wide, .slice AE s.lev.length cE, .slice AN s.neg.length cN] 32
  have f0 := (BH 0 _ rfl).1
  have f1 := (BH 1 _ rfl).1
  have f2 := (BH 2 _ rfl).1
  obtain ⟨⟨g0, g1, g2, g3, g4, g5, g6, g7⟩, _⟩ := BR.eight
  simp only [List.toArray] at f0 f1 f2 g0 g1 g2 g3 g4 g5 g6 g7
  clear BH BR
  go_enter Tryz.func81, Tryz.ntmps81
  go_wp2_with fail
  clear f0 f1 f2 g0 g1 g2 g3 g4 g5 g6 g7
  refine (CP.out _ (by go_grown)).mono ?_
  rintro _ w2 ⟨rfl, hb2⟩
  have k2 : Below w.heap.size w w2 := Below.trans (by go_grown) (hb2.mono (by simp; omega))
  clear hb2 CP
  go_wp2_with fail
  go_ret
  exact ⟨rfl, k2⟩
end Go.Proofs.YtecgbelgoomneaaGreat
