
/- YQuD: texts joined: QuD. -/
import Derived.Test.YtecgbelgoomneaaGreatYQuC
/- Near, by the document. -/
namespace Go.Proofs.YtecgbelgoomneaaGreat
open Go.RowKit
set_option maxHeartbeats 1000000
set_option maxRecDepth 100000
set_option linter.unusedVariables false
theorem lvlL_le (n scale wide : Int) : lvlL n scale wide ≤ 255 := by
  by_cases h : lvlE n scale wide = 0
  · exact plQ_le (seed := 0) (n := []) (i := 0) h
  · have : lvlL n scale wide = 0 := if_neg h
    omega
theorem lvlR_lt {n scale wide : Int} (hs : scale ≤ 9223372036854775807) : lvlR n scale wide ≤ 9223372036854775807 := by
  unfold lvlR
  split
  · rename_i h
    obtain ⟨a, b, c⟩ := lvlE_ok.1 h
    rcases Nat.eq_zero_or_pos scale.toNat with e | e
    · rw [e, show szN n = 0 by omega, (lvQ_none _).2]; omega
    · have := rsQ_lt (z := szN n) (t := topQ wide) e
      omega
  · omega
theorem near_no {v : List Int} {s : SentV} (h : ¬ (mostE v = 0 ∧ mayB s = true ∧ s.sch = 2 ∧ s.dim = v.length ∧ s.scale = mostV v)) : nearB v s = false := by
  unfold nearB nrHead
  rw [decide_eq_false h]
  rfl
theorem near_in {v : List Int} {s : SentV} (h : mostE v = 0 ∧ mayB s = true ∧ s.sch = 2 ∧ s.dim = v.length ∧ s.scale = mostV v) : nearB v s = nrAll v s v.length := by
  unfold nearB nrHead
  rw [decide_eq_true h]
  rfl
theorem ref_Near10 {A : Option Addr} {c : Nat} (v : List Int) (uv : ∀ x ∈ v, I64 x) (hl : v.length ≤ 9223372036854775807) (s : SentV) (p : SentP) (hn : lnS 100000 s) (hw : wfS s) (w : World) (rv : Rd (Value.int .i64) w w.heap.size A v) (ra : RdS w w.heap.size s p) :
    Calls Tryz.prog 51 #[.slice A v.length c, encT s p] w fun e w' => e = .returned (.bool (nearB v s)) ∧ Below w.heap.size w w' := by
  obtain ⟨AL, cL, AV, cV, AE, cE, AN, cN⟩ := p
  have CM := hid (fun W (h : Below w.heap.size w W) => show Calls Tryz.prog 43 #[.agg #[.int .i64 s.sch, .int .i64 s.dim, .slice AL s.L.length cL, .slice AV s.V.length cV, .int .i64 s.scale, .int .i64 s.wide, .slice AE s.lev.length cE, .slice AN s.neg.length cN]] W fun e w' => e = .returned (.bool (mayB s)) ∧ Below W.heap.size W w' from ref_May s ⟨AL, cL, AV, cV, AE, cE, AN, cN⟩ hn hw W (B := w.heap.size) h.size (ra.below h))
  have C2 := hid (fun W (h : Below w.heap.size w W) => rMost_any (A := A) (c := c) v hl uv W (rv.on h))
  show Calls Tryz.prog 51 #[.slice A v.length c, .agg #[.int .i64 s.sch, .int .i64 s.dim, .slice AL s.L.length cL, .slice AV s.V.length cV, .int .i64 s.scale, .int .i64 s.wide, .slice AE s.lev.length cE, .slice AN s.neg.length cN]] w _
  by_cases he : mostE v = 0
  · rw [he] at C2
    by_cases hm : mayB s = true
    · rw [hm] at CM
      by_cases h2 : s.sch = 2
      · by_cases hd : s.dim = v.length
        · by_cases hsc : s.scale = mostV v
          · rw [near_in ⟨he, hm, h2, hd, hsc⟩]
            have m0 := mostq_ok he
            have hmi := most_i64 v
            obtain ⟨n1, n2, n3, n4⟩ := may_lev hm h2
            have hwd := hw.2.2.2.2.2.1
            have hml := (mayB_iff.1 hm)
            have hdl : (s.lev.length : Int) = s.dim := by
              unfold mayP at hml
              obtain ⟨_, _, h | h | h | h⟩ := hml
              · omega
              · omega
              · exact h.2.2.2.1
              · omega
            have CL := hid (fun x (hx : I64 x) W => ref_Level x (mostV v) s.wide hx hmi hwd W)
            have HU := hid hw.2.2.2.2.2.2
            have UV := hid uv
            have HSN := hid (fun m => nrAll_snoc v s m)
            have HNO := hid (fun m (h : nrOne (v.getD m 0) (mostV v) s.wide (s.lev.getD m 0) (s.neg.getD m false) = false) n (hn : m < n) => nrAll_no (v := v) (s := s) h hn)
            have H0 : Hid (nrAll v s 0 = true) := rfl
            have HLL := hid (fun x => lvlL_le x (mostV v) s.wide)
            have HLR := hid (fun x => lvlR_lt (n := x) (wide := s.wide) m0.2.2.1)
            have HON := hid (fun x lev neg => show nrOne x (mostV v) s.wide lev neg = ((neg == decide (x < 0)) && ((lev == (lvlL x (mostV v) s.wide : Int)) || ((lvlR x (mostV v) s.wide != 0) && (lev == (lvlL x (mostV v) s.wide : Int) + 1)))) from rfl)
            have RV := hid rv
            have RA : Hid (Rd (Value.int .u64) w w.heap.size AE s.lev) := hid ra.2.2.1
            have RN : Hid (Rd Value.bool w w.heap.size AN s.neg) := hid ra.2.2.2
            have HLN := hid (show s.lev.length = v.length by omega)
            have HNN := hid (show s.neg.length = v.length by omega)
            have hv63 : v.length ≤ 4096 := m0.1
            have H2 := hid h2
            have HD := hid hd
            have HSC := hid hsc
            obtain ⟨M, hM⟩ : ∃ M, mostV v = M := ⟨_, rfl⟩
            rw [hM] at C2 CL HNO HLL HLR HON hmi HSC
            have HM := hid hM
            obtain ⟨R, hR⟩ : ∃ R, nrAll v s v.length = R := ⟨_, rfl⟩
            rw [hR]
            have HR := hid hR
            clear he hm h2 hd hsc m0 n1 n2 n3 n4 hwd hml hdl hM hR uv rv ra hn hw
            go_enter Tryz.func51, Tryz.ntmps51
            go_wp2_with fail
            have B0 := BoxL.new w [.int .i64 s.sch, .int .i64 s.dim, .slice AL s.L.length cL, .slice AV s.V.length cV, .int .i64 s.scale, .int .i64 s.wide, .slice AE s.lev.length cE, .slice AN s.neg.length cN] 32
            refine (C2.out _ (by go_grown)).mono ?_
            rintro _ w1 ⟨rfl, hb⟩
            have HX := hid (B0.below hb (by simp))
            have k1 : Below w.heap.size w w1 := Below.trans (by go_grown) (hb.mono (by simp))
            clear B0 hb C2
            have hg : w.heap.size < w1.heap.size := HX.out.lt (by simp)
            obtain ⟨⟨g0, g1, g2, g3, g4, g5, g6, g7⟩, _⟩ := HX.out.eight
            go_wp2_with fail
            refine (CM.out _ k1).mono ?_
            rintro _ w2 ⟨rfl, hb2⟩
            clear g0 g1 g2 g3 g4 g5 g6 g7
            have k2 : Below w.heap.size w w2 := k1.trans (hb2.mono k1.size)
            have HY := hid (HX.out.below hb2 hg)
            clear HX CM hb2
            have f0 := (HY.out 0 _ rfl).1
            have f1 := (HY.out 1 _ rfl).1
            have f4 := (HY.out 4 _ rfl).1
            rw [H2.out] at f0
            rw [HD.out] at f1
            rw [HSC.out] at f4
            go_wp2_with fail
            clear f0 f1 f4
            have f5 := (HY.out 5 _ rfl).1
            have f6 := (HY.out 6 _ rfl).1
            have f7 := (HY.out 7 _ rfl).1
            go_loop [44] (fun i => ∃ k : Nat, k ≤ v.length ∧ i = .int .i64 k ∧ nrAll v s k = true) (fun i => v.length - (intOf i).toNat)
            case atStart => exact ⟨0, by omega, rfl, H0.out⟩
            case round =>
              obtain ⟨k, hk, rfl, hall⟩ := hrel
              have HAL := hid hall
              clear hall
              by_cases hlt : k < v.length
              · obtain ⟨b1, o1, x, rfl, l1, ex, d1⟩ := (RV.out.below k2).at_ hlt
                obtain ⟨b2, o2, y, rfl, l2, ey, d2⟩ := (RA.out.below k2).at_ (k := k) (by rw [HLN.out]; exact hlt)
                obtain ⟨b3, o3, z, rfl, l3, ez, d3⟩ := (RN.out.below k2).at_ (k := k) (by rw [HNN.out]; exact hlt)
                have hlt2 : k < s.lev.length := by rw [HLN.out]; exact hlt
                have hlt3 : k < s.neg.length := by rw [HNN.out]; exact hlt
                obtain ⟨y1, y2⟩ := HU.out.at_ ey
                obtain ⟨lv, rfl⟩ := Int.eq_ofNat_of_zero_le y1
                have C := hid (CL.out x (UV.out x (List.mem_of_getElem? ex)) w2)
                have hon := HON.out x lv z
                have hll := HLL.out x
                have hlr := HLR.out x
                have hsn := HSN.out k
                have hno := HNO.out k
                rw [getD_of ex, getD_of ey, show s.neg.getD k false = z by rw [List.getD_eq_getElem?_getD, ez]; rfl] at hsn hno
                rw [HM.out] at hsn
                obtain ⟨l, hl1⟩ : ∃ l, lvlL x M s.wide = l := ⟨_, rfl⟩
                obtain ⟨r, hr1⟩ : ∃ r, lvlR x M s.wide = r := ⟨_, rfl⟩
                obtain ⟨e, he1⟩ : ∃ e, lvlE x M s.wide = e := ⟨_, rfl⟩
                rw [hl1, hr1, he1] at C
                rw [hl1] at hll
                rw [hr1] at hlr
                rw [hl1, hr1] at hon
                have HYES := hid (fun (h : nrOne x M s.wide lv z = true) => show nrAll v s (k + 1) = true by rw [hsn, HAL.out, h]; rfl)
                have HNOK := hid (fun (h : nrOne x M s.wide lv z = false) => show R = false by rw [← HR.out]; exact hno h v.length hlt)
                have HONK := hid hon
                clear hon hsn hno hl1 hr1 he1 ex ey ez
                obtain ⟨l9, hl9⟩ : ∃ l9, l + 1 = l9 := ⟨_, rfl⟩
                have hl2 : (l : Int) + 1 = (l9 : Int) := by omega
                rw [hl2] at HONK
                go_wp2_with fail
                refine C.out.mono ?_
                rintro _ _ ⟨rfl, rfl⟩
                obtain ⟨d, hd⟩ : ∃ d, decide (x < 0) = d := ⟨_, rfl⟩
                rw [hd] at HONK
                by_cases hz : z = d
                · have tz : (z != z) = false := by simp
                  subst hz
                  by_cases ha : lv = l
                  · have HQ := hid (HYES.out (by rw [HONK.out, ha]; simp))
                    have ta : ((lv : Int) == (l : Int)) = true := by rw [ha]; simp
                    have ta2 : ((lv : Int) != (l : Int)) = false := by rw [ha]; simp
                    clear ha
                    go_wp2_with fail
                    go_round
                    case rel => exact ⟨k + 1, by omega, by go_num, HQ.out⟩
                    case measure => simp [intOf]; omega
                  · have ta : ((lv : Int) == (l : Int)) = false := beq_eq_false_iff_ne.2 (by omega)
                    have ta2 : ((lv : Int) != (l : Int)) = true := by simp; omega
                    by_cases hr : r = 0
                    · have HQ := HNOK.out (by rw [HONK.out, hr, ta]; simp)
                      subst hr
                      clear ha HONK HYES HNOK
                      go_wp2_with fail
                      go_ret
                      exact ⟨by first | (simp; done) | (simp [HQ]; done), k2⟩
                    · have tr : ((r : Int) == 0) = false := beq_eq_false_iff_ne.2 (by omega)
                      have tr2 : (r == 0) = false := beq_eq_false_iff_ne.2 hr
                      have tr3 : (r != 0) = true := by simpa using hr
                      by_cases hb : lv = l9
                      · have HQ := hid (HYES.out (by rw [HONK.out, ta, tr3, hb]; simp))
                        have tb : ((lv : Int) == (l9 : Int)) = true := by rw [hb]; simp
                        have tb2 : ((lv : Int) != (l9 : Int)) = false := by rw [hb]; simp
                        clear hb ha hr HONK HYES HNOK
                        go_wp2_with fail
                        go_round
                        case rel => exact ⟨k + 1, by omega, by go_num, HQ.out⟩
                        case measure => simp [intOf]; omega
                      · have tb : ((lv : Int) == (l9 : Int)) = false := beq_eq_false_iff_ne.2 (by omega)
                        have tb2 : ((lv : Int) != (l9 : Int)) = true := by simp; omega
                        have HQ := HNOK.out (by rw [HONK.out, ta, tr3, tb]; simp)
                        clear hb ha hr HONK HYES HNOK
                        go_wp2_with fail
                        go_ret
                        exact ⟨by first | (simp; done) | (simp [HQ]; done), k2⟩
                · have tz : (z != d) = true := by simpa using hz
                  have tz2 : (z == d) = false := by simpa using hz
                  have HQ := HNOK.out (by rw [HONK.out, tz2]; simp)
                  clear hz HONK HYES HNOK
                  go_wp2_with fail
                  go_ret
                  exact ⟨by first | (simp; done) | (simp [HQ]; done), k2⟩
              · obtain rfl : k = v.length := by omega
                have HQ : R = true := by rw [← HR.out]; exact HAL.out
                go_wp2_with fail
                go_ret
                exact ⟨by first | (simp; done) | (simp [HQ]; done), k2⟩
          · rw [near_no (fun h => hsc h.2.2.2.2)]
            have t1 : (s.scale == mostV v) = false := beq_eq_false_iff_ne.2 hsc
            have H2 := hid h2
            have HD := hid hd
            obtain ⟨M, hM⟩ : ∃ M, mostV v = M := ⟨_, rfl⟩
            rw [hM] at C2 t1
            clear he hm h2 hd hsc hM uv rv ra hn hw
            go_enter Tryz.func51, Tryz.ntmps51
            go_wp2_with fail
            have B0 := BoxL.new w [.int .i64 s.sch, .int .i64 s.dim, .slice AL s.L.length cL, .slice AV s.V.length cV, .int .i64 s.scale, .int .i64 s.wide, .slice AE s.lev.length cE, .slice AN s.neg.length cN] 32
            refine (C2.out _ (by go_grown)).mono ?_
            rintro _ w1 ⟨rfl, hb⟩
            have HX := hid (B0.below hb (by simp))
            have k1 : Below w.heap.size w w1 := Below.trans (by go_grown) (hb.mono (by simp))
            clear B0 hb C2
            have hg : w.heap.size < w1.heap.size := HX.out.lt (by simp)
            obtain ⟨⟨g0, g1, g2, g3, g4, g5, g6, g7⟩, _⟩ := HX.out.eight
            go_wp2_with fail
            refine (CM.out _ k1).mono ?_
            rintro _ w2 ⟨rfl, hb2⟩
            clear g0 g1 g2 g3 g4 g5 g6 g7
            have k2 : Below w.heap.size w w2 := k1.trans (hb2.mono k1.size)
            have HY := hid (HX.out.below hb2 hg)
            clear HX CM hb2
            have f0 := (HY.out 0 _ rfl).1
            have f1 := (HY.out 1 _ rfl).1
            have f4 := (HY.out 4 _ rfl).1
            rw [H2.out] at f0
            rw [HD.out] at f1
            go_wp2_with fail
            go_ret
            exact ⟨rfl, k2⟩
        · rw [near_no (fun h => hd h.2.2.2.1)]
          have t1 : (s.dim == (v.length : Int)) = false := beq_eq_false_iff_ne.2 hd
          have H2 := hid h2
          obtain ⟨M, hM⟩ : ∃ M, mostV v = M := ⟨_, rfl⟩
          rw [hM] at C2
          clear he hm h2 hd hM uv rv ra hn hw
          go_enter Tryz.func51, Tryz.ntmps51
          go_wp2_with fail
          have B0 := BoxL.new w [.int .i64 s.sch, .int .i64 s.dim, .slice AL s.L.length cL, .slice AV s.V.length cV, .int .i64 s.scale, .int .i64 s.wide, .slice AE s.lev.length cE, .slice AN s.neg.length cN] 32
          refine (C2.out _ (by go_grown)).mono ?_
          rintro _ w1 ⟨rfl, hb⟩
          have HX := hid (B0.below hb (by simp))
          have k1 : Below w.heap.size w w1 := Below.trans (by go_grown) (hb.mono (by simp))
          clear B0 hb C2
          have hg : w.heap.size < w1.heap.size := HX.out.lt (by simp)
          obtain ⟨⟨g0, g1, g2, g3, g4, g5, g6, g7⟩, _⟩ := HX.out.eight
          go_wp2_with fail
          refine (CM.out _ k1).mono ?_
          rintro _ w2 ⟨rfl, hb2⟩
          clear g0 g1 g2 g3 g4 g5 g6 g7
          have k2 : Below w.heap.size w w2 := k1.trans (hb2.mono k1.size)
          have HY := hid (HX.out.below hb2 hg)
          clear HX CM hb2
          have f0 := (HY.out 0 _ rfl).1
          have f1 := (HY.out 1 _ rfl).1
          have f4 := (HY.out 4 _ rfl).1
          rw [H2.out] at f0
          go_wp2_with fail
          go_ret
          exact ⟨rfl, k2⟩
      · rw [near_no (fun h => h2 h.2.2.1)]
        have t1 : (s.sch == 2) = false := beq_eq_false_iff_ne.2 h2
        have t1b : (s.sch != 2) = true := by simpa using h2
        obtain ⟨M, hM⟩ : ∃ M, mostV v = M := ⟨_, rfl⟩
        rw [hM] at C2
        clear he hm h2 hM uv rv ra hn hw
        go_enter Tryz.func51, Tryz.ntmps51
        go_wp2_with fail
        have B0 := BoxL.new w [.int .i64 s.sch, .int .i64 s.dim, .slice AL s.L.length cL, .slice AV s.V.length cV, .int .i64 s.scale, .int .i64 s.wide, .slice AE s.lev.length cE, .slice AN s.neg.length cN] 32
        refine (C2.out _ (by go_grown)).mono ?_
        rintro _ w1 ⟨rfl, hb⟩
        have HX := hid (B0.below hb (by simp))
        have k1 : Below w.heap.size w w1 := Below.trans (by go_grown) (hb.mono (by simp))
        clear B0 hb C2
        have hg : w.heap.size < w1.heap.size := HX.out.lt (by simp)
        obtain ⟨⟨g0, g1, g2, g3, g4, g5, g6, g7⟩, _⟩ := HX.out.eight
        go_wp2_with fail
        refine (CM.out _ k1).mono ?_
        rintro _ w2 ⟨rfl, hb2⟩
        clear g0 g1 g2 g3 g4 g5 g6 g7
        have k2 : Below w.heap.size w w2 := k1.trans (hb2.mono k1.size)
        have HY := hid (HX.out.below hb2 hg)
        clear HX CM hb2
        have f0 := (HY.out 0 _ rfl).1
        have f1 := (HY.out 1 _ rfl).1
        have f4 := (HY.out 4 _ rfl).1
        go_wp2_with fail
        go_ret
        exact ⟨rfl, k2⟩
    · rw [near_no (fun h => hm h.2.1)]
      have hm2 : mayB s = false := by simpa using hm
      rw [hm2] at CM
      obtain ⟨M, hM⟩ : ∃ M, mostV v = M := ⟨_, rfl⟩
      rw [hM] at C2
      clear he hm hm2 hM uv rv ra hn hw
      go_enter Tryz.func51, Tryz.ntmps51
      go_wp2_with fail
      have B0 := BoxL.new w [.int .i64 s.sch, .int .i64 s.dim, .slice AL s.L.length cL, .slice AV s.V.length cV, .int .i64 s.scale, .int .i64 s.wide, .slice AE s.lev.length cE, .slice AN s.neg.length cN] 32
      refine (C2.out _ (by go_grown)).mono ?_
      rintro _ w1 ⟨rfl, hb⟩
      have HX := hid (B0.below hb (by simp))
      have k1 : Below w.heap.size w w1 := Below.trans (by go_grown) (hb.mono (by simp))
      clear B0 hb C2
      have hg : w.heap.size < w1.heap.size := HX.out.lt (by simp)
      obtain ⟨⟨g0, g1, g2, g3, g4, g5, g6, g7⟩, _⟩ := HX.out.eight
      go_wp2_with fail
      refine (CM.out _ k1).mono ?_
      rintro _ w2 ⟨rfl, hb2⟩
      clear g0 g1 g2 g3 g4 g5 g6 g7
      have k2 : Below w.heap.size w w2 := k1.trans (hb2.mono k1.size)
      have HY := hid (HX.out.below hb2 hg)
      clear HX CM hb2
      have f0 := (HY.out 0 _ rfl).1
      have f1 := (HY.out 1 _ rfl).1
      have f4 := (HY.out 4 _ rfl).1
      go_wp2_with fail
      go_ret
      exact ⟨rfl, k2⟩
  · rw [near_no (fun h => he h.1)]
    have t1 : (mostE v == 0) = false := beq_eq_false_iff_ne.2 he
    obtain ⟨M, hM⟩ : ∃ M, mostV v = M := ⟨_, rfl⟩
    obtain ⟨E, hE⟩ : ∃ E, mostE v = E := ⟨_, rfl⟩
    rw [hM, hE] at C2
    rw [hE] at t1
    have t1b : (E != 0) = true := by simpa using t1
    clear he hM hE uv rv ra hn hw CM
    go_enter Tryz.func51, Tryz.ntmps51
    go_wp2_with fail
    have B0 := BoxL.new w [.int .i64 s.sch, .int .i64 s.dim, .slice AL s.L.length cL, .slice AV s.V.length cV, .int .i64 s.scale, .int .i64 s.wide, .slice AE s.lev.length cE, .slice AN s.neg.length cN] 32
    refine (C2.out _ (by go_grown)).mono ?_
    rintro _ w1 ⟨rfl, hb⟩
    have HX := hid (B0.below hb (by simp))
    have k1 : Below w.heap.size w w1 := Below.trans (by go_grown) (hb.mono (by simp))
    clear B0 hb C2
    have hg : w.heap.size < w1.heap.size := HX.out.lt (by simp)
    go_wp2_with fail
    go_ret
    exact ⟨rfl, k1⟩
end Go.Proofs.YtecgbelgoomneaaGreat
