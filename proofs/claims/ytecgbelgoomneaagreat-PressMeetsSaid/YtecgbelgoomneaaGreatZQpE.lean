
/- ZQpE: texts joined: QpE. -/
import Derived.Test.YtecgbelgoomneaaGreatZf
import Derived.Test.YtecgbelgoomneaaGreatZQuD
/- Near, by the program. -/
namespace Go.Proofs.YtecgbelgoomneaaGreat
open Go.RowKit
set_option maxHeartbeats 1000000
set_option maxRecDepth 100000
set_option linter.unusedVariables false
def allB (P : Nat → Bool) (m : Nat) : Bool := (List.range m).all P
theorem allB_snoc (P : Nat → Bool) (m : Nat) : allB P (m + 1) = (allB P m && P m) := by
  unfold allB
  rw [List.range_succ, List.all_append]
  simp
theorem allB_no {P : Nat → Bool} {m n : Nat} (h : P m = false) (hn : m < n) : allB P n = false := by
  unfold allB
  rw [List.all_eq_false]
  exact ⟨m, List.mem_range.2 hn, by rw [h]; decide⟩
theorem each_any {A : Option Addr} {c : Nat} (K : FuncId) (caps : Array Value) (v : List Int) (hl : v.length ≤ 9223372036854775807) (P : Nat → Bool) (w : World)
   (hK : ∀ (args : Array Value) (W : World), (callFunc K args).run Tryz.prog W = .ok (.enter K args) W) (ra : Rd (Value.int .i64) w w.heap.size A v)
   (H : ∀ (k : Nat) x, v[k]? = some x → ∀ W, Below w.heap.size w W → Calls Tryz.prog K (#[.int .i64 (k : Int), .int .i64 x] ++ caps) W fun e w' => e = .returned (.bool (P k)) ∧ Below W.heap.size W w') :
    Calls Tryz.prog 172 #[.slice A v.length c, .func (.func K) #[] caps] w fun e w' => e = .returned (.bool (allB P v.length)) ∧ Below w.heap.size w w' := by
  have HH := hid H
  have RA := hid ra
  have HS := hid (fun m => allB_snoc P m)
  have HNO := hid (fun m (h : P m = false) n (hn : m < n) => allB_no h hn)
  have H0 : Hid (allB P 0 = true) := rfl
  obtain ⟨R, hR⟩ : ∃ R, allB P v.length = R := ⟨_, rfl⟩
  have HR := hid hR
  rw [hR]
  clear hR H ra
  go_enter Tryz.func172, Tryz.ntmps172
  go_wp2_with fail
  go_loopw [5, 6, 9] (fun x5 x6 i wr => ∃ k : Nat, k ≤ v.length ∧ i = .int .i64 k ∧ allB P k = true ∧ Below w.heap.size w wr) (fun _ _ i _ => v.length - (intOf i).toNat)
  case atStart => exact ⟨0, by omega, rfl, H0.out, Below.refl _ _⟩
  case round =>
    obtain ⟨k, hk, rfl, hall, hb⟩ := hrel
    have HAL := hid hall
    clear hall
    by_cases hlt : k < v.length
    · obtain ⟨b1, o1, x, rfl, l1, ex, c1⟩ := (RA.out.below hb).at_ hlt
      have C := hid (HH.out k x ex wr hb)
      have hs := HS.out k
      have hno := HNO.out k
      obtain ⟨d, hd⟩ : ∃ d, P k = d := ⟨_, rfl⟩
      rw [hd] at C hs hno
      have HSK := hid (show allB P (k + 1) = d by rw [hs, HAL.out]; rfl)
      have HN := hid hno
      clear ex hs hno hd
      cases d with
      | true =>
        go_wp2_with fail
        refine C.out.mono ?_
        rintro _ w2 ⟨rfl, hb2⟩
        go_wp2_with fail
        go_roundw
        case rel => exact ⟨k + 1, by omega, by go_num, HSK.out, hb.trans (hb2.mono hb.size)⟩
        case measure => simp [intOf]; omega
      | false =>
        have hF : R = false := by rw [← HR.out]; exact HN.out rfl _ hlt
        subst hF
        go_wp2_with fail
        refine C.out.mono ?_
        rintro _ w2 ⟨rfl, hb2⟩
        go_wp2_with fail
        go_ret
        exact ⟨rfl, hb.trans (hb2.mono hb.size)⟩
    · obtain rfl : k = v.length := by omega
      have hF : R = true := by rw [← HR.out]; exact HAL.out
      subst hF
      go_wp2_with fail
      go_ret
      exact ⟨rfl, hb⟩
set_option maxHeartbeats 4000000 in
theorem near_cl (sch dim scale wide : Int) (nL nV nE nN : Nat) (AL AV AE AN : Option Addr) (cL cV cE cN : Nat) (g : Nat) (hs : I64 scale) (hw : I64 wide) (k : Nat) (hk : k < nE) (hk2 : k < nN) (hk3 : nE ≤ 100000) (hk4 : nN ≤ 100000) (x : Int) (hx : I64 x) (b1 o1 b2 o2 : Nat) (lv : Nat) (hlv : lv < 18446744073709551616) (z : Bool)
    (w : World) (HX : BoxL w g [.int .i64 sch, .int .i64 dim, .slice AL nL cL, .slice AV nV cV, .int .i64 scale, .int .i64 wide, .slice AE nE cE, .slice AN nN cN])
    (hE : AE = some ⟨b1, o1, none⟩) (hN : AN = some ⟨b2, o2, none⟩) (d1 : w.cell? ⟨b1, o1 + k, none⟩ = some (.int .u64 (lv : Int))) (d2 : w.cell? ⟨b2, o2 + k, none⟩ = some (.bool z)) :
    Calls Tryz.prog 173 (#[.int .i64 (k : Int), .int .i64 x] ++ #[.pointer (some ⟨g, 0, none⟩)]) w fun e w' => e = .returned (.bool (nrOne x scale wide (lv : Int) z)) ∧ Below w.heap.size w w' := by
  subst hE hN
  have hg := HX.lt (by simp)
  have h1 := lt_of_cell d1
  have h2 := lt_of_cell d2
  have C := hid (qp_levelOf x scale wide hx hs hw w)
  have hll := lvlL_le x scale wide
  have HON := hid (show nrOne x scale wide (lv : Int) z = ((z == decide (x < 0)) && (((lv : Int) == (lvlL x scale wide : Int)) || ((lvlR x scale wide != 0) && ((lv : Int) == (lvlL x scale wide : Int) + 1)))) from rfl)
  obtain ⟨l, hl1⟩ : ∃ l, lvlL x scale wide = l := ⟨_, rfl⟩
  obtain ⟨r, hr1⟩ : ∃ r, lvlR x scale wide = r := ⟨_, rfl⟩
  rw [hl1, hr1] at C HON
  rw [hl1] at hll
  obtain ⟨l9, hl9⟩ : ∃ l9, l + 1 = l9 := ⟨_, rfl⟩
  have hl2 : (l : Int) + 1 = (l9 : Int) := by omega
  rw [hl2] at HON
  obtain ⟨R, hR⟩ : ∃ R, nrOne x scale wide (lv : Int) z = R := ⟨_, rfl⟩
  rw [hR] at HON
  rw [hR]
  obtain ⟨d, hd⟩ : ∃ d, decide (x < 0) = d := ⟨_, rfl⟩
  rw [hd] at HON
  have HB := hid HX
  have f4 := (HX 4 _ rfl).1
  have f5 := (HX 5 _ rfl).1
  have hid1 : k < b1 + k + 1 := by omega
  clear HX hl1 hr1 hR
  go_enter Tryz.func173, Tryz.ntmps173
  go_wp2_with fail
  refine C.out.mono ?_
  rintro _ w2 ⟨rfl, hb2⟩
  have HY := hid (HB.out.below hb2 hg)
  have D1 : w2.cell? ⟨b1, o1 + k, none⟩ = some (.int .u64 (lv : Int)) := by rw [hb2.cell (p := ⟨b1, o1 + k, none⟩) h1]; exact d1
  have D2 : w2.cell? ⟨b2, o2 + k, none⟩ = some (.bool z) := by rw [hb2.cell (p := ⟨b2, o2 + k, none⟩) h2]; exact d2
  have f6 := (HY.out 6 _ rfl).1
  have f7 := (HY.out 7 _ rfl).1
  clear f4 f5 d1 d2 HB h1 h2 hid1
  by_cases hz : z = d
  · have tz : (z == z) = true := by simp
    subst hz
    by_cases ha : lv = l
    · have ta : ((lv : Int) == (l : Int)) = true := by rw [ha]; simp
      have hF : R = true := by rw [HON.out, ta]; simp
      subst hF
      clear ha HON
      go_wp2_with fail
      go_ret
      exact ⟨rfl, hb2⟩
    · have ta : ((lv : Int) == (l : Int)) = false := beq_eq_false_iff_ne.2 (by omega)
      by_cases hr : r = 0
      · have hF : R = false := by rw [HON.out, ta, hr]; simp
        subst hr hF
        clear ha HON
        go_wp2_with fail
        go_ret
        exact ⟨rfl, hb2⟩
      · have tr : ((r : Int) == 0) = false := beq_eq_false_iff_ne.2 (by omega)
        have tr2 : ((r : Int) != 0) = true := by simpa using hr
        have tr3 : (r != 0) = true := by simpa using hr
        obtain ⟨q, hq⟩ : ∃ q, ((lv : Int) == (l9 : Int)) = q := ⟨_, rfl⟩
        have hF : R = q := by rw [HON.out, ta, tr3, hq]; simp
        subst hF
        clear ha HON hr
        go_wp2_with fail
        go_ret
        exact ⟨by simp, hb2⟩
  · have tz : (z == d) = false := by simpa using hz
    have hF : R = false := by rw [HON.out, tz]; simp
    subst hF
    clear hz HON
    go_wp2_with fail
    go_ret
    exact ⟨rfl, hb2⟩
set_option maxHeartbeats 4000000 in
theorem qp_Near {A : Option Addr} {c : Nat} (v : List Int) (uv : ∀ x ∈ v, I64 x) (hl : v.length ≤ 9223372036854775807) (s : SentV) (p : SentP) (hn : lnS 100000 s) (hw : wfS s) (w : World) (rv : Rd (Value.int .i64) w w.heap.size A v) (ra : RdS w w.heap.size s p) :
    Calls Tryz.prog 124 #[.slice A v.length c, encT s p] w fun e w' => e = .returned (.bool (nearB v s)) ∧ Below w.heap.size w w' := by
  obtain ⟨AL, cL, AV, cV, AE, cE, AN, cN⟩ := p
  have CM := hid (fun W (h : Below w.heap.size w W) => show Calls Tryz.prog 122 #[.agg #[.int .i64 s.sch, .int .i64 s.dim, .slice AL s.L.length cL, .slice AV s.V.length cV, .int .i64 s.scale, .int .i64 s.wide, .slice AE s.lev.length cE, .slice AN s.neg.length cN]] W fun e w' => e = .returned (.bool (myQ s)) ∧ Below W.heap.size W w' from qp_may s ⟨AL, cL, AV, cV, AE, cE, AN, cN⟩ hn hw W (B := w.heap.size) h.size (ra.below h))
  have C2 := hid (fun W (h : Below w.heap.size w W) => Most_any (A := A) (c := c) v hl uv W (rv.on h))
  show Calls Tryz.prog 124 #[.slice A v.length c, .agg #[.int .i64 s.sch, .int .i64 s.dim, .slice AL s.L.length cL, .slice AV s.V.length cV, .int .i64 s.scale, .int .i64 s.wide, .slice AE s.lev.length cE, .slice AN s.neg.length cN]] w _
  by_cases hm : mayB s = true ∧ s.sch = 2
  · rw [myQ_iff.2 hm] at CM
    by_cases hd : s.dim = v.length
    · have HD := hid hd
      by_cases he : mostE v = 0
      · rw [he] at C2
        by_cases hsc : s.scale = mostV v
        · rw [near_in ⟨he, hm.1, hm.2, hd, hsc⟩]
          obtain ⟨m1, m2, m3, m4⟩ := may_lev hm.1 hm.2
          have m5 : s.dim = (s.lev.length : Int) := by
            have h := of_decide_eq_true (myQ_iff.2 hm)
            have h2 := h.2.2.2.2.2.2.1
            omega
          have hlE : s.lev.length = v.length := by omega
          have hlN : s.neg.length = v.length := by omega
          have CE := hid (fun W (h : Below w.heap.size w W) (hX : BoxL W w.heap.size [.int .i64 s.sch, .int .i64 s.dim, .slice AL s.L.length cL, .slice AV s.V.length cV, .int .i64 s.scale, .int .i64 s.wide, .slice AE s.lev.length cE, .slice AN s.neg.length cN]) => show Calls Tryz.prog 172 #[.slice A v.length c, .func (.func 173) #[] #[.pointer (some ⟨w.heap.size, 0, none⟩)]] W fun e w' => e = .returned (.bool (nrAll v s v.length)) ∧ Below W.heap.size W w' from by
            refine each_any (A := A) (c := c) 173 #[.pointer (some ⟨w.heap.size, 0, none⟩)] v hl (fun k => nrOne (v.getD k 0) (mostV v) s.wide (s.lev.getD k 0) (s.neg.getD k false)) W (cl_enter 173 (by kernel_rfl)) (rv.on h) (fun k x hx W2 h2 => ?_)
            have hk := (List.getElem?_eq_some_iff.1 hx).1
            have kw := h.trans (h2.mono h.size)
            obtain ⟨b1, o1, y, e1, l1, ey, d1⟩ := (ra.2.2.1.below kw).at_ (k := k) (by omega)
            obtain ⟨b2, o2, z, e2, l2, ez, d2⟩ := (ra.2.2.2.below kw).at_ (k := k) (by omega)
            obtain ⟨y1, y2⟩ := hw.2.2.2.2.2.2.at_ ey
            obtain ⟨lv, rfl⟩ := Int.eq_ofNat_of_zero_le y1
            rw [getD_of hx, getD_of ey, show s.neg.getD k false = z by rw [List.getD_eq_getElem?_getD, ez]; rfl, ← hsc]
            exact near_cl s.sch s.dim s.scale s.wide s.L.length s.V.length s.lev.length s.neg.length AL AV AE AN cL cV cE cN w.heap.size hw.2.2.2.2.1 hw.2.2.2.2.2.1 k (by omega) (by omega) (by omega) (by omega) x (uv x (List.mem_of_getElem? hx)) b1 o1 b2 o2 lv (by omega) z W2 (hX.below h2 (hX.lt (by simp))) e1 e2 d1 d2)
          obtain ⟨R, hR⟩ : ∃ R, nrAll v s v.length = R := ⟨_, rfl⟩
          rw [hR] at CE
          rw [hR]
          obtain ⟨M, hM⟩ : ∃ M, mostV v = M := ⟨_, rfl⟩
          rw [hM] at C2 hsc
          have HSC := hid hsc
          clear he hm hd hsc m1 m2 m3 m4 m5 hlE hlN hM hR uv rv ra hn hw
          go_enter Tryz.func124, Tryz.ntmps124
          go_wp2_with fail
          have B0 := BoxL.new w [.int .i64 s.sch, .int .i64 s.dim, .slice AL s.L.length cL, .slice AV s.V.length cV, .int .i64 s.scale, .int .i64 s.wide, .slice AE s.lev.length cE, .slice AN s.neg.length cN] 32
          refine (CM.out _ (by go_grown)).mono ?_
          rintro _ w1 ⟨rfl, hb⟩
          have HX := hid (B0.below hb (by simp))
          have k1 : Below w.heap.size w w1 := Below.trans (by go_grown) (hb.mono (by simp))
          clear B0 hb CM
          have f1 := (HX.out 1 _ rfl).1
          rw [HD.out] at f1
          go_wp2_with fail
          refine (C2.out _ k1).mono ?_
          rintro _ w2 ⟨rfl, hb2⟩
          have k2 : Below w.heap.size w w2 := k1.trans (hb2.mono k1.size)
          have HY := hid (HX.out.below hb2 (HX.out.lt (by simp)))
          have f4 := (HY.out 4 _ rfl).1
          clear f1 HX hb2 k1
          rw [HSC.out] at f4
          go_wp2_with fail
          refine (CE.out _ k2 HY.out).mono ?_
          rintro _ w3 ⟨rfl, hb3⟩
          go_wp2_with fail
          go_ret
          exact ⟨rfl, k2.trans (hb3.mono k2.size)⟩
        · rw [near_no (fun h => hsc h.2.2.2.2)]
          have t1 : (mostV v != s.scale) = true := by simpa using fun h => hsc h.symm
          obtain ⟨M, hM⟩ : ∃ M, mostV v = M := ⟨_, rfl⟩
          rw [hM] at C2 t1
          clear he hm hd hsc hM uv rv ra hn hw
          go_enter Tryz.func124, Tryz.ntmps124
          go_wp2_with fail
          have B0 := BoxL.new w [.int .i64 s.sch, .int .i64 s.dim, .slice AL s.L.length cL, .slice AV s.V.length cV, .int .i64 s.scale, .int .i64 s.wide, .slice AE s.lev.length cE, .slice AN s.neg.length cN] 32
          refine (CM.out _ (by go_grown)).mono ?_
          rintro _ w1 ⟨rfl, hb⟩
          have HX := hid (B0.below hb (by simp))
          have k1 : Below w.heap.size w w1 := Below.trans (by go_grown) (hb.mono (by simp))
          clear B0 hb CM
          have f1 := (HX.out 1 _ rfl).1
          rw [HD.out] at f1
          go_wp2_with fail
          refine (C2.out _ k1).mono ?_
          rintro _ w2 ⟨rfl, hb2⟩
          have k2 : Below w.heap.size w w2 := k1.trans (hb2.mono k1.size)
          have HY := hid (HX.out.below hb2 (HX.out.lt (by simp)))
          have f4 := (HY.out 4 _ rfl).1
          clear f1 HX hb2 k1
          go_wp2_with fail
          go_ret
          exact ⟨rfl, k2⟩
      · rw [near_no (fun h => he h.1)]
        obtain ⟨M, hM⟩ : ∃ M, mostV v = M := ⟨_, rfl⟩
        obtain ⟨E, hE⟩ : ∃ E, mostE v = E := ⟨_, rfl⟩
        rw [hM, hE] at C2
        rw [hE] at he
        have t1b : (E != 0) = true := by simpa using he
        clear he hm hd hM hE uv rv ra hn hw
        go_enter Tryz.func124, Tryz.ntmps124
        go_wp2_with fail
        have B0 := BoxL.new w [.int .i64 s.sch, .int .i64 s.dim, .slice AL s.L.length cL, .slice AV s.V.length cV, .int .i64 s.scale, .int .i64 s.wide, .slice AE s.lev.length cE, .slice AN s.neg.length cN] 32
        refine (CM.out _ (by go_grown)).mono ?_
        rintro _ w1 ⟨rfl, hb⟩
        have HX := hid (B0.below hb (by simp))
        have k1 : Below w.heap.size w w1 := Below.trans (by go_grown) (hb.mono (by simp))
        clear B0 hb CM
        have f1 := (HX.out 1 _ rfl).1
        rw [HD.out] at f1
        go_wp2_with fail
        refine (C2.out _ k1).mono ?_
        rintro _ w2 ⟨rfl, hb2⟩
        have k2 : Below w.heap.size w w2 := k1.trans (hb2.mono k1.size)
        have HY := hid (HX.out.below hb2 (HX.out.lt (by simp)))
        have f4 := (HY.out 4 _ rfl).1
        clear f1 HX hb2 k1
        go_wp2_with fail
        go_ret
        exact ⟨rfl, k2⟩
    · rw [near_no (fun h => hd h.2.2.2.1)]
      have t1 : (s.dim != (v.length : Int)) = true := by simpa using hd
      clear hd hm uv rv ra hn hw C2
      go_enter Tryz.func124, Tryz.ntmps124
      go_wp2_with fail
      have B0 := BoxL.new w [.int .i64 s.sch, .int .i64 s.dim, .slice AL s.L.length cL, .slice AV s.V.length cV, .int .i64 s.scale, .int .i64 s.wide, .slice AE s.lev.length cE, .slice AN s.neg.length cN] 32
      refine (CM.out _ (by go_grown)).mono ?_
      rintro _ w1 ⟨rfl, hb⟩
      have HX := hid (B0.below hb (by simp))
      have k1 : Below w.heap.size w w1 := Below.trans (by go_grown) (hb.mono (by simp))
      clear B0 hb CM
      have f1 := (HX.out 1 _ rfl).1
      go_wp2_with fail
      go_ret
      exact ⟨rfl, k1⟩
  · rw [near_no (fun h => hm ⟨h.2.1, h.2.2.1⟩)]
    have hq : myQ s = false := by
      cases h : myQ s with
      | false => rfl
      | true => exact absurd (myQ_iff.1 h) hm
    rw [hq] at CM
    clear hm hq uv rv ra hn hw C2
    go_enter Tryz.func124, Tryz.ntmps124
    go_wp2_with fail
    have B0 := BoxL.new w [.int .i64 s.sch, .int .i64 s.dim, .slice AL s.L.length cL, .slice AV s.V.length cV, .int .i64 s.scale, .int .i64 s.wide, .slice AE s.lev.length cE, .slice AN s.neg.length cN] 32
    refine (CM.out _ (by go_grown)).mono ?_
    rintro _ w1 ⟨rfl, hb⟩
    have HX := hid (B0.below hb (by simp))
    have k1 : Below w.heap.size w w1 := Below.trans (by go_grown) (hb.mono (by simp))
    clear B0 hb CM
    go_wp2_with fail
    go_ret
    exact ⟨rfl, k1⟩
end Go.Proofs.YtecgbelgoomneaaGreat
