
/- Qd: texts joined: TbL SpF LpF SpG SpH SpT SfP SfLv. -/
import Derived.Test.YtehbdnehlfplaaaGreatQc
import Derived.Test.YtehbdnehlfplaaaGreatQFixC
import Derived.Deep.RegionLaw
import Derived.Test.YtehbdnehlfplaaaGreatQSpE
import Derived.Test.YtehbdnehlfplaaaGreatQb
/- Shares, by the program. -/
namespace Go.Proofs.YtehbdnehlfplaaaGreat
open Go.RowKit
set_option maxHeartbeats 2000000
set_option maxRecDepth 100000
set_option linter.unusedVariables false
theorem tot_pos {xs : List Int} (h0 : ∀ x ∈ xs, 0 ≤ x) (hup : ∀ k, (xs.take k).sum ≤ 9223372036854775807) : ∀ k, k ≤ xs.length → tot (numA xs) k = ((xs.take k).sum, 0)
  | 0, _ => rfl
  | k + 1, h => by
    have ih := tot_pos h0 hup k (by omega)
    have hx : xs[k]? = some xs[k] := List.getElem?_eq_getElem (by omega)
    have e0 : xs.getD k 0 = xs[k] := getD_of hx
    have e1 : (xs.take (k + 1)).sum = (xs.take k).sum + xs[k] := by rw [List.take_add_one, hx]; exact sum_app _ _
    have p1 := h0 xs[k] (List.getElem_mem _)
    have p2 := hup (k + 1)
    have p3 : ∀ j, 0 ≤ (xs.take j).sum := fun j => by
      have : ∀ l : List Int, (∀ x ∈ l, 0 ≤ x) → 0 ≤ l.sum := by
        intro l
        induction l with
        | nil => intro _; simp
        | cons x t ih => intro h; rw [List.sum_cons]; have := h x (by simp); have := ih fun y hy => h y (by simp [hy]); omega
      exact this _ fun x hx => h0 x (List.mem_of_mem_take hx)
    have p4 := p3 k
    rw [e1] at p2 ⊢
    have hi : I64 xs[k] := by unfold I64; omega
    have hs : I64 ((xs.take k).sum + xs[k]) := by unfold I64; omega
    have hn : numA xs k = (xs[k], 0) := by
      unfold numA
      rw [e0]
      have ha : absI xs[k] = xs[k] := by unfold absI; omega
      rw [ha, ckV_in hi, ckE_in hi]
    rw [tot, ih, hn]
    rw [if_pos rfl, if_pos rfl, ckV_in hs, ckE_in hs]
theorem size_pw {f : Nat} {z : List Int} (hl : z.length ≤ 4096) (hf : f ≤ 30) : sizeV (pwI (f : Int) z) = ((powL (f : Int) z).sum : Int) ∧ sizeE (pwI (f : Int) z) = 0 ∧ I64s (pwI (f : Int) z) := by
  have hx : ∀ x ∈ pwI (f : Int) z, 0 ≤ x ∧ x ≤ 1073741824 := fun x hx => by
    unfold pwI powL at hx
    rw [List.map_map] at hx
    obtain ⟨y, _, rfl⟩ := List.mem_map.1 hx
    have := expN_up (y := (topZ z - y).toNat) (f := (f : Int).toNat)
    show 0 ≤ ((expN _ _ : Nat) : Int) ∧ ((expN _ _ : Nat) : Int) ≤ _
    omega
  have hup : ∀ k, ((pwI (f : Int) z).take k).sum ≤ 9223372036854775807 := fun k => by
    by_cases h : k ≤ z.length
    · have := (pwI_sum (f : Int) z k).2
      omega
    · rw [List.take_of_length_le (by rw [pwI_len]; omega)]
      have := (pwI_sum (f : Int) z z.length).2
      rw [List.take_of_length_le (by rw [pwI_len]; omega)] at this
      omega
  have ht := tot_pos (fun x h => (hx x h).1) hup (pwI (f : Int) z).length (Nat.le_refl _)
  rw [List.take_of_length_le (Nat.le_refl _), pwI_total] at ht
  refine ⟨?_, ?_, fun x h => by have := hx x h; unfold I64; omega⟩
  · unfold sizeV; rw [if_neg (by rw [pwI_len]; omega), ht]
  · unfold sizeE; rw [if_neg (by rw [pwI_len]; omega), ht]
theorem tb_shares {A : Option Addr} {c : Nat} (f : Nat) (hf : f ≤ 30) (z : List Int) (hne : z ≠ []) (hl : z.length ≤ 4096) (w : World) (ra : Rd (Value.int .i64) w w.heap.size A (pwI (f : Int) z)) :
    Calls Tryz.prog 49 #[.slice A (pwI (f : Int) z).length c, .int .i64 (f : Int)] w (OwnInts (sofL (f : Int) z) 0 w) := by
  obtain ⟨s1, s2, s3⟩ := size_pw hl hf
  have CZ := hid (Size_any (A := A) (c := c) (pwI (f : Int) z) (by rw [pwI_len]; omega) s3 w ra)
  rw [s1, s2] at CZ
  have hS0 := pow_sum (frac := (f : Int)) hne (by omega)
  have hSm := (pwI_sum (f : Int) z z.length).2
  rw [List.take_of_length_le (by rw [pwI_len]; omega), pwI_total] at hSm
  obtain ⟨T, hT⟩ : ∃ T, (powL (f : Int) z).sum = T := ⟨_, rfl⟩
  rw [hT] at CZ hS0 hSm
  obtain ⟨PW, hPW⟩ : ∃ PW, pwI (f : Int) z = PW := ⟨_, rfl⟩
  have hpl : PW.length = z.length := by rw [← hPW, pwI_len]
  rw [hPW] at CZ ra ⊢
  obtain ⟨SL, hSL⟩ : ∃ SL, sofL (f : Int) z = SL := ⟨_, rfl⟩
  have hsl : SL.length = z.length := by rw [← hSL, sofL_len]
  rw [hSL]
  obtain ⟨M, hM⟩ : ∃ M, z.length = M := ⟨_, rfl⟩
  rw [hM] at hpl hsl hl hSm
  rw [hpl] at CZ ⊢
  have HT := hid hT
  have HPW := hid hPW
  have HSL := hid hSL
  have HM := hid hM
  have HPL := hid hpl
  have HSLl := hid hsl
  have HF := hid hf
  have RA := hid ra
  have hT1 : (1 : Int) ≤ (T : Int) := by omega
  have hT2 : (T : Int) ≤ 4398046511104 := by omega
  clear hT hPW hSL hM hpl hsl hf ra s1 s2 s3 hS0 hSm hne
  go_enter Tryz.func49, Tryz.ntmps49
  go_wp2_with fail
  refine CZ.out.mono ?_
  rintro _ w1 ⟨rfl, hb1⟩
  have hmk := run_make_row' (P := Tryz.prog) 22 2 (.int .i64 0) 8 Tryz.underlying22 info_i64 rfl .i64 .i64 M (by omega) (by omega) w1
  have hrw := World.rowIs_made w1 (.int .i64 0) M 2
  obtain ⟨w3, hw3⟩ : ∃ w3, w1.alloc (.cells (madeCells #[.int .i64 0] M) 2) = w3 := ⟨_, rfl⟩
  have hb3 : Below w.heap.size w w3 := by rw [← hw3]; exact hb1.alloc hb1.size _
  rw [hw3] at hmk hrw
  have hrow0 : w3.rowIs w1.heap.size 2 M (fun j => if j < 0 then .int .i64 (SL.getD j 0) else .int .i64 0) := by simpa using hrw
  have HR0 := hid hrow0
  have HB3 := hid hb3
  have HS1 := hid hb1.size
  clear hrw hb3 hrow0 hb1 CZ
  go_wp2_with fail
  go_loopw [7, 9, 10, 24] (fun _ _ _ xi wr => ∃ k : Nat, k ≤ M ∧ xi = .int .i64 (k : Int) ∧ wr.rowIs w1.heap.size 2 M (fun j => if j < k then .int .i64 (SL.getD j 0) else .int .i64 0) ∧ Below w.heap.size w wr) (fun _ _ _ xi _ => M - (intOf xi).toNat)
  case atStart => exact ⟨0, by omega, rfl, HR0.out, HB3.out⟩
  case round =>
    obtain ⟨k, hk, rfl, hrow, hbel⟩ := hrel
    have HROW := hid hrow
    have HBL := hid hbel
    clear HB3 HR0 hmk hw3 hrow
    by_cases hlt : k < M
    · obtain ⟨b4, o4, pv, rfl, l4, en, c4⟩ := (RA.out.on hbel).at_ (k := k) (by rw [HPL.out]; exact hlt)
      obtain ⟨xj, hzj⟩ : ∃ xj, z[k]? = some xj := ⟨_, List.getElem?_eq_getElem (show k < z.length by rw [HM.out]; exact hlt)⟩
      have e1 := pwI_at (frac := (f : Int)) hzj
      have e2 := sofL_at2 (frac := (f : Int)) hzj
      have e3 := pow_le_sum (frac := (f : Int)) hzj
      rw [HPW.out] at e1
      rw [HSL.out, HT.out] at e2
      rw [HT.out] at e3
      obtain ⟨p, hp⟩ : ∃ p, expN (topZ z - xj).toNat (f : Int).toNat = p := ⟨_, rfl⟩
      rw [hp] at e1 e2 e3
      obtain rfl : (p : Int) = pv := Option.some.inj (e1.symm.trans en)
      obtain ⟨u1, u2⟩ := div_sh (p := p) (S := T) (k := f) (by omega) e3 HF.out
      have CD := hid (fix_Div (p : Int) (T : Int) f HF.out (by unfold I64; omega) (by unfold I64; omega) (by omega) wr)
      rw [u1, u2] at CD
      rw [show (f : Int).toNat = f from rfl] at e2
      obtain ⟨s, hs⟩ : ∃ s, shN (2 ^ f) T p = s := ⟨_, rfl⟩
      rw [hs] at CD e2
      have HE2 := hid e2
      clear e1 e2 e3 en hzj hp u1 u2 hs hbel
      go_wp2_with fail
      refine CD.out.mono ?_
      rintro _ w4 ⟨rfl, hb4⟩
      have hz := HROW.out.lt
      have hrow1 := HROW.out.of_block (hb4.block _ hz)
      have c2 := hrow1.cell hlt
      rw [if_neg (Nat.lt_irrefl k)] at c2
      have f2 := hrow1.frozen k
      have HR1 := hid hrow1
      have HB4 : Hid (Below w.heap.size w w4) := hid (HBL.out.trans (hb4.mono HBL.out.size))
      clear hb4 hrow1 hz
      go_wp2_with fail
      go_roundw
      case rel =>
        refine ⟨k + 1, by omega, by go_num, ?_, HB4.out.setCell HS1.out _⟩
        refine (HR1.out.set k (.int .i64 (s : Int))).congr fun j hj => ?_
        by_cases e : j = k
        · subst e
          rw [if_pos rfl, if_pos (by omega), List.getD_eq_getElem?_getD, HE2.out]
          rfl
        · rw [if_neg e]
          by_cases e2 : j < k
          · rw [if_pos e2, if_pos (by omega)]
          · rw [if_neg e2, if_neg (by omega)]
      case measure => simp [intOf]; omega
    · obtain rfl : k = M := by omega
      have hvl := HSLl.out
      have hown : wr.ownsRow w.heap.size 2 1 (.slice (some ⟨w1.heap.size, 0, none⟩) SL.length k) SL.length (SL.map (Value.int .i64)) := by
        have h1 := own_made (B := w.heap.size) (w' := w) (HROW.out.congr (g := fun j => .int .i64 (SL.getD j 0)) fun i hi => by rw [if_pos hi]) HS1.out (by unfold maxLen; omega)
        have e : (List.range k).map (fun j => Value.int .i64 (SL.getD j 0)) = SL.map (Value.int .i64) := by
          apply List.ext_getElem?
          intro i
          by_cases hi : i < k
          · rw [List.getElem?_map, List.getElem?_map, List.getElem?_range hi]
            show some (Value.int .i64 (SL.getD i 0)) = _
            rw [List.getD_eq_getElem?_getD, List.getElem?_eq_getElem (by omega)]
            rfl
          · rw [List.getElem?_eq_none (by simp; omega), List.getElem?_eq_none (by simp; omega)]
        rw [e] at h1
        rw [hvl]
        exact h1
      have HOW := hid hown
      have HVL := hid hvl
      clear hvl hown
      go_wp2_with fail
      go_ret2
      exact ⟨some ⟨w1.heap.size, 0, none⟩, k, by rw [HVL.out]; rfl, HOW.out, HBL.out⟩
theorem tb_Soft {A : Option Addr} {c : Nat} (frac : Int) (z : List Int) (hz : z.length ≤ 9223372036854775807) (iz : I64s z) (w : World) (ra : Rd (Value.int .i64) w w.heap.size A z) :
    Calls Tryz.prog 28 #[.int .i64 frac, .slice A z.length c] w (OwnInts (sofV frac z) (sofE frac z) w) := by
  have CB := hid (tb_Best (A := A) (c := c) z hz w ra)
  by_cases hB : bstE z = 0
  · have hB2 : bstN z = bstGo z z.length := if_pos hB
    rw [hB, hB2] at CB
    obtain ⟨hne, hl4⟩ := bstE_ok.1 hB
    obtain ⟨b, hb⟩ : ∃ b, bstGo z z.length = b := ⟨_, rfl⟩
    have hbl := bst_in hne
    have htop := top_at hne
    rw [hb] at CB hbl htop
    by_cases h1 : frac < 0 ∨ 30 < frac
    · obtain ⟨e1, e2⟩ := sofE_arg hB h1
      rw [e1, e2]
      have CN := hid (fun w => tb_behind_no frac h1 w)
      clear hB hB2 e1 e2 ra hb hbl htop h1
      go_enter Tryz.func28, Tryz.ntmps28
      go_wp2_with fail
      refine CB.out.mono ?_
      rintro _ w1 ⟨rfl, hb1⟩
      go_wp2_with fail
      refine (CN.out _).mono ?_
      rintro _ _ ⟨rfl, rfl⟩
      go_wp2_with fail
      go_ret2
      exact ⟨none, 0, rfl, own_nil _ _ _, hb1⟩
    obtain ⟨f, rfl⟩ : ∃ f : Nat, frac = (f : Int) := ⟨frac.toNat, by omega⟩
    have hf : f ≤ 30 := by omega
    have CY := hid (fun w => tb_behind_yes (f : Int) (by omega) (by omega) w)
    have CP := hid (fun W r => tb_powers (A := A) (c := c) f hf z hB iz W r)
    have CS := hid (fun A' c' W r => tb_shares (A := A') (c := c') f hf z hne hl4 W r)
    have HNE := hid hne
    obtain ⟨top, ht⟩ : ∃ top, topZ z = top := ⟨_, rfl⟩
    rw [ht] at htop CP
    have RA := hid ra
    have HT := hid htop
    have hM := hbl
    obtain ⟨M, hMM⟩ : ∃ M, z.length = M := ⟨_, rfl⟩
    have HM := hid hMM
    rw [hMM] at hbl CB CP ⊢
    obtain ⟨vE, hvE⟩ : ∃ vE, sofE (f : Int) z = vE := ⟨_, rfl⟩
    obtain ⟨vV, hvV⟩ : ∃ vV, sofV (f : Int) z = vV := ⟨_, rfl⟩
    obtain ⟨vP, hvP⟩ : ∃ vP, powV (f : Int) z = vP := ⟨_, rfl⟩
    rw [hvE, hvP] at CP
    rw [hvE, hvV]
    have HV : Hid (sofE (f : Int) z = vE ∧ sofV (f : Int) z = vV ∧ powV (f : Int) z = vP) := hid ⟨hvE, hvV, hvP⟩
    clear hB hB2 ra hb htop ht h1 hvE hvV hvP hMM hM hne hf
    go_enter Tryz.func28, Tryz.ntmps28
    go_wp2_with fail
    refine CB.out.mono ?_
    rintro _ w1 ⟨rfl, hb1⟩
    have HB1 := hid hb1
    clear hb1 CB
    go_wp2_with fail
    refine (CY.out _).mono ?_
    rintro _ _ ⟨rfl, rfl⟩
    go_wp2_with fail
    obtain ⟨b2, o2, y, rfl, l2, em, d2⟩ := (RA.out.on HB1.out).at_ (k := b) (by rw [HM.out]; exact hbl)
    obtain rfl : top = y := Option.some.inj (HT.out.symm.trans em)
    clear em
    have fin : ∀ (A5 : Option Addr) (c5 : Nat) (W : World), W.ownsRow w.heap.size 2 1 (.slice A5 vP.length c5) vP.length (vP.map (Value.int .i64)) → Below w.heap.size w W →
        (vE ≠ 0 → vV = []) ∧ (vE = 0 → Rd (Value.int .i64) W W.heap.size A5 (pwI (f : Int) z) ∧ vP.length = (pwI (f : Int) z).length ∧ sofL (f : Int) z = vV) := fun A5 c5 W ho hb => by
      refine ⟨fun h => ?_, fun h => ?_⟩
      · rw [← HV.out.2.1]
        unfold sofV
        rw [HV.out.1]
        exact if_neg h
      · have e1 : vP = pwI (f : Int) z := by
          rw [← HV.out.2.2]
          unfold powV
          rw [HV.out.1]
          exact if_pos h
        refine ⟨by rw [← e1]; exact own_rd ho, by rw [e1], ?_⟩
        rw [← HV.out.2.1]
        unfold sofV
        rw [HV.out.1]
        exact (if_pos h).symm
    have FIN := hid fin
    clear fin
    go_region_law (first | (go_simp; go_at_call 47; refine (tb_makeRows _).mono ?_; rintro _ w4 ⟨rfl, hb4⟩; have k4 : Below w.heap.size w w4 := HB1.out.drew.trans (hb4.mono HB1.out.size); have d4 := (hb4.cell (p := ⟨b2, o2 + b, none⟩) l2).trans d2; have K4 := hid k4; clear k4 hb4) | (go_simp; go_at_call 48; refine (CP.out _ (RA.out.on K4.out)).mono ?_; rintro _ w5 ⟨A5, c5, rfl, ho5, hb5⟩; have K5 : Hid (Below w.heap.size w w5) := hid (K4.out.trans (hb5.mono K4.out.size)); have HO5 : Hid (w5.ownsRow w.heap.size 2 1 (.slice A5 vP.length c5) vP.length (vP.map (Value.int .i64))) := hid (own_base ho5 K4.out.size); clear ho5 hb5))
    all_goals (
      obtain ⟨g1, g2⟩ := FIN.out A5 c5 w5 HO5.out K5.out
      by_cases hv : vE = 0
      · obtain ⟨g3, g4, g5⟩ := g2 hv
        subst hv
        have C := hid (CS.out A5 c5 w5 g3)
        rw [← g4, g5] at C
        clear g1 g2 g3 g4 g5 d4 d2 FIN CP CY
        go_wp2_with fail
        refine C.out.mono ?_
        rintro _ w6 ⟨A6, c6, rfl, ho6, hb6⟩
        go_wp2_with fail
        go_ret2
        exact ⟨A6, c6, rfl, own_base ho6 K5.out.size, K5.out.trans (hb6.mono K5.out.size)⟩
      · have g3 := g1 hv
        subst g3
        have hne : (vE != 0) = true := by simpa using hv
        clear g1 g2 hv d4 d2 FIN CP CY
        go_wp2_with fail
        go_ret2
        exact ⟨none, 0, rfl, own_nil _ _ _, K5.out⟩)
  · obtain ⟨e1, e2⟩ := sofE_bst (frac := frac) hB
    have e3 : bstN z = 0 := if_neg hB
    rw [e1, e2]
    rw [e3] at CB
    obtain ⟨E, hE⟩ : ∃ E, bstE z = E := ⟨_, rfl⟩
    rw [hE] at CB hB ⊢
    have hne : (E != 0) = true := by simpa using hB
    clear e1 e2 e3 hE hB ra
    go_enter Tryz.func28, Tryz.ntmps28
    go_wp2_with fail
    refine CB.out.mono ?_
    rintro _ w1 ⟨rfl, hb1⟩
    go_wp2_with fail
    go_ret2
    exact ⟨none, 0, rfl, own_nil _ _ _, hb1⟩
end Go.Proofs.YtehbdnehlfplaaaGreat
/- Lines of classes, by the landed code: shares, the class, how far they are off. -/
namespace Go.Proofs.YtehbdnehlfplaaaGreat
open Go.RowKit
set_option maxHeartbeats 2000000
set_option maxRecDepth 100000
set_option linter.unusedVariables false
theorem sf_Tell {Au Ax : Option Addr} {cu cx : Nat} (o : Int) (ho : I64 o) (u x : List Int) (hu : u.length ≤ cu) (hcu : cu ≤ 9223372036854775807) (iu : I64s u) (hx : x.length ≤ 1099511627776) (ix : I64s x) (f : Int) (w : World)
    (ru : Rd (Value.int .i64) w w.heap.size Au u) (rx : Rd (Value.int .i64) w w.heap.size Ax x) :
    Calls Tryz.prog 13 #[.int .i64 o, .slice Au u.length cu, .slice Ax x.length cx, .int .i64 f] w (OwnInts (stV o u x f) (stE o u x f) w) := by
  have CL := hid (sf_lineByLine (Au := Au) (Ax := Ax) (cu := cu) (cx := cx) o ho u x hu hcu iu hx ix f w ru rx)
  obtain ⟨U, hU⟩ : ∃ U, u.length = U := ⟨_, rfl⟩
  obtain ⟨N, hN⟩ : ∃ N, x.length = N := ⟨_, rfl⟩
  rw [hU, hN] at CL ⊢
  by_cases h1 : lzE o u x f = 0
  · have e0 : lzO o u x f = lzV o u x f := if_pos h1
    have eE : stE o u x f = sofE f (lzV o u x f) := by unfold stE; rw [if_neg (by simp [h1])]
    have eV : stV o u x f = sofV f (lzV o u x f) := by unfold stV sofV; rw [eE]
    have o8 := (rwE_ok.1 (lzE_ok.1 h1).1).2.1
    have CS := hid (fun (A : Option Addr) (c : Nat) (W : World) h => tb_Soft (A := A) (c := c) f (lzV o u x f) (by rw [lzV_len]; omega) (lzV_i64 o u x f) W h)
    rw [h1, e0] at CL
    rw [eE, eV]
    obtain ⟨z, hz⟩ : ∃ z, lzV o u x f = z := ⟨_, rfl⟩
    rw [hz] at CL CS ⊢
    clear h1 e0 eE eV o8 hz hU hN hu hcu iu hx ix ru rx ho
    go_enter Tryz.func13, Tryz.ntmps13
    go_wp2_with fail
    refine CL.out.mono ?_
    rintro _ w1 ⟨A1, c1, rfl, ho1, hb1⟩
    have K1 := hid hb1
    have R1 := hid (own_rd ho1)
    clear ho1 hb1 CL
    go_wp2_with fail
    refine (CS.out _ _ _ R1.out).mono ?_
    rintro _ w2 ⟨A2, c2, rfl, ho2, hb2⟩
    have HO2 := hid ho2
    have K2 : Hid (Below w.heap.size w w2) := hid (K1.out.trans (hb2.mono K1.out.size))
    clear ho2 hb2
    go_wp2_with fail
    go_ret2
    exact ⟨A2, c2, rfl, own_base HO2.out K1.out.size, K2.out⟩
  · have eE : stE o u x f = lzE o u x f := by unfold stE; rw [if_pos h1]
    have eV : stV o u x f = [] := if_neg (by rw [eE]; exact h1)
    rw [eE, eV]
    obtain ⟨E, hE⟩ : ∃ E, lzE o u x f = E := ⟨_, rfl⟩
    rw [hE] at CL h1 ⊢
    have hne : (E != 0) = true := by simpa using h1
    clear h1 eE eV hE hU hN hu hcu iu hx ix ru rx ho
    go_enter Tryz.func13, Tryz.ntmps13
    go_wp2_with fail
    refine CL.out.mono ?_
    rintro _ w1 ⟨A1, c1, rfl, ho1, hb1⟩
    have K1 := hid hb1
    clear ho1 hb1 CL
    go_wp2_with fail
    go_ret2
    exact ⟨none, 0, rfl, own_nil _ _ _, K1.out⟩
theorem sf_Class {Au Ax : Option Addr} {cu cx : Nat} (o : Int) (ho : I64 o) (u x : List Int) (hu : u.length ≤ cu) (hcu : cu ≤ 9223372036854775807) (iu : I64s u) (hx : x.length ≤ 1099511627776) (ix : I64s x) (f : Int) (w : World)
    (ru : Rd (Value.int .i64) w w.heap.size Au u) (rx : Rd (Value.int .i64) w w.heap.size Ax x) :
    Calls Tryz.prog 21 #[.int .i64 o, .slice Au u.length cu, .slice Ax x.length cx, .int .i64 f] w fun e w' => e = .returned (.tuple #[.int .i64 (kcN o u x f : Int), .int .i64 (kcE o u x f)]) ∧ Below w.heap.size w w' := by
  have CL := hid (sf_lineByLine (Au := Au) (Ax := Ax) (cu := cu) (cx := cx) o ho u x hu hcu iu hx ix f w ru rx)
  obtain ⟨U, hU⟩ : ∃ U, u.length = U := ⟨_, rfl⟩
  obtain ⟨N, hN⟩ : ∃ N, x.length = N := ⟨_, rfl⟩
  rw [hU, hN] at CL ⊢
  by_cases h1 : lzE o u x f = 0
  · have e0 : lzO o u x f = lzV o u x f := if_pos h1
    have eE : kcE o u x f = bstE (lzV o u x f) := by unfold kcE; rw [if_neg (by simp [h1])]
    have eV : kcN o u x f = bstN (lzV o u x f) := by unfold kcN bstN; rw [eE]
    have o8 := (rwE_ok.1 (lzE_ok.1 h1).1).2.1
    have CS := hid (fun (A : Option Addr) (c : Nat) (W : World) h => tb_Best (A := A) (c := c) (lzV o u x f) (by rw [lzV_len]; omega) W h)
    rw [h1, e0] at CL
    rw [eE, eV]
    obtain ⟨z, hz⟩ : ∃ z, lzV o u x f = z := ⟨_, rfl⟩
    rw [hz] at CL CS ⊢
    clear h1 e0 eE eV o8 hz hU hN hu hcu iu hx ix ru rx ho
    go_enter Tryz.func21, Tryz.ntmps21
    go_wp2_with fail
    refine CL.out.mono ?_
    rintro _ w1 ⟨A1, c1, rfl, ho1, hb1⟩
    have K1 := hid hb1
    have R1 := hid (own_rd ho1)
    clear ho1 hb1 CL
    go_wp2_with fail
    refine (CS.out _ _ _ R1.out).mono ?_
    rintro _ w2 ⟨rfl, hb2⟩
    have K2 : Hid (Below w.heap.size w w2) := hid (K1.out.trans (hb2.mono K1.out.size))
    clear hb2
    go_wp2_with fail
    go_ret2
    exact ⟨rfl, K2.out⟩
  · have eE : kcE o u x f = lzE o u x f := by unfold kcE; rw [if_pos h1]
    have eV : kcN o u x f = 0 := if_neg (by rw [eE]; exact h1)
    rw [eE, eV]
    obtain ⟨E, hE⟩ : ∃ E, lzE o u x f = E := ⟨_, rfl⟩
    rw [hE] at CL h1 ⊢
    have hne : (E != 0) = true := by simpa using h1
    clear h1 eE eV hE hU hN hu hcu iu hx ix ru rx ho
    go_enter Tryz.func21, Tryz.ntmps21
    go_wp2_with fail
    refine CL.out.mono ?_
    rintro _ w1 ⟨A1, c1, rfl, ho1, hb1⟩
    have K1 := hid hb1
    clear ho1 hb1 CL
    go_wp2_with fail
    go_ret2
    exact ⟨rfl, K1.out⟩
theorem sf_Off {Au Ax : Option Addr} {cu cx : Nat} (o : Int) (ho : I64 o) (u : List Int) (s : SmpV) (hu : u.length ≤ cu) (hcu : cu ≤ 9223372036854775807) (iu : I64s u) (hx : s.X.length ≤ 1099511627776) (ix : I64s s.X) (f : Int) (w : World)
    (ru : Rd (Value.int .i64) w w.heap.size Au u) (rx : Rd (Value.int .i64) w w.heap.size Ax s.X) :
    Calls Tryz.prog 30 #[.int .i64 o, .slice Au u.length cu, .agg #[.slice Ax s.X.length cx, .int .i64 s.Y], .int .i64 f] w (OwnInts (soV o u s f) (soE o u s f) w) := by
  obtain ⟨w2, hw2⟩ : ∃ w2, w.alloc (.cells #[.slice Ax s.X.length cx, .int .i64 s.Y] 36) = w2 := ⟨_, rfl⟩
  have hb2 : Below w.heap.size w w2 := by rw [← hw2]; go_grown
  have hs2 : w.heap.size < w2.heap.size := by rw [← hw2]; simp
  have c0 : w2.cell? ⟨w.heap.size, 0, none⟩ = some (.slice Ax s.X.length cx) := by rw [← hw2]; simp [go_sem]
  have c1 : w2.cell? ⟨w.heap.size, 1, none⟩ = some (.int .i64 s.Y) := by rw [← hw2]; simp [go_sem]
  have CT := hid (sf_Tell (Au := Au) (Ax := Ax) (cu := cu) (cx := cx) o ho u s.X hu hcu iu hx ix f w2 (ru.on hb2) (rx.on hb2))
  obtain ⟨U, hU⟩ : ∃ U, u.length = U := ⟨_, rfl⟩
  obtain ⟨N, hN⟩ : ∃ N, s.X.length = N := ⟨_, rfl⟩
  rw [hU, hN] at CT
  rw [hU]
  rw [hN] at c0 hw2 ⊢
  have HB2 := hid hb2
  have hoo := ho
  by_cases h1 : stE o u s.X f = 0
  · have eE : soE o u s f = if s.Y < 0 ∨ o ≤ s.Y then 1 else 0 := by unfold soE; rw [if_neg (by simp [h1])]
    rw [h1] at CT
    obtain ⟨h4, h5⟩ := stE_ok.1 h1
    obtain ⟨f0, f1⟩ := (lzE_ok.1 h4).2.2.1
    obtain ⟨K, T, rfl, hT, hT3, hpw⟩ := sf_pow f0 f1
    obtain ⟨Y, hY⟩ : ∃ Y, s.Y = Y := ⟨_, rfl⟩
    rw [hY] at c1 hw2 eE ⊢
    have eV : soV o u s (K : Int) = if soE o u s (K : Int) = 0 then (stV o u s.X (K : Int)).set Y.toNat ((stV o u s.X (K : Int)).getD Y.toNat 0 - (T : Int)) else [] := by unfold soV; rw [hY, hT]
    have e1 : stV o u s.X (K : Int) = sofL (K : Int) (lzV o u s.X (K : Int)) := if_pos h1
    have hl := lzV_len o u s.X (K : Int)
    have hsl := sofL_len (K : Int) (lzV o u s.X (K : Int))
    obtain ⟨_, _, a3, _⟩ := sof_whole h5
    have o2 := (rwE_ok.1 (lzE_ok.1 h4).1).1
    obtain ⟨V, hV⟩ : ∃ V, stV o u s.X (K : Int) = V := ⟨_, rfl⟩
    rw [hV] at CT eV e1
    rw [← e1] at a3 hsl
    rw [hT] at a3
    obtain ⟨L, hL⟩ : ∃ L, V.length = L := ⟨_, rfl⟩
    have hLo : (L : Int) = o := by omega
    by_cases hy : Y < 0 ∨ o ≤ Y
    · rw [if_pos hy] at eE
      have eV2 : soV o u s (K : Int) = [] := by rw [eV, if_neg (by rw [eE]; decide)]
      rw [eE, eV2]
      clear eE eV eV2 e1 h1 h4 h5 hT hpw hV a3 hsl hl hU hN hY hu hcu iu hx ix ru rx hb2 f0 f1 ho o2 hLo
      have CY := hid (fun W => sp_class (o := o) (y := Y) (b := false) ⟨fun h => (by cases h), fun h => absurd h (by omega)⟩ hoo W)
      clear hy
      go_enter Tryz.func30, Tryz.ntmps30
      go_wp2_with fail
      refine CT.out.mono ?_
      rintro _ w3 ⟨A3, c3, rfl, ho3, hb3⟩
      have K3 : Hid (Below w.heap.size w w3) := hid (HB2.out.trans (hb3.mono HB2.out.size))
      have c1' := (hb3.cell (p := ⟨w.heap.size, 1, none⟩) hs2).trans c1
      clear hb3 ho3 hw2 c0 c1 CT
      go_wp2_with fail
      refine (CY.out _).mono ?_
      rintro _ _ ⟨rfl, rfl⟩
      go_wp2_with fail
      go_ret2
      exact ⟨none, 0, rfl, own_nil _ _ _, K3.out⟩
    · rw [if_neg hy] at eE
      obtain ⟨q, rfl⟩ : ∃ q : Nat, Y = (q : Int) := ⟨Y.toNat, by omega⟩
      have hqL : q < L := by omega
      obtain ⟨v, hv⟩ : ∃ v, V.getD q 0 = v := ⟨_, rfl⟩
      have hvb := a3 v (by rw [← hv, List.getD_eq_getElem?_getD, List.getElem?_eq_getElem (by omega), Option.getD_some]; exact List.getElem_mem _)
      obtain ⟨y, hy', hys⟩ := sf_less hvb.1 hvb.2 hT3
      have eV2 : soV o u s (K : Int) = V.set q y := by rw [eV, if_pos eE, show ((q : Int)).toNat = q from rfl, hv, hy']
      rw [eE, eV2]
      have HLL := hid hL
      have hq0 : ¬ (q : Int) < 0 := by omega
      have hqo : ¬ (q : Int) ≥ o := by omega
      have hqi : (q : Int) < (L : Int) := by omega
      have CY := hid (fun W => sp_class (o := o) (y := (q : Int)) (b := true) ⟨fun _ => ⟨by omega, by omega⟩, fun _ => rfl⟩ hoo W)
      have HV := hid hv
      clear eE eV eV2 e1 h1 h4 h5 hT hV a3 hsl hl hU hN hY hu hcu iu hx ix ru rx hb2 f0 f1 ho o2 hLo hy hvb hy' hv hL
      go_enter Tryz.func30, Tryz.ntmps30
      go_wp2_with fail
      refine CT.out.mono ?_
      rintro _ w3 ⟨A3, c3, rfl, ho3, hb3⟩
      have K3 : Hid (Below w.heap.size w w3) := hid (HB2.out.trans (hb3.mono HB2.out.size))
      have c1' := (hb3.cell (p := ⟨w.heap.size, 1, none⟩) hs2).trans c1
      obtain ⟨g, rfl, hg, hc, hf⟩ := own_cellk ho3 (k := q) (by rw [HLL.out]; exact hqL)
      rw [HV.out] at hc
      have hst := ((own_on ho3 ((Below.refl _ w3).drew)).stored q (.int .i64 y)).1
      rw [← List.map_set, HLL.out] at hst
      rw [HLL.out]
      have HST := hid hst
      obtain ⟨p1, p2, p3, p4⟩ := hpw.out
      obtain ⟨p5, p6⟩ := hys.out
      have hgl : g < w3.heap.size := lt_of_cell hc
      have HGG := hid hg
      clear hb3 ho3 hw2 c0 c1 CT hst hg hys hpw
      go_wp2_with fail
      refine (CY.out _).mono ?_
      rintro _ _ ⟨rfl, rfl⟩
      go_wp2_with fail
      go_region
      go_wp2_with fail
      go_ret2
      refine ⟨some ⟨g, 0, none⟩, c3, by rw [List.length_set, HLL.out]; rfl, ?_, K3.out.drew.setCell (Nat.le_trans HB2.out.size HGG.out) _⟩
      rw [List.length_set, HLL.out]
      exact own_base HST.out HB2.out.size
  · have eE : soE o u s f = stE o u s.X f := by unfold soE; rw [if_pos h1]
    have eV : soV o u s f = [] := if_neg (by rw [eE]; exact h1)
    rw [eE, eV]
    obtain ⟨E, hE⟩ : ∃ E, stE o u s.X f = E := ⟨_, rfl⟩
    rw [hE] at CT h1 ⊢
    have hne : (E != 0) = true := by simpa using h1
    obtain ⟨Y, hY⟩ : ∃ Y, s.Y = Y := ⟨_, rfl⟩
    rw [hY] at c1 hw2 ⊢
    clear h1 eE eV hE hU hN hY hu hcu iu hx ix ru rx hb2 ho
    go_enter Tryz.func30, Tryz.ntmps30
    go_wp2_with fail
    refine CT.out.mono ?_
    rintro _ w3 ⟨A3, c3, rfl, ho3, hb3⟩
    have K3 : Hid (Below w.heap.size w w3) := hid (HB2.out.trans (hb3.mono HB2.out.size))
    clear hb3 ho3 hw2 c0 c1 CT
    go_wp2_with fail
    go_ret2
    exact ⟨none, 0, rfl, own_nil _ _ _, K3.out⟩
end Go.Proofs.YtehbdnehlfplaaaGreat
/- Lines, by the landed code: vectors' mean, made in place. -/
namespace Go.Proofs.YtehbdnehlfplaaaGreat
open Go.RowKit
set_option maxHeartbeats 2000000
set_option maxRecDepth 100000
set_option linter.unusedVariables false
theorem mean_at {Q S : List Int} {k : Nat} {x : Int} (hl : Q.length = S.length) (hx : S[k]? = some x) : (Q.take k ++ S.drop k)[k]? = some x := by
  have hk : k < S.length := (List.getElem?_eq_some_iff.1 hx).1
  rw [List.getElem?_append_right (by rw [List.length_take]; omega), List.length_take, Nat.min_eq_left (by omega), Nat.sub_self, List.getElem?_drop, Nat.add_zero, hx]
theorem mean_set {Q S : List Int} {k : Nat} {q : Int} (hl : Q.length = S.length) (hq : Q[k]? = some q) : (Q.take k ++ S.drop k).set k q = Q.take (k + 1) ++ S.drop (k + 1) := by
  have hk : k < Q.length := (List.getElem?_eq_some_iff.1 hq).1
  rw [List.set_append_right _ _ (by rw [List.length_take]; omega), List.length_take, Nat.min_eq_left (by omega), Nat.sub_self, List.take_add_one, hq, List.drop_eq_getElem_cons (by omega : k < S.length), List.set_cons_zero]
  simp only [Option.toList_some, List.append_assoc, List.singleton_append]
theorem ln_Mean {A : Option Addr} {c : Nat} (n : Int) (hn : I64 n) (rows : List (List Int)) (ho : RowsOk rows) (hr : rows.length ≤ 1099511627776) (hcap : rows.length ≤ c) (w : World) (ra : RdRows w w.heap.size A rows) :
    Calls Tryz.prog 16 #[.int .i64 n, .slice A rows.length c] w (OwnInts (lmV n rows) (lmE n rows) w) := by
  have CS := hid (Sum_any A c rows ho hr hcap w ra)
  obtain ⟨R, hR⟩ : ∃ R, rows.length = R := ⟨_, rfl⟩
  by_cases h1 : n < 1
  · have e1 : lmE n rows = 1 := if_pos h1
    have e2 : lmV n rows = [] := if_neg (by rw [e1]; decide)
    rw [e1, e2]
    rw [hR]
    clear e1 e2 ra ho hR hcap
    go_enter Tryz.func16, Tryz.ntmps16
    go_wp2_with fail
    go_ret2
    exact ⟨none, 0, rfl, own_nil _ _ _, Below.refl _ _⟩
  · have eE : lmE n rows = (sumAll rows).2 := if_neg h1
    have hl := sumAll_len ho
    have hi := sumAll_i64 ho
    by_cases h2 : (sumAll rows).2 = 0
    · have eV : lmV n rows = (sumAll rows).1.map fun x => x / n := if_pos (by rw [eE]; exact h2)
      rw [eE, eV]
      rw [h2] at CS ⊢
      obtain ⟨S, hS⟩ : ∃ S, (sumAll rows).1 = S := ⟨_, rfl⟩
      rw [hS] at CS hl hi ⊢
      obtain ⟨M, hM⟩ : ∃ M, S.length = M := ⟨_, rfl⟩
      have HM := hid hM
      have HI := hid hi
      have HN := hid hn
      have hn1 : 1 ≤ n := by omega
      have HN1 := hid hn1
      rw [hM] at hl
      have HL := hid hl
      obtain ⟨Q, hQ⟩ : ∃ Q, (S.map fun x => x / n) = Q := ⟨_, rfl⟩
      have HQ := hid hQ
      have HQl : Hid (Q.length = M) := hid (by rw [← hQ, List.length_map]; exact hM)
      rw [hQ]
      rw [hR] at CS ⊢
      clear eE eV h2 hS hi ra ho hQ hn hl hcap
      go_enter Tryz.func16, Tryz.ntmps16
      go_wp2_with fail
      refine CS.out.mono ?_
      rintro _ w1 ⟨A1, c1, rfl, ho1, hb1⟩
      rw [HM.out] at ho1 ⊢
      have HO1 := hid ho1
      have K1 := hid hb1
      clear ho1 hb1 hM
      go_wp2_with fail
      have hl := HL.out
      go_loopw [8, 9, 22] (fun _ _ xi wr => ∃ (k : Nat) (T : List Int), k ≤ M ∧ xi = .int .i64 (k : Int) ∧ T = Q.take k ++ S.drop k ∧ wr.ownsRow w.heap.size 2 1 (.slice A1 M c1) M (T.map (Value.int .i64)) ∧ Below w.heap.size w wr) (fun _ _ xi _ => M - (intOf xi).toNat)
      case atStart => exact ⟨0, S, Nat.zero_le _, rfl, rfl, HO1.out, K1.out⟩
      case round =>
        obtain ⟨k, T, hk, rfl, hT, ho, hbel⟩ := hrel
        have HT := hid hT
        have HO := hid ho
        have HB := hid hbel
        clear hT ho HO1 K1
        by_cases hlt : k < M
        · obtain ⟨x, en⟩ : ∃ x, S[k]? = some x := ⟨_, List.getElem?_eq_getElem (by rw [HM.out]; exact hlt)⟩
          have ix : I64 x := HI.out.at_ en
          obtain ⟨u1, u2⟩ := ln_quo ix HN1.out
          have CQ := hid (fix_Quot x n ix HN.out (by have := HN1.out; omega) wr)
          rw [u1, u2] at CQ
          obtain ⟨q, hq⟩ : ∃ q, x / n = q := ⟨_, rfl⟩
          rw [hq] at CQ
          have hqn : Q[k]? = some q := by rw [← HQ.out, List.getElem?_map, en, ← hq]; rfl
          have hlen : Q.length = S.length := by rw [HQl.out, HM.out]
          have hTk : T[k]? = some x := by rw [HT.out]; exact mean_at hlen en
          have HTS := hid (mean_set hlen hqn)
          have hTl : k < T.length := (List.getElem?_eq_some_iff.1 hTk).1
          obtain ⟨g, rfl, hg, hc, hf⟩ := own_cellk HO.out hTl
          rw [getD_of hTk] at hc
          have hgl : g < wr.heap.size := own_lt HO.out
          clear en ix u1 u2 hq hqn hlen hTk hbel
          go_wp2_with fail
          refine CQ.out.mono ?_
          rintro _ w4 ⟨rfl, hb4⟩
          have hc4 := (hb4.cell (p := ⟨g, k, none⟩) hgl).trans hc
          have hf4 : w4.frozen? ⟨g, k, none⟩ = false := ((bcells hb4).2 g k hgl).trans hf
          have HO4 := hid (own_on HO.out hb4)
          have K4 : Hid (Below w.heap.size w w4) := hid (HB.out.trans (hb4.mono HB.out.size))
          clear hb4 hc hf CQ
          go_wp2_with fail
          go_roundw
          case rel =>
            refine ⟨k + 1, T.set k q, by omega, by go_num, by rw [HT.out, HTS.out], ?_, K4.out.setCell hg _⟩
            have := (HO4.out.stored k (.int .i64 q)).1
            rwa [← List.map_set] at this
          case measure => simp [intOf]; omega
        · obtain rfl : k = M := by omega
          have hTQ : T = Q := by rw [HT.out, List.take_of_length_le (by rw [HQl.out]; exact Nat.le_refl _), List.drop_of_length_le (by rw [HM.out]; exact Nat.le_refl _), List.append_nil]
          subst hTQ
          clear hbel
          go_wp2_with fail
          go_ret2
          have hf := HO.out
          refine ⟨A1, c1, by rw [HQl.out]; rfl, by rw [HQl.out]; exact hf, HB.out⟩
    · have eV : lmV n rows = [] := if_neg (by rw [eE]; exact h2)
      rw [eE, eV]
      obtain ⟨E, hE⟩ : ∃ E, (sumAll rows).2 = E := ⟨_, rfl⟩
      rw [hE] at CS h2 ⊢
      have hne : (E != 0) = true := by simpa using h2
      rw [hR] at CS ⊢
      have hn1 : ¬ n < 1 := h1
      clear eE eV hE h2 ra ho hi hl hR hcap
      go_enter Tryz.func16, Tryz.ntmps16
      go_wp2_with fail
      refine CS.out.mono ?_
      rintro _ w1 ⟨A1, c1, rfl, ho1, hb1⟩
      clear ho1
      go_wp2_with fail
      go_ret2
      exact ⟨none, 0, rfl, own_nil _ _ _, hb1⟩
end Go.Proofs.YtehbdnehlfplaaaGreat
/- Lines of classes, by the landed code: whether they go with samples; how one bends them. -/
namespace Go.Proofs.YtehbdnehlfplaaaGreat
open Go.RowKit
set_option maxHeartbeats 4000000
set_option maxRecDepth 100000
set_option linter.unusedVariables false
theorem sf_fits {Au A : Option Addr} {cu c : Nat} (o : Int) (ho : I64 o) (u : List Int) (hu : u.length ≤ cu) (hcu : cu ≤ 9223372036854775807) (ls : List SmpV) (hl : ls.length ≤ 9223372036854775807) (hX : ∀ s ∈ ls, s.X.length ≤ 9223372036854775807) (w : World)
    (ru : Rd (Value.int .i64) w w.heap.size Au u) (ra : RdSm w w.heap.size A ls) :
    Calls Tryz.prog 14 #[.int .i64 o, .slice Au u.length cu, .slice A ls.length c] w fun e w' => e = .returned (.int .i64 (sfE o u ls)) ∧ Below w.heap.size w w' := by
  have hu9 : u.length ≤ 9223372036854775807 := Nat.le_trans hu hcu
  have CS := hid (fun W => sp_sees (Au := Au) (cu := cu) o ho u hu9 W)
  obtain ⟨U, hU⟩ : ∃ U, u.length = U := ⟨_, rfl⟩
  obtain ⟨M, hM⟩ : ∃ M, ls.length = M := ⟨_, rfl⟩
  by_cases h1 : rwE o u = 0
  · obtain ⟨_, _, _, n2, n17⟩ := rwE_ok.1 h1
    have eE : sfE o u ls = scE (((u.length / o.toNat : Nat) : Int) - 1) o u ls := by unfold sfE; rw [if_neg (by simp [h1])]
    have e3 : seN o u = ((u.length / o.toNat : Nat) : Int) - 1 := if_pos h1
    rw [h1, e3] at CS
    rw [eE]
    obtain ⟨n, hn⟩ : ∃ n, u.length / o.toNat = n := ⟨_, rfl⟩
    rw [hn] at n2 n17 CS ⊢
    obtain ⟨n1, hn1⟩ : ∃ n1, (n : Int) - 1 = n1 := ⟨_, rfl⟩
    have hI : I64 n1 := by clear hu9 hn; unfold I64; omega
    rw [hn1] at CS ⊢
    have CC := hid (fun W h => sf_Check (Aw := Au) (A := A) (cw := cu) (c := c) n1 o hI ho u hu9 hu ls hl hX W h)
    have RA := hid ra
    obtain ⟨E, hE⟩ : ∃ E, scE n1 o u ls = E := ⟨_, rfl⟩
    rw [hE] at CC ⊢
    rw [hU] at CS CC ⊢
    rw [hM] at CC ⊢
    clear e3 eE hE hU hM hn hn1 hu hcu hl hX ru ra h1 hu9 hI n2 n17 ho
    go_enter Tryz.func14, Tryz.ntmps14
    go_wp2_with fail
    refine (CS.out _).mono ?_
    rintro _ _ ⟨rfl, rfl⟩
    go_wp2_with fail
    refine (CC.out _ RA.out).mono ?_
    rintro _ w2 ⟨rfl, hb2⟩
    have K2 := hid hb2
    clear hb2
    go_wp2_with fail
    go_ret
    exact ⟨rfl, K2.out⟩
  · have eE : sfE o u ls = rwE o u := by unfold sfE; rw [if_pos h1]
    have e3 : seN o u = 0 := if_neg h1
    rw [eE]
    rw [e3] at CS
    obtain ⟨E, hE⟩ : ∃ E, rwE o u = E := ⟨_, rfl⟩
    rw [hE] at CS h1 ⊢
    have hne : (E != 0) = true := by simpa using h1
    rw [hU] at CS ⊢
    rw [hM]
    clear eE e3 hE h1 hU hM ru ra hu hl hu9 ho
    go_enter Tryz.func14, Tryz.ntmps14
    go_wp2_with fail
    refine (CS.out _).mono ?_
    rintro _ _ ⟨rfl, rfl⟩
    go_wp2_with fail
    go_ret
    exact ⟨rfl, Below.refl _ _⟩
/-- How one sample bends the lines, or nothing. -/
def sbO (o : Int) (u : List Int) (f : Int) (s : SmpV) : List Int := if sbE o u f s = 0 then sbV o u f s else []
theorem so_short {o : Int} {u : List Int} {s : SmpV} {f : Int} (h : soE o u s f = 0) : u.length ≤ 136 ∧ s.X.length ≤ 16 := by
  obtain ⟨h1, h2, _⟩ := lzE_ok.1 (stE_ok.1 (soE_ok.1 h).1).1
  obtain ⟨o2, o8, hr, _, h17⟩ := rwE_ok.1 h1
  have hd := Nat.div_add_mod u.length o.toNat
  rw [hr] at hd
  obtain ⟨q, hq⟩ : ∃ q, u.length / o.toNat = q := ⟨_, rfl⟩
  rw [hq] at hd h17 h2
  have hm : o.toNat * q ≤ 8 * 17 := Nat.mul_le_mul (by omega) h17
  exact ⟨by omega, by omega⟩
theorem sf_bend {Au Ax : Option Addr} {cu cx : Nat} (o : Int) (ho : I64 o) (u : List Int) (s : SmpV) (hu : u.length ≤ cu) (hcu : cu ≤ 9223372036854775807) (iu : I64s u) (hx : s.X.length ≤ 1099511627776) (ix : I64s s.X) (f : Int) (w : World)
    (ru : Rd (Value.int .i64) w w.heap.size Au u) (rx : Rd (Value.int .i64) w w.heap.size Ax s.X) :
    Calls Tryz.prog 15 #[.int .i64 o, .slice Au u.length cu, .agg #[.slice Ax s.X.length cx, .int .i64 s.Y], .int .i64 f] w (OwnInts (sbO o u f s) (sbE o u f s) w) := by
  obtain ⟨w2, hw2⟩ : ∃ w2, w.alloc (.cells #[.slice Ax s.X.length cx, .int .i64 s.Y] 36) = w2 := ⟨_, rfl⟩
  have hb2 : Below w.heap.size w w2 := by rw [← hw2]; exact (Below.refl _ _).alloc (Nat.le_refl _) _
  have hs2 : w.heap.size < w2.heap.size := by rw [← hw2]; simp
  have m0 : w2.cell? ⟨w.heap.size, 0, none⟩ = some (.slice Ax s.X.length cx) := by rw [← hw2]; simp [go_sem]
  have m1 : w2.cell? ⟨w.heap.size, 1, none⟩ = some (.int .i64 s.Y) := by rw [← hw2]; simp [go_sem]
  have CO2 := hid (sf_Off (Au := Au) (Ax := Ax) (cu := cu) (cx := cx) o ho u s hu hcu iu hx ix f w2 (ru.on hb2) (rx.on hb2))
  have RX2 := hid (rx.on hb2)
  have K2 := hid hb2
  have CS := hid (fun (y : Int) (hy : I64 y) (W : World) (h : Rd (Value.int .i64) W W.heap.size Ax s.X) => Scale_any (A := Ax) (c := cx) s.X (by omega) ix y f hy W h)
  obtain ⟨hoi, hol⟩ := soV_small (o := o) (u := u) (f := f) (s := s)
  have HSB := hid (sb_bad (o := o) (u := u) (f := f) (s := s))
  have HSG := hid (sb_good (o := o) (u := u) (f := f) (s := s))
  have HSV := hid (sbV_is o u f s)
  have HSO : Hid (sbO o u f s = if sbE o u f s = 0 then sbV o u f s else []) := hid rfl
  have HSP : Hid (∀ y, sbP s f y = unV (behE f) (numS s.X y f) s.X.length ++ [y]) := hid (fun y => rfl)
  have HSQ : Hid (∀ y, sbQ s f y = unE (behE f) (numS s.X y f) s.X.length) := hid (fun y => rfl)
  have HSH := hid (so_short (o := o) (u := u) (f := f) (s := s))
  obtain ⟨V, hV⟩ : ∃ V, soV o u s f = V := ⟨_, rfl⟩
  obtain ⟨E, hE⟩ : ∃ E, soE o u s f = E := ⟨_, rfl⟩
  obtain ⟨ZE, hZE⟩ : ∃ z, sbE o u f s = z := ⟨_, rfl⟩
  obtain ⟨ZV, hZV⟩ : ∃ z, sbV o u f s = z := ⟨_, rfl⟩
  obtain ⟨ZO, hZO⟩ : ∃ z, sbO o u f s = z := ⟨_, rfl⟩
  rw [hV] at CO2 hoi hol HSG HSV
  rw [hE] at CO2 HSB HSG HSH
  rw [hZE] at HSB HSG HSO ⊢
  rw [hZV] at HSV HSO
  rw [hZO] at HSO ⊢
  obtain ⟨U, hU⟩ : ∃ U, u.length = U := ⟨_, rfl⟩
  obtain ⟨N, hN⟩ : ∃ N, s.X.length = N := ⟨_, rfl⟩
  obtain ⟨Y, hY⟩ : ∃ Y, s.Y = Y := ⟨_, rfl⟩
  rw [hU] at CO2 HSH ⊢
  rw [hN, hY] at CO2
  rw [hN] at CS HSP HSQ HSH
  rw [hN] at hw2 m0 ⊢
  rw [hY] at hw2 m1 ⊢
  have HOI := hid hoi
  have HOLL := hid hol
  clear hV hE hZE hZV hZO hU hN hY hb2 hoi ru rx iu ix hu hcu ho hx
  by_cases hE0 : E = 0
  · subst hE0
    have hU136 := (HSH.out rfl).1
    have hmk := fun W => run_room (P := Tryz.prog) 22 2 (.int .i64 0) 8 Tryz.underlying22 info_i64 rfl U (by omega) (by omega) W
    have HUS := hid hU136
    obtain ⟨L, hL⟩ : ∃ L, V.length = L := ⟨_, rfl⟩
    rw [hL] at hol
    have HL := hid hL
    clear hU136
    go_enter Tryz.func15, Tryz.ntmps15
    go_wp2_with fail
    refine CO2.out.mono ?_
    rintro _ w3 ⟨A3, c3, rfl, ho3, hb3⟩
    rw [HL.out]
    have K3 : Hid (Below w.heap.size w w3) := hid (K2.out.trans (hb3.mono K2.out.size))
    have RX3 := hid (RX2.out.on hb3)
    have RV := hid (own_rd ho3)
    have m0' := (hb3.cell (p := ⟨w.heap.size, 0, none⟩) hs2).trans m0
    have hs3 : w.heap.size < w3.heap.size := Nat.lt_of_lt_of_le hs2 hb3.size
    have HM0 := hid m0'
    clear hb3 ho3 hw2 m0 m1 hL
    go_wp2_with fail
    clear m0' hmk
    obtain ⟨w5, hw5⟩ : ∃ w5, w3.alloc (.cells (madeCells #[Value.int IntKind.i64 0] U) 2) = w5 := ⟨_, rfl⟩
    have hg5 : Below w3.heap.size w3 w5 := by rw [← hw5]; exact (Below.refl _ _).alloc (Nat.le_refl _) _
    have ho5 : w5.ownsRow w3.heap.size 2 1 (.slice (some ⟨w3.heap.size, 0, none⟩) 0 U) 0 [] := by rw [← hw5]; exact own_room w3 2 (.int .i64 0) U (by have := HUS.out; unfold maxLen; omega) (Nat.le_refl _)
    have HG5 := hid hg5
    have HO5 := hid ho5
    have HW5 := hid hw5
    clear hg5 ho5 hw5
    go_loopw [12, 14, 15, 16, 33] (fun xg _ _ _ xi wr => ∃ (j : Nat) (T : List Int) (A6 : Option Addr) (c6 : Nat), j ≤ L ∧ xi = .int .i64 (j : Int) ∧ xg = .slice A6 T.length c6 ∧ T = ((V.take j).map (sbP s f)).flatten ∧ (∀ y ∈ V.take j, sbQ s f y = 0) ∧ wr.ownsRow w3.heap.size 2 1 (.slice A6 T.length c6) T.length (T.map (Value.int .i64)) ∧ Below w3.heap.size w3 wr) (fun _ _ _ _ xi _ => L - (intOf xi).toNat)
    case atStart =>
      refine ⟨0, [], some ⟨w3.heap.size, 0, none⟩, U, Nat.zero_le _, rfl, rfl, rfl, fun y hy => by simp at hy, ?_, ?_⟩
      · rw [HW5.out]; exact HO5.out
      · rw [HW5.out]; exact HG5.out
    case round =>
      obtain ⟨j, T, A6, c6, hj, rfl, rfl, hT, ha, ho, hbel⟩ := hrel
      have HT := hid hT
      have HA := hid ha
      have HO6 := hid ho
      have HB6 := hid hbel
      have hTl : T.length ≤ 8 * 4097 := by
        rw [hT]
        refine Nat.le_trans (sf_flat_len (b := 4097) fun p hp => ?_) ?_
        · obtain ⟨x, _, rfl⟩ := List.mem_map.1 hp
          exact sbP_len s f x
        · rw [List.length_map, List.length_take]
          have := HL.out
          exact Nat.mul_le_mul_right 4097 (by omega)
      have HTL := hid hTl
      have KR : Hid (Below w.heap.size w wr) := hid (K3.out.trans (hbel.mono K3.out.size))
      clear hT ha ho hTl
      by_cases hlt : j < L
      · obtain ⟨b2, o2, y, rfl, l2, ey, c2'⟩ := (RV.out.on hbel).at_ (k := j) (by rw [HL.out]; exact hlt)
        have HEY := hid ey
        have iy : I64 y := HOI.out.at_ ey
        have n0 := (hbel.cell (p := ⟨w.heap.size, 0, none⟩) hs3).trans HM0.out
        have CS3 := hid (CS.out y iy wr (RX3.out.on hbel))
        obtain ⟨vs, hvs⟩ : ∃ v, unV (behE f) (numS s.X y f) N = v := ⟨_, rfl⟩
        obtain ⟨es, hes⟩ : ∃ v, unE (behE f) (numS s.X y f) N = v := ⟨_, rfl⟩
        have HP := hid (HSP.out y)
        have HQ := hid (HSQ.out y)
        have hvl : vs.length ≤ 4096 := by rw [← hvs]; exact unV_len _ _ _
        rw [hvs, hes] at CS3
        rw [hvs] at HP
        rw [hes] at HQ
        have HJL := hid hlt
        clear ey iy hvs hes hbel
        by_cases hes0 : es = 0
        · subst hes0
          go_wp2_with fail
          refine CS3.out.mono ?_
          rintro _ w4 ⟨A4, c4, rfl, ho4, hb4⟩
          have HB4 : Hid (Below w3.heap.size w3 w4) := hid (HB6.out.trans (hb4.mono HB6.out.size))
          have h6 := own_on HO6.out hb4
          have R4 := own_rd ho4
          have hz4 := HB4.out.size
          clear ho4 hb4 n0 c2'
          go_wp2_with (at_builtin; refine wpList_app (Value.int .i64) (fun _ => rfl) _ rfl _ _ 22 rfl w3.heap.size 2 (.int .i64 0) 8 Tryz.underlying22 info_i64 rfl T A6 c6 rfl h6 vs A4 c4 _ rfl R4 (by have := HTL.out; simp [maxLen]; omega) (by have := HTL.out; simp; omega) hz4 ?_)
          rintro T5 A7 c7 w5' hT5 ho5 hb5 _
          have HB5 : Hid (Below w3.heap.size w3 w5') := hid (HB4.out.trans hb5)
          have hT5l : T5.length ≤ 8 * 4097 + 4096 := by rw [hT5, List.length_append]; have := HTL.out; omega
          have HT5 := hid hT5
          have r0' : Rd (Value.int .i64) (w5'.alloc (.cells #[.int .i64 y] 2)) _ (some ⟨w5'.heap.size, 0, none⟩) [y] := rd_one (one_cell w5' (.int .i64 y) 2).1
          have h7 := own_on ho5 ((Below.refl w5'.heap.size w5').alloc (Nat.le_refl _) (.cells #[.int .i64 y] 2))
          have hz5 := HB5.out.size
          clear ho5 hb5 h6 R4 hT5
          go_wp2_with (at_builtin; refine wpList_app (Value.int .i64) (fun _ => rfl) _ rfl _ _ 22 rfl w3.heap.size 2 (.int .i64 0) 8 Tryz.underlying22 info_i64 rfl T5 A7 c7 rfl h7 [y] _ 1 _ rfl r0' (by simp [maxLen]; omega) (by simp; omega) (by simp; omega) ?_)
          rintro T8 A8 c8 w8 hT8 ho8 hb8 _
          have HB8 : Hid (Below w3.heap.size w3 w8) := hid ((HB5.out.alloc HB5.out.size _).trans hb8)
          have HO8 := hid ho8
          have hTT : Hid (T8 = ((V.take (j + 1)).map (sbP s f)).flatten) := hid (by
            rw [hT8, HT5.out, HT.out, List.take_add_one, HEY.out]
            simp only [Option.toList_some, List.map_append, List.map_cons, List.map_nil, List.flatten_append, List.flatten_cons, List.flatten_nil, List.append_nil]
            rw [HP.out, List.append_assoc])
          clear ho8 hb8 hT8 h7 r0' hz5 hz4
          go_wp2_with fail
          go_roundw
          case rel => exact ⟨j + 1, T8, A8, c8, HJL.out, by go_num, rfl, hTT.out, take_all HA.out HEY.out HQ.out, HO8.out, HB8.out⟩
          case measure => have := HJL.out; simp [intOf]; omega
        · have hne : (es != 0) = true := by simpa using hes0
          have e0 : ZE = es := by
            rw [HSG.out (by trivial), fstE_at HA.out HEY.out (by rw [HQ.out]; exact hes0), HQ.out]
          have e1 : ZO = [] := by rw [HSO.out, if_neg (by rw [e0]; exact hes0)]
          subst e0
          subst e1
          clear hes0
          go_wp2_with fail
          refine CS3.out.mono ?_
          rintro _ w4 ⟨A4, c4, rfl, ho4, hb4⟩
          have K4 : Hid (Below w.heap.size w w4) := hid (KR.out.trans (hb4.mono KR.out.size))
          clear ho4 hb4 n0 c2'
          go_wp2_with fail
          go_ret2
          exact ⟨none, 0, rfl, own_nil _ _ _, K4.out⟩
      · obtain rfl : j = L := by omega
        have hVt : V.take j = V := List.take_of_length_le (by rw [HL.out]; exact Nat.le_refl _)
        have hse : ZE = 0 := by
          rw [HSG.out (by trivial)]
          refine fstE_ok.2 fun e he => ?_
          obtain ⟨y, hy, rfl⟩ := List.mem_map.1 he
          exact HA.out y (by rw [hVt]; exact hy)
        have hTV : ZO = T := by rw [HSO.out, if_pos hse, HSV.out, HT.out, hVt]
        subst hTV
        subst hse
        clear hVt hbel hlt hj
        go_wp2_with fail
        go_ret2
        exact ⟨A6, c6, rfl, own_base HO6.out K3.out.size, KR.out⟩
  · have hne : (E != 0) = true := by simpa using hE0
    have e0 : ZE = E := HSB.out hE0
    have e1 : ZO = [] := by rw [HSO.out, if_neg (by rw [e0]; exact hE0)]
    subst e0
    subst e1
    clear hE0
    go_enter Tryz.func15, Tryz.ntmps15
    go_wp2_with fail
    refine CO2.out.mono ?_
    rintro _ w3 ⟨A3, c3, rfl, ho3, hb3⟩
    have K3 : Hid (Below w.heap.size w w3) := hid (K2.out.trans (hb3.mono K2.out.size))
    clear hb3 ho3 hw2 m0 m1
    go_wp2_with fail
    go_ret2
    exact ⟨none, 0, rfl, own_nil _ _ _, K3.out⟩
end Go.Proofs.YtehbdnehlfplaaaGreat
/- Lines of classes, by the landed code: how they are to be bent. -/
namespace Go.Proofs.YtehbdnehlfplaaaGreat
open Go.RowKit
set_option maxHeartbeats 4000000
set_option maxRecDepth 100000
set_option linter.unusedVariables false
theorem sb_len136 {o : Int} {u : List Int} {f : Int} {s : SmpV} : (sbV o u f s).length ≤ 32776 := by
  have h1 := soV_small (o := o) (u := u) (f := f) (s := s)
  have h2 := sbV_len (o := o) (u := u) (f := f) (s := s)
  have h3 := Nat.mul_le_mul_right 4097 h1.2
  omega
theorem sf_Grad {Au A : Option Addr} {cu c : Nat} (o : Int) (ho : I64 o) (u : List Int) (hu : u.length ≤ cu) (hcu : cu ≤ 9223372036854775807) (iu : I64s u) (f : Int) (ls : List SmpV) (hl : ls.length ≤ 9223372036854775807) (hX : ∀ s ∈ ls, I64s s.X ∧ I64 s.Y ∧ s.X.length ≤ 9223372036854775807) (w : World)
    (ru : Rd (Value.int .i64) w w.heap.size Au u) (ra : RdSm w w.heap.size A ls) :
    Calls Tryz.prog 6 #[.int .i64 o, .slice Au u.length cu, .int .i64 f, .slice A ls.length c] w (OwnInts (sgdV o u f ls) (sgdE o u f ls) w) := by
  have CF := hid (sf_fits (Au := Au) (A := A) (cu := cu) (c := c) o ho u hu hcu ls hl (fun s hs => (hX s hs).2.2) w ru ra)
  obtain ⟨U, hU⟩ : ∃ U, u.length = U := ⟨_, rfl⟩
  obtain ⟨M, hM⟩ : ∃ M, ls.length = M := ⟨_, rfl⟩
  by_cases h1 : sfE o u ls = 0
  · obtain ⟨s1, s2, _, _⟩ := sfE_ok h1
    have hM64 : M ≤ 64 := by omega
    have HBAD := hid (fun (k : Nat) (s : SmpV) h (hs : ls[k]? = some s) hn => sg_bad (f := f) h1 h hs hn)
    have HGOOD := hid (fun h => sg_good (f := f) h1 h)
    rw [hM] at HGOOD
    have CME := hid (fun (A2 : Option Addr) (c2 : Nat) (hc2 : (ls.map (sbV o u f)).length ≤ c2) (W : World) (h : RdRows W W.heap.size A2 (ls.map (sbV o u f))) => ln_Mean (A := A2) (c := c2) (M : Int) (by unfold I64; omega) (ls.map (sbV o u f)) (sb_rows o u f ls) (by rw [List.length_map]; omega) hc2 W h)
    rw [h1] at CF
    obtain ⟨vV, hvV⟩ : ∃ v, sgdV o u f ls = v := ⟨_, rfl⟩
    obtain ⟨vE, hvE⟩ : ∃ v, sgdE o u f ls = v := ⟨_, rfl⟩
    rw [hvV, hvE] at HBAD HGOOD
    rw [hvV, hvE]
    have CB := hid (fun (s : SmpV) (hs : s ∈ ls) (Ax : Option Addr) (cx : Nat) (W : World) (h1 : Rd (Value.int .i64) W W.heap.size Au u) (h2 : Rd (Value.int .i64) W W.heap.size Ax s.X) => sf_bend (Au := Au) (Ax := Ax) (cu := cu) (cx := cx) o ho u s hu hcu iu (by have := s1 s hs; omega) (hX s hs).1 f W h1 h2)
    have hmk := fun W => run_room (P := Tryz.prog) 38 22 (.slice none 0 0) 24 Tryz.underlying38 info_row rfl M (by omega) (by omega) W
    rw [hU] at CF CB ⊢
    rw [hM] at CF ⊢
    have HM := hid hM
    have RU := hid ru
    have RA := hid ra
    have HM64 := hid hM64
    clear h1 hvV hvE hU hM ru ra hX iu hu hcu hl s1 s2 ho
    go_enter Tryz.func6, Tryz.ntmps6
    go_wp2_with fail
    refine CF.out.mono ?_
    rintro _ w1 ⟨rfl, hb1⟩
    have K1 := hid hb1
    clear hb1 CF
    go_wp2_with fail
    clear hmk
    obtain ⟨w5, hw5⟩ : ∃ w5, w1.alloc (.cells (madeCells #[Value.slice none 0 0] M) 22) = w5 := ⟨_, rfl⟩
    have hg5 : Below w1.heap.size w1 w5 := by rw [← hw5]; exact (Below.refl _ _).alloc (Nat.le_refl _) _
    have ho5 : w5.ownsRow w.heap.size 22 1 (.slice (some ⟨w1.heap.size, 0, none⟩) 0 M) 0 [] := by rw [← hw5]; exact own_room w1 22 (.slice none 0 0) M (by unfold maxLen; omega) K1.out.size
    have HG5 := hid hg5
    have HO5 := hid ho5
    have HW5 := hid hw5
    clear hg5 ho5 hw5
    go_loopw [11, 13, 14, 15, 28] (fun xo _ _ _ xi wr => ∃ (k : Nat) (A2 : Option Addr) (c2 : Nat), k ≤ M ∧ xi = .int .i64 (k : Int) ∧ xo = .slice A2 k c2 ∧ (∀ x ∈ ls.take k, sbE o u f x = 0) ∧ OwnRw wr w.heap.size A2 c2 ((ls.take k).map (sbV o u f)) ∧ Below w.heap.size w wr) (fun _ _ _ _ xi _ => M - (intOf xi).toNat)
    case atStart =>
      refine ⟨0, some ⟨w1.heap.size, 0, none⟩, M, Nat.zero_le _, rfl, rfl, fun x hx => by simp at hx, ?_, ?_⟩
      · rw [HW5.out]; exact ⟨[], rfl, HO5.out, fun k p xs hp => by simp at hp⟩
      · rw [HW5.out]; exact K1.out.trans (HG5.out.mono K1.out.size)
    case round =>
      obtain ⟨k, A2, c2, hk, rfl, rfl, hz, ho, hbel⟩ := hrel
      have HB := hid hbel
      have HZ := hid hz
      have HO := hid ho
      clear hz ho K1
      by_cases hlt : k < M
      · obtain ⟨b1, o1, s, Ax, cx, rfl, l1, en, c1, d1, rx⟩ := (RA.out.on hbel).at_ (k := k) (by rw [HM.out]; exact hlt)
        have hs : s ∈ ls := List.mem_of_getElem? en
        have HEN := hid en
        obtain ⟨w2, hw2⟩ : ∃ w2, wr.alloc (.cells #[.slice Ax s.X.length cx, .int .i64 s.Y] 36) = w2 := ⟨_, rfl⟩
        have hb2 : Below wr.heap.size wr w2 := by rw [← hw2]; exact (Below.refl _ _).alloc (Nat.le_refl _) _
        have m0 : w2.cell? ⟨wr.heap.size, 0, none⟩ = some (.slice Ax s.X.length cx) := by rw [← hw2]; simp [go_sem]
        have m1 : w2.cell? ⟨wr.heap.size, 1, none⟩ = some (.int .i64 s.Y) := by rw [← hw2]; simp [go_sem]
        have CB2 := hid (CB.out s hs Ax cx w2 ((RU.out.on hbel).on hb2) (rx.on hb2))
        have K2 : Hid (Below w.heap.size w w2) := hid (HB.out.trans (hb2.mono HB.out.size))
        have HO2 := hid (HO.out.on hb2)
        have HSO : Hid (sbO o u f s = if sbE o u f s = 0 then sbV o u f s else []) := hid rfl
        have HSL := hid (sb_len136 (o := o) (u := u) (f := f) (s := s))
        obtain ⟨E, hE⟩ : ∃ E, sbE o u f s = E := ⟨_, rfl⟩
        obtain ⟨T, hT⟩ : ∃ T, sbO o u f s = T := ⟨_, rfl⟩
        rw [hE] at HSO
        rw [hT] at HSO
        rw [hE, hT] at CB2
        have HEE := hid hE
        obtain ⟨N, hN⟩ : ∃ N, s.X.length = N := ⟨_, rfl⟩
        obtain ⟨Y, hY⟩ : ∃ Y, s.Y = Y := ⟨_, rfl⟩
        rw [hN, hY] at CB2
        rw [hN] at c1 hw2 m0
        rw [hY] at d1 hw2 m1
        have hw : IntKind.i64.wrap ((k : Int) + 1) = ((k + 1 : Nat) : Int) := Go.IntWalk.i64_in _ (by omega)
        have HW := hid hw
        have HKM := hid hlt
        clear hw en rx hs hE hT hN hY hb2 hbel
        by_cases hE0 : E = 0
        · have hTV : Hid (T = sbV o u f s) := hid (by rw [HSO.out, if_pos hE0])
          subst hE0
          have hTl : T.length ≤ 32776 := by rw [hTV.out]; exact HSL.out
          have HTL := hid hTl
          clear hTl
          go_wp2_with fail
          refine CB2.out.mono ?_
          rintro _ w3 ⟨A6, c6, rfl, ho3, hb3⟩
          have K3 : Hid (Below w.heap.size w w3) := hid (K2.out.trans (hb3.mono K2.out.size))
          have HO3 := hid (HO2.out.on hb3)
          have HRX := hid (rdx_own (base := w.heap.size) ho3 K2.out.size (fun g hg => (HO2.out.lies g hg).2))
          have HC6 := hid (own_cap ho3)
          have g7 : Below w3.heap.size w3 (w3.alloc (.cells #[.slice A6 T.length c6] 22)) := (Below.refl _ _).alloc (Nat.le_refl _) _
          have HRX7 := hid (HRX.out.on g7)
          have r7 : Rd encS (w3.alloc (.cells #[.slice A6 T.length c6] 22)) _ (some ⟨w3.heap.size, 0, none⟩) [(A6, T.length, c6)] := rd_one (enc := encS) (one_cell w3 (.slice A6 T.length c6) 22).1
          obtain ⟨ps, hpl, hop, hpr⟩ := HO3.out.on g7
          have HPR := hid hpr
          have HPL := hid hpl
          have HPK : Hid (ps.length = k) := hid (by rw [hpl, List.length_map, List.length_take, HM.out]; have := HKM.out; omega)
          have K7 : Hid (Below w.heap.size w (w3.alloc (.cells #[.slice A6 T.length c6] 22))) := hid (K3.out.trans (g7.mono K3.out.size))
          have hz7 := K7.out.size
          have HTN : Hid (ls.take (k + 1) = ls.take k ++ [s]) := hid (by rw [List.take_add_one, HEN.out]; rfl)
          clear g7 hpr hpl HRX hlt hb3 ho3 hw2 m0 m1 c1 d1
          go_wp2_with (at_builtin; refine wpList_app5 encS (fun _ => rfl) _ rfl _ _ 38 rfl w.heap.size 22 (.slice none 0 0) 24 Tryz.underlying38 info_row rfl ps A2 c2 (by rw [HPK.out]; rfl) hop [(A6, T.length, c6)] (some ⟨w3.heap.size, 0, none⟩) 1 _ rfl r7 (by have := HPK.out; have := HKM.out; have := HM64.out; simp [maxLen]; omega) (by have := HPK.out; have := HKM.out; have := HM64.out; simp; omega) hz7 ?_)
          rintro S A8 c8 w8 hS ho8 hb8 hg8 hq8
          have HN8 := hid (OwnRw.app HPL.out HPR.out (p := (A6, T.length, c6)) ⟨rfl, HC6.out⟩ HRX7.out hS ho8 hg8 (by simpa using hq8))
          have hSl : S.length = k + 1 := by rw [hS, List.length_append, HPK.out]; rfl
          rw [hSl]
          have K8 : Hid (Below w.heap.size w w8) := hid (K7.out.trans hb8)
          have hw := HW.out
          clear hS ho8 hb8 hg8 hq8 hSl r7 hop hz7
          go_wp2_with fail
          go_roundw
          case rel =>
            refine ⟨k + 1, A8, c8, HKM.out, rfl, rfl, ?_, ?_, K8.out⟩
            · exact take_all HZ.out HEN.out HEE.out
            · rw [HTN.out, List.map_append]
              have := HN8.out
              rw [hTV.out] at this
              exact this
          case measure => have := HKM.out; (try clear hw); simp [intOf]; omega
        · have hne : (E != 0) = true := by simpa using hE0
          obtain ⟨e1, e2⟩ := HBAD.out k s HZ.out HEN.out (by rw [HEE.out]; exact hE0)
          rw [HEE.out] at e1
          subst e2
          subst e1
          clear hE0
          go_wp2_with fail
          refine CB2.out.mono ?_
          rintro _ w3 ⟨A3, c3, rfl, ho3, hb3⟩
          have K3 : Hid (Below w.heap.size w w3) := hid (K2.out.trans (hb3.mono K2.out.size))
          clear hb3 ho3 hw2 m0 m1
          go_wp2_with fail
          go_ret2
          exact ⟨none, 0, rfl, own_nil _ _ _, K3.out⟩
      · obtain rfl : k = M := by omega
        have htk : ls.take k = ls := List.take_of_length_le (by rw [HM.out]; exact Nat.le_refl _)
        rw [htk] at HZ HO
        obtain ⟨rfl, rfl⟩ := HGOOD.out HZ.out
        have CM2 := hid (CME.out A2 c2 HO.out.cap.1 wr HO.out.rd)
        have hll : (ls.map (sbV o u f)).length = k := by rw [List.length_map]; exact HM.out
        rw [hll] at CM2
        clear hll htk hbel
        go_wp2_with fail
        refine CM2.out.mono ?_
        rintro _ w3 ⟨A3, c3, rfl, ho3, hb3⟩
        have HO3 := hid ho3
        have K3 : Hid (Below w.heap.size w w3) := hid (HB.out.trans (hb3.mono HB.out.size))
        clear ho3
        go_wp2_with fail
        go_ret2
        exact ⟨A3, c3, rfl, own_base HO3.out HB.out.size, K3.out⟩
  · obtain ⟨e1, e2⟩ := sg_off (f := f) h1
    rw [e1, e2]
    obtain ⟨E, hE⟩ : ∃ E, sfE o u ls = E := ⟨_, rfl⟩
    rw [hE] at CF h1 ⊢
    have hne : (E != 0) = true := by simpa using h1
    rw [hU] at CF ⊢
    rw [hM] at CF ⊢
    clear h1 e1 e2 hE hU hM ru ra hX iu hu hcu hl ho
    go_enter Tryz.func6, Tryz.ntmps6
    go_wp2_with fail
    refine CF.out.mono ?_
    rintro _ w1 ⟨rfl, hb1⟩
    have K1 := hid hb1
    clear hb1 CF
    go_wp2_with fail
    go_ret2
    exact ⟨none, 0, rfl, own_nil _ _ _, K1.out⟩
end Go.Proofs.YtehbdnehlfplaaaGreat
/- Lines of classes, by the landed code: how many are right. -/
namespace Go.Proofs.YtehbdnehlfplaaaGreat
open Go.RowKit
set_option maxHeartbeats 2000000
set_option maxRecDepth 100000
set_option linter.unusedVariables false
theorem sf_Right {Au A : Option Addr} {cu c : Nat} (o : Int) (ho : I64 o) (u : List Int) (hu : u.length ≤ cu) (hcu : cu ≤ 9223372036854775807) (iu : I64s u) (f : Int) (ls : List SmpV) (hl : ls.length ≤ 9223372036854775807) (hX : ∀ s ∈ ls, I64s s.X ∧ I64 s.Y ∧ s.X.length ≤ 9223372036854775807) (w : World)
    (ru : Rd (Value.int .i64) w w.heap.size Au u) (ra : RdSm w w.heap.size A ls) :
    Calls Tryz.prog 8 #[.int .i64 o, .slice Au u.length cu, .int .i64 f, .slice A ls.length c] w fun e w' => e = .returned (.tuple #[.int .i64 (rgO o u f ls : Int), .int .i64 (rgE o u f ls)]) ∧ Below w.heap.size w w' := by
  have CF := hid (sf_fits (Au := Au) (A := A) (cu := cu) (c := c) o ho u hu hcu ls hl (fun s hs => (hX s hs).2.2) w ru ra)
  obtain ⟨U, hU⟩ : ∃ U, u.length = U := ⟨_, rfl⟩
  obtain ⟨M, hM⟩ : ∃ M, ls.length = M := ⟨_, rfl⟩
  by_cases h1 : sfE o u ls = 0
  · obtain ⟨s1, s2, _, _⟩ := sfE_ok h1
    have eE : rgE o u f ls = fstE (ls.map fun s => kcE o u s.X f) := by unfold rgE; rw [if_neg (by simp [h1])]
    have eO : rgO o u f ls = if rgE o u f ls = 0 then rgN o u f ls else 0 := rfl
    rw [h1] at CF
    have CK := hid (fun (s : SmpV) (hs : s ∈ ls) (Ax : Option Addr) (cx : Nat) (W : World) (h1 : Rd (Value.int .i64) W W.heap.size Au u) (h2 : Rd (Value.int .i64) W W.heap.size Ax s.X) => sf_Class (Au := Au) (Ax := Ax) (cu := cu) (cx := cx) o ho u s.X hu hcu iu (by have := s1 s hs; omega) (hX s hs).1 f W h1 h2)
    have hM64 : M ≤ 64 := by omega
    obtain ⟨vE, hvE⟩ : ∃ v, rgE o u f ls = v := ⟨_, rfl⟩
    obtain ⟨vO, hvO⟩ : ∃ v, rgO o u f ls = v := ⟨_, rfl⟩
    rw [hvE] at eE eO
    rw [hvO] at eO
    have HE := hid eE
    have HO := hid eO
    rw [hvE, hvO]
    rw [hU] at CF CK ⊢
    rw [hM] at CF ⊢
    have HM := hid hM
    have RU := hid ru
    have RA := hid ra
    have HM64 := hid hM64
    clear h1 eE eO hvE hvO hU hM ru ra hX iu hu hcu hl s1 s2 ho
    go_enter Tryz.func8, Tryz.ntmps8
    go_wp2_with fail
    refine CF.out.mono ?_
    rintro _ w1 ⟨rfl, hb1⟩
    have K1 := hid hb1
    clear hb1 CF
    go_wp2_with fail
    go_loopw [11, 13, 14, 15, 25] (fun xm _ _ _ xi wr => ∃ k : Nat, k ≤ M ∧ xi = .int .i64 (k : Int) ∧ xm = .int .i64 (rgN o u f (ls.take k) : Int) ∧ (∀ s ∈ ls.take k, kcE o u s.X f = 0) ∧ Below w.heap.size w wr) (fun _ _ _ _ xi _ => M - (intOf xi).toNat)
    case atStart => exact ⟨0, Nat.zero_le _, rfl, rfl, fun s hs => by simp at hs, K1.out⟩
    case round =>
      obtain ⟨k, hk, rfl, rfl, ha, hbel⟩ := hrel
      have HB := hid hbel
      have HA := hid ha
      have hml : rgN o u f (ls.take k) ≤ 64 := Nat.le_trans rg_le (by rw [List.length_take]; have := HM64.out; omega)
      obtain ⟨m, hm⟩ : ∃ m, rgN o u f (ls.take k) = m := ⟨_, rfl⟩
      rw [hm] at hml
      rw [hm]
      have HMM := hid hm
      clear ha hm
      by_cases hlt : k < M
      · obtain ⟨b1, o1, s, Ax, cx, rfl, l1, en, c1, d1, rx⟩ := (RA.out.on hbel).at_ (k := k) (by rw [HM.out]; exact hlt)
        have HEN := hid en
        have hst := hid (rg_step (o := o) (u := u) (f := f) en)
        obtain ⟨w2, hw2⟩ : ∃ w2, wr.alloc (.cells #[.slice Ax s.X.length cx, .int .i64 s.Y] 36) = w2 := ⟨_, rfl⟩
        have hb2 : Below wr.heap.size wr w2 := by rw [← hw2]; exact (Below.refl _ _).alloc (Nat.le_refl _) _
        have hs2 : wr.heap.size < w2.heap.size := by rw [← hw2]; simp
        have m0 : w2.cell? ⟨wr.heap.size, 0, none⟩ = some (.slice Ax s.X.length cx) := by rw [← hw2]; simp [go_sem]
        have m1 : w2.cell? ⟨wr.heap.size, 1, none⟩ = some (.int .i64 s.Y) := by rw [← hw2]; simp [go_sem]
        have CK2 := hid (CK.out s (List.mem_of_getElem? en) Ax cx w2 ((RU.out.on hbel).on hb2) (rx.on hb2))
        have K2 : Hid (Below w.heap.size w w2) := hid (HB.out.trans (hb2.mono HB.out.size))
        obtain ⟨C, hC⟩ : ∃ C, kcN o u s.X f = C := ⟨_, rfl⟩
        obtain ⟨E, hE⟩ : ∃ E, kcE o u s.X f = E := ⟨_, rfl⟩
        obtain ⟨N, hN⟩ : ∃ N, s.X.length = N := ⟨_, rfl⟩
        obtain ⟨Y, hY⟩ : ∃ Y, s.Y = Y := ⟨_, rfl⟩
        rw [hC, hE, hN] at CK2
        rw [hC, hY, HMM.out] at hst
        rw [hN] at c1 hw2 m0
        rw [hY] at d1 hw2 m1
        have HEE := hid hE
        clear en rx hC hE hN hY hb2 hbel
        by_cases hE0 : E = 0
        · subst hE0
          by_cases hy : (C : Int) = Y
          · have hst' : Hid (rgN o u f (ls.take (k + 1)) = m + 1) := hid (by rw [hst.out, if_pos hy])
            have t0 : ((C : Int) == Y) = true := by simpa using hy
            have hwm : IntKind.i64.wrap ((m : Int) + 1) = ((m + 1 : Nat) : Int) := Go.IntWalk.i64_in _ (by omega)
            clear hy hst
            go_wp2_with fail
            refine CK2.out.mono ?_
            rintro _ w3 ⟨rfl, hb3⟩
            have K3 : Hid (Below w.heap.size w w3) := hid (K2.out.trans (hb3.mono K2.out.size))
            have m1' := (hb3.cell (p := ⟨wr.heap.size, 1, none⟩) hs2).trans m1
            clear hb3 hw2 m0 m1
            go_wp2_with fail
            go_roundw
            case rel => exact ⟨k + 1, hlt, by go_num, by rw [hst'.out]; rfl, take_all HA.out HEN.out HEE.out, K3.out⟩
            case measure => (try clear hwm); simp [intOf]; omega
          · have hst' : Hid (rgN o u f (ls.take (k + 1)) = m) := hid (by rw [hst.out, if_neg hy]; rfl)
            have t0 : ((C : Int) == Y) = false := beq_eq_false_iff_ne.2 hy
            clear hy hst
            go_wp2_with fail
            refine CK2.out.mono ?_
            rintro _ w3 ⟨rfl, hb3⟩
            have K3 : Hid (Below w.heap.size w w3) := hid (K2.out.trans (hb3.mono K2.out.size))
            have m1' := (hb3.cell (p := ⟨wr.heap.size, 1, none⟩) hs2).trans m1
            clear hb3 hw2 m0 m1
            go_wp2_with fail
            go_roundw
            case rel => exact ⟨k + 1, hlt, by go_num, by rw [hst'.out], take_all HA.out HEN.out HEE.out, K3.out⟩
            case measure => simp [intOf]; omega
        · have hne : (E != 0) = true := by simpa using hE0
          have e1 : vE = E := by
            rw [HE.out, fstE_at (g := fun s => kcE o u s.X f) HA.out HEN.out (by rw [HEE.out]; exact hE0)]
            exact HEE.out
          have e2 : vO = 0 := by rw [HO.out, if_neg (by rw [e1]; exact hE0)]
          subst e2
          subst e1
          clear hE0
          go_wp2_with fail
          refine CK2.out.mono ?_
          rintro _ w3 ⟨rfl, hb3⟩
          have K3 : Hid (Below w.heap.size w w3) := hid (K2.out.trans (hb3.mono K2.out.size))
          clear hb3 hw2 m0 m1
          go_wp2_with fail
          go_ret2
          exact ⟨rfl, K3.out⟩
      · obtain rfl : k = M := by omega
        have htk : ls.take k = ls := List.take_of_length_le (by rw [HM.out]; exact Nat.le_refl _)
        have e1 : vE = 0 := by
          rw [HE.out]
          refine fstE_ok.2 fun e he => ?_
          obtain ⟨r, hr, rfl⟩ := List.mem_map.1 he
          exact HA.out r (by rw [htk]; exact hr)
        have e2 : vO = m := by rw [HO.out, if_pos e1, ← HMM.out, htk]
        clear htk hbel
        subst e2
        subst e1
        go_wp2_with fail
        go_ret2
        exact ⟨rfl, HB.out⟩
  · have eE : rgE o u f ls = sfE o u ls := by unfold rgE; rw [if_pos h1]
    have eO : rgO o u f ls = 0 := if_neg (by rw [eE]; exact h1)
    rw [eE, eO]
    obtain ⟨E, hE⟩ : ∃ E, sfE o u ls = E := ⟨_, rfl⟩
    rw [hE] at CF h1 ⊢
    have hne : (E != 0) = true := by simpa using h1
    rw [hU] at CF ⊢
    rw [hM] at CF ⊢
    clear eE eO hE h1 hU hM ru ra hX iu hu hcu hl ho
    go_enter Tryz.func8, Tryz.ntmps8
    go_wp2_with fail
    refine CF.out.mono ?_
    rintro _ w1 ⟨rfl, hb1⟩
    have K1 := hid hb1
    clear hb1 CF
    go_wp2_with fail
    go_ret2
    exact ⟨rfl, K1.out⟩
end Go.Proofs.YtehbdnehlfplaaaGreat
/- Lines of classes, by the landed code: its contracts (sf_Dim, sf_Check, sf_Rows, sf_Tell, sf_Class, sf_Off, sf_Grad; sf_Right in SpT). -/
/- The chapter's example. -/
namespace Go.Proofs.YtehbdnehlfplaaaGreat
open Go.RowKit
set_option maxHeartbeats 1000000
set_option maxRecDepth 100000
set_option linter.unusedVariables false
theorem sf_grow (w : World) (o : Obj) : Below w.heap.size w (w.alloc o) := (Below.refl _ _).alloc (Nat.le_refl _) o
theorem sf_live (w : World) :
    Calls Tryz.prog 4 #[] w fun e w' => e = .returned (.bool true) ∧ Below w.heap.size w w' := by
  have i1 : I64s [0, 0, 0, 0] := by intro x hx; simp at hx; unfold I64; omega
  have i2 : I64s [5] := by intro x hx; simp at hx; unfold I64; omega
  have i4 : I64s [16] := by intro x hx; simp at hx; unfold I64; omega
  have C1 := hid (fun (A B : Option Addr) (W : World) (h1 : Rd (Value.int .i64) W W.heap.size A [0, 0, 0, 0]) (h2 : Rd (Value.int .i64) W W.heap.size B [5]) => sf_Tell (Au := A) (Ax := B) (cu := 4) (cx := 1) 2 (by decide) [0, 0, 0, 0] [5] (by decide) (by decide) i1 (by decide) i2 4 W h1 h2)
  rw [show stV 2 [0, 0, 0, 0] [5] 4 = [8, 8] by decide +kernel, show stE 2 [0, 0, 0, 0] [5] 4 = 0 by decide +kernel, show ([0, 0, 0, 0] : List Int).length = 4 from rfl, show ([5] : List Int).length = 1 from rfl] at C1
  have C2 := hid (fun (Aw A : Option Addr) (W : World) (h1 : Rd (Value.int .i64) W W.heap.size Aw [0, 0, 0, 0]) (h2 : RdSm W W.heap.size A [⟨[16], 1⟩]) => sf_Grad (Au := Aw) (A := A) (cu := 4) (c := 1) 2 (by decide) [0, 0, 0, 0] (by decide) (by decide) i1 4 [⟨[16], 1⟩] (by decide) (by intro s hs; simp at hs; subst hs; exact ⟨i4, by decide, by decide⟩) W h1 h2)
  rw [show sgdV 2 [0, 0, 0, 0] 4 [⟨[16], 1⟩] = [8, 8, -8, -8] by decide +kernel, show sgdE 2 [0, 0, 0, 0] 4 [⟨[16], 1⟩] = 0 by decide +kernel, show ([0, 0, 0, 0] : List Int).length = 4 from rfl, show ([⟨[16], 1⟩] : List SmpV).length = 1 from rfl] at C2
  have C3 := hid (fun (A B : Option Addr) (c d : Nat) (W : World) (h1 : Rd (Value.int .i64) W W.heap.size A [8, 8]) (h2 : Rd (Value.int .i64) W W.heap.size B [8, 8]) => sf_rsame (A := A) (B := B) (c := c) (d := d) [8, 8] (by decide) W h1 h2)
  rw [show ([8, 8] : List Int).length = 2 from rfl] at C3
  have C4 := hid (fun (A B : Option Addr) (c d : Nat) (W : World) (h1 : Rd (Value.int .i64) W W.heap.size A [8, 8, -8, -8]) (h2 : Rd (Value.int .i64) W W.heap.size B [8, 8, -8, -8]) => sf_rsame (A := A) (B := B) (c := c) (d := d) [8, 8, -8, -8] (by decide) W h1 h2)
  rw [show ([8, 8, -8, -8] : List Int).length = 4 from rfl] at C4
  obtain ⟨v1, hv1⟩ : ∃ v, w.alloc (.cells #[.int .i64 0, .int .i64 0, .int .i64 0, .int .i64 0] 2) = v := ⟨_, rfl⟩
  have a1 : Rd (Value.int .i64) v1 v1.heap.size (some ⟨w.heap.size, 0, none⟩) [0, 0, 0, 0] := by rw [← hv1]; exact rd_new (enc := Value.int .i64) w 2 [0, 0, 0, 0]
  have g1 : Below w.heap.size w v1 := by rw [← hv1]; exact sf_grow _ _
  obtain ⟨v2, hv2⟩ : ∃ v, v1.alloc (.cells #[.int .i64 5] 2) = v := ⟨_, rfl⟩
  have a2 : Rd (Value.int .i64) v2 v2.heap.size (some ⟨v1.heap.size, 0, none⟩) [5] := by rw [← hv2]; exact rd_new (enc := Value.int .i64) v1 2 [5]
  have g0 : Below v1.heap.size v1 v2 := by rw [← hv2]; exact sf_grow _ _
  have C1' := hid (C1.out _ _ v2 (a1.on g0) a2)
  have K0 : Hid (Below w.heap.size w v2) := hid (g1.trans (g0.mono g1.size))
  clear a1 a2 g0 g1 C1 i1 i2 i4
  go_enter Tryz.func4, Tryz.ntmps4
  go_wp2_with fail
  refine C1'.out.mono ?_
  rintro _ w1 ⟨A1, c1, rfl, ho1, hb1⟩
  have K1 : Hid (Below w.heap.size w w1) := hid (K0.out.trans (hb1.mono K0.out.size))
  have R1 := hid (own_rd (xs := [8, 8]) ho1)
  clear ho1 hb1 C1' hv1 hv2
  obtain ⟨w2, hw2⟩ : ∃ w2, w1.alloc (.cells #[.int .i64 0, .int .i64 0, .int .i64 0, .int .i64 0] 2) = w2 := ⟨_, rfl⟩
  have b1 : Rd (Value.int .i64) w2 w2.heap.size (some ⟨w1.heap.size, 0, none⟩) [0, 0, 0, 0] := by rw [← hw2]; exact rd_new (enc := Value.int .i64) w1 2 [0, 0, 0, 0]
  have g2 : Below w1.heap.size w1 w2 := by rw [← hw2]; exact sf_grow _ _
  obtain ⟨w3, hw3⟩ : ∃ w3, w2.alloc (.cells #[.int .i64 16] 2) = w3 := ⟨_, rfl⟩
  have b2 : Rd (Value.int .i64) w3 w3.heap.size (some ⟨w2.heap.size, 0, none⟩) [16] := by rw [← hw3]; exact rd_new (enc := Value.int .i64) w2 2 [16]
  have g3 : Below w2.heap.size w2 w3 := by rw [← hw3]; exact sf_grow _ _
  obtain ⟨w4, hw4⟩ : ∃ w4, w3.alloc (.cells #[.slice (some ⟨w2.heap.size, 0, none⟩) 1 1, .int .i64 1] 36) = w4 := ⟨_, rfl⟩
  have b3 : RdSm w4 w4.heap.size (some ⟨w3.heap.size, 0, none⟩) [⟨[16], 1⟩] := by rw [← hw4]; exact smp_one (cx := 1) 36 b2
  have g4 : Below w3.heap.size w3 w4 := by rw [← hw4]; exact sf_grow _ _
  have C2' := hid (C2.out _ _ w4 ((b1.on g3).on g4) b3)
  have J4 : Hid (Below w1.heap.size w1 w4) := hid (g2.trans ((g3.trans (g4.mono g3.size)).mono g2.size))
  clear b1 b2 b3 g2 g3 g4 C2
  go_wp2_with fail
  refine C2'.out.mono ?_
  rintro _ w5 ⟨A5, c5, rfl, ho5, hb5⟩
  have J5 : Hid (Below w1.heap.size w1 w5) := hid (J4.out.trans (hb5.mono J4.out.size))
  have K5 : Hid (Below w.heap.size w w5) := hid (K1.out.trans (J5.out.mono K1.out.size))
  have R5 := hid (own_rd (xs := [8, 8, -8, -8]) ho5)
  have R6 := hid (rd_new (enc := Value.int .i64) w5 2 [8, 8])
  have R7 := hid ((R1.out.on J5.out).on (sf_grow w5 (.cells #[.int .i64 8, .int .i64 8] 2)))
  clear ho5 hb5 hw2 hw3 hw4 C2'
  go_wp2_with fail
  refine (C3.out _ _ _ _ _ R7.out R6.out).mono ?_
  rintro _ w6 ⟨rfl, hb6⟩
  have J6 : Hid (Below w5.heap.size w5 w6) := hid ((sf_grow w5 _).trans (hb6.mono (by simp)))
  have R8 := hid (rd_new (enc := Value.int .i64) w6 2 [8, 8, -8, -8])
  have R9 := hid ((R5.out.on J6.out).on (sf_grow w6 (.cells #[.int .i64 8, .int .i64 8, .int .i64 (-8), .int .i64 (-8)] 2)))
  have K6 : Hid (Below w.heap.size w w6) := hid (K5.out.trans (J6.out.mono K5.out.size))
  clear hb6
  go_wp2_with fail
  refine (C4.out _ _ _ _ _ R9.out R8.out).mono ?_
  rintro _ w7 ⟨rfl, hb7⟩
  have K7 : Hid (Below w.heap.size w w7) := hid ((K6.out.alloc K6.out.size _).trans (hb7.mono (by have := K6.out.size; simp; omega)))
  clear hb7
  go_wp2_with fail
  go_ret
  exact ⟨rfl, K7.out⟩
end Go.Proofs.YtehbdnehlfplaaaGreat
