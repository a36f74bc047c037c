
/- Shares, by the program. -/
import Derived.Test.YtnokomlekndgfaaTbK
import Derived.Test.YtnokomlekndgfaaFixC
import Derived.Deep.RegionLaw
namespace Go.Proofs.Ytnokomlekndgfaa
open Go.RowKit
set_option maxHeartbeats 2000000
set_option maxRecDepth 100000
set_option linter.unusedVariables false
theorem tot_pos {xs : List Int} (h0 : ∀ x ∈ xs, 0 ≤ x) (hup : ∀ k, (xs.take k).sum ≤ 9223372036854775807) : ∀ k, k ≤ xs.length → tot (numA xs) k = ((xs.take k).sum, 0)
  | 0, _ => rfl
  | k + 1, h => by
    have ih := tot_pos h0 hup k (by omega)
    have hx : xs[k]? = some xs[k] := List.getElem?_eq_getElem (by omega)
    have e0 : xs.getD k 0 = xs[k] := getD_of hx
    have e1 : (xs.take (k + 1)).sum = (xs.take k).sum + xs[k] := by rw [List.take_add_one, hx]; exact sum_app _ _
    have p1 := h0 xs[k] (List.getElem_mem _)
    have p2 := hup (k + 1)
    have p3 : ∀ j, 0 ≤ (xs.take j).sum := fun j => by
      have : ∀ l : List Int, (∀ x ∈ l, 0 ≤ x) → 0 ≤ l.sum := by
        intro l
        induction l with
        | nil => intro _; simp
        | cons x t ih => intro h; rw [List.sum_cons]; have := h x (by simp); have := ih fun y hy => h y (by simp [hy]); omega
      exact this _ fun x hx => h0 x (List.mem_of_mem_take hx)
    have p4 := p3 k
    rw [e1] at p2 ⊢
    have hi : I64 xs[k] := by unfold I64; omega
    have hs : I64 ((xs.take k).sum + xs[k]) := by unfold I64; omega
    have hn : numA xs k = (xs[k], 0) := by
      unfold numA
      rw [e0]
      have ha : absI xs[k] = xs[k] := by unfold absI; omega
      rw [ha, ckV_in hi, ckE_in hi]
    rw [tot, ih, hn]
    rw [if_pos rfl, if_pos rfl, ckV_in hs, ckE_in hs]
theorem size_pw {f : Nat} {z : List Int} (hl : z.length ≤ 4096) (hf : f ≤ 30) : sizeV (pwI (f : Int) z) = ((powL (f : Int) z).sum : Int) ∧ sizeE (pwI (f : Int) z) = 0 ∧ I64s (pwI (f : Int) z) := by
  have hx : ∀ x ∈ pwI (f : Int) z, 0 ≤ x ∧ x ≤ 1073741824 := fun x hx => by
    unfold pwI powL at hx
    rw [List.map_map] at hx
    obtain ⟨y, _, rfl⟩ := List.mem_map.1 hx
    have := expN_up (y := (topZ z - y).toNat) (f := (f : Int).toNat)
    show 0 ≤ ((expN _ _ : Nat) : Int) ∧ ((expN _ _ : Nat) : Int) ≤ _
    omega
  have hup : ∀ k, ((pwI (f : Int) z).take k).sum ≤ 9223372036854775807 := fun k => by
    by_cases h : k ≤ z.length
    · have := (pwI_sum (f : Int) z k).2
      omega
    · rw [List.take_of_length_le (by rw [pwI_len]; omega)]
      have := (pwI_sum (f : Int) z z.length).2
      rw [List.take_of_length_le (by rw [pwI_len]; omega)] at this
      omega
  have ht := tot_pos (fun x h => (hx x h).1) hup (pwI (f : Int) z).length (Nat.le_refl _)
  rw [List.take_of_length_le (Nat.le_refl _), pwI_total] at ht
  refine ⟨?_, ?_, fun x h => by have := hx x h; unfold I64; omega⟩
  · unfold sizeV; rw [if_neg (by rw [pwI_len]; omega), ht]
  · unfold sizeE; rw [if_neg (by rw [pwI_len]; omega), ht]
theorem tb_shares {A : Option Addr} {c : Nat} (f : Nat) (hf : f ≤ 30) (z : List Int) (hne : z ≠ []) (hl : z.length ≤ 4096) (w : World) (ra : Rd (Value.int .i64) w w.heap.size A (pwI (f : Int) z)) :
    Calls Try.prog 30 #[.slice A (pwI (f : Int) z).length c, .int .i64 (f : Int)] w (OwnInts (sofL (f : Int) z) 0 w) := by
  obtain ⟨s1, s2, s3⟩ := size_pw hl hf
  have CZ := hid (Size_any (A := A) (c := c) (pwI (f : Int) z) (by rw [pwI_len]; omega) s3 w ra)
  rw [s1, s2] at CZ
  have hS0 := pow_sum (frac := (f : Int)) hne (by omega)
  have hSm := (pwI_sum (f : Int) z z.length).2
  rw [List.take_of_length_le (by rw [pwI_len]; omega), pwI_total] at hSm
  obtain ⟨T, hT⟩ : ∃ T, (powL (f : Int) z).sum = T := ⟨_, rfl⟩
  rw [hT] at CZ hS0 hSm
  obtain ⟨PW, hPW⟩ : ∃ PW, pwI (f : Int) z = PW := ⟨_, rfl⟩
  have hpl : PW.length = z.length := by rw [← hPW, pwI_len]
  rw [hPW] at CZ ra ⊢
  obtain ⟨SL, hSL⟩ : ∃ SL, sofL (f : Int) z = SL := ⟨_, rfl⟩
  have hsl : SL.length = z.length := by rw [← hSL, sofL_len]
  rw [hSL]
  obtain ⟨M, hM⟩ : ∃ M, z.length = M := ⟨_, rfl⟩
  rw [hM] at hpl hsl hl hSm
  rw [hpl] at CZ ⊢
  have HT := hid hT
  have HPW := hid hPW
  have HSL := hid hSL
  have HM := hid hM
  have HPL := hid hpl
  have HSLl := hid hsl
  have HF := hid hf
  have RA := hid ra
  have hT1 : (1 : Int) ≤ (T : Int) := by omega
  have hT2 : (T : Int) ≤ 4398046511104 := by omega
  clear hT hPW hSL hM hpl hsl hf ra s1 s2 s3 hS0 hSm hne
  go_enter Try.func30, Try.ntmps30
  go_wp2_with fail
  refine CZ.out.mono ?_
  rintro _ w1 ⟨rfl, hb1⟩
  have hmk := run_make_row' (P := Try.prog) 32 2 (.int .i64 0) 8 Try.underlying32 info_i64 rfl .i64 .i64 M (by omega) (by omega) w1
  have hrw := World.rowIs_made w1 (.int .i64 0) M 2
  obtain ⟨w3, hw3⟩ : ∃ w3, w1.alloc (.cells (madeCells #[.int .i64 0] M) 2) = w3 := ⟨_, rfl⟩
  have hb3 : Below w.heap.size w w3 := by rw [← hw3]; exact hb1.alloc hb1.size _
  rw [hw3] at hmk hrw
  have hrow0 : w3.rowIs w1.heap.size 2 M (fun j => if j < 0 then .int .i64 (SL.getD j 0) else .int .i64 0) := by simpa using hrw
  have HR0 := hid hrow0
  have HB3 := hid hb3
  have HS1 := hid hb1.size
  clear hrw hb3 hrow0 hb1 CZ
  go_wp2_with fail
  go_loopw [7, 9, 10, 24] (fun _ _ _ xi wr => ∃ k : Nat, k ≤ M ∧ xi = .int .i64 (k : Int) ∧ wr.rowIs w1.heap.size 2 M (fun j => if j < k then .int .i64 (SL.getD j 0) else .int .i64 0) ∧ Below w.heap.size w wr) (fun _ _ _ xi _ => M - (intOf xi).toNat)
  case atStart => exact ⟨0, by omega, rfl, HR0.out, HB3.out⟩
  case round =>
    obtain ⟨k, hk, rfl, hrow, hbel⟩ := hrel
    have HROW := hid hrow
    have HBL := hid hbel
    clear HB3 HR0 hmk hw3 hrow
    by_cases hlt : k < M
    · obtain ⟨b4, o4, pv, rfl, l4, en, c4⟩ := (RA.out.on hbel).at_ (k := k) (by rw [HPL.out]; exact hlt)
      obtain ⟨xj, hzj⟩ : ∃ xj, z[k]? = some xj := ⟨_, List.getElem?_eq_getElem (show k < z.length by rw [HM.out]; exact hlt)⟩
      have e1 := pwI_at (frac := (f : Int)) hzj
      have e2 := sofL_at2 (frac := (f : Int)) hzj
      have e3 := pow_le_sum (frac := (f : Int)) hzj
      rw [HPW.out] at e1
      rw [HSL.out, HT.out] at e2
      rw [HT.out] at e3
      obtain ⟨p, hp⟩ : ∃ p, expN (topZ z - xj).toNat (f : Int).toNat = p := ⟨_, rfl⟩
      rw [hp] at e1 e2 e3
      obtain rfl : (p : Int) = pv := Option.some.inj (e1.symm.trans en)
      obtain ⟨u1, u2⟩ := div_sh (p := p) (S := T) (k := f) (by omega) e3 HF.out
      have CD := hid (fix_Div (p : Int) (T : Int) f HF.out (by unfold I64; omega) (by unfold I64; omega) (by omega) wr)
      rw [u1, u2] at CD
      rw [show (f : Int).toNat = f from rfl] at e2
      obtain ⟨s, hs⟩ : ∃ s, shN (2 ^ f) T p = s := ⟨_, rfl⟩
      rw [hs] at CD e2
      have HE2 := hid e2
      clear e1 e2 e3 en hzj hp u1 u2 hs hbel
      go_wp2_with fail
      refine CD.out.mono ?_
      rintro _ w4 ⟨rfl, hb4⟩
      have hz := HROW.out.lt
      have hrow1 := HROW.out.of_block (hb4.block _ hz)
      have c2 := hrow1.cell hlt
      rw [if_neg (Nat.lt_irrefl k)] at c2
      have f2 := hrow1.frozen k
      have HR1 := hid hrow1
      have HB4 : Hid (Below w.heap.size w w4) := hid (HBL.out.trans (hb4.mono HBL.out.size))
      clear hb4 hrow1 hz
      go_wp2_with fail
      go_roundw
      case rel =>
        refine ⟨k + 1, by omega, by go_num, ?_, HB4.out.setCell HS1.out _⟩
        refine (HR1.out.set k (.int .i64 (s : Int))).congr fun j hj => ?_
        by_cases e : j = k
        · subst e
          rw [if_pos rfl, if_pos (by omega), List.getD_eq_getElem?_getD, HE2.out]
          rfl
        · rw [if_neg e]
          by_cases e2 : j < k
          · rw [if_pos e2, if_pos (by omega)]
          · rw [if_neg e2, if_neg (by omega)]
      case measure => simp [intOf]; omega
    · obtain rfl : k = M := by omega
      have hvl := HSLl.out
      have hown : wr.ownsRow w.heap.size 2 1 (.slice (some ⟨w1.heap.size, 0, none⟩) SL.length k) SL.length (SL.map (Value.int .i64)) := by
        have h1 := own_made (B := w.heap.size) (w' := w) (HROW.out.congr (g := fun j => .int .i64 (SL.getD j 0)) fun i hi => by rw [if_pos hi]) HS1.out (by unfold maxLen; omega)
        have e : (List.range k).map (fun j => Value.int .i64 (SL.getD j 0)) = SL.map (Value.int .i64) := by
          apply List.ext_getElem?
          intro i
          by_cases hi : i < k
          · rw [List.getElem?_map, List.getElem?_map, List.getElem?_range hi]
            show some (Value.int .i64 (SL.getD i 0)) = _
            rw [List.getD_eq_getElem?_getD, List.getElem?_eq_getElem (by omega)]
            rfl
          · rw [List.getElem?_eq_none (by simp; omega), List.getElem?_eq_none (by simp; omega)]
        rw [e] at h1
        rw [hvl]
        exact h1
      have HOW := hid hown
      have HVL := hid hvl
      clear hvl hown
      go_wp2_with fail
      go_ret2
      exact ⟨some ⟨w1.heap.size, 0, none⟩, k, by rw [HVL.out]; rfl, HOW.out, HBL.out⟩
theorem tb_Soft {A : Option Addr} {c : Nat} (frac : Int) (z : List Int) (hz : z.length ≤ 9223372036854775807) (iz : I64s z) (w : World) (ra : Rd (Value.int .i64) w w.heap.size A z) :
    Calls Try.prog 19 #[.int .i64 frac, .slice A z.length c] w (OwnInts (sofV frac z) (sofE frac z) w) := by
  have CB := hid (tb_Best (A := A) (c := c) z hz w ra)
  by_cases hB : bstE z = 0
  · have hB2 : bstN z = bstGo z z.length := if_pos hB
    rw [hB, hB2] at CB
    obtain ⟨hne, hl4⟩ := bstE_ok.1 hB
    obtain ⟨b, hb⟩ : ∃ b, bstGo z z.length = b := ⟨_, rfl⟩
    have hbl := bst_in hne
    have htop := top_at hne
    rw [hb] at CB hbl htop
    by_cases h1 : frac < 0 ∨ 30 < frac
    · obtain ⟨e1, e2⟩ := sofE_arg hB h1
      rw [e1, e2]
      have CN := hid (fun w => tb_behind_no frac h1 w)
      clear hB hB2 e1 e2 ra hb hbl htop h1
      go_enter Try.func19, Try.ntmps19
      go_wp2_with fail
      refine CB.out.mono ?_
      rintro _ w1 ⟨rfl, hb1⟩
      go_wp2_with fail
      refine (CN.out _).mono ?_
      rintro _ _ ⟨rfl, rfl⟩
      go_wp2_with fail
      go_ret2
      exact ⟨none, 0, rfl, own_nil _ _ _, hb1⟩
    obtain ⟨f, rfl⟩ : ∃ f : Nat, frac = (f : Int) := ⟨frac.toNat, by omega⟩
    have hf : f ≤ 30 := by omega
    have CY := hid (fun w => tb_behind_yes (f : Int) (by omega) (by omega) w)
    have CP := hid (fun W r => tb_powers (A := A) (c := c) f hf z hB iz W r)
    have CS := hid (fun A' c' W r => tb_shares (A := A') (c := c') f hf z hne hl4 W r)
    have HNE := hid hne
    obtain ⟨top, ht⟩ : ∃ top, topZ z = top := ⟨_, rfl⟩
    rw [ht] at htop CP
    have RA := hid ra
    have HT := hid htop
    have hM := hbl
    obtain ⟨M, hMM⟩ : ∃ M, z.length = M := ⟨_, rfl⟩
    have HM := hid hMM
    rw [hMM] at hbl CB CP ⊢
    obtain ⟨vE, hvE⟩ : ∃ vE, sofE (f : Int) z = vE := ⟨_, rfl⟩
    obtain ⟨vV, hvV⟩ : ∃ vV, sofV (f : Int) z = vV := ⟨_, rfl⟩
    obtain ⟨vP, hvP⟩ : ∃ vP, powV (f : Int) z = vP := ⟨_, rfl⟩
    rw [hvE, hvP] at CP
    rw [hvE, hvV]
    have HV : Hid (sofE (f : Int) z = vE ∧ sofV (f : Int) z = vV ∧ powV (f : Int) z = vP) := hid ⟨hvE, hvV, hvP⟩
    clear hB hB2 ra hb htop ht h1 hvE hvV hvP hMM hM hne hf
    go_enter Try.func19, Try.ntmps19
    go_wp2_with fail
    refine CB.out.mono ?_
    rintro _ w1 ⟨rfl, hb1⟩
    have HB1 := hid hb1
    clear hb1 CB
    go_wp2_with fail
    refine (CY.out _).mono ?_
    rintro _ _ ⟨rfl, rfl⟩
    go_wp2_with fail
    obtain ⟨b2, o2, y, rfl, l2, em, d2⟩ := (RA.out.on HB1.out).at_ (k := b) (by rw [HM.out]; exact hbl)
    obtain rfl : top = y := Option.some.inj (HT.out.symm.trans em)
    clear em
    have fin : ∀ (A5 : Option Addr) (c5 : Nat) (W : World), W.ownsRow w.heap.size 2 1 (.slice A5 vP.length c5) vP.length (vP.map (Value.int .i64)) → Below w.heap.size w W →
        (vE ≠ 0 → vV = []) ∧ (vE = 0 → Rd (Value.int .i64) W W.heap.size A5 (pwI (f : Int) z) ∧ vP.length = (pwI (f : Int) z).length ∧ sofL (f : Int) z = vV) := fun A5 c5 W ho hb => by
      refine ⟨fun h => ?_, fun h => ?_⟩
      · rw [← HV.out.2.1]
        unfold sofV
        rw [HV.out.1]
        exact if_neg h
      · have e1 : vP = pwI (f : Int) z := by
          rw [← HV.out.2.2]
          unfold powV
          rw [HV.out.1]
          exact if_pos h
        refine ⟨by rw [← e1]; exact own_rd ho, by rw [e1], ?_⟩
        rw [← HV.out.2.1]
        unfold sofV
        rw [HV.out.1]
        exact (if_pos h).symm
    have FIN := hid fin
    clear fin
    go_region_law (first | (go_simp; go_at_call 24; refine (tb_makeRows _).mono ?_; rintro _ w4 ⟨rfl, hb4⟩; have k4 : Below w.heap.size w w4 := HB1.out.drew.trans (hb4.mono HB1.out.size); have d4 := (hb4.cell (p := ⟨b2, o2 + b, none⟩) l2).trans d2; have K4 := hid k4; clear k4 hb4) | (go_simp; go_at_call 29; refine (CP.out _ (RA.out.on K4.out)).mono ?_; rintro _ w5 ⟨A5, c5, rfl, ho5, hb5⟩; have K5 : Hid (Below w.heap.size w w5) := hid (K4.out.trans (hb5.mono K4.out.size)); have HO5 : Hid (w5.ownsRow w.heap.size 2 1 (.slice A5 vP.length c5) vP.length (vP.map (Value.int .i64))) := hid (own_base ho5 K4.out.size); clear ho5 hb5))
    all_goals (
      obtain ⟨g1, g2⟩ := FIN.out A5 c5 w5 HO5.out K5.out
      by_cases hv : vE = 0
      · obtain ⟨g3, g4, g5⟩ := g2 hv
        subst hv
        have C := hid (CS.out A5 c5 w5 g3)
        rw [← g4, g5] at C
        clear g1 g2 g3 g4 g5 d4 d2 FIN CP CY
        go_wp2_with fail
        refine C.out.mono ?_
        rintro _ w6 ⟨A6, c6, rfl, ho6, hb6⟩
        go_wp2_with fail
        go_ret2
        exact ⟨A6, c6, rfl, own_base ho6 K5.out.size, K5.out.trans (hb6.mono K5.out.size)⟩
      · have g3 := g1 hv
        subst g3
        have hne : (vE != 0) = true := by simpa using hv
        clear g1 g2 hv d4 d2 FIN CP CY
        go_wp2_with fail
        go_ret2
        exact ⟨none, 0, rfl, own_nil _ _ _, K5.out⟩)
  · obtain ⟨e1, e2⟩ := sofE_bst (frac := frac) hB
    have e3 : bstN z = 0 := if_neg hB
    rw [e1, e2]
    rw [e3] at CB
    obtain ⟨E, hE⟩ : ∃ E, bstE z = E := ⟨_, rfl⟩
    rw [hE] at CB hB ⊢
    have hne : (E != 0) = true := by simpa using hB
    clear e1 e2 e3 hE hB ra
    go_enter Try.func19, Try.ntmps19
    go_wp2_with fail
    refine CB.out.mono ?_
    rintro _ w1 ⟨rfl, hb1⟩
    go_wp2_with fail
    go_ret2
    exact ⟨none, 0, rfl, own_nil _ _ _, hb1⟩
end Go.Proofs.Ytnokomlekndgfaa
