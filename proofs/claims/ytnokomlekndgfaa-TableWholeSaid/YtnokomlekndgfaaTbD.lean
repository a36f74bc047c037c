
/- Shares, by the document. -/
import Derived.Test.YtnokomlekndgfaaTbC
import Derived.Test.YtnokomlekndgfaaTbE
import Derived.Test.YtnokomlekndgfaaRefD
import Derived.Test.YtnokomlekndgfaaApp
namespace Go.Proofs.Ytnokomlekndgfaa
open Go.RowKit
set_option maxHeartbeats 2000000
set_option maxRecDepth 100000
set_option linter.unusedVariables false
theorem ref_Soft {A : Option Addr} {c : Nat} (frac : Int) (z : List Int) (hz : z.length ≤ 9223372036854775807) (iz : I64s z) (w : World) (ra : Rd (Value.int .i64) w w.heap.size A z) :
    Calls Try.prog 20 #[.int .i64 frac, .slice A z.length c] w (OwnInts (sofV frac z) (sofE frac z) w) := by
  have CB := hid (ref_Best (A := A) (c := c) z hz w ra)
  by_cases hB : bstE z = 0
  · have hB2 : bstN z = bstGo z z.length := if_pos hB
    rw [hB, hB2] at CB
    obtain ⟨hne, hl4⟩ := bstE_ok.1 hB
    obtain ⟨b, hb⟩ : ∃ b, bstGo z z.length = b := ⟨_, rfl⟩
    have hbl := bst_in hne
    have htop := top_at hne
    rw [hb] at CB hbl htop
    by_cases h1 : frac < 0
    · obtain ⟨e1, e2⟩ := sofE_arg hB (Or.inl h1)
      rw [e1, e2]
      clear hB hB2 e1 e2 ra hb hbl htop
      go_enter Try.func20, Try.ntmps20
      go_wp2_with fail
      refine CB.out.mono ?_
      rintro _ w1 ⟨rfl, hb1⟩
      go_wp2_with fail
      go_ret2
      exact ⟨none, 0, rfl, own_nil _ _ _, hb1⟩
    by_cases h2 : frac > 30
    · obtain ⟨e1, e2⟩ := sofE_arg hB (Or.inr (show 30 < frac by omega))
      rw [e1, e2]
      clear hB hB2 e1 e2 ra hb hbl htop
      go_enter Try.func20, Try.ntmps20
      go_wp2_with fail
      refine CB.out.mono ?_
      rintro _ w1 ⟨rfl, hb1⟩
      go_wp2_with fail
      go_ret2
      exact ⟨none, 0, rfl, own_nil _ _ _, hb1⟩
    obtain ⟨f, rfl⟩ : ∃ f : Nat, frac = (f : Int) := ⟨frac.toNat, by omega⟩
    have hf : f ≤ 30 := by omega
    obtain ⟨top, ht⟩ : ∃ top, topZ z = top := ⟨_, rfl⟩
    rw [ht] at htop
    have it : I64 top := iz.at_ htop
    have hge : ∀ k x, z[k]? = some x → x ≤ top := fun k x hx => by rw [← ht]; exact topZ_ge (List.mem_of_getElem? hx)
    obtain ⟨M, hM⟩ : ∃ M, z.length = M := ⟨_, rfl⟩
    have hsum0 := pow_sum (frac := (f : Int)) hne (by omega)
    have HB := hid hB
    have HNE := hid hne
    have HF := hid hf
    have HT := hid htop
    have HTT := hid ht
    have HG := hid hge
    have HI := hid iz
    have HIT := hid it
    have HM := hid hM
    have RA := hid ra
    have HS0 := hid hsum0
    rw [hM] at hbl hl4 CB ⊢
    clear hB hB2 ra hb htop ht iz it hM hge hne hsum0 hz
    have hM4 : M ≤ 4096 := hl4
    clear hl4
    obtain ⟨vV, hvV⟩ : ∃ vV, sofV (f : Int) z = vV := ⟨_, rfl⟩
    obtain ⟨vE, hvE⟩ : ∃ vE, sofE (f : Int) z = vE := ⟨_, rfl⟩
    rw [hvV, hvE]
    have HV : Hid (sofV (f : Int) z = vV ∧ sofE (f : Int) z = vE) := hid ⟨hvV, hvE⟩
    obtain ⟨PW, hPW⟩ : ∃ PW, pwI (f : Int) z = PW := ⟨_, rfl⟩
    have HPW := hid hPW
    have hPL : PW.length = M := by rw [← hPW, pwI_len]; exact HM.out
    have HPL := hid hPL
    clear hvV hvE hPW hPL
    go_enter Try.func20, Try.ntmps20
    go_wp2_with fail
    refine CB.out.mono ?_
    rintro _ w1 ⟨rfl, hb1⟩
    have HB1 := hid hb1
    clear CB hb1
    go_wp2_with fail
    go_loopw [8, 9, 11, 12, 13, 14, 36] (fun xl xs _ _ _ _ xi wr => ∃ (k : Nat) (S : List Int) (A2 : Option Addr) (c2 : Nat), k ≤ M ∧ xi = .int .i64 (k : Int) ∧ xl = .slice A2 S.length c2 ∧ xs = .int .i64 S.sum ∧ S = PW.take k ∧ wr.ownsRow w.heap.size 2 1 (.slice A2 S.length c2) S.length (S.map (Value.int .i64)) ∧ Below w.heap.size w wr ∧ (∀ j x, j < k → z[j]? = some x → -9223372036854775807 ≤ x - top)) (fun _ _ _ _ _ _ xi _ => M - (intOf xi).toNat)
    case atStart => exact ⟨0, [], none, 0, by omega, rfl, rfl, rfl, rfl, own_nil _ _ _, HB1.out, fun j x hj => by omega⟩
    case round =>
      obtain ⟨k, S, A2, c2, hk, rfl, rfl, rfl, hS, ho, hbel, hfar⟩ := hrel
      have hSl : S.length = k := by rw [hS, List.length_take, HPL.out]; omega
      have hSs : 0 ≤ S.sum ∧ S.sum ≤ k * 1073741824 := by rw [hS, ← HPW.out]; exact pwI_sum _ _ k
      have HSk := hid hS
      have HO := hid ho
      have HFR := hid hfar
      have HBL := hid hbel
      clear hS ho hfar HB1
      by_cases hlt : k < M
      · obtain ⟨b1, o1, x, rfl, l1, en, c1⟩ := (RA.out.on hbel).at_ (k := k) (by rw [HM.out]; exact hlt)
        obtain ⟨b2, o2, y, e2, l2, em, d2⟩ := (RA.out.on hbel).at_ (k := b) (by rw [HM.out]; exact hbl)
        obtain rfl : top = y := Option.some.inj (HT.out.symm.trans em)
        cases e2
        have ix : I64 x := HI.out.at_ en
        have hxt : x ≤ top := HG.out k x en
        have CS := hid (ref_Sub x top ix HIT.out wr)
        have HX := hid en
        have hit := HIT.out
        clear hbel en em
        by_cases hA : I64 (x - top)
        · rw [ckV_in hA, ckE_in hA] at CS
          have CE := hid (ref_Exp (f : Int) (x - top) hA wr)
          by_cases hmin : x - top = -9223372036854775808
          · obtain ⟨g1, g2⟩ := exp_min (frac := (f : Int)) (show ¬ ((f : Int) < 0 ∨ 30 < (f : Int) ∨ 0 < x - top) by have := HF.out; omega) hmin
            rw [g1, g2] at CE
            obtain ⟨g3, g4⟩ := sofE_far HB.out (show 0 ≤ (f : Int) by omega) (by have := HF.out; omega) (List.mem_of_getElem? HX.out) (show x - topZ z < -9223372036854775807 by rw [HTT.out]; omega)
            have hv1 : vV = [] := by rw [← HV.out.1, g4]
            have hv2 : vE = 2 := by rw [← HV.out.2, g3]
            rw [hv1, hv2]
            obtain ⟨D, hD⟩ : ∃ D, x - top = D := ⟨_, rfl⟩
            rw [hD] at CS CE
            clear hv1 hv2 g1 g2 g3 g4 hmin hA hD ix hit hxt hSs
            go_wp2_with fail
            refine CS.out.mono ?_
            rintro _ _ ⟨rfl, rfl⟩
            go_wp2_with fail
            refine CE.out.mono ?_
            rintro _ w4 ⟨rfl, hb4⟩
            go_wp2_with fail
            go_ret2
            exact ⟨none, 0, rfl, own_nil _ _ _, HBL.out.trans (hb4.mono HBL.out.size)⟩
          · obtain ⟨g1, g2⟩ := exp_ok (frac := (f : Int)) (show ¬ ((f : Int) < 0 ∨ 30 < (f : Int) ∨ 0 < x - top) by have := HF.out; omega) hmin
            rw [g1, g2, show -(x - top) = top - x by omega] at CE
            have hn := pwI_next (frac := (f : Int)) HX.out
            rw [HTT.out, HPW.out] at hn
            have hpu := expN_up (y := (top - x).toNat) (f := (f : Int).toNat)
            obtain ⟨p, hp⟩ : ∃ p, expN (top - x).toNat (f : Int).toNat = p := ⟨_, rfl⟩
            rw [hp] at CE hn hpu
            have hfn : -9223372036854775807 ≤ x - top := by unfold I64 at hA; omega
            obtain ⟨D, hD⟩ : ∃ D, x - top = D := ⟨_, rfl⟩
            have HFN : Hid (-9223372036854775807 ≤ x - top) := hid hfn
            rw [hD] at CS CE
            have HN := hid hn
            have ts : IntKind.i64.wrap (S.sum + (p : Int)) = (S ++ [(p : Int)]).sum := by rw [sum_app]; exact Go.IntWalk.i64_in _ (by omega)
            obtain ⟨SS, hSS⟩ : ∃ SS, (S ++ [(p : Int)]).sum = SS := ⟨_, rfl⟩
            rw [hSS] at ts
            have HSS := hid hSS
            have HSl := hid hSl
            clear g1 g2 hp hmin hA hfn hD ix hit hxt hn hpu hSs hSS hSl
            go_wp2_with fail
            refine CS.out.mono ?_
            rintro _ _ ⟨rfl, rfl⟩
            go_wp2_with fail
            refine CE.out.mono ?_
            rintro _ w4 ⟨rfl, hb4⟩
            have kk : Below w.heap.size w w4 := HBL.out.trans (hb4.mono HBL.out.size)
            have HK := hid kk
            have hr0 : Rd (Value.int .i64) (w4.alloc (.cells #[.int .i64 (p : Int)] 2)) _ (some ⟨w4.heap.size, 0, none⟩) [(p : Int)] := rd_one (one_cell w4 (.int .i64 (p : Int)) 2).1
            have h0' := own_on (own_on HO.out hb4) ((Below.refl w4.heap.size w4).alloc (Nat.le_refl _) (.cells #[.int .i64 (p : Int)] 2))
            clear hb4 kk
            go_wp2_with (at_builtin; refine wpList_app (Value.int .i64) (fun _ => rfl) _ rfl _ _ 32 rfl w.heap.size 2 (.int .i64 0) 8 Try.underlying32 info_i64 rfl S _ _ rfl h0' [(p : Int)] _ 1 _ rfl hr0 (by have := HSl.out; simp [maxLen]; omega) (by have := HSl.out; simp; omega) (by have := HK.out.size; simp; omega) ?_)
            rintro S' A' c' w5 hS' ho' hb5 _
            have HS' := hid hS'
            have HO' := hid ho'
            have HK5 : Hid (Below w.heap.size w w5) := hid ((HK.out.alloc HK.out.size _).trans hb5)
            clear hS' ho' h0' hr0 hb5
            go_wp2_with fail
            go_roundw
            case rel =>
              refine ⟨k + 1, S', A', c', by omega, by go_num, rfl, ?_, ?_, HO'.out, HK5.out, ?_⟩
              · rw [HS'.out, HSS.out]
              · rw [HS'.out, HN.out, HSk.out]
              · intro j x' hj hx'
                by_cases e : j = k
                · subst e
                  obtain rfl : x = x' := Option.some.inj (HX.out.symm.trans hx')
                  exact HFN.out
                · exact HFR.out j x' (by omega) hx'
            case measure => simp [intOf]; omega
        · obtain ⟨g3, g4⟩ := sofE_far HB.out (show 0 ≤ (f : Int) by omega) (by have := HF.out; omega) (List.mem_of_getElem? HX.out) (show x - topZ z < -9223372036854775807 by rw [HTT.out]; unfold I64 at *; omega)
          have hv1 : vV = [] := by rw [← HV.out.1, g4]
          have hv2 : vE = 2 := by rw [← HV.out.2, g3]
          rw [hv1, hv2]
          rw [ckV_out hA, ckE_out hA] at CS
          clear hv1 hv2 g3 g4 hA ix hit hxt hSs
          go_wp2_with fail
          refine CS.out.mono ?_
          rintro _ _ ⟨rfl, rfl⟩
          go_wp2_with fail
          go_ret2
          exact ⟨none, 0, rfl, own_nil _ _ _, HBL.out⟩
      · obtain rfl : k = M := by omega
        have hSP : S = PW := by rw [HSk.out]; exact List.take_of_length_le (by rw [HPL.out]; exact Nat.le_refl _)
        subst hSP
        obtain ⟨g3, g4⟩ := sofE_in HB.out (show 0 ≤ (f : Int) by omega) (by have := HF.out; omega) (fun j x hj hx => by rw [HTT.out]; exact HFR.out j x (by rw [← HM.out]; exact hj) hx)
        have hv1 : vV = sofL (f : Int) z := by rw [← HV.out.1, g4]
        have hv2 : vE = 0 := by rw [← HV.out.2, g3]
        subst hv2
        have htot := pwI_total (f : Int) z
        rw [HPW.out] at htot
        obtain ⟨T, hT⟩ : ∃ T, (powL (f : Int) z).sum = T := ⟨_, rfl⟩
        rw [hT] at htot
        have HTs : Hid ((powL (f : Int) z).sum = T) := hid hT
        have hT0 : 0 < T := by rw [← hT]; exact HS0.out
        have hT2 : (T : Int) ≤ k * 1073741824 := by rw [← htot]; exact hSs.2
        have RP : Hid (Rd (Value.int .i64) wr wr.heap.size A2 S) := hid (own_rd HO.out)
        have hSL : sofL (f : Int) z = vV := hv1.symm
        have HSL := hid hSL
        have hsl : vV.length = k := by rw [hv1, sofL_len]; exact HM.out
        have HSLl := hid hsl
        rw [htot, hSl]
        have HB2 := hid hbel
        clear hv1 g3 g4 hT htot hSs hSL hbel HV hsl
        obtain ⟨w8, rfl⟩ : ∃ w8, w8 = wr := ⟨_, rfl⟩
        go_wp2_with fail
        go_loopw [15, 17, 18, 19, 71] (fun xl _ _ _ xi wr => ∃ (j : Nat) (Q : List Int) (A3 : Option Addr) (c3 : Nat), j ≤ k ∧ xi = .int .i64 (j : Int) ∧ xl = .slice A3 Q.length c3 ∧ Q = vV.take j ∧ wr.ownsRow w8.heap.size 2 1 (.slice A3 Q.length c3) Q.length (Q.map (Value.int .i64)) ∧ Below w8.heap.size w8 wr) (fun _ _ _ _ xi _ => k - (intOf xi).toNat)
        case atStart => exact ⟨0, [], none, 0, by omega, rfl, rfl, rfl, own_nil _ _ _, Below.refl _ _⟩
        case round =>
          obtain ⟨j, Q, A3, c3, hj, rfl, rfl, hQ, ho3, hb3⟩ := hrel
          have hQl : Q.length = j := by rw [hQ, List.length_take, HSLl.out]; omega
          have HQ := hid hQ
          have HO3 := hid ho3
          have HB3 := hid hb3
          have HQl := hid hQl
          clear hQ ho3 hQl
          by_cases hlj : j < k
          · obtain ⟨b4, o4, pv, rfl, l4, en, c4⟩ := (RP.out.on hb3).at_ (k := j) (by rw [hSl]; exact hlj)
            obtain ⟨xj, hzj⟩ : ∃ xj, z[j]? = some xj := ⟨_, List.getElem?_eq_getElem (show j < z.length by rw [HM.out]; exact hlj)⟩
            have e1 := pwI_at (frac := (f : Int)) hzj
            have e2 := sofL_at2 (frac := (f : Int)) hzj
            have e3 := pow_le_sum (frac := (f : Int)) hzj
            rw [HPW.out] at e1
            rw [HSL.out, HTs.out] at e2
            rw [HTs.out] at e3
            obtain ⟨p, hp⟩ : ∃ p, expN (topZ z - xj).toNat (f : Int).toNat = p := ⟨_, rfl⟩
            rw [hp] at e1 e2 e3
            obtain rfl : (p : Int) = pv := Option.some.inj (e1.symm.trans en)
            obtain ⟨u1, u2⟩ := div_sh (p := p) (S := T) (k := f) hT0 e3 HF.out
            have CD := hid (ref_Div (p : Int) (T : Int) f HF.out (by unfold I64; omega) (by unfold I64; omega) (by omega) wr)
            rw [u1, u2] at CD
            rw [show (f : Int).toNat = f from rfl] at e2
            obtain ⟨s, hs⟩ : ∃ s, shN (2 ^ f) T p = s := ⟨_, rfl⟩
            rw [hs] at CD e2
            have hnx : vV.take (j + 1) = vV.take j ++ [(s : Int)] := by rw [List.take_add_one, e2]; rfl
            have HNX := hid hnx
            clear e1 e2 e3 en hzj hp u1 u2 hs hnx hb3
            go_wp2_with fail
            refine CD.out.mono ?_
            rintro _ w4 ⟨rfl, hb4⟩
            have kk : Below w8.heap.size w8 w4 := HB3.out.trans (hb4.mono HB3.out.size)
            have HK := hid kk
            have hr0 : Rd (Value.int .i64) (w4.alloc (.cells #[.int .i64 (s : Int)] 2)) _ (some ⟨w4.heap.size, 0, none⟩) [(s : Int)] := rd_one (one_cell w4 (.int .i64 (s : Int)) 2).1
            have h0' := own_on (own_on HO3.out hb4) ((Below.refl w4.heap.size w4).alloc (Nat.le_refl _) (.cells #[.int .i64 (s : Int)] 2))
            clear hb4 kk
            go_wp2_with (at_builtin; refine wpList_app (Value.int .i64) (fun _ => rfl) _ rfl _ _ 32 rfl w8.heap.size 2 (.int .i64 0) 8 Try.underlying32 info_i64 rfl Q _ _ rfl h0' [(s : Int)] _ 1 _ rfl hr0 (by have := HQl.out; simp [maxLen]; omega) (by have := HQl.out; simp; omega) (by have := HK.out.size; simp; omega) ?_)
            rintro S' A' c' w5 hS' ho' hb5 _
            have HS' := hid hS'
            have HO' := hid ho'
            have HK5 : Hid (Below w8.heap.size w8 w5) := hid ((HK.out.alloc HK.out.size _).trans hb5)
            clear hS' ho' h0' hr0 hb5
            go_wp2_with fail
            go_roundw
            case rel => exact ⟨j + 1, S', A', c', by omega, by go_num, rfl, by rw [HS'.out, HNX.out, HQ.out], HO'.out, HK5.out⟩
            case measure => simp [intOf]; omega
          · obtain rfl : j = k := by omega
            have hQP : Q = vV := by rw [HQ.out]; exact List.take_of_length_le (by rw [HSLl.out]; exact Nat.le_refl _)
            subst hQP
            go_wp2_with fail
            go_ret2
            exact ⟨A3, c3, rfl, own_base HO3.out HB2.out.size, HB2.out.trans (HB3.out.mono HB2.out.size)⟩
  · obtain ⟨e1, e2⟩ := sofE_bst (frac := frac) hB
    have e3 : bstN z = 0 := if_neg hB
    rw [e1, e2]
    rw [e3] at CB
    obtain ⟨E, hE⟩ : ∃ E, bstE z = E := ⟨_, rfl⟩
    rw [hE] at CB hB ⊢
    have hne : (E != 0) = true := by simpa using hB
    clear e1 e2 e3 hE hB ra
    go_enter Try.func20, Try.ntmps20
    go_wp2_with fail
    refine CB.out.mono ?_
    rintro _ w1 ⟨rfl, hb1⟩
    go_wp2_with fail
    go_ret2
    exact ⟨none, 0, rfl, own_nil _ _ _, hb1⟩
end Go.Proofs.Ytnokomlekndgfaa
