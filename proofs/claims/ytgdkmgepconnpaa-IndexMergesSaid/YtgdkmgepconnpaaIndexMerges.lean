
/-
  IndexMerges answers true for every input. No condition.
-/
import Derived.SizedLaws
import Derived.Test.YtgdkmgepconnpaaIxLv
import Derived.Test.YtgdkmgepconnpaaIxN
import Derived.Test.YtgdkmgepconnpaaIxS
import Derived.Test.YtgdkmgepconnpaaArg
import Derived.Test.YtgdkmgepconnpaaArgS
import Derived.Test.YtgdkmgepconnpaaLaw
namespace Go.Proofs.Ytgdkmgepconnpaa.IndexMerges
open Go.ChangeShapes Go.WideShapes Go.ChangeAt Go.RowKit
set_option maxHeartbeats 400000
set_option linter.unusedVariables false
open Go.Proofs.Ytgdkmgepconnpaa Go.Maps
theorem info_sl : (Try.prog.info? 22).map (fun i => (i.zero, i.size, i.bytes)) = some (some (.slice none 0 0), 1, 24) := by kernel_rfl
set_option maxHeartbeats 4000000 in
set_option maxRecDepth 100000 in
theorem walk (As : Option Addr) (ls : List (List Int)) (cs : Nat) (w : World)
    (rs : RdRows w w.heap.size As ls) (is_ : ∀ u ∈ ls, I64s u ∧ u.length ≤ 140737488355327) (ls_ : ls.length ≤ cs) (ms : cs ≤ 9223372036854775807) (ss : ls.length ≤ 140737488355327) :
    Calls Try.prog 7 #[.slice As ls.length cs] w fun e w' => e = .returned (.bool true) ∧ Below w.heap.size w w' := by
  have RS := hid rs
  have CF := hid (fun (W : World) h => few_any As cs ls ss (fun u hu => (is_ u hu).2) W h)
  cases hf : fewS ls with
  | false =>
    rw [hf] at CF
    clear rs is_ hf
    go_enter Try.func7, Try.ntmps7
    go_wp2_with fail
    refine (live_yes _).mono ?_
    rintro _ w1 ⟨rfl, k1⟩
    go_wp2_with fail
    refine (CF.out w1 (RS.out.on k1)).mono ?_
    rintro _ _ ⟨rfl, rfl⟩
    go_wp2_with fail
    go_ret
    exact ⟨rfl, k1⟩
  | true =>
    obtain ⟨hf6, hf1⟩ := few_sum hf
    rw [hf] at CF
    have C7 := hid (fun (W : World) h1 => ix_Merge (A := As) (c := cs) ls (by omega) (by omega) W h1)
    have hMr := mrgV_ris ls
    have hMl : (mrgV ls).length ≤ 600 := by have h := mrgF_len ls.flatten []; rw [List.length_nil] at h; unfold mrgV; omega
    have HSZ : Hid (Maps.size (mapD ls.flatten) = (mrgV ls).length) := hid (mapD_size _)
    have HH : Hid (∀ i j x n, ls[i]? = some x → x[j]? = some n → hasB (mrgV ls) n = true) := hid (fun i j x n h1 h2 => in_merged h1 h2)
    have HN : Hid (∀ i x, ls[i]? = some x → upto ls i x.length = upto ls (i + 1) 0) := hid (fun i x h => upto_next h)
    have HST : Hid (∀ i j x n, ls[i]? = some x → x[j]? = some n → mapD (upto ls i (j + 1)) = putB (mapD (upto ls i j)) n ∧ (upto ls i (j + 1)).length = (upto ls i j).length + 1) := hid (fun i j x n h1 h2 => by rw [upto_step h1 h2, mapD_snoc]; exact ⟨rfl, by simp⟩)
    have H0 : Hid (upto ls 0 0 = []) := hid (by unfold upto; simp)
    have HE : Hid (upto ls ls.length 0 = ls.flatten) := hid (upto_end ls (Nat.le_refl _))
    have HUL := hid (fun i j => upto_len (ls := ls) (i := i) (j := j))
    have HB1 : Hid (∀ x0 r, ls = x0 :: r → mrgV (ls.reverse ++ [x0]) = mrgV ls) := hid (fun x0 r h => by subst h; exact mrg_back x0 r)
    have HB0 : Hid (ls = [] → mrgV [] = mrgV ls) := hid (fun h => by rw [h])
    have IS := hid is_
    obtain ⟨M, hM⟩ : ∃ M, mrgV ls = M := ⟨_, rfl⟩
    rw [hM] at C7 hMr hMl HSZ HH HB1 HB0
    have CH := hid (fun (A : Option Addr) (c : Nat) (n : Int) (W : World) h1 => ix_Has (A := A) (c := c) M n hMr (by omega) W h1)
    have CR := hid (fun (A : Option Addr) (c : Nat) (W : World) (h1 : Rd (Value.int .i64) W W.heap.size A M) => ref_Rises (A := A) (c := c) M (by omega) W h1)
    rw [show risB M = true from decide_eq_true hMr] at CR
    have SM := hid (fun (A B : Option Addr) (c d : Nat) (W : World) (h1 : Rd (Value.int .i64) W W.heap.size A M) (h2 : Rd (Value.int .i64) W W.heap.size B M) => equal_yes (X := M) (by omega) (A := A) (B := B) (c := c) (d := d) W h1 h2)
    have CB := hid (fun (BR : List (List Int)) (A : Option Addr) (c : Nat) (h1 : BR.length ≤ 101) (h2 : BR.flatten.length ≤ 100000) (W : World) h3 => ix_Merge (A := A) (c := c) BR (by omega) h2 W h3)
    have HFL : Hid (ls.flatten.length ≤ 600 ∧ (∀ u ∈ ls, u.length ≤ 600)) := hid ⟨hf6, fun u hu => by
      obtain ⟨i, hi, rfl⟩ := List.getElem_of_mem hu
      have h1 := upto_len (ls := ls) (i := i) (j := ls[i].length)
      unfold upto at h1
      rw [List.getD_eq_getElem?_getD, List.getElem?_eq_getElem hi, Option.getD_some, List.take_length, List.length_append] at h1
      omega⟩
    have hmm := @run_makeMap Try.prog
    clear hM rs is_ hf hf6 hMr
    go_enter Try.func7, Try.ntmps7
    go_wp2_with fail
    refine (live_yes _).mono ?_
    rintro _ w1 ⟨rfl, k1⟩
    go_wp2_with fail
    refine (CF.out w1 (RS.out.on k1)).mono ?_
    rintro _ _ ⟨rfl, rfl⟩
    go_wp2_with fail
    refine (C7.out w1 (RS.out.on k1)).mono ?_
    rintro _ wm ⟨Am, cm, rfl, hom, hbm⟩
    have km := k1.trans (hbm.mono k1.size)
    have RM := hid (own_rd hom)
    obtain ⟨ps, hps, hfit⟩ := rows_split (RS.out.on km)
    have HPS := hid hps
    have HFIT := hid hfit
    have HPL : Hid (ps.length = ls.length) := hid hfit.1
    have HKM := hid km
    clear hom hbm k1 km hps hfit CF C7
    go_wp2_with fail
    clear hmm
    go_loopw [6, 7, 8, 10, 11, 12, 25] (fun bk x7 x8 x10 x11 x12 i wr => ∃ (k : Nat) (Q : List Sl) (A2 : Option Addr) (c2 : Nat), k ≤ ls.length ∧ i = .int .i64 k ∧ Q.length = k ∧ bk = .slice A2 Q.length c2 ∧ Q = ps.reverse.take k ∧ wr.ownsRow (wm.heap.size + 1) 22 1 (.slice A2 Q.length c2) Q.length (Q.map encS) ∧ wr.ownsMap Try.prog 3 (plainElem (H := Unit) Try.prog 4) wm.heap.size (upto ls k 0).length (mapD (upto ls k 0)) ∧ Below wm.heap.size wm wr ∧ wm.heap.size < wr.heap.size) (fun _ _ _ _ _ _ i _ => ls.length - (intOf i).toNat)
    case atStart =>
      refine ⟨0, [], none, 0, by omega, rfl, rfl, rfl, rfl, own_nil _ _ _, ?_, by go_grown, by simp [go_sem]⟩
      rw [H0.out]
      exact World.ownsMap_made wm _ _ _
    case round =>
      obtain ⟨k, Q, A2, c2, hk, rfl, hQk, rfl, hQ, hown, hmap, hbel, hsz⟩ := hrel
      have HQ := hid hQ
      have HO := hid hown
      have HQK := hid hQk
      have HMP := hid hmap
      have lQ : Q.length ≤ 100 := by omega
      clear hQ hown hQk hmap
      by_cases hlt : k < ls.length
      · obtain ⟨j, hj⟩ : ∃ j, ls.length - 1 - k = j := ⟨_, rfl⟩
        have hji : (ls.length : Int) - 1 - (k : Int) = (j : Int) := by omega
        have hi1 : (j : Int) < (ls.length : Int) := by omega
        obtain ⟨b', off', p, rfl, l3, ep, hc3⟩ := (HPS.out.below hbel).at_ (show j < ps.length by have := HPL.out; omega)
        obtain ⟨b2, off2, q, e5, l5, eq, hc5⟩ := (HPS.out.below hbel).at_ (show k < ps.length by have := HPL.out; omega)
        injection e5 with e5
        injection e5 with e5 e6
        subst e5 e6
        have hx0 : ls[k]? = some ls[k] := List.getElem?_eq_getElem hlt
        obtain ⟨x, hx⟩ : ∃ x, ls[k] = x := ⟨_, rfl⟩
        rw [hx] at hx0
        obtain ⟨f1, f2⟩ := HFIT.out.2 k q x eq hx0
        have HB := hid (back_next (ps := ps) (k := k) (p := p) (by rw [HPL.out, hj]; exact ep) (by rw [HPL.out]; exact hlt))
        have hxl := HFL.out.2 x (List.mem_of_getElem? hx0)
        have HIx := hid (IS.out x (List.mem_of_getElem? hx0)).1
        have HX := hid hx0
        have RX := hid f2
        obtain ⟨pA, pn, pc⟩ := p
        obtain ⟨qA, qn, qc⟩ := q
        have f1' : qn = x.length := f1
        subst f1'
        have hc4 : wr.cell? ⟨b', off' + j, none⟩ = some (.slice pA pn pc) := hc3
        have hc6 : wr.cell? ⟨b', off' + k, none⟩ = some (.slice qA x.length qc) := hc5
        have h0 := own_on HO.out ((Below.refl wr.heap.size wr).alloc (Nat.le_refl _) (.cells #[.slice pA pn pc] 22))
        have hr0 : Rd encS (wr.alloc (.cells #[.slice pA pn pc] 22)) _ (some ⟨wr.heap.size, 0, none⟩) [(pA, pn, pc)] := rd_one (one_cell wr (.slice pA pn pc) 22).1
        clear hc3 hc5 ep eq f1 f2 hx hx0 hj
        go_wp2_with (at_builtin; refine wpList_app encS encS_one _ rfl _ _ 36 rfl (wm.heap.size + 1) 22 (.slice none 0 0) 24 Try.underlying36 info_sl rfl Q _ _ rfl h0 [(pA, pn, pc)] _ 1 _ rfl hr0 (by simp [maxLen]; omega) (by simp; omega) (by simp; omega) ?_)
        rintro Q' A' c' w5 hQ' ho hb1 _
        have HQ' := hid hQ'
        have HO' := hid ho
        have hal := (Below.refl wr.heap.size wr).alloc (Nat.le_refl _) (.cells #[.slice pA pn pc] 22)
        have HM5 := hid (om_below (HMP.out.alloc (.cells #[.slice pA pn pc] 22)) hb1 (Nat.lt_succ_self _))
        have hbel5 : Below wm.heap.size wm w5 := (hbel.alloc hbel.size (.cells #[.slice pA pn pc] 22)).trans (hb1.mono (Nat.le_succ _))
        have hsz5 : wm.heap.size < w5.heap.size := by have h1 := hal.size; have h2 := hb1.size; omega
        have lQ' : Q'.length ≤ 101 := by rw [hQ', List.length_append]; simp; omega
        clear hQ' ho h0 hr0 hal hb1 hc4 HMP hbel hsz hc6
        go_wp2_with fail
        go_loopw [10, 11, 12, 43] (fun x10 x11 x12 i wr => ∃ t : Nat, t ≤ x.length ∧ i = .int .i64 t ∧ wr.ownsRow (wm.heap.size + 1) 22 1 (.slice A' Q'.length c') Q'.length (Q'.map encS) ∧ wr.ownsMap Try.prog 3 (plainElem (H := Unit) Try.prog 4) wm.heap.size (upto ls k t).length (mapD (upto ls k t)) ∧ Below wm.heap.size wm wr ∧ wm.heap.size < wr.heap.size) (fun _ _ _ i _ => x.length - (intOf i).toNat)
        case atStart => exact ⟨0, by omega, rfl, HO'.out, HM5.out, hbel5, hsz5⟩
        case round =>
          clear HO' HM5 hbel5 hsz5
          obtain ⟨t, ht, rfl, ho, hmap, hbel, hsz⟩ := hrel
          have HO' := hid ho
          clear ho
          by_cases htl : t < x.length
          · obtain ⟨b3, o3, n, rfl, l6, en, c6⟩ := (RX.out.below hbel).at_ htl
            have hin := HIx.out.at_ en
            have hwf : (Lit.int .i64 n).wf = true := WalkArith.wf_i64 (by unfold I64 at hin; omega)
            have hkey := keyOf_int_mk (P := Try.prog) Try.underlying3 hwf
            obtain ⟨HS1, HS2⟩ := HST.out k t x n HX.out en
            have HS1 := hid HS1
            have HS2 := hid HS2
            have hhas := HH.out k t x n HX.out en
            have CH1 := hid (fun A c W h => CH.out A c n W h)
            rw [hhas] at CH1
            have hul := HUL.out k t
            have hul2 := HFL.out.1
            have hmx : (upto ls k t).length < maxLen := by unfold maxLen; omega
            unfold I64 at hin
            clear en hhas hul hul2
            go_wp2_with (at_mapUpdate; refine wpList_mapUpdate_own _ rfl _ _ _ 50 rfl 3 4 (int_keyed Try.underlying3) Try.underlying50 _ wm.heap.size _ _ rfl hmap hmx _ _ _ rfl rfl hkey _ [] (plainElem_bool Try.underlying4 true) ?_)
            intro w6 hmap6 hgrow6
            have hb6 := grown_below hgrow6 (Nat.le_refl _) (Nat.le_of_lt hsz)
            have HO6 := hid (own_grown HO'.out hgrow6 (Nat.lt_succ_self _))
            have HM6 := hid hmap6
            have hbel6 := hbel.trans hb6
            have hsz6 : wm.heap.size < w6.heap.size := by have := hb6.size; omega
            have RM6 := hid ((RM.out.below hbel6).more (Nat.le_of_lt hsz6))
            clear hmap hmap6 hgrow6 hb6 hbel hsz HO' hkey hmx c6
            go_wp2_with fail
            refine (CH1.out _ _ w6 RM6.out).mono ?_
            rintro _ w7 ⟨rfl, hb7⟩
            have HO7 := hid (own_on HO6.out hb7)
            have HM7 := hid (om_below HM6.out hb7 hsz6)
            have hbel7 := hbel6.trans (hb7.mono (Nat.le_of_lt hsz6))
            have hsz7 : wm.heap.size < w7.heap.size := by have := hb7.size; omega
            clear hb7 HO6 HM6 hbel6 hsz6 RM6
            go_wp2_with fail
            go_roundw
            case rel => exact ⟨t + 1, by omega, by go_num, HO7.out, by rw [HS1.out, HS2.out]; exact HM7.out, hbel7, hsz7⟩
            case measure => simp [intOf]; omega
          · obtain rfl : t = x.length := by omega
            have HM2 := hid hmap
            have HNx := hid (HN.out k x HX.out)
            clear hmap
            go_wp2_with fail
            go_roundw
            case rel =>
              refine ⟨k + 1, Q', A', c', by omega, by go_num, ?_, rfl, ?_, HO'.out, ?_, hbel, hsz⟩
              · rw [HQ'.out, List.length_append, HQK.out]; rfl
              · rw [HQ'.out, HB.out, ← HQ.out]
              · rw [← HNx.out]; exact HM2.out
            case measure => simp [intOf]; omega
      · obtain rfl : k = ls.length := by omega
        have hmap' := HMP.out
        rw [HE.out] at hmap'
        have hQ1 : Q = ps.reverse := by
          rw [HQ.out, List.take_of_length_le (by rw [List.length_reverse, HPL.out]; exact Nat.le_refl _)]
        have HQ1 := hid hQ1
        have HMF := hid hmap'
        have hfitR := fits_reverse HFIT.out
        have HFR := hid hfitR
        clear hmap' hQ1 hfitR HMP HQ
        by_cases hz : ls.length = 0
        · have hls : ls = [] := List.eq_nil_of_length_eq_zero hz
          have hz0 : ((ls.length : Int)) = 0 := by omega
          have HMW := HMF
          obtain ⟨BR, hBRe⟩ : ∃ BR : List (List Int), BR = [] := ⟨_, rfl⟩
          have hBl : BR.length = Q.length := by rw [hBRe, HQK.out, hz]; rfl
          have hBm : mrgV BR = M := by rw [hBRe]; exact HB0.out hls
          have hB1 : BR.length ≤ 101 := by rw [hBRe]; simp
          have hB2 : BR.flatten.length ≤ 100000 := by rw [hBRe]; simp
          have hBR : RdRows wr wr.heap.size A2 BR := by rw [hBRe]; intro i x hx; simp at hx
          clear hls hBRe hz
          have RMW := hid ((RM.out.below hbel).more (Nat.le_of_lt hsz))
          have hlen := fun ty => HMW.out.len Try.underlying50 ty
          simp only [HSZ.out] at hlen
          have C8 := CB.out BR A2 c2 hB1 hB2
          rw [hBl, hBm] at C8
          have HC8 := hid C8
          have HKW := hid (HKM.out.trans (hbel.mono HKM.out.size))
          have HRB := hid hBR
          have t9 : ((M.length : Int) == (M.length : Int)) = true := by simp
          clear C8 HMW hBR hBl hBm hB1 hB2
          go_wp2_with fail
          refine (CR.out _ _ wr RMW.out).mono ?_
          rintro _ wa ⟨rfl, na, hwa⟩
          have hba : Below wr.heap.size wr wa := by rw [hwa]; exact belowN _ _ na
          have ka := HKW.out.trans (hba.mono HKW.out.size)
          have RMa := hid (RMW.out.on hba)
          have HRa := hid (HRB.out.on hba)
          clear hwa hba hlen RMW HRB HKW
          go_wp2_with fail
          refine (HC8.out wa HRa.out).mono ?_
          rintro _ wb ⟨Ab, cb, rfl, hob, hbb⟩
          have kb := ka.trans (hbb.mono ka.size)
          have RB := hid (own_rd hob)
          have RMb := hid (RMa.out.on hbb)
          clear hob hbb ka RMa HRa
          go_wp2_with fail
          refine (SM.out _ _ _ _ wb RB.out RMb.out).mono ?_
          rintro _ wc ⟨rfl, hbc⟩
          have kc := kb.trans (hbc.mono kb.size)
          clear hbc
          go_wp2_with fail
          go_ret
          exact ⟨rfl, kc⟩
        · obtain ⟨x0, r, hls⟩ : ∃ x0 r, ls = x0 :: r := by
            cases ls with
            | nil => simp at hz
            | cons x r => exact ⟨x, r, rfl⟩
          have hgt : (0 : Int) < (ls.length : Int) := by omega
          obtain ⟨b', off', p, rfl, l3, ep, hc3⟩ := (HPS.out.below hbel).at_ (show 0 < ps.length by have := HPL.out; omega)
          have hx0 : ls[0]? = some x0 := by rw [hls]; rfl
          obtain ⟨f1, f2⟩ := HFIT.out.2 0 p x0 ep hx0
          have hx0l := HFL.out.2 x0 (List.mem_of_getElem? hx0)
          have HBm := hid (HB1.out x0 r hls)
          obtain ⟨pA, pn, pc⟩ := p
          have hc4 : wr.cell? ⟨b', off', none⟩ = some (.slice pA pn pc) := by rw [Nat.add_zero] at hc3; exact hc3
          have HF1 := hid f1
          have HF2 := hid f2
          have h0 := own_on HO.out ((Below.refl wr.heap.size wr).alloc (Nat.le_refl _) (.cells #[.slice pA pn pc] 22))
          have hr0 : Rd encS (wr.alloc (.cells #[.slice pA pn pc] 22)) _ (some ⟨wr.heap.size, 0, none⟩) [(pA, pn, pc)] := rd_one (one_cell wr (.slice pA pn pc) 22).1
          clear hc3 ep f1 f2 hx0 hls hz
          go_wp2_with (at_builtin; refine wpList_app encS encS_one _ rfl _ _ 36 rfl (wm.heap.size + 1) 22 (.slice none 0 0) 24 Try.underlying36 info_sl rfl Q _ _ rfl h0 [(pA, pn, pc)] _ 1 _ rfl hr0 (by simp [maxLen]; omega) (by simp; omega) (by simp; omega) ?_)
          rintro Q' A' c' w5 hQ' ho hb1 _
          have hal := (Below.refl wr.heap.size wr).alloc (Nat.le_refl _) (.cells #[.slice pA pn pc] 22)
          have HMW := hid (om_below (HMF.out.alloc (.cells #[.slice pA pn pc] 22)) hb1 (Nat.lt_succ_self _))
          have hbel5 : Below wm.heap.size wm w5 := (hbel.alloc hbel.size (.cells #[.slice pA pn pc] 22)).trans (hb1.mono (Nat.le_succ _))
          have hsz5 : wm.heap.size < w5.heap.size := by have h1 := hal.size; have h2 := hb1.size; omega
          have hfit5 := fits_more (fits_on (fits_snoc HFR.out (p := (pA, pn, pc)) HF1.out HF2.out) hbel5) (Nat.le_of_lt hsz5)
          have hQ2 : Q' = ps.reverse ++ [(pA, pn, pc)] := by rw [hQ', HQ1.out]
          obtain ⟨BR, hBRe⟩ : ∃ BR : List (List Int), BR = ls.reverse ++ [x0] := ⟨_, rfl⟩
          have hBR : RdRows w5 w5.heap.size A' BR := rows_join (own_rd ho) (by rw [hQ2, hBRe]; exact hfit5)
          have hBl : BR.length = Q'.length := by rw [hBRe, hQ2, List.length_append, List.length_append, List.length_reverse, List.length_reverse, HPL.out]; rfl
          have hBm : mrgV BR = M := by rw [hBRe]; exact HBm.out
          have hB1 : BR.length ≤ 101 := by rw [hBRe, List.length_append, List.length_reverse]; simp; omega
          have hB2 : BR.flatten.length ≤ 100000 := by
            have h1 := flat_le (ls := BR) (n := 600) (fun u hu => by
              rw [hBRe, List.mem_append, List.mem_reverse, List.mem_singleton] at hu
              rcases hu with hu | rfl
              · exact HFL.out.2 u hu
              · exact hx0l)
            have h2 := Nat.mul_le_mul_right 600 hB1
            omega
          clear hQ' ho h0 hr0 hal hb1 hc4 HMF hbel hsz hQ2 hBRe hfit5
          have RMW := hid ((RM.out.below hbel5).more (Nat.le_of_lt hsz5))
          have hlen := fun ty => HMW.out.len Try.underlying50 ty
          simp only [HSZ.out] at hlen
          have C8 := CB.out BR A' c' hB1 hB2
          rw [hBl, hBm] at C8
          have HC8 := hid C8
          have HKW := hid (HKM.out.trans (hbel5.mono HKM.out.size))
          have HRB := hid hBR
          have t9 : ((M.length : Int) == (M.length : Int)) = true := by simp
          clear C8 HMW hBR hBl hBm hB1 hB2
          go_wp2_with fail
          refine (CR.out _ _ w5 RMW.out).mono ?_
          rintro _ wa ⟨rfl, na, hwa⟩
          have hba : Below w5.heap.size w5 wa := by rw [hwa]; exact belowN _ _ na
          have ka := HKW.out.trans (hba.mono HKW.out.size)
          have RMa := hid (RMW.out.on hba)
          have HRa := hid (HRB.out.on hba)
          clear hwa hba hlen RMW HRB HKW
          go_wp2_with fail
          refine (HC8.out wa HRa.out).mono ?_
          rintro _ wb ⟨Ab, cb, rfl, hob, hbb⟩
          have kb := ka.trans (hbb.mono ka.size)
          have RB := hid (own_rd hob)
          have RMb := hid (RMa.out.on hbb)
          clear hob hbb ka RMa HRa
          go_wp2_with fail
          refine (SM.out _ _ _ _ wb RB.out RMb.out).mono ?_
          rintro _ wc ⟨rfl, hbc⟩
          have kc := kb.trans (hbc.mono kb.size)
          clear hbc
          go_wp2_with fail
          go_ret
          exact ⟨rfl, kc⟩
theorem law_types : ∀ t ∈ Try.f7.params.toList, Try.prog.readableRec t = true ∧ t < Try.prog.types.size := by
  have h : (Try.f7.params.toList.all fun t => Try.prog.readableRec t && decide (t < Try.prog.types.size)) = true := by kernel_rfl
  intro t ht
  simpa using List.all_eq_true.1 h t ht
set_option maxRecDepth 100000 in
theorem lifted (os : Os) (started : os.Started) (H : Type) (enc : TypeId × Value → H) :
    ReturnsInHanded {} Try.checked os 7 .any (Rows.indexMergesSpec.pre6 enc Try.prog Try.f7 Rows.indexMergesRow.domain false) (Rows.indexMergesSpec.post enc Try.prog Try.f7 false true false false) := by
  refine returnsInHanded_of_change_sized (C := Try.checked) own started (by kernel_rfl) Try.func7
    (ChangeSpec.witness6 (enc := enc) (C := Try.checked) false ⟨#[], #[.slice none 0 0], []⟩ 8 (by kernel_rfl) (by kernel_rfl) (by kernel_rfl) (by kernel_rfl)) ?_
  intro W base args ds gs before hval0 hW hcnd hsz0 _
  have hval : ∀ (j : Nat) t v, Try.f7.params[j]? = some t → args[j]? = some v → Value.okWide Try.prog W .any base t v := hval0
  have hW' := hW
  obtain ⟨p, q, hA0, hV, rfl, hfz, hnd⟩ := hW
  have hA : DataW.TrodAll enc Try.prog W 0 (fun _ => true) true Try.f7.params.toList args.toList ds p := hA0
  rw [Try.params7] at hA hval
  obtain ⟨v0, vs0, d0, ds0, p0, q0, hargs, rfl, rfl, h0, r0⟩ := trodAll_cons hA
  obtain ⟨rfl, rfl, rfl⟩ := trodAll_nil r0
  obtain rfl : args = #[v0] := by cases args; simp_all
  obtain ⟨rfl, rfl⟩ := trodVars_none hV
  have hszA : ∀ n ∈ DataW.weightsEach Try.prog (Try.f7.params.toList ++ []) ([d0] ++ []), n ≤ reachBytes := fun n hn => by
    have h := List.all_eq_true.1 hsz0 n hn
    simpa using h
  rw [Try.params7] at hszA
  obtain ⟨Als, ls, cls, rfl, rdls, ils, lcls, lmls, szls⟩ := open_rowsd Try.underlying36 Try.underlying22 Try.underlying3 cells_ints cells_int (by decide +kernel) (by decide +kernel) (hval 0 36 v0 rfl rfl) h0 (fun n hn => hszA n (DataW.weights_mem_each (j := 0) rfl rfl n hn))
  have hsz : (DataW.weightsEach Try.prog (Try.f7.params.toList ++ []) ([_] ++ [])).all (· ≤ reachBytes) = true := hsz0
  rw [Try.params7] at hsz
  clear hA0 hval0
  refine (walk Als ls cls W rdls ils lcls lmls szls).mono fun e W' ⟨he, hb⟩ => ?_
  subst he
  exact ⟨_, rfl, law_post laid (fun t ht => law_types t ht) rfl hW' ⟨rfl, rfl, rfl⟩ (by kernel_rfl) Try.underlying4 hb⟩

theorem over : Rows.indexMergesRow.holds Try.pinned (OpenSpec.ofChange Rows.indexMergesSpec) :=
  OpenClaim.holds_of_wide 7 Try.f7 rfl rfl rfl rfl rfl rfl rfl ⟨rfl, rfl, rfl, rfl, rfl⟩ rfl rfl rfl rfl rfl (by kernel_rfl) Try.func7 (by kernel_rfl)
    (of_decide_eq_true (by kernel_rfl)) (by unfold Func.isWrapper; first | (rw [if_pos (by decide +kernel)]; kernel_rfl) | (rw [if_neg (by decide +kernel)]; exact ⟨rfl, rfl⟩))
    (fun os started H enc _ => lifted os started H enc)

theorem proved : Rows.IndexMergesSaid := over
end Go.Proofs.Ytgdkmgepconnpaa.IndexMerges
