
/- The greatest number's place, and powers number by number, by the program. -/
import Derived.Test.YtnokomlekndgfaaTbE
import Derived.Test.YtnokomlekndgfaaVec2
import Derived.Deep.MidRow
namespace Go.Proofs.Ytnokomlekndgfaa
open Go.RowKit
set_option maxHeartbeats 2000000
set_option maxRecDepth 100000
set_option linter.unusedVariables false
theorem tb_Best {A : Option Addr} {c : Nat} (z : List Int) (hz : z.length ≤ 9223372036854775807) (w : World) (ra : Rd (Value.int .i64) w w.heap.size A z) :
    Calls Try.prog 21 #[.slice A z.length c] w fun e w' => e = .returned (.tuple #[.int .i64 (bstN z : Int), .int .i64 (bstE z)]) ∧ Below w.heap.size w w' := by
  have CC := hid (fun w => Check_any A z.length c hz w)
  by_cases h0 : z = []
  · subst h0
    have e1 : bstE [] = 1 := rfl
    have e2 : bstN [] = 0 := rfl
    rw [e1, e2]
    clear ra e1 e2
    go_enter Try.func21, Try.ntmps21
    go_wp2_with fail
    go_ret2
    exact ⟨rfl, Below.refl _ _⟩
  · have hpos : 0 < z.length := List.length_pos_iff.2 h0
    have t0 : ((z.length : Int) == 0) = false := beq_eq_false_iff_ne.2 (by omega)
    have t1 : (z.length == 0) = false := beq_eq_false_iff_ne.2 (by omega)
    by_cases h4 : 4096 < z.length
    · have e1 : bstE z = 3 := by unfold bstE; rw [if_neg h0, if_pos h4]
      have e2 : bstN z = 0 := if_neg (by rw [e1]; decide)
      have e3 : oneE z.length = 3 := if_pos h4
      rw [e1, e2]
      rw [e3] at CC
      clear ra e1 e2 e3 h0
      go_enter Try.func21, Try.ntmps21
      go_wp2_with fail
      refine (CC.out _).mono ?_
      rintro _ _ ⟨rfl, rfl⟩
      go_wp2_with fail
      go_ret2
      exact ⟨rfl, Below.refl _ _⟩
    · have e1 : bstE z = 0 := bstE_ok.2 ⟨h0, by omega⟩
      have e2 : bstN z = bstGo z z.length := if_pos e1
      have e3 : oneE z.length = 0 := if_neg h4
      rw [e1, e2]
      rw [e3] at CC
      obtain ⟨M, hM⟩ : ∃ M, z.length = M := ⟨_, rfl⟩
      have HB : Hid (∀ k, k < M → ∃ x y, z[k]? = some x ∧ z[bstGo z k]? = some y ∧ bstGo z k < M ∧ bstGo z (k + 1) = if x > y then k else bstGo z k) := hid (fun k hk => by
        have hb : bstGo z k < z.length := by rcases bstGo_lt (z := z) k with h | h <;> omega
        refine ⟨z.getD k 0, z.getD (bstGo z k) 0, ?_, ?_, by omega, rfl⟩
        · rw [List.getD_eq_getElem?_getD, List.getElem?_eq_getElem (by omega)]; rfl
        · rw [List.getD_eq_getElem?_getD, List.getElem?_eq_getElem hb]; rfl)
      have HR := hid ra
      have HM := hid hM
      rw [hM] at hpos t0 t1 h4 CC ⊢
      obtain ⟨f, hf⟩ : ∃ f : Nat → Nat, (fun k => bstGo z k) = f := ⟨_, rfl⟩
      have HF : Hid (∀ k, bstGo z k = f k) := hid (fun k => by rw [← hf])
      rw [HF.out M]
      have HZ : Hid (f 0 = 0) := hid (by rw [← HF.out]; rfl)
      clear hf hM ra e1 e2 e3 h0
      go_enter Try.func21, Try.ntmps21
      go_wp2_with fail
      refine (CC.out _).mono ?_
      rintro _ _ ⟨rfl, rfl⟩
      go_wp2_with fail
      go_loopw [5, 6, 7, 18] (fun xa _ _ i wr => ∃ k : Nat, k ≤ M ∧ i = .int .i64 (k : Int) ∧ xa = .int .i64 (f k : Int) ∧ Below w.heap.size w wr) (fun _ _ _ i _ => M - (intOf i).toNat)
      case atStart => exact ⟨0, by omega, rfl, by rw [HZ.out]; rfl, Below.refl _ _⟩
      case round =>
        obtain ⟨k, hk, rfl, rfl, hbel⟩ := hrel
        have HBL := hid hbel
        by_cases hlt : k < M
        · obtain ⟨x, y, ex, ey, hb, hs⟩ := HB.out k hlt
          rw [HF.out, HF.out] at hs
          rw [HF.out] at ey hb
          obtain ⟨b1, o1, x', rfl, l1, en, c1⟩ := (HR.out.on hbel).at_ (k := k) (by rw [HM.out]; exact hlt)
          obtain ⟨b2, o2, y', e2, l2, em, c2⟩ := (HR.out.on hbel).at_ (k := f k) (by rw [HM.out]; exact hb)
          obtain rfl : x = x' := Option.some.inj (ex.symm.trans en)
          obtain rfl : y = y' := Option.some.inj (ey.symm.trans em)
          cases e2
          obtain ⟨Q, hQ⟩ : ∃ Q, f k = Q := ⟨_, rfl⟩
          rw [hQ] at hb hs c2 ⊢
          have HS := hid hs
          clear hs ex ey en em hbel hQ
          by_cases hxy : x > y
          · have hq : f (k + 1) = k := by rw [HS.out, if_pos hxy]
            have HQ := hid hq
            clear hq HS
            go_wp2_with fail
            go_roundw
            case rel => exact ⟨k + 1, by omega, by go_num, by rw [HQ.out], HBL.out⟩
            case measure => simp [intOf]; omega
          · have hq : f (k + 1) = Q := by rw [HS.out, if_neg hxy]
            have HQ := hid hq
            clear hq HS
            go_wp2_with fail
            go_roundw
            case rel => exact ⟨k + 1, by omega, by go_num, by rw [HQ.out], HBL.out⟩
            case measure => simp [intOf]; omega
        · obtain rfl : k = M := by omega
          go_wp2_with fail
          go_ret2
          exact ⟨rfl, HBL.out⟩
/-- The powers, if all of them can be told. -/
def powV (frac : Int) (z : List Int) : List Int := if sofE frac z = 0 then pwI frac z else []
theorem tb_powers {A : Option Addr} {c : Nat} (f : Nat) (hf : f ≤ 30) (z : List Int) (hB : bstE z = 0) (iz : I64s z) (w : World) (ra : Rd (Value.int .i64) w w.heap.size A z) :
    Calls Try.prog 29 #[.agg #[.int .u64 1073741824, .int .u64 1028218692, .int .u64 984625593, .int .u64 942880698, .int .u64 902905650, .int .u64 864625412, .int .u64 827968131, .int .u64 792864998, .int .u64 759250124, .int .u64 727060409, .int .u64 696235433, .int .u64 666717334, .int .u64 638450707, .int .u64 611382491, .int .u64 585461880, .int .u64 560640217, .int .u64 536870912], .slice A z.length c, .int .i64 (topZ z), .int .i64 (f : Int)] w (OwnInts (powV (f : Int) z) (sofE (f : Int) z) w) := by
  obtain ⟨hne, hl4⟩ := bstE_ok.1 hB
  obtain ⟨top, ht⟩ : ∃ top, topZ z = top := ⟨_, rfl⟩
  have htop := top_at hne
  rw [ht] at htop ⊢
  have it : I64 top := iz.at_ htop
  have hge : ∀ k x, z[k]? = some x → x ≤ top := fun k x hx => by rw [← ht]; exact topZ_ge (List.mem_of_getElem? hx)
  obtain ⟨w2, hw2⟩ : ∃ w2, w.alloc (.cells #[.int .u64 1073741824, .int .u64 1028218692, .int .u64 984625593, .int .u64 942880698, .int .u64 902905650, .int .u64 864625412, .int .u64 827968131, .int .u64 792864998, .int .u64 759250124, .int .u64 727060409, .int .u64 696235433, .int .u64 666717334, .int .u64 638450707, .int .u64 611382491, .int .u64 585461880, .int .u64 560640217, .int .u64 536870912] 45) = w2 := ⟨_, rfl⟩
  have hs2 : w2.heap.size = w.heap.size + 1 := by rw [← hw2]; simp
  have hb2 : Below w.heap.size w w2 := by rw [← hw2]; go_grown
  have f2 : BoxL w2 w.heap.size [.int .u64 1073741824, .int .u64 1028218692, .int .u64 984625593, .int .u64 942880698, .int .u64 902905650, .int .u64 864625412, .int .u64 827968131, .int .u64 792864998, .int .u64 759250124, .int .u64 727060409, .int .u64 696235433, .int .u64 666717334, .int .u64 638450707, .int .u64 611382491, .int .u64 585461880, .int .u64 560640217, .int .u64 536870912] := by rw [← hw2]; exact BoxL.new w [.int .u64 1073741824, .int .u64 1028218692, .int .u64 984625593, .int .u64 942880698, .int .u64 902905650, .int .u64 864625412, .int .u64 827968131, .int .u64 792864998, .int .u64 759250124, .int .u64 727060409, .int .u64 696235433, .int .u64 666717334, .int .u64 638450707, .int .u64 611382491, .int .u64 585461880, .int .u64 560640217, .int .u64 536870912] 45
  obtain ⟨M, hM⟩ : ∃ M, z.length = M := ⟨_, rfl⟩
  rw [hM] at hl4 ⊢
  have hmk := run_make_row' (P := Try.prog) 32 2 (.int .i64 0) 8 Try.underlying32 info_i64 rfl .i64 .i64 M (by omega) (by omega) w2
  have hrw := World.rowIs_made w2 (.int .i64 0) M 2
  rw [hs2] at hmk hrw
  obtain ⟨w3, hw3⟩ : ∃ w3, w2.alloc (.cells (madeCells #[.int .i64 0] M) 2) = w3 := ⟨_, rfl⟩
  have hb3 : Below w.heap.size w w3 := by rw [← hw3]; exact hb2.alloc hb2.size _
  have f3 : BoxL w3 w.heap.size [.int .u64 1073741824, .int .u64 1028218692, .int .u64 984625593, .int .u64 942880698, .int .u64 902905650, .int .u64 864625412, .int .u64 827968131, .int .u64 792864998, .int .u64 759250124, .int .u64 727060409, .int .u64 696235433, .int .u64 666717334, .int .u64 638450707, .int .u64 611382491, .int .u64 585461880, .int .u64 560640217, .int .u64 536870912] := by
    rw [← hw3]
    exact f2.below ((Below.refl _ w2).alloc (Nat.le_refl _) _) (by omega)
  rw [hw3] at hmk hrw
  have hrow0 : w3.rowIs (w.heap.size + 1) 2 M (fun j => if j < 0 then .int .i64 ((pwI (f : Int) z).getD j 0) else .int .i64 0) := by simpa using hrw
  obtain ⟨vE, hvE⟩ : ∃ vE, sofE (f : Int) z = vE := ⟨_, rfl⟩
  obtain ⟨vV, hvV⟩ : ∃ vV, powV (f : Int) z = vV := ⟨_, rfl⟩
  rw [hvE, hvV]
  have HV : Hid (powV (f : Int) z = vV ∧ sofE (f : Int) z = vE) := hid ⟨hvV, hvE⟩
  have HB := hid hB
  have HF := hid hf
  have HT := hid htop
  have HTT := hid ht
  have HG := hid hge
  have HI := hid iz
  have HIT := hid it
  have HM := hid hM
  have RA := hid ra
  have HW3 := hid hb3
  have F3 := hid f3
  have HR0 := hid hrow0
  have hpi : (f : Int) ≤ 30 := by omega
  clear hB hf htop ht hge iz it hM ra hb3 f3 hrow0 hvE hvV f2 hb2 hs2 hrw hne
  go_enter Try.func29, Try.ntmps29
  go_wp2_with fail
  go_loopw [11, 12, 13, 14, 20] (fun _ _ _ _ xi wr => ∃ k : Nat, k ≤ M ∧ xi = .int .i64 (k : Int) ∧ wr.rowIs (w.heap.size + 1) 2 M (fun j => if j < k then .int .i64 ((pwI (f : Int) z).getD j 0) else .int .i64 0) ∧ BoxL wr w.heap.size [.int .u64 1073741824, .int .u64 1028218692, .int .u64 984625593, .int .u64 942880698, .int .u64 902905650, .int .u64 864625412, .int .u64 827968131, .int .u64 792864998, .int .u64 759250124, .int .u64 727060409, .int .u64 696235433, .int .u64 666717334, .int .u64 638450707, .int .u64 611382491, .int .u64 585461880, .int .u64 560640217, .int .u64 536870912] ∧ Below w.heap.size w wr ∧ (∀ j x, j < k → z[j]? = some x → -9223372036854775807 ≤ x - top)) (fun _ _ _ _ xi _ => M - (intOf xi).toNat)
  case atStart => exact ⟨0, by omega, rfl, HR0.out, F3.out, HW3.out, fun j x hj => by omega⟩
  case round =>
    obtain ⟨k, hk, rfl, hrow, hbox, hbel, hfar⟩ := hrel
    have HROW := hid hrow
    have HBOX := hid hbox
    have HFR := hid hfar
    have HBL := hid hbel
    clear hfar HW3 F3 HR0 hmk hw2 hw3 hrow hbox
    by_cases hlt : k < M
    · obtain ⟨b1, o1, x, rfl, l1, en, c1⟩ := (RA.out.on hbel).at_ (k := k) (by rw [HM.out]; exact hlt)
      have ix : I64 x := HI.out.at_ en
      have hxt : x ≤ top := HG.out k x en
      have CS := hid (fix_Sub x top ix HIT.out wr)
      have HX := hid en
      have hit := HIT.out
      clear hbel en
      by_cases hA : I64 (x - top)
      · rw [ckV_in hA, ckE_in hA] at CS
        have CE := hid (tb_exp (f : Int) (x - top) hA wr)
        by_cases hmin : x - top = -9223372036854775808
        · obtain ⟨g1, g2⟩ := exp_min (frac := (f : Int)) (show ¬ ((f : Int) < 0 ∨ 30 < (f : Int) ∨ 0 < x - top) by have := HF.out; omega) hmin
          rw [g1, g2] at CE
          obtain ⟨g3, g4⟩ := sofE_far HB.out (show 0 ≤ (f : Int) by omega) hpi (List.mem_of_getElem? HX.out) (show x - topZ z < -9223372036854775807 by rw [HTT.out]; omega)
          have hv2 : vE = 2 := by rw [← HV.out.2, g3]
          have hv1 : vV = [] := by rw [← HV.out.1]; unfold powV; rw [g3]; exact if_neg (by decide)
          subst hv1 hv2
          obtain ⟨D, hD⟩ : ∃ D, x - top = D := ⟨_, rfl⟩
          rw [hD] at CS CE
          clear g1 g2 g3 g4 hmin hA hD ix hit hxt
          go_wp2_with fail
          refine CS.out.mono ?_
          rintro _ _ ⟨rfl, rfl⟩
          go_wp2_with (refine wpList_load_mid rfl 45 _ rfl w.heap.size 0 rfl [.int .u64 1073741824, .int .u64 1028218692, .int .u64 984625593, .int .u64 942880698, .int .u64 902905650, .int .u64 864625412, .int .u64 827968131, .int .u64 792864998, .int .u64 759250124, .int .u64 727060409, .int .u64 696235433, .int .u64 666717334, .int .u64 638450707, .int .u64 611382491, .int .u64 585461880, .int .u64 560640217, .int .u64 536870912] _ (box_range HBOX.out) Try.underlying45 rfl info_roots ?_)
          refine CE.out.mono ?_
          rintro _ w4 ⟨rfl, hb4⟩
          have hz := HROW.out.lt
          have hrow1 := HROW.out.of_block (hb4.block _ hz)
          have c2 := hrow1.cell hlt
          rw [if_neg (Nat.lt_irrefl k)] at c2
          have f2 := hrow1.frozen k
          have HB4 : Hid (Below w.heap.size w w4) := hid (HBL.out.trans (hb4.mono HBL.out.size))
          clear hb4 hrow1
          go_wp2_with fail
          go_ret2
          exact ⟨none, 0, rfl, own_nil _ _ _, HB4.out.setCell (by simp) _⟩
        · obtain ⟨g1, g2⟩ := exp_ok (frac := (f : Int)) (show ¬ ((f : Int) < 0 ∨ 30 < (f : Int) ∨ 0 < x - top) by have := HF.out; omega) hmin
          rw [g1, g2, show -(x - top) = top - x by omega] at CE
          have hn := pwI_at (frac := (f : Int)) HX.out
          rw [HTT.out] at hn
          obtain ⟨p, hp⟩ : ∃ p, expN (top - x).toNat (f : Int).toNat = p := ⟨_, rfl⟩
          rw [hp] at CE hn
          have hfn : -9223372036854775807 ≤ x - top := by unfold I64 at hA; omega
          have HFN : Hid (-9223372036854775807 ≤ x - top) := hid hfn
          obtain ⟨D, hD⟩ : ∃ D, x - top = D := ⟨_, rfl⟩
          rw [hD] at CS CE
          have HN := hid hn
          clear g1 g2 hp hmin hA hfn hD ix hit hxt hn
          go_wp2_with fail
          refine CS.out.mono ?_
          rintro _ _ ⟨rfl, rfl⟩
          go_wp2_with (refine wpList_load_mid rfl 45 _ rfl w.heap.size 0 rfl [.int .u64 1073741824, .int .u64 1028218692, .int .u64 984625593, .int .u64 942880698, .int .u64 902905650, .int .u64 864625412, .int .u64 827968131, .int .u64 792864998, .int .u64 759250124, .int .u64 727060409, .int .u64 696235433, .int .u64 666717334, .int .u64 638450707, .int .u64 611382491, .int .u64 585461880, .int .u64 560640217, .int .u64 536870912] _ (box_range HBOX.out) Try.underlying45 rfl info_roots ?_)
          refine CE.out.mono ?_
          rintro _ w4 ⟨rfl, hb4⟩
          have hz := HROW.out.lt
          have hrow1 := HROW.out.of_block (hb4.block _ hz)
          have c2 := hrow1.cell hlt
          rw [if_neg (Nat.lt_irrefl k)] at c2
          have f2 := hrow1.frozen k
          have HR1 := hid hrow1
          have HB4 : Hid (Below w.heap.size w w4) := hid (HBL.out.trans (hb4.mono HBL.out.size))
          have HX4 : Hid (BoxL w4 w.heap.size [.int .u64 1073741824, .int .u64 1028218692, .int .u64 984625593, .int .u64 942880698, .int .u64 902905650, .int .u64 864625412, .int .u64 827968131, .int .u64 792864998, .int .u64 759250124, .int .u64 727060409, .int .u64 696235433, .int .u64 666717334, .int .u64 638450707, .int .u64 611382491, .int .u64 585461880, .int .u64 560640217, .int .u64 536870912]) := hid (HBOX.out.below hb4 (by omega))
          clear hb4 hrow1 hz
          go_wp2_with fail
          go_roundw
          case rel =>
            refine ⟨k + 1, by omega, by go_num, ?_, HX4.out.other (by simp) _, HB4.out.setCell (by simp) _, ?_⟩
            · refine (HR1.out.set k (.int .i64 (p : Int))).congr fun j hj => ?_
              by_cases e : j = k
              · subst e
                rw [if_pos rfl, if_pos (by omega), List.getD_eq_getElem?_getD, HN.out]
                rfl
              · rw [if_neg e]
                by_cases e2 : j < k
                · rw [if_pos e2, if_pos (by omega)]
                · rw [if_neg e2, if_neg (by omega)]
            · intro j x' hj hx'
              by_cases e : j = k
              · subst e
                obtain rfl : x = x' := Option.some.inj (HX.out.symm.trans hx')
                exact HFN.out
              · exact HFR.out j x' (by omega) hx'
          case measure => simp [intOf]; omega
      · obtain ⟨g3, g4⟩ := sofE_far HB.out (show 0 ≤ (f : Int) by omega) hpi (List.mem_of_getElem? HX.out) (show x - topZ z < -9223372036854775807 by rw [HTT.out]; unfold I64 at *; omega)
        have hv2 : vE = 2 := by rw [← HV.out.2, g3]
        have hv1 : vV = [] := by rw [← HV.out.1]; unfold powV; rw [g3]; exact if_neg (by decide)
        subst hv1 hv2
        rw [ckV_out hA, ckE_out hA] at CS
        clear g3 g4 hA ix hit hxt
        go_wp2_with fail
        refine CS.out.mono ?_
        rintro _ _ ⟨rfl, rfl⟩
        go_wp2_with fail
        go_ret2
        exact ⟨none, 0, rfl, own_nil _ _ _, HBL.out⟩
    · obtain rfl : k = M := by omega
      obtain ⟨g3, g4⟩ := sofE_in HB.out (show 0 ≤ (f : Int) by omega) hpi (fun j x hj hx => by rw [HTT.out]; exact HFR.out j x (by rw [← HM.out]; exact hj) hx)
      have hv2 : vE = 0 := by rw [← HV.out.2, g3]
      have hv1 : vV = pwI (f : Int) z := by rw [← HV.out.1]; unfold powV; rw [g3]; exact if_pos rfl
      have hvl : vV.length = k := by rw [hv1, pwI_len]; exact HM.out
      have hown : wr.ownsRow w.heap.size 2 1 (.slice (some ⟨w.heap.size + 1, 0, none⟩) vV.length k) vV.length (vV.map (Value.int .i64)) := by
        have h1 := own_made (B := w.heap.size) (w' := w) (HROW.out.congr (g := fun j => .int .i64 (vV.getD j 0)) fun i hi => by rw [if_pos hi, hv1]) (by omega) (by unfold maxLen; omega)
        have e : (List.range k).map (fun j => Value.int .i64 (vV.getD j 0)) = vV.map (Value.int .i64) := by
          apply List.ext_getElem?
          intro i
          by_cases hi : i < k
          · rw [List.getElem?_map, List.getElem?_map, List.getElem?_range hi]
            show some (Value.int .i64 (vV.getD i 0)) = _
            rw [List.getD_eq_getElem?_getD, List.getElem?_eq_getElem (by omega)]
            rfl
          · rw [List.getElem?_eq_none (by simp; omega), List.getElem?_eq_none (by simp; omega)]
        rw [e] at h1
        rw [hvl]
        exact h1
      have HOW := hid hown
      subst hv2
      have HVL := hid hvl
      clear hv1 hvl hown g3 g4
      go_wp2_with fail
      go_ret2
      exact ⟨some ⟨w.heap.size + 1, 0, none⟩, k, by rw [HVL.out]; rfl, HOW.out, HBL.out⟩
end Go.Proofs.Ytnokomlekndgfaa
