
/- ZHpE: texts joined: HpE. -/
import Derived.Test.YtecgbelgoomneaaGreatZb
/- The heap's two ways: up and down. -/
namespace Go.Proofs.YtecgbelgoomneaaGreat
open Go.RowKit
set_option maxHeartbeats 400000
set_option maxRecDepth 100000
set_option linter.unusedVariables false
/-- The same entries, in the same box, as a heap. -/
def HpIs (w0 : World) (B bp g cap : Nat) (d : Array (Nat × Nat)) (w : World) : Prop :=
  ∃ d' : Array (Nat × Nat), d'.size = d.size ∧ d'.toList.Perm d.toList ∧ HpOk d' d.size ∧ PileAt w B bp g cap d' ∧ Otr bp g w0 w
set_option maxHeartbeats 1000000 in
theorem hp_up {B bp g cap : Nat} (d : Array (Nat × Nat)) (j : Nat) (hj : j < d.size) (hl : d.size < 200000) (hu : HpUp d d.size j) (w : World) (h : PileAt w B bp g cap d) :
    Calls Tryz.prog 235 #[.iface 203 (.pointer (some ⟨bp, 0, none⟩)), .int .i64 (j : Int)] w fun e w' => e = .returned (.tuple #[]) ∧ HpIs w B bp g cap d w' := by
  have HU := hid hu
  have HP := hid h
  have HL := hid hl
  have HJ := hid hj
  clear hu h hl hj
  go_enter Tryz.func235, Tryz.ntmps235
  go_wp2_with fail
  go_loopw [1, 4] (fun s1 s4 wr => ∃ (j : Nat) (dk : Array (Nat × Nat)), s1 = .int .i64 (j : Int) ∧ Hid (j < dk.size ∧ dk.size < 200000 ∧ dk.size = d.size ∧ HpUp dk d.size j ∧ dk.toList.Perm d.toList ∧ PileAt wr B bp g cap dk ∧ Otr bp g w wr)) (fun s _ _ => (intOf s).toNat)
  case atStart => exact ⟨j, d, rfl, hid ⟨HJ.out, HL.out, rfl, HU.out, List.Perm.refl _, HP.out, Otr.refl _ _ _⟩⟩
  case round =>
    clear HU HP HL HJ
    obtain ⟨j, dk, rfl, hh⟩ := hrel
    have hj := hh.out.1
    have hb := hh.out.2.1
    have bx := hh.out.2.2.2.2.2.1.1
    have bf := hh.out.2.2.2.2.2.1.2.1
    by_cases h0 : j = 0
    · subst h0
      go_wp2_with fail
      go_end0
      obtain ⟨_, _, hs, hu, hp, hP, hO⟩ := hh.out
      exact ⟨rfl, dk, hs, hp, hp_up_stop hu (by omega), hP, hO⟩
    · obtain ⟨i, hi⟩ : ∃ i, (j - 1) / 2 = i := ⟨_, rfl⟩
      have hij : i < j := by omega
      have hid2 : i < dk.size := by omega
      have e1 : IntKind.i64.wrap ((j : Int) - 1) = ((j - 1 : Nat) : Int) := by rw [IntKind.wrap_i64]; omega
      have e2 : ((j - 1 : Nat) : Int).tdiv 2 = (i : Int) := by
        rw [Int.tdiv_eq_ediv_of_nonneg (by omega)]
        omega
      have e3 : ((i : Int) == (j : Int)) = false := beq_eq_false_iff_ne.2 (by omega)
      have mL := hp_meth0 (nm := "Less") (f := 276) (by kernel_rfl) wr bx
      have C := hid (hp_Less dk j i hj hid2 wr hh.out.2.2.2.2.2.1.2.2.1)
      have HI := hid hi
      obtain ⟨R, hR⟩ : ∃ R, beh dk[j]! dk[i]! = R := ⟨_, rfl⟩
      rw [hR] at C
      have HR := hid hR
      clear hi hR
      cases R with
      | false =>
        go_wp2_with fail
        refine C.out.mono ?_
        rintro _ w1 ⟨rfl, hb1⟩
        have HB1 := hid hb1
        clear hb1 C
        go_wp2_with fail
        go_end0
        obtain ⟨_, _, hs, hu, hp, hP, hO⟩ := hh.out
        exact ⟨rfl, dk, hs, hp, hp_up_stop hu (fun _ => by rw [HI.out]; exact HR.out), hP.on HB1.out, hO.trans (Otr.of_below HB1.out)⟩
      | true =>
        go_wp2_with fail
        refine C.out.mono ?_
        rintro _ w1 ⟨rfl, hb1⟩
        have hP1 := hh.out.2.2.2.2.2.1.on hb1
        have bx1 := hP1.1
        have bf1 := hP1.2.1
        have mS := hp_meth0 (nm := "Swap") (f := 277) (by kernel_rfl) w1 bx1
        have CS := hid (hp_Swap dk i j hid2 hj w1 hP1.2.2.1)
        have HP1 := hid hP1
        have HB1 := hid hb1
        clear hP1 hb1 C mL bx bf
        go_wp2_with fail
        refine CS.out.mono ?_
        rintro _ w2 ⟨rfl, hr2, ho2⟩
        have HR2 := hid hr2
        have HO2 := hid ho2
        clear hr2 ho2 CS mS bx1 bf1
        go_wp2_with fail
        go_roundw
        case rel =>
          obtain ⟨_, _, hs, hu, hp, hP, hO⟩ := hh.out
          have hsw : (Go.Sort.swp dk i j).size = dk.size := Go.Sort.size_swp _ _ _
          have hne := hP.2.2.2
          have hbk := HO2.out.block bp (HP1.out.lt) hne hne
          refine ⟨i, Go.Sort.swp dk i j, rfl, hid ⟨by omega, by omega, by omega, ?_, (swp_perm hid2 hj).trans hp, ⟨?_, ?_, HR2.out, hne⟩, (hO.trans (Otr.of_below HB1.out)).trans (HO2.out.wide (.inr rfl) (.inr rfl))⟩⟩
          · rw [← hs] at hu ⊢
            have := hp_up_step hu (by omega) hj (Nat.le_refl _) (by rw [HI.out]; exact HR.out)
            rwa [HI.out] at this
          · rw [hsw]; exact (cell_blk hbk).trans HP1.out.1
          · exact (froz_blk hbk).trans HP1.out.2.1
        case measure => simp [intOf]; omega
/-- Some answer, told or not. -/
def RetB (e : Ending) : Prop := ∃ r, e = .returned (.bool r)
theorem retB (r : Bool) : RetB (.returned (.bool r)) := ⟨r, rfl⟩
set_option maxHeartbeats 4000000 in
theorem hp_down {B bp g cap : Nat} (d : Array (Nat × Nat)) (n : Nat) (hn : n ≤ d.size) (hl : d.size < 200000) (hu : HpDn d n 0) (w : World) (h : PileAt w B bp g cap d) :
    Calls Tryz.prog 236 #[.iface 203 (.pointer (some ⟨bp, 0, none⟩)), .int .i64 0, .int .i64 (n : Int)] w fun e w' => RetB e ∧ ∃ d' : Array (Nat × Nat), d'.size = d.size ∧ d'.toList.Perm d.toList ∧ (∀ k, n ≤ k → d'[k]! = d[k]!) ∧ HpOk d' n ∧ PileAt w' B bp g cap d' ∧ Otr bp g w w' := by
  have HU := hid hu
  have HP := hid h
  have HL := hid hl
  have HN := hid hn
  clear hu h hl hn
  go_enter Tryz.func236, Tryz.ntmps236
  go_wp2_with fail
  go_loopw [7, 8, 9, 10] (fun s7 s8 s9 s10 wr => ∃ (i : Nat) (dk : Array (Nat × Nat)), s7 = .int .i64 (i : Int) ∧ Hid (i ≤ n ∧ n ≤ dk.size ∧ dk.size < 200000 ∧ dk.size = d.size ∧ HpDn dk n i ∧ dk.toList.Perm d.toList ∧ (∀ k, n ≤ k → dk[k]! = d[k]!) ∧ PileAt wr B bp g cap dk ∧ Otr bp g w wr)) (fun s _ _ _ _ => n - (intOf s).toNat)
  case atStart => exact ⟨0, d, rfl, hid ⟨by omega, HN.out, HL.out, rfl, HU.out, List.Perm.refl _, fun _ _ => rfl, HP.out, Otr.refl _ _ _⟩⟩
  case round =>
    clear HU HP HL HN
    obtain ⟨i, dk, rfl, hh⟩ := hrel
    have hi := hh.out.1
    have hnd := hh.out.2.1
    have hb := hh.out.2.2.1
    have bx := hh.out.2.2.2.2.2.2.2.1.1
    have bf := hh.out.2.2.2.2.2.2.2.1.2.1
    by_cases h0 : n ≤ 2 * i + 1
    · have h0' : 2 * (i : Int) + 1 ≥ (n : Int) := by omega
      go_wp2_with fail
      go_ret
      obtain ⟨_, _, _, hs, hu, hp, hk, hP, hO⟩ := hh.out
      exact ⟨retB _, dk, hs, hp, hk, hp_dn_stop hu (fun c c0 cn e => by omega), hP, hO⟩
    · have h0' : ¬ 2 * (i : Int) + 1 ≥ (n : Int) := by omega
      have h0'' : ¬ 2 * (i : Int) + 1 < 0 := by omega
      have hid2 : i < dk.size := by omega
      have HX : Hid (PileAt wr B bp g cap dk ∧ Otr bp g w wr) := hid ⟨hh.out.2.2.2.2.2.2.2.1, hh.out.2.2.2.2.2.2.2.2⟩
      by_cases h1 : n ≤ 2 * i + 2
      · have h1' : ¬ 2 * (i : Int) + 1 + 1 < (n : Int) := by omega
        have hc2 : 2 * i + 1 < dk.size := by omega
        have HOC : Hid (∀ k, 0 < k → k < n → (k - 1) / 2 = i → beh dk[k]! dk[2 * i + 1]! = false) := hid (fun k k0 kn e => by
          obtain rfl : k = 2 * i + 1 := by omega
          exact beh_irr _)
        have mL2 := hp_meth0 (nm := "Less") (f := 276) (by kernel_rfl) wr bx
        have C2 : Hid (Calls Tryz.prog 276 #[.slice (some ⟨g, 0, none⟩) dk.size cap, .int .i64 (2 * (i : Int) + 1), .int .i64 (i : Int)] wr fun e w' => e = .returned (.bool (beh dk[2 * i + 1]! dk[i]!)) ∧ Below wr.heap.size wr w') := hid (by
          have := hp_Less dk (2 * i + 1) i hc2 hid2 wr HX.out.1.2.2.1
          rwa [show ((2 * i + 1 : Nat) : Int) = 2 * (i : Int) + 1 by omega] at this)
        obtain ⟨R2, hR2⟩ : ∃ R, beh dk[2 * i + 1]! dk[i]! = R := ⟨_, rfl⟩
        rw [hR2] at C2
        have HR2 := hid hR2
        clear hR2
        cases R2 with
        | false =>
          go_wp2_with fail
          refine C2.out.mono ?_
          rintro _ w2 ⟨rfl, hb2⟩
          have HB2 := hid hb2
          clear hb2 C2
          go_wp2_with fail
          go_ret
          obtain ⟨_, _, _, hs, hu, hp, hk, _⟩ := hh.out
          exact ⟨retB _, dk, hs, hp, hk, hp_dn_stop hu (fun k k0 kn e => by
            have hb := HR2.out
            exact beh_nt (HOC.out k k0 kn e) hb), HX.out.1.on HB2.out, HX.out.2.trans (Otr.of_below HB2.out)⟩
        | true =>
          go_wp2_with fail
          refine C2.out.mono ?_
          rintro _ w2 ⟨rfl, hb2⟩
          have hP2 := HX.out.1.on hb2
          have bx2 := hP2.1
          have bf2 := hP2.2.1
          have mS := hp_meth0 (nm := "Swap") (f := 277) (by kernel_rfl) w2 bx2
          have CS : Hid (Calls Tryz.prog 277 #[.slice (some ⟨g, 0, none⟩) dk.size cap, .int .i64 (i : Int), .int .i64 (2 * (i : Int) + 1)] w2 fun e w' => e = .returned (.tuple #[]) ∧ RwE w' B g cap (Go.Sort.swp dk i (2 * i + 1)) ∧ Otr g g w2 w') := hid (by
            have := hp_Swap dk i (2 * i + 1) hid2 hc2 w2 hP2.2.2.1
            rwa [show ((2 * i + 1 : Nat) : Int) = 2 * (i : Int) + 1 by omega] at this)
          have HP2 := hid hP2
          have HB2 := hid hb2
          clear hP2 hb2 C2 mL2 bx bf
          go_wp2_with fail
          refine CS.out.mono ?_
          rintro _ w3 ⟨rfl, hr3, ho3⟩
          have HR3 := hid hr3
          have HO3 := hid ho3
          clear hr3 ho3 CS mS bx2 bf2
          go_wp2_with fail
          go_roundw
          case rel =>
            obtain ⟨_, _, _, hs, hu, hp, hk, _⟩ := hh.out
            have hsw : (Go.Sort.swp dk i (2 * i + 1)).size = dk.size := Go.Sort.size_swp _ _ _
            have hne := HP2.out.2.2.2
            have hbk := HO3.out.block bp (HP2.out.lt) hne hne
            refine ⟨2 * i + 1, Go.Sort.swp dk i (2 * i + 1), by go_num, hid ⟨by omega, by omega, by omega, by omega, ?_, (swp_perm hid2 hc2).trans hp, fun k hkn => ?_, ⟨?_, ?_, HR3.out, hne⟩, (HX.out.2.trans (Otr.of_below HB2.out)).trans (HO3.out.wide (.inr rfl) (.inr rfl))⟩⟩
            · exact hp_dn_step hu (by omega) (by omega) (by omega) hnd HR2.out HOC.out
            · rw [Go.Sort.swp_other dk i (2 * i + 1) k (by omega) (by omega)]; exact hk k hkn
            · rw [hsw]; exact (cell_blk hbk).trans HP2.out.1
            · exact (froz_blk hbk).trans HP2.out.2.1
          case measure => simp [intOf]; omega
      · have h1' : 2 * (i : Int) + 1 + 1 < (n : Int) := by omega
        have h12 : 2 * i + 2 < dk.size := by omega
        have h11 : 2 * i + 1 < dk.size := by omega
        have mL := hp_meth0 (nm := "Less") (f := 276) (by kernel_rfl) wr bx
        have C : Hid (Calls Tryz.prog 276 #[.slice (some ⟨g, 0, none⟩) dk.size cap, .int .i64 (2 * (i : Int) + 1 + 1), .int .i64 (2 * (i : Int) + 1)] wr fun e w' => e = .returned (.bool (beh dk[2 * i + 2]! dk[2 * i + 1]!)) ∧ Below wr.heap.size wr w') := hid (by
          have := hp_Less dk (2 * i + 2) (2 * i + 1) h12 h11 wr HX.out.1.2.2.1
          rwa [show ((2 * i + 2 : Nat) : Int) = 2 * (i : Int) + 1 + 1 by omega, show ((2 * i + 1 : Nat) : Int) = 2 * (i : Int) + 1 by omega] at this)
        obtain ⟨R, hR⟩ : ∃ R, beh dk[2 * i + 2]! dk[2 * i + 1]! = R := ⟨_, rfl⟩
        rw [hR] at C
        have HR := hid hR
        clear hR
        cases R with
        | false =>
          go_wp2_with fail
          refine C.out.mono ?_
          rintro _ w1 ⟨rfl, hb1⟩
          have hX : PileAt w1 B bp g cap dk ∧ Otr bp g w w1 := ⟨HX.out.1.on hb1, HX.out.2.trans (Otr.of_below hb1)⟩
          clear HX bx bf mL C hb1
          have HX := hid hX
          have bx := HX.out.1.1
          have bf := HX.out.1.2.1
          clear hX
          have hc2 : 2 * i + 1 < dk.size := by omega
          have HOC : Hid (∀ k, 0 < k → k < n → (k - 1) / 2 = i → beh dk[k]! dk[2 * i + 1]! = false) := hid (fun k k0 kn e => by
            rcases (show k = 2 * i + 1 ∨ k = 2 * i + 2 by omega) with rfl | rfl
            · exact beh_irr _
            · exact HR.out)
          have mL2 := hp_meth0 (nm := "Less") (f := 276) (by kernel_rfl) w1 bx
          have C2 : Hid (Calls Tryz.prog 276 #[.slice (some ⟨g, 0, none⟩) dk.size cap, .int .i64 (2 * (i : Int) + 1), .int .i64 (i : Int)] w1 fun e w' => e = .returned (.bool (beh dk[2 * i + 1]! dk[i]!)) ∧ Below w1.heap.size w1 w') := hid (by
            have := hp_Less dk (2 * i + 1) i hc2 hid2 w1 HX.out.1.2.2.1
            rwa [show ((2 * i + 1 : Nat) : Int) = 2 * (i : Int) + 1 by omega] at this)
          obtain ⟨R2, hR2⟩ : ∃ R, beh dk[2 * i + 1]! dk[i]! = R := ⟨_, rfl⟩
          rw [hR2] at C2
          have HR2 := hid hR2
          clear hR2
          cases R2 with
          | false =>
            go_wp2_with fail
            refine C2.out.mono ?_
            rintro _ w2 ⟨rfl, hb2⟩
            have HB2 := hid hb2
            clear hb2 C2
            go_wp2_with fail
            go_ret
            obtain ⟨_, _, _, hs, hu, hp, hk, _⟩ := hh.out
            exact ⟨retB _, dk, hs, hp, hk, hp_dn_stop hu (fun k k0 kn e => by
              have hb := HR2.out
              exact beh_nt (HOC.out k k0 kn e) hb), HX.out.1.on HB2.out, HX.out.2.trans (Otr.of_below HB2.out)⟩
          | true =>
            go_wp2_with fail
            refine C2.out.mono ?_
            rintro _ w2 ⟨rfl, hb2⟩
            have hP2 := HX.out.1.on hb2
            have bx2 := hP2.1
            have bf2 := hP2.2.1
            have mS := hp_meth0 (nm := "Swap") (f := 277) (by kernel_rfl) w2 bx2
            have CS : Hid (Calls Tryz.prog 277 #[.slice (some ⟨g, 0, none⟩) dk.size cap, .int .i64 (i : Int), .int .i64 (2 * (i : Int) + 1)] w2 fun e w' => e = .returned (.tuple #[]) ∧ RwE w' B g cap (Go.Sort.swp dk i (2 * i + 1)) ∧ Otr g g w2 w') := hid (by
              have := hp_Swap dk i (2 * i + 1) hid2 hc2 w2 hP2.2.2.1
              rwa [show ((2 * i + 1 : Nat) : Int) = 2 * (i : Int) + 1 by omega] at this)
            have HP2 := hid hP2
            have HB2 := hid hb2
            clear hP2 hb2 C2 mL2 bx bf
            go_wp2_with fail
            refine CS.out.mono ?_
            rintro _ w3 ⟨rfl, hr3, ho3⟩
            have HR3 := hid hr3
            have HO3 := hid ho3
            clear hr3 ho3 CS mS bx2 bf2
            go_wp2_with fail
            go_roundw
            case rel =>
              obtain ⟨_, _, _, hs, hu, hp, hk, _⟩ := hh.out
              have hsw : (Go.Sort.swp dk i (2 * i + 1)).size = dk.size := Go.Sort.size_swp _ _ _
              have hne := HP2.out.2.2.2
              have hbk := HO3.out.block bp (HP2.out.lt) hne hne
              refine ⟨2 * i + 1, Go.Sort.swp dk i (2 * i + 1), by go_num, hid ⟨by omega, by omega, by omega, by omega, ?_, (swp_perm hid2 hc2).trans hp, fun k hkn => ?_, ⟨?_, ?_, HR3.out, hne⟩, (HX.out.2.trans (Otr.of_below HB2.out)).trans (HO3.out.wide (.inr rfl) (.inr rfl))⟩⟩
              · exact hp_dn_step hu (by omega) (by omega) (by omega) hnd HR2.out HOC.out
              · rw [Go.Sort.swp_other dk i (2 * i + 1) k (by omega) (by omega)]; exact hk k hkn
              · rw [hsw]; exact (cell_blk hbk).trans HP2.out.1
              · exact (froz_blk hbk).trans HP2.out.2.1
            case measure => simp [intOf]; omega
        | true =>
          go_wp2_with fail
          refine C.out.mono ?_
          rintro _ w1 ⟨rfl, hb1⟩
          have hX : PileAt w1 B bp g cap dk ∧ Otr bp g w w1 := ⟨HX.out.1.on hb1, HX.out.2.trans (Otr.of_below hb1)⟩
          clear HX bx bf mL C hb1
          have HX := hid hX
          have bx := HX.out.1.1
          have bf := HX.out.1.2.1
          clear hX
          have hc2 : 2 * i + 2 < dk.size := by omega
          have HOC : Hid (∀ k, 0 < k → k < n → (k - 1) / 2 = i → beh dk[k]! dk[2 * i + 2]! = false) := hid (fun k k0 kn e => by
            rcases (show k = 2 * i + 2 ∨ k = 2 * i + 1 by omega) with rfl | rfl
            · exact beh_irr _
            · exact beh_asym HR.out)
          have mL2 := hp_meth0 (nm := "Less") (f := 276) (by kernel_rfl) w1 bx
          have C2 : Hid (Calls Tryz.prog 276 #[.slice (some ⟨g, 0, none⟩) dk.size cap, .int .i64 (2 * (i : Int) + 1 + 1), .int .i64 (i : Int)] w1 fun e w' => e = .returned (.bool (beh dk[2 * i + 2]! dk[i]!)) ∧ Below w1.heap.size w1 w') := hid (by
            have := hp_Less dk (2 * i + 2) i hc2 hid2 w1 HX.out.1.2.2.1
            rwa [show ((2 * i + 2 : Nat) : Int) = 2 * (i : Int) + 1 + 1 by omega] at this)
          obtain ⟨R2, hR2⟩ : ∃ R, beh dk[2 * i + 2]! dk[i]! = R := ⟨_, rfl⟩
          rw [hR2] at C2
          have HR2 := hid hR2
          clear hR2
          cases R2 with
          | false =>
            go_wp2_with fail
            refine C2.out.mono ?_
            rintro _ w2 ⟨rfl, hb2⟩
            have HB2 := hid hb2
            clear hb2 C2
            go_wp2_with fail
            go_ret
            obtain ⟨_, _, _, hs, hu, hp, hk, _⟩ := hh.out
            exact ⟨retB _, dk, hs, hp, hk, hp_dn_stop hu (fun k k0 kn e => by
              have hb := HR2.out
              exact beh_nt (HOC.out k k0 kn e) hb), HX.out.1.on HB2.out, HX.out.2.trans (Otr.of_below HB2.out)⟩
          | true =>
            go_wp2_with fail
            refine C2.out.mono ?_
            rintro _ w2 ⟨rfl, hb2⟩
            have hP2 := HX.out.1.on hb2
            have bx2 := hP2.1
            have bf2 := hP2.2.1
            have mS := hp_meth0 (nm := "Swap") (f := 277) (by kernel_rfl) w2 bx2
            have CS : Hid (Calls Tryz.prog 277 #[.slice (some ⟨g, 0, none⟩) dk.size cap, .int .i64 (i : Int), .int .i64 (2 * (i : Int) + 1 + 1)] w2 fun e w' => e = .returned (.tuple #[]) ∧ RwE w' B g cap (Go.Sort.swp dk i (2 * i + 2)) ∧ Otr g g w2 w') := hid (by
              have := hp_Swap dk i (2 * i + 2) hid2 hc2 w2 hP2.2.2.1
              rwa [show ((2 * i + 2 : Nat) : Int) = 2 * (i : Int) + 1 + 1 by omega] at this)
            have HP2 := hid hP2
            have HB2 := hid hb2
            clear hP2 hb2 C2 mL2 bx bf
            go_wp2_with fail
            refine CS.out.mono ?_
            rintro _ w3 ⟨rfl, hr3, ho3⟩
            have HR3 := hid hr3
            have HO3 := hid ho3
            clear hr3 ho3 CS mS bx2 bf2
            go_wp2_with fail
            go_roundw
            case rel =>
              obtain ⟨_, _, _, hs, hu, hp, hk, _⟩ := hh.out
              have hsw : (Go.Sort.swp dk i (2 * i + 2)).size = dk.size := Go.Sort.size_swp _ _ _
              have hne := HP2.out.2.2.2
              have hbk := HO3.out.block bp (HP2.out.lt) hne hne
              refine ⟨2 * i + 2, Go.Sort.swp dk i (2 * i + 2), by go_num, hid ⟨by omega, by omega, by omega, by omega, ?_, (swp_perm hid2 hc2).trans hp, fun k hkn => ?_, ⟨?_, ?_, HR3.out, hne⟩, (HX.out.2.trans (Otr.of_below HB2.out)).trans (HO3.out.wide (.inr rfl) (.inr rfl))⟩⟩
              · exact hp_dn_step hu (by omega) (by omega) (by omega) hnd HR2.out HOC.out
              · rw [Go.Sort.swp_other dk i (2 * i + 2) k (by omega) (by omega)]; exact hk k hkn
              · rw [hsw]; exact (cell_blk hbk).trans HP2.out.1
              · exact (froz_blk hbk).trans HP2.out.2.1
            case measure => simp [intOf]; omega
end Go.Proofs.YtecgbelgoomneaaGreat
