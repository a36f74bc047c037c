
/-
  PlaneBack answers true for every input. No condition.
-/
import Derived.Test.YtgkkliibeiklbaaPlLv
import Derived.Test.YtgkkliibeiklbaaLaw
namespace Go.Proofs.Ytgkkliibeiklbaa.PlaneBack
open Go.ChangeShapes Go.WideShapes Go.ChangeAt Go.RowKit
set_option maxHeartbeats 400000
set_option linter.unusedVariables false
open Go.Proofs.Ytgkkliibeiklbaa
set_option maxHeartbeats 4000000 in
set_option maxRecDepth 100000 in
theorem walk (wd : Int) (Al : Option Addr) (l : List Int) (cl : Nat) (As : Option Addr) (s : List Bool) (cs : Nat) (w : World) (hw : I64 wd) (rl : Rd (Value.int .u64) w w.heap.size Al l) (ul : U64s l) (ll : l.length ≤ cl) (ml : cl ≤ 9223372036854775807) (rs : Rd Value.bool w w.heap.size As s) (ls : s.length ≤ cs) (ms : cs ≤ 9223372036854775807) :
    Calls Try.prog 10 #[.int .i64 wd, .slice Al l.length cl, .slice As s.length cs] w fun e w' => e = .returned (.bool true) ∧ Below w.heap.size w w' := by
  have RL := hid rl
  have RS := hid rs
  clear rl rs
  by_cases hf : l.length ≤ 5000
  · have F1 := hid (few_yes l.length hf)
    by_cases hs : s.length ≤ 5000
    · have F2 := hid (few_yes s.length hs)
      have C1 := hid (fun W h => pl_Signs (A := As) (c := cs) s (by omega) W h)
      have C4 := hid (fun W h => pl_Pack (A := Al) (c := cl) wd l hw (by omega) ul W h)
      have C5 := hid (fun W h => pl_Weave (A := Al) (c := cl) wd l hw (by omega) ul W h)
      have C6 := hid (pl_Bytes wd l.length hw (by unfold I64; omega))
      have hsl : (sgnV s).length ≤ 5000 := by
        unfold sgnV
        split
        · simp
        · rw [pkL_len]; omega
      have C2 := hid (fun A2 c2 W h => pl_Read (A := A2) (c := c2) s.length (sgnV s) (by unfold I64; omega) (by omega) (sgnV_bytes s) W h)
      have RSG := hid (fun h : s.length ≤ 4096 => read_sgn h)
      have SE := hid (fun h : s.length ≤ 4096 => show sgnE s = 0 from if_neg (by omega))
      have S3 := hid (fun A2 B2 c2 d2 W h1 h2 => ref_SameSigns (A := A2) (B := B2) (c := c2) (d := d2) s (by omega) W h1 h2)
      obtain ⟨Z, hZ⟩ : ∃ x, sgnV s = x := ⟨_, rfl⟩
      obtain ⟨F, hF⟩ : ∃ x, sgnE s = x := ⟨_, rfl⟩
      rw [hZ, hF] at C1
      rw [hZ] at C2 RSG
      rw [hF] at SE
      clear hZ hF hsl
      by_cases hM : mayE wd l = 0
      · have hmk := may_nat hM ul
        have hbz := (mayE_ok hM).1
        have hlen := (may_same wd l).2 hM
        have hbv : bysV wd l.length = ((pckV wd l).length : Int) ∧ (wevV wd l).length = (pckV wd l).length ∧ (pckV wd l).length ≤ 100000 := by
          obtain ⟨k, rfl, hk, hb, _⟩ := hmk
          have hb4 := (bys_ok hb).2.2
          have := Nat.mul_le_mul hk (show l.length ≤ 4096 by omega)
          rw [hlen.1, hlen.2, bys_nat hb, Int.toNat_natCast]
          exact ⟨rfl, rfl, by omega⟩
        have hu := upk_pck hM ul
        have hv := uwv_wev hM ul
        have C7 := hid (fun A2 c2 W h => pl_Unpack (A := A2) (c := c2) wd l.length (pckV wd l) hw (by unfold I64; omega) (by omega) (pckV_bytes wd l) W h)
        have C8 := hid (fun A2 c2 W h => pl_Unweave (A := A2) (c := c2) wd l.length (wevV wd l) hw (by unfold I64; omega) (by omega) (wevV_bytes wd l) W h)
        rw [hu.1, hu.2] at C7
        rw [hv.1, hv.2] at C8
        have SL := hid (samen_yes (X := l) (by omega))
        rw [hM] at C4 C5
        rw [hbz, hbv.1] at C6
        have hyx := hbv.2.1
        obtain ⟨X, hX⟩ : ∃ x, pckV wd l = x := ⟨_, rfl⟩
        obtain ⟨Y, hY⟩ : ∃ x, wevV wd l = x := ⟨_, rfl⟩
        rw [hX] at C4 C6 C7 hyx
        rw [hY] at C5 C8 hyx
        have q1 : ((Y.length : Int) == (X.length : Int)) = true := by rw [hyx]; simp
        have q2 : (Y.length == X.length) = true := by rw [hyx]; simp
        clear hX hY hyx hu hv hlen hbv hmk hbz hM ul hw
        by_cases h4 : s.length ≤ 4096
        · have hr := RSG.out h4
          have hse := SE.out h4
          rw [hr.1, hr.2] at C2
          subst hse
          clear hr RSG SE
          go_enter Try.func10, Try.ntmps10
          go_wp2_with fail
          refine (live_yes _).mono ?_
          rintro _ w1 ⟨rfl, k1⟩
          go_wp2_with fail
          refine (F1.out w1).mono ?_
          rintro _ _ ⟨rfl, rfl⟩
          go_wp2_with fail
          refine (F2.out w1).mono ?_
          rintro _ _ ⟨rfl, rfl⟩
          go_wp2_with fail
          refine (C1.out w1 (RS.out.on k1)).mono ?_
          rintro _ w101 ⟨A101, c101, rfl, ho101, hb101⟩
          have k101 := k1.trans (hb101.mono k1.size)
          have HS101 := hid (own_rd ho101)
          have HO101 := hid ho101
          clear ho101
          clear hb101 k1
          go_wp2_with fail
          refine (C2.out _ _ w101 HS101.out).mono ?_
          rintro _ w102 ⟨A102, c102, rfl, _, _, hr102, hb102⟩
          have k102 := k101.trans (hb102.mono k101.size)
          have HL103 := hid (HS101.out.on hb102)
          clear HS101
          have HS102 := hid hr102
          clear hr102 hb102 k101
          go_wp2_with fail
          refine (S3.out _ _ _ _ w102 HS102.out (RS.out.on k102)).mono ?_
          rintro _ w104 ⟨rfl, hb104⟩
          have k104 := k102.trans (hb104.mono k102.size)
          have HL105 := hid (HL103.out.on hb104)
          clear HL103
          have HL106 := hid (HS102.out.on hb104)
          clear HS102
          clear hb104 k102
          go_wp2_with fail
          refine (C4.out w104 (RL.out.on k104)).mono ?_
          rintro _ w107 ⟨A107, c107, rfl, ho107, hb107⟩
          have k107 := k104.trans (hb107.mono k104.size)
          have HL108 := hid (HL105.out.on hb107)
          clear HL105
          have HL109 := hid (HL106.out.on hb107)
          clear HL106
          have HS107 := hid (own_rd ho107)
          have HO107 := hid ho107
          clear ho107
          clear hb107 k104
          go_wp2_with fail
          refine (C5.out w107 (RL.out.on k107)).mono ?_
          rintro _ w110 ⟨A110, c110, rfl, ho110, hb110⟩
          have k110 := k107.trans (hb110.mono k107.size)
          have HL111 := hid (HL108.out.on hb110)
          clear HL108
          have HL112 := hid (HL109.out.on hb110)
          clear HL109
          have HL113 := hid (HS107.out.on hb110)
          clear HS107
          have HS110 := hid (own_rd ho110)
          have HO110 := hid ho110
          clear ho110
          clear hb110 k107
          go_wp2_with fail
          refine (C6.out w110).mono ?_
          rintro _ _ ⟨rfl, rfl⟩
          go_wp2_with fail
          refine (C7.out _ _ w110 HL113.out).mono ?_
          rintro _ w114 ⟨A114, c114, rfl, ho114, hb114⟩
          have k114 := k110.trans (hb114.mono k110.size)
          have HL115 := hid (HL111.out.on hb114)
          clear HL111
          have HL116 := hid (HL112.out.on hb114)
          clear HL112
          have HL117 := hid (HL113.out.on hb114)
          clear HL113
          have HL118 := hid (HS110.out.on hb114)
          clear HS110
          have HS114 := hid (own_rd ho114)
          have HO114 := hid ho114
          clear ho114
          clear hb114 k110
          go_wp2_with fail
          refine (C8.out _ _ w114 HL118.out).mono ?_
          rintro _ w119 ⟨A119, c119, rfl, ho119, hb119⟩
          have k119 := k114.trans (hb119.mono k114.size)
          have HL120 := hid (HL115.out.on hb119)
          clear HL115
          have HL121 := hid (HL116.out.on hb119)
          clear HL116
          have HL122 := hid (HL117.out.on hb119)
          clear HL117
          have HL123 := hid (HL118.out.on hb119)
          clear HL118
          have HL124 := hid (HS114.out.on hb119)
          clear HS114
          have HS119 := hid (own_rd ho119)
          have HO119 := hid ho119
          clear ho119
          clear hb119 k114
          go_wp2_with fail
          refine (SL.out _ _ _ _ w119 HL124.out (RL.out.on k119)).mono ?_
          rintro _ w125 ⟨rfl, hb125⟩
          have k125 := k119.trans (hb125.mono k119.size)
          have HL126 := hid (HL120.out.on hb125)
          clear HL120
          have HL127 := hid (HL121.out.on hb125)
          clear HL121
          have HL128 := hid (HL122.out.on hb125)
          clear HL122
          have HL129 := hid (HL123.out.on hb125)
          clear HL123
          have HL130 := hid (HL124.out.on hb125)
          clear HL124
          have HL131 := hid (HS119.out.on hb125)
          clear HS119
          clear hb125 k119
          go_wp2_with fail
          refine (SL.out _ _ _ _ w125 HL131.out (RL.out.on k125)).mono ?_
          rintro _ w132 ⟨rfl, hb132⟩
          have k132 := k125.trans (hb132.mono k125.size)
          have HL133 := hid (HL126.out.on hb132)
          clear HL126
          have HL134 := hid (HL127.out.on hb132)
          clear HL127
          have HL135 := hid (HL128.out.on hb132)
          clear HL128
          have HL136 := hid (HL129.out.on hb132)
          clear HL129
          have HL137 := hid (HL130.out.on hb132)
          clear HL130
          have HL138 := hid (HL131.out.on hb132)
          clear HL131
          clear hb132 k125
          go_wp2_with fail
          go_ret
          exact ⟨by simp, k132⟩
        · have h5 : 4096 < s.length := by omega
          clear RSG SE C2
          go_enter Try.func10, Try.ntmps10
          go_wp2_with fail
          refine (live_yes _).mono ?_
          rintro _ w1 ⟨rfl, k1⟩
          go_wp2_with fail
          refine (F1.out w1).mono ?_
          rintro _ _ ⟨rfl, rfl⟩
          go_wp2_with fail
          refine (F2.out w1).mono ?_
          rintro _ _ ⟨rfl, rfl⟩
          go_wp2_with fail
          refine (C1.out w1 (RS.out.on k1)).mono ?_
          rintro _ w101 ⟨A101, c101, rfl, ho101, hb101⟩
          have k101 := k1.trans (hb101.mono k1.size)
          have HS101 := hid (own_rd ho101)
          have HO101 := hid ho101
          clear ho101
          clear hb101 k1
          go_wp2_with fail
          refine (C4.out w101 (RL.out.on k101)).mono ?_
          rintro _ w102 ⟨A102, c102, rfl, ho102, hb102⟩
          have k102 := k101.trans (hb102.mono k101.size)
          have HL103 := hid (HS101.out.on hb102)
          clear HS101
          have HS102 := hid (own_rd ho102)
          have HO102 := hid ho102
          clear ho102
          clear hb102 k101
          go_wp2_with fail
          refine (C5.out w102 (RL.out.on k102)).mono ?_
          rintro _ w104 ⟨A104, c104, rfl, ho104, hb104⟩
          have k104 := k102.trans (hb104.mono k102.size)
          have HL105 := hid (HL103.out.on hb104)
          clear HL103
          have HL106 := hid (HS102.out.on hb104)
          clear HS102
          have HS104 := hid (own_rd ho104)
          have HO104 := hid ho104
          clear ho104
          clear hb104 k102
          go_wp2_with fail
          refine (C6.out w104).mono ?_
          rintro _ _ ⟨rfl, rfl⟩
          go_wp2_with fail
          refine (C7.out _ _ w104 HL106.out).mono ?_
          rintro _ w107 ⟨A107, c107, rfl, ho107, hb107⟩
          have k107 := k104.trans (hb107.mono k104.size)
          have HL108 := hid (HL105.out.on hb107)
          clear HL105
          have HL109 := hid (HL106.out.on hb107)
          clear HL106
          have HL110 := hid (HS104.out.on hb107)
          clear HS104
          have HS107 := hid (own_rd ho107)
          have HO107 := hid ho107
          clear ho107
          clear hb107 k104
          go_wp2_with fail
          refine (C8.out _ _ w107 HL110.out).mono ?_
          rintro _ w111 ⟨A111, c111, rfl, ho111, hb111⟩
          have k111 := k107.trans (hb111.mono k107.size)
          have HL112 := hid (HL108.out.on hb111)
          clear HL108
          have HL113 := hid (HL109.out.on hb111)
          clear HL109
          have HL114 := hid (HL110.out.on hb111)
          clear HL110
          have HL115 := hid (HS107.out.on hb111)
          clear HS107
          have HS111 := hid (own_rd ho111)
          have HO111 := hid ho111
          clear ho111
          clear hb111 k107
          go_wp2_with fail
          refine (SL.out _ _ _ _ w111 HL115.out (RL.out.on k111)).mono ?_
          rintro _ w116 ⟨rfl, hb116⟩
          have k116 := k111.trans (hb116.mono k111.size)
          have HL117 := hid (HL112.out.on hb116)
          clear HL112
          have HL118 := hid (HL113.out.on hb116)
          clear HL113
          have HL119 := hid (HL114.out.on hb116)
          clear HL114
          have HL120 := hid (HL115.out.on hb116)
          clear HL115
          have HL121 := hid (HS111.out.on hb116)
          clear HS111
          clear hb116 k111
          go_wp2_with fail
          refine (SL.out _ _ _ _ w116 HL121.out (RL.out.on k116)).mono ?_
          rintro _ w122 ⟨rfl, hb122⟩
          have k122 := k116.trans (hb122.mono k116.size)
          have HL123 := hid (HL117.out.on hb122)
          clear HL117
          have HL124 := hid (HL118.out.on hb122)
          clear HL118
          have HL125 := hid (HL119.out.on hb122)
          clear HL119
          have HL126 := hid (HL120.out.on hb122)
          clear HL120
          have HL127 := hid (HL121.out.on hb122)
          clear HL121
          clear hb122 k116
          go_wp2_with fail
          go_ret
          exact ⟨by simp, k122⟩
      · have ep := (may_same wd l).1 hM
        rw [ep.1] at C4
        rw [ep.2] at C5
        obtain ⟨E, hE⟩ : ∃ x, mayE wd l = x := ⟨_, rfl⟩
        obtain ⟨V, hV⟩ : ∃ x, bysV wd l.length = x := ⟨_, rfl⟩
        obtain ⟨G, hG⟩ : ∃ x, bysE wd l.length = x := ⟨_, rfl⟩
        rw [hE] at C4 C5 hM
        rw [hV, hG] at C6
        have hne : (E != 0) = true := by simpa using hM
        have hee : (E != E) = false := by simp
        clear ep hE hV hG hM ul hw
        by_cases h4 : s.length ≤ 4096
        · have hr := RSG.out h4
          have hse := SE.out h4
          rw [hr.1, hr.2] at C2
          subst hse
          clear hr RSG SE
          go_enter Try.func10, Try.ntmps10
          go_wp2_with fail
          refine (live_yes _).mono ?_
          rintro _ w1 ⟨rfl, k1⟩
          go_wp2_with fail
          refine (F1.out w1).mono ?_
          rintro _ _ ⟨rfl, rfl⟩
          go_wp2_with fail
          refine (F2.out w1).mono ?_
          rintro _ _ ⟨rfl, rfl⟩
          go_wp2_with fail
          refine (C1.out w1 (RS.out.on k1)).mono ?_
          rintro _ w101 ⟨A101, c101, rfl, ho101, hb101⟩
          have k101 := k1.trans (hb101.mono k1.size)
          have HS101 := hid (own_rd ho101)
          have HO101 := hid ho101
          clear ho101
          clear hb101 k1
          go_wp2_with fail
          refine (C2.out _ _ w101 HS101.out).mono ?_
          rintro _ w102 ⟨A102, c102, rfl, _, _, hr102, hb102⟩
          have k102 := k101.trans (hb102.mono k101.size)
          have HL103 := hid (HS101.out.on hb102)
          clear HS101
          have HS102 := hid hr102
          clear hr102 hb102 k101
          go_wp2_with fail
          refine (S3.out _ _ _ _ w102 HS102.out (RS.out.on k102)).mono ?_
          rintro _ w104 ⟨rfl, hb104⟩
          have k104 := k102.trans (hb104.mono k102.size)
          have HL105 := hid (HL103.out.on hb104)
          clear HL103
          have HL106 := hid (HS102.out.on hb104)
          clear HS102
          clear hb104 k102
          go_wp2_with fail
          refine (C4.out w104 (RL.out.on k104)).mono ?_
          rintro _ w107 ⟨A107, c107, rfl, ho107, hb107⟩
          have k107 := k104.trans (hb107.mono k104.size)
          have HL108 := hid (HL105.out.on hb107)
          clear HL105
          have HL109 := hid (HL106.out.on hb107)
          clear HL106
          have HS107 := hid (own_rd ho107)
          have HO107 := hid ho107
          clear ho107
          clear hb107 k104
          go_wp2_with fail
          refine (C5.out w107 (RL.out.on k107)).mono ?_
          rintro _ w110 ⟨A110, c110, rfl, ho110, hb110⟩
          have k110 := k107.trans (hb110.mono k107.size)
          have HL111 := hid (HL108.out.on hb110)
          clear HL108
          have HL112 := hid (HL109.out.on hb110)
          clear HL109
          have HL113 := hid (HS107.out.on hb110)
          clear HS107
          have HS110 := hid (own_rd ho110)
          have HO110 := hid ho110
          clear ho110
          clear hb110 k107
          go_wp2_with fail
          refine (C6.out w110).mono ?_
          rintro _ _ ⟨rfl, rfl⟩
          go_wp2_with fail
          go_ret
          exact ⟨by simp, k110⟩
        · have h5 : 4096 < s.length := by omega
          clear RSG SE C2
          go_enter Try.func10, Try.ntmps10
          go_wp2_with fail
          refine (live_yes _).mono ?_
          rintro _ w1 ⟨rfl, k1⟩
          go_wp2_with fail
          refine (F1.out w1).mono ?_
          rintro _ _ ⟨rfl, rfl⟩
          go_wp2_with fail
          refine (F2.out w1).mono ?_
          rintro _ _ ⟨rfl, rfl⟩
          go_wp2_with fail
          refine (C1.out w1 (RS.out.on k1)).mono ?_
          rintro _ w101 ⟨A101, c101, rfl, ho101, hb101⟩
          have k101 := k1.trans (hb101.mono k1.size)
          have HS101 := hid (own_rd ho101)
          have HO101 := hid ho101
          clear ho101
          clear hb101 k1
          go_wp2_with fail
          refine (C4.out w101 (RL.out.on k101)).mono ?_
          rintro _ w102 ⟨A102, c102, rfl, ho102, hb102⟩
          have k102 := k101.trans (hb102.mono k101.size)
          have HL103 := hid (HS101.out.on hb102)
          clear HS101
          have HS102 := hid (own_rd ho102)
          have HO102 := hid ho102
          clear ho102
          clear hb102 k101
          go_wp2_with fail
          refine (C5.out w102 (RL.out.on k102)).mono ?_
          rintro _ w104 ⟨A104, c104, rfl, ho104, hb104⟩
          have k104 := k102.trans (hb104.mono k102.size)
          have HL105 := hid (HL103.out.on hb104)
          clear HL103
          have HL106 := hid (HS102.out.on hb104)
          clear HS102
          have HS104 := hid (own_rd ho104)
          have HO104 := hid ho104
          clear ho104
          clear hb104 k102
          go_wp2_with fail
          refine (C6.out w104).mono ?_
          rintro _ _ ⟨rfl, rfl⟩
          go_wp2_with fail
          go_ret
          exact ⟨by simp, k104⟩
    · have F2 := hid (few_no s.length hs)
      clear ul hw
      go_enter Try.func10, Try.ntmps10
      go_wp2_with fail
      refine (live_yes _).mono ?_
      rintro _ w1 ⟨rfl, k1⟩
      go_wp2_with fail
      refine (F1.out w1).mono ?_
      rintro _ _ ⟨rfl, rfl⟩
      go_wp2_with fail
      refine (F2.out w1).mono ?_
      rintro _ _ ⟨rfl, rfl⟩
      go_wp2_with fail
      go_ret
      exact ⟨rfl, k1⟩
  · have F1 := hid (few_no l.length hf)
    clear ul hw
    go_enter Try.func10, Try.ntmps10
    go_wp2_with fail
    refine (live_yes _).mono ?_
    rintro _ w1 ⟨rfl, k1⟩
    go_wp2_with fail
    refine (F1.out w1).mono ?_
    rintro _ _ ⟨rfl, rfl⟩
    go_wp2_with fail
    go_ret
    exact ⟨rfl, k1⟩
theorem law_types : ∀ t ∈ Try.f10.params.toList, Try.prog.readableRec t = true ∧ t < Try.prog.types.size := by
  have h : (Try.f10.params.toList.all fun t => Try.prog.readableRec t && decide (t < Try.prog.types.size)) = true := by kernel_rfl
  intro t ht
  simpa using List.all_eq_true.1 h t ht
set_option maxRecDepth 100000 in
theorem lifted (os : Os) (started : os.Started) (H : Type) (enc : TypeId × Value → H) :
    ReturnsInHanded {} Try.checked os 10 .any (Rows.planeBackSpec.pre6 enc Try.prog Try.f10 Rows.planeBackRow.domain false) (Rows.planeBackSpec.post enc Try.prog Try.f10 false true false false) := by
  refine returnsInHanded_of_change (C := Try.checked) own started (by kernel_rfl) Try.func10
    (ChangeSpec.witness6 (enc := enc) (C := Try.checked) false ⟨#[], #[.int .i64 0, .slice none 0 0, .slice none 0 0], []⟩ 8 (by kernel_rfl) (by kernel_rfl) (by kernel_rfl) (by kernel_rfl)) ?_
  intro W base args ds gs before hval0 hW hcnd _
  have hval : ∀ (j : Nat) t v, Try.f10.params[j]? = some t → args[j]? = some v → Value.okWide Try.prog W .any base t v := hval0
  have hW' := hW
  obtain ⟨p, q, hA0, hV, rfl, hfz, hnd⟩ := hW
  have hA : DataW.TrodAll enc Try.prog W 0 (fun _ => true) true Try.f10.params.toList args.toList ds p := hA0
  rw [Try.params10] at hA hval
  obtain ⟨v0, vs0, d0, ds0, p0, q0, hargs, rfl, rfl, h0, r0⟩ := trodAll_cons hA
  obtain ⟨v1, vs1, d1, ds1, p1, q1, rfl, rfl, rfl, h1, r1⟩ := trodAll_cons r0
  obtain ⟨v2, vs2, d2, ds2, p2, q2, rfl, rfl, rfl, h2, r2⟩ := trodAll_cons r1
  obtain ⟨rfl, rfl, rfl⟩ := trodAll_nil r2
  obtain rfl : args = #[v0, v1, v2] := by cases args; simp_all
  obtain ⟨rfl, rfl⟩ := trodVars_none hV
  obtain ⟨wd, rfl, rfl, rfl, w0⟩ := open_int Try.underlying3 (hval 0 3 v0 rfl rfl) h0
  obtain ⟨Al, l, cl, rfl, rdl, il, lcl, lml⟩ := open_nums Try.underlying37 Try.underlying43 cells_u64 (hval 1 37 v1 rfl rfl) h1
  obtain ⟨As, s, cs, rfl, rds, lcs, lms⟩ := open_bls Try.underlying38 Try.underlying4 cells_bool (hval 2 38 v2 rfl rfl) h2
  clear hA0 hval0
  refine (walk wd Al l cl As s cs W (I64.of_wf w0) rdl (fun x hx => U64.of_wf (il x hx)) lcl lml rds lcs lms).mono fun e W' ⟨he, hb⟩ => ?_
  subst he
  exact ⟨_, rfl, law_post laid (fun t ht => law_types t ht) rfl hW' ⟨rfl, rfl, rfl⟩ (by kernel_rfl) Try.underlying4 hb⟩

theorem over : Rows.planeBackRow.holds Try.pinned (OpenSpec.ofChange Rows.planeBackSpec) :=
  OpenClaim.holds_of_wide 10 Try.f10 rfl rfl rfl rfl rfl rfl rfl ⟨rfl, rfl, rfl, rfl, rfl⟩ rfl rfl rfl rfl rfl (by kernel_rfl) Try.func10 (by kernel_rfl)
    (of_decide_eq_true (by kernel_rfl)) (by unfold Func.isWrapper; first | (rw [if_pos (by decide +kernel)]; kernel_rfl) | (rw [if_neg (by decide +kernel)]; exact ⟨rfl, rfl⟩))
    (fun os started H enc _ => lifted os started H enc)

theorem proved : Rows.PlaneBackSaid := over
end Go.Proofs.Ytgkkliibeiklbaa.PlaneBack
