
/-
  PlaneReads answers true for every input. No condition.
-/
import Derived.Test.YtgkkliibeiklbaaPlLv
import Derived.Test.YtgkkliibeiklbaaLaw
namespace Go.Proofs.Ytgkkliibeiklbaa.PlaneReads
open Go.ChangeShapes Go.WideShapes Go.ChangeAt Go.RowKit
set_option maxHeartbeats 400000
set_option linter.unusedVariables false
open Go.Proofs.Ytgkkliibeiklbaa
set_option maxHeartbeats 4000000 in
set_option maxRecDepth 100000 in
theorem walk (wd many : Int) (Ab : Option Addr) (b : List Int) (cb : Nat) (n : Int) (w : World) (hw : I64 wd) (hm : I64 many) (rb : Rd (Value.int .u8) w w.heap.size Ab b) (ub : U8s b) (lb : b.length ≤ cb) (mb : cb ≤ 9223372036854775807) (hn : U64 n) :
    Calls Try.prog 9 #[.int .i64 wd, .int .i64 many, .slice Ab b.length cb, .int .u64 n] w fun e w' => e = .returned (.bool true) ∧ Below w.heap.size w w' := by
  have RB := hid rb
  clear rb
  by_cases hf : b.length ≤ 5000
  · have F1 := hid (few_yes b.length hf)
    have C1 := hid (fun W h => pl_Unpack (A := Ab) (c := cb) wd many b hw hm (by omega) ub W h)
    have C2 := hid (fun W h => ref_Unpack (A := Ab) (c := cb) wd many b hw hm (by omega) ub W h)
    have C3 := hid (fun W h => pl_Unweave (A := Ab) (c := cb) wd many b hw hm (by omega) ub W h)
    have C4 := hid (fun W h => ref_Unweave (A := Ab) (c := cb) wd many b hw hm (by omega) ub W h)
    have C5 := hid (fun W h => pl_Read (A := Ab) (c := cb) many b hm (by omega) ub W h)
    have C6 := hid (fun W h => ref_Read (A := Ab) (c := cb) many b hm (by omega) ub W h)
    have C7 := hid (pl_Bytes wd many hw hm)
    have C8 := hid (ref_Bytes wd many hw hm)
    have C9 := hid (pl_Width n hn)
    have C10 := hid (ref_Width n hn)
    have hl1 : (upkV wd many b).length ≤ 9223372036854775807 := by
      by_cases h : bitE wd many b = 0
      · have := upk_len h; have := bys_ok (bitE_ok h).1; omega
      · rw [show upkV wd many b = [] from if_neg h]; decide
    have hl2 : (uwvV wd many b).length ≤ 9223372036854775807 := by
      by_cases h : bitE wd many b = 0
      · have := uwv_len h; have := bys_ok (bitE_ok h).1; omega
      · rw [show uwvV wd many b = [] from if_neg h]; decide
    have hl3 : (bitV 1 many b).length ≤ 9223372036854775807 := by
      by_cases h : bitE 1 many b = 0
      · have := bys_ok (bitE_ok h).1
        rw [show bitV 1 many b = mkB ((1 : Int).toNat * many.toNat) (fB b) from if_pos h, mkB_len]
        simp
        omega
      · rw [show bitV 1 many b = [] from if_neg h]; decide
    have S1 := hid (samen_yes hl1)
    have S2 := hid (samen_yes hl2)
    have S3 := hid (fun A2 B2 c2 d2 W h1 h2 => ref_SameSigns (A := A2) (B := B2) (c := c2) (d := d2) (bitV 1 many b) hl3 W h1 h2)
    clear hl1 hl2 hl3
    obtain ⟨X, hX⟩ : ∃ x, upkV wd many b = x := ⟨_, rfl⟩
    obtain ⟨Y, hY⟩ : ∃ x, uwvV wd many b = x := ⟨_, rfl⟩
    obtain ⟨Z, hZ⟩ : ∃ x, bitV 1 many b = x := ⟨_, rfl⟩
    obtain ⟨E, hE⟩ : ∃ x, bitE wd many b = x := ⟨_, rfl⟩
    obtain ⟨F, hF⟩ : ∃ x, bitE 1 many b = x := ⟨_, rfl⟩
    obtain ⟨G, hG⟩ : ∃ x, bysV wd many = x := ⟨_, rfl⟩
    obtain ⟨H, hH⟩ : ∃ x, bysE wd many = x := ⟨_, rfl⟩
    obtain ⟨K, hK⟩ : ∃ x, wdt n = x := ⟨_, rfl⟩
    rw [hX, hE] at C1 C2
    rw [hY, hE] at C3 C4
    rw [hZ, hF] at C5 C6
    rw [hG, hH] at C7 C8
    rw [hK] at C9 C10
    rw [hX] at S1
    rw [hY] at S2
    rw [hZ] at S3
    clear hX hY hZ hE hF hG hH hK
    clear ub hw hm hn
    go_enter Try.func9, Try.ntmps9
    go_wp2_with fail
    refine (live_yes _).mono ?_
    rintro _ w1 ⟨rfl, k1⟩
    go_wp2_with fail
    refine (F1.out w1).mono ?_
    rintro _ _ ⟨rfl, rfl⟩
    go_wp2_with fail
    refine (C1.out w1 (RB.out.on k1)).mono ?_
    rintro _ w101 ⟨A101, c101, rfl, ho101, hb101⟩
    have k101 := k1.trans (hb101.mono k1.size)
    have HS101 := hid (own_rd ho101)
    have HO101 := hid ho101
    clear ho101
    clear hb101 k1
    go_wp2_with fail
    refine (C2.out w101 (RB.out.on k101)).mono ?_
    rintro _ w102 ⟨A102, c102, rfl, ho102, hb102⟩
    have k102 := k101.trans (hb102.mono k101.size)
    have HL103 := hid (HS101.out.on hb102)
    clear HS101
    have HS102 := hid (own_rd ho102)
    have HO102 := hid ho102
    clear ho102
    clear hb102 k101
    go_wp2_with fail
    refine (C3.out w102 (RB.out.on k102)).mono ?_
    rintro _ w104 ⟨A104, c104, rfl, ho104, hb104⟩
    have k104 := k102.trans (hb104.mono k102.size)
    have HL105 := hid (HL103.out.on hb104)
    clear HL103
    have HL106 := hid (HS102.out.on hb104)
    clear HS102
    have HS104 := hid (own_rd ho104)
    have HO104 := hid ho104
    clear ho104
    clear hb104 k102
    go_wp2_with fail
    refine (C4.out w104 (RB.out.on k104)).mono ?_
    rintro _ w107 ⟨A107, c107, rfl, ho107, hb107⟩
    have k107 := k104.trans (hb107.mono k104.size)
    have HL108 := hid (HL105.out.on hb107)
    clear HL105
    have HL109 := hid (HL106.out.on hb107)
    clear HL106
    have HL110 := hid (HS104.out.on hb107)
    clear HS104
    have HS107 := hid (own_rd ho107)
    have HO107 := hid ho107
    clear ho107
    clear hb107 k104
    go_wp2_with fail
    refine (C5.out w107 (RB.out.on k107)).mono ?_
    rintro _ w111 ⟨A111, c111, rfl, _, _, hr111, hb111⟩
    have k111 := k107.trans (hb111.mono k107.size)
    have HL112 := hid (HL108.out.on hb111)
    clear HL108
    have HL113 := hid (HL109.out.on hb111)
    clear HL109
    have HL114 := hid (HL110.out.on hb111)
    clear HL110
    have HL115 := hid (HS107.out.on hb111)
    clear HS107
    have HS111 := hid hr111
    clear hr111 hb111 k107
    go_wp2_with fail
    refine (C6.out w111 (RB.out.on k111)).mono ?_
    rintro _ w116 ⟨A116, c116, rfl, _, _, hr116, hb116⟩
    have k116 := k111.trans (hb116.mono k111.size)
    have HL117 := hid (HL112.out.on hb116)
    clear HL112
    have HL118 := hid (HL113.out.on hb116)
    clear HL113
    have HL119 := hid (HL114.out.on hb116)
    clear HL114
    have HL120 := hid (HL115.out.on hb116)
    clear HL115
    have HL121 := hid (HS111.out.on hb116)
    clear HS111
    have HS116 := hid hr116
    clear hr116 hb116 k111
    go_wp2_with fail
    refine (C7.out w116 ).mono ?_
    rintro _ _ ⟨rfl, rfl⟩
    go_wp2_with fail
    refine (C8.out w116 ).mono ?_
    rintro _ _ ⟨rfl, rfl⟩
    go_wp2_with fail
    refine (S1.out _ _ _ _ w116 HL117.out HL118.out).mono ?_
    rintro _ w122 ⟨rfl, hb122⟩
    have k122 := k116.trans (hb122.mono k116.size)
    have HL123 := hid (HL117.out.on hb122)
    clear HL117
    have HL124 := hid (HL118.out.on hb122)
    clear HL118
    have HL125 := hid (HL119.out.on hb122)
    clear HL119
    have HL126 := hid (HL120.out.on hb122)
    clear HL120
    have HL127 := hid (HL121.out.on hb122)
    clear HL121
    have HL128 := hid (HS116.out.on hb122)
    clear HS116
    clear hb122 k116
    go_wp2_with fail
    refine (S2.out _ _ _ _ w122 HL125.out HL126.out).mono ?_
    rintro _ w129 ⟨rfl, hb129⟩
    have k129 := k122.trans (hb129.mono k122.size)
    have HL130 := hid (HL123.out.on hb129)
    clear HL123
    have HL131 := hid (HL124.out.on hb129)
    clear HL124
    have HL132 := hid (HL125.out.on hb129)
    clear HL125
    have HL133 := hid (HL126.out.on hb129)
    clear HL126
    have HL134 := hid (HL127.out.on hb129)
    clear HL127
    have HL135 := hid (HL128.out.on hb129)
    clear HL128
    clear hb129 k122
    go_wp2_with fail
    refine (S3.out _ _ _ _ w129 HL134.out HL135.out).mono ?_
    rintro _ w136 ⟨rfl, hb136⟩
    have k136 := k129.trans (hb136.mono k129.size)
    have HL137 := hid (HL130.out.on hb136)
    clear HL130
    have HL138 := hid (HL131.out.on hb136)
    clear HL131
    have HL139 := hid (HL132.out.on hb136)
    clear HL132
    have HL140 := hid (HL133.out.on hb136)
    clear HL133
    have HL141 := hid (HL134.out.on hb136)
    clear HL134
    have HL142 := hid (HL135.out.on hb136)
    clear HL135
    clear hb136 k129
    go_wp2_with fail
    refine (C9.out w136 ).mono ?_
    rintro _ _ ⟨rfl, rfl⟩
    go_wp2_with fail
    refine (C10.out w136 ).mono ?_
    rintro _ _ ⟨rfl, rfl⟩
    go_wp2_with fail
    go_ret
    exact ⟨by simp, k136⟩
  · have F1 := hid (few_no b.length hf)
    clear ub hw hm
    go_enter Try.func9, Try.ntmps9
    go_wp2_with fail
    refine (live_yes _).mono ?_
    rintro _ w1 ⟨rfl, k1⟩
    go_wp2_with fail
    refine (F1.out w1).mono ?_
    rintro _ _ ⟨rfl, rfl⟩
    go_wp2_with fail
    go_ret
    exact ⟨rfl, k1⟩
theorem law_types : ∀ t ∈ Try.f9.params.toList, Try.prog.readableRec t = true ∧ t < Try.prog.types.size := by
  have h : (Try.f9.params.toList.all fun t => Try.prog.readableRec t && decide (t < Try.prog.types.size)) = true := by kernel_rfl
  intro t ht
  simpa using List.all_eq_true.1 h t ht
set_option maxRecDepth 100000 in
theorem lifted (os : Os) (started : os.Started) (H : Type) (enc : TypeId × Value → H) :
    ReturnsInHanded {} Try.checked os 9 .any (Rows.planeReadsSpec.pre6 enc Try.prog Try.f9 Rows.planeReadsRow.domain false) (Rows.planeReadsSpec.post enc Try.prog Try.f9 false true false false) := by
  refine returnsInHanded_of_change (C := Try.checked) own started (by kernel_rfl) Try.func9
    (ChangeSpec.witness6 (enc := enc) (C := Try.checked) false ⟨#[], #[.int .i64 0, .int .i64 0, .slice none 0 0, .int .u64 0], []⟩ 8 (by kernel_rfl) (by kernel_rfl) (by kernel_rfl) (by kernel_rfl)) ?_
  intro W base args ds gs before hval0 hW hcnd _
  have hval : ∀ (j : Nat) t v, Try.f9.params[j]? = some t → args[j]? = some v → Value.okWide Try.prog W .any base t v := hval0
  have hW' := hW
  obtain ⟨p, q, hA0, hV, rfl, hfz, hnd⟩ := hW
  have hA : DataW.TrodAll enc Try.prog W 0 (fun _ => true) true Try.f9.params.toList args.toList ds p := hA0
  rw [Try.params9] at hA hval
  obtain ⟨v0, vs0, d0, ds0, p0, q0, hargs, rfl, rfl, h0, r0⟩ := trodAll_cons hA
  obtain ⟨v1, vs1, d1, ds1, p1, q1, rfl, rfl, rfl, h1, r1⟩ := trodAll_cons r0
  obtain ⟨v2, vs2, d2, ds2, p2, q2, rfl, rfl, rfl, h2, r2⟩ := trodAll_cons r1
  obtain ⟨v3, vs3, d3, ds3, p3, q3, rfl, rfl, rfl, h3, r3⟩ := trodAll_cons r2
  obtain ⟨rfl, rfl, rfl⟩ := trodAll_nil r3
  obtain rfl : args = #[v0, v1, v2, v3] := by cases args; simp_all
  obtain ⟨rfl, rfl⟩ := trodVars_none hV
  obtain ⟨wd, rfl, rfl, rfl, w0⟩ := open_int Try.underlying3 (hval 0 3 v0 rfl rfl) h0
  obtain ⟨many, rfl, rfl, rfl, w1⟩ := open_int Try.underlying3 (hval 1 3 v1 rfl rfl) h1
  obtain ⟨Ab, b, cb, rfl, rdb, ib, lcb, lmb⟩ := open_nums Try.underlying22 Try.underlying5 cells_u8 (hval 2 22 v2 rfl rfl) h2
  obtain ⟨n, rfl, rfl, rfl, w3⟩ := open_int Try.underlying43 (hval 3 43 v3 rfl rfl) h3
  clear hA0 hval0
  refine (walk wd many Ab b cb n W (I64.of_wf w0) (I64.of_wf w1) rdb (fun x hx => bounds_u8 (ib x hx)) lcb lmb (U64.of_wf w3)).mono fun e W' ⟨he, hb⟩ => ?_
  subst he
  exact ⟨_, rfl, law_post laid (fun t ht => law_types t ht) rfl hW' ⟨rfl, rfl, rfl⟩ (by kernel_rfl) Try.underlying4 hb⟩

theorem over : Rows.planeReadsRow.holds Try.pinned (OpenSpec.ofChange Rows.planeReadsSpec) :=
  OpenClaim.holds_of_wide 9 Try.f9 rfl rfl rfl rfl rfl rfl rfl ⟨rfl, rfl, rfl, rfl, rfl⟩ rfl rfl rfl rfl rfl (by kernel_rfl) Try.func9 (by kernel_rfl)
    (of_decide_eq_true (by kernel_rfl)) (by unfold Func.isWrapper; first | (rw [if_pos (by decide +kernel)]; kernel_rfl) | (rw [if_neg (by decide +kernel)]; exact ⟨rfl, rfl⟩))
    (fun os started H enc _ => lifted os started H enc)

theorem proved : Rows.PlaneReadsSaid := over
end Go.Proofs.Ytgkkliibeiklbaa.PlaneReads
