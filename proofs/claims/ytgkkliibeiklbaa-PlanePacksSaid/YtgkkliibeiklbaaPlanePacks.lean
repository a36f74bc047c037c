
/-
  PlanePacks answers true for every input. No condition.
-/
import Derived.Test.YtgkkliibeiklbaaPlLv
import Derived.Test.YtgkkliibeiklbaaLaw
namespace Go.Proofs.Ytgkkliibeiklbaa.PlanePacks
open Go.ChangeShapes Go.WideShapes Go.ChangeAt Go.RowKit
set_option maxHeartbeats 400000
set_option linter.unusedVariables false
open Go.Proofs.Ytgkkliibeiklbaa
set_option maxHeartbeats 4000000 in
set_option maxRecDepth 100000 in
theorem walk (wd : Int) (Al : Option Addr) (l : List Int) (cl : Nat) (As : Option Addr) (s : List Bool) (cs : Nat) (w : World) (hw : I64 wd) (rl : Rd (Value.int .u64) w w.heap.size Al l) (ul : U64s l) (ll : l.length ≤ cl) (ml : cl ≤ 9223372036854775807) (rs : Rd Value.bool w w.heap.size As s) (ls : s.length ≤ cs) (ms : cs ≤ 9223372036854775807) :
    Calls Try.prog 8 #[.int .i64 wd, .slice Al l.length cl, .slice As s.length cs] w fun e w' => e = .returned (.bool true) ∧ Below w.heap.size w w' := by
  have RL := hid rl
  have RS := hid rs
  clear rl rs
  by_cases hf : l.length ≤ 5000
  · have F1 := hid (few_yes l.length hf)
    by_cases hs : s.length ≤ 5000
    · have F2 := hid (few_yes s.length hs)
      have C1 := hid (fun W h => pl_Pack (A := Al) (c := cl) wd l hw (by omega) ul W h)
      have C2 := hid (fun W h => ref_Pack (A := Al) (c := cl) wd l hw (by omega) ul W h)
      have C3 := hid (fun W h => pl_Weave (A := Al) (c := cl) wd l hw (by omega) ul W h)
      have C4 := hid (fun W h => ref_Weave (A := Al) (c := cl) wd l hw (by omega) ul W h)
      have C5 := hid (fun W h => pl_Signs (A := As) (c := cs) s (by omega) W h)
      have C6 := hid (fun W h => ref_Signs (A := As) (c := cs) s (by omega) W h)
      have S1 := hid (same_yes (pckV_bytes wd l))
      have S2 := hid (same_yes (wevV_bytes wd l))
      have S3 := hid (same_yes (sgnV_bytes s))
      obtain ⟨X, hX⟩ : ∃ x, pckV wd l = x := ⟨_, rfl⟩
      obtain ⟨Y, hY⟩ : ∃ x, wevV wd l = x := ⟨_, rfl⟩
      obtain ⟨Z, hZ⟩ : ∃ x, sgnV s = x := ⟨_, rfl⟩
      obtain ⟨E, hE⟩ : ∃ x, mayE wd l = x := ⟨_, rfl⟩
      obtain ⟨F, hF⟩ : ∃ x, sgnE s = x := ⟨_, rfl⟩
      rw [hX, hE] at C1 C2
      rw [hY, hE] at C3 C4
      rw [hZ, hF] at C5 C6
      rw [hX] at S1
      rw [hY] at S2
      rw [hZ] at S3
      clear hX hY hZ hE hF
      clear ul hw
      go_enter Try.func8, Try.ntmps8
      go_wp2_with fail
      refine (live_yes _).mono ?_
      rintro _ w1 ⟨rfl, k1⟩
      go_wp2_with fail
      refine (F1.out w1).mono ?_
      rintro _ _ ⟨rfl, rfl⟩
      go_wp2_with fail
      refine (F2.out w1).mono ?_
      rintro _ _ ⟨rfl, rfl⟩
      go_wp2_with fail
      refine (C1.out w1 (RL.out.on k1)).mono ?_
      rintro _ w101 ⟨A101, c101, rfl, ho101, hb101⟩
      have k101 := k1.trans (hb101.mono k1.size)
      have HS101 := hid (own_rd ho101)
      have HO101 := hid ho101
      clear ho101
      clear hb101 k1
      go_wp2_with fail
      refine (C2.out w101 (RL.out.on k101)).mono ?_
      rintro _ w102 ⟨A102, c102, rfl, ho102, hb102⟩
      have k102 := k101.trans (hb102.mono k101.size)
      have HL103 := hid (HS101.out.on hb102)
      clear HS101
      have HS102 := hid (own_rd ho102)
      have HO102 := hid ho102
      clear ho102
      clear hb102 k101
      go_wp2_with fail
      refine (C3.out w102 (RL.out.on k102)).mono ?_
      rintro _ w104 ⟨A104, c104, rfl, ho104, hb104⟩
      have k104 := k102.trans (hb104.mono k102.size)
      have HL105 := hid (HL103.out.on hb104)
      clear HL103
      have HL106 := hid (HS102.out.on hb104)
      clear HS102
      have HS104 := hid (own_rd ho104)
      have HO104 := hid ho104
      clear ho104
      clear hb104 k102
      go_wp2_with fail
      refine (C4.out w104 (RL.out.on k104)).mono ?_
      rintro _ w107 ⟨A107, c107, rfl, ho107, hb107⟩
      have k107 := k104.trans (hb107.mono k104.size)
      have HL108 := hid (HL105.out.on hb107)
      clear HL105
      have HL109 := hid (HL106.out.on hb107)
      clear HL106
      have HL110 := hid (HS104.out.on hb107)
      clear HS104
      have HS107 := hid (own_rd ho107)
      have HO107 := hid ho107
      clear ho107
      clear hb107 k104
      go_wp2_with fail
      refine (C5.out w107 (RS.out.on k107)).mono ?_
      rintro _ w111 ⟨A111, c111, rfl, ho111, hb111⟩
      have k111 := k107.trans (hb111.mono k107.size)
      have HL112 := hid (HL108.out.on hb111)
      clear HL108
      have HL113 := hid (HL109.out.on hb111)
      clear HL109
      have HL114 := hid (HL110.out.on hb111)
      clear HL110
      have HL115 := hid (HS107.out.on hb111)
      clear HS107
      have HS111 := hid (own_rd ho111)
      have HO111 := hid ho111
      clear ho111
      clear hb111 k107
      go_wp2_with fail
      refine (C6.out w111 (RS.out.on k111)).mono ?_
      rintro _ w116 ⟨A116, c116, rfl, ho116, hb116⟩
      have k116 := k111.trans (hb116.mono k111.size)
      have HL117 := hid (HL112.out.on hb116)
      clear HL112
      have HL118 := hid (HL113.out.on hb116)
      clear HL113
      have HL119 := hid (HL114.out.on hb116)
      clear HL114
      have HL120 := hid (HL115.out.on hb116)
      clear HL115
      have HL121 := hid (HS111.out.on hb116)
      clear HS111
      have HS116 := hid (own_rd ho116)
      have HO116 := hid ho116
      clear ho116
      clear hb116 k111
      go_wp2_with fail
      refine (S1.out _ _ _ _ w116 _ _ HL117.out HL118.out).mono ?_
      rintro _ _ ⟨rfl, rfl⟩
      go_wp2_with fail
      refine (S2.out _ _ _ _ w116 _ _ HL119.out HL120.out).mono ?_
      rintro _ _ ⟨rfl, rfl⟩
      go_wp2_with fail
      refine (S3.out _ _ _ _ w116 _ _ HL121.out HS116.out).mono ?_
      rintro _ _ ⟨rfl, rfl⟩
      go_wp2_with fail
      go_ret
      exact ⟨by simp, k116⟩
    · have F2 := hid (few_no s.length hs)
      clear ul hw
      go_enter Try.func8, Try.ntmps8
      go_wp2_with fail
      refine (live_yes _).mono ?_
      rintro _ w1 ⟨rfl, k1⟩
      go_wp2_with fail
      refine (F1.out w1).mono ?_
      rintro _ _ ⟨rfl, rfl⟩
      go_wp2_with fail
      refine (F2.out w1).mono ?_
      rintro _ _ ⟨rfl, rfl⟩
      go_wp2_with fail
      go_ret
      exact ⟨rfl, k1⟩
  · have F1 := hid (few_no l.length hf)
    clear ul hw
    go_enter Try.func8, Try.ntmps8
    go_wp2_with fail
    refine (live_yes _).mono ?_
    rintro _ w1 ⟨rfl, k1⟩
    go_wp2_with fail
    refine (F1.out w1).mono ?_
    rintro _ _ ⟨rfl, rfl⟩
    go_wp2_with fail
    go_ret
    exact ⟨rfl, k1⟩
theorem law_types : ∀ t ∈ Try.f8.params.toList, Try.prog.readableRec t = true ∧ t < Try.prog.types.size := by
  have h : (Try.f8.params.toList.all fun t => Try.prog.readableRec t && decide (t < Try.prog.types.size)) = true := by kernel_rfl
  intro t ht
  simpa using List.all_eq_true.1 h t ht
set_option maxRecDepth 100000 in
theorem lifted (os : Os) (started : os.Started) (H : Type) (enc : TypeId × Value → H) :
    ReturnsInHanded {} Try.checked os 8 .any (Rows.planePacksSpec.pre6 enc Try.prog Try.f8 Rows.planePacksRow.domain false) (Rows.planePacksSpec.post enc Try.prog Try.f8 false true false false) := by
  refine returnsInHanded_of_change (C := Try.checked) own started (by kernel_rfl) Try.func8
    (ChangeSpec.witness6 (enc := enc) (C := Try.checked) false ⟨#[], #[.int .i64 0, .slice none 0 0, .slice none 0 0], []⟩ 8 (by kernel_rfl) (by kernel_rfl) (by kernel_rfl) (by kernel_rfl)) ?_
  intro W base args ds gs before hval0 hW hcnd _
  have hval : ∀ (j : Nat) t v, Try.f8.params[j]? = some t → args[j]? = some v → Value.okWide Try.prog W .any base t v := hval0
  have hW' := hW
  obtain ⟨p, q, hA0, hV, rfl, hfz, hnd⟩ := hW
  have hA : DataW.TrodAll enc Try.prog W 0 (fun _ => true) true Try.f8.params.toList args.toList ds p := hA0
  rw [Try.params8] at hA hval
  obtain ⟨v0, vs0, d0, ds0, p0, q0, hargs, rfl, rfl, h0, r0⟩ := trodAll_cons hA
  obtain ⟨v1, vs1, d1, ds1, p1, q1, rfl, rfl, rfl, h1, r1⟩ := trodAll_cons r0
  obtain ⟨v2, vs2, d2, ds2, p2, q2, rfl, rfl, rfl, h2, r2⟩ := trodAll_cons r1
  obtain ⟨rfl, rfl, rfl⟩ := trodAll_nil r2
  obtain rfl : args = #[v0, v1, v2] := by cases args; simp_all
  obtain ⟨rfl, rfl⟩ := trodVars_none hV
  obtain ⟨wd, rfl, rfl, rfl, w0⟩ := open_int Try.underlying3 (hval 0 3 v0 rfl rfl) h0
  obtain ⟨Al, l, cl, rfl, rdl, il, lcl, lml⟩ := open_nums Try.underlying37 Try.underlying43 cells_u64 (hval 1 37 v1 rfl rfl) h1
  obtain ⟨As, s, cs, rfl, rds, lcs, lms⟩ := open_bls Try.underlying38 Try.underlying4 cells_bool (hval 2 38 v2 rfl rfl) h2
  clear hA0 hval0
  refine (walk wd Al l cl As s cs W (I64.of_wf w0) rdl (fun x hx => U64.of_wf (il x hx)) lcl lml rds lcs lms).mono fun e W' ⟨he, hb⟩ => ?_
  subst he
  exact ⟨_, rfl, law_post laid (fun t ht => law_types t ht) rfl hW' ⟨rfl, rfl, rfl⟩ (by kernel_rfl) Try.underlying4 hb⟩

theorem over : Rows.planePacksRow.holds Try.pinned (OpenSpec.ofChange Rows.planePacksSpec) :=
  OpenClaim.holds_of_wide 8 Try.f8 rfl rfl rfl rfl rfl rfl rfl ⟨rfl, rfl, rfl, rfl, rfl⟩ rfl rfl rfl rfl rfl (by kernel_rfl) Try.func8 (by kernel_rfl)
    (of_decide_eq_true (by kernel_rfl)) (by unfold Func.isWrapper; first | (rw [if_pos (by decide +kernel)]; kernel_rfl) | (rw [if_neg (by decide +kernel)]; exact ⟨rfl, rfl⟩))
    (fun os started H enc _ => lifted os started H enc)

theorem proved : Rows.PlanePacksSaid := over
end Go.Proofs.Ytgkkliibeiklbaa.PlanePacks
