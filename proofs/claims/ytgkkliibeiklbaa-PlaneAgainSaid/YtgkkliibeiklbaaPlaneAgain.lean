
/-
  PlaneAgain answers true for every input. No condition.
-/
import Derived.Test.YtgkkliibeiklbaaPlLv
import Derived.Test.YtgkkliibeiklbaaLaw
namespace Go.Proofs.Ytgkkliibeiklbaa.PlaneAgain
open Go.ChangeShapes Go.WideShapes Go.ChangeAt Go.RowKit
set_option maxHeartbeats 400000
set_option linter.unusedVariables false
open Go.Proofs.Ytgkkliibeiklbaa
set_option maxHeartbeats 4000000 in
set_option maxRecDepth 100000 in
theorem walk (wd many : Int) (Ab : Option Addr) (b : List Int) (cb : Nat) (w : World) (hw : I64 wd) (hm : I64 many) (rb : Rd (Value.int .u8) w w.heap.size Ab b) (ub : U8s b) (lb : b.length ≤ cb) (mb : cb ≤ 9223372036854775807) :
    Calls Try.prog 11 #[.int .i64 wd, .int .i64 many, .slice Ab b.length cb] w fun e w' => e = .returned (.bool true) ∧ Below w.heap.size w w' := by
  have RB := hid rb
  clear rb
  by_cases hf : b.length ≤ 5000
  · have F1 := hid (few_yes b.length hf)
    have C1 := hid (fun W h => pl_Unpack (A := Ab) (c := cb) wd many b hw hm (by omega) ub W h)
    have C2 := hid (fun W h => pl_Unweave (A := Ab) (c := cb) wd many b hw hm (by omega) ub W h)
    by_cases h : bitE wd many b = 0
    · have hk := bys_ok (bitE_ok h).1
      have hx := upk_len h
      have hy := uwv_len h
      have px := pck_upk ub h
      have py := wev_uwv ub h
      have C3 := hid (fun A2 c2 W h2 => pl_Pack (A := A2) (c := c2) wd (upkV wd many b) hw (by omega) (upkV_u64 b) W h2)
      have C4 := hid (fun A2 c2 W h2 => pl_Weave (A := A2) (c := c2) wd (uwvV wd many b) hw (by omega) (uwvV_u64 b) W h2)
      rw [px.1, px.2] at C3
      rw [py.1, py.2] at C4
      have SB := hid (same_yes ub)
      have SX := hid (samen_yes (X := upkV wd many b) (by omega))
      have XY := hid (fun hw1 : wd ≤ 1 => upk_uwv h hw1)
      rw [h] at C1 C2
      obtain ⟨X, hX⟩ : ∃ x, upkV wd many b = x := ⟨_, rfl⟩
      obtain ⟨Y, hY⟩ : ∃ x, uwvV wd many b = x := ⟨_, rfl⟩
      rw [hX] at C1 C3 SX XY
      rw [hY] at C2 C4 XY
      clear hX hY
      clear hx hy px py h ub hw hm
      by_cases h1 : wd ≤ 1
      · have e := XY.out h1
        subst e
        go_enter Try.func11, Try.ntmps11
        go_wp2_with fail
        refine (live_yes _).mono ?_
        rintro _ w1 ⟨rfl, k1⟩
        go_wp2_with fail
        refine (F1.out w1).mono ?_
        rintro _ _ ⟨rfl, rfl⟩
        go_wp2_with fail
        refine (C1.out w1 (RB.out.on k1)).mono ?_
        rintro _ w101 ⟨A101, c101, rfl, ho101, hb101⟩
        have k101 := k1.trans (hb101.mono k1.size)
        have HS101 := hid (own_rd ho101)
        have HO101 := hid ho101
        clear ho101
        clear hb101 k1
        go_wp2_with fail
        refine (C2.out w101 (RB.out.on k101)).mono ?_
        rintro _ w102 ⟨A102, c102, rfl, ho102, hb102⟩
        have k102 := k101.trans (hb102.mono k101.size)
        have HL103 := hid (HS101.out.on hb102)
        clear HS101
        have HS102 := hid (own_rd ho102)
        have HO102 := hid ho102
        clear ho102
        clear hb102 k101
        go_wp2_with fail
        refine (C3.out _ _ w102 HL103.out).mono ?_
        rintro _ w104 ⟨A104, c104, rfl, ho104, hb104⟩
        have k104 := k102.trans (hb104.mono k102.size)
        have HL105 := hid (HL103.out.on hb104)
        clear HL103
        have HL106 := hid (HS102.out.on hb104)
        clear HS102
        have HS104 := hid (own_rd ho104)
        have HO104 := hid ho104
        clear ho104
        clear hb104 k102
        go_wp2_with fail
        refine (C4.out _ _ w104 HL106.out).mono ?_
        rintro _ w107 ⟨A107, c107, rfl, ho107, hb107⟩
        have k107 := k104.trans (hb107.mono k104.size)
        have HL108 := hid (HL105.out.on hb107)
        clear HL105
        have HL109 := hid (HL106.out.on hb107)
        clear HL106
        have HL110 := hid (HS104.out.on hb107)
        clear HS104
        have HS107 := hid (own_rd ho107)
        have HO107 := hid ho107
        clear ho107
        clear hb107 k104
        go_wp2_with fail
        refine (SB.out _ _ _ _ w107 _ _ HL110.out (RB.out.on k107)).mono ?_
        rintro _ _ ⟨rfl, rfl⟩
        go_wp2_with fail
        refine (SB.out _ _ _ _ w107 _ _ HS107.out (RB.out.on k107)).mono ?_
        rintro _ _ ⟨rfl, rfl⟩
        go_wp2_with fail
        refine (SX.out _ _ _ _ w107 HL108.out HL109.out).mono ?_
        rintro _ w111 ⟨rfl, hb111⟩
        have k111 := k107.trans (hb111.mono k107.size)
        have HL112 := hid (HL108.out.on hb111)
        clear HL108
        have HL113 := hid (HL109.out.on hb111)
        clear HL109
        have HL114 := hid (HL110.out.on hb111)
        clear HL110
        have HL115 := hid (HS107.out.on hb111)
        clear HS107
        clear hb111 k107
        go_wp2_with fail
        go_ret
        exact ⟨by simp, k111⟩
      · have h2 : 1 < wd := by omega
        clear XY SX
        go_enter Try.func11, Try.ntmps11
        go_wp2_with fail
        refine (live_yes _).mono ?_
        rintro _ w1 ⟨rfl, k1⟩
        go_wp2_with fail
        refine (F1.out w1).mono ?_
        rintro _ _ ⟨rfl, rfl⟩
        go_wp2_with fail
        refine (C1.out w1 (RB.out.on k1)).mono ?_
        rintro _ w101 ⟨A101, c101, rfl, ho101, hb101⟩
        have k101 := k1.trans (hb101.mono k1.size)
        have HS101 := hid (own_rd ho101)
        have HO101 := hid ho101
        clear ho101
        clear hb101 k1
        go_wp2_with fail
        refine (C2.out w101 (RB.out.on k101)).mono ?_
        rintro _ w102 ⟨A102, c102, rfl, ho102, hb102⟩
        have k102 := k101.trans (hb102.mono k101.size)
        have HL103 := hid (HS101.out.on hb102)
        clear HS101
        have HS102 := hid (own_rd ho102)
        have HO102 := hid ho102
        clear ho102
        clear hb102 k101
        go_wp2_with fail
        refine (C3.out _ _ w102 HL103.out).mono ?_
        rintro _ w104 ⟨A104, c104, rfl, ho104, hb104⟩
        have k104 := k102.trans (hb104.mono k102.size)
        have HL105 := hid (HL103.out.on hb104)
        clear HL103
        have HL106 := hid (HS102.out.on hb104)
        clear HS102
        have HS104 := hid (own_rd ho104)
        have HO104 := hid ho104
        clear ho104
        clear hb104 k102
        go_wp2_with fail
        refine (C4.out _ _ w104 HL106.out).mono ?_
        rintro _ w107 ⟨A107, c107, rfl, ho107, hb107⟩
        have k107 := k104.trans (hb107.mono k104.size)
        have HL108 := hid (HL105.out.on hb107)
        clear HL105
        have HL109 := hid (HL106.out.on hb107)
        clear HL106
        have HL110 := hid (HS104.out.on hb107)
        clear HS104
        have HS107 := hid (own_rd ho107)
        have HO107 := hid ho107
        clear ho107
        clear hb107 k104
        go_wp2_with fail
        refine (SB.out _ _ _ _ w107 _ _ HL110.out (RB.out.on k107)).mono ?_
        rintro _ _ ⟨rfl, rfl⟩
        go_wp2_with fail
        refine (SB.out _ _ _ _ w107 _ _ HS107.out (RB.out.on k107)).mono ?_
        rintro _ _ ⟨rfl, rfl⟩
        go_wp2_with fail
        go_ret
        exact ⟨by simp, k107⟩
    · have ex : upkV wd many b = [] := if_neg h
      have ey : uwvV wd many b = [] := if_neg h
      rw [ex] at C1
      rw [ey] at C2
      obtain ⟨E, hE⟩ : ∃ x, bitE wd many b = x := ⟨_, rfl⟩
      rw [hE] at C1 C2 h
      clear hE
      have hne : (E != 0) = true := by simpa using h
      have hee : (E != E) = false := by simp
      clear ex ey h ub hw hm
      go_enter Try.func11, Try.ntmps11
      go_wp2_with fail
      refine (live_yes _).mono ?_
      rintro _ w1 ⟨rfl, k1⟩
      go_wp2_with fail
      refine (F1.out w1).mono ?_
      rintro _ _ ⟨rfl, rfl⟩
      go_wp2_with fail
      refine (C1.out w1 (RB.out.on k1)).mono ?_
      rintro _ w101 ⟨A101, c101, rfl, ho101, hb101⟩
      have k101 := k1.trans (hb101.mono k1.size)
      have HS101 := hid (own_rd ho101)
      have HO101 := hid ho101
      clear ho101
      clear hb101 k1
      go_wp2_with fail
      refine (C2.out w101 (RB.out.on k101)).mono ?_
      rintro _ w102 ⟨A102, c102, rfl, ho102, hb102⟩
      have k102 := k101.trans (hb102.mono k101.size)
      have HL103 := hid (HS101.out.on hb102)
      clear HS101
      have HS102 := hid (own_rd ho102)
      have HO102 := hid ho102
      clear ho102
      clear hb102 k101
      go_wp2_with fail
      go_ret
      exact ⟨by simp, k102⟩
  · have F1 := hid (few_no b.length hf)
    clear ub hw hm
    go_enter Try.func11, Try.ntmps11
    go_wp2_with fail
    refine (live_yes _).mono ?_
    rintro _ w1 ⟨rfl, k1⟩
    go_wp2_with fail
    refine (F1.out w1).mono ?_
    rintro _ _ ⟨rfl, rfl⟩
    go_wp2_with fail
    go_ret
    exact ⟨rfl, k1⟩
theorem law_types : ∀ t ∈ Try.f11.params.toList, Try.prog.readableRec t = true ∧ t < Try.prog.types.size := by
  have h : (Try.f11.params.toList.all fun t => Try.prog.readableRec t && decide (t < Try.prog.types.size)) = true := by kernel_rfl
  intro t ht
  simpa using List.all_eq_true.1 h t ht
set_option maxRecDepth 100000 in
theorem lifted (os : Os) (started : os.Started) (H : Type) (enc : TypeId × Value → H) :
    ReturnsInHanded {} Try.checked os 11 .any (Rows.planeAgainSpec.pre6 enc Try.prog Try.f11 Rows.planeAgainRow.domain false) (Rows.planeAgainSpec.post enc Try.prog Try.f11 false true false false) := by
  refine returnsInHanded_of_change (C := Try.checked) own started (by kernel_rfl) Try.func11
    (ChangeSpec.witness6 (enc := enc) (C := Try.checked) false ⟨#[], #[.int .i64 0, .int .i64 0, .slice none 0 0], []⟩ 8 (by kernel_rfl) (by kernel_rfl) (by kernel_rfl) (by kernel_rfl)) ?_
  intro W base args ds gs before hval0 hW hcnd _
  have hval : ∀ (j : Nat) t v, Try.f11.params[j]? = some t → args[j]? = some v → Value.okWide Try.prog W .any base t v := hval0
  have hW' := hW
  obtain ⟨p, q, hA0, hV, rfl, hfz, hnd⟩ := hW
  have hA : DataW.TrodAll enc Try.prog W 0 (fun _ => true) true Try.f11.params.toList args.toList ds p := hA0
  rw [Try.params11] at hA hval
  obtain ⟨v0, vs0, d0, ds0, p0, q0, hargs, rfl, rfl, h0, r0⟩ := trodAll_cons hA
  obtain ⟨v1, vs1, d1, ds1, p1, q1, rfl, rfl, rfl, h1, r1⟩ := trodAll_cons r0
  obtain ⟨v2, vs2, d2, ds2, p2, q2, rfl, rfl, rfl, h2, r2⟩ := trodAll_cons r1
  obtain ⟨rfl, rfl, rfl⟩ := trodAll_nil r2
  obtain rfl : args = #[v0, v1, v2] := by cases args; simp_all
  obtain ⟨rfl, rfl⟩ := trodVars_none hV
  obtain ⟨wd, rfl, rfl, rfl, w0⟩ := open_int Try.underlying3 (hval 0 3 v0 rfl rfl) h0
  obtain ⟨many, rfl, rfl, rfl, w1⟩ := open_int Try.underlying3 (hval 1 3 v1 rfl rfl) h1
  obtain ⟨Ab, b, cb, rfl, rdb, ib, lcb, lmb⟩ := open_nums Try.underlying22 Try.underlying5 cells_u8 (hval 2 22 v2 rfl rfl) h2
  clear hA0 hval0
  refine (walk wd many Ab b cb W (I64.of_wf w0) (I64.of_wf w1) rdb (fun x hx => bounds_u8 (ib x hx)) lcb lmb).mono fun e W' ⟨he, hb⟩ => ?_
  subst he
  exact ⟨_, rfl, law_post laid (fun t ht => law_types t ht) rfl hW' ⟨rfl, rfl, rfl⟩ (by kernel_rfl) Try.underlying4 hb⟩

theorem over : Rows.planeAgainRow.holds Try.pinned (OpenSpec.ofChange Rows.planeAgainSpec) :=
  OpenClaim.holds_of_wide 11 Try.f11 rfl rfl rfl rfl rfl rfl rfl ⟨rfl, rfl, rfl, rfl, rfl⟩ rfl rfl rfl rfl rfl (by kernel_rfl) Try.func11 (by kernel_rfl)
    (of_decide_eq_true (by kernel_rfl)) (by unfold Func.isWrapper; first | (rw [if_pos (by decide +kernel)]; kernel_rfl) | (rw [if_neg (by decide +kernel)]; exact ⟨rfl, rfl⟩))
    (fun os started H enc _ => lifted os started H enc)

theorem proved : Rows.PlaneAgainSaid := over
end Go.Proofs.Ytgkkliibeiklbaa.PlaneAgain
