
/-
  QuantLevels answers true for every input. No condition.
-/
import Derived.Test.YtbkoapdeglmopaaJg
import Derived.Test.YtbkoapdeglmopaaJd
namespace Go.Proofs.Ytbkoapdeglmopaa.QuantLevels
open Go.ChangeShapes Go.WideShapes Go.ChangeAt Go.RowKit
set_option maxHeartbeats 400000
set_option linter.unusedVariables false
open Go.Proofs.Ytbkoapdeglmopaa
set_option maxHeartbeats 4000000 in
set_option maxRecDepth 100000 in
theorem walk (n scale level wide : Int) (hn : I64 n) (hs : I64 scale) (hl : U64 level) (hw : I64 wide) (w : World) :
    Calls Try.prog 3 #[.int .i64 n, .int .i64 scale, .int .u64 level, .int .i64 wide] w fun e w' => e = .returned (.bool true) ∧ Below w.heap.size w w' := by
  obtain ⟨L, rfl⟩ := Int.eq_ofNat_of_zero_le hl.1
  have hl2 : L < 18446744073709551616 := by have := hl.2; omega
  have C1 := hid (fun W => qp_Level n scale wide hn hs hw W)
  have C2 := hid (fun W => ref_Level n scale wide hn hs hw W)
  have C3 := hid (fun W => qp_Value L scale wide hl2 hs hw W)
  have C4 := hid (fun W => ref_Value L scale wide (by omega) hs hw W)
  have C5 := hid (fun W => qp_Steps wide hw W)
  have C6 := hid (fun W => ref_Steps wide hw W)
  obtain ⟨a, e1⟩ : ∃ x, lvlL n scale wide = x := ⟨_, rfl⟩
  obtain ⟨b, e2⟩ : ∃ x, lvlR n scale wide = x := ⟨_, rfl⟩
  obtain ⟨e, e3⟩ : ∃ x, lvlE n scale wide = x := ⟨_, rfl⟩
  obtain ⟨x, e4⟩ : ∃ x, valV L scale wide = x := ⟨_, rfl⟩
  obtain ⟨g, e5⟩ : ∃ x, valE L scale wide = x := ⟨_, rfl⟩
  obtain ⟨t, e6⟩ : ∃ x, stsV wide = x := ⟨_, rfl⟩
  obtain ⟨i, e7⟩ : ∃ x, stsE wide = x := ⟨_, rfl⟩
  rw [e1, e2, e3] at C1 C2
  rw [e4, e5] at C3 C4
  rw [e6, e7] at C5 C6
  clear e1 e2 e3 e4 e5 e6 e7 hn hs hl hl2 hw
  go_enter Try.func3, Try.ntmps3
  go_wp2_with fail
  refine (qu_live _).mono ?_
  rintro _ w1 ⟨rfl, k1⟩
  go_wp2_with fail
  refine (C1.out w1).mono ?_
  rintro _ w2 ⟨rfl, hb⟩
  have k2 := k1.trans (hb.mono k1.size)
  clear C1 hb k1
  go_wp2_with fail
  refine (C2.out _).mono ?_
  rintro _ _ ⟨rfl, rfl⟩
  clear C2
  go_wp2_with fail
  refine (C3.out _).mono ?_
  rintro _ _ ⟨rfl, m, rfl⟩
  have k3 := k2.trans (belowN w.heap.size w2 m)
  obtain ⟨w3, h3⟩ : ∃ w3, w2.drewN m = w3 := ⟨_, rfl⟩
  rw [h3] at k3 ⊢
  clear C3 k2 h3
  go_wp2_with fail
  refine (C4.out _).mono ?_
  rintro _ _ ⟨rfl, rfl⟩
  clear C4
  go_wp2_with fail
  refine (C5.out _).mono ?_
  rintro _ _ ⟨rfl, rfl⟩
  clear C5
  go_wp2_with fail
  refine (C6.out _).mono ?_
  rintro _ _ ⟨rfl, rfl⟩
  clear C6
  go_wp2_with fail
  go_ret
  exact ⟨by simp, k3⟩
theorem law_types : ∀ t ∈ Try.f3.params.toList, Try.prog.readableRec t = true ∧ t < Try.prog.types.size := by
  have h : (Try.f3.params.toList.all fun t => Try.prog.readableRec t && decide (t < Try.prog.types.size)) = true := by kernel_rfl
  intro t ht
  simpa using List.all_eq_true.1 h t ht
set_option maxRecDepth 100000 in
theorem lifted (os : Os) (started : os.Started) (H : Type) (enc : TypeId × Value → H) :
    ReturnsInHanded {} Try.checked os 3 .any (Rows.quantLevelsSpec.pre6 enc Try.prog Try.f3 Rows.quantLevelsRow.domain false) (Rows.quantLevelsSpec.post enc Try.prog Try.f3 false true false false) := by
  refine returnsInHanded_of_change (C := Try.checked) own started (by kernel_rfl) Try.func3
    (ChangeSpec.witness6 (enc := enc) (C := Try.checked) false ⟨#[], #[.int .i64 0, .int .i64 0, .int .u64 0, .int .i64 0], []⟩ 8 (by kernel_rfl) (by kernel_rfl) (by kernel_rfl) (by kernel_rfl)) ?_
  intro W base args ds gs before hval0 hW hcnd _
  have hval : ∀ (j : Nat) t v, Try.f3.params[j]? = some t → args[j]? = some v → Value.okWide Try.prog W .any base t v := hval0
  have hW' := hW
  obtain ⟨p, q, hA0, hV, rfl, hfz, hnd⟩ := hW
  have hA : DataW.TrodAll enc Try.prog W 0 (fun _ => true) true Try.f3.params.toList args.toList ds p := hA0
  rw [Try.params3] at hA hval
  obtain ⟨v0, vs0, d0, ds0, p0, q0, hargs, rfl, rfl, h0, r0⟩ := trodAll_cons hA
  obtain ⟨v1, vs1, d1, ds1, p1, q1, rfl, rfl, rfl, h1, r1⟩ := trodAll_cons r0
  obtain ⟨v2, vs2, d2, ds2, p2, q2, rfl, rfl, rfl, h2, r2⟩ := trodAll_cons r1
  obtain ⟨v3, vs3, d3, ds3, p3, q3, rfl, rfl, rfl, h3, r3⟩ := trodAll_cons r2
  obtain ⟨rfl, rfl, rfl⟩ := trodAll_nil r3
  obtain rfl : args = #[v0, v1, v2, v3] := by cases args; simp_all
  obtain ⟨rfl, rfl⟩ := trodVars_none hV
  obtain ⟨n, rfl, rfl, rfl, w0⟩ := open_int Try.underlying2 (hval 0 2 v0 rfl rfl) h0
  obtain ⟨scale, rfl, rfl, rfl, w1⟩ := open_int Try.underlying2 (hval 1 2 v1 rfl rfl) h1
  obtain ⟨level, rfl, rfl, rfl, w2⟩ := open_int Try.underlying22 (hval 2 22 v2 rfl rfl) h2
  obtain ⟨wide, rfl, rfl, rfl, w3⟩ := open_int Try.underlying3 (hval 3 3 v3 rfl rfl) h3
  clear hA0 hval0
  refine (walk n scale level wide (I64.of_wf w0) (I64.of_wf w1) (U64.of_wf w2) (I64.of_wf w3) W).mono fun e W' ⟨he, hb⟩ => ?_
  subst he
  exact ⟨_, rfl, law_post laid (fun t ht => law_types t ht) rfl hW' ⟨rfl, rfl, rfl⟩ (by kernel_rfl) Try.underlying4 hb⟩

theorem over : Rows.quantLevelsRow.holds Try.pinned (OpenSpec.ofChange Rows.quantLevelsSpec) :=
  OpenClaim.holds_of_wide 3 Try.f3 rfl rfl rfl rfl rfl rfl rfl ⟨rfl, rfl, rfl, rfl, rfl⟩ rfl rfl rfl rfl rfl (by kernel_rfl) Try.func3 (by kernel_rfl)
    (of_decide_eq_true (by kernel_rfl)) (by unfold Func.isWrapper; first | (rw [if_pos (by decide +kernel)]; kernel_rfl) | (rw [if_neg (by decide +kernel)]; exact ⟨rfl, rfl⟩))
    (fun os started H enc _ => lifted os started H enc)

theorem proved : Rows.QuantLevelsSaid := over
end Go.Proofs.Ytbkoapdeglmopaa.QuantLevels
