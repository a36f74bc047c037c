
/-
  TableTells answers true for every input. No condition.
-/
import Derived.Test.YtnokomlekndgfaaTbLv
import Derived.Test.YtnokomlekndgfaaArg
import Derived.Test.YtnokomlekndgfaaLaw
namespace Go.Proofs.Ytnokomlekndgfaa.TableTells
open Go.ChangeShapes Go.WideShapes Go.ChangeAt Go.RowKit
set_option maxHeartbeats 400000
set_option linter.unusedVariables false
open Go.Proofs.Ytnokomlekndgfaa
set_option maxHeartbeats 2000000 in
set_option maxRecDepth 100000 in
theorem walk (n x frac : Int) (hn : U64 n) (hx : I64 x) (hf : I64 frac) (w : World) :
    Calls Try.prog 3 #[.int .u64 n, .int .i64 x, .int .i64 frac] w fun e w' => e = .returned (.bool true) ∧ Below w.heap.size w w' := by
  obtain ⟨m, rfl⟩ := Int.eq_ofNat_of_zero_le hn.1
  have hm : m < 18446744073709551616 := by have := hn.2; omega
  have C1 := hid (fun W => tb_Exp frac x hx W)
  have C2 := hid (fun W => ref_Exp frac x hx W)
  have C3 := hid (fun W => tb_Root m hm W)
  have C4 := hid (fun W => ref_Root m hm W)
  obtain ⟨R, hR⟩ : ∃ R, rootN m = R := ⟨_, rfl⟩
  rw [hR] at C3 C4
  obtain ⟨V, hV⟩ : ∃ V, expV frac x = V := ⟨_, rfl⟩
  obtain ⟨E, hE⟩ : ∃ E, expE frac x = E := ⟨_, rfl⟩
  rw [hV, hE] at C1 C2
  clear hR hV hE hn hm hx hf
  go_enter Try.func3, Try.ntmps3
  go_wp2_with fail
  refine (tb_live _).mono ?_
  rintro _ w1 ⟨rfl, k1⟩
  go_wp2_with fail
  refine (C1.out _).mono ?_
  rintro _ w2 ⟨rfl, h2⟩
  have K2 := hid (k1.trans (h2.mono k1.size))
  clear h2 k1
  go_wp2_with fail
  refine (C2.out _).mono ?_
  rintro _ w3 ⟨rfl, h3⟩
  have K3 : Hid (Below w.heap.size w w3) := hid (K2.out.trans (h3.mono K2.out.size))
  clear h3 K2
  go_wp2_with fail
  refine (C3.out _).mono ?_
  rintro _ _ ⟨rfl, rfl⟩
  go_wp2_with fail
  refine (C4.out _).mono ?_
  rintro _ _ ⟨rfl, rfl⟩
  go_wp2_with fail
  refine (tb_Rows _).mono ?_
  rintro _ w4 ⟨A4, c4, rfl, r4, h4⟩
  have K4 : Hid (Below w.heap.size w w4) := hid (K3.out.trans (h4.mono K3.out.size))
  have R4 := hid r4
  clear h4 K3 r4
  go_wp2_with fail
  refine (ref_Rows _).mono ?_
  rintro _ w5 ⟨A5, c5, rfl, r5, h5⟩
  have K5 : Hid (Below w.heap.size w w5) := hid (K4.out.trans (h5.mono K4.out.size))
  have R5 := hid r5
  have R6 := hid (R4.out.on h5)
  clear h5 K4 r5 R4
  have C7 := hid (tb_rnums (A := A4) (B := A5) (c := c4) (d := c5) rowsI (by decide) w5 R6.out R5.out)
  rw [rowsI_len] at C7
  go_wp2_with fail
  refine C7.out.mono ?_
  rintro _ w7 ⟨rfl, h7⟩
  have K7 : Hid (Below w.heap.size w w7) := hid (K5.out.trans (h7.mono K5.out.size))
  clear h7
  go_wp2_with fail
  go_ret
  exact ⟨rfl, K7.out⟩
theorem law_types : ∀ t ∈ Try.f3.params.toList, Try.prog.readableRec t = true ∧ t < Try.prog.types.size := by
  have h : (Try.f3.params.toList.all fun t => Try.prog.readableRec t && decide (t < Try.prog.types.size)) = true := by kernel_rfl
  intro t ht
  simpa using List.all_eq_true.1 h t ht
set_option maxRecDepth 100000 in
theorem lifted (os : Os) (started : os.Started) (H : Type) (enc : TypeId × Value → H) :
    ReturnsInHanded {} Try.checked os 3 .any (Rows.tableTellsSpec.pre6 enc Try.prog Try.f3 Rows.tableTellsRow.domain false) (Rows.tableTellsSpec.post enc Try.prog Try.f3 false true false false) := by
  refine returnsInHanded_of_change (C := Try.checked) own started (by kernel_rfl) Try.func3
    (ChangeSpec.witness6 (enc := enc) (C := Try.checked) false ⟨#[], #[.int .u64 0, .int .i64 0, .int .i64 0], []⟩ 8 (by kernel_rfl) (by kernel_rfl) (by kernel_rfl) (by kernel_rfl)) ?_
  intro W base args ds gs before hval0 hW hcnd _
  have hval : ∀ (j : Nat) t v, Try.f3.params[j]? = some t → args[j]? = some v → Value.okWide Try.prog W .any base t v := hval0
  have hW' := hW
  obtain ⟨p, q, hA0, hV, rfl, hfz, hnd⟩ := hW
  have hA : DataW.TrodAll enc Try.prog W 0 (fun _ => true) true Try.f3.params.toList args.toList ds p := hA0
  rw [Try.params3] at hA hval
  obtain ⟨v0, vs0, d0, ds0, p0, q0, hargs, rfl, rfl, h0, r0⟩ := trodAll_cons hA
  obtain ⟨v1, vs1, d1, ds1, p1, q1, rfl, rfl, rfl, h1, r1⟩ := trodAll_cons r0
  obtain ⟨v2, vs2, d2, ds2, p2, q2, rfl, rfl, rfl, h2, r2⟩ := trodAll_cons r1
  obtain ⟨rfl, rfl, rfl⟩ := trodAll_nil r2
  obtain rfl : args = #[v0, v1, v2] := by cases args; simp_all
  obtain ⟨rfl, rfl⟩ := trodVars_none hV
  obtain ⟨n, rfl, rfl, rfl, w0⟩ := open_int Try.underlying22 (hval 0 22 v0 rfl rfl) h0
  obtain ⟨x, rfl, rfl, rfl, w1⟩ := open_int Try.underlying2 (hval 1 2 v1 rfl rfl) h1
  obtain ⟨frac, rfl, rfl, rfl, w2⟩ := open_int Try.underlying3 (hval 2 3 v2 rfl rfl) h2
  clear hA0 hval0
  refine (walk n x frac (U64.of_wf w0) (I64.of_wf w1) (I64.of_wf w2) W).mono fun e W' ⟨he, hb⟩ => ?_
  subst he
  exact ⟨_, rfl, law_post laid (fun t ht => law_types t ht) rfl hW' ⟨rfl, rfl, rfl⟩ (by kernel_rfl) Try.underlying4 hb⟩

theorem over : Rows.tableTellsRow.holds Try.pinned (OpenSpec.ofChange Rows.tableTellsSpec) :=
  OpenClaim.holds_of_wide 3 Try.f3 rfl rfl rfl rfl rfl rfl rfl ⟨rfl, rfl, rfl, rfl, rfl⟩ rfl rfl rfl rfl rfl (by kernel_rfl) Try.func3 (by kernel_rfl)
    (of_decide_eq_true (by kernel_rfl)) (by unfold Func.isWrapper; first | (rw [if_pos (by decide +kernel)]; kernel_rfl) | (rw [if_neg (by decide +kernel)]; exact ⟨rfl, rfl⟩))
    (fun os started H enc _ => lifted os started H enc)

theorem proved : Rows.TableTellsSaid := over
end Go.Proofs.Ytnokomlekndgfaa.TableTells
