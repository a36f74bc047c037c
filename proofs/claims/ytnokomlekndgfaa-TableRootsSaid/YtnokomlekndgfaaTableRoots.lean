
/-
  TableRoots answers true for every input. No condition.
-/
import Derived.Test.YtnokomlekndgfaaTbLv
import Derived.Test.YtnokomlekndgfaaArg
import Derived.Test.YtnokomlekndgfaaLaw
namespace Go.Proofs.Ytnokomlekndgfaa.TableRoots
open Go.ChangeShapes Go.WideShapes Go.ChangeAt Go.RowKit
set_option maxHeartbeats 400000
set_option linter.unusedVariables false
open Go.Proofs.Ytnokomlekndgfaa
set_option maxHeartbeats 2000000 in
set_option maxRecDepth 100000 in
theorem walk (n : Int) (hn : U64 n) (w : World) :
    Calls Try.prog 5 #[.int .u64 n] w fun e w' => e = .returned (.bool true) ∧ Below w.heap.size w w' := by
  obtain ⟨m, rfl⟩ := Int.eq_ofNat_of_zero_le hn.1
  have hm : m < 18446744073709551616 := by have := hn.2; omega
  obtain ⟨r1, r2, r3⟩ := rootN_ok hm
  have CR := hid (fun W => tb_Root m hm W)
  obtain ⟨R, hR⟩ : ∃ R, rootN m = R := ⟨_, rfl⟩
  rw [hR] at r1 r2 r3 CR
  obtain ⟨Z, hZ⟩ : ∃ Z, R * R = Z := ⟨_, rfl⟩
  rw [hZ] at r1
  have q1 : IntKind.u64.wrap ((R : Int) * (R : Int)) = (Z : Int) := by
    rw [show (R : Int) * (R : Int) = ((R * R : Nat) : Int) by simp, hZ, IntKind.wrap_u64]; omega
  have h1 : ¬ (Z : Int) > (m : Int) := by omega
  have hop1 : ∀ t, binOp .geq t (.int .u64 (R : Int)) (.int .u64 4294967296) = pure (.bool false) := fun t => by rw [binOp_geq, decide_eq_false (by omega)]
  by_cases hx : R = 4294967295
  · have hop2 : ∀ t, binOp .eql t (.int .u64 (R : Int)) (.int .u64 4294967295) = pure (.bool true) := fun t => by rw [binOp_eql, show ((R : Int) == 4294967295) = true by rw [hx]; rfl]
    clear hR hZ r1 r2 r3 hn hm hx
    go_enter Try.func5, Try.ntmps5
    go_wp2_with fail
    refine (tb_live _).mono ?_
    rintro _ w1 ⟨rfl, k1⟩
    go_wp2_with fail
    refine (CR.out _).mono ?_
    rintro _ _ ⟨rfl, rfl⟩
    go_wp2_with fail
    go_ret
    exact ⟨rfl, k1⟩
  · have hop2 : ∀ t, binOp .eql t (.int .u64 (R : Int)) (.int .u64 4294967295) = pure (.bool false) := fun t => by rw [binOp_eql, show ((R : Int) == 4294967295) = false from beq_eq_false_iff_ne.2 (by omega)]
    obtain ⟨S, hS⟩ : ∃ S, R + 1 = S := ⟨_, rfl⟩
    obtain ⟨Y, hY⟩ : ∃ Y, S * S = Y := ⟨_, rfl⟩
    rw [hS, hY] at r2
    have hS2 : S * S ≤ 4294967295 * 4294967295 := Nat.mul_le_mul (by omega) (by omega)
    rw [hY] at hS2
    have q2 : IntKind.u64.wrap ((R : Int) + 1) = (S : Int) := by rw [IntKind.wrap_u64]; omega
    have q3 : IntKind.u64.wrap ((S : Int) * (S : Int)) = (Y : Int) := by
      rw [show (S : Int) * (S : Int) = ((S * S : Nat) : Int) by simp, hY, IntKind.wrap_u64]; omega
    have h3 : (Y : Int) > (m : Int) := by omega
    clear hR hZ r1 r2 r3 hn hm hx hS hY hS2
    go_enter Try.func5, Try.ntmps5
    go_wp2_with fail
    refine (tb_live _).mono ?_
    rintro _ w1 ⟨rfl, k1⟩
    go_wp2_with fail
    refine (CR.out _).mono ?_
    rintro _ _ ⟨rfl, rfl⟩
    go_wp2_with fail
    go_ret
    exact ⟨rfl, k1⟩
theorem law_types : ∀ t ∈ Try.f5.params.toList, Try.prog.readableRec t = true ∧ t < Try.prog.types.size := by
  have h : (Try.f5.params.toList.all fun t => Try.prog.readableRec t && decide (t < Try.prog.types.size)) = true := by kernel_rfl
  intro t ht
  simpa using List.all_eq_true.1 h t ht
set_option maxRecDepth 100000 in
theorem lifted (os : Os) (started : os.Started) (H : Type) (enc : TypeId × Value → H) :
    ReturnsInHanded {} Try.checked os 5 .any (Rows.tableRootsSpec.pre6 enc Try.prog Try.f5 Rows.tableRootsRow.domain false) (Rows.tableRootsSpec.post enc Try.prog Try.f5 false true false false) := by
  refine returnsInHanded_of_change (C := Try.checked) own started (by kernel_rfl) Try.func5
    (ChangeSpec.witness6 (enc := enc) (C := Try.checked) false ⟨#[], #[.int .u64 0], []⟩ 8 (by kernel_rfl) (by kernel_rfl) (by kernel_rfl) (by kernel_rfl)) ?_
  intro W base args ds gs before hval0 hW hcnd _
  have hval : ∀ (j : Nat) t v, Try.f5.params[j]? = some t → args[j]? = some v → Value.okWide Try.prog W .any base t v := hval0
  have hW' := hW
  obtain ⟨p, q, hA0, hV, rfl, hfz, hnd⟩ := hW
  have hA : DataW.TrodAll enc Try.prog W 0 (fun _ => true) true Try.f5.params.toList args.toList ds p := hA0
  rw [Try.params5] at hA hval
  obtain ⟨v0, vs0, d0, ds0, p0, q0, hargs, rfl, rfl, h0, r0⟩ := trodAll_cons hA
  obtain ⟨rfl, rfl, rfl⟩ := trodAll_nil r0
  obtain rfl : args = #[v0] := by cases args; simp_all
  obtain ⟨rfl, rfl⟩ := trodVars_none hV
  obtain ⟨n, rfl, rfl, rfl, w0⟩ := open_int Try.underlying22 (hval 0 22 v0 rfl rfl) h0
  clear hA0 hval0
  refine (walk n (U64.of_wf w0) W).mono fun e W' ⟨he, hb⟩ => ?_
  subst he
  exact ⟨_, rfl, law_post laid (fun t ht => law_types t ht) rfl hW' ⟨rfl, rfl, rfl⟩ (by kernel_rfl) Try.underlying4 hb⟩

theorem over : Rows.tableRootsRow.holds Try.pinned (OpenSpec.ofChange Rows.tableRootsSpec) :=
  OpenClaim.holds_of_wide 5 Try.f5 rfl rfl rfl rfl rfl rfl rfl ⟨rfl, rfl, rfl, rfl, rfl⟩ rfl rfl rfl rfl rfl (by kernel_rfl) Try.func5 (by kernel_rfl)
    (of_decide_eq_true (by kernel_rfl)) (by unfold Func.isWrapper; first | (rw [if_pos (by decide +kernel)]; kernel_rfl) | (rw [if_neg (by decide +kernel)]; exact ⟨rfl, rfl⟩))
    (fun os started H enc _ => lifted os started H enc)

theorem proved : Rows.TableRootsSaid := over
end Go.Proofs.Ytnokomlekndgfaa.TableRoots
