/-
  FixWide answers true for every input. No condition.
-/
import Derived.Test.YtbfpdafncicgnaaFixC
import Derived.Test.YtbfpdafncicgnaaLaw
namespace Go.Proofs.Ytbfpdafncicgnaa.FixWide
open Go.ChangeShapes Go.WideShapes Go.ChangeAt Go.RowKit
set_option maxHeartbeats 400000
set_option linter.unusedVariables false
theorem wide_one {a : Int} (ha : I64 a) : loU a = IntKind.u64.wrap a ∧ wrap64 (hiU a) = a / 9223372036854775808 := by
  unfold I64 at ha
  refine ⟨(IntKind.wrap_u64 a).symm, ?_⟩
  unfold hiU; rw [wrap64_eq]; omega
theorem wide_sum (P R : Int) (hP : I128 P) (hR : I128 R) (hS : I128 (P + R)) : loU (P + R) = IntKind.u64.wrap (loU P + loU R) ∧
    ((IntKind.u64.wrap (loU P + loU R) < loU P ∧ wrap64 (hiU (P + R)) = wrap64 (wrap64 (wrap64 (hiU P) + wrap64 (hiU R)) + 1)) ∨
     (¬ IntKind.u64.wrap (loU P + loU R) < loU P ∧ wrap64 (hiU (P + R)) = wrap64 (wrap64 (hiU P) + wrap64 (hiU R)))) := by
  rw [hi_signed hP, hi_signed hR, hi_signed hS]
  unfold I128 at *
  unfold loU
  simp only [IntKind.wrap_u64, wrap64_eq]
  omega
theorem walk_core (a b c s p q r t u v : Int) (ha : I64 a) (hb : I64 b) (hc : I64 c) (h1 : (loU a != IntKind.u64.wrap a) = false) (h2 : (wrap64 (hiU a) != a / 9223372036854775808) = false)
    (HA : Hid (∀ W, Calls Try.prog 12 #[.int .i64 b, .int .i64 c] W fun r W' => r = .returned (.tuple #[.int .i64 s, .int .i64 0]) ∧ W = W'))
    (H1 : Hid (∀ W, Calls Try.prog 30 #[.int .i64 a, .int .i64 b] W fun x W' => x = .returned (.tuple #[.int .i64 p, .int .u64 q]) ∧ Below W.heap.size W W'))
    (H2 : Hid (∀ W, Calls Try.prog 30 #[.int .i64 a, .int .i64 c] W fun x W' => x = .returned (.tuple #[.int .i64 r, .int .u64 t]) ∧ Below W.heap.size W W'))
    (H3 : Hid (∀ W, Calls Try.prog 30 #[.int .i64 a, .int .i64 s] W fun x W' => x = .returned (.tuple #[.int .i64 u, .int .u64 v]) ∧ Below W.heap.size W W'))
    (hv : (v == IntKind.u64.wrap (q + t)) = true)
    (hu : (IntKind.u64.wrap (q + t) < q ∧ (u == wrap64 (wrap64 (p + r) + 1)) = true) ∨ (¬ IntKind.u64.wrap (q + t) < q ∧ (u == wrap64 (wrap64 (p + r))) = true)) (w : World) :
    Calls Try.prog 7 #[.int .i64 a, .int .i64 b, .int .i64 c] w fun e w' => e = .returned (.bool true) ∧ Below w.heap.size w w' := by
  rcases hu with ⟨hu1, hu2⟩ | ⟨hu1, hu2⟩ <;>
  · go_enter Try.func7, Try.ntmps7
    go_wp2_with fail
    refine (live_yes _).mono ?_
    rintro _ w1 ⟨rfl, hb1⟩
    go_wp2_with fail
    refine (fix_Wide _ _ ha (by decide) _).mono ?_
    rintro _ w2 ⟨rfl, hb2⟩
    go_wp2_with fail
    refine (HA.out _).mono ?_
    rintro _ _ ⟨rfl, rfl⟩
    go_wp2_with fail
    refine (H1.out _).mono ?_
    rintro _ w3 ⟨rfl, hb3⟩
    go_wp2_with fail
    refine (H2.out _).mono ?_
    rintro _ w4 ⟨rfl, hb4⟩
    go_wp2_with fail
    refine (H3.out _).mono ?_
    rintro _ w5 ⟨rfl, hb5⟩
    go_wp2_with fail
    go_ret
    have k2 := hb1.trans (hb2.mono hb1.size)
    have k3 := k2.trans (hb3.mono k2.size)
    have k4 := k3.trans (hb4.mono k3.size)
    exact ⟨rfl, k4.trans (hb5.mono k4.size)⟩
theorem walk (a b c : Int) (ha : I64 a) (hb : I64 b) (hc : I64 c) (w : World) :
    Calls Try.prog 7 #[.int .i64 a, .int .i64 b, .int .i64 c] w fun e w' => e = .returned (.bool true) ∧ Below w.heap.size w w' := by
  obtain ⟨o1, o2⟩ := wide_one ha
  have h1 : (loU a != IntKind.u64.wrap a) = false := by simpa using o1
  have h2 : (wrap64 (hiU a) != a / 9223372036854775808) = false := by simpa using o2
  clear o1 o2
  by_cases hs : I64 (b + c)
  · obtain ⟨e1, e2⟩ := wide_sum (a * b) (a * c) (i128_mul ha hb) (i128_mul ha hc) (by rw [← Int.mul_add]; exact i128_mul ha hs)
    rw [← Int.mul_add] at e1 e2
    refine walk_core a b c (b + c) (wrap64 (hiU (a * b))) (loU (a * b)) (wrap64 (hiU (a * c))) (loU (a * c)) (wrap64 (hiU (a * (b + c)))) (loU (a * (b + c))) ha hb hc h1 h2
      (hid fun W => ?_) (hid fun W => fix_Wide a b ha hb W) (hid fun W => fix_Wide a c ha hc W) (hid fun W => fix_Wide a (b + c) ha hs W) (by rw [e1]; simp) ?_ w
    · have := fix_Add b c hb hc W
      rw [ckV_in hs, ckE_in hs] at this
      exact this
    · rcases e2 with ⟨x, y⟩ | ⟨x, y⟩
      · left; exact ⟨x, by rw [y]; simp⟩
      · right; exact ⟨x, by rw [y, I64.wrap_in (I64.wrap _)]; simp⟩
  · have hA := fun W => fix_Add b c hb hc W
    rw [ckV_out hs, ckE_out hs] at hA
    have HA := hid hA
    clear hA
    go_enter Try.func7, Try.ntmps7
    go_wp2_with fail
    refine (live_yes _).mono ?_
    rintro _ w1 ⟨rfl, hb1⟩
    go_wp2_with fail
    refine (fix_Wide _ _ ha (by decide) _).mono ?_
    rintro _ w2 ⟨rfl, hb2⟩
    go_wp2_with fail
    refine (HA.out _).mono ?_
    rintro _ _ ⟨rfl, rfl⟩
    go_wp2_with fail
    go_ret
    exact ⟨rfl, hb1.trans (hb2.mono hb1.size)⟩
theorem law_types : ∀ t ∈ Try.f7.params.toList, Try.prog.readableRec t = true ∧ t < Try.prog.types.size := by
  have h : (Try.f7.params.toList.all fun t => Try.prog.readableRec t && decide (t < Try.prog.types.size)) = true := by kernel_rfl
  intro t ht
  simpa using List.all_eq_true.1 h t ht
set_option maxRecDepth 100000 in
theorem lifted (os : Os) (started : os.Started) (H : Type) (enc : TypeId × Value → H) :
    ReturnsInHanded {} Try.checked os 7 .any (Rows.fixWideSpec.pre6 enc Try.prog Try.f7 Rows.fixWideRow.domain false) (Rows.fixWideSpec.post enc Try.prog Try.f7 false true false false) := by
  refine returnsInHanded_of_change (C := Try.checked) own started (by kernel_rfl) Try.func7
    (ChangeSpec.witness6 (enc := enc) (C := Try.checked) false ⟨#[], #[.int .i64 0, .int .i64 0, .int .i64 0], []⟩ 8 (by kernel_rfl) (by kernel_rfl) (by kernel_rfl) (by kernel_rfl)) ?_
  intro W base args ds gs before hval0 hW hcnd _
  have hval : ∀ (j : Nat) t v, Try.f7.params[j]? = some t → args[j]? = some v → Value.okWide Try.prog W .any base t v := hval0
  have hW' := hW
  obtain ⟨p, q, hA0, hV, rfl, hfz, hnd⟩ := hW
  have hA : DataW.TrodAll enc Try.prog W 0 (fun _ => true) true Try.f7.params.toList args.toList ds p := hA0
  rw [Try.params7] at hA hval
  obtain ⟨v0, vs0, d0, ds0, p0, q0, hargs, rfl, rfl, h0, r0⟩ := trodAll_cons hA
  obtain ⟨v1, vs1, d1, ds1, p1, q1, rfl, rfl, rfl, h1, r1⟩ := trodAll_cons r0
  obtain ⟨v2, vs2, d2, ds2, p2, q2, rfl, rfl, rfl, h2, r2⟩ := trodAll_cons r1
  obtain ⟨rfl, rfl, rfl⟩ := trodAll_nil r2
  obtain rfl : args = #[v0, v1, v2] := by cases args; simp_all
  obtain ⟨rfl, rfl⟩ := trodVars_none hV
  obtain ⟨a, rfl, rfl, rfl, w0⟩ := open_int Try.underlying2 (hval 0 2 v0 rfl rfl) h0
  obtain ⟨b, rfl, rfl, rfl, w1⟩ := open_int Try.underlying2 (hval 1 2 v1 rfl rfl) h1
  obtain ⟨c, rfl, rfl, rfl, w2⟩ := open_int Try.underlying2 (hval 2 2 v2 rfl rfl) h2
  clear hA0 hval0
  refine (walk a b c (I64.of_wf w0) (I64.of_wf w1) (I64.of_wf w2) W).mono fun e W' ⟨he, hb⟩ => ?_
  subst he
  exact ⟨_, rfl, law_post laid (fun t ht => law_types t ht) rfl hW' ⟨rfl, rfl, rfl⟩ (by kernel_rfl) Try.underlying4 hb⟩

theorem over : Rows.fixWideRow.holds Try.pinned (OpenSpec.ofChange Rows.fixWideSpec) :=
  OpenClaim.holds_of_wide 7 Try.f7 rfl rfl rfl rfl rfl rfl rfl ⟨rfl, rfl, rfl, rfl, rfl⟩ rfl rfl rfl rfl rfl (by kernel_rfl) Try.func7 (by kernel_rfl)
    (of_decide_eq_true (by kernel_rfl)) (by unfold Func.isWrapper; first | (rw [if_pos (by decide +kernel)]; kernel_rfl) | (rw [if_neg (by decide +kernel)]; exact ⟨rfl, rfl⟩))
    (fun os started H enc _ => lifted os started H enc)

theorem proved : Rows.FixWideSaid := over
end Go.Proofs.Ytbfpdafncicgnaa.FixWide
