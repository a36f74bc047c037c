/-
  FixTimes answers true for every input. No condition.
-/
import Derived.Test.YtbfpdafncicgnaaRefD
import Derived.Test.YtbfpdafncicgnaaLaw
namespace Go.Proofs.Ytbfpdafncicgnaa.FixTimes
open Go.ChangeShapes Go.WideShapes Go.ChangeAt Go.RowKit
set_option maxHeartbeats 400000
set_option linter.unusedVariables false
/-- What a call of two numbers, of one, of two and the bits behind the point comes to, whatever the world. -/
def C2 (f : FuncId) (a b x e : Int) : Prop := ∀ W, Calls Try.prog f #[.int .i64 a, .int .i64 b] W fun r W' => r = .returned (.tuple #[.int .i64 x, .int .i64 e]) ∧ W = W'
def C1 (f : FuncId) (a x e : Int) : Prop := ∀ W, Calls Try.prog f #[.int .i64 a] W fun r W' => r = .returned (.tuple #[.int .i64 x, .int .i64 e]) ∧ W = W'
def C3 (f : FuncId) (a b m x e : Int) : Prop := ∀ W, Calls Try.prog f #[.int .i64 a, .int .i64 b, .int .i64 m] W fun r W' => r = .returned (.tuple #[.int .i64 x, .int .i64 e]) ∧ Below W.heap.size W W'
theorem C2.at' {f : FuncId} {a b x e : Int} (h : C2 f a b x e) (W : World) : Calls Try.prog f #[.int .i64 a, .int .i64 b] W fun r W' => r = .returned (.tuple #[.int .i64 x, .int .i64 e]) ∧ W = W' := h W
theorem C1.at' {f : FuncId} {a x e : Int} (h : C1 f a x e) (W : World) : Calls Try.prog f #[.int .i64 a] W fun r W' => r = .returned (.tuple #[.int .i64 x, .int .i64 e]) ∧ W = W' := h W
theorem C3.at' {f : FuncId} {a b m x e : Int} (h : C3 f a b m x e) (W : World) : Calls Try.prog f #[.int .i64 a, .int .i64 b, .int .i64 m] W fun r W' => r = .returned (.tuple #[.int .i64 x, .int .i64 e]) ∧ Below W.heap.size W W' := h W
/-- Both sides come to the same. -/
def B2 (f g : FuncId) (a b : Int) : Prop := ∃ x e, (∀ W, Calls Try.prog f #[.int .i64 a, .int .i64 b] W fun r W' => r = .returned (.tuple #[.int .i64 x, .int .i64 e]) ∧ Below W.heap.size W W') ∧ (∀ W, Calls Try.prog g #[.int .i64 a, .int .i64 b] W fun r W' => r = .returned (.tuple #[.int .i64 x, .int .i64 e]) ∧ Below W.heap.size W W')
def B3 (f g : FuncId) (a b m : Int) : Prop := ∃ x e, C3 f a b m x e ∧ C3 g a b m x e
theorem same_below {f : FuncId} {args : Array Value} {v : Value} {W : World} (h : Calls Try.prog f args W fun r W' => r = .returned v ∧ W = W') : Calls Try.prog f args W fun r W' => r = .returned v ∧ Below W.heap.size W W' :=
  h.mono fun _ _ ⟨he, hw⟩ => ⟨he, hw ▸ Below.refl _ _⟩
theorem mul_same (a b m : Int) (ha : I64 a) (hb : I64 b) : B3 22 23 a b m := by
  by_cases h : m < 0 ∨ 30 < m
  · exact ⟨0, 1, fun W => Mul_bad a b m h W, fun W => same_below (ref_Mul_bad a b m h W)⟩
  · obtain ⟨k, rfl⟩ := Int.eq_ofNat_of_zero_le (show 0 ≤ m by omega)
    exact ⟨_, _, fun W => fix_Mul a b k (by omega) ha hb W, fun W => same_below (ref_Mul a b k (by omega) ha hb W)⟩
theorem div_same (a b m : Int) (ha : I64 a) (hb : I64 b) : B3 24 25 a b m := by
  by_cases h : m < 0 ∨ 30 < m
  · exact ⟨0, 1, fun W => Div_bad a b m h W, fun W => same_below (ref_Div_bad a b m h W)⟩
  · by_cases h0 : b = 0
    · subst h0
      exact ⟨0, 1, fun W => Div_zero a m W, fun W => same_below (ref_Div_zero a m W)⟩
    · obtain ⟨k, rfl⟩ := Int.eq_ofNat_of_zero_le (show 0 ≤ m by omega)
      exact ⟨_, _, fun W => fix_Div a b k (by omega) ha hb h0 W, fun W => ref_Div a b k (by omega) ha hb h0 W⟩
theorem quot_same (a b : Int) (ha : I64 a) (hb : I64 b) : B2 26 27 a b := by
  by_cases h0 : b = 0
  · subst h0
    exact ⟨0, 1, fun W => Quot_zero a W, fun W => same_below (ref_Quot_zero a W)⟩
  · exact ⟨_, _, fun W => fix_Quot a b ha hb h0 W, fun W => ref_Quot a b ha hb h0 W⟩
theorem shift_same (a m : Int) (ha : I64 a) : B2 28 29 a m := by
  by_cases h : m < 0 ∨ 62 < m
  · exact ⟨0, 1, fun W => same_below (Shift_bad a m h W), fun W => same_below (ref_Shift_bad a m h W)⟩
  · obtain ⟨k, rfl⟩ := Int.eq_ofNat_of_zero_le (show 0 ≤ m by omega)
    exact ⟨_, _, fun W => same_below (fix_Shift a k (by omega) ha W), fun W => same_below (ref_Shift a k (by omega) ha W)⟩
theorem walk (a b m : Int) (ha : I64 a) (hb : I64 b) (hm : I64 m) (w : World) :
    Calls Try.prog 4 #[.int .i64 a, .int .i64 b, .int .i64 m] w fun e w' => e = .returned (.bool true) ∧ Below w.heap.size w w' := by
  obtain ⟨x1, e1, M1, M2⟩ := mul_same a b m ha hb
  obtain ⟨x2, e2, D1, D2⟩ := div_same a b m ha hb
  obtain ⟨x3, e3, q1, q2⟩ := quot_same a b ha hb
  obtain ⟨x4, e4, s1, s2⟩ := shift_same a m ha
  have Q1 := hid q1
  have Q2 := hid q2
  have S1 := hid s1
  have S2 := hid s2
  clear q1 q2 s1 s2
  go_enter Try.func4, Try.ntmps4
  go_wp2_with fail
  refine (live_yes _).mono ?_
  rintro _ w1 ⟨rfl, hb1⟩
  go_wp2_with fail
  refine (M1.at' _).mono ?_
  rintro _ w2 ⟨rfl, hb2⟩
  go_wp2_with fail
  refine (M2.at' _).mono ?_
  rintro _ w3 ⟨rfl, hb3⟩
  go_wp2_with fail
  refine (D1.at' _).mono ?_
  rintro _ w4 ⟨rfl, hb4⟩
  go_wp2_with fail
  refine (D2.at' _).mono ?_
  rintro _ w5 ⟨rfl, hb5⟩
  go_wp2_with fail
  refine (Q1.out _).mono ?_
  rintro _ w6 ⟨rfl, hb6⟩
  go_wp2_with fail
  refine (Q2.out _).mono ?_
  rintro _ w7 ⟨rfl, hb7⟩
  go_wp2_with fail
  refine (S1.out _).mono ?_
  rintro _ w8 ⟨rfl, hb8⟩
  go_wp2_with fail
  refine (S2.out _).mono ?_
  rintro _ w9 ⟨rfl, hb9⟩
  go_wp2_with fail
  refine (fix_Wide a b ha hb _).mono ?_
  rintro _ w10 ⟨rfl, hb10⟩
  go_wp2_with fail
  refine (ref_Wide a b ha hb _).mono ?_
  rintro _ _ ⟨rfl, rfl⟩
  go_wp2_with fail
  go_ret
  have k2 := hb1.trans (hb2.mono hb1.size)
  have k3 := k2.trans (hb3.mono k2.size)
  have k4 := k3.trans (hb4.mono k3.size)
  have k5 := k4.trans (hb5.mono k4.size)
  have k6 := k5.trans (hb6.mono k5.size)
  have k7 := k6.trans (hb7.mono k6.size)
  have k8 := k7.trans (hb8.mono k7.size)
  have k9 := k8.trans (hb9.mono k8.size)
  exact ⟨rfl, k9.trans (hb10.mono k9.size)⟩
theorem law_types : ∀ t ∈ Try.f4.params.toList, Try.prog.readableRec t = true ∧ t < Try.prog.types.size := by
  have h : (Try.f4.params.toList.all fun t => Try.prog.readableRec t && decide (t < Try.prog.types.size)) = true := by kernel_rfl
  intro t ht
  simpa using List.all_eq_true.1 h t ht
set_option maxRecDepth 100000 in
theorem lifted (os : Os) (started : os.Started) (H : Type) (enc : TypeId × Value → H) :
    ReturnsInHanded {} Try.checked os 4 .any (Rows.fixTimesSpec.pre6 enc Try.prog Try.f4 Rows.fixTimesRow.domain false) (Rows.fixTimesSpec.post enc Try.prog Try.f4 false true false false) := by
  refine returnsInHanded_of_change (C := Try.checked) own started (by kernel_rfl) Try.func4
    (ChangeSpec.witness6 (enc := enc) (C := Try.checked) false ⟨#[], #[.int .i64 0, .int .i64 0, .int .i64 0], []⟩ 8 (by kernel_rfl) (by kernel_rfl) (by kernel_rfl) (by kernel_rfl)) ?_
  intro W base args ds gs before hval0 hW hcnd _
  have hval : ∀ (j : Nat) t v, Try.f4.params[j]? = some t → args[j]? = some v → Value.okWide Try.prog W .any base t v := hval0
  have hW' := hW
  obtain ⟨p, q, hA0, hV, rfl, hfz, hnd⟩ := hW
  have hA : DataW.TrodAll enc Try.prog W 0 (fun _ => true) true Try.f4.params.toList args.toList ds p := hA0
  rw [Try.params4] at hA hval
  obtain ⟨v0, vs0, d0, ds0, p0, q0, hargs, rfl, rfl, h0, r0⟩ := trodAll_cons hA
  obtain ⟨v1, vs1, d1, ds1, p1, q1, rfl, rfl, rfl, h1, r1⟩ := trodAll_cons r0
  obtain ⟨v2, vs2, d2, ds2, p2, q2, rfl, rfl, rfl, h2, r2⟩ := trodAll_cons r1
  obtain ⟨rfl, rfl, rfl⟩ := trodAll_nil r2
  obtain rfl : args = #[v0, v1, v2] := by cases args; simp_all
  obtain ⟨rfl, rfl⟩ := trodVars_none hV
  obtain ⟨a, rfl, rfl, rfl, w0⟩ := open_int Try.underlying2 (hval 0 2 v0 rfl rfl) h0
  obtain ⟨b, rfl, rfl, rfl, w1⟩ := open_int Try.underlying2 (hval 1 2 v1 rfl rfl) h1
  obtain ⟨m, rfl, rfl, rfl, w2⟩ := open_int Try.underlying3 (hval 2 3 v2 rfl rfl) h2
  clear hA0 hval0
  refine (walk a b m (I64.of_wf w0) (I64.of_wf w1) (I64.of_wf w2) W).mono fun e W' ⟨he, hb⟩ => ?_
  subst he
  exact ⟨_, rfl, law_post laid (fun t ht => law_types t ht) rfl hW' ⟨rfl, rfl, rfl⟩ (by kernel_rfl) Try.underlying4 hb⟩

theorem over : Rows.fixTimesRow.holds Try.pinned (OpenSpec.ofChange Rows.fixTimesSpec) :=
  OpenClaim.holds_of_wide 4 Try.f4 rfl rfl rfl rfl rfl rfl rfl ⟨rfl, rfl, rfl, rfl, rfl⟩ rfl rfl rfl rfl rfl (by kernel_rfl) Try.func4 (by kernel_rfl)
    (of_decide_eq_true (by kernel_rfl)) (by unfold Func.isWrapper; first | (rw [if_pos (by decide +kernel)]; kernel_rfl) | (rw [if_neg (by decide +kernel)]; exact ⟨rfl, rfl⟩))
    (fun os started H enc _ => lifted os started H enc)

theorem proved : Rows.FixTimesSaid := over
end Go.Proofs.Ytbfpdafncicgnaa.FixTimes
