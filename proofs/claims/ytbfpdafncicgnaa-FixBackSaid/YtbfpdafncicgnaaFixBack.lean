/-
  FixBack answers true for every input. No condition.
-/
import Derived.Test.YtbfpdafncicgnaaFixC
import Derived.Test.YtbfpdafncicgnaaLaw
namespace Go.Proofs.Ytbfpdafncicgnaa.FixBack
open Go.ChangeShapes Go.WideShapes Go.ChangeAt Go.RowKit
set_option maxHeartbeats 400000
set_option linter.unusedVariables false
/-- What a call of two numbers, of one, of two and the bits behind the point comes to, whatever the world. -/
def C2 (f : FuncId) (a b x e : Int) : Prop := ∀ W, Calls Try.prog f #[.int .i64 a, .int .i64 b] W fun r W' => r = .returned (.tuple #[.int .i64 x, .int .i64 e]) ∧ W = W'
def C1 (f : FuncId) (a x e : Int) : Prop := ∀ W, Calls Try.prog f #[.int .i64 a] W fun r W' => r = .returned (.tuple #[.int .i64 x, .int .i64 e]) ∧ W = W'
def C3 (f : FuncId) (a b m x e : Int) : Prop := ∀ W, Calls Try.prog f #[.int .i64 a, .int .i64 b, .int .i64 m] W fun r W' => r = .returned (.tuple #[.int .i64 x, .int .i64 e]) ∧ Below W.heap.size W W'
theorem C2.at' {f : FuncId} {a b x e : Int} (h : C2 f a b x e) (W : World) : Calls Try.prog f #[.int .i64 a, .int .i64 b] W fun r W' => r = .returned (.tuple #[.int .i64 x, .int .i64 e]) ∧ W = W' := h W
theorem C1.at' {f : FuncId} {a x e : Int} (h : C1 f a x e) (W : World) : Calls Try.prog f #[.int .i64 a] W fun r W' => r = .returned (.tuple #[.int .i64 x, .int .i64 e]) ∧ W = W' := h W
theorem C3.at' {f : FuncId} {a b m x e : Int} (h : C3 f a b m x e) (W : World) : Calls Try.prog f #[.int .i64 a, .int .i64 b, .int .i64 m] W fun r W' => r = .returned (.tuple #[.int .i64 x, .int .i64 e]) ∧ Below W.heap.size W W' := h W
theorem walk_core (a b m s d n x e : Int)
    (P1 : (C2 12 a b s 0 ∧ C2 14 s b a 0 ∧ C2 12 b a s 0) ∨ C2 12 a b 0 2)
    (P2 : (C2 14 a b d 0 ∧ C2 12 d b a 0) ∨ C2 14 a b 0 2)
    (M1 : C3 22 a b m x e) (M2 : C3 22 b a m x e)
    (P3 : (C1 16 a n 0 ∧ C2 12 a n 0 0) ∨ (C1 16 a 0 2 ∧ (a == -9223372036854775808) = true)) (w : World) :
    Calls Try.prog 5 #[.int .i64 a, .int .i64 b, .int .i64 m] w fun e w' => e = .returned (.bool true) ∧ Below w.heap.size w w' := by
  rcases P1 with ⟨A1, A2, A3⟩ | A1 <;> rcases P2 with ⟨B1, B2⟩ | B1 <;> rcases P3 with ⟨D1, D2⟩ | ⟨D1, D2⟩ <;>
  · go_enter Try.func5, Try.ntmps5
    go_wp2_with fail
    refine (live_yes _).mono ?_
    rintro _ w1 ⟨rfl, hb1⟩
    go_wp2_with (first | ((with_reducible refine (A1.at' _).mono ?_); rintro _ _ ⟨rfl, rfl⟩) | ((with_reducible refine (A2.at' _).mono ?_); rintro _ _ ⟨rfl, rfl⟩) | ((with_reducible refine (A3.at' _).mono ?_); rintro _ _ ⟨rfl, rfl⟩) | ((with_reducible refine (B1.at' _).mono ?_); rintro _ _ ⟨rfl, rfl⟩) | ((with_reducible refine (B2.at' _).mono ?_); rintro _ _ ⟨rfl, rfl⟩) | ((with_reducible refine (M1.at' _).mono ?_); rintro _ w2 ⟨rfl, hb2⟩) | ((with_reducible refine (M2.at' _).mono ?_); rintro _ w3 ⟨rfl, hb3⟩) | ((with_reducible refine (D1.at' _).mono ?_); rintro _ _ ⟨rfl, rfl⟩) | ((with_reducible refine (D2.at' _).mono ?_); rintro _ _ ⟨rfl, rfl⟩))
    go_ret
    have k2 := hb1.trans (hb2.mono hb1.size)
    exact ⟨rfl, k2.trans (hb3.mono k2.size)⟩
theorem mul_both (a b m : Int) (ha : I64 a) (hb : I64 b) (hm : I64 m) : ∃ x e, C3 22 a b m x e ∧ C3 22 b a m x e := by
  by_cases h : m < 0 ∨ 30 < m
  · exact ⟨0, 1, fun W => Mul_bad a b m h W, fun W => Mul_bad b a m h W⟩
  · obtain ⟨k, rfl⟩ := Int.eq_ofNat_of_zero_le (show 0 ≤ m by omega)
    refine ⟨ckV (a * b / 2 ^ k), ckE (a * b / 2 ^ k), fun W => fix_Mul a b k (by omega) ha hb W, fun W => ?_⟩
    rw [Int.mul_comm a b]
    exact fix_Mul b a k (by omega) hb ha W
theorem walk (a b m : Int) (ha : I64 a) (hb : I64 b) (hm : I64 m) (w : World) :
    Calls Try.prog 5 #[.int .i64 a, .int .i64 b, .int .i64 m] w fun e w' => e = .returned (.bool true) ∧ Below w.heap.size w w' := by
  obtain ⟨x, e, M1, M2⟩ := mul_both a b m ha hb hm
  have add : ∀ {p q}, I64 p → I64 q → I64 (p + q) → C2 12 p q (p + q) 0 := fun hp hq h W => by
    have := fix_Add _ _ hp hq W
    rw [ckV_in h, ckE_in h] at this
    exact this
  have sub : ∀ {p q}, I64 p → I64 q → I64 (p - q) → C2 14 p q (p - q) 0 := fun hp hq h W => by
    have := fix_Sub _ _ hp hq W
    rw [ckV_in h, ckE_in h] at this
    exact this
  refine walk_core a b m (a + b) (a - b) (-a) x e ?_ ?_ M1 M2 ?_ w
  · by_cases h : I64 (a + b)
    · left
      refine ⟨add ha hb h, ?_, ?_⟩
      · have := sub h hb (by rw [show a + b - b = a by omega]; exact ha)
        rw [show a + b - b = a by omega] at this
        exact this
      · have := add hb ha (by rw [Int.add_comm]; exact h)
        rw [Int.add_comm] at this
        exact this
    · right
      intro W
      have := fix_Add a b ha hb W
      rw [ckV_out h, ckE_out h] at this
      exact this
  · by_cases h : I64 (a - b)
    · left
      refine ⟨sub ha hb h, ?_⟩
      have := add h hb (by rw [show a - b + b = a by omega]; exact ha)
      rw [show a - b + b = a by omega] at this
      exact this
    · right
      intro W
      have := fix_Sub a b ha hb W
      rw [ckV_out h, ckE_out h] at this
      exact this
  · by_cases h : I64 (-a)
    · left
      refine ⟨fun W => ?_, ?_⟩
      · have := fix_Neg a ha W
        rw [ckV_in h, ckE_in h] at this
        exact this
      · have := add ha h (by rw [show a + -a = 0 by omega]; decide)
        rw [show a + -a = 0 by omega] at this
        exact this
    · right
      refine ⟨fun W => ?_, ?_⟩
      · have := fix_Neg a ha W
        rw [ckV_out h, ckE_out h] at this
        exact this
      · unfold I64 at *
        simp
        omega
theorem law_types : ∀ t ∈ Try.f5.params.toList, Try.prog.readableRec t = true ∧ t < Try.prog.types.size := by
  have h : (Try.f5.params.toList.all fun t => Try.prog.readableRec t && decide (t < Try.prog.types.size)) = true := by kernel_rfl
  intro t ht
  simpa using List.all_eq_true.1 h t ht
set_option maxRecDepth 100000 in
theorem lifted (os : Os) (started : os.Started) (H : Type) (enc : TypeId × Value → H) :
    ReturnsInHanded {} Try.checked os 5 .any (Rows.fixBackSpec.pre6 enc Try.prog Try.f5 Rows.fixBackRow.domain false) (Rows.fixBackSpec.post enc Try.prog Try.f5 false true false false) := by
  refine returnsInHanded_of_change (C := Try.checked) own started (by kernel_rfl) Try.func5
    (ChangeSpec.witness6 (enc := enc) (C := Try.checked) false ⟨#[], #[.int .i64 0, .int .i64 0, .int .i64 0], []⟩ 8 (by kernel_rfl) (by kernel_rfl) (by kernel_rfl) (by kernel_rfl)) ?_
  intro W base args ds gs before hval0 hW hcnd _
  have hval : ∀ (j : Nat) t v, Try.f5.params[j]? = some t → args[j]? = some v → Value.okWide Try.prog W .any base t v := hval0
  have hW' := hW
  obtain ⟨p, q, hA0, hV, rfl, hfz, hnd⟩ := hW
  have hA : DataW.TrodAll enc Try.prog W 0 (fun _ => true) true Try.f5.params.toList args.toList ds p := hA0
  rw [Try.params5] at hA hval
  obtain ⟨v0, vs0, d0, ds0, p0, q0, hargs, rfl, rfl, h0, r0⟩ := trodAll_cons hA
  obtain ⟨v1, vs1, d1, ds1, p1, q1, rfl, rfl, rfl, h1, r1⟩ := trodAll_cons r0
  obtain ⟨v2, vs2, d2, ds2, p2, q2, rfl, rfl, rfl, h2, r2⟩ := trodAll_cons r1
  obtain ⟨rfl, rfl, rfl⟩ := trodAll_nil r2
  obtain rfl : args = #[v0, v1, v2] := by cases args; simp_all
  obtain ⟨rfl, rfl⟩ := trodVars_none hV
  obtain ⟨a, rfl, rfl, rfl, w0⟩ := open_int Try.underlying2 (hval 0 2 v0 rfl rfl) h0
  obtain ⟨b, rfl, rfl, rfl, w1⟩ := open_int Try.underlying2 (hval 1 2 v1 rfl rfl) h1
  obtain ⟨m, rfl, rfl, rfl, w2⟩ := open_int Try.underlying3 (hval 2 3 v2 rfl rfl) h2
  clear hA0 hval0
  refine (walk a b m (I64.of_wf w0) (I64.of_wf w1) (I64.of_wf w2) W).mono fun e W' ⟨he, hb⟩ => ?_
  subst he
  exact ⟨_, rfl, law_post laid (fun t ht => law_types t ht) rfl hW' ⟨rfl, rfl, rfl⟩ (by kernel_rfl) Try.underlying4 hb⟩

theorem over : Rows.fixBackRow.holds Try.pinned (OpenSpec.ofChange Rows.fixBackSpec) :=
  OpenClaim.holds_of_wide 5 Try.f5 rfl rfl rfl rfl rfl rfl rfl ⟨rfl, rfl, rfl, rfl, rfl⟩ rfl rfl rfl rfl rfl (by kernel_rfl) Try.func5 (by kernel_rfl)
    (of_decide_eq_true (by kernel_rfl)) (by unfold Func.isWrapper; first | (rw [if_pos (by decide +kernel)]; kernel_rfl) | (rw [if_neg (by decide +kernel)]; exact ⟨rfl, rfl⟩))
    (fun os started H enc _ => lifted os started H enc)

theorem proved : Rows.FixBackSaid := over
end Go.Proofs.Ytbfpdafncicgnaa.FixBack
