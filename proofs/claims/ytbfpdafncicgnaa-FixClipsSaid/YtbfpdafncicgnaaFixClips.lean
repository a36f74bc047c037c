/-
  FixClips answers true for every input. No condition.
-/
import Derived.Test.YtbfpdafncicgnaaFixC
import Derived.Test.YtbfpdafncicgnaaLaw
namespace Go.Proofs.Ytbfpdafncicgnaa.FixClips
open Go.ChangeShapes Go.WideShapes Go.ChangeAt Go.RowKit
set_option maxHeartbeats 400000
set_option linter.unusedVariables false
theorem clip_facts {a b : Int} (h : 0 ≤ b) : clipE b = 0 ∧ -b ≤ clipV a b ∧ clipV a b ≤ b ∧ clipV (clipV a b) b = clipV a b ∧ (clipV a b = a ↔ -b ≤ a ∧ a ≤ b) := by
  have e : clipV a b = if a < -b then -b else if b < a then b else a := by unfold clipV; rw [if_neg (by omega)]
  refine ⟨by unfold clipE; rw [if_neg (by omega)], ?_, ?_, ?_, ?_⟩
  · rw [e]; repeat (first | omega | split)
  · rw [e]; repeat (first | omega | split)
  · generalize hx : clipV a b = x at *
    have h1 : -b ≤ x ∧ x ≤ b := by rw [e]; constructor <;> repeat (first | omega | split)
    unfold clipV
    repeat (first | omega | split)
  · rw [e]; repeat (first | omega | split)
theorem abs_in {x : Int} (h : I64 x) (hx : x ≠ -9223372036854775808) : ckE (absI x) = 0 ∧ ckV (absI x) = absI x := by
  have : I64 (absI x) := by unfold I64 absI at *; split <;> omega
  exact ⟨ckE_in this, ckV_in this⟩
theorem abs_out : ckE (absI (-9223372036854775808)) = 2 := by decide

theorem walk_core (a b x s v e : Int) (ha : I64 a) (hb : I64 b) (hx : I64 x) (h0 : 0 ≤ b) (h1 : clipE b = 0) (h2 : clipV a b = x) (h3 : clipV x b = x) (hs : s ≤ b)
    (hA : ∀ W, Calls Try.prog 18 #[.int .i64 x] W fun r W' => r = .returned (.tuple #[.int .i64 s, .int .i64 0]) ∧ W = W')
    (hB : ∀ W, Calls Try.prog 18 #[.int .i64 a] W fun r W' => r = .returned (.tuple #[.int .i64 v, .int .i64 e]) ∧ W = W')
    (he : ((e == 2) = true ∧ (a == -9223372036854775808) = true) ∨ ((e == 2) = false ∧ (a == -9223372036854775808) = false))
    (hc : ((x == a) = true ∧ -b ≤ a ∧ a ≤ b) ∨ ((x == a) = false ∧ a < -b) ∨ ((x == a) = false ∧ b < a)) (w : World) :
    Calls Try.prog 8 #[.int .i64 a, .int .i64 b] w fun e w' => e = .returned (.bool true) ∧ Below w.heap.size w w' := by
  have HA := hid hA
  have HB := hid hB
  have b1 := hb.2
  clear hA hB
  rcases he with ⟨he1, he2⟩ | ⟨he1, he2⟩ <;> rcases hc with ⟨hc, hc1, hc2⟩ | ⟨hc, hc1⟩ | ⟨hc, hc1⟩ <;>
  · go_enter Try.func8, Try.ntmps8
    go_wp2_with fail
    refine (live_yes _).mono ?_
    rintro _ w1 ⟨rfl, hb1⟩
    go_wp2_with fail
    refine (fix_Clip _ _ ha hb _).mono ?_
    rintro _ w2 ⟨rfl, rfl⟩
    go_wp2_with fail
    refine (fix_Clip _ _ hx hb _).mono ?_
    rintro _ w2 ⟨rfl, rfl⟩
    go_wp2_with fail
    refine (HA.out _).mono ?_
    rintro _ w2 ⟨rfl, rfl⟩
    go_wp2_with fail
    refine (HB.out _).mono ?_
    rintro _ w2 ⟨rfl, rfl⟩
    go_wp2_with fail
    go_ret
    first | exact ⟨rfl, hb1⟩ | exact ⟨ret_true (by simp; omega), hb1⟩
theorem walk (a b : Int) (ha : I64 a) (hb : I64 b) (w : World) :
    Calls Try.prog 8 #[.int .i64 a, .int .i64 b] w fun e w' => e = .returned (.bool true) ∧ Below w.heap.size w w' := by
  by_cases h0 : 0 ≤ b
  · obtain ⟨f1, f2, f3, f4, f5⟩ := clip_facts (a := a) h0
    have hx : I64 (clipV a b) := by unfold I64 at *; omega
    have fx := abs_in hx (by unfold I64 at hb; omega)
    refine walk_core a b (clipV a b) (absI (clipV a b)) _ _ ha hb hx h0 f1 rfl f4 (by unfold absI; split <;> omega) (fun W => ?_) (fun W => fix_Abs a ha W) ?_ ?_ w
    · have := fix_Abs _ hx W
      rw [fx.1, fx.2] at this
      exact this
    · by_cases hm : a = -9223372036854775808
      · left; subst hm; exact ⟨by decide, by decide⟩
      · right; rw [(abs_in ha hm).1]; exact ⟨by decide, by simpa using hm⟩
    · by_cases hi : -b ≤ a ∧ a ≤ b
      · left; exact ⟨by simpa using f5.2 hi, hi⟩
      · right
        have : (clipV a b == a) = false := by simpa using fun h => hi (f5.1 h)
        rcases Int.lt_or_le a (-b) with h | h
        · exact Or.inl ⟨this, h⟩
        · exact Or.inr ⟨this, by omega⟩
  · have e1 : clipE b = 1 := by unfold clipE; rw [if_pos (by omega)]
    have e2 : clipV a b = 0 := by unfold clipV; rw [if_pos (by omega)]
    go_enter Try.func8, Try.ntmps8
    go_wp2_with fail
    refine (live_yes _).mono ?_
    rintro _ w1 ⟨rfl, hb1⟩
    go_wp2_with fail
    refine (fix_Clip _ _ ha hb _).mono ?_
    rintro _ w2 ⟨rfl, rfl⟩
    go_wp2_with fail
    go_ret
    exact ⟨rfl, hb1⟩
theorem law_types : ∀ t ∈ Try.f8.params.toList, Try.prog.readableRec t = true ∧ t < Try.prog.types.size := by
  have h : (Try.f8.params.toList.all fun t => Try.prog.readableRec t && decide (t < Try.prog.types.size)) = true := by kernel_rfl
  intro t ht
  simpa using List.all_eq_true.1 h t ht
set_option maxRecDepth 100000 in
theorem lifted (os : Os) (started : os.Started) (H : Type) (enc : TypeId × Value → H) :
    ReturnsInHanded {} Try.checked os 8 .any (Rows.fixClipsSpec.pre6 enc Try.prog Try.f8 Rows.fixClipsRow.domain false) (Rows.fixClipsSpec.post enc Try.prog Try.f8 false true false false) := by
  refine returnsInHanded_of_change (C := Try.checked) own started (by kernel_rfl) Try.func8
    (ChangeSpec.witness6 (enc := enc) (C := Try.checked) false ⟨#[], #[.int .i64 0, .int .i64 0], []⟩ 8 (by kernel_rfl) (by kernel_rfl) (by kernel_rfl) (by kernel_rfl)) ?_
  intro W base args ds gs before hval0 hW hcnd _
  have hval : ∀ (j : Nat) t v, Try.f8.params[j]? = some t → args[j]? = some v → Value.okWide Try.prog W .any base t v := hval0
  have hW' := hW
  obtain ⟨p, q, hA0, hV, rfl, hfz, hnd⟩ := hW
  have hA : DataW.TrodAll enc Try.prog W 0 (fun _ => true) true Try.f8.params.toList args.toList ds p := hA0
  rw [Try.params8] at hA hval
  obtain ⟨v0, vs0, d0, ds0, p0, q0, hargs, rfl, rfl, h0, r0⟩ := trodAll_cons hA
  obtain ⟨v1, vs1, d1, ds1, p1, q1, rfl, rfl, rfl, h1, r1⟩ := trodAll_cons r0
  obtain ⟨rfl, rfl, rfl⟩ := trodAll_nil r1
  obtain rfl : args = #[v0, v1] := by cases args; simp_all
  obtain ⟨rfl, rfl⟩ := trodVars_none hV
  obtain ⟨a, rfl, rfl, rfl, w0⟩ := open_int Try.underlying2 (hval 0 2 v0 rfl rfl) h0
  obtain ⟨b, rfl, rfl, rfl, w1⟩ := open_int Try.underlying2 (hval 1 2 v1 rfl rfl) h1
  clear hA0 hval0
  refine (walk a b (I64.of_wf w0) (I64.of_wf w1) W).mono fun e W' ⟨he, hb⟩ => ?_
  subst he
  exact ⟨_, rfl, law_post laid (fun t ht => law_types t ht) rfl hW' ⟨rfl, rfl, rfl⟩ (by kernel_rfl) Try.underlying4 hb⟩

theorem over : Rows.fixClipsRow.holds Try.pinned (OpenSpec.ofChange Rows.fixClipsSpec) :=
  OpenClaim.holds_of_wide 8 Try.f8 rfl rfl rfl rfl rfl rfl rfl ⟨rfl, rfl, rfl, rfl, rfl⟩ rfl rfl rfl rfl rfl (by kernel_rfl) Try.func8 (by kernel_rfl)
    (of_decide_eq_true (by kernel_rfl)) (by unfold Func.isWrapper; first | (rw [if_pos (by decide +kernel)]; kernel_rfl) | (rw [if_neg (by decide +kernel)]; exact ⟨rfl, rfl⟩))
    (fun os started H enc _ => lifted os started H enc)

theorem proved : Rows.FixClipsSaid := over
end Go.Proofs.Ytbfpdafncicgnaa.FixClips
