
import Derived.Test.YtnokomlekndgfaaProg
import Derived.Test.YtnokomlekndgfaaMath
import Derived.WalkSpells
import Derived.WalkLawsBesides
namespace Go.Proofs.Ytnokomlekndgfaa
open Go.RowKit
set_option maxHeartbeats 400000
set_option maxRecDepth 100000
set_option linter.unusedVariables false
theorem fix_Add (a b : Int) (ha : I64 a) (hb : I64 b) (w : World) :
    Calls Try.prog 49 #[.int .i64 a, .int .i64 b] w fun e w' => e = .returned (.tuple #[.int .i64 (ckV (a + b)), .int .i64 (ckE (a + b))]) ∧ w = w' := by
  go_enter Try.func49, Try.ntmps49
  go_wp2
  · go_ret2; exact ⟨ck_out2 (add_w1 ha hb (by assumption)), rfl⟩
  · go_ret2; exact ⟨ck_wrap2 (add_w2 ha hb (by assumption)), rfl⟩
theorem fix_Sub (a b : Int) (ha : I64 a) (hb : I64 b) (w : World) :
    Calls Try.prog 36 #[.int .i64 a, .int .i64 b] w fun e w' => e = .returned (.tuple #[.int .i64 (ckV (a - b)), .int .i64 (ckE (a - b))]) ∧ w = w' := by
  go_enter Try.func36, Try.ntmps36
  go_wp2
  · go_ret2; exact ⟨ck_out2 (sub_w1 ha hb (by assumption)), rfl⟩
  · go_ret2; exact ⟨ck_wrap2 (sub_w2 ha hb (by assumption)), rfl⟩
theorem ref_Sub (a b : Int) (ha : I64 a) (hb : I64 b) (w : World) :
    Calls Try.prog 31 #[.int .i64 a, .int .i64 b] w fun e w' => e = .returned (.tuple #[.int .i64 (ckV (a - b)), .int .i64 (ckE (a - b))]) ∧ w = w' := by
  unfold I64 at ha hb
  go_enter Try.func31, Try.ntmps31
  go_wp2
  all_goals
    go_ret2
    first
    | (refine ⟨ck_out2 ?_, rfl⟩; unfold I64; omega)
    | (refine ⟨ck_in2 ?_, rfl⟩; unfold I64; omega)
    | (refine ⟨ck_wrap2 ?_, rfl⟩; unfold I64; omega)
theorem fix_Neg (a : Int) (ha : I64 a) (w : World) :
    Calls Try.prog 34 #[.int .i64 a] w fun e w' => e = .returned (.tuple #[.int .i64 (ckV (-a)), .int .i64 (ckE (-a))]) ∧ w = w' := by
  go_enter Try.func34, Try.ntmps34
  go_wp2_with (go_at_call 36; refine (fix_Sub 0 a (by decide) ha _).mono ?_; rintro e w' ⟨rfl, rfl⟩)
  go_ret2
  exact ⟨rfl, rfl⟩
theorem ref_Neg (a : Int) (ha : I64 a) (w : World) :
    Calls Try.prog 26 #[.int .i64 a] w fun e w' => e = .returned (.tuple #[.int .i64 (ckV (-a)), .int .i64 (ckE (-a))]) ∧ w = w' := by
  go_enter Try.func26, Try.ntmps26
  go_wp2_with (go_at_call 31; refine (ref_Sub 0 a (by decide) ha _).mono ?_; rintro e w' ⟨rfl, rfl⟩)
  go_ret2
  exact ⟨rfl, rfl⟩
theorem fix_Abs (a : Int) (ha : I64 a) (w : World) :
    Calls Try.prog 44 #[.int .i64 a] w fun e w' => e = .returned (.tuple #[.int .i64 (ckV (absI a)), .int .i64 (ckE (absI a))]) ∧ w = w' := by
  by_cases h : a < 0
  · rw [show absI a = -a from if_pos h]
    go_enter Try.func44, Try.ntmps44
    go_wp2_with (go_at_call 34; refine (fix_Neg a ha _).mono ?_; rintro e w' ⟨rfl, rfl⟩)
    go_ret2
    exact ⟨rfl, rfl⟩
  · rw [show absI a = a from if_neg h]
    go_enter Try.func44, Try.ntmps44
    go_wp2
    go_ret2
    exact ⟨ck_in2 ha, rfl⟩
end Go.Proofs.Ytnokomlekndgfaa
