
/- UFixB: texts joined: FixB. -/
import Derived.Test.YtekpejemfkjhcaaUa
import Derived.Test.YtekpejemfkjhcaaShelf
import Derived.WalkSpells
import Derived.WalkLawsBesides
import Derived.Handy
import Derived.RegionTactic
import Derived.Deep.RegionWith
namespace Go.Proofs.Ytekpejemfkjhcaa
open Go.RowKit
set_option maxHeartbeats 400000
set_option maxRecDepth 100000
set_option linter.unusedVariables false
theorem mul64 (x y : Int) (hx : U64 x) (hy : U64 y) (w : World) :
    Calls Try.prog 88 #[.int .u64 x, .int .u64 y] w fun e w' => e = .returned (.tuple #[.int .u64 (x * y / 18446744073709551616), .int .u64 (x * y % 18446744073709551616)]) ∧ w = w' := by
  unfold U64 at hx hy
  obtain ⟨m, rfl⟩ := Int.eq_ofNat_of_zero_le hx.1
  obtain ⟨n, rfl⟩ := Int.eq_ofNat_of_zero_le hy.1
  refine (Try.bits_Mul64 m n (by omega) (by omega) w).mono ?_
  rintro e w' ⟨rfl, rfl⟩
  exact ⟨by simp, rfl⟩
theorem fix_times (a b : Int) (ha : I64 a) (hb : I64 b) (w : World) :
    Calls Try.prog 78 #[.int .i64 a, .int .i64 b] w fun e w' => e = .returned (.agg #[.int .u64 (hiU (a * b)), .int .u64 (loU (a * b))]) ∧ Below w.heap.size w w' := by
  go_enter Try.func78, Try.ntmps78
  go_wp2_with fail
  refine (mul64 _ _ (U64.wrap _) (U64.wrap _) _).mono ?_
  rintro e w' ⟨rfl, rfl⟩
  go_wp2
  all_goals
    go_returns
    refine ⟨?_, by go_grown⟩
  · rw [times_nn ha hb (by assumption) (by assumption), times_lo]
  · rw [times_np ha hb (by assumption) (by assumption), times_lo]
  · rw [times_pn ha hb (by assumption) (by assumption), times_lo]
  · rw [times_pp ha hb (by assumption) (by assumption), times_lo]
theorem whole_hi {a : Int} (ha : I64 a) : IntKind.u64.wrap (a / 9223372036854775808) = hiU a := by
  unfold I64 at ha; unfold hiU; rw [IntKind.wrap_u64]; omega
theorem whole_lo {a : Int} : IntKind.u64.wrap a = loU a := IntKind.wrap_u64 a
theorem fix_whole (a : Int) (ha : I64 a) (w : World) :
    Calls Try.prog 89 #[.int .i64 a] w fun e w' => e = .returned (.agg #[.int .u64 (hiU a), .int .u64 (loU a)]) ∧ w.alloc (.cells #[.int .u64 (hiU a), .int .u64 (loU a)] 90) = w' := by
  rw [← whole_hi ha, ← whole_lo]
  go_enter Try.func89, Try.ntmps89
  go_wp2
  go_returns
  exact ⟨rfl, rfl⟩
theorem fix_flip (s : Int) (w : World) :
    Calls Try.prog 90 #[.agg #[.int .u64 (hiU s), .int .u64 (loU s)]] w fun e w' => e = .returned (.agg #[.int .u64 (hiU (-s - 1)), .int .u64 (loU (-s - 1))]) ∧
      (w.alloc (.cells #[.int .u64 (hiU s), .int .u64 (loU s)] 90)).alloc (.cells #[.int .u64 (hiU (-s - 1)), .int .u64 (loU (-s - 1))] 90) = w' := by
  go_enter Try.func90, Try.ntmps90
  go_wp2
  go_returns
  rw [bits_not_u64 (U64.hi s), bits_not_u64 (U64.lo s), flip_hi, flip_lo]
  exact ⟨rfl, rfl⟩
theorem fix_shift (s : Int) (k : Nat) (hs : I128 s) (hk : k ≤ 30) (w : World) :
    Calls Try.prog 79 #[.agg #[.int .u64 (hiU s), .int .u64 (loU s)], .int .i64 k] w fun e w' => e = .returned (.agg #[.int .u64 (hiU (s / 2 ^ k)), .int .u64 (loU (s / 2 ^ k))]) ∧ Below w.heap.size w w' := by
  go_enter Try.func79, Try.ntmps79
  go_wp2
  go_region
  go_wp2
  go_returns
  rw [shift_hi hs, shift_lo _ (by omega)]
  exact ⟨rfl, by go_grown⟩
theorem equal_pair (a b c d : Int) (w : World) :
    (Op.equalIn 10000 90 (.agg #[.int .u64 a, .int .u64 b]) (.agg #[.int .u64 c, .int .u64 d])).run Try.prog w = .ok (a == c && b == d) w := by
  have h1 : ∀ (x y : Int) (w : World), (part 85 #[.int .u64 x, .int .u64 y] 0).run Try.prog w = .ok (.int .u64 x) w := fun _ _ _ => by kernel_rfl
  have h2 : ∀ (x y : Int) (w : World), (part 85 #[.int .u64 x, .int .u64 y] 1).run Try.prog w = .ok (.int .u64 y) w := fun _ _ _ => by kernel_rfl
  have h3 : (sizeOf 85).run Try.prog w = .ok 1 w := by kernel_rfl
  rw [show (10000 : Nat) = 9998 + 1 + 1 from rfl]
  unfold Op.equalIn
  simp only [Sem.run_bind, run_underlying Try.underlying90, Result.andThen_ok, h3]
  simp only [Std.Legacy.Range.forIn_eq_forIn_range', Std.Legacy.Range.size]
  simp only [Nat.sub_zero, Nat.reduceAdd, Nat.reduceSub, Nat.reduceDiv, List.range', List.forIn_cons, List.forIn_nil, Sem.run_bind]
  have h4 : ∀ x y : Int, (Op.equalIn 9999 85 (.int .u64 x) (.int .u64 y)).run Try.prog w = .ok (x == y) w := fun x y => run_equalIn_int w 9998 _ _ _ _ _ Try.underlying85
  simp only [Nat.zero_mul, Nat.one_mul, h1, h4, Result.andThen_ok]
  cases hac : (a == c) with
  | false => simp
  | true => by_cases hbd : b = d <;> simp [h2, h4, hbd]
attribute [local go_sem] equal_pair
theorem number_in {s : Int} (hs : I128 s) (h : (!hiU s == hiU (wrap64 (loU s))) = false ∧ (!loU s == loU (wrap64 (loU s))) = false) : I64 s ∧ wrap64 (loU s) = s := by
  simp only [Bool.not_eq_false', beq_iff_eq] at h
  unfold I128 at hs; unfold hiU loU at h; unfold I64 loU
  rw [wrap64_eq] at *
  omega
theorem number_out {s : Int} (h : (!hiU s == hiU (wrap64 (loU s))) = true ∨ (!loU s == loU (wrap64 (loU s))) = true) : ¬ I64 s := by
  intro hi
  have e1 : wrap64 (loU s) = s := by unfold I64 at hi; unfold loU; rw [wrap64_eq]; omega
  rw [e1] at h
  simp at h
theorem number_end {s : Int} (h : I64 s ∧ wrap64 (loU s) = s) : Ending.returned (Value.tuple #[.int .i64 (wrap64 (loU s)), .int .i64 0]) = Ending.returned (Value.tuple #[.int .i64 (ckV s), .int .i64 (ckE s)]) := by
  rw [h.2]; exact ck_in2 h.1
theorem fix_number (s : Int) (hs : I128 s) (w : World) :
    Calls Try.prog 80 #[.agg #[.int .u64 (hiU s), .int .u64 (loU s)]] w fun e w' => e = .returned (.tuple #[.int .i64 (ckV s), .int .i64 (ckE s)]) ∧ Below w.heap.size w w' := by
  go_enter Try.func80, Try.ntmps80
  go_wp2_with fail
  go_region_with (go_at_call 89; refine (fix_whole _ (I64.wrap _) _).mono ?_; rintro e w' ⟨rfl, rfl⟩)
  all_goals go_wp2
  all_goals
    go_ret2
    first
    | exact ⟨ck_out2 (number_out (by assumption)), by go_grown⟩
    | exact ⟨number_end (number_in hs (by assumption)), by go_grown⟩
end Go.Proofs.Ytekpejemfkjhcaa
