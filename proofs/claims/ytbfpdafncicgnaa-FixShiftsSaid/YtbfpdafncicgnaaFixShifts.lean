/-
  FixShifts answers true for every input. No condition.
-/
import Derived.Test.YtbfpdafncicgnaaFixC
import Derived.Test.YtbfpdafncicgnaaLaw
namespace Go.Proofs.Ytbfpdafncicgnaa.FixShifts
open Go.ChangeShapes Go.WideShapes Go.ChangeAt Go.RowKit
set_option maxHeartbeats 400000
set_option linter.unusedVariables false
theorem modn (m : Int) (d : Int) (h1 : 31 ≤ d) (h2 : d ≤ 32) : ∃ k : Nat, (wrap64 (m.tmod d + d)).tmod d = k ∧ (k : Int) < d := by
  have k1 : -d < m.tmod d := by
    rcases Int.le_total 0 m with h | h
    · have := Int.tmod_nonneg d h; omega
    · have h3 := Int.tmod_lt_of_pos (-m) (show 0 < d by omega)
      rw [Int.neg_tmod] at h3
      omega
  have k2 : m.tmod d < d := Int.tmod_lt_of_pos m (by omega)
  rw [I64.wrap_in (show I64 (m.tmod d + d) by unfold I64; omega)]
  have k3 := Int.tmod_nonneg d (show 0 ≤ m.tmod d + d by omega)
  have k4 := Int.tmod_lt_of_pos (m.tmod d + d) (show 0 < d by omega)
  exact ⟨((m.tmod d + d).tmod d).toNat, by omega, by omega⟩
theorem walk_core (a m n x y z : Int) (k l : Nat) (hk : (wrap64 (m.tmod 32 + 32)).tmod 32 = k) (hl : (wrap64 (n.tmod 31 + 31)).tmod 31 = l) (h1 : k ≤ 31) (h2 : l ≤ 30)
    (H1 : Hid (∀ W, Calls Try.prog 28 #[.int .i64 a, .int .i64 k] W fun r W' => r = .returned (.tuple #[.int .i64 x, .int .i64 0]) ∧ W = W'))
    (H2 : Hid (∀ W, Calls Try.prog 28 #[.int .i64 x, .int .i64 l] W fun r W' => r = .returned (.tuple #[.int .i64 y, .int .i64 0]) ∧ W = W'))
    (H3 : Hid (∀ W, Calls Try.prog 28 #[.int .i64 a, .int .i64 ((k : Int) + l)] W fun r W' => r = .returned (.tuple #[.int .i64 y, .int .i64 0]) ∧ W = W'))
    (H4 : Hid (∀ W, Calls Try.prog 26 #[.int .i64 a, .int .i64 (2 ^ l)] W fun r W' => r = .returned (.tuple #[.int .i64 z, .int .i64 0]) ∧ Below W.heap.size W W'))
    (H5 : Hid (∀ W, Calls Try.prog 28 #[.int .i64 a, .int .i64 l] W fun r W' => r = .returned (.tuple #[.int .i64 z, .int .i64 0]) ∧ W = W'))
    (p1 : (2 : Int) ^ l ≤ 1073741824) (p2 : 1 ≤ (2 : Int) ^ l) (w : World) :
    Calls Try.prog 9 #[.int .i64 a, .int .i64 m, .int .i64 n] w fun e w' => e = .returned (.bool true) ∧ Below w.heap.size w w' := by
  go_enter Try.func9, Try.ntmps9
  go_wp2_with fail
  refine (live_yes _).mono ?_
  rintro _ w1 ⟨rfl, hb1⟩
  go_wp2_with fail
  refine (H1.out _).mono ?_
  rintro _ w2 ⟨rfl, rfl⟩
  go_wp2_with fail
  refine (H2.out _).mono ?_
  rintro _ w2 ⟨rfl, rfl⟩
  go_wp2_with fail
  refine (H3.out _).mono ?_
  rintro _ w2 ⟨rfl, rfl⟩
  go_wp2_with fail
  refine (H4.out _).mono ?_
  rintro _ w2 ⟨rfl, hb2⟩
  go_wp2_with fail
  refine (H5.out _).mono ?_
  rintro _ w3 ⟨rfl, rfl⟩
  go_wp2_with fail
  go_ret
  exact ⟨rfl, hb1.trans (hb2.mono hb1.size)⟩
theorem walk (a m n : Int) (ha : I64 a) (hm : I64 m) (hn : I64 n) (w : World) :
    Calls Try.prog 9 #[.int .i64 a, .int .i64 m, .int .i64 n] w fun e w' => e = .returned (.bool true) ∧ Below w.heap.size w w' := by
  obtain ⟨k, hk, h1⟩ := modn m 32 (by decide) (by decide)
  obtain ⟨l, hl, h2⟩ := modn n 31 (by decide) (by decide)
  have hp := i64_pow (k := l) (by omega)
  have sh : ∀ j : Nat, I64 (a / 2 ^ j) := fun j => by
    have h0 : (0 : Int) < 2 ^ j := Int.pow_pos (by decide)
    unfold I64 at *
    constructor
    · exact Int.le_ediv_of_mul_le h0 (by have := Int.mul_le_mul_of_nonneg_left (show (1 : Int) ≤ 2 ^ j by omega) (show (0 : Int) ≤ 9223372036854775808 by decide); omega)
    · have : a / 2 ^ j < 9223372036854775808 := Int.ediv_lt_of_lt_mul h0 (by have := Int.mul_le_mul_of_nonneg_left (show (1 : Int) ≤ 2 ^ j by omega) (show (0 : Int) ≤ 9223372036854775808 by decide); omega)
      omega
  have e : a / 2 ^ (k + l) = a / 2 ^ k / 2 ^ l := by rw [Int.pow_add, ← Int.ediv_ediv_of_nonneg (Int.le_of_lt (Int.pow_pos (by decide)))]
  refine walk_core a m n (a / 2 ^ k) (a / 2 ^ k / 2 ^ l) (a / 2 ^ l) k l hk hl (by omega) (by omega) (hid fun W => fix_Shift a k (by omega) ha W) (hid fun W => fix_Shift _ l (by omega) (sh k) W)
    (hid fun W => ?_) (hid fun W => ?_) (hid fun W => fix_Shift a l (by omega) ha W) hp.2.1 hp.2.2 w
  · have := fix_Shift a (k + l) (by omega) ha W
    rw [e] at this
    exact this
  · have := fix_Quot a (2 ^ l) ha hp.1 (by omega) W
    rw [show quoF a (2 ^ l) = a / 2 ^ l by unfold quoF; rw [if_neg (by omega)], ckV_in (sh l), ckE_in (sh l)] at this
    exact this
theorem law_types : ∀ t ∈ Try.f9.params.toList, Try.prog.readableRec t = true ∧ t < Try.prog.types.size := by
  have h : (Try.f9.params.toList.all fun t => Try.prog.readableRec t && decide (t < Try.prog.types.size)) = true := by kernel_rfl
  intro t ht
  simpa using List.all_eq_true.1 h t ht
set_option maxRecDepth 100000 in
theorem lifted (os : Os) (started : os.Started) (H : Type) (enc : TypeId × Value → H) :
    ReturnsInHanded {} Try.checked os 9 .any (Rows.fixShiftsSpec.pre6 enc Try.prog Try.f9 Rows.fixShiftsRow.domain false) (Rows.fixShiftsSpec.post enc Try.prog Try.f9 false true false false) := by
  refine returnsInHanded_of_change (C := Try.checked) own started (by kernel_rfl) Try.func9
    (ChangeSpec.witness6 (enc := enc) (C := Try.checked) false ⟨#[], #[.int .i64 0, .int .i64 0, .int .i64 0], []⟩ 8 (by kernel_rfl) (by kernel_rfl) (by kernel_rfl) (by kernel_rfl)) ?_
  intro W base args ds gs before hval0 hW hcnd _
  have hval : ∀ (j : Nat) t v, Try.f9.params[j]? = some t → args[j]? = some v → Value.okWide Try.prog W .any base t v := hval0
  have hW' := hW
  obtain ⟨p, q, hA0, hV, rfl, hfz, hnd⟩ := hW
  have hA : DataW.TrodAll enc Try.prog W 0 (fun _ => true) true Try.f9.params.toList args.toList ds p := hA0
  rw [Try.params9] at hA hval
  obtain ⟨v0, vs0, d0, ds0, p0, q0, hargs, rfl, rfl, h0, r0⟩ := trodAll_cons hA
  obtain ⟨v1, vs1, d1, ds1, p1, q1, rfl, rfl, rfl, h1, r1⟩ := trodAll_cons r0
  obtain ⟨v2, vs2, d2, ds2, p2, q2, rfl, rfl, rfl, h2, r2⟩ := trodAll_cons r1
  obtain ⟨rfl, rfl, rfl⟩ := trodAll_nil r2
  obtain rfl : args = #[v0, v1, v2] := by cases args; simp_all
  obtain ⟨rfl, rfl⟩ := trodVars_none hV
  obtain ⟨a, rfl, rfl, rfl, w0⟩ := open_int Try.underlying2 (hval 0 2 v0 rfl rfl) h0
  obtain ⟨m, rfl, rfl, rfl, w1⟩ := open_int Try.underlying3 (hval 1 3 v1 rfl rfl) h1
  obtain ⟨n, rfl, rfl, rfl, w2⟩ := open_int Try.underlying3 (hval 2 3 v2 rfl rfl) h2
  clear hA0 hval0
  refine (walk a m n (I64.of_wf w0) (I64.of_wf w1) (I64.of_wf w2) W).mono fun e W' ⟨he, hb⟩ => ?_
  subst he
  exact ⟨_, rfl, law_post laid (fun t ht => law_types t ht) rfl hW' ⟨rfl, rfl, rfl⟩ (by kernel_rfl) Try.underlying4 hb⟩

theorem over : Rows.fixShiftsRow.holds Try.pinned (OpenSpec.ofChange Rows.fixShiftsSpec) :=
  OpenClaim.holds_of_wide 9 Try.f9 rfl rfl rfl rfl rfl rfl rfl ⟨rfl, rfl, rfl, rfl, rfl⟩ rfl rfl rfl rfl rfl (by kernel_rfl) Try.func9 (by kernel_rfl)
    (of_decide_eq_true (by kernel_rfl)) (by unfold Func.isWrapper; first | (rw [if_pos (by decide +kernel)]; kernel_rfl) | (rw [if_neg (by decide +kernel)]; exact ⟨rfl, rfl⟩))
    (fun os started H enc _ => lifted os started H enc)

theorem proved : Rows.FixShiftsSaid := over
end Go.Proofs.Ytbfpdafncicgnaa.FixShifts
