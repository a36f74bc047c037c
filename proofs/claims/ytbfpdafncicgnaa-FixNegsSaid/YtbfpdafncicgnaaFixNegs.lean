/-
  FixNegs answers true for every input. No condition.
-/
import Derived.Test.YtbfpdafncicgnaaFixC
import Derived.Test.YtbfpdafncicgnaaLaw
namespace Go.Proofs.Ytbfpdafncicgnaa.FixNegs
open Go.ChangeShapes Go.WideShapes Go.ChangeAt Go.RowKit
set_option maxHeartbeats 400000
set_option linter.unusedVariables false
/-- What a call of two numbers, of one, of two and the bits behind the point comes to, whatever the world. -/
def C2 (f : FuncId) (a b x e : Int) : Prop := ∀ W, Calls Try.prog f #[.int .i64 a, .int .i64 b] W fun r W' => r = .returned (.tuple #[.int .i64 x, .int .i64 e]) ∧ W = W'
def C1 (f : FuncId) (a x e : Int) : Prop := ∀ W, Calls Try.prog f #[.int .i64 a] W fun r W' => r = .returned (.tuple #[.int .i64 x, .int .i64 e]) ∧ W = W'
def C3 (f : FuncId) (a b m x e : Int) : Prop := ∀ W, Calls Try.prog f #[.int .i64 a, .int .i64 b, .int .i64 m] W fun r W' => r = .returned (.tuple #[.int .i64 x, .int .i64 e]) ∧ Below W.heap.size W W'
theorem C2.at' {f : FuncId} {a b x e : Int} (h : C2 f a b x e) (W : World) : Calls Try.prog f #[.int .i64 a, .int .i64 b] W fun r W' => r = .returned (.tuple #[.int .i64 x, .int .i64 e]) ∧ W = W' := h W
theorem C1.at' {f : FuncId} {a x e : Int} (h : C1 f a x e) (W : World) : Calls Try.prog f #[.int .i64 a] W fun r W' => r = .returned (.tuple #[.int .i64 x, .int .i64 e]) ∧ W = W' := h W
theorem C3.at' {f : FuncId} {a b m x e : Int} (h : C3 f a b m x e) (W : World) : Calls Try.prog f #[.int .i64 a, .int .i64 b, .int .i64 m] W fun r W' => r = .returned (.tuple #[.int .i64 x, .int .i64 e]) ∧ Below W.heap.size W W' := h W
theorem modn (m : Int) (d : Int) (h1 : 17 ≤ d) (h2 : d ≤ 32) : ∃ k : Nat, (wrap64 (m.tmod d + d)).tmod d = k ∧ (k : Int) < d := by
  have k1 : -d < m.tmod d := by
    rcases Int.le_total 0 m with h | h
    · have := Int.tmod_nonneg d h; omega
    · have h3 := Int.tmod_lt_of_pos (-m) (show 0 < d by omega)
      rw [Int.neg_tmod] at h3
      omega
  have k2 : m.tmod d < d := Int.tmod_lt_of_pos m (by omega)
  rw [I64.wrap_in (show I64 (m.tmod d + d) by unfold I64; omega)]
  have k3 := Int.tmod_nonneg d (show 0 ≤ m.tmod d + d by omega)
  have k4 := Int.tmod_lt_of_pos (m.tmod d + d) (show 0 < d by omega)
  exact ⟨((m.tmod d + d).tmod d).toNat, by omega, by omega⟩
theorem walk_core (a b m x e n f y : Int) (k : Nat) (hk : (wrap64 (m.tmod 31 + 31)).tmod 31 = k) (h1 : k ≤ 30) (p1 : (2 : Int) ^ k ≤ 1073741824) (p2 : 1 ≤ (2 : Int) ^ k)
    (M1 : C3 22 a b 0 x e) (N1 : C1 16 a n f)
    (hc : ((e == 0) = true ∧ (f == 0) = true ∧ (x != -9223372036854775808) = true ∧ C3 22 n b 0 y 0 ∧ (y != wrap64 (-x)) = false) ∨
      (e == 0) = false ∨ ((e == 0) = true ∧ (f == 0) = false) ∨ ((e == 0) = true ∧ (f == 0) = true ∧ (x != -9223372036854775808) = false))
    (M2 : C3 22 a (2 ^ k) k a 0) (D2 : C3 24 a (2 ^ k) k a 0) (w : World) :
    Calls Try.prog 10 #[.int .i64 a, .int .i64 b, .int .i64 m] w fun e w' => e = .returned (.bool true) ∧ Below w.heap.size w w' := by
  rcases hc with ⟨c1, c2, c3, M3, c4⟩ | c1 | ⟨c1, c2⟩ | ⟨c1, c2, c3⟩
  · go_enter Try.func10, Try.ntmps10
    go_wp2_with fail
    refine (live_yes _).mono ?_
    rintro _ w1 ⟨rfl, hb1⟩
    go_wp2_with (first | ((with_reducible refine (N1.at' _).mono ?_); rintro _ _ ⟨rfl, rfl⟩) | ((with_reducible refine (M1.at' _).mono ?_); rintro _ w2 ⟨rfl, hb2⟩) | ((with_reducible refine (M2.at' _).mono ?_); rintro _ w3 ⟨rfl, hb3⟩) | ((with_reducible refine (D2.at' _).mono ?_); rintro _ w4 ⟨rfl, hb4⟩) | ((with_reducible refine (M3.at' _).mono ?_); rintro _ w5 ⟨rfl, hb5⟩))
    go_ret
    have k2 := hb1.trans (hb2.mono hb1.size)
    have k5 := k2.trans (hb5.mono k2.size)
    have k3 := k5.trans (hb3.mono k5.size)
    exact ⟨rfl, k3.trans (hb4.mono k3.size)⟩
  all_goals
    go_enter Try.func10, Try.ntmps10
    go_wp2_with fail
    refine (live_yes _).mono ?_
    rintro _ w1 ⟨rfl, hb1⟩
    go_wp2_with (first | ((with_reducible refine (N1.at' _).mono ?_); rintro _ _ ⟨rfl, rfl⟩) | ((with_reducible refine (M1.at' _).mono ?_); rintro _ w2 ⟨rfl, hb2⟩) | ((with_reducible refine (M2.at' _).mono ?_); rintro _ w3 ⟨rfl, hb3⟩) | ((with_reducible refine (D2.at' _).mono ?_); rintro _ w4 ⟨rfl, hb4⟩))
    go_ret
    have k2 := hb1.trans (hb2.mono hb1.size)
    have k3 := k2.trans (hb3.mono k2.size)
    exact ⟨rfl, k3.trans (hb4.mono k3.size)⟩
theorem walk (a b m : Int) (ha : I64 a) (hb : I64 b) (hm : I64 m) (w : World) :
    Calls Try.prog 10 #[.int .i64 a, .int .i64 b, .int .i64 m] w fun e w' => e = .returned (.bool true) ∧ Below w.heap.size w w' := by
  obtain ⟨k, hk, h1⟩ := modn m 31 (by decide) (by decide)
  have hp := i64_pow (k := k) (by omega)
  have mul0 : ∀ {p}, I64 p → C3 22 p b 0 (ckV (p * b)) (ckE (p * b)) := fun {p} h W => by
    have := fix_Mul p b 0 (by omega) h hb W
    simpa only [Int.pow_zero, Int.ediv_one, Int.natCast_zero] using this
  have e1 : a * 2 ^ k / 2 ^ k = a := Int.mul_ediv_cancel _ (by omega)
  refine walk_core a b m _ _ _ _ (ckV (-a * b)) k hk (by omega) hp.2.1 hp.2.2 (mul0 ha) (fun W => fix_Neg a ha W) ?_ (fun W => ?_) (fun W => ?_) w
  · rcases ckE_cases (a * b) with ⟨c1, c2, c3⟩ | ⟨c1, c2, c3⟩ <;> rw [c1, c3]
    · rcases ckE_cases (-a) with ⟨d1, d2, d3⟩ | ⟨d1, d2, d3⟩ <;> rw [d1, d3]
      · by_cases hx : a * b = -9223372036854775808
        · right; right; right
          exact ⟨rfl, rfl, by rw [hx]; rfl⟩
        · left
          have hn : I64 (-a * b) := by rw [Int.neg_mul]; unfold I64 at *; omega
          refine ⟨rfl, rfl, by simpa using hx, ?_, ?_⟩
          · have := mul0 d2
            rw [ckE_in hn] at this
            exact this
          · rw [ckV_in hn, Int.neg_mul, I64.wrap_in (by rw [← Int.neg_mul]; exact hn)]
            simp
      · right; right; left
        exact ⟨rfl, rfl⟩
    · right; left
      rfl
  · have := fix_Mul a (2 ^ k) k (by omega) ha hp.1 W
    rw [e1, ckV_in ha, ckE_in ha] at this
    exact this
  · have := fix_Div a (2 ^ k) k (by omega) ha hp.1 (by omega) W
    rw [show quoF (a * 2 ^ k) (2 ^ k) = a by unfold quoF; rw [if_neg (by omega)]; exact e1, ckV_in ha, ckE_in ha] at this
    exact this
theorem law_types : ∀ t ∈ Try.f10.params.toList, Try.prog.readableRec t = true ∧ t < Try.prog.types.size := by
  have h : (Try.f10.params.toList.all fun t => Try.prog.readableRec t && decide (t < Try.prog.types.size)) = true := by kernel_rfl
  intro t ht
  simpa using List.all_eq_true.1 h t ht
set_option maxRecDepth 100000 in
theorem lifted (os : Os) (started : os.Started) (H : Type) (enc : TypeId × Value → H) :
    ReturnsInHanded {} Try.checked os 10 .any (Rows.fixNegsSpec.pre6 enc Try.prog Try.f10 Rows.fixNegsRow.domain false) (Rows.fixNegsSpec.post enc Try.prog Try.f10 false true false false) := by
  refine returnsInHanded_of_change (C := Try.checked) own started (by kernel_rfl) Try.func10
    (ChangeSpec.witness6 (enc := enc) (C := Try.checked) false ⟨#[], #[.int .i64 0, .int .i64 0, .int .i64 0], []⟩ 8 (by kernel_rfl) (by kernel_rfl) (by kernel_rfl) (by kernel_rfl)) ?_
  intro W base args ds gs before hval0 hW hcnd _
  have hval : ∀ (j : Nat) t v, Try.f10.params[j]? = some t → args[j]? = some v → Value.okWide Try.prog W .any base t v := hval0
  have hW' := hW
  obtain ⟨p, q, hA0, hV, rfl, hfz, hnd⟩ := hW
  have hA : DataW.TrodAll enc Try.prog W 0 (fun _ => true) true Try.f10.params.toList args.toList ds p := hA0
  rw [Try.params10] at hA hval
  obtain ⟨v0, vs0, d0, ds0, p0, q0, hargs, rfl, rfl, h0, r0⟩ := trodAll_cons hA
  obtain ⟨v1, vs1, d1, ds1, p1, q1, rfl, rfl, rfl, h1, r1⟩ := trodAll_cons r0
  obtain ⟨v2, vs2, d2, ds2, p2, q2, rfl, rfl, rfl, h2, r2⟩ := trodAll_cons r1
  obtain ⟨rfl, rfl, rfl⟩ := trodAll_nil r2
  obtain rfl : args = #[v0, v1, v2] := by cases args; simp_all
  obtain ⟨rfl, rfl⟩ := trodVars_none hV
  obtain ⟨a, rfl, rfl, rfl, w0⟩ := open_int Try.underlying2 (hval 0 2 v0 rfl rfl) h0
  obtain ⟨b, rfl, rfl, rfl, w1⟩ := open_int Try.underlying2 (hval 1 2 v1 rfl rfl) h1
  obtain ⟨m, rfl, rfl, rfl, w2⟩ := open_int Try.underlying3 (hval 2 3 v2 rfl rfl) h2
  clear hA0 hval0
  refine (walk a b m (I64.of_wf w0) (I64.of_wf w1) (I64.of_wf w2) W).mono fun e W' ⟨he, hb⟩ => ?_
  subst he
  exact ⟨_, rfl, law_post laid (fun t ht => law_types t ht) rfl hW' ⟨rfl, rfl, rfl⟩ (by kernel_rfl) Try.underlying4 hb⟩

theorem over : Rows.fixNegsRow.holds Try.pinned (OpenSpec.ofChange Rows.fixNegsSpec) :=
  OpenClaim.holds_of_wide 10 Try.f10 rfl rfl rfl rfl rfl rfl rfl ⟨rfl, rfl, rfl, rfl, rfl⟩ rfl rfl rfl rfl rfl (by kernel_rfl) Try.func10 (by kernel_rfl)
    (of_decide_eq_true (by kernel_rfl)) (by unfold Func.isWrapper; first | (rw [if_pos (by decide +kernel)]; kernel_rfl) | (rw [if_neg (by decide +kernel)]; exact ⟨rfl, rfl⟩))
    (fun os started H enc _ => lifted os started H enc)

theorem proved : Rows.FixNegsSaid := over
end Go.Proofs.Ytbfpdafncicgnaa.FixNegs
