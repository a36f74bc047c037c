/-
  FixSmall answers true for every input. No condition.
-/
import Derived.Test.YtbfpdafncicgnaaFixC
import Derived.Test.YtbfpdafncicgnaaLaw
namespace Go.Proofs.Ytbfpdafncicgnaa.FixSmall
open Go.ChangeShapes Go.WideShapes Go.ChangeAt Go.RowKit
set_option maxHeartbeats 400000
set_option linter.unusedVariables false
/-- What a call of two numbers, of one, of two and the bits behind the point comes to, whatever the world. -/
def C2 (f : FuncId) (a b x e : Int) : Prop := ∀ W, Calls Try.prog f #[.int .i64 a, .int .i64 b] W fun r W' => r = .returned (.tuple #[.int .i64 x, .int .i64 e]) ∧ W = W'
def C1 (f : FuncId) (a x e : Int) : Prop := ∀ W, Calls Try.prog f #[.int .i64 a] W fun r W' => r = .returned (.tuple #[.int .i64 x, .int .i64 e]) ∧ W = W'
def C3 (f : FuncId) (a b m x e : Int) : Prop := ∀ W, Calls Try.prog f #[.int .i64 a, .int .i64 b, .int .i64 m] W fun r W' => r = .returned (.tuple #[.int .i64 x, .int .i64 e]) ∧ Below W.heap.size W W'
theorem C2.at' {f : FuncId} {a b x e : Int} (h : C2 f a b x e) (W : World) : Calls Try.prog f #[.int .i64 a, .int .i64 b] W fun r W' => r = .returned (.tuple #[.int .i64 x, .int .i64 e]) ∧ W = W' := h W
theorem C1.at' {f : FuncId} {a x e : Int} (h : C1 f a x e) (W : World) : Calls Try.prog f #[.int .i64 a] W fun r W' => r = .returned (.tuple #[.int .i64 x, .int .i64 e]) ∧ W = W' := h W
theorem C3.at' {f : FuncId} {a b m x e : Int} (h : C3 f a b m x e) (W : World) : Calls Try.prog f #[.int .i64 a, .int .i64 b, .int .i64 m] W fun r W' => r = .returned (.tuple #[.int .i64 x, .int .i64 e]) ∧ Below W.heap.size W W' := h W
theorem modn (m : Int) (d : Int) (h1 : 17 ≤ d) (h2 : d ≤ 32) : ∃ k : Nat, (wrap64 (m.tmod d + d)).tmod d = k ∧ (k : Int) < d := by
  have k1 : -d < m.tmod d := by
    rcases Int.le_total 0 m with h | h
    · have := Int.tmod_nonneg d h; omega
    · have h3 := Int.tmod_lt_of_pos (-m) (show 0 < d by omega)
      rw [Int.neg_tmod] at h3
      omega
  have k2 : m.tmod d < d := Int.tmod_lt_of_pos m (by omega)
  rw [I64.wrap_in (show I64 (m.tmod d + d) by unfold I64; omega)]
  have k3 := Int.tmod_nonneg d (show 0 ≤ m.tmod d + d by omega)
  have k4 := Int.tmod_lt_of_pos (m.tmod d + d) (show 0 < d by omega)
  exact ⟨((m.tmod d + d).tmod d).toNat, by omega, by omega⟩
theorem walk_zero (a b m p : Int) (k : Nat) (hk : (wrap64 (m.tmod 17 + 17)).tmod 17 = k) (h1 : k ≤ 16) (p1 : (2 : Int) ^ k ≤ 65536) (p2 : 1 ≤ (2 : Int) ^ k)
    (ha1 : -2147483648 ≤ a) (ha2 : a ≤ 2147483647) (hc : (wrap64 b).tmod 16384 = 0)
    (M1 : C3 22 a 0 k 0 0) (D1 : C3 24 a 0 k 0 1) (w : World) :
    Calls Try.prog 6 #[.int .i32 a, .int .i32 b, .int .i64 m] w fun e w' => e = .returned (.bool true) ∧ Below w.heap.size w w' := by
  go_enter Try.func6, Try.ntmps6
  go_wp2_with fail
  refine (live_yes _).mono ?_
  rintro _ w1 ⟨rfl, hb1⟩
  go_wp2_with fail
  refine (M1.at' _).mono ?_
  rintro _ w2 ⟨rfl, hb2⟩
  go_wp2_with fail
  refine (D1.at' _).mono ?_
  rintro _ w3 ⟨rfl, hb3⟩
  go_wp2_with fail
  go_ret
  have k2 := hb1.trans (hb2.mono hb1.size)
  exact ⟨rfl, k2.trans (hb3.mono k2.size)⟩
theorem walk_core (a b m c p q : Int) (k : Nat) (hk : (wrap64 (m.tmod 17 + 17)).tmod 17 = k) (h1 : k ≤ 16) (p1 : (2 : Int) ^ k ≤ 65536) (p2 : 1 ≤ (2 : Int) ^ k)
    (ha1 : -2147483648 ≤ a) (ha2 : a ≤ 2147483647) (hc : (wrap64 b).tmod 16384 = c)
    (c0 : (c == 0) = false) (x1 : -70368744177664 ≤ a * c) (x2 : a * c ≤ 70368744177664) (l1 : 0 ≤ a * c - p * 2 ^ k) (l2 : a * c - p * 2 ^ k < 2 ^ k)
    (y1 : -140737488355328 ≤ a * 2 ^ k) (y2 : a * 2 ^ k ≤ 140737488355328)
    (hq : (0 < c ∧ c ≤ 16384 ∧ 0 ≤ a * 2 ^ k - q * c ∧ a * 2 ^ k - q * c < c) ∨ (c < 0 ∧ -16384 ≤ c ∧ a * 2 ^ k - q * c ≤ 0 ∧ c < a * 2 ^ k - q * c))
    (M1 : C3 22 a c k p 0) (D1 : C3 24 a c k q 0) (w : World) :
    Calls Try.prog 6 #[.int .i32 a, .int .i32 b, .int .i64 m] w fun e w' => e = .returned (.bool true) ∧ Below w.heap.size w w' := by
  rcases hq with ⟨q1, q2, q3, q4⟩ | ⟨q1, q2, q3, q4⟩ <;>
  · go_enter Try.func6, Try.ntmps6
    go_wp2_with fail
    refine (live_yes _).mono ?_
    rintro _ w1 ⟨rfl, hb1⟩
    go_wp2_with fail
    refine (M1.at' _).mono ?_
    rintro _ w2 ⟨rfl, hb2⟩
    go_wp2_with fail
    refine (D1.at' _).mono ?_
    rintro _ w3 ⟨rfl, hb3⟩
    go_wp2_with fail
    go_ret
    have k2 := hb1.trans (hb2.mono hb1.size)
    exact ⟨rfl, k2.trans (hb3.mono k2.size)⟩
theorem div_between {n d N : Int} (hN : 0 ≤ N) (h1 : -N ≤ n) (h2 : n ≤ N) (hd : 1 ≤ d) : -N ≤ n / d ∧ n / d ≤ N := by
  have h := Int.mul_le_mul_of_nonneg_left hd hN
  rw [Int.mul_one] at h
  constructor
  · exact Int.le_ediv_of_mul_le (by omega) (by rw [Int.neg_mul]; omega)
  · have : n / d < N + 1 := Int.ediv_lt_of_lt_mul (by omega) (by rw [Int.add_mul]; omega)
    omega
theorem mul_between {a c A C : Int} (h1 : -A ≤ a) (h2 : a ≤ A) (h3 : -C ≤ c) (h4 : c ≤ C) : -(A * C) ≤ a * c ∧ a * c ≤ A * C := by
  have k1 := Int.mul_nonneg (show 0 ≤ A - a by omega) (show 0 ≤ C - c by omega)
  have k2 := Int.mul_nonneg (show 0 ≤ A + a by omega) (show 0 ≤ C - c by omega)
  have k3 := Int.mul_nonneg (show 0 ≤ A - a by omega) (show 0 ≤ C + c by omega)
  have k4 := Int.mul_nonneg (show 0 ≤ A + a by omega) (show 0 ≤ C + c by omega)
  simp only [Int.add_mul, Int.mul_add, Int.sub_mul, Int.mul_sub] at k1 k2 k3 k4
  omega
theorem walk (a b m : Int) (ha : (Lit.int .i32 a).wf = true) (hb : (Lit.int .i32 b).wf = true) (hm : I64 m) (w : World) :
    Calls Try.prog 6 #[.int .i32 a, .int .i32 b, .int .i64 m] w fun e w' => e = .returned (.bool true) ∧ Below w.heap.size w w' := by
  obtain ⟨k, hk, h1⟩ := modn m 17 (by decide) (by decide)
  have hp := i64_pow (k := k) (by omega)
  have p1 : (2 : Int) ^ k ≤ 65536 := by
    have h : 2 ^ k ≤ 2 ^ 16 := Nat.pow_le_pow_right (show 0 < 2 by decide) (show k ≤ 16 by omega)
    have h2 : ((2 ^ k : Nat) : Int) ≤ ((2 ^ 16 : Nat) : Int) := Int.ofNat_le.2 h
    rw [Int.natCast_pow] at h2
    exact h2
  have ra := bounds_i32 ha
  have rb := bounds_i32 hb
  have wb : wrap64 b = b := I64.wrap_in (by unfold I64; omega)
  have hA : I64 a := by unfold I64; omega
  obtain ⟨c, hc⟩ : ∃ c, (wrap64 b).tmod 16384 = c := ⟨_, rfl⟩
  have c2 : c < 16384 := by rw [← hc]; exact Int.tmod_lt_of_pos _ (by decide)
  have c1 : -16384 < c := by
    rw [← hc]
    rcases Int.le_total 0 (wrap64 b) with h | h
    · have := Int.tmod_nonneg 16384 h; omega
    · have h3 := Int.tmod_lt_of_pos (-(wrap64 b)) (show (0 : Int) < 16384 by decide)
      rw [Int.neg_tmod] at h3
      omega
  have hC : I64 c := by unfold I64; omega
  by_cases hz : c = 0
  · subst hz
    refine walk_zero a b m 0 k hk (by omega) p1 hp.2.2 ra.1 ra.2 hc (fun W => ?_) (fun W => Div_zero a k W) w
    have := fix_Mul a 0 k (by omega) hA (by decide) W
    rw [show a * 0 / 2 ^ k = 0 by rw [Int.mul_zero, Int.zero_ediv], show ckV 0 = 0 by decide, show ckE 0 = 0 by decide] at this
    exact this
  · have x := mul_between (a := a) (c := c) (A := 2147483648) (C := 16384) (by omega) (by omega) (by omega) (by omega)
    have y := mul_between (a := a) (c := 2 ^ k) (A := 2147483648) (C := 65536) (by omega) (by omega) (by omega) (by omega)
    have l := Int.mul_ediv_add_emod (a * c) (2 ^ k)
    have l1 := Int.emod_nonneg (a * c) (show (2 : Int) ^ k ≠ 0 by omega)
    have l2 := Int.emod_lt_of_pos (a * c) (show (0 : Int) < 2 ^ k by omega)
    rw [Int.mul_comm] at l
    have pb := div_between (n := a * c) (d := 2 ^ k) (N := 35184372088832) (by decide) (by omega) (by omega) (by omega)
    have hpI : I64 (a * c / 2 ^ k) := by unfold I64; omega
    have M1 : C3 22 a c k (a * c / 2 ^ k) 0 := fun W => by
      have := fix_Mul a c k (by omega) hA hC W
      rw [ckV_in hpI, ckE_in hpI] at this
      exact this
    have dv : ∀ {q}, quoF (a * 2 ^ k) c = q → I64 q → C3 24 a c k q 0 := fun {q} e hq W => by
      have := fix_Div a c k (by omega) hA hC hz W
      rw [e, ckV_in hq, ckE_in hq] at this
      exact this
    have c0 : (c == 0) = false := by simpa using hz
    rcases Int.lt_or_le c 0 with hn | hn
    · have e : quoF (a * 2 ^ k) c = -(a * 2 ^ k) / (-c) := by unfold quoF; rw [if_pos hn]
      have qb := div_between (n := -(a * 2 ^ k)) (d := -c) (N := 140737488355328) (by decide) (by omega) (by omega) (by omega)
      have r := Int.mul_ediv_add_emod (-(a * 2 ^ k)) (-c)
      have r1 := Int.emod_nonneg (-(a * 2 ^ k)) (show -c ≠ 0 by omega)
      have r2 := Int.emod_lt_of_pos (-(a * 2 ^ k)) (show 0 < -c by omega)
      rw [Int.neg_mul, Int.mul_comm c] at r
      exact walk_core a b m c _ _ k hk (by omega) p1 hp.2.2 ra.1 ra.2 hc c0 (by omega) (by omega) (by omega) (by omega) (by omega) (by omega) (Or.inr ⟨hn, by omega, by omega, by omega⟩) M1 (dv e (by unfold I64; omega)) w
    · have e : quoF (a * 2 ^ k) c = a * 2 ^ k / c := by unfold quoF; rw [if_neg (by omega)]
      have qb := div_between (n := a * 2 ^ k) (d := c) (N := 140737488355328) (by decide) (by omega) (by omega) (by omega)
      have r := Int.mul_ediv_add_emod (a * 2 ^ k) c
      have r1 := Int.emod_nonneg (a * 2 ^ k) (show c ≠ 0 by omega)
      have r2 := Int.emod_lt_of_pos (a * 2 ^ k) (show 0 < c by omega)
      rw [Int.mul_comm c] at r
      exact walk_core a b m c _ _ k hk (by omega) p1 hp.2.2 ra.1 ra.2 hc c0 (by omega) (by omega) (by omega) (by omega) (by omega) (by omega) (Or.inl ⟨by omega, by omega, by omega, by omega⟩) M1 (dv e (by unfold I64; omega)) w
theorem law_types : ∀ t ∈ Try.f6.params.toList, Try.prog.readableRec t = true ∧ t < Try.prog.types.size := by
  have h : (Try.f6.params.toList.all fun t => Try.prog.readableRec t && decide (t < Try.prog.types.size)) = true := by kernel_rfl
  intro t ht
  simpa using List.all_eq_true.1 h t ht
set_option maxRecDepth 100000 in
theorem lifted (os : Os) (started : os.Started) (H : Type) (enc : TypeId × Value → H) :
    ReturnsInHanded {} Try.checked os 6 .any (Rows.fixSmallSpec.pre6 enc Try.prog Try.f6 Rows.fixSmallRow.domain false) (Rows.fixSmallSpec.post enc Try.prog Try.f6 false true false false) := by
  refine returnsInHanded_of_change (C := Try.checked) own started (by kernel_rfl) Try.func6
    (ChangeSpec.witness6 (enc := enc) (C := Try.checked) false ⟨#[], #[.int .i32 0, .int .i32 0, .int .i64 0], []⟩ 8 (by kernel_rfl) (by kernel_rfl) (by kernel_rfl) (by kernel_rfl)) ?_
  intro W base args ds gs before hval0 hW hcnd _
  have hval : ∀ (j : Nat) t v, Try.f6.params[j]? = some t → args[j]? = some v → Value.okWide Try.prog W .any base t v := hval0
  have hW' := hW
  obtain ⟨p, q, hA0, hV, rfl, hfz, hnd⟩ := hW
  have hA : DataW.TrodAll enc Try.prog W 0 (fun _ => true) true Try.f6.params.toList args.toList ds p := hA0
  rw [Try.params6] at hA hval
  obtain ⟨v0, vs0, d0, ds0, p0, q0, hargs, rfl, rfl, h0, r0⟩ := trodAll_cons hA
  obtain ⟨v1, vs1, d1, ds1, p1, q1, rfl, rfl, rfl, h1, r1⟩ := trodAll_cons r0
  obtain ⟨v2, vs2, d2, ds2, p2, q2, rfl, rfl, rfl, h2, r2⟩ := trodAll_cons r1
  obtain ⟨rfl, rfl, rfl⟩ := trodAll_nil r2
  obtain rfl : args = #[v0, v1, v2] := by cases args; simp_all
  obtain ⟨rfl, rfl⟩ := trodVars_none hV
  obtain ⟨a, rfl, rfl, rfl, w0⟩ := open_int Try.underlying21 (hval 0 21 v0 rfl rfl) h0
  obtain ⟨b, rfl, rfl, rfl, w1⟩ := open_int Try.underlying21 (hval 1 21 v1 rfl rfl) h1
  obtain ⟨m, rfl, rfl, rfl, w2⟩ := open_int Try.underlying3 (hval 2 3 v2 rfl rfl) h2
  clear hA0 hval0
  refine (walk a b m w0 w1 (I64.of_wf w2) W).mono fun e W' ⟨he, hb⟩ => ?_
  subst he
  exact ⟨_, rfl, law_post laid (fun t ht => law_types t ht) rfl hW' ⟨rfl, rfl, rfl⟩ (by kernel_rfl) Try.underlying4 hb⟩

theorem over : Rows.fixSmallRow.holds Try.pinned (OpenSpec.ofChange Rows.fixSmallSpec) :=
  OpenClaim.holds_of_wide 6 Try.f6 rfl rfl rfl rfl rfl rfl rfl ⟨rfl, rfl, rfl, rfl, rfl⟩ rfl rfl rfl rfl rfl (by kernel_rfl) Try.func6 (by kernel_rfl)
    (of_decide_eq_true (by kernel_rfl)) (by unfold Func.isWrapper; first | (rw [if_pos (by decide +kernel)]; kernel_rfl) | (rw [if_neg (by decide +kernel)]; exact ⟨rfl, rfl⟩))
    (fun os started H enc _ => lifted os started H enc)

theorem proved : Rows.FixSmallSaid := over
end Go.Proofs.Ytbfpdafncicgnaa.FixSmall
