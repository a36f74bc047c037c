
import Derived.Test.YtnokomlekndgfaaOver
import Derived.Test.YtnokomlekndgfaaRefC
import Derived.Deep.QuietTactic
import Derived.BigQuiet
namespace Go.Proofs.Ytnokomlekndgfaa
open Go.RowKit
set_option maxHeartbeats 400000
set_option maxRecDepth 100000
set_option linter.unusedVariables false
theorem ref_Div_bad (a b n : Int) (h : n < 0 ∨ 30 < n) (w : World) :
    Calls Try.prog 32 #[.int .i64 a, .int .i64 b, .int .i64 n] w fun e w' => e = .returned (.tuple #[.int .i64 0, .int .i64 1]) ∧ w = w' := by
  by_cases h1 : n < 0
  · clear h
    go_enter Try.func32, Try.ntmps32
    go_wp2
    go_ret2
    exact ⟨rfl, rfl⟩
  · have h2 : 30 < n := by omega
    clear h
    go_enter Try.func32, Try.ntmps32
    go_wp2
    go_ret2
    exact ⟨rfl, rfl⟩
theorem ref_Div_zero (a n : Int) (w : World) :
    Calls Try.prog 32 #[.int .i64 a, .int .i64 0, .int .i64 n] w fun e w' => e = .returned (.tuple #[.int .i64 0, .int .i64 1]) ∧ w = w' := by
  by_cases h : n < 0 ∨ 30 < n
  · exact ref_Div_bad a 0 n h w
  · have h1 : 0 ≤ n := by omega
    have h2 : n ≤ 30 := by omega
    clear h
    go_enter Try.func32, Try.ntmps32
    go_wp2
    go_ret2
    exact ⟨rfl, rfl⟩
/-- Which way the document's quotient goes: x, y tell the signs; V, E what it comes to. -/
def DivWay (q r : Int) (f x y : Bool) (V E : Int) : Prop :=
  (f = false ∧ V = 0 ∧ E = 2) ∨ (f = true ∧ 9223372036854775808 < q ∧ V = 0 ∧ E = 2) ∨
  (f = true ∧ q ≤ 9223372036854775808 ∧ (x == y) = true ∧ (q == 9223372036854775808) = true ∧ V = 0 ∧ E = 2) ∨
  (f = true ∧ q ≤ 9223372036854775807 ∧ (x == y) = true ∧ (q == 9223372036854775808) = false ∧ V = q ∧ E = 0) ∨
  (f = true ∧ q ≤ 9223372036854775808 ∧ (x == y) = false ∧ 0 < r ∧ 9223372036854775808 < q + 1 ∧ V = 0 ∧ E = 2) ∨
  (f = true ∧ q ≤ 9223372036854775808 ∧ (x == y) = false ∧ 0 < r ∧ q + 1 ≤ 9223372036854775808 ∧ wrap64 (IntKind.u64.wrap (-(q + 1))) = V ∧ E = 0) ∨
  (f = true ∧ q ≤ 9223372036854775808 ∧ (x == y) = false ∧ ¬ 0 < r ∧ q ≤ 9223372036854775808 ∧ wrap64 (IntKind.u64.wrap (-q)) = V ∧ E = 0)
theorem quietLd {P : Program} {f : FuncId} {args : Array Value} {w : World} {n : Nat} {v : Value}
    (h : Calls P f args (w.drewN n) fun e w' => e = .returned v ∧ w.drewN n = w') : Calls P f args (w.drewN n) fun e w'' => e = .returned v ∧ ∃ m, w'' = w.drewN m :=
  h.mono fun _ _ ⟨he, hm⟩ => ⟨he, n, hm.symm⟩
theorem Div_core (a b h l : Int) (k : Nat) (hk : k ≤ 30) (ha : I64 a) (hb : I64 b) (b0 : (b == 0) = false) (x y : Bool) (d1 : decide (a < 0) = x) (d2 : decide (b < 0) = y) (p1 : 1 ≤ (2 : Int) ^ k) (p2 : (2 : Int) ^ k ≤ 1073741824)
    (HT : Hid (∀ W, Calls Try.prog 39 #[.int .u64 (absI a), .int .u64 (2 ^ k)] W fun e W' => e = .returned (.tuple #[.int .u64 h, .int .u64 l]) ∧ W = W'))
    (HO : Hid (∀ W, Calls Try.prog 41 #[.int .u64 h, .int .u64 l, .int .u64 (absI b)] W (OverPost h l (absI b) W)))
    (V E : Int) (hw : ∀ q r f, OvR h l (absI b) 0 r q f → DivWay q r f x y V E ∧ 0 ≤ q) (w : World) :
    Calls Try.prog 32 #[.int .i64 a, .int .i64 b, .int .i64 k] w fun e w' => e = .returned (.tuple #[.int .i64 V, .int .i64 E]) ∧ Below w.heap.size w w' := by
  have HW := hid hw
  clear hw
  go_enter Try.func32, Try.ntmps32
  go_wp2_with fail
  go_quiet ((first | (go_at_call 40; exact quietLd (ref_size a ha _)) | (go_at_call 39; exact quietLd (HT.out _))))
  go_wp2_with fail
  refine (ref_size b hb _).mono ?_
  rintro _ _ ⟨rfl, rfl⟩
  go_wp2_with fail
  refine (HO.out _).mono ?_
  rintro _ _ ⟨q, r, f, rfl, ho, rfl⟩
  obtain ⟨hv, hq0⟩ := HW.out q r f ho
  clear HW HO HT ho
  rcases hv with ⟨rfl, rfl, rfl⟩ | ⟨rfl, h1, rfl, rfl⟩ | ⟨rfl, h1, h2, h3, rfl, rfl⟩ | ⟨rfl, h1, h2, h3, rfl, rfl⟩ | ⟨rfl, h1, h2, h3, h4, rfl, rfl⟩ | ⟨rfl, h1, h2, h3, h4, h5, rfl⟩ | ⟨rfl, h1, h2, h3, h4, h5, rfl⟩ <;>
  · go_wp2_with fail
    go_ret2
    first | exact ⟨rfl, below_drewN (Below.refl _ _) _⟩ | exact ⟨ret2 h5 rfl, below_drewN (Below.refl _ _) _⟩
theorem div_ways {a b h l : Int} {p : Int} (hp : 0 ≤ p) (ha : I64 a) (hb : I64 b) (hb0 : b ≠ 0) (hN : h * 18446744073709551616 + l = absI a * p) (hl : 0 ≤ l) (hl' : l < 18446744073709551616)
    (q r : Int) (f : Bool) (ho : OvR h l (absI b) 0 r q f) : DivWay q r f (decide (a < 0)) (decide (b < 0)) (ckV (quoF (a * p) b)) (ckE (quoF (a * p) b)) ∧ 0 ≤ q := by
  obtain ⟨o1, o2, o3, o4, o5⟩ := ho
  obtain ⟨o6, o7⟩ := o5 (by decide)
  rw [hN, Int.pow_zero, Int.ediv_one] at o2 o7
  rw [Int.mul_one] at o7
  refine ⟨?_, o3.1⟩
  have hm : 1 ≤ absI b := by unfold absI; split <;> omega
  have hA := (absI_le ha).1
  have hN0 : 0 ≤ absI a * p := Int.mul_nonneg hA hp
  have e := Int.mul_ediv_add_emod (absI a * p) (absI b)
  have e1 := Int.emod_nonneg (absI a * p) (show absI b ≠ 0 by omega)
  have e2 := Int.emod_lt_of_pos (absI a * p) (show 0 < absI b by omega)
  have e3 : 0 ≤ absI a * p / absI b := Int.ediv_nonneg hN0 (by omega)
  rw [← o2] at e e1 e2
  -- what is asked for, by the signs
  have same : (decide (a < 0) == decide (b < 0)) = true → quoF (a * p) b = absI a * p / absI b := by
    intro s
    unfold quoF absI
    rcases Int.lt_or_le a 0 with ca | ca <;> rcases Int.lt_or_le b 0 with cb | cb
    · rw [if_pos cb, if_pos ca, if_pos cb, Int.neg_mul]
    · exfalso; simp [ca, show ¬ b < 0 by omega] at s
    · exfalso; simp [cb, show ¬ a < 0 by omega] at s
    · rw [if_neg (by omega), if_neg (by omega), if_neg (by omega)]
  have other : (decide (a < 0) == decide (b < 0)) = false → quoF (a * p) b = -(absI a * p) / absI b := by
    intro s
    unfold quoF absI
    rcases Int.lt_or_le a 0 with ca | ca <;> rcases Int.lt_or_le b 0 with cb | cb
    · exfalso; simp [ca, cb] at s
    · rw [if_neg (by omega), if_pos ca, if_neg (by omega), Int.neg_mul, Int.neg_neg]
    · rw [if_pos cb, if_neg (by omega), if_pos cb]
    · exfalso; simp [show ¬ a < 0 by omega, show ¬ b < 0 by omega] at s
  have neg0 : r = 0 → -(absI a * p) / absI b = -(absI a * p / absI b) := by
    intro hr
    have : -(absI a * p) = -(absI a * p / absI b) * absI b := by rw [Int.neg_mul, Int.mul_comm (absI a * p / absI b)]; omega
    conv => lhs; rw [this]
    exact Int.mul_ediv_cancel _ (by omega)
  have neg1 : 0 < r → -(absI a * p) / absI b = -(absI a * p / absI b + 1) := by
    intro hr
    have : -(absI a * p) = (absI b - r) + -(absI a * p / absI b + 1) * absI b := by rw [Int.neg_mul, Int.add_mul, Int.one_mul, Int.mul_comm (absI a * p / absI b)]; omega
    have k : (absI b - r) / absI b = 0 := Int.ediv_eq_zero_of_lt (by omega) (by omega)
    conv => lhs; rw [this, Int.add_mul_ediv_right _ _ (show absI b ≠ 0 by omega), k]
    omega
  generalize absI a * p = N at *
  generalize absI b = m at *
  generalize quoF (a * p) b = S at *
  have big : ¬ h < m → 18446744073709551616 ≤ N / m := by
    intro c
    refine Int.le_ediv_of_mul_le (by omega) ?_
    have := Int.mul_le_mul_of_nonneg_left (show m ≤ h by omega) (show (0 : Int) ≤ 18446744073709551616 by decide)
    omega
  unfold DivWay
  generalize (decide (a < 0) == decide (b < 0)) = s at *
  have inn : ∀ {z}, S = z → I64 z → ckV S = z ∧ ckE S = 0 := fun h1 h2 => by rw [h1]; exact ⟨ckV_in h2, ckE_in h2⟩
  have out : ∀ {z}, S = z → ¬ I64 z → ckV S = 0 ∧ ckE S = 2 := fun h1 h2 => by rw [h1]; exact ⟨ckV_out h2, ckE_out h2⟩
  have SV : (s = true ∧ S = N / m) ∨ (s = false ∧ 0 < r ∧ S = -(N / m + 1)) ∨ (s = false ∧ r = 0 ∧ S = -(N / m)) := by
    cases s
    · rcases Int.lt_or_le 0 r with c | c
      · right; left; exact ⟨rfl, c, (other rfl).trans (neg1 c)⟩
      · right; right; exact ⟨rfl, by omega, (other rfl).trans (neg0 (by omega))⟩
    · left; exact ⟨rfl, same rfl⟩
  by_cases hf : h < m
  · have hft := o6.2 hf
    have hq := o7 hf
    rw [← hq] at SV
    by_cases h63 : 9223372036854775808 < q
    · right; left
      have : ckV S = 0 ∧ ckE S = 2 := by
        rcases SV with ⟨_, c⟩ | ⟨_, _, c⟩ | ⟨_, _, c⟩ <;> exact out c (by unfold I64; omega)
      exact ⟨hft, h63, this⟩
    · rcases SV with ⟨c1, c⟩ | ⟨c1, c2, c⟩ | ⟨c1, c2, c⟩
      · by_cases hz : q = 9223372036854775808
        · right; right; left
          exact ⟨hft, by omega, c1, by simpa using hz, out c (by unfold I64; omega)⟩
        · right; right; right; left
          exact ⟨hft, by omega, c1, by simpa using hz, inn c (by have := o3.1; unfold I64; omega)⟩
      · by_cases hz : 9223372036854775808 < q + 1
        · right; right; right; right; left
          exact ⟨hft, by omega, c1, c2, hz, out c (by unfold I64; omega)⟩
        · right; right; right; right; right; left
          have i := inn c (by have := o3.1; unfold I64; omega)
          refine ⟨hft, by omega, c1, c2, by omega, ?_, i.2⟩
          rw [i.1, IntKind.wrap_u64, wrap64_eq]
          have := o3.1
          omega
      · right; right; right; right; right; right
        have i := inn c (by have := o3.1; unfold I64; omega)
        refine ⟨hft, by omega, c1, by omega, by omega, ?_, i.2⟩
        rw [i.1, IntKind.wrap_u64, wrap64_eq]
        have := o3.1
        omega
  · left
    have hff : f = false := by
      cases f
      · rfl
      · exact absurd (o6.1 rfl) hf
    have hb := big hf
    have : ckV S = 0 ∧ ckE S = 2 := by
      rcases SV with ⟨_, c⟩ | ⟨_, _, c⟩ | ⟨_, _, c⟩ <;> exact out c (by unfold I64; omega)
    exact ⟨hff, this⟩
theorem ref_Div (a b : Int) (k : Nat) (hk : k ≤ 30) (ha : I64 a) (hb : I64 b) (h0 : b ≠ 0) (w : World) :
    Calls Try.prog 32 #[.int .i64 a, .int .i64 b, .int .i64 k] w fun e w' => e = .returned (.tuple #[.int .i64 (ckV (quoF (a * 2 ^ k) b)), .int .i64 (ckE (quoF (a * 2 ^ k) b))]) ∧ Below w.heap.size w w' := by
  have hp := i64_pow hk
  have p1 := hp.2.1
  have p2 := hp.2.2
  have A := absI_le ha
  have B := absI_le hb
  have m0 : 0 ≤ absI a * 2 ^ k := Int.mul_nonneg A.1 (by omega)
  have m1 := Int.mul_le_mul A.2 p1 (show (0 : Int) ≤ 2 ^ k by omega) (by decide)
  have hm : 1 ≤ absI b := by unfold absI; split <;> omega
  refine Div_core a b (absI a * 2 ^ k / 18446744073709551616) (absI a * 2 ^ k % 18446744073709551616) k hk ha hb (by simpa using h0) _ _ rfl rfl p2 p1
    (hid fun W => ref_Times (absI a) (2 ^ k) ⟨A.1, by omega⟩ ⟨by omega, by omega⟩ W)
    (hid fun W => ref_over _ _ _ ⟨by omega, by omega⟩ ⟨by omega, by omega⟩ ⟨B.1, by omega⟩ hm W)
    _ _ (fun q r f ho => div_ways (by omega) ha hb h0 (by omega) (by omega) (by omega) q r f ho) w
end Go.Proofs.Ytnokomlekndgfaa
