
/- Qc: texts joined: TbE RefD TbD SfD SfE SfF SpA SpB SpC SpD TbK LnD SfG. -/
import Derived.Test.YtehbdnehlfplaaaGreatQa
import Derived.Test.YtehbdnehlfplaaaGreatQOver
import Derived.Test.YtehbdnehlfplaaaGreatQb
import Derived.Deep.QuietTactic
import Derived.BigQuiet
import Derived.Deep.MidRow
/- Powers and shares, number by number. Plain mathematics. -/
namespace Go.Proofs.YtehbdnehlfplaaaGreat
open Go.RowKit
set_option maxRecDepth 100000
set_option linter.unusedVariables false
def pwI (frac : Int) (z : List Int) : List Int := (powL frac z).map fun (p : Nat) => (p : Int)
theorem pwI_len (frac : Int) (z : List Int) : (pwI frac z).length = z.length := by unfold pwI; rw [List.length_map, powL_len]
theorem pwI_at {frac : Int} {z : List Int} {k : Nat} {x : Int} (hx : z[k]? = some x) : (pwI frac z)[k]? = some (expN (topZ z - x).toNat frac.toNat : Int) := by
  unfold pwI powL
  rw [List.getElem?_map, List.getElem?_map, hx]
  rfl
theorem pwI_next {frac : Int} {z : List Int} {k : Nat} {x : Int} (hx : z[k]? = some x) : (pwI frac z).take (k + 1) = (pwI frac z).take k ++ [(expN (topZ z - x).toNat frac.toNat : Int)] := by
  rw [List.take_add_one, pwI_at hx]
  rfl
theorem sum_app (l : List Int) (x : Int) : (l ++ [x]).sum = l.sum + x := by simp
theorem pwI_sum (frac : Int) (z : List Int) : ∀ k, 0 ≤ ((pwI frac z).take k).sum ∧ ((pwI frac z).take k).sum ≤ k * 1073741824
  | 0 => by simp
  | k + 1 => by
    obtain ⟨a, b⟩ := pwI_sum frac z k
    rw [List.take_add_one]
    by_cases h : k < z.length
    · rw [pwI_at (List.getElem?_eq_getElem h)]
      have := expN_up (y := (topZ z - z[k]).toNat) (f := frac.toNat)
      simp only [Option.toList]
      rw [sum_app]
      constructor <;> omega
    · rw [List.getElem?_eq_none (by rw [pwI_len]; omega)]
      simp only [Option.toList, List.append_nil]
      constructor <;> omega
theorem pwI_total (frac : Int) (z : List Int) : (pwI frac z).sum = ((powL frac z).sum : Int) := by
  unfold pwI
  generalize powL frac z = l
  induction l with
  | nil => rfl
  | cons x t ih => rw [List.map_cons, List.sum_cons, List.sum_cons, ih]; omega
theorem sofL_at2 {frac : Int} {z : List Int} {k : Nat} {x : Int} (hx : z[k]? = some x) : (sofL frac z)[k]? = some (shN (2 ^ frac.toNat) (powL frac z).sum (expN (topZ z - x).toNat frac.toNat) : Int) := by
  unfold sofL
  rw [List.getElem?_map]
  have : (powL frac z)[k]? = some (expN (topZ z - x).toNat frac.toNat) := by unfold powL; rw [List.getElem?_map, hx]; rfl
  rw [this]
  rfl
/-- A share is what the division tells. -/
theorem div_sh {p S k : Nat} (hS : 0 < S) (hp : p ≤ S) (hk : k ≤ 30) : ckV (quoF ((p : Int) * 2 ^ k) (S : Int)) = (shN (2 ^ k) S p : Int) ∧ ckE (quoF ((p : Int) * 2 ^ k) (S : Int)) = 0 := by
  have e : quoF ((p : Int) * 2 ^ k) (S : Int) = (shN (2 ^ k) S p : Int) := by
    unfold quoF shN
    rw [if_neg (by omega), Int.natCast_ediv, Int.natCast_mul, Int.natCast_pow]
    rfl
  have h1 : shN (2 ^ k) S p ≤ 2 ^ k := by
    unfold shN
    refine Nat.div_le_of_le_mul ?_
    exact Nat.mul_le_mul_right _ hp
  have h2 : 2 ^ k ≤ 2 ^ 30 := Nat.pow_le_pow_right (n := 2) (by decide) hk
  have h3 : I64 (shN (2 ^ k) S p : Int) := by unfold I64; omega
  rw [e]
  exact ⟨ckV_in h3, ckE_in h3⟩
theorem pow_le_sum {frac : Int} {z : List Int} {k : Nat} {x : Int} (hx : z[k]? = some x) : expN (topZ z - x).toNat frac.toNat ≤ (powL frac z).sum := by
  refine sum_mem ?_
  unfold powL
  exact List.mem_map.2 ⟨x, List.mem_of_getElem? hx, rfl⟩
theorem sofE_far {frac : Int} {z : List Int} {x : Int} (h1 : bstE z = 0) (h2 : 0 ≤ frac) (h3 : frac ≤ 30) (hx : x ∈ z) (h : x - topZ z < -9223372036854775807) : sofE frac z = 2 ∧ sofV frac z = [] := by
  have e : sofE frac z = 2 := by
    unfold sofE
    rw [if_neg (by omega), if_neg (by omega), if_pos]
    unfold farZ
    exact decide_eq_true ⟨x, hx, h⟩
  refine ⟨e, if_neg ?_⟩
  rw [e]
  decide
theorem sofE_arg {frac : Int} {z : List Int} (h1 : bstE z = 0) (h2 : frac < 0 ∨ 30 < frac) : sofE frac z = 1 ∧ sofV frac z = [] := by
  have e : sofE frac z = 1 := by
    unfold sofE
    rw [if_neg (by omega), if_pos h2]
  refine ⟨e, if_neg ?_⟩
  rw [e]
  decide
theorem sofE_bst {frac : Int} {z : List Int} (h1 : bstE z ≠ 0) : sofE frac z = bstE z ∧ sofV frac z = [] := by
  have e : sofE frac z = bstE z := by
    unfold sofE
    rw [if_pos h1]
  refine ⟨e, if_neg ?_⟩
  rw [e]
  exact h1
theorem sofE_in {frac : Int} {z : List Int} (h1 : bstE z = 0) (h2 : 0 ≤ frac) (h3 : frac ≤ 30) (h : ∀ k x, k < z.length → z[k]? = some x → -9223372036854775807 ≤ x - topZ z) : sofE frac z = 0 ∧ sofV frac z = sofL frac z := by
  have e : sofE frac z = 0 := sofE_ok.2 ⟨bstE_ok.1 h1, h2, h3, fun x hx => by
    obtain ⟨k, hk, rfl⟩ := List.mem_iff_getElem.1 hx
    exact h k _ hk (List.getElem?_eq_getElem hk)⟩
  exact ⟨e, if_pos e⟩
theorem top_at {z : List Int} (h : z ≠ []) : z[bstGo z z.length]? = some (topZ z) := by
  have h2 := bst_in h
  unfold topZ
  rw [List.getD_eq_getElem?_getD, List.getElem?_eq_getElem h2]
  rfl
end Go.Proofs.YtehbdnehlfplaaaGreat
namespace Go.Proofs.YtehbdnehlfplaaaGreat
open Go.RowKit
set_option maxHeartbeats 400000
set_option maxRecDepth 100000
set_option linter.unusedVariables false
/-- Which way the document's quotient goes: x, y tell the signs; V, E what it comes to. -/
def DivWay (q r : Int) (f x y : Bool) (V E : Int) : Prop :=
  (f = false ∧ V = 0 ∧ E = 2) ∨ (f = true ∧ 9223372036854775808 < q ∧ V = 0 ∧ E = 2) ∨
  (f = true ∧ q ≤ 9223372036854775808 ∧ (x == y) = true ∧ (q == 9223372036854775808) = true ∧ V = 0 ∧ E = 2) ∨
  (f = true ∧ q ≤ 9223372036854775807 ∧ (x == y) = true ∧ (q == 9223372036854775808) = false ∧ V = q ∧ E = 0) ∨
  (f = true ∧ q ≤ 9223372036854775808 ∧ (x == y) = false ∧ 0 < r ∧ 9223372036854775808 < q + 1 ∧ V = 0 ∧ E = 2) ∨
  (f = true ∧ q ≤ 9223372036854775808 ∧ (x == y) = false ∧ 0 < r ∧ q + 1 ≤ 9223372036854775808 ∧ wrap64 (IntKind.u64.wrap (-(q + 1))) = V ∧ E = 0) ∨
  (f = true ∧ q ≤ 9223372036854775808 ∧ (x == y) = false ∧ ¬ 0 < r ∧ q ≤ 9223372036854775808 ∧ wrap64 (IntKind.u64.wrap (-q)) = V ∧ E = 0)
theorem quietLd {P : Program} {f : FuncId} {args : Array Value} {w : World} {n : Nat} {v : Value}
    (h : Calls P f args (w.drewN n) fun e w' => e = .returned v ∧ w.drewN n = w') : Calls P f args (w.drewN n) fun e w'' => e = .returned v ∧ ∃ m, w'' = w.drewN m :=
  h.mono fun _ _ ⟨he, hm⟩ => ⟨he, n, hm.symm⟩
theorem Div_core (a b h l : Int) (k : Nat) (hk : k ≤ 30) (ha : I64 a) (hb : I64 b) (b0 : (b == 0) = false) (x y : Bool) (d1 : decide (a < 0) = x) (d2 : decide (b < 0) = y) (p1 : 1 ≤ (2 : Int) ^ k) (p2 : (2 : Int) ^ k ≤ 1073741824)
    (HT : Hid (∀ W, Calls Tryz.prog 80 #[.int .u64 (absI a), .int .u64 (2 ^ k)] W fun e W' => e = .returned (.tuple #[.int .u64 h, .int .u64 l]) ∧ W = W'))
    (HO : Hid (∀ W, Calls Tryz.prog 84 #[.int .u64 h, .int .u64 l, .int .u64 (absI b)] W (OverPost h l (absI b) W)))
    (V E : Int) (hw : ∀ q r f, OvR h l (absI b) 0 r q f → DivWay q r f x y V E ∧ 0 ≤ q) (w : World) :
    Calls Tryz.prog 62 #[.int .i64 a, .int .i64 b, .int .i64 k] w fun e w' => e = .returned (.tuple #[.int .i64 V, .int .i64 E]) ∧ Below w.heap.size w w' := by
  have HW := hid hw
  clear hw
  go_enter Tryz.func62, Tryz.ntmps62
  go_wp2_with fail
  go_quiet ((first | (go_at_call 81; exact quietLd (ref_size a ha _)) | (go_at_call 80; exact quietLd (HT.out _))))
  go_wp2_with fail
  refine (ref_size b hb _).mono ?_
  rintro _ _ ⟨rfl, rfl⟩
  go_wp2_with fail
  refine (HO.out _).mono ?_
  rintro _ _ ⟨q, r, f, rfl, ho, rfl⟩
  obtain ⟨hv, hq0⟩ := HW.out q r f ho
  clear HW HO HT ho
  rcases hv with ⟨rfl, rfl, rfl⟩ | ⟨rfl, h1, rfl, rfl⟩ | ⟨rfl, h1, h2, h3, rfl, rfl⟩ | ⟨rfl, h1, h2, h3, rfl, rfl⟩ | ⟨rfl, h1, h2, h3, h4, rfl, rfl⟩ | ⟨rfl, h1, h2, h3, h4, h5, rfl⟩ | ⟨rfl, h1, h2, h3, h4, h5, rfl⟩ <;>
  · go_wp2_with fail
    go_ret2
    first | exact ⟨rfl, below_drewN (Below.refl _ _) _⟩ | exact ⟨ret2 h5 rfl, below_drewN (Below.refl _ _) _⟩
theorem div_ways {a b h l : Int} {p : Int} (hp : 0 ≤ p) (ha : I64 a) (hb : I64 b) (hb0 : b ≠ 0) (hN : h * 18446744073709551616 + l = absI a * p) (hl : 0 ≤ l) (hl' : l < 18446744073709551616)
    (q r : Int) (f : Bool) (ho : OvR h l (absI b) 0 r q f) : DivWay q r f (decide (a < 0)) (decide (b < 0)) (ckV (quoF (a * p) b)) (ckE (quoF (a * p) b)) ∧ 0 ≤ q := by
  obtain ⟨o1, o2, o3, o4, o5⟩ := ho
  obtain ⟨o6, o7⟩ := o5 (by decide)
  rw [hN, Int.pow_zero, Int.ediv_one] at o2 o7
  rw [Int.mul_one] at o7
  refine ⟨?_, o3.1⟩
  have hm : 1 ≤ absI b := by unfold absI; split <;> omega
  have hA := (absI_le ha).1
  have hN0 : 0 ≤ absI a * p := Int.mul_nonneg hA hp
  have e := Int.mul_ediv_add_emod (absI a * p) (absI b)
  have e1 := Int.emod_nonneg (absI a * p) (show absI b ≠ 0 by omega)
  have e2 := Int.emod_lt_of_pos (absI a * p) (show 0 < absI b by omega)
  have e3 : 0 ≤ absI a * p / absI b := Int.ediv_nonneg hN0 (by omega)
  rw [← o2] at e e1 e2
  -- what is asked for, by the signs
  have same : (decide (a < 0) == decide (b < 0)) = true → quoF (a * p) b = absI a * p / absI b := by
    intro s
    unfold quoF absI
    rcases Int.lt_or_le a 0 with ca | ca <;> rcases Int.lt_or_le b 0 with cb | cb
    · rw [if_pos cb, if_pos ca, if_pos cb, Int.neg_mul]
    · exfalso; simp [ca, show ¬ b < 0 by omega] at s
    · exfalso; simp [cb, show ¬ a < 0 by omega] at s
    · rw [if_neg (by omega), if_neg (by omega), if_neg (by omega)]
  have other : (decide (a < 0) == decide (b < 0)) = false → quoF (a * p) b = -(absI a * p) / absI b := by
    intro s
    unfold quoF absI
    rcases Int.lt_or_le a 0 with ca | ca <;> rcases Int.lt_or_le b 0 with cb | cb
    · exfalso; simp [ca, cb] at s
    · rw [if_neg (by omega), if_pos ca, if_neg (by omega), Int.neg_mul, Int.neg_neg]
    · rw [if_pos cb, if_neg (by omega), if_pos cb]
    · exfalso; simp [show ¬ a < 0 by omega, show ¬ b < 0 by omega] at s
  have neg0 : r = 0 → -(absI a * p) / absI b = -(absI a * p / absI b) := by
    intro hr
    have : -(absI a * p) = -(absI a * p / absI b) * absI b := by rw [Int.neg_mul, Int.mul_comm (absI a * p / absI b)]; omega
    conv => lhs; rw [this]
    exact Int.mul_ediv_cancel _ (by omega)
  have neg1 : 0 < r → -(absI a * p) / absI b = -(absI a * p / absI b + 1) := by
    intro hr
    have : -(absI a * p) = (absI b - r) + -(absI a * p / absI b + 1) * absI b := by rw [Int.neg_mul, Int.add_mul, Int.one_mul, Int.mul_comm (absI a * p / absI b)]; omega
    have k : (absI b - r) / absI b = 0 := Int.ediv_eq_zero_of_lt (by omega) (by omega)
    conv => lhs; rw [this, Int.add_mul_ediv_right _ _ (show absI b ≠ 0 by omega), k]
    omega
  generalize absI a * p = N at *
  generalize absI b = m at *
  generalize quoF (a * p) b = S at *
  have big : ¬ h < m → 18446744073709551616 ≤ N / m := by
    intro c
    refine Int.le_ediv_of_mul_le (by omega) ?_
    have := Int.mul_le_mul_of_nonneg_left (show m ≤ h by omega) (show (0 : Int) ≤ 18446744073709551616 by decide)
    omega
  unfold DivWay
  generalize (decide (a < 0) == decide (b < 0)) = s at *
  have inn : ∀ {z}, S = z → I64 z → ckV S = z ∧ ckE S = 0 := fun h1 h2 => by rw [h1]; exact ⟨ckV_in h2, ckE_in h2⟩
  have out : ∀ {z}, S = z → ¬ I64 z → ckV S = 0 ∧ ckE S = 2 := fun h1 h2 => by rw [h1]; exact ⟨ckV_out h2, ckE_out h2⟩
  have SV : (s = true ∧ S = N / m) ∨ (s = false ∧ 0 < r ∧ S = -(N / m + 1)) ∨ (s = false ∧ r = 0 ∧ S = -(N / m)) := by
    cases s
    · rcases Int.lt_or_le 0 r with c | c
      · right; left; exact ⟨rfl, c, (other rfl).trans (neg1 c)⟩
      · right; right; exact ⟨rfl, by omega, (other rfl).trans (neg0 (by omega))⟩
    · left; exact ⟨rfl, same rfl⟩
  by_cases hf : h < m
  · have hft := o6.2 hf
    have hq := o7 hf
    rw [← hq] at SV
    by_cases h63 : 9223372036854775808 < q
    · right; left
      have : ckV S = 0 ∧ ckE S = 2 := by
        rcases SV with ⟨_, c⟩ | ⟨_, _, c⟩ | ⟨_, _, c⟩ <;> exact out c (by unfold I64; omega)
      exact ⟨hft, h63, this⟩
    · rcases SV with ⟨c1, c⟩ | ⟨c1, c2, c⟩ | ⟨c1, c2, c⟩
      · by_cases hz : q = 9223372036854775808
        · right; right; left
          exact ⟨hft, by omega, c1, by simpa using hz, out c (by unfold I64; omega)⟩
        · right; right; right; left
          exact ⟨hft, by omega, c1, by simpa using hz, inn c (by have := o3.1; unfold I64; omega)⟩
      · by_cases hz : 9223372036854775808 < q + 1
        · right; right; right; right; left
          exact ⟨hft, by omega, c1, c2, hz, out c (by unfold I64; omega)⟩
        · right; right; right; right; right; left
          have i := inn c (by have := o3.1; unfold I64; omega)
          refine ⟨hft, by omega, c1, c2, by omega, ?_, i.2⟩
          rw [i.1, IntKind.wrap_u64, wrap64_eq]
          have := o3.1
          omega
      · right; right; right; right; right; right
        have i := inn c (by have := o3.1; unfold I64; omega)
        refine ⟨hft, by omega, c1, by omega, by omega, ?_, i.2⟩
        rw [i.1, IntKind.wrap_u64, wrap64_eq]
        have := o3.1
        omega
  · left
    have hff : f = false := by
      cases f
      · rfl
      · exact absurd (o6.1 rfl) hf
    have hb := big hf
    have : ckV S = 0 ∧ ckE S = 2 := by
      rcases SV with ⟨_, c⟩ | ⟨_, _, c⟩ | ⟨_, _, c⟩ <;> exact out c (by unfold I64; omega)
    exact ⟨hff, this⟩
theorem ref_Div (a b : Int) (k : Nat) (hk : k ≤ 30) (ha : I64 a) (hb : I64 b) (h0 : b ≠ 0) (w : World) :
    Calls Tryz.prog 62 #[.int .i64 a, .int .i64 b, .int .i64 k] w fun e w' => e = .returned (.tuple #[.int .i64 (ckV (quoF (a * 2 ^ k) b)), .int .i64 (ckE (quoF (a * 2 ^ k) b))]) ∧ Below w.heap.size w w' := by
  have hp := i64_pow hk
  have p1 := hp.2.1
  have p2 := hp.2.2
  have A := absI_le ha
  have B := absI_le hb
  have m0 : 0 ≤ absI a * 2 ^ k := Int.mul_nonneg A.1 (by omega)
  have m1 := Int.mul_le_mul A.2 p1 (show (0 : Int) ≤ 2 ^ k by omega) (by decide)
  have hm : 1 ≤ absI b := by unfold absI; split <;> omega
  refine Div_core a b (absI a * 2 ^ k / 18446744073709551616) (absI a * 2 ^ k % 18446744073709551616) k hk ha hb (by simpa using h0) _ _ rfl rfl p2 p1
    (hid fun W => ref_Times (absI a) (2 ^ k) ⟨A.1, by omega⟩ ⟨by omega, by omega⟩ W)
    (hid fun W => ref_over _ _ _ ⟨by omega, by omega⟩ ⟨by omega, by omega⟩ ⟨B.1, by omega⟩ hm W)
    _ _ (fun q r f ho => div_ways (by omega) ha hb h0 (by omega) (by omega) (by omega) q r f ho) w
theorem ref_Quot (a b : Int) (ha : I64 a) (hb : I64 b) (h0 : b ≠ 0) (w : World) :
    Calls Tryz.prog 38 #[.int .i64 a, .int .i64 b] w fun e w' => e = .returned (.tuple #[.int .i64 (ckV (quoF a b)), .int .i64 (ckE (quoF a b))]) ∧ Below w.heap.size w w' := by
  have h := fun W => ref_Div a b 0 (by omega) ha hb h0 W
  simp only [Int.pow_zero, Int.mul_one, Int.natCast_zero] at h
  have H := hid h
  clear h
  go_enter Tryz.func38, Tryz.ntmps38
  go_wp2_with fail
  refine (H.out _).mono ?_
  rintro e w1 ⟨rfl, hb1⟩
  go_wp2_with fail
  go_ret2
  exact ⟨rfl, hb1⟩
end Go.Proofs.YtehbdnehlfplaaaGreat
/- Shares, by the document. -/
namespace Go.Proofs.YtehbdnehlfplaaaGreat
open Go.RowKit
set_option maxHeartbeats 2000000
set_option maxRecDepth 100000
set_option linter.unusedVariables false
theorem ref_Soft {A : Option Addr} {c : Nat} (frac : Int) (z : List Int) (hz : z.length ≤ 9223372036854775807) (iz : I64s z) (w : World) (ra : Rd (Value.int .i64) w w.heap.size A z) :
    Calls Tryz.prog 58 #[.int .i64 frac, .slice A z.length c] w (OwnInts (sofV frac z) (sofE frac z) w) := by
  have CB := hid (ref_Best (A := A) (c := c) z hz w ra)
  by_cases hB : bstE z = 0
  · have hB2 : bstN z = bstGo z z.length := if_pos hB
    rw [hB, hB2] at CB
    obtain ⟨hne, hl4⟩ := bstE_ok.1 hB
    obtain ⟨b, hb⟩ : ∃ b, bstGo z z.length = b := ⟨_, rfl⟩
    have hbl := bst_in hne
    have htop := top_at hne
    rw [hb] at CB hbl htop
    by_cases h1 : frac < 0
    · obtain ⟨e1, e2⟩ := sofE_arg hB (Or.inl h1)
      rw [e1, e2]
      clear hB hB2 e1 e2 ra hb hbl htop
      go_enter Tryz.func58, Tryz.ntmps58
      go_wp2_with fail
      refine CB.out.mono ?_
      rintro _ w1 ⟨rfl, hb1⟩
      go_wp2_with fail
      go_ret2
      exact ⟨none, 0, rfl, own_nil _ _ _, hb1⟩
    by_cases h2 : frac > 30
    · obtain ⟨e1, e2⟩ := sofE_arg hB (Or.inr (show 30 < frac by omega))
      rw [e1, e2]
      clear hB hB2 e1 e2 ra hb hbl htop
      go_enter Tryz.func58, Tryz.ntmps58
      go_wp2_with fail
      refine CB.out.mono ?_
      rintro _ w1 ⟨rfl, hb1⟩
      go_wp2_with fail
      go_ret2
      exact ⟨none, 0, rfl, own_nil _ _ _, hb1⟩
    obtain ⟨f, rfl⟩ : ∃ f : Nat, frac = (f : Int) := ⟨frac.toNat, by omega⟩
    have hf : f ≤ 30 := by omega
    obtain ⟨top, ht⟩ : ∃ top, topZ z = top := ⟨_, rfl⟩
    rw [ht] at htop
    have it : I64 top := iz.at_ htop
    have hge : ∀ k x, z[k]? = some x → x ≤ top := fun k x hx => by rw [← ht]; exact topZ_ge (List.mem_of_getElem? hx)
    obtain ⟨M, hM⟩ : ∃ M, z.length = M := ⟨_, rfl⟩
    have hsum0 := pow_sum (frac := (f : Int)) hne (by omega)
    have HB := hid hB
    have HNE := hid hne
    have HF := hid hf
    have HT := hid htop
    have HTT := hid ht
    have HG := hid hge
    have HI := hid iz
    have HIT := hid it
    have HM := hid hM
    have RA := hid ra
    have HS0 := hid hsum0
    rw [hM] at hbl hl4 CB ⊢
    clear hB hB2 ra hb htop ht iz it hM hge hne hsum0 hz
    have hM4 : M ≤ 4096 := hl4
    clear hl4
    obtain ⟨vV, hvV⟩ : ∃ vV, sofV (f : Int) z = vV := ⟨_, rfl⟩
    obtain ⟨vE, hvE⟩ : ∃ vE, sofE (f : Int) z = vE := ⟨_, rfl⟩
    rw [hvV, hvE]
    have HV : Hid (sofV (f : Int) z = vV ∧ sofE (f : Int) z = vE) := hid ⟨hvV, hvE⟩
    obtain ⟨PW, hPW⟩ : ∃ PW, pwI (f : Int) z = PW := ⟨_, rfl⟩
    have HPW := hid hPW
    have hPL : PW.length = M := by rw [← hPW, pwI_len]; exact HM.out
    have HPL := hid hPL
    clear hvV hvE hPW hPL
    go_enter Tryz.func58, Tryz.ntmps58
    go_wp2_with fail
    refine CB.out.mono ?_
    rintro _ w1 ⟨rfl, hb1⟩
    have HB1 := hid hb1
    clear CB hb1
    go_wp2_with fail
    go_loopw [8, 9, 11, 12, 13, 14, 36] (fun xl xs _ _ _ _ xi wr => ∃ (k : Nat) (S : List Int) (A2 : Option Addr) (c2 : Nat), k ≤ M ∧ xi = .int .i64 (k : Int) ∧ xl = .slice A2 S.length c2 ∧ xs = .int .i64 S.sum ∧ S = PW.take k ∧ wr.ownsRow w.heap.size 2 1 (.slice A2 S.length c2) S.length (S.map (Value.int .i64)) ∧ Below w.heap.size w wr ∧ (∀ j x, j < k → z[j]? = some x → -9223372036854775807 ≤ x - top)) (fun _ _ _ _ _ _ xi _ => M - (intOf xi).toNat)
    case atStart => exact ⟨0, [], none, 0, by omega, rfl, rfl, rfl, rfl, own_nil _ _ _, HB1.out, fun j x hj => by omega⟩
    case round =>
      obtain ⟨k, S, A2, c2, hk, rfl, rfl, rfl, hS, ho, hbel, hfar⟩ := hrel
      have hSl : S.length = k := by rw [hS, List.length_take, HPL.out]; omega
      have hSs : 0 ≤ S.sum ∧ S.sum ≤ k * 1073741824 := by rw [hS, ← HPW.out]; exact pwI_sum _ _ k
      have HSk := hid hS
      have HO := hid ho
      have HFR := hid hfar
      have HBL := hid hbel
      clear hS ho hfar HB1
      by_cases hlt : k < M
      · obtain ⟨b1, o1, x, rfl, l1, en, c1⟩ := (RA.out.on hbel).at_ (k := k) (by rw [HM.out]; exact hlt)
        obtain ⟨b2, o2, y, e2, l2, em, d2⟩ := (RA.out.on hbel).at_ (k := b) (by rw [HM.out]; exact hbl)
        obtain rfl : top = y := Option.some.inj (HT.out.symm.trans em)
        cases e2
        have ix : I64 x := HI.out.at_ en
        have hxt : x ≤ top := HG.out k x en
        have CS := hid (ref_Sub x top ix HIT.out wr)
        have HX := hid en
        have hit := HIT.out
        clear hbel en em
        by_cases hA : I64 (x - top)
        · rw [ckV_in hA, ckE_in hA] at CS
          have CE := hid (ref_Exp (f : Int) (x - top) hA wr)
          by_cases hmin : x - top = -9223372036854775808
          · obtain ⟨g1, g2⟩ := exp_min (frac := (f : Int)) (show ¬ ((f : Int) < 0 ∨ 30 < (f : Int) ∨ 0 < x - top) by have := HF.out; omega) hmin
            rw [g1, g2] at CE
            obtain ⟨g3, g4⟩ := sofE_far HB.out (show 0 ≤ (f : Int) by omega) (by have := HF.out; omega) (List.mem_of_getElem? HX.out) (show x - topZ z < -9223372036854775807 by rw [HTT.out]; omega)
            have hv1 : vV = [] := by rw [← HV.out.1, g4]
            have hv2 : vE = 2 := by rw [← HV.out.2, g3]
            rw [hv1, hv2]
            obtain ⟨D, hD⟩ : ∃ D, x - top = D := ⟨_, rfl⟩
            rw [hD] at CS CE
            clear hv1 hv2 g1 g2 g3 g4 hmin hA hD ix hit hxt hSs
            go_wp2_with fail
            refine CS.out.mono ?_
            rintro _ _ ⟨rfl, rfl⟩
            go_wp2_with fail
            refine CE.out.mono ?_
            rintro _ w4 ⟨rfl, hb4⟩
            go_wp2_with fail
            go_ret2
            exact ⟨none, 0, rfl, own_nil _ _ _, HBL.out.trans (hb4.mono HBL.out.size)⟩
          · obtain ⟨g1, g2⟩ := exp_ok (frac := (f : Int)) (show ¬ ((f : Int) < 0 ∨ 30 < (f : Int) ∨ 0 < x - top) by have := HF.out; omega) hmin
            rw [g1, g2, show -(x - top) = top - x by omega] at CE
            have hn := pwI_next (frac := (f : Int)) HX.out
            rw [HTT.out, HPW.out] at hn
            have hpu := expN_up (y := (top - x).toNat) (f := (f : Int).toNat)
            obtain ⟨p, hp⟩ : ∃ p, expN (top - x).toNat (f : Int).toNat = p := ⟨_, rfl⟩
            rw [hp] at CE hn hpu
            have hfn : -9223372036854775807 ≤ x - top := by unfold I64 at hA; omega
            obtain ⟨D, hD⟩ : ∃ D, x - top = D := ⟨_, rfl⟩
            have HFN : Hid (-9223372036854775807 ≤ x - top) := hid hfn
            rw [hD] at CS CE
            have HN := hid hn
            have ts : IntKind.i64.wrap (S.sum + (p : Int)) = (S ++ [(p : Int)]).sum := by rw [sum_app]; exact Go.IntWalk.i64_in _ (by omega)
            obtain ⟨SS, hSS⟩ : ∃ SS, (S ++ [(p : Int)]).sum = SS := ⟨_, rfl⟩
            rw [hSS] at ts
            have HSS := hid hSS
            have HSl := hid hSl
            clear g1 g2 hp hmin hA hfn hD ix hit hxt hn hpu hSs hSS hSl
            go_wp2_with fail
            refine CS.out.mono ?_
            rintro _ _ ⟨rfl, rfl⟩
            go_wp2_with fail
            refine CE.out.mono ?_
            rintro _ w4 ⟨rfl, hb4⟩
            have kk : Below w.heap.size w w4 := HBL.out.trans (hb4.mono HBL.out.size)
            have HK := hid kk
            have hr0 : Rd (Value.int .i64) (w4.alloc (.cells #[.int .i64 (p : Int)] 2)) _ (some ⟨w4.heap.size, 0, none⟩) [(p : Int)] := rd_one (one_cell w4 (.int .i64 (p : Int)) 2).1
            have h0' := own_on (own_on HO.out hb4) ((Below.refl w4.heap.size w4).alloc (Nat.le_refl _) (.cells #[.int .i64 (p : Int)] 2))
            clear hb4 kk
            go_wp2_with (at_builtin; refine wpList_app (Value.int .i64) (fun _ => rfl) _ rfl _ _ 22 rfl w.heap.size 2 (.int .i64 0) 8 Tryz.underlying22 info_i64 rfl S _ _ rfl h0' [(p : Int)] _ 1 _ rfl hr0 (by have := HSl.out; simp [maxLen]; omega) (by have := HSl.out; simp; omega) (by have := HK.out.size; simp; omega) ?_)
            rintro S' A' c' w5 hS' ho' hb5 _
            have HS' := hid hS'
            have HO' := hid ho'
            have HK5 : Hid (Below w.heap.size w w5) := hid ((HK.out.alloc HK.out.size _).trans hb5)
            clear hS' ho' h0' hr0 hb5
            go_wp2_with fail
            go_roundw
            case rel =>
              refine ⟨k + 1, S', A', c', by omega, by go_num, rfl, ?_, ?_, HO'.out, HK5.out, ?_⟩
              · rw [HS'.out, HSS.out]
              · rw [HS'.out, HN.out, HSk.out]
              · intro j x' hj hx'
                by_cases e : j = k
                · subst e
                  obtain rfl : x = x' := Option.some.inj (HX.out.symm.trans hx')
                  exact HFN.out
                · exact HFR.out j x' (by omega) hx'
            case measure => simp [intOf]; omega
        · obtain ⟨g3, g4⟩ := sofE_far HB.out (show 0 ≤ (f : Int) by omega) (by have := HF.out; omega) (List.mem_of_getElem? HX.out) (show x - topZ z < -9223372036854775807 by rw [HTT.out]; unfold I64 at *; omega)
          have hv1 : vV = [] := by rw [← HV.out.1, g4]
          have hv2 : vE = 2 := by rw [← HV.out.2, g3]
          rw [hv1, hv2]
          rw [ckV_out hA, ckE_out hA] at CS
          clear hv1 hv2 g3 g4 hA ix hit hxt hSs
          go_wp2_with fail
          refine CS.out.mono ?_
          rintro _ _ ⟨rfl, rfl⟩
          go_wp2_with fail
          go_ret2
          exact ⟨none, 0, rfl, own_nil _ _ _, HBL.out⟩
      · obtain rfl : k = M := by omega
        have hSP : S = PW := by rw [HSk.out]; exact List.take_of_length_le (by rw [HPL.out]; exact Nat.le_refl _)
        subst hSP
        obtain ⟨g3, g4⟩ := sofE_in HB.out (show 0 ≤ (f : Int) by omega) (by have := HF.out; omega) (fun j x hj hx => by rw [HTT.out]; exact HFR.out j x (by rw [← HM.out]; exact hj) hx)
        have hv1 : vV = sofL (f : Int) z := by rw [← HV.out.1, g4]
        have hv2 : vE = 0 := by rw [← HV.out.2, g3]
        subst hv2
        have htot := pwI_total (f : Int) z
        rw [HPW.out] at htot
        obtain ⟨T, hT⟩ : ∃ T, (powL (f : Int) z).sum = T := ⟨_, rfl⟩
        rw [hT] at htot
        have HTs : Hid ((powL (f : Int) z).sum = T) := hid hT
        have hT0 : 0 < T := by rw [← hT]; exact HS0.out
        have hT2 : (T : Int) ≤ k * 1073741824 := by rw [← htot]; exact hSs.2
        have RP : Hid (Rd (Value.int .i64) wr wr.heap.size A2 S) := hid (own_rd HO.out)
        have hSL : sofL (f : Int) z = vV := hv1.symm
        have HSL := hid hSL
        have hsl : vV.length = k := by rw [hv1, sofL_len]; exact HM.out
        have HSLl := hid hsl
        rw [htot, hSl]
        have HB2 := hid hbel
        clear hv1 g3 g4 hT htot hSs hSL hbel HV hsl
        obtain ⟨w8, rfl⟩ : ∃ w8, w8 = wr := ⟨_, rfl⟩
        go_wp2_with fail
        go_loopw [15, 17, 18, 19, 71] (fun xl _ _ _ xi wr => ∃ (j : Nat) (Q : List Int) (A3 : Option Addr) (c3 : Nat), j ≤ k ∧ xi = .int .i64 (j : Int) ∧ xl = .slice A3 Q.length c3 ∧ Q = vV.take j ∧ wr.ownsRow w8.heap.size 2 1 (.slice A3 Q.length c3) Q.length (Q.map (Value.int .i64)) ∧ Below w8.heap.size w8 wr) (fun _ _ _ _ xi _ => k - (intOf xi).toNat)
        case atStart => exact ⟨0, [], none, 0, by omega, rfl, rfl, rfl, own_nil _ _ _, Below.refl _ _⟩
        case round =>
          obtain ⟨j, Q, A3, c3, hj, rfl, rfl, hQ, ho3, hb3⟩ := hrel
          have hQl : Q.length = j := by rw [hQ, List.length_take, HSLl.out]; omega
          have HQ := hid hQ
          have HO3 := hid ho3
          have HB3 := hid hb3
          have HQl := hid hQl
          clear hQ ho3 hQl
          by_cases hlj : j < k
          · obtain ⟨b4, o4, pv, rfl, l4, en, c4⟩ := (RP.out.on hb3).at_ (k := j) (by rw [hSl]; exact hlj)
            obtain ⟨xj, hzj⟩ : ∃ xj, z[j]? = some xj := ⟨_, List.getElem?_eq_getElem (show j < z.length by rw [HM.out]; exact hlj)⟩
            have e1 := pwI_at (frac := (f : Int)) hzj
            have e2 := sofL_at2 (frac := (f : Int)) hzj
            have e3 := pow_le_sum (frac := (f : Int)) hzj
            rw [HPW.out] at e1
            rw [HSL.out, HTs.out] at e2
            rw [HTs.out] at e3
            obtain ⟨p, hp⟩ : ∃ p, expN (topZ z - xj).toNat (f : Int).toNat = p := ⟨_, rfl⟩
            rw [hp] at e1 e2 e3
            obtain rfl : (p : Int) = pv := Option.some.inj (e1.symm.trans en)
            obtain ⟨u1, u2⟩ := div_sh (p := p) (S := T) (k := f) hT0 e3 HF.out
            have CD := hid (ref_Div (p : Int) (T : Int) f HF.out (by unfold I64; omega) (by unfold I64; omega) (by omega) wr)
            rw [u1, u2] at CD
            rw [show (f : Int).toNat = f from rfl] at e2
            obtain ⟨s, hs⟩ : ∃ s, shN (2 ^ f) T p = s := ⟨_, rfl⟩
            rw [hs] at CD e2
            have hnx : vV.take (j + 1) = vV.take j ++ [(s : Int)] := by rw [List.take_add_one, e2]; rfl
            have HNX := hid hnx
            clear e1 e2 e3 en hzj hp u1 u2 hs hnx hb3
            go_wp2_with fail
            refine CD.out.mono ?_
            rintro _ w4 ⟨rfl, hb4⟩
            have kk : Below w8.heap.size w8 w4 := HB3.out.trans (hb4.mono HB3.out.size)
            have HK := hid kk
            have hr0 : Rd (Value.int .i64) (w4.alloc (.cells #[.int .i64 (s : Int)] 2)) _ (some ⟨w4.heap.size, 0, none⟩) [(s : Int)] := rd_one (one_cell w4 (.int .i64 (s : Int)) 2).1
            have h0' := own_on (own_on HO3.out hb4) ((Below.refl w4.heap.size w4).alloc (Nat.le_refl _) (.cells #[.int .i64 (s : Int)] 2))
            clear hb4 kk
            go_wp2_with (at_builtin; refine wpList_app (Value.int .i64) (fun _ => rfl) _ rfl _ _ 22 rfl w8.heap.size 2 (.int .i64 0) 8 Tryz.underlying22 info_i64 rfl Q _ _ rfl h0' [(s : Int)] _ 1 _ rfl hr0 (by have := HQl.out; simp [maxLen]; omega) (by have := HQl.out; simp; omega) (by have := HK.out.size; simp; omega) ?_)
            rintro S' A' c' w5 hS' ho' hb5 _
            have HS' := hid hS'
            have HO' := hid ho'
            have HK5 : Hid (Below w8.heap.size w8 w5) := hid ((HK.out.alloc HK.out.size _).trans hb5)
            clear hS' ho' h0' hr0 hb5
            go_wp2_with fail
            go_roundw
            case rel => exact ⟨j + 1, S', A', c', by omega, by go_num, rfl, by rw [HS'.out, HNX.out, HQ.out], HO'.out, HK5.out⟩
            case measure => simp [intOf]; omega
          · obtain rfl : j = k := by omega
            have hQP : Q = vV := by rw [HQ.out]; exact List.take_of_length_le (by rw [HSLl.out]; exact Nat.le_refl _)
            subst hQP
            go_wp2_with fail
            go_ret2
            exact ⟨A3, c3, rfl, own_base HO3.out HB2.out.size, HB2.out.trans (HB3.out.mono HB2.out.size)⟩
  · obtain ⟨e1, e2⟩ := sofE_bst (frac := frac) hB
    have e3 : bstN z = 0 := if_neg hB
    rw [e1, e2]
    rw [e3] at CB
    obtain ⟨E, hE⟩ : ∃ E, bstE z = E := ⟨_, rfl⟩
    rw [hE] at CB hB ⊢
    have hne : (E != 0) = true := by simpa using hB
    clear e1 e2 e3 hE hB ra
    go_enter Tryz.func58, Tryz.ntmps58
    go_wp2_with fail
    refine CB.out.mono ?_
    rintro _ w1 ⟨rfl, hb1⟩
    go_wp2_with fail
    go_ret2
    exact ⟨none, 0, rfl, own_nil _ _ _, hb1⟩
end Go.Proofs.YtehbdnehlfplaaaGreat
/- Lines of classes, by the document: shares, the class. -/
namespace Go.Proofs.YtehbdnehlfplaaaGreat
open Go.RowKit
set_option maxHeartbeats 2000000
set_option maxRecDepth 100000
set_option linter.unusedVariables false
theorem ref_Tell15 {Au Ax : Option Addr} {cu cx : Nat} (o : Int) (ho : I64 o) (u x : List Int) (hu : u.length ≤ cu) (hcu : cu ≤ 9223372036854775807) (iu : I64s u) (hx : x.length ≤ 1099511627776) (ix : I64s x) (f : Int) (w : World)
    (ru : Rd (Value.int .i64) w w.heap.size Au u) (rx : Rd (Value.int .i64) w w.heap.size Ax x) :
    Calls Tryz.prog 35 #[.int .i64 o, .slice Au u.length cu, .slice Ax x.length cx, .int .i64 f] w (OwnInts (stV o u x f) (stE o u x f) w) := by
  have CL := hid (ref_lines15 (Au := Au) (Ax := Ax) (cu := cu) (cx := cx) o ho u x hu hcu iu hx ix f w ru rx)
  obtain ⟨U, hU⟩ : ∃ U, u.length = U := ⟨_, rfl⟩
  obtain ⟨N, hN⟩ : ∃ N, x.length = N := ⟨_, rfl⟩
  rw [hU, hN] at CL ⊢
  by_cases h1 : lzE o u x f = 0
  · have e0 : lzO o u x f = lzV o u x f := if_pos h1
    have eE : stE o u x f = sofE f (lzV o u x f) := by unfold stE; rw [if_neg (by simp [h1])]
    have eV : stV o u x f = sofV f (lzV o u x f) := by unfold stV sofV; rw [eE]
    have o8 := (rwE_ok.1 (lzE_ok.1 h1).1).2.1
    have CS := hid (fun (A : Option Addr) (c : Nat) (W : World) h => ref_Soft (A := A) (c := c) f (lzV o u x f) (by rw [lzV_len]; omega) (lzV_i64 o u x f) W h)
    rw [h1, e0] at CL
    rw [eE, eV]
    obtain ⟨z, hz⟩ : ∃ z, lzV o u x f = z := ⟨_, rfl⟩
    rw [hz] at CL CS ⊢
    clear h1 e0 eE eV o8 hz hU hN hu hcu iu hx ix ru rx ho
    go_enter Tryz.func35, Tryz.ntmps35
    go_wp2_with fail
    refine CL.out.mono ?_
    rintro _ w1 ⟨A1, c1, rfl, ho1, hb1⟩
    have K1 := hid hb1
    have R1 := hid (own_rd ho1)
    clear ho1 hb1 CL
    go_wp2_with fail
    refine (CS.out _ _ _ R1.out).mono ?_
    rintro _ w2 ⟨A2, c2, rfl, ho2, hb2⟩
    have HO2 := hid ho2
    have K2 : Hid (Below w.heap.size w w2) := hid (K1.out.trans (hb2.mono K1.out.size))
    clear ho2 hb2
    go_wp2_with fail
    go_ret2
    exact ⟨A2, c2, rfl, own_base HO2.out K1.out.size, K2.out⟩
  · have eE : stE o u x f = lzE o u x f := by unfold stE; rw [if_pos h1]
    have eV : stV o u x f = [] := if_neg (by rw [eE]; exact h1)
    rw [eE, eV]
    obtain ⟨E, hE⟩ : ∃ E, lzE o u x f = E := ⟨_, rfl⟩
    rw [hE] at CL h1 ⊢
    have hne : (E != 0) = true := by simpa using h1
    clear h1 eE eV hE hU hN hu hcu iu hx ix ru rx ho
    go_enter Tryz.func35, Tryz.ntmps35
    go_wp2_with fail
    refine CL.out.mono ?_
    rintro _ w1 ⟨A1, c1, rfl, ho1, hb1⟩
    have K1 := hid hb1
    clear ho1 hb1 CL
    go_wp2_with fail
    go_ret2
    exact ⟨none, 0, rfl, own_nil _ _ _, K1.out⟩
theorem ref_Class15 {Au Ax : Option Addr} {cu cx : Nat} (o : Int) (ho : I64 o) (u x : List Int) (hu : u.length ≤ cu) (hcu : cu ≤ 9223372036854775807) (iu : I64s u) (hx : x.length ≤ 1099511627776) (ix : I64s x) (f : Int) (w : World)
    (ru : Rd (Value.int .i64) w w.heap.size Au u) (rx : Rd (Value.int .i64) w w.heap.size Ax x) :
    Calls Tryz.prog 22 #[.int .i64 o, .slice Au u.length cu, .slice Ax x.length cx, .int .i64 f] w fun e w' => e = .returned (.tuple #[.int .i64 (kcN o u x f : Int), .int .i64 (kcE o u x f)]) ∧ Below w.heap.size w w' := by
  have CL := hid (ref_lines15 (Au := Au) (Ax := Ax) (cu := cu) (cx := cx) o ho u x hu hcu iu hx ix f w ru rx)
  obtain ⟨U, hU⟩ : ∃ U, u.length = U := ⟨_, rfl⟩
  obtain ⟨N, hN⟩ : ∃ N, x.length = N := ⟨_, rfl⟩
  rw [hU, hN] at CL ⊢
  by_cases h1 : lzE o u x f = 0
  · have e0 : lzO o u x f = lzV o u x f := if_pos h1
    have eE : kcE o u x f = bstE (lzV o u x f) := by unfold kcE; rw [if_neg (by simp [h1])]
    have eV : kcN o u x f = bstN (lzV o u x f) := by unfold kcN bstN; rw [eE]
    have o8 := (rwE_ok.1 (lzE_ok.1 h1).1).2.1
    have CS := hid (fun (A : Option Addr) (c : Nat) (W : World) h => ref_Best (A := A) (c := c) (lzV o u x f) (by rw [lzV_len]; omega) W h)
    rw [h1, e0] at CL
    rw [eE, eV]
    obtain ⟨z, hz⟩ : ∃ z, lzV o u x f = z := ⟨_, rfl⟩
    rw [hz] at CL CS ⊢
    clear h1 e0 eE eV o8 hz hU hN hu hcu iu hx ix ru rx ho
    go_enter Tryz.func22, Tryz.ntmps22
    go_wp2_with fail
    refine CL.out.mono ?_
    rintro _ w1 ⟨A1, c1, rfl, ho1, hb1⟩
    have K1 := hid hb1
    have R1 := hid (own_rd ho1)
    clear ho1 hb1 CL
    go_wp2_with fail
    refine (CS.out _ _ _ R1.out).mono ?_
    rintro _ w2 ⟨rfl, hb2⟩
    have K2 : Hid (Below w.heap.size w w2) := hid (K1.out.trans (hb2.mono K1.out.size))
    clear hb2
    go_wp2_with fail
    go_ret2
    exact ⟨rfl, K2.out⟩
  · have eE : kcE o u x f = lzE o u x f := by unfold kcE; rw [if_pos h1]
    have eV : kcN o u x f = 0 := if_neg (by rw [eE]; exact h1)
    rw [eE, eV]
    obtain ⟨E, hE⟩ : ∃ E, lzE o u x f = E := ⟨_, rfl⟩
    rw [hE] at CL h1 ⊢
    have hne : (E != 0) = true := by simpa using h1
    clear h1 eE eV hE hU hN hu hcu iu hx ix ru rx ho
    go_enter Tryz.func22, Tryz.ntmps22
    go_wp2_with fail
    refine CL.out.mono ?_
    rintro _ w1 ⟨A1, c1, rfl, ho1, hb1⟩
    have K1 := hid hb1
    clear ho1 hb1 CL
    go_wp2_with fail
    go_ret2
    exact ⟨rfl, K1.out⟩
end Go.Proofs.YtehbdnehlfplaaaGreat
/- Lines of classes, by the document: how far they are off. -/
namespace Go.Proofs.YtehbdnehlfplaaaGreat
open Go.RowKit
set_option maxHeartbeats 2000000
set_option maxRecDepth 100000
set_option linter.unusedVariables false
theorem sf_pow {f : Int} (h0 : 0 ≤ f) (h1 : f ≤ 30) : ∃ K T : Nat, f = (K : Int) ∧ (2 : Int) ^ f.toNat = (T : Int) ∧ T ≤ 1073741824 ∧ Hid (IntKind.i64.wrap ((2 : Int) ^ K) = (T : Int) ∧ wrap64 ((2 : Int) ^ (min K 64)) = (T : Int) ∧ IntKind.i64.wrap ((2 : Int) ^ (min K 64)) = (T : Int) ∧ ¬ (K : Int) < 0) := by
  refine ⟨f.toNat, 2 ^ f.toNat, by omega, by simp, ?_, ?_⟩
  · have : 2 ^ f.toNat ≤ 2 ^ 30 := Nat.pow_le_pow_right (n := 2) (by decide) (by omega)
    omega
  · have e : (2 : Int) ^ f.toNat = ((2 ^ f.toNat : Nat) : Int) := by simp
    have h : 2 ^ f.toNat ≤ 2 ^ 30 := Nat.pow_le_pow_right (n := 2) (by decide) (by omega)
    have hm : min f.toNat 64 = f.toNat := Nat.min_eq_left (by omega)
    rw [hm, e]
    generalize 2 ^ f.toNat = T at *
    have hk : ¬ ((f.toNat : Nat) : Int) < 0 := by omega
    exact hid ⟨Go.IntWalk.i64_in _ (by omega), Go.IntWalk.wrap64_in _ (by omega), Go.IntWalk.i64_in _ (by omega), hk⟩
theorem sf_less {v : Int} {T : Nat} (h0 : 0 ≤ v) (h1 : v ≤ (T : Int)) (h2 : T ≤ 1073741824) : ∃ y, v - (T : Int) = y ∧ Hid (IntKind.i64.wrap (v - (T : Int)) = y ∧ wrap64 (v - (T : Int)) = y) := ⟨v - (T : Int), rfl, hid ⟨Go.IntWalk.i64_in _ (by omega), Go.IntWalk.wrap64_in _ (by omega)⟩⟩
theorem ref_Off15 {Au Ax : Option Addr} {cu cx : Nat} (o : Int) (ho : I64 o) (u : List Int) (s : SmpV) (hu : u.length ≤ cu) (hcu : cu ≤ 9223372036854775807) (iu : I64s u) (hx : s.X.length ≤ 1099511627776) (ix : I64s s.X) (f : Int) (w : World)
    (ru : Rd (Value.int .i64) w w.heap.size Au u) (rx : Rd (Value.int .i64) w w.heap.size Ax s.X) :
    Calls Tryz.prog 18 #[.int .i64 o, .slice Au u.length cu, .agg #[.slice Ax s.X.length cx, .int .i64 s.Y], .int .i64 f] w (OwnInts (soV o u s f) (soE o u s f) w) := by
  obtain ⟨w2, hw2⟩ : ∃ w2, w.alloc (.cells #[.slice Ax s.X.length cx, .int .i64 s.Y] 36) = w2 := ⟨_, rfl⟩
  have hb2 : Below w.heap.size w w2 := by rw [← hw2]; go_grown
  have hs2 : w.heap.size < w2.heap.size := by rw [← hw2]; simp
  have c0 : w2.cell? ⟨w.heap.size, 0, none⟩ = some (.slice Ax s.X.length cx) := by rw [← hw2]; simp [go_sem]
  have c1 : w2.cell? ⟨w.heap.size, 1, none⟩ = some (.int .i64 s.Y) := by rw [← hw2]; simp [go_sem]
  have CT := hid (ref_Tell15 (Au := Au) (Ax := Ax) (cu := cu) (cx := cx) o ho u s.X hu hcu iu hx ix f w2 (ru.on hb2) (rx.on hb2))
  obtain ⟨U, hU⟩ : ∃ U, u.length = U := ⟨_, rfl⟩
  obtain ⟨N, hN⟩ : ∃ N, s.X.length = N := ⟨_, rfl⟩
  rw [hU, hN] at CT
  rw [hU]
  rw [hN] at c0 hw2 ⊢
  have HB2 := hid hb2
  by_cases h1 : stE o u s.X f = 0
  · have eE : soE o u s f = if s.Y < 0 ∨ o ≤ s.Y then 1 else 0 := by unfold soE; rw [if_neg (by simp [h1])]
    rw [h1] at CT
    obtain ⟨h4, h5⟩ := stE_ok.1 h1
    obtain ⟨f0, f1⟩ := (lzE_ok.1 h4).2.2.1
    obtain ⟨K, T, rfl, hT, hT3, hpw⟩ := sf_pow f0 f1
    obtain ⟨Y, hY⟩ : ∃ Y, s.Y = Y := ⟨_, rfl⟩
    rw [hY] at c1 hw2 eE ⊢
    have eV : soV o u s (K : Int) = if soE o u s (K : Int) = 0 then (stV o u s.X (K : Int)).set Y.toNat ((stV o u s.X (K : Int)).getD Y.toNat 0 - (T : Int)) else [] := by unfold soV; rw [hY, hT]
    have e1 : stV o u s.X (K : Int) = sofL (K : Int) (lzV o u s.X (K : Int)) := if_pos h1
    have hl := lzV_len o u s.X (K : Int)
    have hsl := sofL_len (K : Int) (lzV o u s.X (K : Int))
    obtain ⟨_, _, a3, _⟩ := sof_whole h5
    have o2 := (rwE_ok.1 (lzE_ok.1 h4).1).1
    obtain ⟨V, hV⟩ : ∃ V, stV o u s.X (K : Int) = V := ⟨_, rfl⟩
    rw [hV] at CT eV e1
    rw [← e1] at a3 hsl
    rw [hT] at a3
    obtain ⟨L, hL⟩ : ∃ L, V.length = L := ⟨_, rfl⟩
    have hLo : (L : Int) = o := by omega
    by_cases hy : Y < 0 ∨ o ≤ Y
    · rw [if_pos hy] at eE
      have eV2 : soV o u s (K : Int) = [] := by rw [eV, if_neg (by rw [eE]; decide)]
      rw [eE, eV2]
      clear eE eV eV2 e1 h1 h4 h5 hT hpw hV a3 hsl hl hU hN hY hu hcu iu hx ix ru rx hb2 f0 f1 ho o2 hLo
      by_cases hy1 : Y < 0
      · clear hy
        go_enter Tryz.func18, Tryz.ntmps18
        go_wp2_with fail
        refine CT.out.mono ?_
        rintro _ w3 ⟨A3, c3, rfl, ho3, hb3⟩
        have K3 : Hid (Below w.heap.size w w3) := hid (HB2.out.trans (hb3.mono HB2.out.size))
        have c1' := (hb3.cell (p := ⟨w.heap.size, 1, none⟩) hs2).trans c1
        clear hb3 ho3 hw2 c0 c1 CT
        go_wp2_with fail
        go_ret2
        exact ⟨none, 0, rfl, own_nil _ _ _, K3.out⟩
      · have hy2 : Y ≥ o := by omega
        clear hy
        go_enter Tryz.func18, Tryz.ntmps18
        go_wp2_with fail
        refine CT.out.mono ?_
        rintro _ w3 ⟨A3, c3, rfl, ho3, hb3⟩
        have K3 : Hid (Below w.heap.size w w3) := hid (HB2.out.trans (hb3.mono HB2.out.size))
        have c1' := (hb3.cell (p := ⟨w.heap.size, 1, none⟩) hs2).trans c1
        clear hb3 ho3 hw2 c0 c1 CT
        go_wp2_with fail
        go_ret2
        exact ⟨none, 0, rfl, own_nil _ _ _, K3.out⟩
    · rw [if_neg hy] at eE
      obtain ⟨q, rfl⟩ : ∃ q : Nat, Y = (q : Int) := ⟨Y.toNat, by omega⟩
      have hqL : q < L := by omega
      obtain ⟨v, hv⟩ : ∃ v, V.getD q 0 = v := ⟨_, rfl⟩
      have hvb := a3 v (by rw [← hv, List.getD_eq_getElem?_getD, List.getElem?_eq_getElem (by omega), Option.getD_some]; exact List.getElem_mem _)
      obtain ⟨y, hy', hys⟩ := sf_less hvb.1 hvb.2 hT3
      have eV2 : soV o u s (K : Int) = V.set q y := by rw [eV, if_pos eE, show ((q : Int)).toNat = q from rfl, hv, hy']
      rw [eE, eV2]
      have HLL := hid hL
      have hq0 : ¬ (q : Int) < 0 := by omega
      have hqo : ¬ (q : Int) ≥ o := by omega
      have hqi : (q : Int) < (L : Int) := by omega
      have HV := hid hv
      clear eE eV eV2 e1 h1 h4 h5 hT hV a3 hsl hl hU hN hY hu hcu iu hx ix ru rx hb2 f0 f1 ho o2 hLo hy hvb hy' hv hL
      go_enter Tryz.func18, Tryz.ntmps18
      go_wp2_with fail
      refine CT.out.mono ?_
      rintro _ w3 ⟨A3, c3, rfl, ho3, hb3⟩
      have K3 : Hid (Below w.heap.size w w3) := hid (HB2.out.trans (hb3.mono HB2.out.size))
      have c1' := (hb3.cell (p := ⟨w.heap.size, 1, none⟩) hs2).trans c1
      obtain ⟨g, rfl, hg, hc, hf⟩ := own_cellk ho3 (k := q) (by rw [HLL.out]; exact hqL)
      rw [HV.out] at hc
      have hst := ((own_on ho3 ((Below.refl _ w3).drew)).stored q (.int .i64 y)).1
      rw [← List.map_set, HLL.out] at hst
      rw [HLL.out]
      have HST := hid hst
      obtain ⟨p1, p2, p3, p4⟩ := hpw.out
      obtain ⟨p5, p6⟩ := hys.out
      have hgl : g < w3.heap.size := lt_of_cell hc
      have HGG := hid hg
      clear hb3 ho3 hw2 c0 c1 CT hst hg hys hpw
      go_wp2_with fail
      go_region
      go_wp2_with fail
      go_ret2
      refine ⟨some ⟨g, 0, none⟩, c3, by rw [List.length_set, HLL.out]; rfl, ?_, K3.out.drew.setCell (Nat.le_trans HB2.out.size HGG.out) _⟩
      rw [List.length_set, HLL.out]
      exact own_base HST.out HB2.out.size
  · have eE : soE o u s f = stE o u s.X f := by unfold soE; rw [if_pos h1]
    have eV : soV o u s f = [] := if_neg (by rw [eE]; exact h1)
    rw [eE, eV]
    obtain ⟨E, hE⟩ : ∃ E, stE o u s.X f = E := ⟨_, rfl⟩
    rw [hE] at CT h1 ⊢
    have hne : (E != 0) = true := by simpa using h1
    obtain ⟨Y, hY⟩ : ∃ Y, s.Y = Y := ⟨_, rfl⟩
    rw [hY] at c1 hw2 ⊢
    clear h1 eE eV hE hU hN hY hu hcu iu hx ix ru rx hb2 ho
    go_enter Tryz.func18, Tryz.ntmps18
    go_wp2_with fail
    refine CT.out.mono ?_
    rintro _ w3 ⟨A3, c3, rfl, ho3, hb3⟩
    have K3 : Hid (Below w.heap.size w w3) := hid (HB2.out.trans (hb3.mono HB2.out.size))
    clear hb3 ho3 hw2 c0 c1 CT
    go_wp2_with fail
    go_ret2
    exact ⟨none, 0, rfl, own_nil _ _ _, K3.out⟩
end Go.Proofs.YtehbdnehlfplaaaGreat
/- Lines of classes, by the document: whether they go with samples; how many are right. -/
namespace Go.Proofs.YtehbdnehlfplaaaGreat
open Go.RowKit
set_option maxHeartbeats 2000000
set_option maxRecDepth 100000
set_option linter.unusedVariables false
theorem scE_ok {n o : Int} {u : List Int} {ls : List SmpV} (h : scE n o u ls = 0) : (∀ s ∈ ls, (s.X.length : Int) = n) ∧ ls.length ≤ 64 ∧ n ≤ 16 ∧ (∀ s ∈ ls, 0 ≤ s.Y ∧ s.Y < o) := by
  unfold scE at h
  by_cases h1 : sdE n o = 0
  · rw [if_neg (by simp [h1])] at h
    by_cases h2 : (u.length : Int) ≠ o * (n + 1)
    · rw [if_pos h2] at h; exact absurd h (by decide)
    · rw [if_neg h2] at h
      by_cases h3 : oddX n ls = true
      · rw [if_pos h3] at h; exact absurd h (by decide)
      · rw [if_neg h3] at h
        by_cases h4 : ls.length = 0 ∨ 64 < ls.length
        · rw [if_pos h4] at h; exact absurd h (by decide)
        · rw [if_neg h4] at h
          by_cases h5 : badY o ls = true
          · rw [if_pos h5] at h; exact absurd h (by decide)
          · refine ⟨oddX_no.1 (by simpa using h3), by omega, ?_, ?_⟩
            · unfold sdE at h1
              split at h1
              · exact absurd h1 (by decide)
              · omega
            · intro s hs
              have h6 : badY o ls = false := by simpa using h5
              unfold badY at h6
              rw [List.any_eq_false] at h6
              have := h6 s hs
              simp at this
              omega
  · rw [if_pos h1] at h
    exact absurd h h1
theorem ref_fit15 {Au A : Option Addr} {cu c : Nat} (o : Int) (ho : I64 o) (u : List Int) (hu : u.length ≤ cu) (hcu : cu ≤ 9223372036854775807) (ls : List SmpV) (hl : ls.length ≤ 9223372036854775807) (hX : ∀ s ∈ ls, s.X.length ≤ 9223372036854775807) (w : World)
    (ru : Rd (Value.int .i64) w w.heap.size Au u) (ra : RdSm w w.heap.size A ls) :
    Calls Tryz.prog 17 #[.int .i64 o, .slice Au u.length cu, .slice A ls.length c] w fun e w' => e = .returned (.int .i64 (sfE o u ls)) ∧ Below w.heap.size w w' := by
  have CR := hid (ref_Rows15 (Au := Au) (cu := cu) o ho u hu hcu w ru)
  obtain ⟨U, hU⟩ : ∃ U, u.length = U := ⟨_, rfl⟩
  obtain ⟨M, hM⟩ : ∃ M, ls.length = M := ⟨_, rfl⟩
  by_cases h1 : rwE o u = 0
  · obtain ⟨o2, o8, _, n2, n17⟩ := rwE_ok.1 h1
    obtain ⟨hRl, hRr⟩ := rwL_row h1
    have e0 : rwO o u = rwL o u := if_pos h1
    have eE : sfE o u ls = scE (((u.length / o.toNat : Nat) : Int) - 1) o u ls := by unfold sfE; rw [if_neg (by simp [h1])]
    rw [h1, e0] at CR
    rw [eE]
    obtain ⟨n, hn⟩ : ∃ n, u.length / o.toNat = n := ⟨_, rfl⟩
    rw [hn] at hRr n2 n17 ⊢
    obtain ⟨n1, hn1⟩ : ∃ n1, (n : Int) - 1 = n1 := ⟨_, rfl⟩
    rw [hn1]
    have CC := hid (fun W h => ref_Check15 (Aw := Au) (A := A) (cw := cu) (c := c) n1 o (by unfold I64; omega) ho u (by omega) ls hl hX W h)
    have hw : IntKind.i64.wrap ((n : Int) - 1) = n1 := by rw [← hn1]; exact Go.IntWalk.i64_in _ (by omega)
    obtain ⟨rows, hrows⟩ : ∃ rows, rwL o u = rows := ⟨_, rfl⟩
    rw [hrows] at CR hRl hRr
    obtain ⟨R, hR⟩ : ∃ R, rows.length = R := ⟨_, rfl⟩
    have hR2 : 2 ≤ R := by omega
    have hr0 : ∃ r0, rows[0]? = some r0 ∧ r0.length = n := ⟨rows[0], List.getElem?_eq_getElem (by omega), hRr _ (List.getElem_mem _)⟩
    obtain ⟨r0, hr0, hr0l⟩ := hr0
    have HR := hid hR
    have HR0 := hid hr0
    have HRL0 := hid hr0l
    have RA := hid ra
    obtain ⟨E, hE⟩ : ∃ E, scE n1 o u ls = E := ⟨_, rfl⟩
    rw [hE] at CC ⊢
    rw [hU] at CR CC ⊢
    rw [hM] at CC ⊢
    clear e0 eE hE hrows hU hM hn hn1 hu hcu hl hX ru ra hr0 hr0l hRl hRr hR h1 o2 o8
    go_enter Tryz.func17, Tryz.ntmps17
    go_wp2_with fail
    refine CR.out.mono ?_
    rintro _ w1 ⟨A1, c1, rfl, ho1, hb1⟩
    obtain ⟨b, off, A0, c0, rfl, hb, hc, _⟩ := ho1.rd 0 r0 HR0.out
    rw [HRL0.out, Nat.add_zero] at hc
    rw [HR.out]
    have K1 := hid hb1
    clear ho1 hb1 CR
    go_wp2_with fail
    refine (CC.out _ (RA.out.on K1.out)).mono ?_
    rintro _ w2 ⟨rfl, hb2⟩
    have K2 : Hid (Below w.heap.size w w2) := hid (K1.out.trans (hb2.mono K1.out.size))
    clear hb2
    go_wp2_with fail
    go_ret
    exact ⟨rfl, K2.out⟩
  · have eE : sfE o u ls = rwE o u := by unfold sfE; rw [if_pos h1]
    rw [eE]
    obtain ⟨E, hE⟩ : ∃ E, rwE o u = E := ⟨_, rfl⟩
    rw [hE] at CR h1 ⊢
    have hne : (E != 0) = true := by simpa using h1
    rw [hU] at CR ⊢
    rw [hM]
    clear eE hE h1 hU hM ru ra hu hl
    go_enter Tryz.func17, Tryz.ntmps17
    go_wp2_with fail
    refine CR.out.mono ?_
    rintro _ w1 ⟨A1, c1, rfl, ho1, hb1⟩
    have K1 := hid hb1
    clear ho1 hb1 CR
    go_wp2_with fail
    go_ret
    exact ⟨rfl, K1.out⟩
theorem sfE_ok {o : Int} {u : List Int} {ls : List SmpV} (h : sfE o u ls = 0) : (∀ s ∈ ls, s.X.length ≤ 16) ∧ ls.length ≤ 64 ∧ (2 ≤ o ∧ o ≤ 8) ∧ (∀ s ∈ ls, 0 ≤ s.Y ∧ s.Y < o) := by
  unfold sfE at h
  by_cases h1 : rwE o u = 0
  · rw [if_neg (by simp [h1])] at h
    obtain ⟨a1, a2, a3, a4⟩ := scE_ok h
    have := rwE_ok.1 h1
    exact ⟨fun s hs => by have := a1 s hs; omega, a2, ⟨this.1, this.2.1⟩, a4⟩
  · rw [if_pos h1] at h
    exact absurd h h1
/-- How many are right, or none. -/
def rgO (o : Int) (u : List Int) (f : Int) (ls : List SmpV) : Nat := if rgE o u f ls = 0 then rgN o u f ls else 0
theorem rg_step {o : Int} {u : List Int} {f : Int} {ls : List SmpV} {k : Nat} {s : SmpV} (hs : ls[k]? = some s) : rgN o u f (ls.take (k + 1)) = rgN o u f (ls.take k) + (if (kcN o u s.X f : Int) = s.Y then 1 else 0) := by
  unfold rgN
  rw [List.take_add_one, hs]
  simp [List.countP_append, List.countP_cons]
theorem rg_le {o : Int} {u : List Int} {f : Int} {ls : List SmpV} : rgN o u f ls ≤ ls.length := List.countP_le_length
theorem ref_Right15 {Au A : Option Addr} {cu c : Nat} (o : Int) (ho : I64 o) (u : List Int) (hu : u.length ≤ cu) (hcu : cu ≤ 9223372036854775807) (iu : I64s u) (f : Int) (ls : List SmpV) (hl : ls.length ≤ 9223372036854775807) (hX : ∀ s ∈ ls, I64s s.X ∧ I64 s.Y ∧ s.X.length ≤ 9223372036854775807) (w : World)
    (ru : Rd (Value.int .i64) w w.heap.size Au u) (ra : RdSm w w.heap.size A ls) :
    Calls Tryz.prog 9 #[.int .i64 o, .slice Au u.length cu, .int .i64 f, .slice A ls.length c] w fun e w' => e = .returned (.tuple #[.int .i64 (rgO o u f ls : Int), .int .i64 (rgE o u f ls)]) ∧ Below w.heap.size w w' := by
  have CF := hid (ref_fit15 (Au := Au) (A := A) (cu := cu) (c := c) o ho u hu hcu ls hl (fun s hs => (hX s hs).2.2) w ru ra)
  obtain ⟨U, hU⟩ : ∃ U, u.length = U := ⟨_, rfl⟩
  obtain ⟨M, hM⟩ : ∃ M, ls.length = M := ⟨_, rfl⟩
  by_cases h1 : sfE o u ls = 0
  · obtain ⟨s1, s2, _, _⟩ := sfE_ok h1
    have eE : rgE o u f ls = fstE (ls.map fun s => kcE o u s.X f) := by unfold rgE; rw [if_neg (by simp [h1])]
    have eO : rgO o u f ls = if rgE o u f ls = 0 then rgN o u f ls else 0 := rfl
    rw [h1] at CF
    have CK := hid (fun (s : SmpV) (hs : s ∈ ls) (Ax : Option Addr) (cx : Nat) (W : World) (h1 : Rd (Value.int .i64) W W.heap.size Au u) (h2 : Rd (Value.int .i64) W W.heap.size Ax s.X) => ref_Class15 (Au := Au) (Ax := Ax) (cu := cu) (cx := cx) o ho u s.X hu hcu iu (by have := s1 s hs; omega) (hX s hs).1 f W h1 h2)
    have hM64 : M ≤ 64 := by omega
    obtain ⟨vE, hvE⟩ : ∃ v, rgE o u f ls = v := ⟨_, rfl⟩
    obtain ⟨vO, hvO⟩ : ∃ v, rgO o u f ls = v := ⟨_, rfl⟩
    rw [hvE] at eE eO
    rw [hvO] at eO
    have HE := hid eE
    have HO := hid eO
    rw [hvE, hvO]
    rw [hU] at CF CK ⊢
    rw [hM] at CF ⊢
    have HM := hid hM
    have RU := hid ru
    have RA := hid ra
    have HM64 := hid hM64
    clear h1 eE eO hvE hvO hU hM ru ra hX iu hu hcu hl s1 s2 ho
    go_enter Tryz.func9, Tryz.ntmps9
    go_wp2_with fail
    refine CF.out.mono ?_
    rintro _ w1 ⟨rfl, hb1⟩
    have K1 := hid hb1
    clear hb1 CF
    go_wp2_with fail
    go_loopw [11, 13, 14, 15, 25] (fun xm _ _ _ xi wr => ∃ k : Nat, k ≤ M ∧ xi = .int .i64 (k : Int) ∧ xm = .int .i64 (rgN o u f (ls.take k) : Int) ∧ (∀ s ∈ ls.take k, kcE o u s.X f = 0) ∧ Below w.heap.size w wr) (fun _ _ _ _ xi _ => M - (intOf xi).toNat)
    case atStart => exact ⟨0, Nat.zero_le _, rfl, rfl, fun s hs => by simp at hs, K1.out⟩
    case round =>
      obtain ⟨k, hk, rfl, rfl, ha, hbel⟩ := hrel
      have HB := hid hbel
      have HA := hid ha
      have hml : rgN o u f (ls.take k) ≤ 64 := Nat.le_trans rg_le (by rw [List.length_take]; have := HM64.out; omega)
      obtain ⟨m, hm⟩ : ∃ m, rgN o u f (ls.take k) = m := ⟨_, rfl⟩
      rw [hm] at hml
      rw [hm]
      have HMM := hid hm
      clear ha hm
      by_cases hlt : k < M
      · obtain ⟨b1, o1, s, Ax, cx, rfl, l1, en, c1, d1, rx⟩ := (RA.out.on hbel).at_ (k := k) (by rw [HM.out]; exact hlt)
        have HEN := hid en
        have hst := hid (rg_step (o := o) (u := u) (f := f) en)
        obtain ⟨w2, hw2⟩ : ∃ w2, wr.alloc (.cells #[.slice Ax s.X.length cx, .int .i64 s.Y] 36) = w2 := ⟨_, rfl⟩
        have hb2 : Below wr.heap.size wr w2 := by rw [← hw2]; exact (Below.refl _ _).alloc (Nat.le_refl _) _
        have hs2 : wr.heap.size < w2.heap.size := by rw [← hw2]; simp
        have m0 : w2.cell? ⟨wr.heap.size, 0, none⟩ = some (.slice Ax s.X.length cx) := by rw [← hw2]; simp [go_sem]
        have m1 : w2.cell? ⟨wr.heap.size, 1, none⟩ = some (.int .i64 s.Y) := by rw [← hw2]; simp [go_sem]
        have CK2 := hid (CK.out s (List.mem_of_getElem? en) Ax cx w2 ((RU.out.on hbel).on hb2) (rx.on hb2))
        have K2 : Hid (Below w.heap.size w w2) := hid (HB.out.trans (hb2.mono HB.out.size))
        obtain ⟨C, hC⟩ : ∃ C, kcN o u s.X f = C := ⟨_, rfl⟩
        obtain ⟨E, hE⟩ : ∃ E, kcE o u s.X f = E := ⟨_, rfl⟩
        obtain ⟨N, hN⟩ : ∃ N, s.X.length = N := ⟨_, rfl⟩
        obtain ⟨Y, hY⟩ : ∃ Y, s.Y = Y := ⟨_, rfl⟩
        rw [hC, hE, hN] at CK2
        rw [hC, hY, HMM.out] at hst
        rw [hN] at c1 hw2 m0
        rw [hY] at d1 hw2 m1
        have HEE := hid hE
        clear en rx hC hE hN hY hb2 hbel
        by_cases hE0 : E = 0
        · subst hE0
          by_cases hy : (C : Int) = Y
          · have hst' : Hid (rgN o u f (ls.take (k + 1)) = m + 1) := hid (by rw [hst.out, if_pos hy])
            have t0 : ((C : Int) == Y) = true := by simpa using hy
            have hwm : IntKind.i64.wrap ((m : Int) + 1) = ((m + 1 : Nat) : Int) := Go.IntWalk.i64_in _ (by omega)
            clear hy hst
            go_wp2_with fail
            refine CK2.out.mono ?_
            rintro _ w3 ⟨rfl, hb3⟩
            have K3 : Hid (Below w.heap.size w w3) := hid (K2.out.trans (hb3.mono K2.out.size))
            have m1' := (hb3.cell (p := ⟨wr.heap.size, 1, none⟩) hs2).trans m1
            clear hb3 hw2 m0 m1
            go_wp2_with fail
            go_roundw
            case rel => exact ⟨k + 1, hlt, by go_num, by rw [hst'.out]; rfl, take_all HA.out HEN.out HEE.out, K3.out⟩
            case measure => (try clear hwm); simp [intOf]; omega
          · have hst' : Hid (rgN o u f (ls.take (k + 1)) = m) := hid (by rw [hst.out, if_neg hy]; rfl)
            have t0 : ((C : Int) == Y) = false := beq_eq_false_iff_ne.2 hy
            clear hy hst
            go_wp2_with fail
            refine CK2.out.mono ?_
            rintro _ w3 ⟨rfl, hb3⟩
            have K3 : Hid (Below w.heap.size w w3) := hid (K2.out.trans (hb3.mono K2.out.size))
            have m1' := (hb3.cell (p := ⟨wr.heap.size, 1, none⟩) hs2).trans m1
            clear hb3 hw2 m0 m1
            go_wp2_with fail
            go_roundw
            case rel => exact ⟨k + 1, hlt, by go_num, by rw [hst'.out], take_all HA.out HEN.out HEE.out, K3.out⟩
            case measure => simp [intOf]; omega
        · have hne : (E != 0) = true := by simpa using hE0
          have e1 : vE = E := by
            rw [HE.out, fstE_at (g := fun s => kcE o u s.X f) HA.out HEN.out (by rw [HEE.out]; exact hE0)]
            exact HEE.out
          have e2 : vO = 0 := by rw [HO.out, if_neg (by rw [e1]; exact hE0)]
          subst e2
          subst e1
          clear hE0
          go_wp2_with fail
          refine CK2.out.mono ?_
          rintro _ w3 ⟨rfl, hb3⟩
          have K3 : Hid (Below w.heap.size w w3) := hid (K2.out.trans (hb3.mono K2.out.size))
          clear hb3 hw2 m0 m1
          go_wp2_with fail
          go_ret2
          exact ⟨rfl, K3.out⟩
      · obtain rfl : k = M := by omega
        have htk : ls.take k = ls := List.take_of_length_le (by rw [HM.out]; exact Nat.le_refl _)
        have e1 : vE = 0 := by
          rw [HE.out]
          refine fstE_ok.2 fun e he => ?_
          obtain ⟨r, hr, rfl⟩ := List.mem_map.1 he
          exact HA.out r (by rw [htk]; exact hr)
        have e2 : vO = m := by rw [HO.out, if_pos e1, ← HMM.out, htk]
        clear htk hbel
        subst e2
        subst e1
        go_wp2_with fail
        go_ret2
        exact ⟨rfl, HB.out⟩
  · have eE : rgE o u f ls = sfE o u ls := by unfold rgE; rw [if_pos h1]
    have eO : rgO o u f ls = 0 := if_neg (by rw [eE]; exact h1)
    rw [eE, eO]
    obtain ⟨E, hE⟩ : ∃ E, sfE o u ls = E := ⟨_, rfl⟩
    rw [hE] at CF h1 ⊢
    have hne : (E != 0) = true := by simpa using h1
    rw [hU] at CF ⊢
    rw [hM] at CF ⊢
    clear eE eO hE h1 hU hM ru ra hX iu hu hcu hl ho
    go_enter Tryz.func9, Tryz.ntmps9
    go_wp2_with fail
    refine CF.out.mono ?_
    rintro _ w1 ⟨rfl, hb1⟩
    have K1 := hid hb1
    clear hb1 CF
    go_wp2_with fail
    go_ret2
    exact ⟨rfl, K1.out⟩
end Go.Proofs.YtehbdnehlfplaaaGreat
/- Lines of classes, by the landed code: Dim, what they see, Check. -/
namespace Go.Proofs.YtehbdnehlfplaaaGreat
open Go.RowKit
set_option maxHeartbeats 2000000
set_option maxRecDepth 100000
set_option linter.unusedVariables false
theorem sp_classes {o : Int} {b : Bool} (hb : b = true ↔ 2 ≤ o ∧ o ≤ 8) (w : World) :
    Calls Tryz.prog 43 #[.int .i64 o] w fun e w' => e = .returned (.bool b) ∧ w = w' := by
  by_cases h1 : o ≥ 2
  · by_cases h2 : o ≤ 8
    · obtain rfl : b = true := hb.2 ⟨h1, h2⟩
      clear hb
      go_enter Tryz.func43, Tryz.ntmps43
      go_wp2_with fail
      go_ret
      exact ⟨rfl, rfl⟩
    · obtain rfl : b = false := by cases b with
        | false => rfl
        | true => exact absurd (hb.1 rfl).2 h2
      clear hb
      go_enter Tryz.func43, Tryz.ntmps43
      go_wp2_with fail
      go_ret
      exact ⟨rfl, rfl⟩
  · obtain rfl : b = false := by cases b with
      | false => rfl
      | true => exact absurd (hb.1 rfl).1 h1
    clear hb
    go_enter Tryz.func43, Tryz.ntmps43
    go_wp2_with fail
    go_ret
    exact ⟨rfl, rfl⟩
theorem sp_class {o y : Int} {b : Bool} (hb : b = true ↔ 0 ≤ y ∧ y < o) (ho : I64 o) (w : World) :
    Calls Tryz.prog 25 #[.int .i64 o, .int .i64 y] w fun e w' => e = .returned (.bool b) ∧ w = w' := by
  by_cases h1 : y ≥ 0
  · by_cases h2 : y < o
    · obtain rfl : b = true := hb.2 ⟨h1, h2⟩
      clear hb
      go_enter Tryz.func25, Tryz.ntmps25
      go_wp2_with fail
      go_ret
      exact ⟨rfl, rfl⟩
    · obtain rfl : b = false := by cases b with
        | false => rfl
        | true => exact absurd (hb.1 rfl).2 h2
      clear hb
      go_enter Tryz.func25, Tryz.ntmps25
      go_wp2_with fail
      go_ret
      exact ⟨rfl, rfl⟩
  · obtain rfl : b = false := by cases b with
      | false => rfl
      | true => exact absurd (hb.1 rfl).1 h1
    clear hb
    go_enter Tryz.func25, Tryz.ntmps25
    go_wp2_with fail
    go_ret
    exact ⟨rfl, rfl⟩
theorem sf_Dim (n o : Int) (hn : I64 n) (ho : I64 o) (w : World) :
    Calls Tryz.prog 23 #[.int .i64 n, .int .i64 o] w fun e w' => e = .returned (.tuple #[.int .i64 (sdV n o), .int .i64 (sdE n o)]) ∧ w = w' := by
  have CD := hid (fun W => ln_Dim n hn W)
  by_cases h1 : ldE n = 0
  · obtain ⟨n1, n16⟩ := ldE_ok.1 h1
    have e0 : ldV n = n + 1 := if_pos h1
    rw [h1, e0] at CD
    by_cases h2 : 2 ≤ o ∧ o ≤ 8
    · have CC := hid (fun W => sp_classes (o := o) (b := true) ⟨fun _ => h2, fun _ => rfl⟩ W)
      have e1 : sdE n o = 0 := if_neg (by omega)
      have e2 : sdV n o = o * (n + 1) := if_pos e1
      rw [e1, e2]
      obtain ⟨m, hm⟩ : ∃ m, n + 1 = m := ⟨_, rfl⟩
      rw [hm] at CD ⊢
      have hp : 0 ≤ o * m ∧ o * m ≤ 136 := ⟨Int.mul_nonneg (by omega) (by omega), by have := Int.mul_le_mul h2.2 (show m ≤ 17 by omega) (by omega) (by omega); omega⟩
      obtain ⟨d, hd⟩ : ∃ d, o * m = d := ⟨_, rfl⟩
      rw [hd] at hp
      have hw2 : IntKind.i64.wrap (o * m) = d := by rw [hd]; exact Go.IntWalk.i64_in _ (by omega)
      have hw3 : wrap64 (o * m) = d := by rw [hd]; exact Go.IntWalk.wrap64_in _ (by omega)
      rw [hd]
      clear e0 e1 e2 hd hm hp h1 h2 n1 n16
      go_enter Tryz.func23, Tryz.ntmps23
      go_wp2_with fail
      refine (CD.out _).mono ?_
      rintro _ _ ⟨rfl, rfl⟩
      go_wp2_with fail
      refine (CC.out _).mono ?_
      rintro _ _ ⟨rfl, rfl⟩
      go_wp2_with fail
      go_ret2
      exact ⟨rfl, rfl⟩
    · have CC := hid (fun W => sp_classes (o := o) (b := false) ⟨fun h => (by cases h), fun h => absurd h h2⟩ W)
      have e1 : sdE n o = 1 := if_pos (by omega)
      have e2 : sdV n o = 0 := if_neg (by rw [e1]; decide)
      rw [e1, e2]
      clear e0 e1 e2 h1 h2 n1 n16
      go_enter Tryz.func23, Tryz.ntmps23
      go_wp2_with fail
      refine (CD.out _).mono ?_
      rintro _ _ ⟨rfl, rfl⟩
      go_wp2_with fail
      refine (CC.out _).mono ?_
      rintro _ _ ⟨rfl, rfl⟩
      go_wp2_with fail
      go_ret2
      exact ⟨rfl, rfl⟩
  · have hb : n < 1 ∨ 16 < n := by
      by_cases h : 1 ≤ n ∧ n ≤ 16
      · exact absurd (ldE_ok.2 h) h1
      · omega
    have e0 : ldE n = 1 := if_pos hb
    have e1 : sdE n o = 1 := if_pos (by omega)
    have e2 : sdV n o = 0 := if_neg (by rw [e1]; decide)
    have e3 : ldV n = 0 := if_neg h1
    rw [e0, e3] at CD
    rw [e1, e2]
    clear e0 e1 e2 e3 h1 hb
    go_enter Tryz.func23, Tryz.ntmps23
    go_wp2_with fail
    refine (CD.out _).mono ?_
    rintro _ _ ⟨rfl, rfl⟩
    go_wp2_with fail
    go_ret2
    exact ⟨rfl, rfl⟩
/-- How many numbers each line sees, or none. -/
def seN (o : Int) (u : List Int) : Int := if rwE o u = 0 then ((u.length / o.toNat : Nat) : Int) - 1 else 0
theorem sp_div {U : Nat} {o : Int} (h1 : 2 ≤ o) (h2 : o ≤ 8) (hu : U ≤ 9223372036854775807) : ∃ (O n r : Nat) (n1 : Int), o = (O : Int) ∧ Hid (o.toNat = O) ∧ 2 ≤ O ∧ O ≤ 8 ∧ Hid (U / O = n) ∧ Hid (U % O = r ∧ O * n + r = U) ∧ Hid ((n : Int) - 1 = n1 ∧ I64 n1) ∧
    Hid ((U : Int).tdiv (O : Int) = (n : Int) ∧ IntKind.i64.wrap (n : Int) = (n : Int) ∧ wrap64 (n : Int) = (n : Int) ∧ IntKind.i64.wrap ((n : Int) - 1) = n1 ∧ wrap64 ((n : Int) - 1) = n1) := by
  obtain ⟨O, n, r, rfl, hO, O2, O8, hn, hr, hnU, hdm⟩ := sf_div (U := U) (o := o) h1 h2
  have hrn : O * n + r = U := by rw [← hn, ← hr]; exact Nat.div_add_mod U O
  have hn63 : n ≤ 9223372036854775807 := Nat.le_trans hnU hu
  have d1 := hdm.out.1
  have hI : I64 ((n : Int) - 1) := by clear hrn hr hn hnU hu hdm d1; unfold I64; omega
  have w1 : IntKind.i64.wrap (n : Int) = (n : Int) := Go.IntWalk.i64_in _ (by clear hrn hr hn hnU hu hdm d1; omega)
  have w2 : wrap64 (n : Int) = (n : Int) := Go.IntWalk.wrap64_in _ (by clear hrn hr hn hnU hu hdm d1; omega)
  have w3 : IntKind.i64.wrap ((n : Int) - 1) = (n : Int) - 1 := Go.IntWalk.i64_in _ (by clear hrn hr hn hnU hu hdm d1; omega)
  have w4 : wrap64 ((n : Int) - 1) = (n : Int) - 1 := Go.IntWalk.wrap64_in _ (by clear hrn hr hn hnU hu hdm d1; omega)
  exact ⟨O, n, r, (n : Int) - 1, rfl, hid hO, O2, O8, hid hn, hid ⟨hr, hrn⟩, hid ⟨rfl, hI⟩, hid ⟨d1, w1, w2, w3, w4⟩⟩
theorem sp_sees {Au : Option Addr} {cu : Nat} (o : Int) (ho : I64 o) (u : List Int) (hu : u.length ≤ 9223372036854775807) (w : World) :
    Calls Tryz.prog 29 #[.int .i64 o, .slice Au u.length cu] w fun e w' => e = .returned (.tuple #[.int .i64 (seN o u), .int .i64 (rwE o u)]) ∧ w = w' := by
  obtain ⟨U, hU⟩ : ∃ U, u.length = U := ⟨_, rfl⟩
  by_cases h1 : 2 ≤ o ∧ o ≤ 8
  · have CC := hid (fun W => sp_classes (o := o) (b := true) ⟨fun _ => h1, fun _ => rfl⟩ W)
    obtain ⟨O, n, r, n1, rfl, HO, O2, O8, HN, HR, hn1, hws⟩ := sp_div (U := U) (o := o) h1.1 h1.2 (by rw [← hU]; exact hu)
    have hO0 : (O : Int) ≠ 0 := by omega
    obtain ⟨d1, hwn, hwn2, hw1, hw2⟩ := hws.out
    have CD := hid (fun W => sf_Dim n1 (O : Int) hn1.out.2 ho W)
    clear hu hws
    by_cases hg : 2 ≤ n ∧ n ≤ 17
    · have e3 : sdE n1 (O : Int) = 0 := if_neg (by have := hn1.out.1; omega)
      have e4 : sdV n1 (O : Int) = ((O * n : Nat) : Int) := by
        have : sdV n1 (O : Int) = (O : Int) * (n1 + 1) := if_pos e3
        rw [this, ← hn1.out.1, Int.sub_add_cancel, Int.natCast_mul]
      rw [e3, e4] at CD
      obtain ⟨D, hD⟩ : ∃ D, O * n = D := ⟨_, rfl⟩
      rw [hD] at CD
      have hrn : D + r = U := by rw [← hD]; exact HR.out.2
      by_cases hz : r = 0
      · have e1 : rwE (O : Int) u = 0 := rwE_ok.2 ⟨by omega, by omega, by rw [HO.out, hU, HR.out.1]; exact hz, by rw [HO.out, hU, HN.out]; exact hg.1, by rw [HO.out, hU, HN.out]; exact hg.2⟩
        have e2 : seN (O : Int) u = n1 := by unfold seN; rw [if_pos e1, HO.out, hU, HN.out]; exact hn1.out.1
        rw [e1, e2, hU]
        have t0 : ((U : Int) != (D : Int)) = false := by simp; omega
        clear e1 e2 e3 e4 hz hg hD hrn hn1 hU O2 O8 h1 ho HO HN HR
        go_enter Tryz.func29, Tryz.ntmps29
        go_wp2_with fail
        refine (CC.out _).mono ?_
        rintro _ _ ⟨rfl, rfl⟩
        go_wp2_with fail
        refine (CD.out _).mono ?_
        rintro _ _ ⟨rfl, rfl⟩
        go_wp2_with fail
        go_ret2
        exact ⟨rfl, rfl⟩
      · have e1 : rwE (O : Int) u = 4 := by
          unfold rwE
          rw [if_neg (by omega), HO.out, hU, HR.out.1, HN.out]
          exact if_pos (Or.inl hz)
        have e2 : seN (O : Int) u = 0 := if_neg (by rw [e1]; decide)
        rw [e1, e2, hU]
        have t0 : ((U : Int) != (D : Int)) = true := by simp; omega
        clear e1 e2 e3 e4 hz hg hD hrn hn1 hU O2 O8 h1 ho HO HN HR
        go_enter Tryz.func29, Tryz.ntmps29
        go_wp2_with fail
        refine (CC.out _).mono ?_
        rintro _ _ ⟨rfl, rfl⟩
        go_wp2_with fail
        refine (CD.out _).mono ?_
        rintro _ _ ⟨rfl, rfl⟩
        go_wp2_with fail
        go_ret2
        exact ⟨rfl, rfl⟩
    · have e3 : sdE n1 (O : Int) = 1 := if_pos (by have := hn1.out.1; omega)
      have e4 : sdV n1 (O : Int) = 0 := if_neg (by rw [e3]; decide)
      rw [e3, e4] at CD
      have e1 : rwE (O : Int) u = 4 := by
        unfold rwE
        rw [if_neg (by omega), HO.out, hU, HR.out.1, HN.out]
        exact if_pos (by omega)
      have e2 : seN (O : Int) u = 0 := if_neg (by rw [e1]; decide)
      rw [e1, e2, hU]
      clear e1 e2 e3 e4 hg hn1 hU O2 O8 h1 ho HO HN HR
      go_enter Tryz.func29, Tryz.ntmps29
      go_wp2_with fail
      refine (CC.out _).mono ?_
      rintro _ _ ⟨rfl, rfl⟩
      go_wp2_with fail
      refine (CD.out _).mono ?_
      rintro _ _ ⟨rfl, rfl⟩
      go_wp2_with fail
      go_ret2
      exact ⟨rfl, rfl⟩
  · have CC := hid (fun W => sp_classes (o := o) (b := false) ⟨fun h => (by cases h), fun h => absurd h h1⟩ W)
    have e1 : rwE o u = 1 := if_pos (by omega)
    have e2 : seN o u = 0 := if_neg (by rw [e1]; decide)
    rw [e1, e2, hU]
    clear e1 e2 h1 hU hu ho
    go_enter Tryz.func29, Tryz.ntmps29
    go_wp2_with fail
    refine (CC.out _).mono ?_
    rintro _ _ ⟨rfl, rfl⟩
    go_wp2_with fail
    go_ret2
    exact ⟨rfl, rfl⟩
end Go.Proofs.YtehbdnehlfplaaaGreat
/- Lines of classes, by the landed code: whether they go with samples. -/
namespace Go.Proofs.YtehbdnehlfplaaaGreat
open Go.RowKit
set_option maxHeartbeats 2000000
set_option maxRecDepth 100000
set_option linter.unusedVariables false
theorem sf_Check {Aw A : Option Addr} {cw c : Nat} (n o : Int) (hn : I64 n) (ho : I64 o) (u : List Int) (hu : u.length ≤ 9223372036854775807) (hcw : u.length ≤ cw) (ls : List SmpV) (hl : ls.length ≤ 9223372036854775807) (hX : ∀ s ∈ ls, s.X.length ≤ 9223372036854775807) (w : World) (ra : RdSm w w.heap.size A ls) :
    Calls Tryz.prog 11 #[.int .i64 n, .int .i64 o, .slice Aw u.length cw, .slice A ls.length c] w fun e w' => e = .returned (.int .i64 (scE n o u ls)) ∧ Below w.heap.size w w' := by
  have CD := hid (fun W => sf_Dim n o hn ho W)
  obtain ⟨M, hM⟩ : ∃ M, ls.length = M := ⟨_, rfl⟩
  obtain ⟨U, hU⟩ : ∃ U, u.length = U := ⟨_, rfl⟩
  by_cases h1 : sdE n o = 0
  · have e2 : sdV n o = o * (n + 1) := if_pos h1
    have hr : 1 ≤ n ∧ n ≤ 16 ∧ 2 ≤ o ∧ o ≤ 8 := by
      unfold sdE at h1
      by_cases h : n < 1 ∨ 16 < n ∨ o < 2 ∨ 8 < o
      · rw [if_pos h] at h1; exact absurd h1 (by decide)
      · omega
    rw [h1, e2] at CD
    obtain ⟨N1, hN1⟩ : ∃ N1, o * (n + 1) = N1 := ⟨_, rfl⟩
    by_cases h2 : (u.length : Int) = o * (n + 1)
    · obtain ⟨m, rfl⟩ : ∃ m : Nat, n = (m : Int) := ⟨n.toNat, by omega⟩
      have hmU : m + 1 ≤ U := by
        have h3 : 2 * ((m : Int) + 1) ≤ o * ((m : Int) + 1) := Int.mul_le_mul_of_nonneg_right hr.2.2.1 (by omega)
        rw [← h2, hU] at h3
        omega
      have hul : (u.take (m + 1)).length = m + 1 := by rw [List.length_take, hU]; omega
      have hld : ldE (m : Int) = 0 := ldE_ok.2 ⟨hr.1, hr.2.1⟩
      have HL : lcE (m : Int) (u.take (m + 1)) ls = if oddX (m : Int) ls = true then 4 else if ls.length = 0 ∨ 64 < ls.length then 1 else 0 := by
        unfold lcE; rw [if_neg (by simp [hld]), if_neg (by rw [hul]; simp)]
      have HE : scE (m : Int) o u ls = if lcE (m : Int) (u.take (m + 1)) ls ≠ 0 then lcE (m : Int) (u.take (m + 1)) ls else if badY o ls = true then 1 else 0 := by
        rw [HL]
        unfold scE; rw [if_neg (by simp [h1]), if_neg (by simp [h2])]
        by_cases a1 : oddX (m : Int) ls = true
        · simp [a1]
        · by_cases a2 : ls.length = 0 ∨ 64 < ls.length
          · rw [if_neg a1, if_pos a2, if_neg a1, if_pos a2, if_pos (by decide)]
          · rw [if_neg a1, if_neg a2, if_neg a1, if_neg a2, if_neg (show ¬ ((0 : Int) ≠ 0) by decide)]
      have CL := hid (fun W (h : RdSm W W.heap.size A ls) => ln_Check (Aw := cutA Aw 0 cw) (A := A) (cw := cw) (c := c) (m : Int) hn (u.take (m + 1)) (by rw [hul]; omega) ls hl hX W h)
      rw [hul] at CL
      have hsl := fun W => run_upto (P := Tryz.prog) 22 Tryz.underlying22 Tryz.sizeOf2 Aw U cw (m + 1) (by omega) W
      have hw1 : IntKind.i64.wrap ((m : Int) + 1) = ((m + 1 : Nat) : Int) := Go.IntWalk.i64_in _ (by omega)
      have hw2 : wrap64 ((m : Int) + 1) = ((m + 1 : Nat) : Int) := Go.IntWalk.wrap64_in _ (by omega)
      rw [hU, hN1] at h2
      rw [hN1] at CD
      have t0 : ((U : Int) != N1) = false := by rw [h2]; simp
      obtain ⟨A2, hA2⟩ : ∃ A2, cutA Aw 0 cw = A2 := ⟨_, rfl⟩
      rw [hA2] at CL hsl
      obtain ⟨L, hL⟩ : ∃ L, lcE (m : Int) (u.take (m + 1)) ls = L := ⟨_, rfl⟩
      rw [hL] at CL HE HL
      have HLL := hid HL
      have HEE := hid HE
      have RA := hid ra
      have HM := hid hM
      have hm1 : ¬ ((m + 1 : Nat) : Int) < 0 := Int.not_lt.2 (Int.natCast_nonneg _)
      obtain ⟨m1, hm1'⟩ : ∃ m1, m + 1 = m1 := ⟨_, rfl⟩
      rw [hm1'] at CL hsl hw1 hw2 hm1
      obtain ⟨E, hE⟩ : ∃ E, scE (m : Int) o u ls = E := ⟨_, rfl⟩
      have HE3 : Hid (E = if L ≠ 0 then L else if badY o ls = true then 1 else 0) := hid (by rw [← hE]; exact HE)
      have hoo := ho
      have HMI := hid hm1'
      rw [hE, hU]
      rw [hM] at CL ⊢
      clear e2 hr hN1 hU ra hX hE h2 HE HL hL hA2 hul hld hm1' hmU hu hcw h1 hM hl HEE
      by_cases hL0 : L = 0
      · subst hL0
        have HE4 : Hid (E = if badY o ls = true then 1 else 0) := hid (by rw [HE3.out]; rfl)
        have hM64 : M ≤ 64 := by
          have := HLL.out
          by_cases a1 : oddX (m : Int) ls = true
          · rw [if_pos a1] at this; cases this
          · rw [if_neg a1, HM.out] at this
            by_cases a2 : M = 0 ∨ 64 < M
            · rw [if_pos a2] at this; cases this
            · omega
        have HM64 := hid hM64
        clear HE3 HLL hM64
        go_enter Tryz.func11, Tryz.ntmps11
        go_wp2_with fail
        refine (CD.out _).mono ?_
        rintro _ _ ⟨rfl, rfl⟩
        go_wp2_with fail
        refine (CL.out _ RA.out).mono ?_
        rintro _ w1 ⟨rfl, hb1⟩
        have K1 := hid hb1
        clear hsl hw1 hw2 hm1 t0 CL CD hb1
        go_wp2_with fail
        go_loopw [13, 39] (fun _ xi wr => ∃ j : Nat, j ≤ M ∧ xi = .int .i64 (j : Int) ∧ (∀ s ∈ ls.take j, 0 ≤ s.Y ∧ s.Y < o) ∧ Below w.heap.size w wr) (fun _ xi _ => M - (intOf xi).toNat)
        case atStart => exact ⟨0, Nat.zero_le _, rfl, fun s hs => by simp at hs, K1.out⟩
        case round =>
          obtain ⟨j, hj, rfl, hall, hbel⟩ := hrel
          have HA := hid hall
          have HB2 := hid hbel
          clear hall
          by_cases hlt : j < M
          · obtain ⟨b1, o1, s, Ax, cx, rfl, l1, en, c1, d1, rx⟩ := (RA.out.on hbel).at_ (k := j) (by rw [HM.out]; exact hlt)
            have HS := hid en
            clear hbel en rx
            obtain ⟨X, hX⟩ : ∃ X, s.X.length = X := ⟨_, rfl⟩
            rw [hX] at c1
            obtain ⟨Y, hY⟩ : ∃ Y, s.Y = Y := ⟨_, rfl⟩
            rw [hY] at d1
            have HYY := hid hY
            have hw : IntKind.i64.wrap ((j : Int) + 1) = ((j + 1 : Nat) : Int) := Go.IntWalk.i64_in _ (by have := HM64.out; omega)
            clear hX hY
            by_cases hy : 0 ≤ Y ∧ Y < o
            · have CY := hid (fun W => sp_class (o := o) (y := Y) (b := true) ⟨fun _ => hy, fun _ => rfl⟩ hoo W)
              have HYG : Hid (0 ≤ s.Y ∧ s.Y < o) := hid (by rw [HYY.out]; exact hy)
              have htn : Hid (ls.take (j + 1) = ls.take j ++ [s]) := hid (by rw [List.take_add_one, HS.out]; rfl)
              clear hy
              go_wp2_with fail
              refine (CY.out _).mono ?_
              rintro _ _ ⟨rfl, rfl⟩
              go_wp2_with fail
              go_roundw
              case rel =>
                refine ⟨j + 1, hlt, by go_num, ?_, HB2.out.alloc HB2.out.size _⟩
                rw [htn.out]
                intro x hx
                rcases List.mem_append.1 hx with hx | hx
                · exact HA.out x hx
                · simp at hx; subst hx; exact HYG.out
              case measure => (try clear hw); simp [intOf]; omega
            · have CY := hid (fun W => sp_class (o := o) (y := Y) (b := false) ⟨fun h => (by cases h), fun h => absurd h hy⟩ hoo W)
              obtain rfl : E = 1 := by
                rw [HE4.out]
                refine if_pos ?_
                unfold badY
                rw [List.any_eq_true]
                exact ⟨s, List.mem_of_getElem? HS.out, by rw [HYY.out]; simp; omega⟩
              clear hy
              go_wp2_with fail
              refine (CY.out _).mono ?_
              rintro _ _ ⟨rfl, rfl⟩
              go_wp2_with fail
              go_ret
              exact ⟨rfl, HB2.out.alloc HB2.out.size _⟩
          · obtain rfl : j = M := by omega
            have hyo : badY o ls = false := by
              unfold badY
              rw [List.any_eq_false]
              intro s hs
              have := HA.out s (by rw [List.take_of_length_le (by rw [HM.out]; exact Nat.le_refl _)]; exact hs)
              simp; omega
            obtain rfl : E = 0 := by rw [HE4.out, hyo]; rfl
            clear hyo hbel
            go_wp2_with fail
            go_ret
            exact ⟨rfl, HB2.out⟩
      · have e : E = L := by rw [HE3.out, if_pos hL0]
        have hne : (L != 0) = true := by simpa using hL0
        subst e
        clear HE3 HLL hL0
        go_enter Tryz.func11, Tryz.ntmps11
        go_wp2_with fail
        refine (CD.out _).mono ?_
        rintro _ _ ⟨rfl, rfl⟩
        go_wp2_with fail
        refine (CL.out _ RA.out).mono ?_
        rintro _ w1 ⟨rfl, hb1⟩
        have K1 := hid hb1
        clear hsl hw1 hw2 hm1 t0 CL CD hb1
        go_wp2_with fail
        go_ret
        exact ⟨rfl, K1.out⟩
    · have e : scE n o u ls = 4 := by unfold scE; rw [if_neg (by simp [h1]), if_pos h2]
      rw [e]
      rw [hU, hN1] at h2
      rw [hN1] at CD
      have t0 : ((U : Int) != N1) = true := by simpa using h2
      rw [hM, hU]
      clear h1 e2 hr hN1 hM hU ra hX e h2 hu hcw hl
      go_enter Tryz.func11, Tryz.ntmps11
      go_wp2_with fail
      refine (CD.out _).mono ?_
      rintro _ _ ⟨rfl, rfl⟩
      go_wp2_with fail
      go_ret
      exact ⟨rfl, Below.refl _ _⟩
  · have e : scE n o u ls = sdE n o := by unfold scE; rw [if_pos h1]
    rw [e]
    have e2 : sdV n o = 0 := if_neg h1
    obtain ⟨E, hE⟩ : ∃ E, sdE n o = E := ⟨_, rfl⟩
    rw [e2] at CD
    rw [hE] at CD h1 ⊢
    have hne : (E != 0) = true := by simpa using h1
    rw [hM, hU]
    clear e e2 hE h1 ra hX hM hU hu hcw hl
    go_enter Tryz.func11, Tryz.ntmps11
    go_wp2_with fail
    refine (CD.out _).mono ?_
    rintro _ _ ⟨rfl, rfl⟩
    go_wp2_with fail
    go_ret
    exact ⟨rfl, Below.refl _ _⟩
end Go.Proofs.YtehbdnehlfplaaaGreat
/- Lines of classes, by the landed code: the lines. -/
namespace Go.Proofs.YtehbdnehlfplaaaGreat
open Go.RowKit
set_option maxHeartbeats 4000000
set_option maxRecDepth 100000
set_option linter.unusedVariables false
attribute [local go_sem] Oper.semAt_some
theorem rd_row {w : World} {B b p n k : Nat} {u : List Int} (h : Rd (Value.int .i64) w B (some ⟨b, p, none⟩) u) : Rd (Value.int .i64) w B (some ⟨b, p + k * n, none⟩) (rwR n u k) := fun j y hj => by
  have hu : u[k * n + j]? = some y := by
    unfold rwR at hj
    rw [List.getElem?_take] at hj
    split at hj
    · rw [List.getElem?_drop] at hj; exact hj
    · cases hj
  obtain ⟨b', o', e, hb, hc⟩ := h _ _ hu
  cases e
  exact ⟨b, p + k * n, rfl, hb, by rw [Nat.add_assoc]; exact hc⟩
theorem sp_row_len {u : List Int} {U O n k : Nat} (hU : u.length = U) (hO : O * n = U) (hk : k < O) : (rwR n u k).length = n := by
  have h1 : (k + 1) * n ≤ O * n := Nat.mul_le_mul_right n hk
  have h2 : (k + 1) * n = k * n + n := Nat.succ_mul k n
  unfold rwR
  rw [List.length_take, List.length_drop, hU, ← hO]
  exact Nat.min_eq_left (by omega)
end Go.Proofs.YtehbdnehlfplaaaGreat
/- Lines of classes, by the landed code: what they tell. -/
namespace Go.Proofs.YtehbdnehlfplaaaGreat
open Go.RowKit
set_option maxHeartbeats 4000000
set_option maxRecDepth 100000
set_option linter.unusedVariables false
attribute [local go_sem] Oper.semAt_some
theorem lt_badf {r x : List Int} {f : Int} (hr : r.length = x.length + 1) (h1 : 1 ≤ x.length) (h2 : x.length ≤ 16) (hf : ¬ (0 ≤ f ∧ f ≤ 30)) : ltE r x f = 1 := by
  have h3 : (r.take x.length).length = x.length := by rw [List.length_take, hr]; exact Nat.min_eq_left (by omega)
  unfold ltE
  rw [if_neg (by rw [lc_one (n := (x.length : Int)) rfl (by omega) (by omega) (by omega)]; decide)]
  have h4 : dotE (r.take x.length) x f = 1 := by
    unfold dotE
    rw [if_pos (twoE_mk (by omega) h3.symm), beh_bad hf]
    rfl
  rw [h4]
  rfl
theorem lz_rows {O U n : Nat} {u x : List Int} {f : Int} (h : rwE (O : Int) u = 0) (hU : u.length = U) (hn : U / O = n) (hO : O * n = U) (hx : n = x.length + 1) (h17 : n ≤ 17) (h2 : 2 ≤ n) (hO2 : 2 ≤ O) :
    lzE (O : Int) u x f = fstE ((List.range O).map fun k => ltE (rwR n u k) x f) ∧ lzV (O : Int) u x f = (List.range O).map fun k => ltV (rwR n u k) x f := by
  have e0 : rwL (O : Int) u = (List.range O).map (rwR n u) := by unfold rwL; rw [show ((O : Int)).toNat = O from rfl, hU, hn]
  refine ⟨?_, by unfold lzV; rw [e0, List.map_map]; rfl⟩
  unfold lzE
  rw [if_neg (by simp [h]), show ((O : Int)).toNat = O from rfl, hU, hn, if_neg (by simp [hx]), e0, List.map_map]
  by_cases hf : f < 0 ∨ 30 < f
  · rw [if_pos hf]
    have hr : (rwR n u 0).length = n := sp_row_len hU hO (by omega)
    exact (fstE_at (g := fun k => ltE (rwR n u k) x f) (ls := List.range O) (k := 0) (s := 0) (fun x hx => by simp at hx) (by rw [List.getElem?_range (by omega)]) (by rw [lt_badf (by rw [hr, hx]) (by omega) (by omega) (by omega)]; decide)).symm ▸ (lt_badf (by rw [hr, hx]) (by omega) (by omega) (by omega)).symm
  · rw [if_neg hf]; rfl
/-- Where the list lies: not in the boxes about its first block. -/
def apart8 (S : Nat) (A : Option Addr) : Prop := ∀ g, A.map (·.block) = some g → g = S + 4 ∨ S + 8 ≤ g
theorem apart8.ne {S : Nat} {A : Option Addr} (h : apart8 S A) {k : Nat} (h1 : k < S + 8) (h2 : k ≠ S + 4) : A.map (·.block) ≠ some k := fun e => by have := h k e; omega
theorem apart8.app {S m : Nat} {A A' : Option Addr} (h : apart8 S A) (hm : S + 8 ≤ m) (h5 : went A' A m) : apart8 S A' := fun g e => by
  rcases h5 with h6 | h6
  · exact h g (by rw [← h6, e])
  · rw [h6] at e; injection e with e; omega
/-- What a round knows of what the lines told so far. -/
def ToldAt (S : Nat) (w : World) (sx : Value) (f : Int) (zs : List Int) (W : World) : Prop :=
  ∃ A c, apart8 S A ∧ Boxed W (S + 5) 22 (.slice A zs.length c) ∧ W.ownsRow S 2 1 (.slice A zs.length c) zs.length (zs.map (Value.int .i64)) ∧
    (Boxed W S 22 sx ∧ Boxed W (S + 1) 3 (.int .i64 f) ∧ Boxed W (S + 2) 22 (.slice none 0 0) ∧ Boxed W (S + 3) 26 (.int .i64 0)) ∧ S + 8 ≤ W.heap.size ∧ Below S w W
theorem ToldAt.book {S : Nat} {w : World} {sx : Value} {f : Int} {zs : List Int} {W W' : World} {row : Option Nat} (h : ToldAt S w sx f zs W) (hS : S ≤ w.heap.size) (hg : W.grownBy W' row) (hr : ∀ r, row = some r → S ≤ r ∧ ∃ o : Obj, W.heap[r]? = some o ∧ o.isCells = false) : ToldAt S w sx f zs W' := by
  obtain ⟨A, c, h1, h2, h3, ⟨b0, b1, b2, b3⟩, h4, h5⟩ := h
  have hr2 : ∀ r, row = some r → ∃ o : Obj, W.heap[r]? = some o ∧ o.isCells = false := fun r e => (hr r e).2
  exact ⟨A, c, h1, bx_book h2 hg hr2, own_book h3 hg hr2, ⟨bx_book b0 hg hr2, bx_book b1 hg hr2, bx_book b2 hg hr2, bx_book b3 hg hr2⟩, Nat.le_trans h4 hg.size, h5.grown hg (Nat.le_trans hS h5.size) (fun k e => (hr k e).1)⟩
theorem bx_other {W : World} {B C : Nat} {t : TypeId} {v u : Value} (h : Boxed W B t v) (hne : B ≠ C) : Boxed (W.setCell ⟨C, 0, none⟩ u) B t v := h.kept (grownBy_setCell' W C u) (fun e => hne (by injection e))
/-- A round is over. -/
theorem told_round {S c2 c8 : Nat} {w W w4 w8 : World} {A2 A8 : Option Addr} {zs Sx : List Int} {sx : Value} {f V : Int}
    (hS : S ≤ w.heap.size) (ha : apart8 S A2) (hbx : Boxed W (S + 5) 22 (.slice A2 zs.length c2)) (hop : W.ownsRow S 2 1 (.slice A2 zs.length c2) zs.length (zs.map (Value.int .i64)))
    (hb : Boxed W S 22 sx ∧ Boxed W (S + 1) 3 (.int .i64 f) ∧ Boxed W (S + 2) 22 (.slice none 0 0) ∧ Boxed W (S + 3) 26 (.int .i64 0)) (hsz : S + 8 ≤ W.heap.size) (hB : Below S w W)
    (hb4 : Below W.heap.size W w4) (hSx : Sx = zs ++ [V]) (ho8 : w8.ownsRow S 2 1 (.slice A8 Sx.length c8) Sx.length (Sx.map (Value.int .i64))) (hb8 : Below S (w4.alloc (.cells #[.int .i64 V] 2)) w8)
    (hg8 : (w4.alloc (.cells #[.int .i64 V] 2)).grownBy w8 (A2.map (·.block))) (hq8 : went A8 A2 (w4.alloc (.cells #[.int .i64 V] 2)).heap.size) (B : Nat) :
    KeepsFrom B W (w8.setCell ⟨S + 5, 0, none⟩ (.slice A8 Sx.length c8)) ∧ KpC (S + 6) (S + 7) W (w8.setCell ⟨S + 5, 0, none⟩ (.slice A8 Sx.length c8)) ∧ ToldAt S w sx f (zs ++ [V]) (w8.setCell ⟨S + 5, 0, none⟩ (.slice A8 Sx.length c8)) := by
  obtain ⟨w7, hw7⟩ : ∃ w7, w4.alloc (.cells #[.int .i64 V] 2) = w7 := ⟨_, rfl⟩
  have g7 : Below w4.heap.size w4 w7 := by rw [← hw7]; exact (Below.refl _ _).alloc (Nat.le_refl _) _
  have hk7 : KeepsOthers w4 w7 := by rw [← hw7]; exact KeepsOthers.alloc _ _
  rw [hw7] at hb8 hg8 hq8
  have H7 : Below W.heap.size W w7 := hb4.trans (g7.mono hb4.size)
  have hz7 : W.heap.size ≤ w7.heap.size := H7.size
  have ha8 : apart8 S A8 := ha.app (by omega) hq8
  have hop7 := own_on hop H7
  have on8 : ∀ {k : Nat} {t : TypeId} {v : Value}, Boxed W k t v → k < S + 8 → k ≠ S + 4 → Boxed w8 k t v := fun h h1 h2 => (bx_on h H7).kept hg8 (fun e => ha.ne h1 h2 e.symm)
  have hbx8 := on8 hbx (by omega) (by omega)
  subst hSx
  refine ⟨?_, ?_, A8, c8, ha8, hbx8.set _, own_box ho8 (ha8.ne (by omega) (by omega)) _, ⟨bx_other (on8 hb.1 (by omega) (by omega)) (by omega), bx_other (on8 hb.2.1 (by omega) (by omega)) (by omega), bx_other (on8 hb.2.2.1 (by omega) (by omega)) (by omega), bx_other (on8 hb.2.2.2 (by omega) (by omega)) (by omega)⟩, ?_, ?_⟩
  · exact ((((keeps_below hb4).trans hk7).trans (keeps_app hop7 hg8)).trans (KeepsOthers.setCell _ _ _)).from B
  · refine KpC.trans (KpC.trans (KpC.below (by omega) (by omega) H7) (KpC.grown (by omega) (by omega) hg8 (ha.ne (by omega) (by omega)) (ha.ne (by omega) (by omega)))) (KpC.set (by show S + 6 ≠ S + 5; omega) (by show S + 7 ≠ S + 5; omega) _)
  · have := hg8.size
    simp
    omega
  · exact (hB.trans ((H7.mono (by omega)).trans hb8)).setCell (p := ⟨S + 5, 0, none⟩) (by show S ≤ S + 5; omega) _
theorem bx_cellB {B : Nat} {w4 w8 : World} {r : Option Nat} {v x : Value} {t : TypeId} (ha : r ≠ some B) (hc : w4.cell? ⟨B, 0, none⟩ = some v) (hg : (w4.alloc (.cells #[x] t)).grownBy w8 r) : w8.cell? ⟨B, 0, none⟩ = some v := by
  have h1 : B < w4.heap.size := lt_of_cell hc
  have h2 : (w4.alloc (.cells #[x] t)).cell? ⟨B, 0, none⟩ = some v := ((one_cell w4 x t).2.cell (p := ⟨B, 0, none⟩) h1).trans hc
  exact (World.cell?_of_block (a := ⟨B, 0, none⟩) (hg.block B (by simp; omega) (fun e => ha e.symm))).trans h2
theorem bx_frozenB {B : Nat} {w4 w8 : World} {r : Option Nat} {x : Value} {t : TypeId} (ha : r ≠ some B) (hl : B < w4.heap.size) (hf : w4.frozen? ⟨B, 0, none⟩ = false) (hg : (w4.alloc (.cells #[x] t)).grownBy w8 r) : w8.frozen? ⟨B, 0, none⟩ = false := by
  have h2 : (w4.alloc (.cells #[x] t)).frozen? ⟨B, 0, none⟩ = false := ((one_cell w4 x t).2.frozen (p := ⟨B, 0, none⟩) hl).trans hf
  exact (World.frozen?_of_block (a := ⟨B, 0, none⟩) (hg.block B (by simp; omega) (fun e => ha e.symm))).trans h2
/-- Two stores into two boxes. -/
theorem two_set {W : World} {B C : Nat} {u v u' v' : Value} (h1 : W.cell? ⟨B, 0, none⟩ = some u) (h2 : W.cell? ⟨C, 0, none⟩ = some v) (hne : B ≠ C) :
    ((W.setCell ⟨B, 0, none⟩ u').setCell ⟨C, 0, none⟩ v').cell? ⟨B, 0, none⟩ = some u' ∧ ((W.setCell ⟨B, 0, none⟩ u').setCell ⟨C, 0, none⟩ v').cell? ⟨C, 0, none⟩ = some v' := by
  constructor
  · unfold World.cell?
    rw [heap_setCell_other _ _ _ _ (by exact hne)]
    exact World.cell?_setCell_same' W ⟨B, 0, none⟩ u' (by rw [h1]; rfl)
  · refine World.cell?_setCell_same' _ ⟨C, 0, none⟩ v' ?_
    unfold World.cell?
    rw [heap_setCell_other _ _ _ _ (by exact fun e => hne e.symm)]
    unfold World.cell? at h2
    rw [h2]
    rfl
/-- How it was left. -/
def LeftAt (S : Nat) (w : World) (e : Int) (W : World) : Prop := W.cell? ⟨S + 2, 0, none⟩ = some (.slice none 0 0) ∧ W.cell? ⟨S + 3, 0, none⟩ = some (.int .i64 e) ∧ Below S w W
theorem LeftAt.book {S : Nat} {w : World} {e : Int} {W W' : World} {row : Option Nat} (h : LeftAt S w e W) (hS : S ≤ w.heap.size) (hg : W.grownBy W' row) (hr : ∀ r, row = some r → S ≤ r ∧ ∃ o : Obj, W.heap[r]? = some o ∧ o.isCells = false) : LeftAt S w e W' := by
  have hr2 : ∀ r, row = some r → ∃ o : Obj, W.heap[r]? = some o ∧ o.isCells = false := fun r e => (hr r e).2
  exact ⟨cell_kept h.1 hg hr2, cell_kept h.2.1 hg hr2, h.2.2.grown hg (Nat.le_trans hS h.2.2.size) (fun k e => (hr k e).1)⟩
theorem told_start {w : World} {Ax : Option Addr} {S N cx O U cu n b p : Nat} {f : Int} (hS : w.heap.size = S) (hO : O ≤ 8) :
    ∃ W0, ((((((((w.alloc (.cells #[(.slice Ax N cx : Value)] 22)).alloc (.cells #[(.int .i64 f : Value)] 3)).alloc (.cells #[(.slice none 0 0 : Value)] 22)).alloc (.cells #[(.int .i64 0 : Value)] 26)).alloc (.cells (madeCells #[Value.int IntKind.i64 0] O) 2)).alloc (.cells #[(.slice (some ⟨S + 4, 0, none⟩) 0 O : Value)] 22)).alloc (.cells #[(.slice (some ⟨b, p, none⟩) U cu : Value)] 22)).alloc (.cells #[(.int .i64 (n : Int) : Value)] 3)) = W0 ∧ W0.heap.size = S + 8 ∧ ToldAt S w (.slice Ax N cx) f [] W0 ∧ W0.cell? ⟨S + 6, 0, none⟩ = some (.slice (some ⟨b, p, none⟩) U cu) ∧ W0.cell? ⟨S + 7, 0, none⟩ = some (.int .i64 (n : Int)) := by
  obtain ⟨v1, e1⟩ : ∃ v, w.alloc (.cells #[(.slice Ax N cx : Value)] 22) = v := ⟨_, rfl⟩
  have s1 : v1.heap.size = S + 1 := by rw [← e1, World.size_alloc, hS]
  have g1 : Below S w v1 := by rw [← e1]; exact (Below.refl S w).alloc (by omega) _
  have b0_1 : Boxed v1 (S + 0) 22 (.slice Ax N cx) := by rw [← e1]; have h := Boxed.new w 22 (.slice Ax N cx); rw [hS] at h; exact h
  obtain ⟨v2, e2⟩ : ∃ v, v1.alloc (.cells #[(.int .i64 f : Value)] 3) = v := ⟨_, rfl⟩
  have s2 : v2.heap.size = S + 2 := by rw [← e2, World.size_alloc, s1]
  have g2 : Below S w v2 := by rw [← e2]; exact (g1).alloc (by omega) _
  have b1_2 : Boxed v2 (S + 1) 3 (.int .i64 f) := by rw [← e2]; have h := Boxed.new v1 3 (.int .i64 f); rw [s1] at h; exact h
  have b0_2 : Boxed v2 (S + 0) 22 (.slice Ax N cx) := by rw [← e2]; exact b0_1.alloc _
  obtain ⟨v3, e3⟩ : ∃ v, v2.alloc (.cells #[(.slice none 0 0 : Value)] 22) = v := ⟨_, rfl⟩
  have s3 : v3.heap.size = S + 3 := by rw [← e3, World.size_alloc, s2]
  have g3 : Below S w v3 := by rw [← e3]; exact (g2).alloc (by omega) _
  have b2_3 : Boxed v3 (S + 2) 22 (.slice none 0 0) := by rw [← e3]; have h := Boxed.new v2 22 (.slice none 0 0); rw [s2] at h; exact h
  have b0_3 : Boxed v3 (S + 0) 22 (.slice Ax N cx) := by rw [← e3]; exact b0_2.alloc _
  have b1_3 : Boxed v3 (S + 1) 3 (.int .i64 f) := by rw [← e3]; exact b1_2.alloc _
  obtain ⟨v4, e4⟩ : ∃ v, v3.alloc (.cells #[(.int .i64 0 : Value)] 26) = v := ⟨_, rfl⟩
  have s4 : v4.heap.size = S + 4 := by rw [← e4, World.size_alloc, s3]
  have g4 : Below S w v4 := by rw [← e4]; exact (g3).alloc (by omega) _
  have b3_4 : Boxed v4 (S + 3) 26 (.int .i64 0) := by rw [← e4]; have h := Boxed.new v3 26 (.int .i64 0); rw [s3] at h; exact h
  have b0_4 : Boxed v4 (S + 0) 22 (.slice Ax N cx) := by rw [← e4]; exact b0_3.alloc _
  have b1_4 : Boxed v4 (S + 1) 3 (.int .i64 f) := by rw [← e4]; exact b1_3.alloc _
  have b2_4 : Boxed v4 (S + 2) 22 (.slice none 0 0) := by rw [← e4]; exact b2_3.alloc _
  obtain ⟨v5, e5⟩ : ∃ v, v4.alloc (.cells (madeCells #[Value.int IntKind.i64 0] O) 2) = v := ⟨_, rfl⟩
  have s5 : v5.heap.size = S + 5 := by rw [← e5, World.size_alloc, s4]
  have g5 : Below S w v5 := by rw [← e5]; exact (g4).alloc (by omega) _
  have o5 : v5.ownsRow S 2 1 (.slice (some ⟨S + 4, 0, none⟩) 0 O) 0 [] := by rw [← e5]; have h := own_room v4 2 (.int .i64 0) O (by unfold maxLen; omega) (B := S) (by omega); rw [s4] at h; exact h
  have b0_5 : Boxed v5 (S + 0) 22 (.slice Ax N cx) := by rw [← e5]; exact b0_4.alloc _
  have b1_5 : Boxed v5 (S + 1) 3 (.int .i64 f) := by rw [← e5]; exact b1_4.alloc _
  have b2_5 : Boxed v5 (S + 2) 22 (.slice none 0 0) := by rw [← e5]; exact b2_4.alloc _
  have b3_5 : Boxed v5 (S + 3) 26 (.int .i64 0) := by rw [← e5]; exact b3_4.alloc _
  obtain ⟨v6, e6⟩ : ∃ v, v5.alloc (.cells #[(.slice (some ⟨S + 4, 0, none⟩) 0 O : Value)] 22) = v := ⟨_, rfl⟩
  have s6 : v6.heap.size = S + 6 := by rw [← e6, World.size_alloc, s5]
  have g6 : Below S w v6 := by rw [← e6]; exact (g5).alloc (by omega) _
  have b5_6 : Boxed v6 (S + 5) 22 (.slice (some ⟨S + 4, 0, none⟩) 0 O) := by rw [← e6]; have h := Boxed.new v5 22 (.slice (some ⟨S + 4, 0, none⟩) 0 O); rw [s5] at h; exact h
  have b0_6 : Boxed v6 (S + 0) 22 (.slice Ax N cx) := by rw [← e6]; exact b0_5.alloc _
  have b1_6 : Boxed v6 (S + 1) 3 (.int .i64 f) := by rw [← e6]; exact b1_5.alloc _
  have b2_6 : Boxed v6 (S + 2) 22 (.slice none 0 0) := by rw [← e6]; exact b2_5.alloc _
  have b3_6 : Boxed v6 (S + 3) 26 (.int .i64 0) := by rw [← e6]; exact b3_5.alloc _
  have o6 : v6.ownsRow S 2 1 (.slice (some ⟨S + 4, 0, none⟩) 0 O) 0 [] := by rw [← e6]; exact own_on o5 ((Below.refl _ _).alloc (Nat.le_refl _) _)
  obtain ⟨v7, e7⟩ : ∃ v, v6.alloc (.cells #[(.slice (some ⟨b, p, none⟩) U cu : Value)] 22) = v := ⟨_, rfl⟩
  have s7 : v7.heap.size = S + 7 := by rw [← e7, World.size_alloc, s6]
  have g7 : Below S w v7 := by rw [← e7]; exact (g6).alloc (by omega) _
  have b6_7 : Boxed v7 (S + 6) 22 (.slice (some ⟨b, p, none⟩) U cu) := by rw [← e7]; have h := Boxed.new v6 22 (.slice (some ⟨b, p, none⟩) U cu); rw [s6] at h; exact h
  have b0_7 : Boxed v7 (S + 0) 22 (.slice Ax N cx) := by rw [← e7]; exact b0_6.alloc _
  have b1_7 : Boxed v7 (S + 1) 3 (.int .i64 f) := by rw [← e7]; exact b1_6.alloc _
  have b2_7 : Boxed v7 (S + 2) 22 (.slice none 0 0) := by rw [← e7]; exact b2_6.alloc _
  have b3_7 : Boxed v7 (S + 3) 26 (.int .i64 0) := by rw [← e7]; exact b3_6.alloc _
  have o7 : v7.ownsRow S 2 1 (.slice (some ⟨S + 4, 0, none⟩) 0 O) 0 [] := by rw [← e7]; exact own_on o6 ((Below.refl _ _).alloc (Nat.le_refl _) _)
  have b5_7 : Boxed v7 (S + 5) 22 (.slice (some ⟨S + 4, 0, none⟩) 0 O) := by rw [← e7]; exact b5_6.alloc _
  obtain ⟨v8, e8⟩ : ∃ v, v7.alloc (.cells #[(.int .i64 (n : Int) : Value)] 3) = v := ⟨_, rfl⟩
  have s8 : v8.heap.size = S + 8 := by rw [← e8, World.size_alloc, s7]
  have g8 : Below S w v8 := by rw [← e8]; exact (g7).alloc (by omega) _
  have b7_8 : Boxed v8 (S + 7) 3 (.int .i64 (n : Int)) := by rw [← e8]; have h := Boxed.new v7 3 (.int .i64 (n : Int)); rw [s7] at h; exact h
  have b0_8 : Boxed v8 (S + 0) 22 (.slice Ax N cx) := by rw [← e8]; exact b0_7.alloc _
  have b1_8 : Boxed v8 (S + 1) 3 (.int .i64 f) := by rw [← e8]; exact b1_7.alloc _
  have b2_8 : Boxed v8 (S + 2) 22 (.slice none 0 0) := by rw [← e8]; exact b2_7.alloc _
  have b3_8 : Boxed v8 (S + 3) 26 (.int .i64 0) := by rw [← e8]; exact b3_7.alloc _
  have o8 : v8.ownsRow S 2 1 (.slice (some ⟨S + 4, 0, none⟩) 0 O) 0 [] := by rw [← e8]; exact own_on o7 ((Below.refl _ _).alloc (Nat.le_refl _) _)
  have b5_8 : Boxed v8 (S + 5) 22 (.slice (some ⟨S + 4, 0, none⟩) 0 O) := by rw [← e8]; exact b5_7.alloc _
  have b6_8 : Boxed v8 (S + 6) 22 (.slice (some ⟨b, p, none⟩) U cu) := by rw [← e8]; exact b6_7.alloc _
  refine ⟨v8, by rw [e1, e2, e3, e4, e5, e6, e7, e8], s8, ⟨some ⟨S + 4, 0, none⟩, O, fun g e => by simp at e; omega, b5_8, o8, ⟨b0_8, b1_8, b2_8, b3_8⟩, by omega, g8⟩, b6_8.cell, b7_8.cell⟩
theorem lbl_res {tmps : Array Value} {W : World} {p q n c : Nat} {A : Option Addr} {e : Int} (ht : tmps[8]?.getD undef = .pointer (some ⟨p, 0, none⟩)) (hu : tmps[9]?.getD undef = .pointer (some ⟨q, 0, none⟩)) (c1 : W.cell? ⟨p, 0, none⟩ = some (.slice A n c)) (c2 : W.cell? ⟨q, 0, none⟩ = some (.int .i64 e)) :
    (results Tryz.f27 tmps).run Tryz.prog W = .ok (.tuple #[.slice A n c, .int .i64 e]) W := by
  simp [results, Tryz.f27, go_sem, ht, hu, c1, c2]
end Go.Proofs.YtehbdnehlfplaaaGreat
/- The greatest number's place, and powers number by number, by the program. -/
namespace Go.Proofs.YtehbdnehlfplaaaGreat
open Go.RowKit
set_option maxHeartbeats 2000000
set_option maxRecDepth 100000
set_option linter.unusedVariables false
theorem tb_Best {A : Option Addr} {c : Nat} (z : List Int) (hz : z.length ≤ 9223372036854775807) (w : World) (ra : Rd (Value.int .i64) w w.heap.size A z) :
    Calls Tryz.prog 39 #[.slice A z.length c] w fun e w' => e = .returned (.tuple #[.int .i64 (bstN z : Int), .int .i64 (bstE z)]) ∧ Below w.heap.size w w' := by
  have CC := hid (fun w => Check_any A z.length c hz w)
  by_cases h0 : z = []
  · subst h0
    have e1 : bstE [] = 1 := rfl
    have e2 : bstN [] = 0 := rfl
    rw [e1, e2]
    clear ra e1 e2
    go_enter Tryz.func39, Tryz.ntmps39
    go_wp2_with fail
    go_ret2
    exact ⟨rfl, Below.refl _ _⟩
  · have hpos : 0 < z.length := List.length_pos_iff.2 h0
    have t0 : ((z.length : Int) == 0) = false := beq_eq_false_iff_ne.2 (by omega)
    have t1 : (z.length == 0) = false := beq_eq_false_iff_ne.2 (by omega)
    by_cases h4 : 4096 < z.length
    · have e1 : bstE z = 3 := by unfold bstE; rw [if_neg h0, if_pos h4]
      have e2 : bstN z = 0 := if_neg (by rw [e1]; decide)
      have e3 : oneE z.length = 3 := if_pos h4
      rw [e1, e2]
      rw [e3] at CC
      clear ra e1 e2 e3 h0
      go_enter Tryz.func39, Tryz.ntmps39
      go_wp2_with fail
      refine (CC.out _).mono ?_
      rintro _ _ ⟨rfl, rfl⟩
      go_wp2_with fail
      go_ret2
      exact ⟨rfl, Below.refl _ _⟩
    · have e1 : bstE z = 0 := bstE_ok.2 ⟨h0, by omega⟩
      have e2 : bstN z = bstGo z z.length := if_pos e1
      have e3 : oneE z.length = 0 := if_neg h4
      rw [e1, e2]
      rw [e3] at CC
      obtain ⟨M, hM⟩ : ∃ M, z.length = M := ⟨_, rfl⟩
      have HB : Hid (∀ k, k < M → ∃ x y, z[k]? = some x ∧ z[bstGo z k]? = some y ∧ bstGo z k < M ∧ bstGo z (k + 1) = if x > y then k else bstGo z k) := hid (fun k hk => by
        have hb : bstGo z k < z.length := by rcases bstGo_lt (z := z) k with h | h <;> omega
        refine ⟨z.getD k 0, z.getD (bstGo z k) 0, ?_, ?_, by omega, rfl⟩
        · rw [List.getD_eq_getElem?_getD, List.getElem?_eq_getElem (by omega)]; rfl
        · rw [List.getD_eq_getElem?_getD, List.getElem?_eq_getElem hb]; rfl)
      have HR := hid ra
      have HM := hid hM
      rw [hM] at hpos t0 t1 h4 CC ⊢
      obtain ⟨f, hf⟩ : ∃ f : Nat → Nat, (fun k => bstGo z k) = f := ⟨_, rfl⟩
      have HF : Hid (∀ k, bstGo z k = f k) := hid (fun k => by rw [← hf])
      rw [HF.out M]
      have HZ : Hid (f 0 = 0) := hid (by rw [← HF.out]; rfl)
      clear hf hM ra e1 e2 e3 h0
      go_enter Tryz.func39, Tryz.ntmps39
      go_wp2_with fail
      refine (CC.out _).mono ?_
      rintro _ _ ⟨rfl, rfl⟩
      go_wp2_with fail
      go_loopw [5, 6, 7, 18] (fun xa _ _ i wr => ∃ k : Nat, k ≤ M ∧ i = .int .i64 (k : Int) ∧ xa = .int .i64 (f k : Int) ∧ Below w.heap.size w wr) (fun _ _ _ i _ => M - (intOf i).toNat)
      case atStart => exact ⟨0, by omega, rfl, by rw [HZ.out]; rfl, Below.refl _ _⟩
      case round =>
        obtain ⟨k, hk, rfl, rfl, hbel⟩ := hrel
        have HBL := hid hbel
        by_cases hlt : k < M
        · obtain ⟨x, y, ex, ey, hb, hs⟩ := HB.out k hlt
          rw [HF.out, HF.out] at hs
          rw [HF.out] at ey hb
          obtain ⟨b1, o1, x', rfl, l1, en, c1⟩ := (HR.out.on hbel).at_ (k := k) (by rw [HM.out]; exact hlt)
          obtain ⟨b2, o2, y', e2, l2, em, c2⟩ := (HR.out.on hbel).at_ (k := f k) (by rw [HM.out]; exact hb)
          obtain rfl : x = x' := Option.some.inj (ex.symm.trans en)
          obtain rfl : y = y' := Option.some.inj (ey.symm.trans em)
          cases e2
          obtain ⟨Q, hQ⟩ : ∃ Q, f k = Q := ⟨_, rfl⟩
          rw [hQ] at hb hs c2 ⊢
          have HS := hid hs
          clear hs ex ey en em hbel hQ
          by_cases hxy : x > y
          · have hq : f (k + 1) = k := by rw [HS.out, if_pos hxy]
            have HQ := hid hq
            clear hq HS
            go_wp2_with fail
            go_roundw
            case rel => exact ⟨k + 1, by omega, by go_num, by rw [HQ.out], HBL.out⟩
            case measure => simp [intOf]; omega
          · have hq : f (k + 1) = Q := by rw [HS.out, if_neg hxy]
            have HQ := hid hq
            clear hq HS
            go_wp2_with fail
            go_roundw
            case rel => exact ⟨k + 1, by omega, by go_num, by rw [HQ.out], HBL.out⟩
            case measure => simp [intOf]; omega
        · obtain rfl : k = M := by omega
          go_wp2_with fail
          go_ret2
          exact ⟨rfl, HBL.out⟩
/-- The powers, if all of them can be told. -/
def powV (frac : Int) (z : List Int) : List Int := if sofE frac z = 0 then pwI frac z else []
theorem tb_powers {A : Option Addr} {c : Nat} (f : Nat) (hf : f ≤ 30) (z : List Int) (hB : bstE z = 0) (iz : I64s z) (w : World) (ra : Rd (Value.int .i64) w w.heap.size A z) :
    Calls Tryz.prog 48 #[.agg #[.int .u64 1073741824, .int .u64 1028218692, .int .u64 984625593, .int .u64 942880698, .int .u64 902905650, .int .u64 864625412, .int .u64 827968131, .int .u64 792864998, .int .u64 759250124, .int .u64 727060409, .int .u64 696235433, .int .u64 666717334, .int .u64 638450707, .int .u64 611382491, .int .u64 585461880, .int .u64 560640217, .int .u64 536870912], .slice A z.length c, .int .i64 (topZ z), .int .i64 (f : Int)] w (OwnInts (powV (f : Int) z) (sofE (f : Int) z) w) := by
  obtain ⟨hne, hl4⟩ := bstE_ok.1 hB
  obtain ⟨top, ht⟩ : ∃ top, topZ z = top := ⟨_, rfl⟩
  have htop := top_at hne
  rw [ht] at htop ⊢
  have it : I64 top := iz.at_ htop
  have hge : ∀ k x, z[k]? = some x → x ≤ top := fun k x hx => by rw [← ht]; exact topZ_ge (List.mem_of_getElem? hx)
  obtain ⟨w2, hw2⟩ : ∃ w2, w.alloc (.cells #[.int .u64 1073741824, .int .u64 1028218692, .int .u64 984625593, .int .u64 942880698, .int .u64 902905650, .int .u64 864625412, .int .u64 827968131, .int .u64 792864998, .int .u64 759250124, .int .u64 727060409, .int .u64 696235433, .int .u64 666717334, .int .u64 638450707, .int .u64 611382491, .int .u64 585461880, .int .u64 560640217, .int .u64 536870912] 63) = w2 := ⟨_, rfl⟩
  have hs2 : w2.heap.size = w.heap.size + 1 := by rw [← hw2]; simp
  have hb2 : Below w.heap.size w w2 := by rw [← hw2]; go_grown
  have f2 : BoxL w2 w.heap.size [.int .u64 1073741824, .int .u64 1028218692, .int .u64 984625593, .int .u64 942880698, .int .u64 902905650, .int .u64 864625412, .int .u64 827968131, .int .u64 792864998, .int .u64 759250124, .int .u64 727060409, .int .u64 696235433, .int .u64 666717334, .int .u64 638450707, .int .u64 611382491, .int .u64 585461880, .int .u64 560640217, .int .u64 536870912] := by rw [← hw2]; exact BoxL.new w [.int .u64 1073741824, .int .u64 1028218692, .int .u64 984625593, .int .u64 942880698, .int .u64 902905650, .int .u64 864625412, .int .u64 827968131, .int .u64 792864998, .int .u64 759250124, .int .u64 727060409, .int .u64 696235433, .int .u64 666717334, .int .u64 638450707, .int .u64 611382491, .int .u64 585461880, .int .u64 560640217, .int .u64 536870912] 63
  obtain ⟨M, hM⟩ : ∃ M, z.length = M := ⟨_, rfl⟩
  rw [hM] at hl4 ⊢
  have hmk := run_make_row' (P := Tryz.prog) 22 2 (.int .i64 0) 8 Tryz.underlying22 info_i64 rfl .i64 .i64 M (by omega) (by omega) w2
  have hrw := World.rowIs_made w2 (.int .i64 0) M 2
  rw [hs2] at hmk hrw
  obtain ⟨w3, hw3⟩ : ∃ w3, w2.alloc (.cells (madeCells #[.int .i64 0] M) 2) = w3 := ⟨_, rfl⟩
  have hb3 : Below w.heap.size w w3 := by rw [← hw3]; exact hb2.alloc hb2.size _
  have f3 : BoxL w3 w.heap.size [.int .u64 1073741824, .int .u64 1028218692, .int .u64 984625593, .int .u64 942880698, .int .u64 902905650, .int .u64 864625412, .int .u64 827968131, .int .u64 792864998, .int .u64 759250124, .int .u64 727060409, .int .u64 696235433, .int .u64 666717334, .int .u64 638450707, .int .u64 611382491, .int .u64 585461880, .int .u64 560640217, .int .u64 536870912] := by
    rw [← hw3]
    exact f2.below ((Below.refl _ w2).alloc (Nat.le_refl _) _) (by omega)
  rw [hw3] at hmk hrw
  have hrow0 : w3.rowIs (w.heap.size + 1) 2 M (fun j => if j < 0 then .int .i64 ((pwI (f : Int) z).getD j 0) else .int .i64 0) := by simpa using hrw
  obtain ⟨vE, hvE⟩ : ∃ vE, sofE (f : Int) z = vE := ⟨_, rfl⟩
  obtain ⟨vV, hvV⟩ : ∃ vV, powV (f : Int) z = vV := ⟨_, rfl⟩
  rw [hvE, hvV]
  have HV : Hid (powV (f : Int) z = vV ∧ sofE (f : Int) z = vE) := hid ⟨hvV, hvE⟩
  have HB := hid hB
  have HF := hid hf
  have HT := hid htop
  have HTT := hid ht
  have HG := hid hge
  have HI := hid iz
  have HIT := hid it
  have HM := hid hM
  have RA := hid ra
  have HW3 := hid hb3
  have F3 := hid f3
  have HR0 := hid hrow0
  have hpi : (f : Int) ≤ 30 := by omega
  clear hB hf htop ht hge iz it hM ra hb3 f3 hrow0 hvE hvV f2 hb2 hs2 hrw hne
  go_enter Tryz.func48, Tryz.ntmps48
  go_wp2_with fail
  go_loopw [11, 12, 13, 14, 20] (fun _ _ _ _ xi wr => ∃ k : Nat, k ≤ M ∧ xi = .int .i64 (k : Int) ∧ wr.rowIs (w.heap.size + 1) 2 M (fun j => if j < k then .int .i64 ((pwI (f : Int) z).getD j 0) else .int .i64 0) ∧ BoxL wr w.heap.size [.int .u64 1073741824, .int .u64 1028218692, .int .u64 984625593, .int .u64 942880698, .int .u64 902905650, .int .u64 864625412, .int .u64 827968131, .int .u64 792864998, .int .u64 759250124, .int .u64 727060409, .int .u64 696235433, .int .u64 666717334, .int .u64 638450707, .int .u64 611382491, .int .u64 585461880, .int .u64 560640217, .int .u64 536870912] ∧ Below w.heap.size w wr ∧ (∀ j x, j < k → z[j]? = some x → -9223372036854775807 ≤ x - top)) (fun _ _ _ _ xi _ => M - (intOf xi).toNat)
  case atStart => exact ⟨0, by omega, rfl, HR0.out, F3.out, HW3.out, fun j x hj => by omega⟩
  case round =>
    obtain ⟨k, hk, rfl, hrow, hbox, hbel, hfar⟩ := hrel
    have HROW := hid hrow
    have HBOX := hid hbox
    have HFR := hid hfar
    have HBL := hid hbel
    clear hfar HW3 F3 HR0 hmk hw2 hw3 hrow hbox
    by_cases hlt : k < M
    · obtain ⟨b1, o1, x, rfl, l1, en, c1⟩ := (RA.out.on hbel).at_ (k := k) (by rw [HM.out]; exact hlt)
      have ix : I64 x := HI.out.at_ en
      have hxt : x ≤ top := HG.out k x en
      have CS := hid (fix_Sub x top ix HIT.out wr)
      have HX := hid en
      have hit := HIT.out
      clear hbel en
      by_cases hA : I64 (x - top)
      · rw [ckV_in hA, ckE_in hA] at CS
        have CE := hid (tb_exp (f : Int) (x - top) hA wr)
        by_cases hmin : x - top = -9223372036854775808
        · obtain ⟨g1, g2⟩ := exp_min (frac := (f : Int)) (show ¬ ((f : Int) < 0 ∨ 30 < (f : Int) ∨ 0 < x - top) by have := HF.out; omega) hmin
          rw [g1, g2] at CE
          obtain ⟨g3, g4⟩ := sofE_far HB.out (show 0 ≤ (f : Int) by omega) hpi (List.mem_of_getElem? HX.out) (show x - topZ z < -9223372036854775807 by rw [HTT.out]; omega)
          have hv2 : vE = 2 := by rw [← HV.out.2, g3]
          have hv1 : vV = [] := by rw [← HV.out.1]; unfold powV; rw [g3]; exact if_neg (by decide)
          subst hv1 hv2
          obtain ⟨D, hD⟩ : ∃ D, x - top = D := ⟨_, rfl⟩
          rw [hD] at CS CE
          clear g1 g2 g3 g4 hmin hA hD ix hit hxt
          go_wp2_with fail
          refine CS.out.mono ?_
          rintro _ _ ⟨rfl, rfl⟩
          go_wp2_with (refine wpList_load_mid rfl 63 _ rfl w.heap.size 0 rfl [.int .u64 1073741824, .int .u64 1028218692, .int .u64 984625593, .int .u64 942880698, .int .u64 902905650, .int .u64 864625412, .int .u64 827968131, .int .u64 792864998, .int .u64 759250124, .int .u64 727060409, .int .u64 696235433, .int .u64 666717334, .int .u64 638450707, .int .u64 611382491, .int .u64 585461880, .int .u64 560640217, .int .u64 536870912] _ (box_range HBOX.out) Tryz.underlying63 rfl info_roots ?_)
          refine CE.out.mono ?_
          rintro _ w4 ⟨rfl, hb4⟩
          have hz := HROW.out.lt
          have hrow1 := HROW.out.of_block (hb4.block _ hz)
          have c2 := hrow1.cell hlt
          rw [if_neg (Nat.lt_irrefl k)] at c2
          have f2 := hrow1.frozen k
          have HB4 : Hid (Below w.heap.size w w4) := hid (HBL.out.trans (hb4.mono HBL.out.size))
          clear hb4 hrow1
          go_wp2_with fail
          go_ret2
          exact ⟨none, 0, rfl, own_nil _ _ _, HB4.out.setCell (by simp) _⟩
        · obtain ⟨g1, g2⟩ := exp_ok (frac := (f : Int)) (show ¬ ((f : Int) < 0 ∨ 30 < (f : Int) ∨ 0 < x - top) by have := HF.out; omega) hmin
          rw [g1, g2, show -(x - top) = top - x by omega] at CE
          have hn := pwI_at (frac := (f : Int)) HX.out
          rw [HTT.out] at hn
          obtain ⟨p, hp⟩ : ∃ p, expN (top - x).toNat (f : Int).toNat = p := ⟨_, rfl⟩
          rw [hp] at CE hn
          have hfn : -9223372036854775807 ≤ x - top := by unfold I64 at hA; omega
          have HFN : Hid (-9223372036854775807 ≤ x - top) := hid hfn
          obtain ⟨D, hD⟩ : ∃ D, x - top = D := ⟨_, rfl⟩
          rw [hD] at CS CE
          have HN := hid hn
          clear g1 g2 hp hmin hA hfn hD ix hit hxt hn
          go_wp2_with fail
          refine CS.out.mono ?_
          rintro _ _ ⟨rfl, rfl⟩
          go_wp2_with (refine wpList_load_mid rfl 63 _ rfl w.heap.size 0 rfl [.int .u64 1073741824, .int .u64 1028218692, .int .u64 984625593, .int .u64 942880698, .int .u64 902905650, .int .u64 864625412, .int .u64 827968131, .int .u64 792864998, .int .u64 759250124, .int .u64 727060409, .int .u64 696235433, .int .u64 666717334, .int .u64 638450707, .int .u64 611382491, .int .u64 585461880, .int .u64 560640217, .int .u64 536870912] _ (box_range HBOX.out) Tryz.underlying63 rfl info_roots ?_)
          refine CE.out.mono ?_
          rintro _ w4 ⟨rfl, hb4⟩
          have hz := HROW.out.lt
          have hrow1 := HROW.out.of_block (hb4.block _ hz)
          have c2 := hrow1.cell hlt
          rw [if_neg (Nat.lt_irrefl k)] at c2
          have f2 := hrow1.frozen k
          have HR1 := hid hrow1
          have HB4 : Hid (Below w.heap.size w w4) := hid (HBL.out.trans (hb4.mono HBL.out.size))
          have HX4 : Hid (BoxL w4 w.heap.size [.int .u64 1073741824, .int .u64 1028218692, .int .u64 984625593, .int .u64 942880698, .int .u64 902905650, .int .u64 864625412, .int .u64 827968131, .int .u64 792864998, .int .u64 759250124, .int .u64 727060409, .int .u64 696235433, .int .u64 666717334, .int .u64 638450707, .int .u64 611382491, .int .u64 585461880, .int .u64 560640217, .int .u64 536870912]) := hid (HBOX.out.below hb4 (by omega))
          clear hb4 hrow1 hz
          go_wp2_with fail
          go_roundw
          case rel =>
            refine ⟨k + 1, by omega, by go_num, ?_, HX4.out.other (by simp) _, HB4.out.setCell (by simp) _, ?_⟩
            · refine (HR1.out.set k (.int .i64 (p : Int))).congr fun j hj => ?_
              by_cases e : j = k
              · subst e
                rw [if_pos rfl, if_pos (by omega), List.getD_eq_getElem?_getD, HN.out]
                rfl
              · rw [if_neg e]
                by_cases e2 : j < k
                · rw [if_pos e2, if_pos (by omega)]
                · rw [if_neg e2, if_neg (by omega)]
            · intro j x' hj hx'
              by_cases e : j = k
              · subst e
                obtain rfl : x = x' := Option.some.inj (HX.out.symm.trans hx')
                exact HFN.out
              · exact HFR.out j x' (by omega) hx'
          case measure => simp [intOf]; omega
      · obtain ⟨g3, g4⟩ := sofE_far HB.out (show 0 ≤ (f : Int) by omega) hpi (List.mem_of_getElem? HX.out) (show x - topZ z < -9223372036854775807 by rw [HTT.out]; unfold I64 at *; omega)
        have hv2 : vE = 2 := by rw [← HV.out.2, g3]
        have hv1 : vV = [] := by rw [← HV.out.1]; unfold powV; rw [g3]; exact if_neg (by decide)
        subst hv1 hv2
        rw [ckV_out hA, ckE_out hA] at CS
        clear g3 g4 hA ix hit hxt
        go_wp2_with fail
        refine CS.out.mono ?_
        rintro _ _ ⟨rfl, rfl⟩
        go_wp2_with fail
        go_ret2
        exact ⟨none, 0, rfl, own_nil _ _ _, HBL.out⟩
    · obtain rfl : k = M := by omega
      obtain ⟨g3, g4⟩ := sofE_in HB.out (show 0 ≤ (f : Int) by omega) hpi (fun j x hj hx => by rw [HTT.out]; exact HFR.out j x (by rw [← HM.out]; exact hj) hx)
      have hv2 : vE = 0 := by rw [← HV.out.2, g3]
      have hv1 : vV = pwI (f : Int) z := by rw [← HV.out.1]; unfold powV; rw [g3]; exact if_pos rfl
      have hvl : vV.length = k := by rw [hv1, pwI_len]; exact HM.out
      have hown : wr.ownsRow w.heap.size 2 1 (.slice (some ⟨w.heap.size + 1, 0, none⟩) vV.length k) vV.length (vV.map (Value.int .i64)) := by
        have h1 := own_made (B := w.heap.size) (w' := w) (HROW.out.congr (g := fun j => .int .i64 (vV.getD j 0)) fun i hi => by rw [if_pos hi, hv1]) (by omega) (by unfold maxLen; omega)
        have e : (List.range k).map (fun j => Value.int .i64 (vV.getD j 0)) = vV.map (Value.int .i64) := by
          apply List.ext_getElem?
          intro i
          by_cases hi : i < k
          · rw [List.getElem?_map, List.getElem?_map, List.getElem?_range hi]
            show some (Value.int .i64 (vV.getD i 0)) = _
            rw [List.getD_eq_getElem?_getD, List.getElem?_eq_getElem (by omega)]
            rfl
          · rw [List.getElem?_eq_none (by simp; omega), List.getElem?_eq_none (by simp; omega)]
        rw [e] at h1
        rw [hvl]
        exact h1
      have HOW := hid hown
      subst hv2
      have HVL := hid hvl
      clear hv1 hvl hown g3 g4
      go_wp2_with fail
      go_ret2
      exact ⟨some ⟨w.heap.size + 1, 0, none⟩, k, by rw [HVL.out]; rfl, HOW.out, HBL.out⟩
end Go.Proofs.YtehbdnehlfplaaaGreat
/- Lines, by the document: vectors' mean. -/
namespace Go.Proofs.YtehbdnehlfplaaaGreat
open Go.RowKit
set_option maxHeartbeats 2000000
set_option maxRecDepth 100000
set_option linter.unusedVariables false
theorem ln_quo {x n : Int} (hx : I64 x) (hn : 1 ≤ n) : ckV (quoF x n) = x / n ∧ ckE (quoF x n) = 0 := by
  have e : quoF x n = x / n := by unfold quoF; rw [if_neg (by omega)]
  have h1 : x / n ≤ 9223372036854775807 := by
    rcases Int.lt_or_le x 0 with h | h
    · have := Int.ediv_neg_of_neg_of_pos h (show 0 < n by omega); omega
    · have := Int.ediv_le_self n h; unfold I64 at hx; omega
  have h2 : -9223372036854775808 ≤ x / n := by
    refine (Int.le_ediv_iff_mul_le (by omega)).2 ?_
    unfold I64 at hx
    have : -9223372036854775808 * n ≤ -9223372036854775808 * 1 := Int.mul_le_mul_of_nonpos_left (by decide) hn
    omega
  have h : I64 (x / n) := ⟨h2, h1⟩
  rw [e]
  exact ⟨ckV_in h, ckE_in h⟩
theorem ref_Mean14 {A : Option Addr} {c : Nat} (n : Int) (hn : I64 n) (rows : List (List Int)) (ho : RowsOk rows) (hr : rows.length ≤ 1099511627776) (w : World) (ra : RdRows w w.heap.size A rows) :
    Calls Tryz.prog 20 #[.int .i64 n, .slice A rows.length c] w (OwnInts (lmV n rows) (lmE n rows) w) := by
  have CS := hid (rSum_any A c rows ho hr w ra)
  obtain ⟨R, hR⟩ : ∃ R, rows.length = R := ⟨_, rfl⟩
  by_cases h1 : n < 1
  · have e1 : lmE n rows = 1 := if_pos h1
    have e2 : lmV n rows = [] := if_neg (by rw [e1]; decide)
    rw [e1, e2]
    rw [hR]
    clear e1 e2 ra ho hR
    go_enter Tryz.func20, Tryz.ntmps20
    go_wp2_with fail
    go_ret2
    exact ⟨none, 0, rfl, own_nil _ _ _, Below.refl _ _⟩
  · have eE : lmE n rows = (sumAll rows).2 := if_neg h1
    have hl := sumAll_len ho
    have hi := sumAll_i64 ho
    by_cases h2 : (sumAll rows).2 = 0
    · have eV : lmV n rows = (sumAll rows).1.map fun x => x / n := if_pos (by rw [eE]; exact h2)
      rw [eE, eV]
      rw [h2] at CS ⊢
      obtain ⟨S, hS⟩ : ∃ S, (sumAll rows).1 = S := ⟨_, rfl⟩
      rw [hS] at CS hl hi ⊢
      obtain ⟨M, hM⟩ : ∃ M, S.length = M := ⟨_, rfl⟩
      have HM := hid hM
      have HI := hid hi
      have HN := hid hn
      have hn1 : 1 ≤ n := by omega
      have HN1 := hid hn1
      rw [hM] at hl
      have HL := hid hl
      obtain ⟨Q, hQ⟩ : ∃ Q, (S.map fun x => x / n) = Q := ⟨_, rfl⟩
      have HQ := hid hQ
      have HQl : Hid (Q.length = M) := hid (by rw [← hQ, List.length_map]; exact hM)
      rw [hQ]
      rw [hR] at CS ⊢
      clear eE eV h2 hS hi ra ho hQ hn hl
      go_enter Tryz.func20, Tryz.ntmps20
      go_wp2_with fail
      refine CS.out.mono ?_
      rintro _ w1 ⟨A1, c1, rfl, ho1, hb1⟩
      rw [HM.out]
      have RS : Hid (Rd (Value.int .i64) w1 w1.heap.size A1 S) := hid (own_rd ho1)
      have K1 := hid hb1
      clear ho1 hb1 hM
      go_wp2_with fail
      have hl := HL.out
      go_loopw [8, 10, 11, 12, 25] (fun xo _ _ _ xi wr => ∃ (k : Nat) (T : List Int) (A2 : Option Addr) (c2 : Nat), k ≤ M ∧ xi = .int .i64 (k : Int) ∧ xo = .slice A2 T.length c2 ∧ T = Q.take k ∧ wr.ownsRow w1.heap.size 2 1 (.slice A2 T.length c2) T.length (T.map (Value.int .i64)) ∧ Below w1.heap.size w1 wr) (fun _ _ _ _ xi _ => M - (intOf xi).toNat)
      case atStart => exact ⟨0, [], none, 0, Nat.zero_le _, rfl, rfl, rfl, own_nil _ _ _, Below.refl _ _⟩
      case round =>
        obtain ⟨k, T, A2, c2, hk, rfl, rfl, hT, ho, hbel⟩ := hrel
        have hTl : T.length = k := by rw [hT, List.length_take, HQl.out]; omega
        have HT := hid hT
        have HO := hid ho
        have HB := hid hbel
        have HTl := hid hTl
        clear hT ho hTl
        by_cases hlt : k < M
        · obtain ⟨b4, o4, x, rfl, l4, en, c4⟩ := (RS.out.on hbel).at_ (k := k) (by rw [HM.out]; exact hlt)
          have ix : I64 x := HI.out.at_ en
          obtain ⟨u1, u2⟩ := ln_quo ix HN1.out
          have CQ := hid (ref_Quot x n ix HN.out (by have := HN1.out; omega) wr)
          rw [u1, u2] at CQ
          obtain ⟨q, hq⟩ : ∃ q, x / n = q := ⟨_, rfl⟩
          rw [hq] at CQ
          have hnx : Q.take (k + 1) = Q.take k ++ [q] := by
            rw [List.take_add_one, ← HQ.out, List.getElem?_map, en]
            rw [← hq]; rfl
          have HNX := hid hnx
          clear en ix u1 u2 hq hnx hbel
          go_wp2_with fail
          refine CQ.out.mono ?_
          rintro _ w4 ⟨rfl, hb4⟩
          have kk : Below w1.heap.size w1 w4 := HB.out.trans (hb4.mono HB.out.size)
          have HK := hid kk
          have hr0 : Rd (Value.int .i64) (w4.alloc (.cells #[.int .i64 q] 2)) _ (some ⟨w4.heap.size, 0, none⟩) [q] := rd_one (one_cell w4 (.int .i64 q) 2).1
          have h0' := own_on (own_on HO.out hb4) ((Below.refl w4.heap.size w4).alloc (Nat.le_refl _) (.cells #[.int .i64 q] 2))
          clear hb4 kk
          go_wp2_with (at_builtin; refine wpList_app (Value.int .i64) (fun _ => rfl) _ rfl _ _ 22 rfl w1.heap.size 2 (.int .i64 0) 8 Tryz.underlying22 info_i64 rfl T _ _ rfl h0' [q] _ 1 _ rfl hr0 (by have := HTl.out; simp [maxLen]; omega) (by have := HTl.out; simp; omega) (by have := HK.out.size; simp; omega) ?_)
          rintro S' A' c' w5 hS' ho' hb5 _
          have HS' := hid hS'
          have HO' := hid ho'
          have HK5 : Hid (Below w1.heap.size w1 w5) := hid ((HK.out.alloc HK.out.size _).trans hb5)
          clear hS' ho' h0' hr0 hb5
          go_wp2_with fail
          go_roundw
          case rel => exact ⟨k + 1, S', A', c', by omega, by go_num, rfl, by rw [HS'.out, HNX.out, HT.out], HO'.out, HK5.out⟩
          case measure => simp [intOf]; omega
        · obtain rfl : k = M := by omega
          have hTQ : T = Q := by rw [HT.out]; exact List.take_of_length_le (by rw [HQl.out]; exact Nat.le_refl _)
          subst hTQ
          clear hbel
          go_wp2_with fail
          go_ret2
          exact ⟨A2, c2, rfl, own_base HO.out K1.out.size, K1.out.trans (HB.out.mono K1.out.size)⟩
    · have eV : lmV n rows = [] := if_neg (by rw [eE]; exact h2)
      rw [eE, eV]
      obtain ⟨E, hE⟩ : ∃ E, (sumAll rows).2 = E := ⟨_, rfl⟩
      rw [hE] at CS h2 ⊢
      have hne : (E != 0) = true := by simpa using h2
      rw [hR] at CS ⊢
      have hn1 : ¬ n < 1 := h1
      clear eE eV hE h2 ra ho hi hl hR
      go_enter Tryz.func20, Tryz.ntmps20
      go_wp2_with fail
      refine CS.out.mono ?_
      rintro _ w1 ⟨A1, c1, rfl, ho1, hb1⟩
      clear ho1
      go_wp2_with fail
      go_ret2
      exact ⟨none, 0, rfl, own_nil _ _ _, hb1⟩
end Go.Proofs.YtehbdnehlfplaaaGreat
/- Lines of classes, by the document: how they are to be bent. -/
namespace Go.Proofs.YtehbdnehlfplaaaGreat
open Go.RowKit
set_option maxHeartbeats 4000000
set_option maxRecDepth 100000
set_option linter.unusedVariables false
/-- One line's part of what bends them. -/
def sbP (s : SmpV) (f o : Int) : List Int := unV (behE f) (numS s.X o f) s.X.length ++ [o]
def sbQ (s : SmpV) (f o : Int) : Int := unE (behE f) (numS s.X o f) s.X.length
theorem sbV_is (o : Int) (u : List Int) (f : Int) (s : SmpV) : sbV o u f s = ((soV o u s f).map (sbP s f)).flatten := rfl
theorem sb_bad {o : Int} {u : List Int} {f : Int} {s : SmpV} (h : soE o u s f ≠ 0) : sbE o u f s = soE o u s f := by unfold sbE; rw [if_pos h]
theorem sb_good {o : Int} {u : List Int} {f : Int} {s : SmpV} (h : soE o u s f = 0) : sbE o u f s = fstE ((soV o u s f).map (sbQ s f)) := by
  unfold sbE
  rw [if_neg (by simp [h])]
  rfl
theorem sbP_len (s : SmpV) (f o : Int) : (sbP s f o).length ≤ 4097 := by
  unfold sbP
  rw [List.length_append]
  have : (unV (behE f) (numS s.X o f) s.X.length).length ≤ 4096 := unV_len _ _ _
  simp; omega
theorem sf_flat_len {l : List (List Int)} {b : Nat} (h : ∀ p ∈ l, p.length ≤ b) : l.flatten.length ≤ l.length * b := by
  induction l with
  | nil => simp
  | cons a r ih =>
    rw [List.flatten_cons, List.length_append, List.length_cons, Nat.succ_mul]
    have h1 := h a (by simp)
    have h2 := ih (fun p hp => h p (by simp [hp]))
    omega
theorem sbV_len {o : Int} {u : List Int} {f : Int} {s : SmpV} : (sbV o u f s).length ≤ (soV o u s f).length * 4097 := by
  rw [sbV_is]
  refine Nat.le_trans (sf_flat_len (b := 4097) fun p hp => ?_) (by rw [List.length_map]; exact Nat.le_refl _)
  obtain ⟨x, _, rfl⟩ := List.mem_map.1 hp
  exact sbP_len s f x
theorem soV_small {o : Int} {u : List Int} {f : Int} {s : SmpV} : I64s (soV o u s f) ∧ (soV o u s f).length ≤ 8 := by
  by_cases h : soE o u s f = 0
  · obtain ⟨h1, h2, h3, h4⟩ := soft_off h
    have ho := (rwE_ok.1 (lzE_ok.1 (stE_ok.1 (soE_ok.1 h).1).1).1)
    have hf := (lzE_ok.1 (stE_ok.1 (soE_ok.1 h).1).1).2.2.1
    have hp : (2 : Int) ^ f.toNat ≤ 1073741824 := by
      have : 2 ^ f.toNat ≤ 2 ^ 30 := Nat.pow_le_pow_right (n := 2) (by decide) (by omega)
      have e : (2 : Int) ^ f.toNat = ((2 ^ f.toNat : Nat) : Int) := by simp
      rw [e]; omega
    refine ⟨fun x hx => ?_, by omega⟩
    obtain ⟨i, hi, rfl⟩ := List.mem_iff_getElem.1 hx
    have h5 := h4 i (by omega)
    rw [List.getD_eq_getElem?_getD, List.getElem?_eq_getElem hi, Option.getD_some] at h5
    unfold I64
    by_cases e : (i : Int) = s.Y
    · have := h5.1 e; omega
    · have := h5.2 e; omega
  · have : soV o u s f = [] := if_neg h
    rw [this]
    exact ⟨fun x hx => by simp at hx, by simp⟩
theorem sbP_i64 {s : SmpV} {f o : Int} (h : I64 o) : I64s (sbP s f o) := fun x hx => by
  unfold sbP at hx
  rcases List.mem_append.1 hx with hx | hx
  · unfold unV at hx
    split at hx
    · unfold seqV at hx
      split at hx
      · obtain ⟨k, _, rfl⟩ := List.mem_map.1 hx
        exact ln_mul_i64 _ _ _
      · simp at hx
    · simp at hx
  · simp at hx; subst hx; exact h
theorem sb_rows (o : Int) (u : List Int) (f : Int) (ls : List SmpV) : RowsOk (ls.map (sbV o u f)) := by
  intro xs hx
  obtain ⟨s, _, rfl⟩ := List.mem_map.1 hx
  have h1 := soV_small (o := o) (u := u) (f := f) (s := s)
  have h2 := sbV_len (o := o) (u := u) (f := f) (s := s)
  refine ⟨fun x hx => ?_, by have := Nat.mul_le_mul_right 4097 h1.2; omega⟩
  rw [sbV_is] at hx
  obtain ⟨p, hp, hxp⟩ := List.mem_flatten.1 hx
  obtain ⟨y, hy, rfl⟩ := List.mem_map.1 hp
  exact sbP_i64 (h1.1 y hy) x hxp
theorem sg_bad {o : Int} {u : List Int} {f : Int} {ls : List SmpV} {k : Nat} {s : SmpV} (h0 : sfE o u ls = 0) (h : ∀ x ∈ ls.take k, sbE o u f x = 0) (hs : ls[k]? = some s) (hn : sbE o u f s ≠ 0) : sgdE o u f ls = sbE o u f s ∧ sgdV o u f ls = [] := by
  have e := fstE_at h hs hn
  have e1 : sgdE o u f ls = sbE o u f s := by
    unfold sgdE
    rw [if_neg (by simp [h0]), e, if_pos hn]
  exact ⟨e1, if_neg (by rw [e1]; exact hn)⟩
theorem sg_off {o : Int} {u : List Int} {f : Int} {ls : List SmpV} (h0 : sfE o u ls ≠ 0) : sgdE o u f ls = sfE o u ls ∧ sgdV o u f ls = [] := by
  have e1 : sgdE o u f ls = sfE o u ls := by unfold sgdE; rw [if_pos h0]
  exact ⟨e1, if_neg (by rw [e1]; exact h0)⟩
theorem sg_good {o : Int} {u : List Int} {f : Int} {ls : List SmpV} (h0 : sfE o u ls = 0) (h : ∀ x ∈ ls, sbE o u f x = 0) : sgdE o u f ls = lmE ls.length (ls.map (sbV o u f)) ∧ sgdV o u f ls = lmV ls.length (ls.map (sbV o u f)) := by
  have e : fstE (ls.map (sbE o u f)) = 0 := fstE_ok.2 (by simpa using h)
  have e1 : sgdE o u f ls = lmE ls.length (ls.map (sbV o u f)) := by
    unfold sgdE
    rw [if_neg (by simp [h0]), if_neg (by simp [e])]
  refine ⟨e1, ?_⟩
  unfold sgdV
  rw [e1]
  by_cases h2 : lmE ls.length (ls.map (sbV o u f)) = 0
  · rw [if_pos h2]
  · rw [if_neg h2]; unfold lmV; rw [if_neg h2]
theorem ref_Grad15 {Au A : Option Addr} {cu c : Nat} (o : Int) (ho : I64 o) (u : List Int) (hu : u.length ≤ cu) (hcu : cu ≤ 9223372036854775807) (iu : I64s u) (f : Int) (ls : List SmpV) (hl : ls.length ≤ 9223372036854775807) (hX : ∀ s ∈ ls, I64s s.X ∧ I64 s.Y ∧ s.X.length ≤ 9223372036854775807) (w : World)
    (ru : Rd (Value.int .i64) w w.heap.size Au u) (ra : RdSm w w.heap.size A ls) :
    Calls Tryz.prog 7 #[.int .i64 o, .slice Au u.length cu, .int .i64 f, .slice A ls.length c] w (OwnInts (sgdV o u f ls) (sgdE o u f ls) w) := by
  have CF := hid (ref_fit15 (Au := Au) (A := A) (cu := cu) (c := c) o ho u hu hcu ls hl (fun s hs => (hX s hs).2.2) w ru ra)
  obtain ⟨U, hU⟩ : ∃ U, u.length = U := ⟨_, rfl⟩
  obtain ⟨M, hM⟩ : ∃ M, ls.length = M := ⟨_, rfl⟩
  by_cases h1 : sfE o u ls = 0
  · obtain ⟨s1, s2, _, _⟩ := sfE_ok h1
    have hM64 : M ≤ 64 := by omega
    have HBAD := hid (fun (k : Nat) (s : SmpV) h (hs : ls[k]? = some s) hn => sg_bad (f := f) h1 h hs hn)
    have HGOOD := hid (fun h => sg_good (f := f) h1 h)
    rw [hM] at HGOOD
    have CME := hid (fun (A2 : Option Addr) (c2 : Nat) (W : World) (h : RdRows W W.heap.size A2 (ls.map (sbV o u f))) => ref_Mean14 (A := A2) (c := c2) (M : Int) (by unfold I64; omega) (ls.map (sbV o u f)) (sb_rows o u f ls) (by rw [List.length_map]; omega) W h)
    rw [h1] at CF
    obtain ⟨vV, hvV⟩ : ∃ v, sgdV o u f ls = v := ⟨_, rfl⟩
    obtain ⟨vE, hvE⟩ : ∃ v, sgdE o u f ls = v := ⟨_, rfl⟩
    rw [hvV, hvE] at HBAD HGOOD
    rw [hvV, hvE]
    have CO := hid (fun (s : SmpV) (hs : s ∈ ls) (Ax : Option Addr) (cx : Nat) (W : World) (h1 : Rd (Value.int .i64) W W.heap.size Au u) (h2 : Rd (Value.int .i64) W W.heap.size Ax s.X) => ref_Off15 (Au := Au) (Ax := Ax) (cu := cu) (cx := cx) o ho u s hu hcu iu (by have := s1 s hs; omega) (hX s hs).1 f W h1 h2)
    have CS := hid (fun (s : SmpV) (hs : s ∈ ls) (y : Int) (hy : I64 y) (Ax : Option Addr) (cx : Nat) (W : World) (h2 : Rd (Value.int .i64) W W.heap.size Ax s.X) => rScale_any (A := Ax) (c := cx) s.X (hX s hs).2.2 (hX s hs).1 y f hy W h2)
    rw [hU] at CF CO ⊢
    rw [hM] at CF ⊢
    have HM := hid hM
    have RU := hid ru
    have RA := hid ra
    have HM64 := hid hM64
    clear h1 hvV hvE hU hM ru ra hX iu hu hcu hl s1 s2 ho
    go_enter Tryz.func7, Tryz.ntmps7
    go_wp2_with fail
    refine CF.out.mono ?_
    rintro _ w1 ⟨rfl, hb1⟩
    have K1 := hid hb1
    clear hb1 CF
    go_wp2_with fail
    go_loopw [11, 13, 14, 15, 16, 18, 19, 20, 30] (fun xo _ _ _ _ _ _ _ xi wr => ∃ (k : Nat) (A2 : Option Addr) (c2 : Nat), k ≤ M ∧ xi = .int .i64 (k : Int) ∧ xo = .slice A2 k c2 ∧ (∀ x ∈ ls.take k, sbE o u f x = 0) ∧ OwnRw wr w.heap.size A2 c2 ((ls.take k).map (sbV o u f)) ∧ Below w.heap.size w wr) (fun _ _ _ _ _ _ _ _ xi _ => M - (intOf xi).toNat)
    case atStart => exact ⟨0, none, 0, Nat.zero_le _, rfl, rfl, fun x hx => by simp at hx, OwnRw.nil _ _, K1.out⟩
    case round =>
      obtain ⟨k, A2, c2, hk, rfl, rfl, hz, ho, hbel⟩ := hrel
      have HB := hid hbel
      have HZ := hid hz
      have HO := hid ho
      clear hz ho K1
      by_cases hlt : k < M
      · obtain ⟨b1, o1, s, Ax, cx, rfl, l1, en, c1, d1, rx⟩ := (RA.out.on hbel).at_ (k := k) (by rw [HM.out]; exact hlt)
        have hs : s ∈ ls := List.mem_of_getElem? en
        have HEN := hid en
        have rw2 : Rd (Value.int .i64) wr wr.heap.size Ax s.X := rx
        obtain ⟨w2, hw2⟩ : ∃ w2, wr.alloc (.cells #[.slice Ax s.X.length cx, .int .i64 s.Y] 36) = w2 := ⟨_, rfl⟩
        have hb2 : Below wr.heap.size wr w2 := by rw [← hw2]; exact (Below.refl _ _).alloc (Nat.le_refl _) _
        have hs2 : wr.heap.size < w2.heap.size := by rw [← hw2]; simp
        have m0 : w2.cell? ⟨wr.heap.size, 0, none⟩ = some (.slice Ax s.X.length cx) := by rw [← hw2]; simp [go_sem]
        have m1 : w2.cell? ⟨wr.heap.size, 1, none⟩ = some (.int .i64 s.Y) := by rw [← hw2]; simp [go_sem]
        have CO2 := hid (CO.out s hs Ax cx w2 ((RU.out.on hbel).on hb2) (rw2.on hb2))
        have RX2 := hid (rw2.on hb2)
        have K2 : Hid (Below w.heap.size w w2) := hid (HB.out.trans (hb2.mono HB.out.size))
        have HO2 := hid (HO.out.on hb2)
        have CS2 := hid (fun y hy W h => CS.out s hs y hy Ax cx W h)
        obtain ⟨hoi, hol⟩ := soV_small (o := o) (u := u) (f := f) (s := s)
        have HSB := hid (sb_bad (o := o) (u := u) (f := f) (s := s))
        have HSG := hid (sb_good (o := o) (u := u) (f := f) (s := s))
        have HSV := hid (sbV_is o u f s)
        obtain ⟨V, hV⟩ : ∃ V, soV o u s f = V := ⟨_, rfl⟩
        obtain ⟨E, hE⟩ : ∃ E, soE o u s f = E := ⟨_, rfl⟩
        rw [hV] at CO2 hoi hol HSG HSV
        rw [hE] at CO2 HSB HSG
        have HSP : Hid (∀ y, sbP s f y = unV (behE f) (numS s.X y f) s.X.length ++ [y]) := hid (fun y => rfl)
        have HSQ : Hid (∀ y, sbQ s f y = unE (behE f) (numS s.X y f) s.X.length) := hid (fun y => rfl)
        obtain ⟨N, hN⟩ : ∃ N, s.X.length = N := ⟨_, rfl⟩
        obtain ⟨Y, hY⟩ : ∃ Y, s.Y = Y := ⟨_, rfl⟩
        rw [hN, hY] at CO2
        rw [hN] at CS2 HSP HSQ
        rw [hN] at c1 hw2 m0
        rw [hY] at d1 hw2 m1
        have hw : IntKind.i64.wrap ((k : Int) + 1) = ((k + 1 : Nat) : Int) := Go.IntWalk.i64_in _ (by omega)
        have HW := hid hw
        have HOI := hid hoi
        have HOLL := hid hol
        have HKM := hid hlt
        clear hw en rx rw2 hs hV hE hN hY hb2 hbel hoi
        by_cases hE0 : E = 0
        · subst hE0
          obtain ⟨L, hL⟩ : ∃ L, V.length = L := ⟨_, rfl⟩
          rw [hL] at hol
          have HL := hid hL
          go_wp2_with fail
          refine CO2.out.mono ?_
          rintro _ w3 ⟨A3, c3, rfl, ho3, hb3⟩
          rw [HL.out]
          have K3 : Hid (Below w.heap.size w w3) := hid (K2.out.trans (hb3.mono K2.out.size))
          have RX3 := hid (RX2.out.on hb3)
          have HO3 := hid (HO2.out.on hb3)
          have RV := hid (own_rd ho3)
          have m0' := (hb3.cell (p := ⟨wr.heap.size, 0, none⟩) hs2).trans m0
          have hs3 : wr.heap.size < w3.heap.size := Nat.lt_of_lt_of_le hs2 hb3.size
          have HM0 := hid m0'
          clear hb3 ho3 hw2 m0 m1 HO2 c1 d1 hL HO HB
          go_wp2_with fail
          clear m0'
          generalize wr = wo at *
          go_loopw [16, 18, 19, 20, 47] (fun xg _ _ _ xi wr => ∃ (j : Nat) (T : List Int) (A6 : Option Addr) (c6 : Nat), j ≤ L ∧ xi = .int .i64 (j : Int) ∧ xg = .slice A6 T.length c6 ∧ T = ((V.take j).map (sbP s f)).flatten ∧ (∀ y ∈ V.take j, sbQ s f y = 0) ∧ wr.ownsRow w3.heap.size 2 1 (.slice A6 T.length c6) T.length (T.map (Value.int .i64)) ∧ Below w3.heap.size w3 wr) (fun _ _ _ _ xi _ => L - (intOf xi).toNat)
          case atStart => exact ⟨0, [], none, 0, Nat.zero_le _, rfl, rfl, rfl, fun y hy => by simp at hy, own_nil _ _ _, Below.refl _ _⟩
          case round =>
            obtain ⟨j, T, A6, c6, hj, rfl, rfl, hT, ha, ho, hbel⟩ := hrel
            have HT := hid hT
            have HA := hid ha
            have HO6 := hid ho
            have HB6 := hid hbel
            have hTl : T.length ≤ 8 * 4097 := by
              rw [hT]
              refine Nat.le_trans (sf_flat_len (b := 4097) fun p hp => ?_) ?_
              · obtain ⟨x, _, rfl⟩ := List.mem_map.1 hp
                exact sbP_len s f x
              · rw [List.length_map, List.length_take]
                have := HL.out
                exact Nat.mul_le_mul_right 4097 (by omega)
            have HTL := hid hTl
            have KR : Hid (Below w.heap.size w wr) := hid (K3.out.trans (hbel.mono K3.out.size))
            clear hT ha ho hTl
            by_cases hlt : j < L
            · obtain ⟨b2, o2, y, rfl, l2, ey, c2'⟩ := (RV.out.on hbel).at_ (k := j) (by rw [HL.out]; exact hlt)
              have HEY := hid ey
              have iy : I64 y := HOI.out.at_ ey
              have n0 := (hbel.cell (p := ⟨wo.heap.size, 0, none⟩) hs3).trans HM0.out
              have CS3 := hid (CS2.out y iy wr (RX3.out.on hbel))
              obtain ⟨vs, hvs⟩ : ∃ v, unV (behE f) (numS s.X y f) N = v := ⟨_, rfl⟩
              obtain ⟨es, hes⟩ : ∃ v, unE (behE f) (numS s.X y f) N = v := ⟨_, rfl⟩
              have HP := hid (HSP.out y)
              have HQ := hid (HSQ.out y)
              have hvl : vs.length ≤ 4096 := by rw [← hvs]; exact unV_len _ _ _
              rw [hvs, hes] at CS3
              rw [hvs] at HP
              rw [hes] at HQ
              have HJL := hid hlt
              clear ey iy hvs hes hbel
              by_cases hes0 : es = 0
              · subst hes0
                go_wp2_with fail
                refine CS3.out.mono ?_
                rintro _ w4 ⟨A4, c4, rfl, ho4, hb4⟩
                have HB4 : Hid (Below w3.heap.size w3 w4) := hid (HB6.out.trans (hb4.mono HB6.out.size))
                have h6 := own_on HO6.out hb4
                have R4 := own_rd ho4
                have hz4 := HB4.out.size
                clear ho4 hb4 n0 c2'
                go_wp2_with (at_builtin; refine wpList_app (Value.int .i64) (fun _ => rfl) _ rfl _ _ 22 rfl w3.heap.size 2 (.int .i64 0) 8 Tryz.underlying22 info_i64 rfl T A6 c6 rfl h6 vs A4 c4 _ rfl R4 (by have := HTL.out; simp [maxLen]; omega) (by have := HTL.out; simp; omega) hz4 ?_)
                rintro T5 A7 c7 w5 hT5 ho5 hb5 _
                have HB5 : Hid (Below w3.heap.size w3 w5) := hid (HB4.out.trans hb5)
                have hT5l : T5.length ≤ 8 * 4097 + 4096 := by rw [hT5, List.length_append]; have := HTL.out; omega
                have HT5 := hid hT5
                have r0' : Rd (Value.int .i64) (w5.alloc (.cells #[.int .i64 y] 2)) _ (some ⟨w5.heap.size, 0, none⟩) [y] := rd_one (one_cell w5 (.int .i64 y) 2).1
                have h7 := own_on ho5 ((Below.refl w5.heap.size w5).alloc (Nat.le_refl _) (.cells #[.int .i64 y] 2))
                have hz5 := HB5.out.size
                clear ho5 hb5 h6 R4 hT5
                go_wp2_with (at_builtin; refine wpList_app (Value.int .i64) (fun _ => rfl) _ rfl _ _ 22 rfl w3.heap.size 2 (.int .i64 0) 8 Tryz.underlying22 info_i64 rfl T5 A7 c7 rfl h7 [y] _ 1 _ rfl r0' (by simp [maxLen]; omega) (by simp; omega) (by simp; omega) ?_)
                rintro T8 A8 c8 w8 hT8 ho8 hb8 _
                have HB8 : Hid (Below w3.heap.size w3 w8) := hid ((HB5.out.alloc HB5.out.size _).trans hb8)
                have HO8 := hid ho8
                have hTT : Hid (T8 = ((V.take (j + 1)).map (sbP s f)).flatten) := hid (by
                  rw [hT8, HT5.out, HT.out, List.take_add_one, HEY.out]
                  simp only [Option.toList_some, List.map_append, List.map_cons, List.map_nil, List.flatten_append, List.flatten_cons, List.flatten_nil, List.append_nil]
                  rw [HP.out, List.append_assoc])
                clear ho8 hb8 hT8 h7 r0' hz5 hz4
                go_wp2_with fail
                go_roundw
                case rel => exact ⟨j + 1, T8, A8, c8, HJL.out, by go_num, rfl, hTT.out, take_all HA.out HEY.out HQ.out, HO8.out, HB8.out⟩
                case measure => have := HJL.out; simp [intOf]; omega
              · have hne : (es != 0) = true := by simpa using hes0
                have e0 : sbE o u f s = es := by
                  rw [HSG.out (by trivial), fstE_at HA.out HEY.out (by rw [HQ.out]; exact hes0), HQ.out]
                obtain ⟨e1, e2⟩ := HBAD.out k s HZ.out HEN.out (by rw [e0]; exact hes0)
                rw [e0] at e1
                subst e2
                subst e1
                clear e0 hes0
                go_wp2_with fail
                refine CS3.out.mono ?_
                rintro _ w4 ⟨A4, c4, rfl, ho4, hb4⟩
                have K4 : Hid (Below w.heap.size w w4) := hid (KR.out.trans (hb4.mono KR.out.size))
                clear ho4 hb4 n0 c2'
                go_wp2_with fail
                go_ret2
                exact ⟨none, 0, rfl, own_nil _ _ _, K4.out⟩
            · obtain rfl : j = L := by omega
              have hVt : V.take j = V := List.take_of_length_le (by rw [HL.out]; exact Nat.le_refl _)
              have hTV : Hid (T = sbV o u f s) := hid (by rw [HT.out, hVt, HSV.out])
              have hse : Hid (sbE o u f s = 0) := hid (by
                rw [HSG.out (by trivial)]
                refine fstE_ok.2 fun e he => ?_
                obtain ⟨y, hy, rfl⟩ := List.mem_map.1 he
                exact HA.out y (by rw [hVt]; exact hy))
              have HO3' := hid (HO3.out.on HB6.out)
              have HRX := hid (rdx_own (base := w.heap.size) HO6.out K3.out.size (fun g hg => (HO3.out.lies g hg).2))
              have HC6 := hid (own_cap HO6.out)
              have g7 : Below wr.heap.size wr (wr.alloc (.cells #[.slice A6 T.length c6] 22)) := (Below.refl _ _).alloc (Nat.le_refl _) _
              have HRX7 := hid (HRX.out.on g7)
              have r7 : Rd encS (wr.alloc (.cells #[.slice A6 T.length c6] 22)) _ (some ⟨wr.heap.size, 0, none⟩) [(A6, T.length, c6)] := rd_one (enc := encS) (one_cell wr (.slice A6 T.length c6) 22).1
              obtain ⟨ps, hpl, hop, hpr⟩ := HO3'.out.on g7
              have HPR := hid hpr
              have HPL := hid hpl
              have HPK : Hid (ps.length = k) := hid (by rw [hpl, List.length_map, List.length_take, HM.out]; have := HKM.out; omega)
              have K7 : Hid (Below w.heap.size w (wr.alloc (.cells #[.slice A6 T.length c6] 22))) := hid (KR.out.trans (g7.mono KR.out.size))
              have hz7 := K7.out.size
              have HTN : Hid (ls.take (k + 1) = ls.take k ++ [s]) := hid (by rw [List.take_add_one, HEN.out]; rfl)
              clear hVt g7 hpr hpl HO3' HRX hbel hlt hj
              go_wp2_with (at_builtin; refine wpList_app5 encS (fun _ => rfl) _ rfl _ _ 38 rfl w.heap.size 22 (.slice none 0 0) 24 Tryz.underlying38 info_row rfl ps A2 c2 (by rw [HPK.out]; rfl) hop [(A6, T.length, c6)] (some ⟨wr.heap.size, 0, none⟩) 1 _ rfl r7 (by have := HPK.out; have := HKM.out; have := HM64.out; simp [maxLen]; omega) (by have := HPK.out; have := HKM.out; have := HM64.out; simp; omega) hz7 ?_)
              rintro S A8 c8 w8 hS ho8 hb8 hg8 hq8
              have HN8 := hid (OwnRw.app HPL.out HPR.out (p := (A6, T.length, c6)) ⟨rfl, HC6.out⟩ HRX7.out hS ho8 hg8 (by simpa using hq8))
              have hSl : S.length = k + 1 := by rw [hS, List.length_append, HPK.out]; rfl
              rw [hSl]
              have K8 : Hid (Below w.heap.size w w8) := hid (K7.out.trans hb8)
              have hw := HW.out
              clear hS ho8 hb8 hg8 hq8 hSl r7 hop hz7
              go_wp2_with fail
              go_roundw
              case rel =>
                refine ⟨k + 1, A8, c8, HKM.out, rfl, rfl, ?_, ?_, K8.out⟩
                · exact take_all HZ.out HEN.out hse.out
                · rw [HTN.out, List.map_append]
                  have := HN8.out
                  rw [hTV.out] at this
                  exact this
              case measure => have := HKM.out; (try clear hw); simp [intOf]; omega
        · have hne : (E != 0) = true := by simpa using hE0
          have e0 : sbE o u f s = E := HSB.out hE0
          obtain ⟨e1, e2⟩ := HBAD.out k s HZ.out HEN.out (by rw [e0]; exact hE0)
          rw [e0] at e1
          subst e2
          subst e1
          clear e0 hE0
          go_wp2_with fail
          refine CO2.out.mono ?_
          rintro _ w3 ⟨A3, c3, rfl, ho3, hb3⟩
          have K3 : Hid (Below w.heap.size w w3) := hid (K2.out.trans (hb3.mono K2.out.size))
          clear hb3 ho3 hw2 m0 m1
          go_wp2_with fail
          go_ret2
          exact ⟨none, 0, rfl, own_nil _ _ _, K3.out⟩
      · obtain rfl : k = M := by omega
        have htk : ls.take k = ls := List.take_of_length_le (by rw [HM.out]; exact Nat.le_refl _)
        rw [htk] at HZ HO
        obtain ⟨rfl, rfl⟩ := HGOOD.out HZ.out
        have CM2 := hid (CME.out A2 c2 wr HO.out.rd)
        have hll : (ls.map (sbV o u f)).length = k := by rw [List.length_map]; exact HM.out
        rw [hll] at CM2
        clear hll htk hbel
        go_wp2_with fail
        refine CM2.out.mono ?_
        rintro _ w3 ⟨A3, c3, rfl, ho3, hb3⟩
        have HO3 := hid ho3
        have K3 : Hid (Below w.heap.size w w3) := hid (HB.out.trans (hb3.mono HB.out.size))
        clear ho3
        go_wp2_with fail
        go_ret2
        exact ⟨A3, c3, rfl, own_base HO3.out HB.out.size, K3.out⟩
  · obtain ⟨e1, e2⟩ := sg_off (f := f) h1
    rw [e1, e2]
    obtain ⟨E, hE⟩ : ∃ E, sfE o u ls = E := ⟨_, rfl⟩
    rw [hE] at CF h1 ⊢
    have hne : (E != 0) = true := by simpa using h1
    rw [hU] at CF ⊢
    rw [hM] at CF ⊢
    clear h1 e1 e2 hE hU hM ru ra hX iu hu hcu hl ho
    go_enter Tryz.func7, Tryz.ntmps7
    go_wp2_with fail
    refine CF.out.mono ?_
    rintro _ w1 ⟨rfl, hb1⟩
    have K1 := hid hb1
    clear hb1 CF
    go_wp2_with fail
    go_ret2
    exact ⟨none, 0, rfl, own_nil _ _ _, K1.out⟩
end Go.Proofs.YtehbdnehlfplaaaGreat
