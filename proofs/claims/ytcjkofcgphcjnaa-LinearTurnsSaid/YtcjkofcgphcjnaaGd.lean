
/- Gd: texts joined: RefD LnD LnE LnG. -/
import Derived.Test.YtcjkofcgphcjnaaGOver
import Derived.Test.YtcjkofcgphcjnaaGb
import Derived.Deep.QuietTactic
import Derived.BigQuiet
import Derived.Test.YtcjkofcgphcjnaaGa
namespace Go.Proofs.Ytcjkofcgphcjnaa
open Go.RowKit
set_option maxHeartbeats 400000
set_option maxRecDepth 100000
set_option linter.unusedVariables false
/-- Which way the document's quotient goes: x, y tell the signs; V, E what it comes to. -/
def DivWay (q r : Int) (f x y : Bool) (V E : Int) : Prop :=
  (f = false ∧ V = 0 ∧ E = 2) ∨ (f = true ∧ 9223372036854775808 < q ∧ V = 0 ∧ E = 2) ∨
  (f = true ∧ q ≤ 9223372036854775808 ∧ (x == y) = true ∧ (q == 9223372036854775808) = true ∧ V = 0 ∧ E = 2) ∨
  (f = true ∧ q ≤ 9223372036854775807 ∧ (x == y) = true ∧ (q == 9223372036854775808) = false ∧ V = q ∧ E = 0) ∨
  (f = true ∧ q ≤ 9223372036854775808 ∧ (x == y) = false ∧ 0 < r ∧ 9223372036854775808 < q + 1 ∧ V = 0 ∧ E = 2) ∨
  (f = true ∧ q ≤ 9223372036854775808 ∧ (x == y) = false ∧ 0 < r ∧ q + 1 ≤ 9223372036854775808 ∧ wrap64 (IntKind.u64.wrap (-(q + 1))) = V ∧ E = 0) ∨
  (f = true ∧ q ≤ 9223372036854775808 ∧ (x == y) = false ∧ ¬ 0 < r ∧ q ≤ 9223372036854775808 ∧ wrap64 (IntKind.u64.wrap (-q)) = V ∧ E = 0)
theorem quietLd {P : Program} {f : FuncId} {args : Array Value} {w : World} {n : Nat} {v : Value}
    (h : Calls P f args (w.drewN n) fun e w' => e = .returned v ∧ w.drewN n = w') : Calls P f args (w.drewN n) fun e w'' => e = .returned v ∧ ∃ m, w'' = w.drewN m :=
  h.mono fun _ _ ⟨he, hm⟩ => ⟨he, n, hm.symm⟩
theorem Div_core (a b h l : Int) (k : Nat) (hk : k ≤ 30) (ha : I64 a) (hb : I64 b) (b0 : (b == 0) = false) (x y : Bool) (d1 : decide (a < 0) = x) (d2 : decide (b < 0) = y) (p1 : 1 ≤ (2 : Int) ^ k) (p2 : (2 : Int) ^ k ≤ 1073741824)
    (HT : Hid (∀ W, Calls Try.prog 64 #[.int .u64 (absI a), .int .u64 (2 ^ k)] W fun e W' => e = .returned (.tuple #[.int .u64 h, .int .u64 l]) ∧ W = W'))
    (HO : Hid (∀ W, Calls Try.prog 66 #[.int .u64 h, .int .u64 l, .int .u64 (absI b)] W (OverPost h l (absI b) W)))
    (V E : Int) (hw : ∀ q r f, OvR h l (absI b) 0 r q f → DivWay q r f x y V E ∧ 0 ≤ q) (w : World) :
    Calls Try.prog 56 #[.int .i64 a, .int .i64 b, .int .i64 k] w fun e w' => e = .returned (.tuple #[.int .i64 V, .int .i64 E]) ∧ Below w.heap.size w w' := by
  have HW := hid hw
  clear hw
  go_enter Try.func56, Try.ntmps56
  go_wp2_with fail
  go_quiet ((first | (go_at_call 65; exact quietLd (ref_size a ha _)) | (go_at_call 64; exact quietLd (HT.out _))))
  go_wp2_with fail
  refine (ref_size b hb _).mono ?_
  rintro _ _ ⟨rfl, rfl⟩
  go_wp2_with fail
  refine (HO.out _).mono ?_
  rintro _ _ ⟨q, r, f, rfl, ho, rfl⟩
  obtain ⟨hv, hq0⟩ := HW.out q r f ho
  clear HW HO HT ho
  rcases hv with ⟨rfl, rfl, rfl⟩ | ⟨rfl, h1, rfl, rfl⟩ | ⟨rfl, h1, h2, h3, rfl, rfl⟩ | ⟨rfl, h1, h2, h3, rfl, rfl⟩ | ⟨rfl, h1, h2, h3, h4, rfl, rfl⟩ | ⟨rfl, h1, h2, h3, h4, h5, rfl⟩ | ⟨rfl, h1, h2, h3, h4, h5, rfl⟩ <;>
  · go_wp2_with fail
    go_ret2
    first | exact ⟨rfl, below_drewN (Below.refl _ _) _⟩ | exact ⟨ret2 h5 rfl, below_drewN (Below.refl _ _) _⟩
theorem div_ways {a b h l : Int} {p : Int} (hp : 0 ≤ p) (ha : I64 a) (hb : I64 b) (hb0 : b ≠ 0) (hN : h * 18446744073709551616 + l = absI a * p) (hl : 0 ≤ l) (hl' : l < 18446744073709551616)
    (q r : Int) (f : Bool) (ho : OvR h l (absI b) 0 r q f) : DivWay q r f (decide (a < 0)) (decide (b < 0)) (ckV (quoF (a * p) b)) (ckE (quoF (a * p) b)) ∧ 0 ≤ q := by
  obtain ⟨o1, o2, o3, o4, o5⟩ := ho
  obtain ⟨o6, o7⟩ := o5 (by decide)
  rw [hN, Int.pow_zero, Int.ediv_one] at o2 o7
  rw [Int.mul_one] at o7
  refine ⟨?_, o3.1⟩
  have hm : 1 ≤ absI b := by unfold absI; split <;> omega
  have hA := (absI_le ha).1
  have hN0 : 0 ≤ absI a * p := Int.mul_nonneg hA hp
  have e := Int.mul_ediv_add_emod (absI a * p) (absI b)
  have e1 := Int.emod_nonneg (absI a * p) (show absI b ≠ 0 by omega)
  have e2 := Int.emod_lt_of_pos (absI a * p) (show 0 < absI b by omega)
  have e3 : 0 ≤ absI a * p / absI b := Int.ediv_nonneg hN0 (by omega)
  rw [← o2] at e e1 e2
  -- what is asked for, by the signs
  have same : (decide (a < 0) == decide (b < 0)) = true → quoF (a * p) b = absI a * p / absI b := by
    intro s
    unfold quoF absI
    rcases Int.lt_or_le a 0 with ca | ca <;> rcases Int.lt_or_le b 0 with cb | cb
    · rw [if_pos cb, if_pos ca, if_pos cb, Int.neg_mul]
    · exfalso; simp [ca, show ¬ b < 0 by omega] at s
    · exfalso; simp [cb, show ¬ a < 0 by omega] at s
    · rw [if_neg (by omega), if_neg (by omega), if_neg (by omega)]
  have other : (decide (a < 0) == decide (b < 0)) = false → quoF (a * p) b = -(absI a * p) / absI b := by
    intro s
    unfold quoF absI
    rcases Int.lt_or_le a 0 with ca | ca <;> rcases Int.lt_or_le b 0 with cb | cb
    · exfalso; simp [ca, cb] at s
    · rw [if_neg (by omega), if_pos ca, if_neg (by omega), Int.neg_mul, Int.neg_neg]
    · rw [if_pos cb, if_neg (by omega), if_pos cb]
    · exfalso; simp [show ¬ a < 0 by omega, show ¬ b < 0 by omega] at s
  have neg0 : r = 0 → -(absI a * p) / absI b = -(absI a * p / absI b) := by
    intro hr
    have : -(absI a * p) = -(absI a * p / absI b) * absI b := by rw [Int.neg_mul, Int.mul_comm (absI a * p / absI b)]; omega
    conv => lhs; rw [this]
    exact Int.mul_ediv_cancel _ (by omega)
  have neg1 : 0 < r → -(absI a * p) / absI b = -(absI a * p / absI b + 1) := by
    intro hr
    have : -(absI a * p) = (absI b - r) + -(absI a * p / absI b + 1) * absI b := by rw [Int.neg_mul, Int.add_mul, Int.one_mul, Int.mul_comm (absI a * p / absI b)]; omega
    have k : (absI b - r) / absI b = 0 := Int.ediv_eq_zero_of_lt (by omega) (by omega)
    conv => lhs; rw [this, Int.add_mul_ediv_right _ _ (show absI b ≠ 0 by omega), k]
    omega
  generalize absI a * p = N at *
  generalize absI b = m at *
  generalize quoF (a * p) b = S at *
  have big : ¬ h < m → 18446744073709551616 ≤ N / m := by
    intro c
    refine Int.le_ediv_of_mul_le (by omega) ?_
    have := Int.mul_le_mul_of_nonneg_left (show m ≤ h by omega) (show (0 : Int) ≤ 18446744073709551616 by decide)
    omega
  unfold DivWay
  generalize (decide (a < 0) == decide (b < 0)) = s at *
  have inn : ∀ {z}, S = z → I64 z → ckV S = z ∧ ckE S = 0 := fun h1 h2 => by rw [h1]; exact ⟨ckV_in h2, ckE_in h2⟩
  have out : ∀ {z}, S = z → ¬ I64 z → ckV S = 0 ∧ ckE S = 2 := fun h1 h2 => by rw [h1]; exact ⟨ckV_out h2, ckE_out h2⟩
  have SV : (s = true ∧ S = N / m) ∨ (s = false ∧ 0 < r ∧ S = -(N / m + 1)) ∨ (s = false ∧ r = 0 ∧ S = -(N / m)) := by
    cases s
    · rcases Int.lt_or_le 0 r with c | c
      · right; left; exact ⟨rfl, c, (other rfl).trans (neg1 c)⟩
      · right; right; exact ⟨rfl, by omega, (other rfl).trans (neg0 (by omega))⟩
    · left; exact ⟨rfl, same rfl⟩
  by_cases hf : h < m
  · have hft := o6.2 hf
    have hq := o7 hf
    rw [← hq] at SV
    by_cases h63 : 9223372036854775808 < q
    · right; left
      have : ckV S = 0 ∧ ckE S = 2 := by
        rcases SV with ⟨_, c⟩ | ⟨_, _, c⟩ | ⟨_, _, c⟩ <;> exact out c (by unfold I64; omega)
      exact ⟨hft, h63, this⟩
    · rcases SV with ⟨c1, c⟩ | ⟨c1, c2, c⟩ | ⟨c1, c2, c⟩
      · by_cases hz : q = 9223372036854775808
        · right; right; left
          exact ⟨hft, by omega, c1, by simpa using hz, out c (by unfold I64; omega)⟩
        · right; right; right; left
          exact ⟨hft, by omega, c1, by simpa using hz, inn c (by have := o3.1; unfold I64; omega)⟩
      · by_cases hz : 9223372036854775808 < q + 1
        · right; right; right; right; left
          exact ⟨hft, by omega, c1, c2, hz, out c (by unfold I64; omega)⟩
        · right; right; right; right; right; left
          have i := inn c (by have := o3.1; unfold I64; omega)
          refine ⟨hft, by omega, c1, c2, by omega, ?_, i.2⟩
          rw [i.1, IntKind.wrap_u64, wrap64_eq]
          have := o3.1
          omega
      · right; right; right; right; right; right
        have i := inn c (by have := o3.1; unfold I64; omega)
        refine ⟨hft, by omega, c1, by omega, by omega, ?_, i.2⟩
        rw [i.1, IntKind.wrap_u64, wrap64_eq]
        have := o3.1
        omega
  · left
    have hff : f = false := by
      cases f
      · rfl
      · exact absurd (o6.1 rfl) hf
    have hb := big hf
    have : ckV S = 0 ∧ ckE S = 2 := by
      rcases SV with ⟨_, c⟩ | ⟨_, _, c⟩ | ⟨_, _, c⟩ <;> exact out c (by unfold I64; omega)
    exact ⟨hff, this⟩
theorem ref_Div (a b : Int) (k : Nat) (hk : k ≤ 30) (ha : I64 a) (hb : I64 b) (h0 : b ≠ 0) (w : World) :
    Calls Try.prog 56 #[.int .i64 a, .int .i64 b, .int .i64 k] w fun e w' => e = .returned (.tuple #[.int .i64 (ckV (quoF (a * 2 ^ k) b)), .int .i64 (ckE (quoF (a * 2 ^ k) b))]) ∧ Below w.heap.size w w' := by
  have hp := i64_pow hk
  have p1 := hp.2.1
  have p2 := hp.2.2
  have A := absI_le ha
  have B := absI_le hb
  have m0 : 0 ≤ absI a * 2 ^ k := Int.mul_nonneg A.1 (by omega)
  have m1 := Int.mul_le_mul A.2 p1 (show (0 : Int) ≤ 2 ^ k by omega) (by decide)
  have hm : 1 ≤ absI b := by unfold absI; split <;> omega
  refine Div_core a b (absI a * 2 ^ k / 18446744073709551616) (absI a * 2 ^ k % 18446744073709551616) k hk ha hb (by simpa using h0) _ _ rfl rfl p2 p1
    (hid fun W => ref_Times (absI a) (2 ^ k) ⟨A.1, by omega⟩ ⟨by omega, by omega⟩ W)
    (hid fun W => ref_over _ _ _ ⟨by omega, by omega⟩ ⟨by omega, by omega⟩ ⟨B.1, by omega⟩ hm W)
    _ _ (fun q r f ho => div_ways (by omega) ha hb h0 (by omega) (by omega) (by omega) q r f ho) w
theorem ref_Quot (a b : Int) (ha : I64 a) (hb : I64 b) (h0 : b ≠ 0) (w : World) :
    Calls Try.prog 36 #[.int .i64 a, .int .i64 b] w fun e w' => e = .returned (.tuple #[.int .i64 (ckV (quoF a b)), .int .i64 (ckE (quoF a b))]) ∧ Below w.heap.size w w' := by
  have h := fun W => ref_Div a b 0 (by omega) ha hb h0 W
  simp only [Int.pow_zero, Int.mul_one, Int.natCast_zero] at h
  have H := hid h
  clear h
  go_enter Try.func36, Try.ntmps36
  go_wp2_with fail
  refine (H.out _).mono ?_
  rintro e w1 ⟨rfl, hb1⟩
  go_wp2_with fail
  go_ret2
  exact ⟨rfl, hb1⟩
end Go.Proofs.Ytcjkofcgphcjnaa
/- Lines, by the document: vectors' mean. -/
namespace Go.Proofs.Ytcjkofcgphcjnaa
open Go.RowKit
set_option maxHeartbeats 2000000
set_option maxRecDepth 100000
set_option linter.unusedVariables false
theorem ln_quo {x n : Int} (hx : I64 x) (hn : 1 ≤ n) : ckV (quoF x n) = x / n ∧ ckE (quoF x n) = 0 := by
  have e : quoF x n = x / n := by unfold quoF; rw [if_neg (by omega)]
  have h1 : x / n ≤ 9223372036854775807 := by
    rcases Int.lt_or_le x 0 with h | h
    · have := Int.ediv_neg_of_neg_of_pos h (show 0 < n by omega); omega
    · have := Int.ediv_le_self n h; unfold I64 at hx; omega
  have h2 : -9223372036854775808 ≤ x / n := by
    refine (Int.le_ediv_iff_mul_le (by omega)).2 ?_
    unfold I64 at hx
    have : -9223372036854775808 * n ≤ -9223372036854775808 * 1 := Int.mul_le_mul_of_nonpos_left (by decide) hn
    omega
  have h : I64 (x / n) := ⟨h2, h1⟩
  rw [e]
  exact ⟨ckV_in h, ckE_in h⟩
theorem ref_Mean14 {A : Option Addr} {c : Nat} (n : Int) (hn : I64 n) (rows : List (List Int)) (ho : RowsOk rows) (hr : rows.length ≤ 1099511627776) (w : World) (ra : RdRows w w.heap.size A rows) :
    Calls Try.prog 16 #[.int .i64 n, .slice A rows.length c] w (OwnInts (lmV n rows) (lmE n rows) w) := by
  have CS := hid (rSum_any A c rows ho hr w ra)
  obtain ⟨R, hR⟩ : ∃ R, rows.length = R := ⟨_, rfl⟩
  by_cases h1 : n < 1
  · have e1 : lmE n rows = 1 := if_pos h1
    have e2 : lmV n rows = [] := if_neg (by rw [e1]; decide)
    rw [e1, e2]
    rw [hR]
    clear e1 e2 ra ho hR
    go_enter Try.func16, Try.ntmps16
    go_wp2_with fail
    go_ret2
    exact ⟨none, 0, rfl, own_nil _ _ _, Below.refl _ _⟩
  · have eE : lmE n rows = (sumAll rows).2 := if_neg h1
    have hl := sumAll_len ho
    have hi := sumAll_i64 ho
    by_cases h2 : (sumAll rows).2 = 0
    · have eV : lmV n rows = (sumAll rows).1.map fun x => x / n := if_pos (by rw [eE]; exact h2)
      rw [eE, eV]
      rw [h2] at CS ⊢
      obtain ⟨S, hS⟩ : ∃ S, (sumAll rows).1 = S := ⟨_, rfl⟩
      rw [hS] at CS hl hi ⊢
      obtain ⟨M, hM⟩ : ∃ M, S.length = M := ⟨_, rfl⟩
      have HM := hid hM
      have HI := hid hi
      have HN := hid hn
      have hn1 : 1 ≤ n := by omega
      have HN1 := hid hn1
      rw [hM] at hl
      have HL := hid hl
      obtain ⟨Q, hQ⟩ : ∃ Q, (S.map fun x => x / n) = Q := ⟨_, rfl⟩
      have HQ := hid hQ
      have HQl : Hid (Q.length = M) := hid (by rw [← hQ, List.length_map]; exact hM)
      rw [hQ]
      rw [hR] at CS ⊢
      clear eE eV h2 hS hi ra ho hQ hn hl
      go_enter Try.func16, Try.ntmps16
      go_wp2_with fail
      refine CS.out.mono ?_
      rintro _ w1 ⟨A1, c1, rfl, ho1, hb1⟩
      rw [HM.out]
      have RS : Hid (Rd (Value.int .i64) w1 w1.heap.size A1 S) := hid (own_rd ho1)
      have K1 := hid hb1
      clear ho1 hb1 hM
      go_wp2_with fail
      have hl := HL.out
      go_loopw [8, 10, 11, 12, 25] (fun xo _ _ _ xi wr => ∃ (k : Nat) (T : List Int) (A2 : Option Addr) (c2 : Nat), k ≤ M ∧ xi = .int .i64 (k : Int) ∧ xo = .slice A2 T.length c2 ∧ T = Q.take k ∧ wr.ownsRow w1.heap.size 2 1 (.slice A2 T.length c2) T.length (T.map (Value.int .i64)) ∧ Below w1.heap.size w1 wr) (fun _ _ _ _ xi _ => M - (intOf xi).toNat)
      case atStart => exact ⟨0, [], none, 0, Nat.zero_le _, rfl, rfl, rfl, own_nil _ _ _, Below.refl _ _⟩
      case round =>
        obtain ⟨k, T, A2, c2, hk, rfl, rfl, hT, ho, hbel⟩ := hrel
        have hTl : T.length = k := by rw [hT, List.length_take, HQl.out]; omega
        have HT := hid hT
        have HO := hid ho
        have HB := hid hbel
        have HTl := hid hTl
        clear hT ho hTl
        by_cases hlt : k < M
        · obtain ⟨b4, o4, x, rfl, l4, en, c4⟩ := (RS.out.on hbel).at_ (k := k) (by rw [HM.out]; exact hlt)
          have ix : I64 x := HI.out.at_ en
          obtain ⟨u1, u2⟩ := ln_quo ix HN1.out
          have CQ := hid (ref_Quot x n ix HN.out (by have := HN1.out; omega) wr)
          rw [u1, u2] at CQ
          obtain ⟨q, hq⟩ : ∃ q, x / n = q := ⟨_, rfl⟩
          rw [hq] at CQ
          have hnx : Q.take (k + 1) = Q.take k ++ [q] := by
            rw [List.take_add_one, ← HQ.out, List.getElem?_map, en]
            rw [← hq]; rfl
          have HNX := hid hnx
          clear en ix u1 u2 hq hnx hbel
          go_wp2_with fail
          refine CQ.out.mono ?_
          rintro _ w4 ⟨rfl, hb4⟩
          have kk : Below w1.heap.size w1 w4 := HB.out.trans (hb4.mono HB.out.size)
          have HK := hid kk
          have hr0 : Rd (Value.int .i64) (w4.alloc (.cells #[.int .i64 q] 2)) _ (some ⟨w4.heap.size, 0, none⟩) [q] := rd_one (one_cell w4 (.int .i64 q) 2).1
          have h0' := own_on (own_on HO.out hb4) ((Below.refl w4.heap.size w4).alloc (Nat.le_refl _) (.cells #[.int .i64 q] 2))
          clear hb4 kk
          go_wp2_with (at_builtin; refine wpList_app (Value.int .i64) (fun _ => rfl) _ rfl _ _ 22 rfl w1.heap.size 2 (.int .i64 0) 8 Try.underlying22 info_i64 rfl T _ _ rfl h0' [q] _ 1 _ rfl hr0 (by have := HTl.out; simp [maxLen]; omega) (by have := HTl.out; simp; omega) (by have := HK.out.size; simp; omega) ?_)
          rintro S' A' c' w5 hS' ho' hb5 _
          have HS' := hid hS'
          have HO' := hid ho'
          have HK5 : Hid (Below w1.heap.size w1 w5) := hid ((HK.out.alloc HK.out.size _).trans hb5)
          clear hS' ho' h0' hr0 hb5
          go_wp2_with fail
          go_roundw
          case rel => exact ⟨k + 1, S', A', c', by omega, by go_num, rfl, by rw [HS'.out, HNX.out, HT.out], HO'.out, HK5.out⟩
          case measure => simp [intOf]; omega
        · obtain rfl : k = M := by omega
          have hTQ : T = Q := by rw [HT.out]; exact List.take_of_length_le (by rw [HQl.out]; exact Nat.le_refl _)
          subst hTQ
          clear hbel
          go_wp2_with fail
          go_ret2
          exact ⟨A2, c2, rfl, own_base HO.out K1.out.size, K1.out.trans (HB.out.mono K1.out.size)⟩
    · have eV : lmV n rows = [] := if_neg (by rw [eE]; exact h2)
      rw [eE, eV]
      obtain ⟨E, hE⟩ : ∃ E, (sumAll rows).2 = E := ⟨_, rfl⟩
      rw [hE] at CS h2 ⊢
      have hne : (E != 0) = true := by simpa using h2
      rw [hR] at CS ⊢
      have hn1 : ¬ n < 1 := h1
      clear eE eV hE h2 ra ho hi hl hR
      go_enter Try.func16, Try.ntmps16
      go_wp2_with fail
      refine CS.out.mono ?_
      rintro _ w1 ⟨A1, c1, rfl, ho1, hb1⟩
      clear ho1
      go_wp2_with fail
      go_ret2
      exact ⟨none, 0, rfl, own_nil _ _ _, hb1⟩
end Go.Proofs.Ytcjkofcgphcjnaa
/- Lines, by the document: how bad one is. -/
namespace Go.Proofs.Ytcjkofcgphcjnaa
open Go.RowKit
set_option maxHeartbeats 2000000
set_option maxRecDepth 100000
set_option linter.unusedVariables false
theorem ln_rmul (a b m : Int) (ha : I64 a) (hb : I64 b) (w : World) :
    Calls Try.prog 42 #[.int .i64 a, .int .i64 b, .int .i64 m] w fun e w' => e = .returned (.tuple #[.int .i64 (mulV a b m), .int .i64 (mulE a b m)]) ∧ w = w' := by
  by_cases h : m < 0 ∨ 30 < m
  · rw [show mulV a b m = 0 from if_pos h, show mulE a b m = 1 from if_pos h]
    exact ref_Mul_bad a b m h w
  · rw [show mulV a b m = ckV (a * b / 2 ^ m.toNat) from if_neg h, show mulE a b m = ckE (a * b / 2 ^ m.toNat) from if_neg h]
    have := ref_Mul a b m.toNat (by omega) ha hb w
    rwa [show ((m.toNat : Nat) : Int) = m by omega] at this
theorem ref_Loss14 {Aw A : Option Addr} {cw c : Nat} (u : List Int) (hu : u.length ≤ cw) (hcw : cw ≤ 9223372036854775807) (iu : I64s u) (f : Int) (ls : List SmpV) (hl : ls.length ≤ 9223372036854775807) (hX : ∀ s ∈ ls, I64s s.X ∧ I64 s.Y ∧ s.X.length ≤ 9223372036854775807) (w : World)
    (ru : Rd (Value.int .i64) w w.heap.size Aw u) (ra : RdSm w w.heap.size A ls) :
    Calls Try.prog 25 #[.slice Aw u.length cw, .int .i64 f, .slice A ls.length c] w fun e w' => e = .returned (.tuple #[.int .i64 (lsV u f ls), .int .i64 (lsE u f ls)]) ∧ Below w.heap.size w w' := by
  have CC := hid (ref_Check14 (Aw := Aw) (A := A) (cw := cw) (c := c) ((u.length : Int) - 1) (by unfold I64; omega) u (Nat.le_trans hu hcw) ls hl (fun s hs => (hX s hs).2.2) w ra)
  obtain ⟨U, hU⟩ : ∃ U, u.length = U := ⟨_, rfl⟩
  obtain ⟨M, hM⟩ : ∃ M, ls.length = M := ⟨_, rfl⟩
  obtain ⟨U1, hU1⟩ : ∃ U1, (u.length : Int) - 1 = U1 := ⟨_, rfl⟩
  have hw1 : IntKind.i64.wrap ((U : Int) - 1) = U1 := by rw [← hU1, hU]; exact Go.IntWalk.i64_in _ (by omega)
  rw [hU1] at CC
  by_cases h1 : lcE ((u.length : Int) - 1) u ls = 0
  · have eE : lsE u f ls = (lsGo u f ls 0).2 := if_neg (by simp [h1])
    have eV : lsV u f ls = (lsGo u f ls 0).1 := if_neg (by simp [h1])
    rw [eE, eV]
    rw [hU1] at h1
    rw [h1] at CC
    obtain ⟨vV, hvV⟩ : ∃ v, (lsGo u f ls 0).1 = v := ⟨_, rfl⟩
    obtain ⟨vE, hvE⟩ : ∃ v, (lsGo u f ls 0).2 = v := ⟨_, rfl⟩
    have HG : Hid (lsGo u f ls 0 = (vV, vE)) := hid (by rw [← hvV, ← hvE])
    rw [hvV, hvE]
    have CO := hid (fun (s : SmpV) (hs : s ∈ ls) (Ax : Option Addr) (cx : Nat) (W : World) (h1 : Rd (Value.int .i64) W W.heap.size Aw u) (h2 : Rd (Value.int .i64) W W.heap.size Ax s.X) => ref_Off14 (Aw := Aw) (Ax := Ax) (cw := cw) (cx := cx) u s hu hcw (hX s hs).2.2 iu (hX s hs).1 (hX s hs).2.1 f W h1 h2)
    rw [hU] at CC CO ⊢
    rw [hM] at CC ⊢
    have HM := hid hM
    have RU := hid ru
    have RA := hid ra
    have hMb : M ≤ 9223372036854775807 := by omega
    clear eE eV h1 hvV hvE hU1 hU hM ru ra hX iu hu hcw hl
    go_enter Try.func25, Try.ntmps25
    go_wp2_with fail
    refine CC.out.mono ?_
    rintro _ w1 ⟨rfl, hb1⟩
    have K1 := hid hb1
    clear hb1 CC
    go_wp2_with fail
    clear hw1
    go_loopw [9, 11, 12, 13, 14, 26] (fun xs _ _ _ _ xi wr => ∃ (k : Nat) (a : Int), k ≤ M ∧ xi = .int .i64 (k : Int) ∧ xs = .int .i64 a ∧ I64 a ∧ lsGo u f (ls.drop k) a = (vV, vE) ∧ Below w.heap.size w wr) (fun _ _ _ _ _ xi _ => M - (intOf xi).toNat)
    case atStart => exact ⟨0, 0, Nat.zero_le _, rfl, rfl, by decide, by rw [List.drop_zero]; exact HG.out, K1.out⟩
    case round =>
      obtain ⟨k, a, hk, rfl, rfl, ha, hg, hbel⟩ := hrel
      have HB := hid hbel
      have HGk := hid hg
      have HA := hid ha
      clear hg ha K1
      by_cases hlt : k < M
      · obtain ⟨b1, o1, s, Ax, cx, rfl, l1, en, c1, d1, rx⟩ := (RA.out.on hbel).at_ (k := k) (by rw [HM.out]; exact hlt)
        have hs : s ∈ ls := List.mem_of_getElem? en
        have hdr : ls.drop k = s :: ls.drop (k + 1) := by
          have hkl : k < ls.length := by rw [HM.out]; exact hlt
          rw [List.drop_eq_getElem_cons hkl]
          congr 1
          exact Option.some.inj ((List.getElem?_eq_getElem hkl).symm.trans en)
        have hG := HGk.out
        rw [hdr, lsGo] at hG
        have rw2 : Rd (Value.int .i64) wr wr.heap.size Ax s.X := rx
        obtain ⟨w2, hw2⟩ : ∃ w2, wr.alloc (.cells #[.slice Ax s.X.length cx, .int .i64 s.Y] 24) = w2 := ⟨_, rfl⟩
        have hb2 : Below wr.heap.size wr w2 := by rw [← hw2]; go_grown
        have m0 : w2.cell? ⟨wr.heap.size, 0, none⟩ = some (.slice Ax s.X.length cx) := by rw [← hw2]; simp [go_sem]
        have m1 : w2.cell? ⟨wr.heap.size, 1, none⟩ = some (.int .i64 s.Y) := by rw [← hw2]; simp [go_sem]
        have CO2 := hid (CO.out s hs Ax cx w2 ((RU.out.on hbel).on hb2) (rw2.on hb2))
        have K2 : Hid (Below w.heap.size w w2) := hid (HB.out.trans (hb2.mono HB.out.size))
        have iV := loV_i64 u s f
        obtain ⟨V, hV⟩ : ∃ V, loV u s f = V := ⟨_, rfl⟩
        obtain ⟨E, hE⟩ : ∃ E, loE u s f = E := ⟨_, rfl⟩
        obtain ⟨N, hN⟩ : ∃ N, s.X.length = N := ⟨_, rfl⟩
        obtain ⟨Y, hY⟩ : ∃ Y, s.Y = Y := ⟨_, rfl⟩
        rw [hV, hE, hN, hY] at CO2
        rw [hN] at c1 hw2 m0
        rw [hY] at d1 hw2 m1
        rw [hV, hE] at hG
        rw [hV] at iV
        have hw : IntKind.i64.wrap ((k : Int) + 1) = ((k + 1 : Nat) : Int) := Go.IntWalk.i64_in _ (by clear hG hdr; omega)
        have HW := hid hw
        clear hw en rx rw2 hs hdr hV hE hN hY hb2 hbel HGk
        by_cases hE0 : E = 0
        · subst hE0
          rw [if_neg (by decide)] at hG
          have CM := hid (fun W => ln_rmul V V f iV iV W)
          have iX := ln_mul_i64 V V f
          obtain ⟨X, hXx⟩ : ∃ X, mulV V V f = X := ⟨_, rfl⟩
          obtain ⟨E2, hE2⟩ : ∃ E2, mulE V V f = E2 := ⟨_, rfl⟩
          rw [hXx, hE2] at CM hG
          rw [hXx] at iX
          clear hXx hE2
          by_cases hE20 : E2 = 0
          · subst hE20
            rw [if_neg (by decide)] at hG
            have CA := hid (fun W => ref_Add a X HA.out iX W)
            rcases ckE_cases (a + X) with ⟨g1, g2, g3⟩ | ⟨g1, g2, g3⟩
            · rw [if_neg (by rw [g1]; decide)] at hG
              rw [g1, g3] at CA
              obtain ⟨a2, ha2⟩ : ∃ a2, a + X = a2 := ⟨_, rfl⟩
              rw [ha2] at CA g2
              first | rw [ha2] at hG | (rw [g3, ha2] at hG)
              have HG2 := hid hG
              have HI2 := hid g2
              clear hG g1 g2 g3 ha2 iX iV
              go_wp2_with fail
              refine CO2.out.mono ?_
              rintro _ w3 ⟨rfl, hb3⟩
              have K3 : Hid (Below w.heap.size w w3) := hid (K2.out.trans (hb3.mono K2.out.size))
              clear hb3 hw2 m0 m1
              go_wp2_with fail
              refine (CM.out _).mono ?_
              rintro _ _ ⟨rfl, rfl⟩
              go_wp2_with fail
              refine (CA.out _).mono ?_
              rintro _ _ ⟨rfl, rfl⟩
              have hw := HW.out
              go_wp2_with fail
              go_roundw
              case rel => exact ⟨k + 1, a2, hlt, rfl, rfl, HI2.out, HG2.out, K3.out⟩
              case measure => (try clear hw); simp [intOf]; omega
            · rw [if_pos (by rw [g1]; decide)] at hG
              obtain ⟨rfl, rfl⟩ := Prod.mk.inj hG
              rw [g1, g3] at CA
              clear hG g1 g2 g3 iX iV
              go_wp2_with fail
              refine CO2.out.mono ?_
              rintro _ w3 ⟨rfl, hb3⟩
              have K3 : Hid (Below w.heap.size w w3) := hid (K2.out.trans (hb3.mono K2.out.size))
              clear hb3 hw2 m0 m1
              go_wp2_with fail
              refine (CM.out _).mono ?_
              rintro _ _ ⟨rfl, rfl⟩
              go_wp2_with fail
              refine (CA.out _).mono ?_
              rintro _ _ ⟨rfl, rfl⟩
              go_wp2_with fail
              go_ret2
              exact ⟨rfl, K3.out⟩
          · rw [if_pos hE20] at hG
            obtain ⟨rfl, rfl⟩ := Prod.mk.inj hG
            have hne : (E2 != 0) = true := by simpa using hE20
            clear hG hE20 iX iV
            go_wp2_with fail
            refine CO2.out.mono ?_
            rintro _ w3 ⟨rfl, hb3⟩
            have K3 : Hid (Below w.heap.size w w3) := hid (K2.out.trans (hb3.mono K2.out.size))
            clear hb3 hw2 m0 m1
            go_wp2_with fail
            refine (CM.out _).mono ?_
            rintro _ _ ⟨rfl, rfl⟩
            go_wp2_with fail
            go_ret2
            exact ⟨rfl, K3.out⟩
        · rw [if_pos hE0] at hG
          obtain ⟨rfl, rfl⟩ := Prod.mk.inj hG
          have hne : (E != 0) = true := by simpa using hE0
          clear hG hE0 iV
          go_wp2_with fail
          refine CO2.out.mono ?_
          rintro _ w3 ⟨rfl, hb3⟩
          have K3 : Hid (Below w.heap.size w w3) := hid (K2.out.trans (hb3.mono K2.out.size))
          clear hb3 hw2 m0 m1
          go_wp2_with fail
          go_ret2
          exact ⟨rfl, K3.out⟩
      · obtain rfl : k = M := by omega
        have hG := HGk.out
        rw [List.drop_eq_nil_of_le (by rw [HM.out]; exact Nat.le_refl _), lsGo] at hG
        obtain ⟨rfl, rfl⟩ := Prod.mk.inj hG
        clear hG hbel HGk
        go_wp2_with fail
        go_ret2
        exact ⟨rfl, HB.out⟩
  · have eE : lsE u f ls = lcE ((u.length : Int) - 1) u ls := if_pos h1
    have eV : lsV u f ls = 0 := if_pos h1
    rw [eE, eV]
    rw [hU1] at h1 ⊢
    obtain ⟨E, hE⟩ : ∃ E, lcE U1 u ls = E := ⟨_, rfl⟩
    rw [hE] at CC h1 ⊢
    have hne : (E != 0) = true := by simpa using h1
    rw [hU, hM] at CC ⊢
    clear eE eV h1 hE hU1 hU hM ru ra hX iu hu hcw hl
    go_enter Try.func25, Try.ntmps25
    go_wp2_with fail
    refine CC.out.mono ?_
    rintro _ w1 ⟨rfl, hb1⟩
    have K1 := hid hb1
    clear hb1
    go_wp2_with fail
    go_ret2
    exact ⟨rfl, K1.out⟩
end Go.Proofs.Ytcjkofcgphcjnaa
/- Lines, by the document: how one is to be bent. -/
namespace Go.Proofs.Ytcjkofcgphcjnaa
open Go.RowKit
set_option maxHeartbeats 2000000
set_option maxRecDepth 100000
set_option linter.unusedVariables false
theorem fst_at {g : SmpV → Int} {ls : List SmpV} {k : Nat} {s : SmpV} (h : ∀ x ∈ ls.take k, g x = 0) (hs : ls[k]? = some s) (hn : g s ≠ 0) : fstE (ls.map g) = g s := by
  induction ls generalizing k with
  | nil => simp at hs
  | cons a r ih =>
    rw [List.map_cons, fstE]
    cases k with
    | zero =>
      simp at hs
      subst hs
      rw [if_pos hn]
    | succ k =>
      rw [if_neg (by rw [h a (by simp)]; decide)]
      exact ih (k := k) (fun x hx => h x (by simp [hx])) (by simpa using hs)
theorem lg_bad {u : List Int} {f : Int} {ls : List SmpV} {k : Nat} {s : SmpV} (h0 : lcE ((u.length : Int) - 1) u ls = 0) (h : ∀ x ∈ ls.take k, srE u f x = 0) (hs : ls[k]? = some s) (hn : srE u f s ≠ 0) : lgE u f ls = srE u f s ∧ lgV u f ls = [] := by
  have e := fst_at h hs hn
  have e1 : lgE u f ls = srE u f s := by
    unfold lgE
    rw [if_neg (by simp [h0]), e, if_pos hn]
  exact ⟨e1, if_neg (by rw [e1]; exact hn)⟩
theorem lg_off {u : List Int} {f : Int} {ls : List SmpV} (h0 : lcE ((u.length : Int) - 1) u ls ≠ 0) : lgE u f ls = lcE ((u.length : Int) - 1) u ls ∧ lgV u f ls = [] := by
  have e1 : lgE u f ls = lcE ((u.length : Int) - 1) u ls := by unfold lgE; rw [if_pos h0]
  exact ⟨e1, if_neg (by rw [e1]; exact h0)⟩
theorem lg_good {u : List Int} {f : Int} {ls : List SmpV} (h0 : lcE ((u.length : Int) - 1) u ls = 0) (h : ∀ x ∈ ls, srE u f x = 0) : lgE u f ls = lmE ls.length (ls.map (srV u f)) ∧ lgV u f ls = lmV ls.length (ls.map (srV u f)) := by
  have e : fstE (ls.map (srE u f)) = 0 := fstE_ok.2 (by simpa using h)
  have e1 : lgE u f ls = lmE ls.length (ls.map (srV u f)) := by
    unfold lgE
    rw [if_neg (by simp [h0]), if_neg (by simp [e])]
  refine ⟨e1, ?_⟩
  unfold lgV
  rw [e1]
  by_cases h2 : lmE ls.length (ls.map (srV u f)) = 0
  · rw [if_pos h2]
  · rw [if_neg h2]; unfold lmV; rw [if_neg h2]
theorem sr_numS (xs : List Int) (b m : Int) (k : Nat) : I64 (numS xs b m k).1 := ln_mul_i64 _ _ _
theorem srV_ok (u : List Int) (f : Int) (s : SmpV) : I64s (srV u f s) ∧ (srV u f s).length ≤ 4097 := by
  have h1 : I64s (unV (behE f) (numS s.X (loV u s f) f) s.X.length) := by
    unfold unV
    split
    · unfold seqV
      split
      · intro x hx
        obtain ⟨k, _, rfl⟩ := List.mem_map.1 hx
        exact sr_numS _ _ _ _
      · intro x hx; simp at hx
    · intro x hx; simp at hx
  have h2 : (unV (behE f) (numS s.X (loV u s f) f) s.X.length).length ≤ 4096 := by
    unfold unV
    split
    · rename_i h
      unfold seqV
      split
      · simp
        unfold bndE at h
        split at h
        · simp at h
        · omega
      · simp
    · simp
  constructor
  · intro x hx
    unfold srV at hx
    rcases List.mem_append.1 hx with hx | hx
    · exact h1 x hx
    · simp at hx; subst hx; exact loV_i64 _ _ _
  · unfold srV
    simp; omega
theorem rows_ok14 (u : List Int) (f : Int) (ls : List SmpV) : RowsOk (ls.map (srV u f)) := by
  intro xs hx
  obtain ⟨s, _, rfl⟩ := List.mem_map.1 hx
  have := srV_ok u f s
  exact ⟨this.1, by omega⟩
theorem take_next {ls : List SmpV} {k : Nat} {s : SmpV} (hs : ls[k]? = some s) : ls.take (k + 1) = ls.take k ++ [s] := by rw [List.take_add_one, hs]; rfl
theorem ref_Grad14 {Aw A : Option Addr} {cw c : Nat} (u : List Int) (hu : u.length ≤ cw) (hcw : cw ≤ 9223372036854775807) (iu : I64s u) (f : Int) (ls : List SmpV) (hl : ls.length ≤ 9223372036854775807) (hX : ∀ s ∈ ls, I64s s.X ∧ I64 s.Y ∧ s.X.length ≤ 9223372036854775807) (w : World)
    (ru : Rd (Value.int .i64) w w.heap.size Aw u) (ra : RdSm w w.heap.size A ls) :
    Calls Try.prog 23 #[.slice Aw u.length cw, .int .i64 f, .slice A ls.length c] w (OwnInts (lgV u f ls) (lgE u f ls) w) := by
  have CC := hid (ref_Check14 (Aw := Aw) (A := A) (cw := cw) (c := c) ((u.length : Int) - 1) (by unfold I64; omega) u (Nat.le_trans hu hcw) ls hl (fun s hs => (hX s hs).2.2) w ra)
  obtain ⟨U, hU⟩ : ∃ U, u.length = U := ⟨_, rfl⟩
  obtain ⟨M, hM⟩ : ∃ M, ls.length = M := ⟨_, rfl⟩
  obtain ⟨U1, hU1⟩ : ∃ U1, (u.length : Int) - 1 = U1 := ⟨_, rfl⟩
  have hw1 : IntKind.i64.wrap ((U : Int) - 1) = U1 := by rw [← hU1, hU]; exact Go.IntWalk.i64_in _ (by omega)
  rw [hU1] at CC
  by_cases h1 : lcE ((u.length : Int) - 1) u ls = 0
  · have hM64 : M ≤ 64 := by have := (lcE_ok.1 h1).2.2.2.2; omega
    have HBAD := hid (fun (k : Nat) (s : SmpV) h (hs : ls[k]? = some s) hn => lg_bad (f := f) h1 h hs hn)
    have HGOOD := hid (fun h => lg_good (f := f) h1 h)
    rw [hM] at HGOOD
    have CME := hid (fun (A2 : Option Addr) (c2 : Nat) (W : World) (h : RdRows W W.heap.size A2 (ls.map (srV u f))) => ref_Mean14 (A := A2) (c := c2) (M : Int) (by unfold I64; omega) (ls.map (srV u f)) (rows_ok14 u f ls) (by rw [List.length_map]; omega) W h)
    rw [hU1] at h1
    rw [h1] at CC
    obtain ⟨vV, hvV⟩ : ∃ v, lgV u f ls = v := ⟨_, rfl⟩
    obtain ⟨vE, hvE⟩ : ∃ v, lgE u f ls = v := ⟨_, rfl⟩
    rw [hvV, hvE] at HBAD HGOOD
    rw [hvV, hvE]
    have CO := hid (fun (s : SmpV) (hs : s ∈ ls) (Ax : Option Addr) (cx : Nat) (W : World) (h1 : Rd (Value.int .i64) W W.heap.size Aw u) (h2 : Rd (Value.int .i64) W W.heap.size Ax s.X) => ref_Off14 (Aw := Aw) (Ax := Ax) (cw := cw) (cx := cx) u s hu hcw (hX s hs).2.2 iu (hX s hs).1 (hX s hs).2.1 f W h1 h2)
    have CS := hid (fun (s : SmpV) (hs : s ∈ ls) (Ax : Option Addr) (cx : Nat) (W : World) (h2 : Rd (Value.int .i64) W W.heap.size Ax s.X) => rScale_any (A := Ax) (c := cx) s.X (hX s hs).2.2 (hX s hs).1 (loV u s f) f (loV_i64 u s f) W h2)
    rw [hU] at CC CO ⊢
    rw [hM] at CC ⊢
    have HM := hid hM
    have RU := hid ru
    have RA := hid ra
    clear h1 hvV hvE hU1 hU hM ru ra hX iu hu hcw hl
    go_enter Try.func23, Try.ntmps23
    go_wp2_with fail
    refine CC.out.mono ?_
    rintro _ w1 ⟨rfl, hb1⟩
    have K1 := hid hb1
    clear hb1 CC
    go_wp2_with fail
    clear hw1
    go_loopw [9, 11, 12, 13, 14, 26] (fun xo _ _ _ _ xi wr => ∃ (k : Nat) (A2 : Option Addr) (c2 : Nat), k ≤ M ∧ xi = .int .i64 (k : Int) ∧ xo = .slice A2 k c2 ∧ (∀ x ∈ ls.take k, srE u f x = 0) ∧ OwnRw wr w.heap.size A2 c2 ((ls.take k).map (srV u f)) ∧ Below w.heap.size w wr) (fun _ _ _ _ _ xi _ => M - (intOf xi).toNat)
    case atStart => exact ⟨0, none, 0, Nat.zero_le _, rfl, rfl, fun x hx => by simp at hx, OwnRw.nil _ _, K1.out⟩
    case round =>
      obtain ⟨k, A2, c2, hk, rfl, rfl, hz, ho, hbel⟩ := hrel
      have HB := hid hbel
      have HZ := hid hz
      have HO := hid ho
      clear hz ho K1
      by_cases hlt : k < M
      · obtain ⟨b1, o1, s, Ax, cx, rfl, l1, en, c1, d1, rx⟩ := (RA.out.on hbel).at_ (k := k) (by rw [HM.out]; exact hlt)
        have hs : s ∈ ls := List.mem_of_getElem? en
        have HEN := hid en
        have rw2 : Rd (Value.int .i64) wr wr.heap.size Ax s.X := rx
        obtain ⟨w2, hw2⟩ : ∃ w2, wr.alloc (.cells #[.slice Ax s.X.length cx, .int .i64 s.Y] 24) = w2 := ⟨_, rfl⟩
        have hb2 : Below wr.heap.size wr w2 := by rw [← hw2]; go_grown
        have hs2 : wr.heap.size < w2.heap.size := by rw [← hw2]; simp
        have m0 : w2.cell? ⟨wr.heap.size, 0, none⟩ = some (.slice Ax s.X.length cx) := by rw [← hw2]; simp [go_sem]
        have m1 : w2.cell? ⟨wr.heap.size, 1, none⟩ = some (.int .i64 s.Y) := by rw [← hw2]; simp [go_sem]
        have CO2 := hid (CO.out s hs Ax cx w2 ((RU.out.on hbel).on hb2) (rw2.on hb2))
        have RX2 := hid (rw2.on hb2)
        have K2 : Hid (Below w.heap.size w w2) := hid (HB.out.trans (hb2.mono HB.out.size))
        have HO2 := hid (HO.out.on hb2)
        have CS2 := hid (CS.out s hs Ax cx)
        have hSE : srE u f s = if loE u s f ≠ 0 then loE u s f else unE (behE f) (numS s.X (loV u s f) f) s.X.length := rfl
        have hSV : srV u f s = unV (behE f) (numS s.X (loV u s f) f) s.X.length ++ [loV u s f] := rfl
        have hSL := (srV_ok u f s).2
        have hTN := take_next en
        obtain ⟨V, hV⟩ : ∃ V, loV u s f = V := ⟨_, rfl⟩
        obtain ⟨E, hE⟩ : ∃ E, loE u s f = E := ⟨_, rfl⟩
        obtain ⟨N, hN⟩ : ∃ N, s.X.length = N := ⟨_, rfl⟩
        obtain ⟨Y, hY⟩ : ∃ Y, s.Y = Y := ⟨_, rfl⟩
        rw [hV, hE, hN, hY] at CO2
        rw [hV, hN] at CS2
        rw [hN] at c1 hw2 m0
        rw [hY] at d1 hw2 m1
        rw [hV, hE, hN] at hSE
        rw [hV, hN] at hSV
        obtain ⟨vs, hvs⟩ : ∃ v, unV (behE f) (numS s.X V f) N = v := ⟨_, rfl⟩
        obtain ⟨es, hes⟩ : ∃ v, unE (behE f) (numS s.X V f) N = v := ⟨_, rfl⟩
        rw [hvs, hes] at CS2
        rw [hes] at hSE
        rw [hvs] at hSV
        rw [hSV] at hSL
        have hw : IntKind.i64.wrap ((k : Int) + 1) = ((k + 1 : Nat) : Int) := Go.IntWalk.i64_in _ (by omega)
        have HW := hid hw
        have HSV := hid hSV
        have HTN := hid hTN
        have hvl : vs.length ≤ 4096 := by simp at hSL; omega
        clear hw en rx rw2 hs hV hE hN hY hb2 hbel hvs hes hSV hTN hSL
        by_cases hE0 : E = 0
        · subst hE0
          rw [if_neg (by decide)] at hSE
          by_cases hes0 : es = 0
          · subst hes0
            have HSE := hid hSE
            clear hSE
            go_wp2_with fail
            refine CO2.out.mono ?_
            rintro _ w3 ⟨rfl, hb3⟩
            have K3 : Hid (Below w.heap.size w w3) := hid (K2.out.trans (hb3.mono K2.out.size))
            have RX3 := hid (RX2.out.on hb3)
            have HO3 := hid (HO2.out.on hb3)
            have m0' := (hb3.cell (p := ⟨wr.heap.size, 0, none⟩) hs2).trans m0
            clear hb3 hw2 m0 m1 HO2
            go_wp2_with fail
            refine (CS2.out w3 RX3.out).mono ?_
            rintro _ w4 ⟨A4, c4, rfl, ho4, hb4⟩
            have K4 : Hid (Below w.heap.size w w4) := hid (K3.out.trans (hb4.mono K3.out.size))
            have HO4 := hid (HO3.out.on hb4)
            have g5 : Below w4.heap.size w4 (w4.alloc (.cells #[.int .i64 V] 2)) := (Below.refl _ _).alloc (Nat.le_refl _) _
            have ho4a := own_on ho4 g5
            have rm : Rd (Value.int .i64) (w4.alloc (.cells #[.int .i64 V] 2)) _ (some ⟨w4.heap.size, 0, none⟩) [V] := rd_one (one_cell w4 (.int .i64 V) 2).1
            have hz4 := hb4.size
            have hz5 := g5.size
            have HO5 := hid (HO4.out.on g5)
            have K5 : Hid (Below w.heap.size w (w4.alloc (.cells #[.int .i64 V] 2))) := hid (K4.out.trans (g5.mono K4.out.size))
            have HOL : Hid (∀ g, A2.map (·.block) = some g → g < w3.heap.size) := hid (fun g hg => (HO3.out.lies g hg).2)
            have kk := hb4.trans (g5.mono hz4)
            have KK5 := hid kk
            clear ho4 g5 hb4 HO4 m0' HO kk HO5
            go_wp2_with (at_builtin; refine wpList_app5 (Value.int .i64) (fun _ => rfl) _ rfl _ _ 22 rfl w3.heap.size 2 (.int .i64 0) 8 Try.underlying22 info_i64 rfl vs A4 c4 rfl ho4a [V] (some ⟨w4.heap.size, 0, none⟩) 1 _ rfl rm (by simp [maxLen]; omega) (by simp; omega) (by omega) ?_)
            rintro Q A6 c6 w6 hQ ho6 hb6 hg6 hq6
            have K6 : Hid (Below w.heap.size w w6) := hid (K5.out.trans (hb6.mono K3.out.size))
            have HO6 := hid (HO3.out.on (KK5.out.trans hb6))
            have HRX := hid (rdx_own (base := w.heap.size) ho6 K3.out.size HOL.out)
            have g7 : Below w6.heap.size w6 (w6.alloc (.cells #[.slice A6 Q.length c6] 22)) := (Below.refl _ _).alloc (Nat.le_refl _) _
            have HRX7 := hid (HRX.out.on g7)
            have r7 : Rd encS (w6.alloc (.cells #[.slice A6 Q.length c6] 22)) _ (some ⟨w6.heap.size, 0, none⟩) [(A6, Q.length, c6)] := rd_one (enc := encS) (one_cell w6 (.slice A6 Q.length c6) 22).1
            obtain ⟨ps, hpl, hop, hpr⟩ := HO6.out.on g7
            have HPR := hid hpr
            have HPL := hid hpl
            have hpk : ps.length = k := by rw [hpl, List.length_map, List.length_take, HM.out]; omega
            have HPK := hid hpk
            have K7 : Hid (Below w.heap.size w (w6.alloc (.cells #[.slice A6 Q.length c6] 22))) := hid (K6.out.trans (g7.mono K6.out.size))
            have hz7 := K7.out.size
            have HQQ : Hid (Q = srV u f s) := hid (by rw [hQ, HSV.out])
            clear hQ ho6 hb6 hg6 hq6 g7 hpr hpl HO3 HOL KK5 ho4a rm hz4 hz5 HO6 HRX hpk
            go_wp2_with (at_builtin; refine wpList_app5 encS (fun _ => rfl) _ rfl _ _ 25 rfl w.heap.size 22 (.slice none 0 0) 24 Try.underlying25 info_row rfl ps A2 c2 (by rw [HPK.out]; rfl) hop [(A6, Q.length, c6)] (some ⟨w6.heap.size, 0, none⟩) 1 _ rfl r7 (by have := HPK.out; simp [maxLen]; omega) (by have := HPK.out; simp; omega) hz7 ?_)
            rintro S A8 c8 w8 hS ho8 hb8 hg8 hq8
            have HN := hid (OwnRw.app HPL.out HPR.out (p := (A6, Q.length, c6)) rfl HRX7.out hS ho8 hg8 (by simpa using hq8))
            have hSl : S.length = k + 1 := by rw [hS, List.length_append, HPK.out]; rfl
            rw [hSl]
            have K8 : Hid (Below w.heap.size w w8) := hid (K7.out.trans hb8)
            have hw := HW.out
            clear hS ho8 hb8 hg8 hq8 hSl r7 hop hz7
            go_wp2_with fail
            go_roundw
            case rel =>
              refine ⟨k + 1, A8, c8, hlt, rfl, rfl, ?_, ?_, K8.out⟩
              · rw [HTN.out]
                intro x hx
                rcases List.mem_append.1 hx with hx | hx
                · exact HZ.out x hx
                · simp at hx; subst hx; exact HSE.out
              · rw [HTN.out, List.map_append]
                have := HN.out
                rw [HQQ.out] at this
                exact this
            case measure => (try clear hw); simp [intOf]; omega
          · have hne : (es != 0) = true := by simpa using hes0
            obtain ⟨rfl, rfl⟩ := HBAD.out k s HZ.out HEN.out (by rw [hSE]; exact hes0)
            rw [hSE]
            clear hSE hes0
            go_wp2_with fail
            refine CO2.out.mono ?_
            rintro _ w3 ⟨rfl, hb3⟩
            have K3 : Hid (Below w.heap.size w w3) := hid (K2.out.trans (hb3.mono K2.out.size))
            have RX3 := hid (RX2.out.on hb3)
            have m0' := (hb3.cell (p := ⟨wr.heap.size, 0, none⟩) hs2).trans m0
            clear hb3 hw2 m0 m1 HO2
            go_wp2_with fail
            refine (CS2.out w3 RX3.out).mono ?_
            rintro _ w4 ⟨A4, c4, rfl, ho4, hb4⟩
            have K4 : Hid (Below w.heap.size w w4) := hid (K3.out.trans (hb4.mono K3.out.size))
            clear ho4 hb4
            go_wp2_with fail
            go_ret2
            exact ⟨none, 0, rfl, own_nil _ _ _, K4.out⟩
        · rw [if_pos hE0] at hSE
          have hne : (E != 0) = true := by simpa using hE0
          obtain ⟨rfl, rfl⟩ := HBAD.out k s HZ.out HEN.out (by rw [hSE]; exact hE0)
          rw [hSE]
          clear hSE hE0
          go_wp2_with fail
          refine CO2.out.mono ?_
          rintro _ w3 ⟨rfl, hb3⟩
          have K3 : Hid (Below w.heap.size w w3) := hid (K2.out.trans (hb3.mono K2.out.size))
          clear hb3 hw2 m0 m1
          go_wp2_with fail
          go_ret2
          exact ⟨none, 0, rfl, own_nil _ _ _, K3.out⟩
      · obtain rfl : k = M := by omega
        have htk : ls.take k = ls := List.take_of_length_le (by rw [HM.out]; exact Nat.le_refl _)
        rw [htk] at HZ HO
        have hg := HGOOD.out HZ.out
        obtain ⟨rfl, rfl⟩ := hg
        have CM2 := hid (CME.out A2 c2 wr HO.out.rd)
        have hll : (ls.map (srV u f)).length = k := by rw [List.length_map]; exact HM.out
        rw [hll] at CM2
        clear hll htk hbel
        go_wp2_with fail
        refine CM2.out.mono ?_
        rintro _ w3 ⟨A3, c3, rfl, ho3, hb3⟩
        have HO3 := hid ho3
        have K3 : Hid (Below w.heap.size w w3) := hid (HB.out.trans (hb3.mono HB.out.size))
        clear ho3
        go_wp2_with fail
        go_ret2
        exact ⟨A3, c3, rfl, own_base HO3.out HB.out.size, K3.out⟩
  · obtain ⟨e1, e2⟩ := lg_off (f := f) h1
    rw [e1, e2]
    rw [hU1] at h1 ⊢
    obtain ⟨E, hE⟩ : ∃ E, lcE U1 u ls = E := ⟨_, rfl⟩
    rw [hE] at CC h1 ⊢
    have hne : (E != 0) = true := by simpa using h1
    rw [hM] at CC ⊢
    rw [hU] at CC ⊢
    clear h1 e1 e2 hE hU1 hU hM ru ra hX iu hu hcw hl
    go_enter Try.func23, Try.ntmps23
    go_wp2_with fail
    refine CC.out.mono ?_
    rintro _ w1 ⟨rfl, hb1⟩
    have K1 := hid hb1
    clear hb1 CC
    go_wp2_with fail
    go_ret2
    exact ⟨none, 0, rfl, own_nil _ _ _, K1.out⟩
end Go.Proofs.Ytcjkofcgphcjnaa
