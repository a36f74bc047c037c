
/- Roots, rows, powers of two, shares of a whole. Plain mathematics. No program in sight. -/
import Derived.Test.YtnokomlekndgfaaMath
namespace Go.Proofs.Ytnokomlekndgfaa
set_option maxRecDepth 100000
set_option linter.unusedVariables false
/-- The root, bit by bit. -/
def rootGo (n : Nat) : Nat → Nat → Nat
  | 0, out => out
  | i + 1, out => if (out + 2 ^ i) * (out + 2 ^ i) ≤ n then rootGo n i (out + 2 ^ i) else rootGo n i out
def rootN (n : Nat) : Nat := rootGo n 32 0
theorem rootGo_ok {n : Nat} : ∀ (i out : Nat), out * out ≤ n → n < (out + 2 ^ i) * (out + 2 ^ i) → rootGo n i out * rootGo n i out ≤ n ∧ n < (rootGo n i out + 1) * (rootGo n i out + 1) ∧ rootGo n i out < out + 2 ^ i
  | 0, out, h1, h2 => by
    rw [rootGo]
    simp only [Nat.pow_zero] at h2 ⊢
    exact ⟨h1, h2, by omega⟩
  | i + 1, out, h1, h2 => by
    rw [rootGo]
    have hp : 2 ^ (i + 1) = 2 ^ i + 2 ^ i := by rw [Nat.pow_succ]; omega
    have h0 : 0 < 2 ^ i := Nat.two_pow_pos i
    by_cases h : (out + 2 ^ i) * (out + 2 ^ i) ≤ n
    · rw [if_pos h]
      obtain ⟨a, b, c⟩ := rootGo_ok i (out + 2 ^ i) h (by rw [Nat.add_assoc, ← hp]; exact h2)
      exact ⟨a, b, by rw [hp]; omega⟩
    · rw [if_neg h]
      obtain ⟨a, b, c⟩ := rootGo_ok i out h1 (by omega)
      exact ⟨a, b, by rw [hp]; omega⟩
theorem rootN_ok {n : Nat} (h : n < 18446744073709551616) : rootN n * rootN n ≤ n ∧ n < (rootN n + 1) * (rootN n + 1) ∧ rootN n < 4294967296 := by
  have h2 := rootGo_ok (n := n) 32 0 (by omega) (by simpa using h)
  simpa [rootN] using h2
theorem root_uniq {n a b : Nat} (h1 : a * a ≤ n) (h2 : n < (a + 1) * (a + 1)) (h3 : b * b ≤ n) (h4 : n < (b + 1) * (b + 1)) : a = b := by
  rcases Nat.lt_trichotomy a b with h | h | h
  · have := Nat.mul_le_mul (show a + 1 ≤ b from h) (show a + 1 ≤ b from h)
    omega
  · exact h
  · have := Nat.mul_le_mul (show b + 1 ≤ a from h) (show b + 1 ≤ a from h)
    omega
/-- The table. -/
def rowsN : List Nat := [1073741824, 1028218692, 984625593, 942880698, 902905650, 864625412, 827968131, 792864998, 759250124, 727060409, 696235433, 666717334, 638450707, 611382491, 585461880, 560640217, 536870912]
theorem rows_len : rowsN.length = 17 := rfl
theorem rows_fall : ∀ i, i < 16 → rowsN.getD (i + 1) 0 < rowsN.getD i 0 := by decide
theorem rows_down {i k : Nat} (h : i ≤ k) (hk : k ≤ 16) : rowsN.getD k 0 ≤ rowsN.getD i 0 := by
  induction k with
  | zero => have : i = 0 := by omega
            subst this; exact Nat.le_refl _
  | succ k ih =>
    by_cases e : i = k + 1
    · subst e; exact Nat.le_refl _
    · exact Nat.le_trans (Nat.le_of_lt (rows_fall k (by omega))) (ih (by omega) (by omega))
theorem rows_lo {i : Nat} (h : i ≤ 16) : 536870912 ≤ rowsN.getD i 0 := rows_down (k := 16) h (Nat.le_refl _)
theorem rows_hi {i : Nat} (h : i ≤ 16) : rowsN.getD i 0 ≤ 1073741824 := rows_down (i := 0) (Nat.zero_le _) h
theorem row_root : rowsN.getD 8 0 = rootN (rowsN.getD 0 0 * rowsN.getD 16 0) ∧ rowsN.getD 4 0 = rootN (rowsN.getD 0 0 * rowsN.getD 8 0) ∧ rowsN.getD 12 0 = rootN (rowsN.getD 8 0 * rowsN.getD 16 0) ∧
    rowsN.getD 2 0 = rootN (rowsN.getD 0 0 * rowsN.getD 4 0) ∧ rowsN.getD 6 0 = rootN (rowsN.getD 4 0 * rowsN.getD 8 0) ∧ rowsN.getD 10 0 = rootN (rowsN.getD 8 0 * rowsN.getD 12 0) ∧ rowsN.getD 14 0 = rootN (rowsN.getD 12 0 * rowsN.getD 16 0) ∧
    rowsN.getD 1 0 = rootN (rowsN.getD 0 0 * rowsN.getD 2 0) ∧ rowsN.getD 3 0 = rootN (rowsN.getD 2 0 * rowsN.getD 4 0) ∧ rowsN.getD 5 0 = rootN (rowsN.getD 4 0 * rowsN.getD 6 0) ∧ rowsN.getD 7 0 = rootN (rowsN.getD 6 0 * rowsN.getD 8 0) ∧
    rowsN.getD 9 0 = rootN (rowsN.getD 8 0 * rowsN.getD 10 0) ∧ rowsN.getD 11 0 = rootN (rowsN.getD 10 0 * rowsN.getD 12 0) ∧ rowsN.getD 13 0 = rootN (rowsN.getD 12 0 * rowsN.getD 14 0) ∧ rowsN.getD 15 0 = rootN (rowsN.getD 14 0 * rowsN.getD 16 0) := by
  refine ⟨rfl, rfl, rfl, rfl, rfl, rfl, rfl, rfl, rfl, rfl, rfl, rfl, rfl, rfl, rfl⟩
/-- The power of two: y is the opposite, with f bits behind the point. -/
def rowN (y f : Nat) : Nat := rowsN.getD (y % 2 ^ f * 16 / 2 ^ f) 0
def expN (y f : Nat) : Nat := rowN y f / 2 ^ (30 - f + y / 2 ^ f)
theorem row_at {y f : Nat} : y % 2 ^ f * 16 / 2 ^ f ≤ 15 := by
  have h0 := Nat.two_pow_pos f
  have h := Nat.mod_lt y h0
  have : y % 2 ^ f * 16 / 2 ^ f < 16 := by
    rw [Nat.div_lt_iff_lt_mul h0, Nat.mul_comm 16]
    exact Nat.mul_lt_mul_of_pos_right h (by decide)
  omega
theorem expN_zero {f : Nat} (hf : f ≤ 30) : expN 0 f = 2 ^ f := by
  have h : rowN 0 f = 2 ^ 30 := by unfold rowN; simp [rowsN]
  unfold expN
  rw [h, Nat.zero_div, Nat.add_zero, Nat.pow_div (by omega) (by decide)]
  congr 1
  omega
theorem expN_half {y f : Nat} : expN (y + 2 ^ f) f = expN y f / 2 := by
  have h0 := Nat.two_pow_pos f
  have h1 : rowN (y + 2 ^ f) f = rowN y f := by unfold rowN; rw [Nat.add_mod_right]
  unfold expN
  rw [h1, Nat.add_div_right _ h0, Nat.div_div_eq_div_mul, ← Nat.pow_succ]
  rfl
theorem expN_down {y z f : Nat} (h : y ≤ z) : expN z f ≤ expN y f := by
  have h0 := Nat.two_pow_pos f
  have hq := Nat.div_le_div_right (c := 2 ^ f) h
  have hy := Nat.div_add_mod y (2 ^ f)
  have hz := Nat.div_add_mod z (2 ^ f)
  unfold expN
  by_cases e : y / 2 ^ f = z / 2 ^ f
  · rw [← e]
    refine Nat.div_le_div_right ?_
    unfold rowN
    refine rows_down ?_ (Nat.le_trans row_at (by decide))
    refine Nat.div_le_div_right (Nat.mul_le_mul_right _ ?_)
    rw [e] at hy
    omega
  · obtain ⟨d, hd⟩ : ∃ d, z / 2 ^ f = y / 2 ^ f + 1 + d := ⟨z / 2 ^ f - (y / 2 ^ f + 1), by omega⟩
    rw [hd]
    obtain ⟨q, hqq⟩ : ∃ q, 30 - f + y / 2 ^ f = q := ⟨_, rfl⟩
    rw [show 30 - f + (y / 2 ^ f + 1 + d) = q + 1 + d by omega, hqq]
    have a1 : rowN z f ≤ 1073741824 := rows_hi (Nat.le_trans row_at (by decide))
    have a2 : 536870912 ≤ rowN y f := rows_lo (Nat.le_trans row_at (by decide))
    calc rowN z f / 2 ^ (q + 1 + d) ≤ 1073741824 / 2 ^ (q + 1 + d) := Nat.div_le_div_right a1
      _ ≤ 1073741824 / 2 ^ (q + 1) := Nat.div_le_div_left (Nat.pow_le_pow_right (by decide) (by omega)) (Nat.two_pow_pos _)
      _ = 536870912 / 2 ^ q := by rw [Nat.pow_succ, Nat.mul_comm, ← Nat.div_div_eq_div_mul]
      _ ≤ rowN y f / 2 ^ q := Nat.div_le_div_right a2
theorem expN_le {y f : Nat} (hf : f ≤ 30) : expN y f ≤ 2 ^ f := by rw [← expN_zero hf]; exact expN_down (Nat.zero_le _)
theorem expN_far {y f : Nat} (h : 31 * 2 ^ f ≤ y) : expN y f = 0 := by
  have h0 := Nat.two_pow_pos f
  have h1 : 31 ≤ y / 2 ^ f := (Nat.le_div_iff_mul_le h0).2 h
  unfold expN
  refine Nat.div_eq_of_lt (Nat.lt_of_le_of_lt (rows_hi (Nat.le_trans row_at (by decide))) ?_)
  exact Nat.lt_of_lt_of_le (by decide : 1073741824 < 2 ^ 31) (Nat.pow_le_pow_right (by decide) (by omega))
/-- Shares of a whole. -/
def shN (one S p : Nat) : Nat := p * one / S
theorem sh_sum {one S : Nat} (hS : 0 < S) : ∀ (l : List Nat), S * (l.map (shN one S)).sum ≤ l.sum * one ∧ l.sum * one ≤ S * (l.map (shN one S)).sum + l.length * (S - 1)
  | [] => by simp
  | p :: l => by
    obtain ⟨a, b⟩ := sh_sum (one := one) hS l
    rw [List.map_cons, List.sum_cons, List.sum_cons, List.length_cons, Nat.mul_add, Nat.add_mul, Nat.add_mul (l.length), Nat.one_mul]
    have h1 := Nat.div_add_mod (p * one) S
    have h2 := Nat.mod_lt (p * one) hS
    have h3 : shN one S p = p * one / S := rfl
    rw [h3]
    omega
/-- All shares together are no more than the whole, and less by fewer than as many as there are. -/
theorem sh_whole {one : Nat} {l : List Nat} (h : 0 < l.sum) : (l.map (shN one l.sum)).sum ≤ one ∧ one < (l.map (shN one l.sum)).sum + l.length := by
  obtain ⟨a, b⟩ := sh_sum (one := one) h l
  obtain ⟨S, hS⟩ : ∃ S, l.sum = S := ⟨_, rfl⟩
  obtain ⟨T, hT⟩ : ∃ T, (l.map (shN one S)).sum = T := ⟨_, rfl⟩
  have hl : 0 < l.length := by
    rcases Nat.eq_zero_or_pos l.length with e | e
    · rw [List.length_eq_zero_iff.1 e] at h; simp at h
    · exact e
  rw [hS] at a b h ⊢
  rw [hT] at a b ⊢
  constructor
  · exact Nat.le_of_mul_le_mul_left a h
  · refine Nat.lt_of_mul_lt_mul_left (a := S) ?_
    rw [Nat.mul_add]
    refine Nat.lt_of_le_of_lt b ?_
    have : l.length * (S - 1) < S * l.length := by
      rw [Nat.mul_comm S]
      exact Nat.mul_lt_mul_of_pos_left (by omega) hl
    omega
theorem sh_more {one S p q : Nat} (h : p ≤ q) : shN one S p ≤ shN one S q := Nat.div_le_div_right (Nat.mul_le_mul_right _ h)
/-- The greatest one's share is not less than the whole by how many there are. -/
theorem sh_best {one : Nat} {l : List Nat} (h1 : 0 < one) (hm : ∀ p ∈ l, p ≤ one) (hl : 0 < l.sum) : one / l.length ≤ shN one l.sum one := by
  have hs : ∀ (l : List Nat), (∀ p ∈ l, p ≤ one) → l.sum ≤ l.length * one := by
    intro l
    induction l with
    | nil => intro _; simp
    | cons x t ih =>
      intro h
      rw [List.sum_cons, List.length_cons, Nat.add_mul, Nat.one_mul]
      have a := h x (by simp)
      have b := ih fun p hp => h p (by simp [hp])
      omega
  have h2 := hs l hm
  unfold shN
  rw [Nat.le_div_iff_mul_le hl]
  refine Nat.le_trans (Nat.mul_le_mul_left _ h2) ?_
  rw [← Nat.mul_assoc]
  exact Nat.mul_le_mul_right _ (Nat.div_mul_le_self _ _)
end Go.Proofs.Ytnokomlekndgfaa
