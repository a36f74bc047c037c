
/- What a number got is, and where it ends: plain mathematics. -/
import Derived.Test.YtgdkmgepconnpaaLebM
namespace Go.Proofs.Ytgdkmgepconnpaa
set_option linter.unusedVariables false
theorem shl_in {x : Int} {k : Nat} (h0 : 0 ≤ x) (h1 : x ≤ 127) (hk : k ≤ 9) (h9 : k = 9 → x ≤ 1) : 0 ≤ x * 2 ^ (7 * k) ∧ x * 2 ^ (7 * k) ≤ 18446744073709551615 := by
  have hp := pow7_pos k
  refine ⟨Int.mul_nonneg h0 (Int.le_of_lt hp), ?_⟩
  rcases Nat.lt_or_ge k 9 with h | h
  · have h2 : (2 : Int) ^ (7 * k) ≤ 2 ^ (7 * 8) := by
      have := Nat.pow_le_pow_right (show 0 < 2 by decide) (show 7 * k ≤ 7 * 8 by omega)
      exact_mod_cast this
    have h3 : (2 : Int) ^ (7 * 8) = 72057594037927936 := by decide
    have := Int.mul_le_mul h1 h2 (Int.le_of_lt hp) (by decide)
    omega
  · obtain rfl : k = 9 := by omega
    have h3 : (2 : Int) ^ (7 * 9) = 9223372036854775808 := by decide
    have := h9 rfl
    rw [h3]
    omega
theorem get_out {b : List Int} {a v s e : Int} (ha : 0 ≤ a) (h : gL (b.drop a.toNat) 0 0 = (v, s, e)) : getN b a = v ∧ getE b a = e ∧ getA b a = if e = 0 then a + s else 0 := by
  have h1 : ¬ a < 0 := by omega
  unfold getA getN getE
  rw [h]
  simp [h1]
theorem part_lt {n x : Int} {k : Nat} (hn0 : 0 ≤ n) (hn : n < 2 ^ (7 * k)) : 0 ≤ n + x % 128 * 2 ^ (7 * k) ∧ n + x % 128 * 2 ^ (7 * k) < 2 ^ (7 * (k + 1)) := by
  have hp := pow7_pos k
  have h1 := Int.mul_nonneg (show 0 ≤ x % 128 by omega) (Int.le_of_lt hp)
  have h2 := Int.mul_le_mul_of_nonneg_right (show x % 128 ≤ 127 by omega) (Int.le_of_lt hp)
  rw [pow7]
  omega
theorem gL_u64 : ∀ (b : List Int) (k : Nat) (m v s : Int), U8s b → k ≤ 9 → 0 ≤ m → m < 2 ^ (7 * k) → gL b k m = (v, s, 0) → U64 v
  | [], k, m, v, s, _, _, _, _, h => by simp [gL] at h
  | c :: cs, k, m, v, s, hu, hk, h0, h1, h => by
    have hc := hu c (by simp)
    rw [gL] at h
    split at h
    · simp at h
    · rename_i h9
      have hpl := part_lt (x := c) h0 h1
      split at h
      · split at h
        · simp at h
        · rename_i h2 h3
          simp only [Prod.mk.injEq, and_true] at h
          obtain ⟨rfl, rfl⟩ := h
          refine ⟨hpl.1, ?_⟩
          have hs := shl_in (x := c % 128) (k := k) (by omega) (by omega) hk (by omega)
          rcases Nat.lt_or_ge k 9 with h | h
          · have h2 : (2 : Int) ^ (7 * (k + 1)) ≤ 2 ^ (7 * 9) := by
              have := Nat.pow_le_pow_right (show 0 < 2 by decide) (show 7 * (k + 1) ≤ 7 * 9 by omega)
              exact_mod_cast this
            have h3 : (2 : Int) ^ (7 * 9) = 9223372036854775808 := by decide
            omega
          · obtain rfl : k = 9 := by omega
            have h3 : (2 : Int) ^ (7 * 9) = 9223372036854775808 := by decide
            rw [h3] at h1 ⊢
            omega
      · rename_i h2
        exact gL_u64 cs (k + 1) _ v s (fun x hx => hu x (by simp [hx])) (by omega) hpl.1 hpl.2 h
/-- What a number got is, and where it ends. -/
theorem get_ok {b : List Int} {a : Int} (ub : U8s b) (h : getE b a = 0) : 0 ≤ a ∧ U64 (getN b a) ∧ ∃ j : Nat, a.toNat + j ≤ b.length ∧ getA b a = ((a.toNat + j : Nat) : Int) ∧ (b.drop a.toNat).take j = lebI (getN b a) := by
  by_cases h1 : a < 0
  · unfold getE at h; rw [if_pos h1] at h; simp at h
  · obtain ⟨v, s, e, hg⟩ : ∃ v s e, gL (b.drop a.toNat) 0 0 = (v, s, e) := ⟨_, _, _, rfl⟩
    obtain ⟨e1, e2, e3⟩ := get_out (b := b) (a := a) (by omega) hg
    rw [e2] at h
    subst h
    have ud : U8s (b.drop a.toNat) := fun x hx => ub x (List.mem_of_mem_drop hx)
    obtain ⟨q, j, hq, hv, rfl, hj, ht, _⟩ := gL_back _ 0 0 v s ud hg
    have hv' : v = q := by rw [hv]; simp
    have hj' : a.toNat + j ≤ b.length ∨ j = 0 := by rw [List.length_drop] at hj; omega
    have hu := gL_u64 _ 0 0 v _ ud (by omega) (by omega) (by decide) hg
    have hjp : 0 < j := by
      have := lebI_pos q hq
      rw [← ht, List.length_take] at this
      omega
    rw [e1, e3, hv']
    rw [hv'] at hu
    refine ⟨by omega, hu, j, by omega, ?_, ht⟩
    simp
    omega
theorem getA_i64 {b : List Int} {a : Int} {c : Nat} (ub : U8s b) (hb : b.length ≤ c) (hc : c ≤ 9223372036854775807) (h : getE b a = 0) : I64 (getA b a) := by
  obtain ⟨_, _, j, hj, e, _⟩ := get_ok ub h
  rw [e]
  unfold I64
  omega
end Go.Proofs.Ytgdkmgepconnpaa
