
/- Powers and shares, number by number. Plain mathematics. -/
import Derived.Test.YtnokomlekndgfaaTbN
import Derived.Test.YtnokomlekndgfaaTbJ
import Derived.Test.YtnokomlekndgfaaOver
namespace Go.Proofs.Ytnokomlekndgfaa
open Go.RowKit
set_option maxRecDepth 100000
set_option linter.unusedVariables false
def pwI (frac : Int) (z : List Int) : List Int := (powL frac z).map fun (p : Nat) => (p : Int)
theorem pwI_len (frac : Int) (z : List Int) : (pwI frac z).length = z.length := by unfold pwI; rw [List.length_map, powL_len]
theorem pwI_at {frac : Int} {z : List Int} {k : Nat} {x : Int} (hx : z[k]? = some x) : (pwI frac z)[k]? = some (expN (topZ z - x).toNat frac.toNat : Int) := by
  unfold pwI powL
  rw [List.getElem?_map, List.getElem?_map, hx]
  rfl
theorem pwI_next {frac : Int} {z : List Int} {k : Nat} {x : Int} (hx : z[k]? = some x) : (pwI frac z).take (k + 1) = (pwI frac z).take k ++ [(expN (topZ z - x).toNat frac.toNat : Int)] := by
  rw [List.take_add_one, pwI_at hx]
  rfl
theorem sum_app (l : List Int) (x : Int) : (l ++ [x]).sum = l.sum + x := by simp
theorem pwI_sum (frac : Int) (z : List Int) : ∀ k, 0 ≤ ((pwI frac z).take k).sum ∧ ((pwI frac z).take k).sum ≤ k * 1073741824
  | 0 => by simp
  | k + 1 => by
    obtain ⟨a, b⟩ := pwI_sum frac z k
    rw [List.take_add_one]
    by_cases h : k < z.length
    · rw [pwI_at (List.getElem?_eq_getElem h)]
      have := expN_up (y := (topZ z - z[k]).toNat) (f := frac.toNat)
      simp only [Option.toList]
      rw [sum_app]
      constructor <;> omega
    · rw [List.getElem?_eq_none (by rw [pwI_len]; omega)]
      simp only [Option.toList, List.append_nil]
      constructor <;> omega
theorem pwI_total (frac : Int) (z : List Int) : (pwI frac z).sum = ((powL frac z).sum : Int) := by
  unfold pwI
  generalize powL frac z = l
  induction l with
  | nil => rfl
  | cons x t ih => rw [List.map_cons, List.sum_cons, List.sum_cons, ih]; omega
theorem sofL_at2 {frac : Int} {z : List Int} {k : Nat} {x : Int} (hx : z[k]? = some x) : (sofL frac z)[k]? = some (shN (2 ^ frac.toNat) (powL frac z).sum (expN (topZ z - x).toNat frac.toNat) : Int) := by
  unfold sofL
  rw [List.getElem?_map]
  have : (powL frac z)[k]? = some (expN (topZ z - x).toNat frac.toNat) := by unfold powL; rw [List.getElem?_map, hx]; rfl
  rw [this]
  rfl
/-- A share is what the division tells. -/
theorem div_sh {p S k : Nat} (hS : 0 < S) (hp : p ≤ S) (hk : k ≤ 30) : ckV (quoF ((p : Int) * 2 ^ k) (S : Int)) = (shN (2 ^ k) S p : Int) ∧ ckE (quoF ((p : Int) * 2 ^ k) (S : Int)) = 0 := by
  have e : quoF ((p : Int) * 2 ^ k) (S : Int) = (shN (2 ^ k) S p : Int) := by
    unfold quoF shN
    rw [if_neg (by omega), Int.natCast_ediv, Int.natCast_mul, Int.natCast_pow]
    rfl
  have h1 : shN (2 ^ k) S p ≤ 2 ^ k := by
    unfold shN
    refine Nat.div_le_of_le_mul ?_
    exact Nat.mul_le_mul_right _ hp
  have h2 : 2 ^ k ≤ 2 ^ 30 := Nat.pow_le_pow_right (n := 2) (by decide) hk
  have h3 : I64 (shN (2 ^ k) S p : Int) := by unfold I64; omega
  rw [e]
  exact ⟨ckV_in h3, ckE_in h3⟩
theorem pow_le_sum {frac : Int} {z : List Int} {k : Nat} {x : Int} (hx : z[k]? = some x) : expN (topZ z - x).toNat frac.toNat ≤ (powL frac z).sum := by
  refine sum_mem ?_
  unfold powL
  exact List.mem_map.2 ⟨x, List.mem_of_getElem? hx, rfl⟩
theorem sofE_far {frac : Int} {z : List Int} {x : Int} (h1 : bstE z = 0) (h2 : 0 ≤ frac) (h3 : frac ≤ 30) (hx : x ∈ z) (h : x - topZ z < -9223372036854775807) : sofE frac z = 2 ∧ sofV frac z = [] := by
  have e : sofE frac z = 2 := by
    unfold sofE
    rw [if_neg (by omega), if_neg (by omega), if_pos]
    unfold farZ
    exact decide_eq_true ⟨x, hx, h⟩
  refine ⟨e, if_neg ?_⟩
  rw [e]
  decide
theorem sofE_arg {frac : Int} {z : List Int} (h1 : bstE z = 0) (h2 : frac < 0 ∨ 30 < frac) : sofE frac z = 1 ∧ sofV frac z = [] := by
  have e : sofE frac z = 1 := by
    unfold sofE
    rw [if_neg (by omega), if_pos h2]
  refine ⟨e, if_neg ?_⟩
  rw [e]
  decide
theorem sofE_bst {frac : Int} {z : List Int} (h1 : bstE z ≠ 0) : sofE frac z = bstE z ∧ sofV frac z = [] := by
  have e : sofE frac z = bstE z := by
    unfold sofE
    rw [if_pos h1]
  refine ⟨e, if_neg ?_⟩
  rw [e]
  exact h1
theorem sofE_in {frac : Int} {z : List Int} (h1 : bstE z = 0) (h2 : 0 ≤ frac) (h3 : frac ≤ 30) (h : ∀ k x, k < z.length → z[k]? = some x → -9223372036854775807 ≤ x - topZ z) : sofE frac z = 0 ∧ sofV frac z = sofL frac z := by
  have e : sofE frac z = 0 := sofE_ok.2 ⟨bstE_ok.1 h1, h2, h3, fun x hx => by
    obtain ⟨k, hk, rfl⟩ := List.mem_iff_getElem.1 hx
    exact h k _ hk (List.getElem?_eq_getElem hk)⟩
  exact ⟨e, if_pos e⟩
theorem top_at {z : List Int} (h : z ≠ []) : z[bstGo z z.length]? = some (topZ z) := by
  have h2 := bst_in h
  unfold topZ
  rw [List.getD_eq_getElem?_getD, List.getElem?_eq_getElem h2]
  rfl
end Go.Proofs.Ytnokomlekndgfaa
