
/- FIxC: texts joined: IxC. -/
import Derived.Test.YtjkhdfncahhnoaaGreatFb
import Derived.Test.YtjkhdfncahhnoaaGreatFa
/- Numbers spread and gathered, other places, lists together, by the document. -/
namespace Go.Proofs.YtjkhdfncahhnoaaGreat
open Go.RowKit
set_option maxHeartbeats 400000
set_option maxRecDepth 100000
set_option linter.unusedVariables false
theorem sp_map {k : Nat} {l v : List Int} : (upI k).map (spF l v) = (List.range k).map fun j : Nat => spF l v (j : Int) := by
  unfold upI
  rw [List.map_map]
  rfl
/-- The numbers ahead of some place of lists. -/
def upto (ls : List (List Int)) (i j : Nat) : List Int := (ls.take i).flatten ++ (ls.getD i []).take j
theorem upto_next {ls : List (List Int)} {i : Nat} {x : List Int} (h : ls[i]? = some x) : upto ls i x.length = upto ls (i + 1) 0 := by
  unfold upto
  rw [List.take_add_one, h, List.getD_eq_getElem?_getD, h, Option.getD_some, List.take_length, List.flatten_append, List.take_zero, List.append_nil]
  simp
theorem upto_step {ls : List (List Int)} {i j : Nat} {x : List Int} {n : Int} (h : ls[i]? = some x) (hj : x[j]? = some n) : upto ls i (j + 1) = upto ls i j ++ [n] := by
  unfold upto
  rw [List.getD_eq_getElem?_getD, h, Option.getD_some, take_snoc hj, List.append_assoc]
theorem upto_end (ls : List (List Int)) {i : Nat} (h : ls.length ≤ i) : upto ls i 0 = ls.flatten := by
  unfold upto
  rw [List.take_of_length_le h, List.take_zero, List.append_nil]
theorem upto_len {ls : List (List Int)} {i j : Nat} : (upto ls i j).length ≤ ls.flatten.length := by
  unfold upto
  conv => rhs; rw [← List.take_append_drop i ls, List.flatten_append]
  rw [List.length_append, List.length_append]
  have : ((ls.getD i []).take j).length ≤ (ls.drop i).flatten.length := by
    by_cases hi : i < ls.length
    · rw [List.drop_eq_getElem_cons hi, List.flatten_cons, List.length_append, List.getD_eq_getElem?_getD, List.getElem?_eq_getElem hi, Option.getD_some, List.length_take]
      omega
    · rw [List.getD_eq_getElem?_getD, List.getElem?_eq_none (by omega)]
      simp
  omega
theorem ins_len (out : List Int) (n : Int) : (insI out n).length ≤ out.length + 1 := by
  unfold insI
  split
  · omega
  · rw [List.length_append, List.length_append]
    have h : (out.filter fun m => decide (m < n)).length + (out.filter fun m => decide (n < m)).length ≤ out.length := by
      have h1 := filter_both (fun m => decide (m < n)) out
      have h2 : (out.filter fun m => decide (n < m)).length ≤ (out.filter fun x => !decide (x < n)).length := by
        rw [← List.countP_eq_length_filter, ← List.countP_eq_length_filter]
        exact List.countP_mono_left fun x _ hx => by simp at hx ⊢; omega
      omega
    simp
    omega
theorem mrgF_len : ∀ (l out : List Int), (mrgF out l).length ≤ out.length + l.length
  | [], out => by simp [mrgF]
  | n :: l, out => by
    have h1 := mrgF_len l (insI out n)
    have h2 := ins_len out n
    show (mrgF (insI out n) l).length ≤ _
    rw [List.length_cons]
    omega
theorem filter_snoc {l : List Int} {k : Nat} {x : Int} (h : l[k]? = some x) (p : Int → Bool) : (l.take (k + 1)).filter p = (l.take k).filter p ++ if p x = true then [x] else [] := by
  rw [take_snoc h, List.filter_append]
  congr 1
  cases hp : p x <;> simp [hp]
end Go.Proofs.YtjkhdfncahhnoaaGreat
