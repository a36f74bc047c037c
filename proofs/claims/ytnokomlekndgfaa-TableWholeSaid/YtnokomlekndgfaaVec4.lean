
/- vec's Sum, by its contract. -/
import Derived.Test.YtnokomlekndgfaaVec3
import Derived.Test.YtnokomlekndgfaaApp
import Derived.Test.YtnokomlekndgfaaRws
import Derived.Outline
namespace Go.Proofs.Ytnokomlekndgfaa
open Go.RowKit
set_option maxHeartbeats 400000
set_option maxRecDepth 100000
set_option linter.unusedVariables false
/-- A call's answer: a list of numbers, in memory of the call's own; nothing that was there has turned. -/
def OwnList (xs : List Int) (w : World) (e : Ending) (w' : World) : Prop :=
  ∃ A c, e = .returned (.slice A xs.length c) ∧ w'.ownsRow w.heap.size 2 1 (.slice A xs.length c) xs.length (xs.map (Value.int .i64)) ∧ Below w.heap.size w w'
def sumFrom : List Int → List (List Int) → List Int × Int
  | S, [] => (S, 0)
  | S, v :: r => if opE (· + ·) S v = 0 then sumFrom (opV (· + ·) S v) r else ([], opE (· + ·) S v)
/-- Vectors added, from the first one on: the vector, and the error. -/
def sumAll : List (List Int) → List Int × Int
  | [] => ([], 0)
  | v :: r => if 4096 < v.length then ([], 3) else sumFrom v r
def RowsOk (rows : List (List Int)) : Prop := ∀ xs ∈ rows, I64s xs ∧ xs.length ≤ 1099511627776
theorem sum_go {S v : List Int} {r : List (List Int)} {k : Nat} (hv : r[k]? = some v) (h : opE (· + ·) S v = 0) : sumFrom S (r.drop k) = sumFrom (opV (· + ·) S v) (r.drop (k + 1)) := by
  have hk : k < r.length := (List.getElem?_eq_some_iff.1 hv).1
  rw [List.drop_eq_getElem_cons hk, show r[k] = v from (List.getElem?_eq_some_iff.1 hv).2]
  exact if_pos h
theorem sum_off {S v : List Int} {r : List (List Int)} {k : Nat} (hv : r[k]? = some v) (h : opE (· + ·) S v ≠ 0) : sumFrom S (r.drop k) = ([], opE (· + ·) S v) := by
  have hk : k < r.length := (List.getElem?_eq_some_iff.1 hv).1
  rw [List.drop_eq_getElem_cons hk, show r[k] = v from (List.getElem?_eq_some_iff.1 hv).2]
  exact if_neg h
theorem opV_off {f : Int → Int → Int} {xs ys : List Int} (h : opE f xs ys ≠ 0) : opV f xs ys = [] := by
  unfold opE at h
  unfold opV
  split
  · rename_i e
    rw [if_pos e] at h
    unfold seqV
    rw [if_neg h]
  · rfl
end Go.Proofs.Ytnokomlekndgfaa
