
/- vec's functions, each by its contract. -/
import Derived.Test.YtnokomlekndgfaaVecC
namespace Go.Proofs.Ytnokomlekndgfaa
open Go.RowKit
set_option maxHeartbeats 400000
set_option maxRecDepth 100000
set_option linter.unusedVariables false
/-- What stands in the way of two vectors. -/
def twoE (n m : Nat) : Int := if 4096 < n ∨ 4096 < m then 3 else if n = m then 0 else 4
def oneE (n : Nat) : Int := if 4096 < n then 3 else 0
theorem Check_any (A : Option Addr) (n c : Nat) (hn : n ≤ 9223372036854775807) (w : World) :
    Calls Try.prog 33 #[.slice A n c] w fun e w' => e = .returned (.int .i64 (oneE n)) ∧ w = w' := by
  by_cases h : 4096 < n
  · have e1 : oneE n = 3 := if_pos h
    rw [e1]
    clear e1
    go_enter Try.func33, Try.ntmps33
    go_wp2
    go_ret
    exact ⟨rfl, rfl⟩
  · have e1 : oneE n = 0 := if_neg h
    rw [e1]
    clear e1
    go_enter Try.func33, Try.ntmps33
    go_wp2
    go_ret
    exact ⟨rfl, rfl⟩
def numV2 (f : Int → Int → Int) (xs ys : List Int) (k : Nat) : Int × Int := (ckV (f (xs.getD k 0) (ys.getD k 0)), ckE (f (xs.getD k 0) (ys.getD k 0)))
/-- Two vectors, number by number: the error, and the vector. -/
def opE (f : Int → Int → Int) (xs ys : List Int) : Int := if twoE xs.length ys.length = 0 then seqE (numV2 f xs ys) xs.length else twoE xs.length ys.length
def opV (f : Int → Int → Int) (xs ys : List Int) : List Int := if twoE xs.length ys.length = 0 then seqV (numV2 f xs ys) xs.length else []
theorem twoE_ok {n m : Nat} (h : twoE n m = 0) : n ≤ 4096 ∧ m = n := by
  unfold twoE at h
  split at h
  · cases h
  · split at h
    · omega
    · cases h
theorem OwnInts.onto {xs : List Int} {er : Int} {w wl w' : World} {e : Ending} (h : OwnInts xs er wl e w') (hb : Below w.heap.size w wl) : OwnInts xs er w e w' := by
  obtain ⟨A, c, he, ho, hk⟩ := h
  exact ⟨A, c, he, own_base ho hb.size, hb.trans (hk.mono hb.size)⟩
/-- A product with so many bits behind the point: the number, and the error. -/
def mulV (a b m : Int) : Int := if m < 0 ∨ 30 < m then 0 else ckV (a * b / 2 ^ m.toNat)
def mulE (a b m : Int) : Int := if m < 0 ∨ 30 < m then 1 else ckE (a * b / 2 ^ m.toNat)
def behE (m : Int) : Int := if m < 0 ∨ 30 < m then 1 else 0
def bndE (n : Nat) (q : Int) : Int := if 4096 < n then 3 else q
def unE (q : Int) (num : Nat → Int × Int) (n : Nat) : Int := if bndE n q = 0 then seqE num n else bndE n q
def unV (q : Int) (num : Nat → Int × Int) (n : Nat) : List Int := if bndE n q = 0 then seqV num n else []
theorem un_long {n : Nat} (h : 4096 < n) (q : Int) (num : Nat → Int × Int) : unE q num n = 3 ∧ unV q num n = [] := by
  have e : bndE n q = 3 := if_pos h
  unfold unE unV
  rw [e]
  exact ⟨rfl, rfl⟩
theorem un_bad {n : Nat} (h : ¬ 4096 < n) {q : Int} (hq : q ≠ 0) (num : Nat → Int × Int) : unE q num n = q ∧ unV q num n = [] := by
  have e : bndE n q = q := if_neg h
  unfold unE unV
  rw [e, if_neg hq, if_neg hq]
  exact ⟨rfl, rfl⟩
theorem un_ok {n : Nat} (h : ¬ 4096 < n) (num : Nat → Int × Int) : unE 0 num n = seqE num n ∧ unV 0 num n = seqV num n := by
  have e : bndE n 0 = 0 := if_neg h
  unfold unE unV
  rw [e]
  exact ⟨rfl, rfl⟩
def numS (xs : List Int) (b m : Int) (k : Nat) : Int × Int := (mulV (xs.getD k 0) b m, mulE (xs.getD k 0) b m)
def numC (xs : List Int) (m : Int) (k : Nat) : Int × Int := (clipV (xs.getD k 0) m, clipE m)
def numA (xs : List Int) (k : Nat) : Int × Int := (ckV (absI (xs.getD k 0)), ckE (absI (xs.getD k 0)))
def numD (xs ys : List Int) (m : Int) (k : Nat) : Int × Int := (mulV (xs.getD k 0) (ys.getD k 0) m, mulE (xs.getD k 0) (ys.getD k 0) m)
theorem three_cells (w : World) (u v x : Value) (t s r : TypeId) :
    (((w.alloc (.cells #[u] t)).alloc (.cells #[v] s)).alloc (.cells #[x] r)).cell? ⟨w.heap.size, 0, none⟩ = some u ∧ (((w.alloc (.cells #[u] t)).alloc (.cells #[v] s)).alloc (.cells #[x] r)).cell? ⟨w.heap.size + 1, 0, none⟩ = some v ∧
      (((w.alloc (.cells #[u] t)).alloc (.cells #[v] s)).alloc (.cells #[x] r)).cell? ⟨w.heap.size + 1 + 1, 0, none⟩ = some x ∧ Below w.heap.size w (((w.alloc (.cells #[u] t)).alloc (.cells #[v] s)).alloc (.cells #[x] r)) := by
  refine ⟨?_, ?_, ?_, by go_grown⟩ <;> simp [go_sem]
end Go.Proofs.Ytnokomlekndgfaa
