
/- vec's functions, each by its contract: the others. -/
import Derived.Test.YtnokomlekndgfaaVec
namespace Go.Proofs.Ytnokomlekndgfaa
open Go.RowKit
set_option maxHeartbeats 400000
set_option maxRecDepth 100000
set_option linter.unusedVariables false
/-- y and so many times x: the error, and the vector. -/
def moreE (ys xs : List Int) (b m : Int) : Int := if unE (behE m) (numS xs b m) xs.length = 0 then opE (· + ·) ys (unV (behE m) (numS xs b m) xs.length) else unE (behE m) (numS xs b m) xs.length
def moreV (ys xs : List Int) (b m : Int) : List Int := if unE (behE m) (numS xs b m) xs.length = 0 then opV (· + ·) ys (unV (behE m) (numS xs b m) xs.length) else []
theorem seqV_i64 {num : Nat → Int × Int} {n : Nat} (h : ∀ k, k < n → I64 (num k).1) : I64s (seqV num n) := by
  unfold seqV
  split
  · intro x hx
    obtain ⟨k, hk, rfl⟩ := List.mem_map.1 hx
    exact h k (by simpa using hk)
  · intro x hx; simp at hx
theorem unV_i64 {q : Int} {num : Nat → Int × Int} {n : Nat} (h : ∀ k, k < n → I64 (num k).1) : I64s (unV q num n) := by
  unfold unV
  split
  · exact seqV_i64 h
  · intro x hx; simp at hx
theorem opV_i64 (f : Int → Int → Int) (xs ys : List Int) : I64s (opV f xs ys) := by
  unfold opV
  split
  · exact seqV_i64 fun k _ => ckV_i64 _
  · intro x hx; simp at hx
theorem mulV_i64 (a b m : Int) : I64 (mulV a b m) := by
  unfold mulV
  split
  · decide
  · exact ckV_i64 _
theorem seqV_len (num : Nat → Int × Int) (n : Nat) : (seqV num n).length ≤ n := by
  unfold seqV; split <;> simp
theorem unV_len (q : Int) (num : Nat → Int × Int) (n : Nat) : (unV q num n).length ≤ 4096 := by
  by_cases h : bndE n q = 0
  · rw [show unV q num n = seqV num n from if_pos h]
    have := seqV_len num n
    have : ¬ 4096 < n := fun hn => by rw [show bndE n q = 3 from if_pos hn] at h; cases h
    omega
  · rw [show unV q num n = [] from if_neg h]; simp
theorem opV_len (f : Int → Int → Int) (xs ys : List Int) : (opV f xs ys).length ≤ 4096 := by
  unfold opV
  split
  · rename_i h
    have := twoE_ok h
    have := seqV_len (numV2 f xs ys) xs.length
    omega
  · simp
/-- A product of two vectors: the number, and the error. -/
def dotE (xs ys : List Int) (m : Int) : Int := if twoE xs.length ys.length = 0 then (if behE m = 0 then (tot (numD xs ys m) xs.length).2 else behE m) else twoE xs.length ys.length
def dotV (xs ys : List Int) (m : Int) : Int := if twoE xs.length ys.length = 0 then (if behE m = 0 then (tot (numD xs ys m) xs.length).1 else 0) else 0
def sizeE (xs : List Int) : Int := if 4096 < xs.length then 3 else (tot (numA xs) xs.length).2
def sizeV (xs : List Int) : Int := if 4096 < xs.length then 0 else (tot (numA xs) xs.length).1
theorem size_H {A : Option Addr} {c : Nat} (xs : List Int) (ix : I64s xs) (w : World) (ra : Rd (Value.int .i64) w w.heap.size A xs)
    (k : Nat) (hk : k < xs.length) (W : World) (hW : Below (w.alloc (.cells #[.slice A xs.length c] 32)).heap.size (w.alloc (.cells #[.slice A xs.length c] 32)) W) :
    Calls Try.prog 43 (#[.int .i64 k] ++ #[.pointer (some ⟨w.heap.size, 0, none⟩)]) W fun e w' => e = .returned (.tuple #[.int .i64 (numA xs k).1, .int .i64 (numA xs k).2]) ∧ Below W.heap.size W w' := by
  obtain ⟨_, _, x, _, _, hx, _⟩ := ra.at_ hk
  obtain ⟨ca, hb⟩ := one_cell w (.slice A xs.length c) 32
  have h := size_cl xs (cell_later hW ca) (ra.below (hb.trans (hW.mono hb.size))) hx (ix.at_ hx)
  unfold numA
  rw [getD_of hx]
  exact h
theorem Size_any {A : Option Addr} {c : Nat} (xs : List Int) (hx : xs.length ≤ 9223372036854775807) (ix : I64s xs) (w : World) (ra : Rd (Value.int .i64) w w.heap.size A xs) :
    Calls Try.prog 37 #[.slice A xs.length c] w fun e w' => e = .returned (.tuple #[.int .i64 (sizeV xs), .int .i64 (sizeE xs)]) ∧ Below w.heap.size w w' := by
  have CM := hid (Check_any A xs.length c hx)
  have HB := hid (one_cell w (.slice A xs.length c) 32).2
  by_cases hn : 4096 < xs.length
  · rw [show sizeE xs = 3 from if_pos hn, show sizeV xs = 0 from if_pos hn]
    rw [show oneE xs.length = 3 from if_pos hn] at CM
    clear ra ix
    go_enter Try.func37, Try.ntmps37
    go_wp2_with fail
    refine (CM.out _).mono ?_
    rintro _ _ ⟨rfl, rfl⟩
    go_wp2_with fail
    go_ret2
    exact ⟨rfl, HB.out⟩
  · rw [show sizeE xs = (tot (numA xs) xs.length).2 from if_neg hn, show sizeV xs = (tot (numA xs) xs.length).1 from if_neg hn]
    rw [show oneE xs.length = 0 from if_neg hn] at CM
    have hL := hid (total_any _ _ xs.length (by omega) _ (numA xs) size_ok (fun k _ => ckV_i64 _) (size_H (c := c) xs ix w ra))
    obtain ⟨s, hs⟩ : ∃ s, tot (numA xs) xs.length = s := ⟨_, rfl⟩
    rw [hs] at hL ⊢
    clear ra ix hs
    go_enter Try.func37, Try.ntmps37
    go_wp2_with fail
    refine (CM.out _).mono ?_
    rintro _ _ ⟨rfl, rfl⟩
    go_wp2_with fail
    refine hL.out.mono ?_
    rintro _ w2 ⟨rfl, hb2⟩
    go_wp2_with fail
    go_ret2
    exact ⟨rfl, HB.out.trans (hb2.mono HB.out.size)⟩
end Go.Proofs.Ytnokomlekndgfaa
