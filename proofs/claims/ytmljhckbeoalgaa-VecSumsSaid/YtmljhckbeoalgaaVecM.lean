
/- Plain mathematics of vectors: when a call tells no error, and what it tells then. -/
import Derived.Test.YtmljhckbeoalgaaVecLv
namespace Go.Proofs.Ytmljhckbeoalgaa
set_option linter.unusedVariables false
theorem seqE_zero {num : Nat → Int × Int} : ∀ {n : Nat}, seqE num n = 0 ↔ ∀ k, k < n → (num k).2 = 0
  | 0 => ⟨fun _ k hk => absurd hk (by omega), fun _ => rfl⟩
  | n + 1 => by
    show (if seqE num n = 0 then (num n).2 else seqE num n) = 0 ↔ _
    have ih := seqE_zero (num := num) (n := n)
    split
    · rename_i h
      constructor
      · intro h2 k hk
        by_cases e : k = n
        · rw [e]; exact h2
        · exact ih.1 h k (by omega)
      · intro h2; exact h2 n (by omega)
    · rename_i h
      constructor
      · intro h2; exact absurd h2 h
      · intro h2; exact absurd (ih.2 fun k hk => h2 k (by omega)) h
theorem ckE_zero {s : Int} : ckE s = 0 ↔ I64 s := by
  unfold ckE; split <;> simp_all
theorem range_getD (xs : List Int) : (List.range xs.length).map (fun k => xs.getD k 0) = xs := by
  apply List.ext_getElem?
  intro i
  by_cases h : i < xs.length
  · simp [h, List.getD]
  · simp [h]
theorem getD_range {f : Nat → Int} {n k : Nat} (hk : k < n) : ((List.range n).map f).getD k 0 = f k := by
  simp [List.getD, hk]
theorem map_range_ext {f g : Nat → Int} {n : Nat} (h : ∀ k, k < n → f k = g k) : (List.range n).map f = (List.range n).map g := by
  apply List.map_congr_left
  intro k hk
  exact h k (by simpa using hk)
theorem op_ok {f : Int → Int → Int} {xs ys : List Int} (h : opE f xs ys = 0) :
    xs.length ≤ 4096 ∧ ys.length = xs.length ∧ (∀ k, k < xs.length → I64 (f (xs.getD k 0) (ys.getD k 0))) ∧ opV f xs ys = (List.range xs.length).map fun k => f (xs.getD k 0) (ys.getD k 0) := by
  unfold opE at h
  unfold opV
  by_cases ht : twoE xs.length ys.length = 0
  · rw [if_pos ht] at h ⊢
    obtain ⟨h1, h2⟩ := twoE_ok ht
    have hk : ∀ k, k < xs.length → I64 (f (xs.getD k 0) (ys.getD k 0)) := fun k hk => ckE_zero.1 (seqE_zero.1 h k hk)
    refine ⟨h1, h2, hk, ?_⟩
    unfold seqV
    rw [if_pos h]
    exact map_range_ext fun k hk' => ckV_in (hk k hk')
  · rw [if_neg ht] at h
    exact absurd h ht
theorem twoE_mk {n m : Nat} (h1 : n ≤ 4096) (h2 : m = n) : twoE n m = 0 := by
  unfold twoE; rw [if_neg (by omega), if_pos h2.symm]
theorem op_mk {f : Int → Int → Int} {xs ys : List Int} (h1 : xs.length ≤ 4096) (h2 : ys.length = xs.length) (hk : ∀ k, k < xs.length → I64 (f (xs.getD k 0) (ys.getD k 0))) :
    opE f xs ys = 0 ∧ opV f xs ys = (List.range xs.length).map fun k => f (xs.getD k 0) (ys.getD k 0) := by
  have h : opE f xs ys = 0 := by
    unfold opE
    rw [if_pos (twoE_mk h1 h2)]
    exact seqE_zero.2 fun k hk' => ckE_zero.2 (hk k hk')
  exact ⟨h, (op_ok h).2.2.2⟩
theorem i64_getD {xs : List Int} (h : I64s xs) {k : Nat} (hk : k < xs.length) : I64 (xs.getD k 0) := by
  have : xs.getD k 0 = xs[k] := by simp [List.getD, hk]
  rw [this]
  exact h _ (List.getElem_mem hk)
/-- What was added is taken away again; either way round it is the same. -/
theorem add_back {xs ys : List Int} (ix : I64s xs) (iy : I64s ys) (h : opE (· + ·) xs ys = 0) :
    opE (· - ·) (opV (· + ·) xs ys) ys = 0 ∧ opV (· - ·) (opV (· + ·) xs ys) ys = xs ∧ opE (· + ·) ys xs = 0 ∧ opV (· + ·) ys xs = opV (· + ·) xs ys := by
  obtain ⟨h1, h2, h3, h4⟩ := op_ok h
  have hl : (opV (· + ·) xs ys).length = xs.length := by rw [h4]; simp
  have hg : ∀ k, k < xs.length → (opV (· + ·) xs ys).getD k 0 = xs.getD k 0 + ys.getD k 0 := fun k hk => by rw [h4, getD_range hk]
  have a := op_mk (f := (· - ·)) (xs := opV (· + ·) xs ys) (ys := ys) (by omega) (by omega) fun k hk => by
    show I64 (_ - _)
    rw [hg k (by omega), show xs.getD k 0 + ys.getD k 0 - ys.getD k 0 = xs.getD k 0 by omega]
    exact i64_getD ix (by omega)
  have b := op_mk (f := (· + ·)) (xs := ys) (ys := xs) (by omega) (by omega) fun k hk => by
    have := h3 k (by omega)
    show I64 (_ + _)
    rw [Int.add_comm]; exact this
  refine ⟨a.1, ?_, b.1, ?_⟩
  · rw [a.2, hl]
    conv => rhs; rw [← range_getD xs]
    refine map_range_ext fun k hk => ?_
    rw [hg k hk]; omega
  · rw [b.2, h4, h2]
    exact map_range_ext fun k hk => Int.add_comm _ _
theorem sub_back {xs ys : List Int} (ix : I64s xs) (h : opE (· - ·) xs ys = 0) : opE (· + ·) (opV (· - ·) xs ys) ys = 0 ∧ opV (· + ·) (opV (· - ·) xs ys) ys = xs := by
  obtain ⟨h1, h2, h3, h4⟩ := op_ok h
  have hl : (opV (· - ·) xs ys).length = xs.length := by rw [h4]; simp
  have hg : ∀ k, k < xs.length → (opV (· - ·) xs ys).getD k 0 = xs.getD k 0 - ys.getD k 0 := fun k hk => by rw [h4, getD_range hk]
  have a := op_mk (f := (· + ·)) (xs := opV (· - ·) xs ys) (ys := ys) (by omega) (by omega) fun k hk => by
    show I64 (_ + _)
    rw [hg k (by omega), show xs.getD k 0 - ys.getD k 0 + ys.getD k 0 = xs.getD k 0 by omega]
    exact i64_getD ix (by omega)
  refine ⟨a.1, ?_⟩
  rw [a.2, hl]
  conv => rhs; rw [← range_getD xs]
  refine map_range_ext fun k hk => ?_
  rw [hg k hk]; omega
theorem moreV_len (ys xs : List Int) (b m : Int) : (moreV ys xs b m).length ≤ 4096 := by
  unfold moreV
  split
  · exact opV_len _ _ _
  · simp
theorem zeroV_len (n : Int) : (zeroV n).length ≤ 4096 := by
  unfold zeroV
  split
  · simp
  · simp; omega
theorem sumFrom_len : ∀ (r : List (List Int)) (S : List Int), S.length ≤ 4096 → (sumFrom S r).1.length ≤ 4096
  | [], S, h => h
  | v :: r, S, h => by
    unfold sumFrom
    split
    · exact sumFrom_len r _ (opV_len _ _ _)
    · simp
theorem sumAll_len {rows : List (List Int)} (h : RowsOk rows) : (sumAll rows).1.length ≤ 4096 := by
  unfold sumAll
  split
  · simp
  · split
    · simp
    · exact sumFrom_len _ _ (by omega)
theorem eqB_self (xs : List Int) : eqB xs xs = true := by unfold eqB; simp
theorem eqB_of {xs ys : List Int} (h : xs = ys) : eqB xs ys = true := by subst h; exact eqB_self xs
end Go.Proofs.Ytmljhckbeoalgaa
