
/- The greatest number's place, and shares: the errors, and what follows. Plain mathematics. No program in sight. -/
import Derived.Test.YtnokomlekndgfaaTbM
namespace Go.Proofs.Ytnokomlekndgfaa
set_option maxRecDepth 100000
set_option linter.unusedVariables false
/-- The first place of the greatest number, of the first so many. -/
def bstGo (z : List Int) : Nat → Nat
  | 0 => 0
  | k + 1 => if z.getD k 0 > z.getD (bstGo z k) 0 then k else bstGo z k
def bstE (z : List Int) : Int := if z = [] then 1 else if 4096 < z.length then 3 else 0
def bstN (z : List Int) : Nat := if bstE z = 0 then bstGo z z.length else 0
theorem bstE_ok {z : List Int} : bstE z = 0 ↔ z ≠ [] ∧ z.length ≤ 4096 := by
  unfold bstE
  by_cases h : z = []
  · rw [if_pos h]
    exact ⟨fun h2 => absurd h2 (by decide), fun h2 => absurd h h2.1⟩
  · rw [if_neg h]
    by_cases h2 : 4096 < z.length
    · rw [if_pos h2]
      exact ⟨fun h3 => absurd h3 (by decide), fun h3 => by omega⟩
    · rw [if_neg h2]
      exact ⟨fun _ => ⟨h, by omega⟩, fun _ => rfl⟩
theorem bstGo_lt {z : List Int} : ∀ k, bstGo z k < k ∨ bstGo z k = 0
  | 0 => .inr rfl
  | k + 1 => by
    rw [bstGo]
    split
    · exact .inl (by omega)
    · rcases bstGo_lt (z := z) k with h | h
      · exact .inl (by omega)
      · exact .inr h
theorem bstGo_ok {z : List Int} : ∀ k i, i < k → z.getD i 0 ≤ z.getD (bstGo z k) 0 ∧ (z.getD i 0 = z.getD (bstGo z k) 0 → bstGo z k ≤ i)
  | 0, i, h => by omega
  | k + 1, i, h => by
    rw [bstGo]
    by_cases h1 : z.getD k 0 > z.getD (bstGo z k) 0
    · rw [if_pos h1]
      by_cases e : i = k
      · subst e; exact ⟨Int.le_refl _, fun _ => Nat.le_refl _⟩
      · obtain ⟨a, b⟩ := bstGo_ok (z := z) k i (by omega)
        exact ⟨by omega, fun h3 => by omega⟩
    · rw [if_neg h1]
      by_cases e : i = k
      · subst e
        refine ⟨by omega, fun _ => ?_⟩
        rcases bstGo_lt (z := z) i with h2 | h2 <;> omega
      · exact bstGo_ok (z := z) k i (by omega)
theorem bst_in {z : List Int} (h : z ≠ []) : bstGo z z.length < z.length := by
  have h0 : 0 < z.length := List.length_pos_iff.2 h
  rcases bstGo_lt (z := z) z.length with h2 | h2 <;> omega
/-- The greatest number. -/
def topZ (z : List Int) : Int := z.getD (bstGo z z.length) 0
theorem topZ_mem {z : List Int} (h : z ≠ []) : topZ z ∈ z := by
  have h2 := bst_in h
  unfold topZ
  rw [List.getD_eq_getElem?_getD, List.getElem?_eq_getElem h2, Option.getD_some]
  exact List.getElem_mem h2
theorem topZ_ge {z : List Int} {x : Int} (hx : x ∈ z) : x ≤ topZ z := by
  obtain ⟨i, hi, rfl⟩ := List.mem_iff_getElem.1 hx
  have h := (bstGo_ok (z := z) z.length i hi).1
  rw [List.getD_eq_getElem?_getD, List.getElem?_eq_getElem hi, Option.getD_some] at h
  exact h
/-- The opposite of a number less the greatest one may not be. -/
def farZ (z : List Int) : Bool := decide (∃ x ∈ z, x - topZ z < -9223372036854775807)
def sofE (frac : Int) (z : List Int) : Int := if bstE z ≠ 0 then bstE z else if frac < 0 ∨ 30 < frac then 1 else if farZ z = true then 2 else 0
def powL (frac : Int) (z : List Int) : List Nat := z.map fun x => expN (topZ z - x).toNat frac.toNat
def sofL (frac : Int) (z : List Int) : List Int := (powL frac z).map fun p => (shN (2 ^ frac.toNat) (powL frac z).sum p : Int)
def sofV (frac : Int) (z : List Int) : List Int := if sofE frac z = 0 then sofL frac z else []
theorem sofE_ok {frac : Int} {z : List Int} : sofE frac z = 0 ↔ (z ≠ [] ∧ z.length ≤ 4096) ∧ 0 ≤ frac ∧ frac ≤ 30 ∧ ∀ x ∈ z, -9223372036854775807 ≤ x - topZ z := by
  unfold sofE farZ
  rw [← bstE_ok]
  by_cases h1 : bstE z = 0
  · rw [if_neg (by simp [h1])]
    by_cases h2 : frac < 0 ∨ 30 < frac
    · rw [if_pos h2]
      exact ⟨fun h => absurd h (by decide), fun h => by omega⟩
    · rw [if_neg h2]
      by_cases h3 : ∃ x ∈ z, x - topZ z < -9223372036854775807
      · rw [if_pos (by simpa using h3)]
        obtain ⟨x, hx, h4⟩ := h3
        exact ⟨fun h => absurd h (by decide), fun h => by have := h.2.2.2 x hx; omega⟩
      · rw [if_neg (by simpa using h3)]
        exact ⟨fun _ => ⟨h1, by omega, by omega, fun x hx => by
          rcases Int.lt_or_le (x - topZ z) (-9223372036854775807) with h5 | h5
          · exact absurd ⟨x, hx, h5⟩ h3
          · exact h5⟩, fun _ => rfl⟩
  · rw [if_pos h1]
    exact ⟨fun h => absurd h h1, fun h => absurd h.1 h1⟩
theorem powL_len (frac : Int) (z : List Int) : (powL frac z).length = z.length := by unfold powL; simp
theorem sofL_len (frac : Int) (z : List Int) : (sofL frac z).length = z.length := by unfold sofL; rw [List.length_map, powL_len]
theorem powL_le {frac : Int} {z : List Int} (hf : frac ≤ 30) : ∀ p ∈ powL frac z, p ≤ 2 ^ frac.toNat := fun p hp => by
  unfold powL at hp
  obtain ⟨x, _, rfl⟩ := List.mem_map.1 hp
  exact expN_le (by omega)
theorem powL_at {frac : Int} {z : List Int} {i : Nat} (hi : i < z.length) : (powL frac z).getD i 0 = expN (topZ z - z.getD i 0).toNat frac.toNat := by
  unfold powL
  rw [List.getD_eq_getElem?_getD, List.getElem?_map, List.getD_eq_getElem?_getD, List.getElem?_eq_getElem hi]
  rfl
theorem sofL_at {frac : Int} {z : List Int} {i : Nat} (hi : i < z.length) : (sofL frac z).getD i 0 = (shN (2 ^ frac.toNat) (powL frac z).sum (expN (topZ z - z.getD i 0).toNat frac.toNat) : Int) := by
  have h := powL_at (frac := frac) hi
  have h2 : i < (powL frac z).length := by rw [powL_len]; exact hi
  unfold sofL
  rw [← h, List.getD_eq_getElem?_getD, List.getElem?_map, List.getD_eq_getElem?_getD, List.getElem?_eq_getElem h2]
  rfl
theorem pow_top {frac : Int} {z : List Int} (hz : z ≠ []) (hf : frac ≤ 30) : 2 ^ frac.toNat ∈ powL frac z := by
  unfold powL
  refine List.mem_map.2 ⟨topZ z, topZ_mem hz, ?_⟩
  rw [Int.sub_self]
  exact expN_zero (by omega)
theorem sum_mem {p : Nat} : ∀ {l : List Nat}, p ∈ l → p ≤ l.sum
  | x :: l, h => by
    rw [List.sum_cons]
    rcases List.mem_cons.1 h with rfl | h
    · omega
    · have := sum_mem h; omega
theorem pow_sum {frac : Int} {z : List Int} (hz : z ≠ []) (hf : frac ≤ 30) : 0 < (powL frac z).sum := Nat.lt_of_lt_of_le (Nat.two_pow_pos _) (sum_mem (pow_top hz hf))
theorem sum_up {b : Nat} : ∀ {l : List Nat}, (∀ p ∈ l, p ≤ b) → l.sum ≤ l.length * b
  | [], _ => by simp
  | x :: t, h => by
    rw [List.sum_cons, List.length_cons, Nat.add_mul, Nat.one_mul]
    have a := h x (by simp)
    have b := sum_up (l := t) fun p hp => h p (by simp [hp])
    omega
/-- All shares together. -/
theorem sof_whole {frac : Int} {z : List Int} (h : sofE frac z = 0) :
    (sofL frac z).sum ≤ 2 ^ frac.toNat ∧ 2 ^ frac.toNat - (sofL frac z).sum < (z.length : Int) ∧ (∀ s ∈ sofL frac z, 0 ≤ s ∧ s ≤ 2 ^ frac.toNat) ∧
    (∀ i, i < z.length → (sofL frac z).getD i 0 ≤ (sofL frac z).getD (bstGo z z.length) 0) ∧
    (∀ i k, i < z.length → k < z.length → z.getD k 0 ≤ z.getD i 0 → (sofL frac z).getD k 0 ≤ (sofL frac z).getD i 0) ∧
    ((2 ^ frac.toNat / z.length : Nat) : Int) ≤ (sofL frac z).getD (bstGo z z.length) 0 := by
  obtain ⟨⟨hz, hl⟩, f0, f1, hd⟩ := sofE_ok.1 h
  have hs := pow_sum hz f1
  obtain ⟨a, b⟩ := sh_whole (one := 2 ^ frac.toNat) hs
  have hsum : (sofL frac z).sum = (((powL frac z).map (shN (2 ^ frac.toNat) (powL frac z).sum)).sum : Nat) := by
    unfold sofL
    generalize (powL frac z).sum = S
    generalize powL frac z = l
    induction l with
    | nil => rfl
    | cons x t ih => rw [List.map_cons, List.sum_cons, List.map_cons, List.sum_cons, ih]; omega
  rw [powL_len] at b
  have hin := bst_in hz
  have hone : ((2 ^ frac.toNat : Nat) : Int) = 2 ^ frac.toNat := by simp
  have hup : ∀ i k, i < z.length → k < z.length → z.getD k 0 ≤ z.getD i 0 → (sofL frac z).getD k 0 ≤ (sofL frac z).getD i 0 := by
    intro i k hi hk hik
    rw [sofL_at hi, sofL_at hk]
    exact Int.ofNat_le.2 (sh_more (expN_down (by omega)))
  refine ⟨by rw [hsum]; omega, by rw [hsum]; omega, ?_, fun i hi => hup _ i hin hi ((bstGo_ok (z := z) z.length i hi).1), hup, ?_⟩
  · intro s hs2
    unfold sofL at hs2
    obtain ⟨p, hp, rfl⟩ := List.mem_map.1 hs2
    refine ⟨by omega, ?_⟩
    have h1 : shN (2 ^ frac.toNat) (powL frac z).sum p ≤ ((powL frac z).map (shN (2 ^ frac.toNat) (powL frac z).sum)).sum := sum_mem (List.mem_map.2 ⟨p, hp, rfl⟩)
    omega
  · rw [sofL_at hin, show topZ z - z.getD (bstGo z z.length) 0 = 0 from Int.sub_self _, show (0 : Int).toNat = 0 from rfl, expN_zero (by omega)]
    have := sh_best (one := 2 ^ frac.toNat) (Nat.two_pow_pos _) (powL_le (z := z) f1) hs
    rw [powL_len] at this
    exact Int.ofNat_le.2 this
/-- All numbers greater by the same. -/
theorem bst_shift {z : List Int} {c : Int} : ∀ k, k ≤ z.length → z ≠ [] → bstGo (z.map (· + c)) k = bstGo z k
  | 0, _, _ => rfl
  | k + 1, h, hz => by
    have h0 : 0 < z.length := List.length_pos_iff.2 hz
    have ih := bst_shift (c := c) k (by omega) hz
    have hb : bstGo z k < z.length := by rcases bstGo_lt (z := z) k with h2 | h2 <;> omega
    have hg : ∀ i, i < z.length → (z.map (· + c)).getD i 0 = z.getD i 0 + c := fun i hi => by
      rw [List.getD_eq_getElem?_getD, List.getElem?_map, List.getD_eq_getElem?_getD, List.getElem?_eq_getElem hi]; rfl
    rw [bstGo, bstGo, ih, hg k (by omega), hg _ hb]
    by_cases h3 : z.getD k 0 > z.getD (bstGo z k) 0
    · rw [if_pos h3, if_pos (by omega)]
    · rw [if_neg h3, if_neg (by omega)]
theorem top_shift {z : List Int} {c : Int} (hz : z ≠ []) : topZ (z.map (· + c)) = topZ z + c := by
  have hb := bst_in hz
  unfold topZ
  rw [List.length_map, bst_shift _ (Nat.le_refl _) hz, List.getD_eq_getElem?_getD, List.getElem?_map, List.getD_eq_getElem?_getD, List.getElem?_eq_getElem hb]
  rfl
theorem sof_shift (frac c : Int) (z : List Int) : bstE (z.map (· + c)) = bstE z ∧ bstN (z.map (· + c)) = bstN z ∧ sofE frac (z.map (· + c)) = sofE frac z ∧ sofV frac (z.map (· + c)) = sofV frac z := by
  by_cases hz : z = []
  · subst hz; exact ⟨rfl, rfl, rfl, rfl⟩
  · have e1 : bstE (z.map (· + c)) = bstE z := by
      unfold bstE
      rw [List.length_map, if_neg hz, if_neg (by simpa using hz)]
    have e2 : farZ (z.map (· + c)) = farZ z := by
      unfold farZ
      rw [top_shift hz]
      refine decide_eq_decide.2 ?_
      constructor
      · rintro ⟨x, hx, h⟩
        obtain ⟨y, hy, rfl⟩ := List.mem_map.1 hx
        exact ⟨y, hy, by omega⟩
      · rintro ⟨x, hx, h⟩
        exact ⟨x + c, List.mem_map.2 ⟨x, hx, rfl⟩, by omega⟩
    have e3 : sofE frac (z.map (· + c)) = sofE frac z := by unfold sofE; rw [e1, e2]
    have e4 : powL frac (z.map (· + c)) = powL frac z := by
      unfold powL
      rw [top_shift hz, List.map_map]
      refine List.map_congr_left fun x _ => ?_
      show expN (topZ z + c - (x + c)).toNat _ = _
      rw [show topZ z + c - (x + c) = topZ z - x by omega]
    refine ⟨e1, ?_, e3, ?_⟩
    · unfold bstN; rw [e1, List.length_map, bst_shift _ (Nat.le_refl _) hz]
    · unfold sofV sofL; rw [e3, e4]
/-- All the same numbers. -/
theorem sof_same {frac n : Int} {m : Nat} (f0 : 0 ≤ frac) (f1 : frac ≤ 30) (h1 : 1 ≤ m) (h2 : m ≤ 4096) :
    sofE frac (List.replicate m n) = 0 ∧ sofV frac (List.replicate m n) = List.replicate m ((2 ^ frac.toNat / m : Nat) : Int) := by
  have hz : List.replicate m n ≠ [] := fun e => by have := congrArg List.length e; simp at this; omega
  have ht : topZ (List.replicate m n) = n := by have := topZ_mem hz; exact List.eq_of_mem_replicate this
  have hE : sofE frac (List.replicate m n) = 0 := sofE_ok.2 ⟨⟨hz, by simpa using h2⟩, f0, f1, fun x hx => by rw [ht, List.eq_of_mem_replicate hx]; omega⟩
  refine ⟨hE, ?_⟩
  have hp : powL frac (List.replicate m n) = List.replicate m (2 ^ frac.toNat) := by
    unfold powL
    rw [ht, List.map_replicate, Int.sub_self]
    congr 1
    exact expN_zero (by omega)
  unfold sofV
  rw [if_pos hE]
  unfold sofL
  rw [hp, List.map_replicate]
  congr 2
  have hs : ∀ m, (List.replicate m (2 ^ frac.toNat)).sum = m * 2 ^ frac.toNat := fun m => by
    induction m with
    | zero => simp
    | succ k ih => rw [List.replicate_succ, List.sum_cons, ih, Nat.add_mul]; omega
  rw [hs]
  unfold shN
  exact Nat.mul_div_mul_right _ _ (Nat.two_pow_pos _)
/-- One that is much less. -/
theorem sof_far {frac n : Int} (f0 : 0 ≤ frac) (f1 : frac ≤ 30) :
    sofE frac [n, n - 64 * 2 ^ frac.toNat] = 0 ∧ sofV frac [n, n - 64 * 2 ^ frac.toNat] = [2 ^ frac.toNat, 0] := by
  have hpn := Nat.two_pow_pos frac.toNat
  have hpl : 2 ^ frac.toNat ≤ 2 ^ 30 := Nat.pow_le_pow_right (by decide) (by omega)
  have hone : ((2 ^ frac.toNat : Nat) : Int) = 2 ^ frac.toNat := by simp
  have ht : topZ [n, n - 64 * 2 ^ frac.toNat] = n := by
    unfold topZ
    show List.getD _ (bstGo _ 2) 0 = n
    have e : bstGo [n, n - 64 * 2 ^ frac.toNat] 2 = 0 := by
      have b1 : bstGo [n, n - 64 * 2 ^ frac.toNat] 1 = 0 := by rw [bstGo]; split <;> rfl
      rw [bstGo, b1]
      refine if_neg ?_
      show ¬ (n - 64 * 2 ^ frac.toNat > n)
      omega
    rw [e]; rfl
  have hE : sofE frac [n, n - 64 * 2 ^ frac.toNat] = 0 := sofE_ok.2 ⟨⟨by simp, by simp⟩, f0, f1, fun x hx => by
    rw [ht]
    simp at hx
    rcases hx with rfl | rfl <;> omega⟩
  refine ⟨hE, ?_⟩
  have hp : powL frac [n, n - 64 * 2 ^ frac.toNat] = [2 ^ frac.toNat, 0] := by
    unfold powL
    rw [ht, List.map_cons, List.map_cons, List.map_nil, Int.sub_self, show (0 : Int).toNat = 0 from rfl, expN_zero (by omega), expN_far (by omega)]
  unfold sofV
  rw [if_pos hE]
  unfold sofL
  rw [hp]
  simp only [List.map_cons, List.map_nil, List.sum_cons, List.sum_nil, Nat.add_zero, shN, Nat.zero_mul, Nat.zero_div]
  rw [Nat.mul_div_cancel _ hpn]
  simp
end Go.Proofs.Ytnokomlekndgfaa
