
/- Bits in bytes, side by side and in planes: plain mathematics. No program in sight. -/
import Derived.Test.YtgkkliibeiklbaaMath
import Derived.Lib.BitFns
namespace Go.Proofs.Ytgkkliibeiklbaa
set_option linter.unusedVariables false
/-- The first n of the bits that f tells. -/
def mkB (n : Nat) (f : Nat → Bool) : List Bool := (List.range n).map f
theorem mkB_len (n : Nat) (f : Nat → Bool) : (mkB n f).length = n := by unfold mkB; simp
theorem mkB_succ (n : Nat) (f : Nat → Bool) : mkB (n + 1) f = mkB n f ++ [f n] := by unfold mkB; simp [List.range_succ]
theorem mkB_at {n k : Nat} (f : Nat → Bool) (h : k < n) : (mkB n f)[k]? = some (f k) := by unfold mkB; simp [h]
theorem mkB_congr {n : Nat} {f g : Nat → Bool} (h : ∀ k, k < n → f k = g k) : mkB n f = mkB n g := by
  unfold mkB
  exact List.map_congr_left fun k hk => h k (List.mem_range.1 hk)
theorem mkB_take {n k : Nat} (f : Nat → Bool) (h : k ≤ n) : (mkB n f).take k = mkB k f := by
  unfold mkB
  rw [← List.map_take, List.take_range, Nat.min_eq_left h]
/-- What a bit at place p weighs, of the first n. -/
def bv (n : Nat) (f : Nat → Bool) (p : Nat) (w : Int) : Int := if p < n ∧ f p = true then w else 0
/-- A byte of the first n bits. -/
def byF (n : Nat) (f : Nat → Bool) (i : Nat) : Int :=
  bv n f (8 * i) 128 + bv n f (8 * i + 1) 64 + bv n f (8 * i + 2) 32 + bv n f (8 * i + 3) 16 + bv n f (8 * i + 4) 8 + bv n f (8 * i + 5) 4 + bv n f (8 * i + 6) 2 + bv n f (8 * i + 7) 1
def pkL (n : Nat) (f : Nat → Bool) : List Int := (List.range ((n + 7) / 8)).map (byF n f)
theorem pkL_len (n : Nat) (f : Nat → Bool) : (pkL n f).length = (n + 7) / 8 := by unfold pkL; simp
theorem pkL_at {n i : Nat} (f : Nat → Bool) (h : i < (n + 7) / 8) : (pkL n f)[i]? = some (byF n f i) := by unfold pkL; simp [h]
theorem bv_next {n p : Nat} {f : Nat → Bool} {w : Int} (h : p ≠ n) : bv (n + 1) f p w = bv n f p w := by
  unfold bv
  by_cases hp : p < n
  · simp [hp, show p < n + 1 by omega]
  · simp [hp, show ¬ p < n + 1 by omega]
theorem bv_here {n p : Nat} {f : Nat → Bool} {w : Int} (h : p = n) : bv (n + 1) f p w = if f n = true then w else 0 := by
  unfold bv
  subst h
  simp
theorem bv_not {n p : Nat} {f : Nat → Bool} {w : Int} (h : n ≤ p) : bv n f p w = 0 := by
  unfold bv
  rw [if_neg (by omega)]
theorem byF_other {n i : Nat} {f : Nat → Bool} (h : i ≠ n / 8) : byF (n + 1) f i = byF n f i := by
  unfold byF
  rw [bv_next (by omega), bv_next (by omega), bv_next (by omega), bv_next (by omega), bv_next (by omega), bv_next (by omega), bv_next (by omega), bv_next (by omega)]
theorem byF_off {n i : Nat} {f : Nat → Bool} (h : f n = false) : byF (n + 1) f i = byF n f i := by
  have e : ∀ p w, bv (n + 1) f p w = bv n f p w := fun p w => by
    by_cases hp : p = n
    · rw [bv_here hp, bv_not (by omega), h]; rfl
    · exact bv_next hp
  unfold byF
  simp only [e]
theorem byF_on {n : Nat} {f : Nat → Bool} (h : f n = true) : byF (n + 1) f (n / 8) = byF n f (n / 8) + 128 / 2 ^ (n % 8) := by
  have e : ∀ j w, bv (n + 1) f (8 * (n / 8) + j) w = bv n f (8 * (n / 8) + j) w + if j = n % 8 then w else 0 := fun j w => by
    by_cases hj : j = n % 8
    · rw [bv_here (by omega), bv_not (by omega), if_pos h, if_pos hj]; omega
    · rw [bv_next (by omega), if_neg hj]; omega
  have e0 : ∀ w, bv (n + 1) f (8 * (n / 8)) w = bv n f (8 * (n / 8)) w + if 0 = n % 8 then w else 0 := e 0
  unfold byF
  rw [e0, e, e, e, e, e, e, e]
  have h8 : n % 8 < 8 := Nat.mod_lt _ (by decide)
  obtain ⟨r, hr⟩ : ∃ r, n % 8 = r := ⟨_, rfl⟩
  rw [hr] at h8 ⊢
  match r, h8 with
  | 0, _ => simp; omega
  | 1, _ => simp; omega
  | 2, _ => simp; omega
  | 3, _ => simp; omega
  | 4, _ => simp; omega
  | 5, _ => simp; omega
  | 6, _ => simp; omega
  | 7, _ => simp; omega
theorem bv_cases (n : Nat) (f : Nat → Bool) (p : Nat) (w : Int) : bv n f p w = if (decide (p < n) && f p) then w else 0 := by
  unfold bv
  by_cases h : p < n <;> simp [h]
theorem byF_lt (n : Nat) (f : Nat → Bool) (i : Nat) : 0 ≤ byF n f i ∧ byF n f i ≤ 255 := by
  have h : ∀ p w, 0 ≤ w → 0 ≤ bv n f p w ∧ bv n f p w ≤ w := fun p w hw => by unfold bv; split <;> omega
  unfold byF
  have := h (8 * i) 128 (by decide)
  have := h (8 * i + 1) 64 (by decide)
  have := h (8 * i + 2) 32 (by decide)
  have := h (8 * i + 3) 16 (by decide)
  have := h (8 * i + 4) 8 (by decide)
  have := h (8 * i + 5) 4 (by decide)
  have := h (8 * i + 6) 2 (by decide)
  have := h (8 * i + 7) 1 (by decide)
  omega
theorem pkL_bytes (n : Nat) (f : Nat → Bool) : U8s (pkL n f) := by
  intro x hx
  unfold pkL at hx
  obtain ⟨i, _, rfl⟩ := List.mem_map.1 hx
  exact byF_lt n f i
theorem pkL_congr {n : Nat} {f g : Nat → Bool} (h : ∀ k, k < n → f k = g k) : pkL n f = pkL n g := by
  have e : ∀ p w, bv n f p w = bv n g p w := fun p w => by
    unfold bv
    by_cases hp : p < n
    · rw [h p hp]
    · rw [if_neg (by omega), if_neg (by omega)]
  unfold pkL
  refine List.map_congr_left fun i _ => ?_
  unfold byF
  simp only [e]
/-- A bit of a number, of bytes. -/
def bt (n : Int) (k : Nat) : Bool := decide (n / 2 ^ k % 2 = 1)
def fB (b : List Int) (p : Nat) : Bool := bt (b.getD (p / 8) 0) (7 - p % 8)
def sum8 (a b c d e f g h : Bool) : Int := (if a then 128 else 0) + (if b then 64 else 0) + (if c then 32 else 0) + (if d then 16 else 0) + (if e then 8 else 0) + (if f then 4 else 0) + (if g then 2 else 0) + (if h then 1 else 0)
theorem sum8_bits : ∀ a b c d e f g h : Bool, bt (sum8 a b c d e f g h) 7 = a ∧ bt (sum8 a b c d e f g h) 6 = b ∧ bt (sum8 a b c d e f g h) 5 = c ∧ bt (sum8 a b c d e f g h) 4 = d ∧
    bt (sum8 a b c d e f g h) 3 = e ∧ bt (sum8 a b c d e f g h) 2 = f ∧ bt (sum8 a b c d e f g h) 1 = g ∧ bt (sum8 a b c d e f g h) 0 = h := by decide +kernel
theorem sum8_of : ∀ x : Fin 256, sum8 (bt (x.val : Int) 7) (bt (x.val : Int) 6) (bt (x.val : Int) 5) (bt (x.val : Int) 4) (bt (x.val : Int) 3) (bt (x.val : Int) 2) (bt (x.val : Int) 1) (bt (x.val : Int) 0) = (x.val : Int) := by decide +kernel
theorem byF_sum (n : Nat) (f : Nat → Bool) (i : Nat) : byF n f i = sum8 (decide (8 * i < n) && f (8 * i)) (decide (8 * i + 1 < n) && f (8 * i + 1)) (decide (8 * i + 2 < n) && f (8 * i + 2)) (decide (8 * i + 3 < n) && f (8 * i + 3))
    (decide (8 * i + 4 < n) && f (8 * i + 4)) (decide (8 * i + 5 < n) && f (8 * i + 5)) (decide (8 * i + 6 < n) && f (8 * i + 6)) (decide (8 * i + 7 < n) && f (8 * i + 7)) := by
  unfold byF sum8
  simp only [bv_cases]
theorem byF_bit (n : Nat) (f : Nat → Bool) (i j : Nat) (hj : j < 8) : bt (byF n f i) (7 - j) = (decide (8 * i + j < n) && f (8 * i + j)) := by
  rw [byF_sum]
  obtain ⟨h0, h1, h2, h3, h4, h5, h6, h7⟩ := sum8_bits (decide (8 * i < n) && f (8 * i)) (decide (8 * i + 1 < n) && f (8 * i + 1)) (decide (8 * i + 2 < n) && f (8 * i + 2)) (decide (8 * i + 3 < n) && f (8 * i + 3))
    (decide (8 * i + 4 < n) && f (8 * i + 4)) (decide (8 * i + 5 < n) && f (8 * i + 5)) (decide (8 * i + 6 < n) && f (8 * i + 6)) (decide (8 * i + 7 < n) && f (8 * i + 7))
  match j, hj with
  | 0, _ => exact h0
  | 1, _ => exact h1
  | 2, _ => exact h2
  | 3, _ => exact h3
  | 4, _ => exact h4
  | 5, _ => exact h5
  | 6, _ => exact h6
  | 7, _ => exact h7
/-- What was packed, bit by bit. -/
theorem fB_pkL {n p : Nat} (f : Nat → Bool) (h : p / 8 < (n + 7) / 8) : fB (pkL n f) p = (decide (p < n) && f p) := by
  unfold fB
  rw [List.getD_eq_getElem?_getD, pkL_at f h, Option.getD_some, byF_bit n f (p / 8) (p % 8) (Nat.mod_lt _ (by decide)), show 8 * (p / 8) + p % 8 = p by omega]
/-- Bytes, packed from their own bits. -/
theorem pkL_fB {n : Nat} {b : List Int} (ub : U8s b) (hl : b.length = (n + 7) / 8) (ht : ∀ p, n ≤ p → p < 8 * b.length → fB b p = false) : pkL n (fB b) = b := by
  apply List.ext_getElem?
  intro i
  by_cases hi : i < b.length
  · rw [pkL_at _ (by omega), List.getElem?_eq_getElem hi]
    congr 1
    rw [byF_sum]
    have hb := ub _ (List.getElem_mem hi)
    have e : ∀ j, j < 8 → (decide (8 * i + j < n) && fB b (8 * i + j)) = bt b[i] (7 - j) := fun j hj => by
      have h1 : fB b (8 * i + j) = bt b[i] (7 - j) := by
        unfold fB
        rw [show (8 * i + j) / 8 = i by omega, show (8 * i + j) % 8 = j by omega, List.getD_eq_getElem?_getD, List.getElem?_eq_getElem hi, Option.getD_some]
      by_cases hn : 8 * i + j < n
      · simp [hn, h1]
      · rw [← h1, ht (8 * i + j) (by omega) (by omega)]; simp
    have e0 := e 0 (by omega)
    rw [Nat.add_zero] at e0
    rw [e0, e 1 (by omega), e 2 (by omega), e 3 (by omega), e 4 (by omega), e 5 (by omega), e 6 (by omega), e 7 (by omega)]
    have h := sum8_of ⟨b[i].toNat, by omega⟩
    rw [show (((⟨b[i].toNat, by omega⟩ : Fin 256).val : Nat) : Int) = b[i] by simp; omega] at h
    exact h
  · rw [List.getElem?_eq_none (by rw [pkL_len]; omega), List.getElem?_eq_none (by omega)]
/-- A number of w bits, the highest first. -/
def nmF : Nat → (Nat → Bool) → Int
  | 0, _ => 0
  | w + 1, g => 2 * nmF w g + if g w then 1 else 0
theorem nmF_congr : ∀ {w : Nat} {f g : Nat → Bool}, (∀ k, k < w → f k = g k) → nmF w f = nmF w g
  | 0, _, _, _ => by rfl
  | w + 1, f, g, h => by rw [nmF, nmF, nmF_congr (fun k hk => h k (by omega)), h w (by omega)]
theorem nmF_lt : ∀ (w : Nat) (g : Nat → Bool), 0 ≤ nmF w g ∧ nmF w g < 2 ^ w
  | 0, _ => by simp [nmF]
  | w + 1, g => by
    have h := nmF_lt w g
    rw [nmF, Int.pow_succ]
    split <;> omega
theorem nmF_half (w : Nat) (g : Nat → Bool) : nmF (w + 1) g / 2 = nmF w g := by
  rw [nmF]
  split <;> omega
theorem nmF_up : ∀ (m w : Nat) (g : Nat → Bool), nmF (w + m) g / 2 ^ m = nmF w g
  | 0, w, g => by simp
  | m + 1, w, g => by
    rw [show w + (m + 1) = (w + m) + 1 by omega, Int.pow_succ, Int.mul_comm, ← Int.ediv_ediv_of_nonneg (by decide), nmF_half, nmF_up m]
theorem nmF_bit {w k : Nat} (g : Nat → Bool) (h : k < w) : bt (nmF w g) (w - 1 - k) = g k := by
  unfold bt
  have e : w = (k + 1) + (w - 1 - k) := by omega
  have h1 := nmF_up (w - 1 - k) (k + 1) g
  rw [← e] at h1
  rw [h1, nmF]
  cases g k <;> simp <;> omega
theorem nmF_of {n : Int} {w : Nat} (h0 : 0 ≤ n) (h1 : n < 2 ^ w) : nmF w (fun k => bt n (w - 1 - k)) = n := by
  have key : ∀ j, j ≤ w → nmF j (fun k => bt n (w - 1 - k)) = n / 2 ^ (w - j) := by
    intro j
    induction j with
    | zero =>
      intro _
      rw [nmF, Nat.sub_zero, Int.ediv_eq_zero_of_lt h0 h1]
    | succ j ih =>
      intro hj
      rw [nmF, ih (by omega)]
      have e : w - j = (w - (j + 1)) + 1 := by omega
      have h2 : n / 2 ^ (w - j) = n / 2 ^ (w - (j + 1)) / 2 := by
        rw [e, Int.pow_succ, Int.ediv_ediv_of_nonneg (Int.pow_nonneg (by decide))]
      rw [h2]
      unfold bt
      rw [show w - 1 - j = w - (j + 1) by omega]
      by_cases hb : n / 2 ^ (w - (j + 1)) % 2 = 1
      · simp only [hb, decide_true, if_true]; omega
      · simp only [hb, decide_false, Bool.false_eq_true, if_false]; omega
  have := key w (Nat.le_refl _)
  rw [Nat.sub_self] at this
  simpa using this
/-- A number's width. -/
def wdt (n : Int) : Nat := Lib.bitLen n.toNat
theorem bitLen_lt (k : Nat) : ∀ x : Nat, k ≤ 64 → x < 2 ^ 64 → (Lib.bitLen x ≤ k ↔ x < 2 ^ k) := by
  induction k with
  | zero =>
    intro x _ hx
    constructor
    · intro h
      by_cases h0 : x = 0
      · simp [h0]
      · rw [Lib.bitLen_half x h0 hx] at h; omega
    · intro h
      exact Lib.bitLen_le x 0 (by omega) h
  | succ k ih =>
    intro x hk hx
    by_cases h0 : x = 0
    · subst h0
      exact ⟨fun _ => Nat.pow_pos (by decide), fun h => Lib.bitLen_le 0 _ (by omega) h⟩
    · rw [Lib.bitLen_half x h0 hx]
      have := ih (x / 2) (by omega) (by omega)
      rw [Nat.pow_succ]
      omega
theorem wdt_le {n : Int} (hn : U64 n) {w : Nat} (hw : w ≤ 64) : wdt n ≤ w ↔ n < 2 ^ w := by
  unfold U64 at hn
  unfold wdt
  rw [bitLen_lt w n.toNat hw (by omega)]
  have : ((2 ^ w : Nat) : Int) = (2 : Int) ^ w := by norm_cast
  omega
end Go.Proofs.Ytgkkliibeiklbaa
