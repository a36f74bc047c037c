
/- Bits set one by one, wherever they go: plain mathematics. -/
import Derived.Test.YtgkkliibeiklbaaPlF
namespace Go.Proofs.Ytgkkliibeiklbaa
open Go.RowKit
set_option linter.unusedVariables false
theorem byF_congr {n : Nat} {f g : Nat → Bool} (h : ∀ k, k < n → f k = g k) (i : Nat) : byF n f i = byF n g i := by
  have e : ∀ p w, bv n f p w = bv n g p w := fun p w => by
    unfold bv
    by_cases hp : p < n
    · rw [h p hp]
    · rw [if_neg (by omega), if_neg (by omega)]
  unfold byF
  simp only [e]
theorem byF_same {n a i : Nat} {f g : Nat → Bool} (h : ∀ p, p < n → p ≠ a → g p = f p) (hi : i ≠ a / 8) : byF n g i = byF n f i := by
  have e : ∀ p w, p / 8 = i → bv n g p w = bv n f p w := fun p w hp => by
    unfold bv
    by_cases hn : p < n
    · rw [h p hn (by omega)]
    · rw [if_neg (by omega), if_neg (by omega)]
  unfold byF
  rw [e _ _ (by omega), e _ _ (by omega), e _ _ (by omega), e _ _ (by omega), e _ _ (by omega), e _ _ (by omega), e _ _ (by omega), e _ _ (by omega)]
theorem or8 : ∀ (r : Fin 8) (a b c d e f g h : Bool), [a, b, c, d, e, f, g, h].getD r.val false = false →
    bits BinOp.or IntKind.u8 (sum8 a b c d e f g h) (2 ^ (7 - r.val)) = sum8 (a || r.val == 0) (b || r.val == 1) (c || r.val == 2) (d || r.val == 3) (e || r.val == 4) (f || r.val == 5) (g || r.val == 6) (h || r.val == 7) := by decide +kernel
theorem byF_set {n a : Nat} {f g : Nat → Bool} (ha : a < n) (h0 : f a = false) (h1 : g a = true) (h : ∀ p, p < n → p ≠ a → g p = f p) :
    bits BinOp.or IntKind.u8 (byF n f (a / 8)) (2 ^ (7 - a % 8)) = byF n g (a / 8) := by
  have e : ∀ t, t < 8 → (decide (8 * (a / 8) + t < n) && g (8 * (a / 8) + t)) = ((decide (8 * (a / 8) + t < n) && f (8 * (a / 8) + t)) || a % 8 == t) := fun t ht => by
    by_cases he : a % 8 = t
    · rw [show 8 * (a / 8) + t = a by omega, h1]
      simp [ha, he]
    · by_cases hn : 8 * (a / 8) + t < n
      · rw [h _ hn (by omega)]
        simp [he]
      · simp [he, hn]
  have e0 := e 0 (by omega)
  rw [Nat.add_zero] at e0
  rw [byF_sum, byF_sum, e0, e 1 (by omega), e 2 (by omega), e 3 (by omega), e 4 (by omega), e 5 (by omega), e 6 (by omega), e 7 (by omega)]
  refine or8 ⟨a % 8, by omega⟩ _ _ _ _ _ _ _ _ ?_
  have ea : ∀ t, a % 8 = t → (decide (8 * (a / 8) + t < n) && f (8 * (a / 8) + t)) = false := fun t ht => by
    rw [show 8 * (a / 8) + t = a by omega, h0, Bool.and_false]
  have h8 : a % 8 < 8 := by omega
  show List.getD _ (a % 8) false = false
  obtain ⟨r, hr⟩ : ∃ r, a % 8 = r := ⟨_, rfl⟩
  rw [hr] at h8 ea ⊢
  match r, h8 with
  | 0, _ => exact ea 0 rfl
  | 1, _ => exact ea 1 rfl
  | 2, _ => exact ea 2 rfl
  | 3, _ => exact ea 3 rfl
  | 4, _ => exact ea 4 rfl
  | 5, _ => exact ea 5 rfl
  | 6, _ => exact ea 6 rfl
  | 7, _ => exact ea 7 rfl
/-- Where each bit of each number goes, and back. -/
def Places (k m : Nat) (pl : Nat → Nat → Nat) (nu bi : Nat → Nat) : Prop :=
  (∀ i j, i < m → j < k → nu (pl i j) = i ∧ bi (pl i j) = j ∧ pl i j < k * m) ∧ ∀ p, p < k * m → nu p < m ∧ bi p < k ∧ pl (nu p) (bi p) = p
theorem places_side (k m : Nat) : Places k m (fun i j => i * k + j) (fun p => p / k) (fun p => p % k) := by
  constructor
  · intro i j hi hj
    refine ⟨?_, ?_, place_lt hi hj⟩
    · show (i * k + j) / k = i
      rw [Nat.mul_comm, Nat.mul_add_div (by omega), Nat.div_eq_of_lt hj, Nat.add_zero]
    · show (i * k + j) % k = j
      rw [Nat.mul_comm, Nat.mul_add_mod, Nat.mod_eq_of_lt hj]
  · intro p hp
    have hk : 0 < k := Nat.pos_of_ne_zero (by rintro rfl; simp at hp)
    refine ⟨Nat.div_lt_of_lt_mul hp, Nat.mod_lt p hk, ?_⟩
    show p / k * k + p % k = p
    rw [Nat.mul_comm]; exact Nat.div_add_mod p k
theorem places_plane (k m : Nat) : Places k m (fun i j => j * m + i) (fun p => p % m) (fun p => p / m) := by
  constructor
  · intro i j hi hj
    refine ⟨?_, ?_, ?_⟩
    · show (j * m + i) % m = i
      rw [Nat.mul_comm, Nat.mul_add_mod, Nat.mod_eq_of_lt hi]
    · show (j * m + i) / m = j
      rw [Nat.mul_comm, Nat.mul_add_div (by omega), Nat.div_eq_of_lt hi, Nat.add_zero]
    · have := place_lt (w := m) (m := k) hj hi
      rw [Nat.mul_comm k m]; exact this
  · intro p hp
    have hm : 0 < m := Nat.pos_of_ne_zero (by rintro rfl; simp at hp)
    refine ⟨Nat.mod_lt p hm, Nat.div_lt_of_lt_mul (by rw [Nat.mul_comm]; exact hp), ?_⟩
    show p / m * m + p % m = p
    rw [Nat.mul_comm]; exact Nat.div_add_mod p m
/-- The bits that are set when all numbers ahead of i, and of i the bits ahead of j, are written. -/
def GB (f : Nat → Bool) (nu bi : Nat → Nat) (i j : Nat) : Nat → Bool := fun p => f p && decide (nu p < i ∨ nu p = i ∧ bi p < j)
section
variable {k m : Nat} {pl : Nat → Nat → Nat} {nu bi : Nat → Nat} {f : Nat → Bool}
theorem GB_zero (n x : Nat) : byF n (GB f nu bi 0 0) x = 0 := by
  rw [byF_congr (g := fun _ => false) (fun p _ => by unfold GB; simp)]
  unfold byF bv
  simp
theorem GB_next (h : Places k m pl nu bi) {i : Nat} (hi : i < m) (x : Nat) : byF (k * m) (GB f nu bi i k) x = byF (k * m) (GB f nu bi (i + 1) 0) x := byF_congr (fun p hp => by
  obtain ⟨h1, h2, h3⟩ := h.2 p hp
  unfold GB
  congr 1
  rw [decide_eq_decide]
  omega) x
theorem GB_end (h : Places k m pl nu bi) (x : Nat) : byF (k * m) (GB f nu bi m 0) x = byF (k * m) f x := byF_congr (fun p hp => by
  obtain ⟨h1, h2, h3⟩ := h.2 p hp
  unfold GB
  rw [decide_eq_true (Or.inl h1), Bool.and_true]) x
theorem GB_else (h : Places k m pl nu bi) {i j p : Nat} (hp : p < k * m) (he : p ≠ pl i j) : GB f nu bi i (j + 1) p = GB f nu bi i j p := by
  obtain ⟨h1, h2, h3⟩ := h.2 p hp
  unfold GB
  congr 1
  rw [decide_eq_decide]
  have : ¬ (nu p = i ∧ bi p = j) := by
    rintro ⟨rfl, rfl⟩
    exact he h3.symm
  omega
theorem GB_off (h : Places k m pl nu bi) {i j : Nat} (hf : f (pl i j) = false) (x : Nat) : byF (k * m) (GB f nu bi i (j + 1)) x = byF (k * m) (GB f nu bi i j) x := byF_congr (fun p hp => by
  by_cases he : p = pl i j
  · rw [he]; unfold GB; rw [hf]; rfl
  · exact GB_else h hp he) x
theorem GB_other (h : Places k m pl nu bi) {i j x : Nat} (hx : x ≠ pl i j / 8) : byF (k * m) (GB f nu bi i (j + 1)) x = byF (k * m) (GB f nu bi i j) x := byF_same (fun p hp he => GB_else h hp he) hx
theorem GB_on (h : Places k m pl nu bi) {i j : Nat} (hi : i < m) (hj : j < k) (hf : f (pl i j) = true) :
    bits BinOp.or IntKind.u8 (byF (k * m) (GB f nu bi i j) (pl i j / 8)) (2 ^ (7 - pl i j % 8)) = byF (k * m) (GB f nu bi i (j + 1)) (pl i j / 8) := by
  obtain ⟨h1, h2, h3⟩ := h.1 i j hi hj
  refine byF_set h3 ?_ ?_ (fun p hp he => GB_else h hp he)
  · unfold GB; rw [h1, h2]; simp
  · unfold GB; rw [h1, h2, hf]; simp
end
theorem or_none {x : Int} (h0 : 0 ≤ x) (h1 : x ≤ 255) : bits BinOp.or IntKind.u8 x 0 = x := by
  obtain ⟨n, rfl⟩ := Int.eq_ofNat_of_zero_le h0
  show IntKind.u8.wrap ((BitVec.ofInt 8 n ||| BitVec.ofInt 8 ((0 : Nat) : Int)).toNat : Int) = _
  rw [BitVec.toNat_or, BitVec.ofInt_natCast, BitVec.ofInt_natCast, BitVec.toNat_ofNat, BitVec.toNat_ofNat, Nat.mod_eq_of_lt (by omega), show 0 % 2 ^ 8 = 0 from rfl, Nat.or_zero]
  simp [IntKind.wrap, IntKind.bits, IntKind.signed]
  omega
/-- A bit as a number. -/
def b2 (v : Bool) : Int := if v then 1 else 0
theorem and_u8 {x : Int} (h0 : 0 ≤ x) (h1 : x ≤ 255) (s : Nat) : bits BinOp.and IntKind.u8 (x / 2 ^ s) 1 = b2 (bt x s) := by
  obtain ⟨n, hn⟩ := Int.eq_ofNat_of_zero_le (Int.ediv_nonneg h0 (show (0 : Int) ≤ 2 ^ s from Int.pow_nonneg (by decide)))
  have hle : x / 2 ^ s ≤ x := Int.ediv_le_self _ h0
  unfold bt b2
  rw [hn] at hle ⊢
  show IntKind.u8.wrap ((BitVec.ofInt 8 n &&& BitVec.ofInt 8 ((1 : Nat) : Int)).toNat : Int) = _
  rw [BitVec.toNat_and, BitVec.ofInt_natCast, BitVec.ofInt_natCast, BitVec.toNat_ofNat, BitVec.toNat_ofNat, Nat.mod_eq_of_lt (by omega), show 1 % 2 ^ 8 = 1 from rfl, Nat.and_one_is_mod]
  by_cases h : n % 2 = 1
  · rw [h, if_pos (by simp; omega)]; rfl
  · rw [show n % 2 = 0 by omega, if_neg (by simp; omega)]; rfl
theorem and_u64 {x : Int} (hx : U64 x) (s : Nat) : bits BinOp.and IntKind.u64 (x / 2 ^ s) 1 = b2 (bt x s) := by
  unfold U64 at hx
  have h0 := hx.1
  obtain ⟨n, hn⟩ := Int.eq_ofNat_of_zero_le (Int.ediv_nonneg h0 (show (0 : Int) ≤ 2 ^ s from Int.pow_nonneg (by decide)))
  have hle : x / 2 ^ s ≤ x := Int.ediv_le_self _ h0
  unfold bt b2
  rw [hn] at hle ⊢
  show IntKind.u64.wrap ((BitVec.ofInt 64 n &&& BitVec.ofInt 64 ((1 : Nat) : Int)).toNat : Int) = _
  rw [BitVec.toNat_and, BitVec.ofInt_natCast, BitVec.ofInt_natCast, BitVec.toNat_ofNat, BitVec.toNat_ofNat, Nat.mod_eq_of_lt (by omega), show 1 % 2 ^ 64 = 1 from rfl, Nat.and_one_is_mod]
  by_cases h : n % 2 = 1
  · rw [h, if_pos (by simp; omega)]; rfl
  · rw [show n % 2 = 0 by omega, if_neg (by simp; omega)]; rfl
theorem or_u64 {y : Int} (h0 : 0 ≤ y) (h1 : y ≤ 4294967296) (v : Bool) : bits BinOp.or IntKind.u64 (y * 2) (b2 v) = 2 * y + if v = true then 1 else 0 := by
  obtain ⟨n, rfl⟩ := Int.eq_ofNat_of_zero_le h0
  obtain ⟨t, ht, hv⟩ : ∃ t : Nat, t < 2 ∧ b2 v = t := by cases v; exact ⟨0, by decide, rfl⟩; exact ⟨1, by decide, rfl⟩
  have hv2 : (if v = true then 1 else 0 : Int) = t := hv
  rw [hv, hv2, show ((n : Int) * 2) = ((2 * n : Nat) : Int) by omega]
  show IntKind.u64.wrap ((BitVec.ofInt 64 _ ||| BitVec.ofInt 64 _).toNat : Int) = _
  rw [BitVec.toNat_or, BitVec.ofInt_natCast, BitVec.ofInt_natCast, BitVec.toNat_ofNat, BitVec.toNat_ofNat, Nat.mod_eq_of_lt (by omega), Nat.mod_eq_of_lt (by omega)]
  have e : 2 * n ||| t = 2 * n + t := by
    have := Nat.two_pow_add_eq_or_of_lt (i := 1) (b := t) ht n
    rw [Nat.pow_one] at this
    exact this.symm
  rw [e]
  simp [IntKind.wrap, IntKind.bits, IntKind.signed]
  omega
end Go.Proofs.Ytgkkliibeiklbaa
