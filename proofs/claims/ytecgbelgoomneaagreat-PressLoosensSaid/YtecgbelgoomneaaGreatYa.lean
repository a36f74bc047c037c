
/- Ya: texts joined: Math TkM LebM LebN IxM TkN Mem Wd Byte Same App Eq IxA TkA LebA LebB LebC LebD IxB Rws IxC TkB CrcM IxN PlM PlN FrM IxE PlA PlB PlC PlD PlE PlF FrA Step. -/
import Derived.WalkKit
import Derived.OpenShut
import Derived.Lib.BitFns
import Derived.Test.YtecgbelgoomneaaGreatProg
import Derived.Handy
import Derived.Deep.OwnRows
import Derived.Deep.Draws
import Derived.Laws.OwnMore
import Derived.Deep.QuietTactic
import Derived.BigQuiet
import Derived.Laws.Slices
import Derived.Laws.BytesArg
import Derived.WideShapes
import Derived.WalkSpells
import Derived.OwnWalk
import Derived.Outline
import Derived.Maps.AppendAt
import Derived.RegionTactic
import Derived.ChangeAlike
import Derived.Test.YtecgbelgoomneaaGreatShelf
import Derived.WalkLawsBesides
import Derived.Laws.Bits64b
import Derived.Deep.RegionHeld3
import Derived.Deep.RegionLaw
/-
  Plain facts on whole numbers of 64 bits, checked sums and wraps. No program in sight.
-/
namespace Go.Proofs.YtecgbelgoomneaaGreat
open Go.RowKit

/-- Kept from the walk, which takes every equation that stands open for a rule. -/
theorem hid {p : Prop} (h : p) : Hid p := h

/-- The numbers of 64 bits with a sign, and without one. -/
def I64 (a : Int) : Prop := -9223372036854775808 ≤ a ∧ a ≤ 9223372036854775807
def U64 (a : Int) : Prop := 0 ≤ a ∧ a ≤ 18446744073709551615
instance (a : Int) : Decidable (I64 a) := by unfold I64; infer_instance
instance (a : Int) : Decidable (U64 a) := by unfold U64; infer_instance
/-- Every one is a byte, a number of 64 bits. -/
def U8s (xs : List Int) : Prop := ∀ x ∈ xs, 0 ≤ x ∧ x ≤ 255
def U64s (xs : List Int) : Prop := ∀ x ∈ xs, U64 x
theorem U8s.app {a b : List Int} (ha : U8s a) (hb : U8s b) : U8s (a ++ b) := fun x hx => (List.mem_append.1 hx).elim (ha x) (hb x)
theorem U8s.at_ {xs : List Int} (h : U8s xs) {k : Nat} {x : Int} (hx : xs[k]? = some x) : 0 ≤ x ∧ x ≤ 255 := h x (List.mem_of_getElem? hx)
theorem U8s.take {xs : List Int} (h : U8s xs) (k : Nat) : U8s (xs.take k) := fun x hx => h x (List.mem_of_mem_take hx)
theorem U8s.drop {xs : List Int} (h : U8s xs) (k : Nat) : U8s (xs.drop k) := fun x hx => h x (List.mem_of_mem_drop hx)
theorem U64s.at_ {xs : List Int} (h : U64s xs) {k : Nat} {x : Int} (hx : xs[k]? = some x) : U64 x := h x (List.mem_of_getElem? hx)
theorem U64s.take {xs : List Int} (h : U64s xs) (k : Nat) : U64s (xs.take k) := fun x hx => h x (List.mem_of_mem_take hx)
theorem I64.of_wf {a : Int} (h : (Lit.int .i64 a).wf = true) : I64 a := by
  have := bounds_i64 h; unfold I64; omega

/-- What a checked result is: the number, if it has a place in 64 bits; its error. -/
def ckV (s : Int) : Int := if I64 s then s else 0
def ckE (s : Int) : Int := if I64 s then 0 else 2

theorem ckV_in {s : Int} (h : I64 s) : ckV s = s := by unfold ckV; rw [if_pos h]
theorem ckE_in {s : Int} (h : I64 s) : ckE s = 0 := by unfold ckE; rw [if_pos h]
theorem ckV_out {s : Int} (h : ¬ I64 s) : ckV s = 0 := by unfold ckV; rw [if_neg h]
theorem ckE_out {s : Int} (h : ¬ I64 s) : ckE s = 2 := by unfold ckE; rw [if_neg h]
theorem ckV_i64 (s : Int) : I64 (ckV s) := by
  unfold ckV; split
  · assumption
  · unfold I64; omega
theorem ret2 {k k' : IntKind} {x y x' y' : Int} (h1 : x = x') (h2 : y = y') : Ending.returned (Value.tuple #[.int k x, .int k' y]) = Ending.returned (Value.tuple #[.int k x', .int k' y']) := by rw [h1, h2]
theorem wrap64_eq (s : Int) : wrap64 s = (s + 9223372036854775808) % 18446744073709551616 - 9223372036854775808 := by unfold wrap64; omega
theorem I64.wrap (s : Int) : I64 (wrap64 s) := by unfold I64; rw [wrap64_eq]; omega
theorem I64.wrap_in {s : Int} (h : I64 s) : wrap64 s = s := by unfold I64 at h; rw [wrap64_eq]; omega

theorem add_w1 {a b : Int} (ha : I64 a) (hb : I64 b) (h : (!decide (wrap64 (a + b) < a) == decide (b < 0)) = true) : ¬ I64 (a + b) := by
  unfold I64 at *; rw [wrap64_eq] at h
  by_cases c1 : (a + b + 9223372036854775808) % 18446744073709551616 - 9223372036854775808 < a <;> by_cases c2 : b < 0 <;> simp [c1, c2] at h <;> omega
theorem add_w2 {a b : Int} (ha : I64 a) (hb : I64 b) (h : (!decide (wrap64 (a + b) < a) == decide (b < 0)) = false) : I64 (a + b) := by
  unfold I64 at *; rw [wrap64_eq] at h
  by_cases c1 : (a + b + 9223372036854775808) % 18446744073709551616 - 9223372036854775808 < a <;> by_cases c2 : b < 0 <;> simp [c1, c2] at h <;> omega
theorem sub_w1 {a b : Int} (ha : I64 a) (hb : I64 b) (h : (!decide (a < wrap64 (a - b)) == decide (b < 0)) = true) : ¬ I64 (a - b) := by
  unfold I64 at *; rw [wrap64_eq] at h
  by_cases c1 : a < (a - b + 9223372036854775808) % 18446744073709551616 - 9223372036854775808 <;> by_cases c2 : b < 0 <;> simp [c1, c2] at h <;> omega
theorem sub_w2 {a b : Int} (ha : I64 a) (hb : I64 b) (h : (!decide (a < wrap64 (a - b)) == decide (b < 0)) = false) : I64 (a - b) := by
  unfold I64 at *; rw [wrap64_eq] at h
  by_cases c1 : a < (a - b + 9223372036854775808) % 18446744073709551616 - 9223372036854775808 <;> by_cases c2 : b < 0 <;> simp [c1, c2] at h <;> omega
theorem ck_out2 {s : Int} (h : ¬ I64 s) : Ending.returned (Value.tuple #[.int .i64 0, .int .i64 2]) = Ending.returned (Value.tuple #[.int .i64 (ckV s), .int .i64 (ckE s)]) := ret2 (ckV_out h).symm (ckE_out h).symm
theorem ck_wrap2 {s : Int} (h : I64 s) : Ending.returned (Value.tuple #[.int .i64 (wrap64 s), .int .i64 0]) = Ending.returned (Value.tuple #[.int .i64 (ckV s), .int .i64 (ckE s)]) := ret2 ((I64.wrap_in h).trans (ckV_in h).symm) (ckE_in h).symm
theorem ck_in2 {s : Int} (h : I64 s) : Ending.returned (Value.tuple #[.int .i64 s, .int .i64 0]) = Ending.returned (Value.tuple #[.int .i64 (ckV s), .int .i64 (ckE s)]) := ret2 (ckV_in h).symm (ckE_in h).symm

/-- A number's size. -/
def absI (a : Int) : Int := if a < 0 then -a else a

end Go.Proofs.YtecgbelgoomneaaGreat
/- The greatest numbers of a vector: sizes, which place is ahead, how many are, an order of all, the first ones. Plain mathematics. No program in sight. -/
namespace Go.Proofs.YtecgbelgoomneaaGreat
set_option maxRecDepth 100000
set_option linter.unusedVariables false
/-- A number's size. -/
def szN (n : Int) : Nat := n.natAbs
/-- Place i is ahead of place k. -/
def ahB (v : List Int) (i k : Nat) : Bool := decide (szN (v.getD k 0) < szN (v.getD i 0)) || (decide (szN (v.getD i 0) = szN (v.getD k 0)) && decide (i < k))
theorem ahB_iff {v : List Int} {i k : Nat} : ahB v i k = true ↔ szN (v.getD k 0) < szN (v.getD i 0) ∨ (szN (v.getD i 0) = szN (v.getD k 0) ∧ i < k) := by
  unfold ahB
  simp
theorem ah_irr (v : List Int) (i : Nat) : ahB v i i = false := by
  rw [Bool.eq_false_iff]
  intro h
  rcases ahB_iff.1 h with h | h <;> omega
theorem ah_trans {v : List Int} {i j k : Nat} (h1 : ahB v i j = true) (h2 : ahB v j k = true) : ahB v i k = true := by
  rcases ahB_iff.1 h1 with h1 | h1 <;> rcases ahB_iff.1 h2 with h2 | h2 <;> exact ahB_iff.2 (by omega)
theorem ah_tot {v : List Int} {i k : Nat} (h : i ≠ k) : ahB v i k = true ∨ ahB v k i = true := by
  by_cases h1 : szN (v.getD k 0) < szN (v.getD i 0)
  · exact Or.inl (ahB_iff.2 (Or.inl h1))
  · by_cases h2 : szN (v.getD i 0) < szN (v.getD k 0)
    · exact Or.inr (ahB_iff.2 (Or.inl h2))
    · by_cases h3 : i < k
      · exact Or.inl (ahB_iff.2 (Or.inr ⟨by omega, h3⟩))
      · exact Or.inr (ahB_iff.2 (Or.inr ⟨by omega, by omega⟩))
/-- How many of the first m places are ahead of one. -/
def rkM (v : List Int) (i : Nat) : Nat → Nat
  | 0 => 0
  | m + 1 => rkM v i m + (if ahB v m i = true then 1 else 0)
/-- How many are ahead. -/
def rkN (v : List Int) (i : Nat) : Nat := rkM v i v.length
theorem rkM_le (v : List Int) (i : Nat) : ∀ m, rkM v i m ≤ m
  | 0 => Nat.le_refl _
  | m + 1 => by
    have := rkM_le v i m
    rw [rkM]
    split <;> omega
theorem rkM_lt (v : List Int) (i : Nat) : ∀ m, i < m → rkM v i m < m
  | 0, h => by omega
  | m + 1, h => by
    rw [rkM]
    by_cases e : i = m
    · subst e
      rw [ah_irr, if_neg (by decide)]
      have := rkM_le v i i
      omega
    · have := rkM_lt v i m (by omega)
      split <;> omega
theorem rkN_lt {v : List Int} {i : Nat} (h : i < v.length) : rkN v i < v.length := rkM_lt v i _ h
/-- Who is ahead has fewer ahead. -/
theorem rkM_mono {v : List Int} {i k : Nat} (h : ahB v i k = true) : ∀ m, rkM v i m ≤ rkM v k m
  | 0 => Nat.le_refl _
  | m + 1 => by
    have := rkM_mono h m
    rw [rkM, rkM]
    by_cases h1 : ahB v m i = true
    · rw [if_pos h1, if_pos (ah_trans h1 h)]
      omega
    · rw [if_neg h1]
      omega
theorem rkM_strict {v : List Int} {i k : Nat} (h : ahB v i k = true) : ∀ m, i < m → rkM v i m < rkM v k m
  | 0, hm => by omega
  | m + 1, hm => by
    rw [rkM, rkM]
    by_cases e : i = m
    · subst e
      have := rkM_mono h i
      rw [ah_irr, if_neg (by decide), if_pos h]
      omega
    · have := rkM_strict h m (by omega)
      by_cases h1 : ahB v m i = true
      · rw [if_pos h1, if_pos (ah_trans h1 h)]
        omega
      · rw [if_neg h1]
        omega
theorem rk_lt {v : List Int} {i k : Nat} (hi : i < v.length) (h : ahB v i k = true) : rkN v i < rkN v k := rkM_strict h _ hi
theorem rk_inj {v : List Int} {i k : Nat} (hi : i < v.length) (hk : k < v.length) (h : rkN v i = rkN v k) : i = k := by
  by_cases e : i = k
  · exact e
  · rcases ah_tot (v := v) e with h1 | h1
    · have := rk_lt hi h1
      omega
    · have := rk_lt hk h1
      omega
/-- The first k, rising. -/
def pkF (v : List Int) (k : Nat) : List Nat := (List.range v.length).filter fun i => decide (rkN v i < k)
theorem pkF_mem {v : List Int} {k i : Nat} : i ∈ pkF v k ↔ i < v.length ∧ rkN v i < k := by
  unfold pkF
  simp
/-- A function one to one below n meets each number below n: counted. -/
theorem onto_of_inj : ∀ (n : Nat) (f : Nat → Nat), (∀ x, x < n → f x < n) → (∀ x y, x < n → y < n → f x = f y → x = y) → ∀ y, y < n → ∃ x, x < n ∧ f x = y
  | 0, _, _, _, y, hy => by omega
  | n + 1, f, h1, h2, y, hy => by
    by_cases hl : f n = y
    · exact ⟨n, by omega, hl⟩
    · -- the value at n changes places with n
      have hfn := h1 n (by omega)
      have g1 : ∀ x, x < n → (if f x = n then f n else f x) < n := fun x hx => by
        have a := h1 x (by omega)
        by_cases e : f x = n
        · rw [if_pos e]
          have : f n ≠ n := fun e2 => by
            have := h2 x n (by omega) (by omega) (by omega)
            omega
          omega
        · rw [if_neg e]
          omega
      have g2 : ∀ x z, x < n → z < n → (if f x = n then f n else f x) = (if f z = n then f n else f z) → x = z := fun x z hx hz e => by
        have a := h2 x z (by omega) (by omega)
        have b := h2 x n (by omega) (by omega)
        have c := h2 z n (by omega) (by omega)
        split at e <;> split at e <;> first | exact a (by omega) | (have := b (by omega); omega) | (have := c (by omega); omega) | (have := b e.symm; omega) | (have := c e; omega)
      by_cases hyn : y = n
      · subst hyn
        obtain ⟨x, hx, hfx⟩ := onto_of_inj y (fun x => if f x = y then f y else f x) g1 g2 (f y) (by omega)
        refine ⟨x, by omega, ?_⟩
        by_cases e : f x = y
        · exact e
        · simp only [if_neg e] at hfx
          have := h2 x y (by omega) (by omega) hfx
          omega
      · obtain ⟨x, hx, hfx⟩ := onto_of_inj n (fun x => if f x = n then f n else f x) g1 g2 y (by omega)
        refine ⟨x, by omega, ?_⟩
        by_cases e : f x = n
        · simp only [if_pos e] at hfx
          exact absurd hfx hl
        · simpa only [if_neg e] using hfx
theorem rk_onto {v : List Int} {r : Nat} (h : r < v.length) : ∃ i, i < v.length ∧ rkN v i = r :=
  onto_of_inj v.length (rkN v) (fun _ h => rkN_lt h) (fun _ _ h1 h2 h => rk_inj h1 h2 h) r h
/-- Which place comes as the r-th. -/
def atR (v : List Int) (r : Nat) : Nat := ((List.range v.length).find? fun i => decide (rkN v i = r)).getD 0
theorem atR_is {v : List Int} {r : Nat} (h : r < v.length) : atR v r < v.length ∧ rkN v (atR v r) = r := by
  obtain ⟨i, hi, hr⟩ := rk_onto h
  unfold atR
  cases hf : (List.range v.length).find? fun i => decide (rkN v i = r) with
  | none =>
    have := List.find?_eq_none.1 hf i (List.mem_range.2 hi)
    simp [hr] at this
  | some j =>
    have h1 := List.find?_some hf
    have h2 := List.mem_of_find?_eq_some hf
    simp at h1 h2
    exact ⟨h2, h1⟩
theorem atR_of {v : List Int} {i : Nat} (h : i < v.length) : atR v (rkN v i) = i := by
  obtain ⟨h1, h2⟩ := atR_is (rkN_lt h)
  exact rk_inj h1 h h2
/-- The order. -/
def ordT (v : List Int) : List Nat := (List.range v.length).map (atR v)
theorem ordT_len (v : List Int) : (ordT v).length = v.length := by unfold ordT; simp
theorem ordT_at {v : List Int} {r : Nat} (h : r < v.length) : (ordT v)[r]? = some (atR v r) := by unfold ordT; simp [h]
/-- The first k of the order are those that are picked. -/
theorem pkF_ord {v : List Int} {k i : Nat} (hk : k ≤ v.length) : i ∈ pkF v k ↔ i ∈ (ordT v).take k := by
  rw [pkF_mem]
  constructor
  · rintro ⟨h1, h2⟩
    refine List.mem_of_getElem? (i := rkN v i) ?_
    rw [List.getElem?_take_of_lt h2, ordT_at (rkN_lt h1), atR_of h1]
  · intro h
    obtain ⟨r, hr⟩ := List.mem_iff_getElem?.1 h
    have hl := (List.getElem?_eq_some_iff.1 hr).1
    rw [List.length_take, ordT_len] at hl
    rw [List.getElem?_take_of_lt (by omega), ordT_at (by omega)] at hr
    injection hr with hr
    obtain ⟨h1, h2⟩ := atR_is (v := v) (r := r) (by omega)
    rw [hr] at h1 h2
    exact ⟨h1, by omega⟩
end Go.Proofs.YtecgbelgoomneaaGreat
/- Numbers' codes, seven bits a byte: plain mathematics on lists of whole numbers. No program in sight. -/
namespace Go.Proofs.YtecgbelgoomneaaGreat
set_option maxRecDepth 100000
set_option linter.unusedVariables false
/-- A number's code. -/
def lebL (n : Nat) : List Int := if h : n < 128 then [(n : Int)] else ((n % 128 : Nat) + 128 : Int) :: lebL (n / 128)
termination_by n
decreasing_by omega
def lebI (n : Int) : List Int := lebL n.toNat
theorem lebI_last {n : Int} (h0 : 0 ≤ n) (h : n < 128) : lebI n = [n] := by
  unfold lebI
  rw [lebL, dif_pos (by omega)]
  congr 1
  omega
theorem lebI_more {n : Int} (h : 128 ≤ n) : lebI n = (n % 128 + 128) :: lebI (n / 128) := by
  unfold lebI
  rw [lebL, dif_neg (by omega)]
  congr 1
  · omega
  · congr 1; omega
/-- What holds of the small ones, and goes from a number's 128th to it, holds of all. -/
theorem leb_ind {p : Int → Prop} (h1 : ∀ n, 0 ≤ n → n < 128 → p n) (h2 : ∀ n, 128 ≤ n → p (n / 128) → p n) (n : Int) (h0 : 0 ≤ n) : p n := by
  obtain ⟨m, rfl⟩ := Int.eq_ofNat_of_zero_le h0
  clear h0
  induction m using Nat.strongRecOn with
  | _ m ih =>
    by_cases h : (m : Int) < 128
    · exact h1 _ (by omega) h
    · refine h2 _ (by omega) ?_
      have := ih (m / 128) (by omega)
      rwa [show ((m / 128 : Nat) : Int) = (m : Int) / 128 by omega] at this
theorem lebI_u8 (n : Int) (h : 0 ≤ n) : U8s (lebI n) := by
  refine leb_ind (p := fun n => U8s (lebI n)) ?_ ?_ n h
  · intro n h0 h1
    rw [lebI_last h0 h1]
    intro x hx
    simp only [List.mem_singleton] at hx
    omega
  · intro n h1 ih
    rw [lebI_more h1]
    intro x hx
    rcases List.mem_cons.1 hx with rfl | hx
    · omega
    · exact ih x hx
theorem lebI_pos (n : Int) (h : 0 ≤ n) : 0 < (lebI n).length := by
  by_cases h1 : n < 128
  · rw [lebI_last h h1]; simp
  · rw [lebI_more (by omega)]; simp
theorem lebI_le (k : Nat) : ∀ n : Int, 0 ≤ n → n < 128 ^ (k + 1) → (lebI n).length ≤ k + 1 := by
  induction k with
  | zero =>
    intro n h0 h
    rw [lebI_last h0 (by simpa using h)]; simp
  | succ k ih =>
    intro n h0 h
    by_cases h1 : n < 128
    · rw [lebI_last h0 h1]; simp
    · rw [lebI_more (by omega)]
      have := ih (n / 128) (by omega) (by rw [Int.pow_succ] at h; omega)
      simp only [List.length_cons]
      omega
theorem lebI_ten {n : Int} (h : U64 n) : (lebI n).length ≤ 10 := lebI_le 9 n h.1 (by have := h.2; omega)
/-- How long a code is, by its bits. -/
theorem lebI_bits {n : Int} (h : U64 n) : (lebI n).length = (Lib.bitLen (max n 1).toNat + 6) / 7 := by
  have key : ∀ n : Int, 0 ≤ n → n ≤ 18446744073709551615 → (lebI n).length = (Lib.bitLen (max n 1).toNat + 6) / 7 := by
    intro n h0
    refine leb_ind (p := fun n => n ≤ 18446744073709551615 → (lebI n).length = (Lib.bitLen (max n 1).toNat + 6) / 7) ?_ ?_ n h0
    · intro n h0 h1 _
      rw [lebI_last h0 h1]
      have hd : ∀ m : Fin 128, (Lib.bitLen (max m.val 1) + 6) / 7 = 1 := by decide +kernel
      have := hd ⟨n.toNat, by omega⟩
      rw [show (max n 1).toNat = max n.toNat 1 by omega, this]
      rfl
    · intro n h1 ih h2
      rw [lebI_more h1, List.length_cons, ih (by omega)]
      have hs := Lib.bitLen_shift 7 (max n 1).toNat (by omega) (by omega)
      rw [show (max n 1).toNat / 2 ^ 7 = (max (n / 128) 1).toNat by omega] at hs
      omega
  exact key n h.1 h.2
/-- All codes, one behind the other. -/
def encs (l : List Int) : List Int := l.flatMap lebI
theorem encs_app (l m : List Int) : encs (l ++ m) = encs l ++ encs m := List.flatMap_append
theorem encs_one (n : Int) : encs [n] = lebI n := by simp [encs]
theorem encs_cons (n : Int) (l : List Int) : encs (n :: l) = lebI n ++ encs l := by simp [encs]
theorem encs_u8 {l : List Int} (h : U64s l) : U8s (encs l) := by
  intro x hx
  obtain ⟨n, hn, hx⟩ := List.mem_flatMap.1 hx
  exact lebI_u8 n (h n hn).1 x hx
theorem encs_len {l : List Int} (h : U64s l) : (encs l).length ≤ 10 * l.length := by
  induction l with
  | nil => simp [encs]
  | cons n l ih =>
    rw [encs_cons, List.length_append, List.length_cons]
    have h1 := lebI_ten (h n (by simp))
    have h2 := ih (fun x hx => h x (by simp [hx]))
    omega
/-- What stands at a text's beginning, k bytes behind a code's, of which n is there: the number, the code's size, the error. -/
def gL : List Int → Nat → Int → Int × Int × Int
  | [], _, _ => (0, 0, 5)
  | c :: cs, k, n => if k = 9 ∧ 1 < c then (0, 0, 6) else if c < 128 then (if 0 < k ∧ c = 0 then (0, 0, 6) else (n + c % 128 * 2 ^ (7 * k), ((k + 1 : Nat) : Int), 0)) else gL cs (k + 1) (n + c % 128 * 2 ^ (7 * k))
/-- What Get is to answer. -/
def getN (b : List Int) (a : Int) : Int := if a < 0 then 0 else (gL (b.drop a.toNat) 0 0).1
def getE (b : List Int) (a : Int) : Int := if a < 0 then 1 else (gL (b.drop a.toNat) 0 0).2.2
def getA (b : List Int) (a : Int) : Int := if getE b a = 0 then a + (gL (b.drop a.toNat) 0 0).2.1 else 0
theorem pow7 (k : Nat) : (2 : Int) ^ (7 * (k + 1)) = 128 * 2 ^ (7 * k) := by
  rw [show 7 * (k + 1) = 7 * k + 7 by omega, Int.pow_add]; omega
theorem pow7_pos (k : Nat) : (0 : Int) < 2 ^ (7 * k) := Int.pow_pos (by decide)
/-- What was put is got. -/
theorem gL_put (n : Int) (h0 : 0 ≤ n) : ∀ (rest : List Int) (k : Nat) (m : Int), 0 < k ∧ n = 0 ∨ (lebI n).length + k ≤ 10 ∧ (0 < k → 0 < n) ∧ (n * 2 ^ (7 * k) ≤ 18446744073709551615) →
    ¬ (0 < k ∧ n = 0) → gL (lebI n ++ rest) k m = (m + n * 2 ^ (7 * k), ((k + (lebI n).length : Nat) : Int), 0) := by
  refine leb_ind (p := fun n => ∀ (rest : List Int) (k : Nat) (m : Int), 0 < k ∧ n = 0 ∨ (lebI n).length + k ≤ 10 ∧ (0 < k → 0 < n) ∧ (n * 2 ^ (7 * k) ≤ 18446744073709551615) →
    ¬ (0 < k ∧ n = 0) → gL (lebI n ++ rest) k m = (m + n * 2 ^ (7 * k), ((k + (lebI n).length : Nat) : Int), 0)) ?_ ?_ n h0
  · intro n h0 h1 rest k m hk hz
    rcases hk with hk | ⟨hk, hp, hm⟩
    · exact absurd hk hz
    rw [lebI_last h0 h1] at *
    simp only [List.length_singleton] at hk
    rw [List.singleton_append, gL, if_neg ?_, if_pos h1, if_neg hz, show n % 128 = n by omega]
    · simp
    · rintro ⟨rfl, h⟩
      have : (2 : Int) ^ (7 * 9) = 9223372036854775808 := by decide
      rw [this] at hm
      omega
  · intro n h1 ih rest k m hk hz
    rcases hk with hk | ⟨hk, hp, hm⟩
    · omega
    rw [lebI_more h1] at *
    simp only [List.length_cons] at hk
    have hl := lebI_pos (n / 128) (by omega)
    have hp := pow7_pos k
    have he : n = n % 128 + 128 * (n / 128) := by omega
    rw [List.cons_append, gL, if_neg (by omega), if_neg (by omega), ih rest (k + 1) _ (.inr ⟨by omega, by omega, ?_⟩) (by omega), pow7]
    · simp only [Prod.mk.injEq, List.length_cons, and_true]
      refine ⟨?_, by omega⟩
      rw [show (n % 128 + 128) % 128 = n % 128 by omega, Int.add_assoc]
      congr 1
      rw [show n / 128 * (128 * 2 ^ (7 * k)) = (128 * (n / 128)) * 2 ^ (7 * k) by rw [← Int.mul_assoc, Int.mul_comm 128], ← Int.add_mul, ← he]
    · rw [pow7]
      have h2 : n / 128 * (128 * 2 ^ (7 * k)) = (128 * (n / 128)) * 2 ^ (7 * k) := by rw [← Int.mul_assoc, Int.mul_comm 128]
      rw [h2]
      have := Int.mul_le_mul_of_nonneg_right (show 128 * (n / 128) ≤ n by omega) (Int.le_of_lt hp)
      omega
theorem gL_code {n : Int} (h : U64 n) (rest : List Int) : gL (lebI n ++ rest) 0 0 = (n, ((lebI n).length : Int), 0) := by
  have := gL_put n h.1 rest 0 0 (.inr ⟨by have := lebI_ten h; omega, by omega, by simpa using h.2⟩) (by omega)
  simpa using this
theorem get_at {b : List Int} {n : Int} (h : U64 n) (ahead behind : List Int) (hb : b = ahead ++ (lebI n ++ behind)) :
    getN b ahead.length = n ∧ getE b ahead.length = 0 ∧ getA b ahead.length = ahead.length + (lebI n).length := by
  subst hb
  have e : gL ((ahead ++ (lebI n ++ behind)).drop (ahead.length : Int).toNat) 0 0 = (n, ((lebI n).length : Int), 0) := by
    rw [show (ahead.length : Int).toNat = ahead.length by omega, List.drop_left, gL_code h]
  have h1 : ¬ (ahead.length : Int) < 0 := by omega
  unfold getA getN getE
  rw [e]
  simp [h1]
/-- Signed numbers and others. -/
def zigI (n : Int) : Int := if n < 0 then -2 * n - 1 else 2 * n
def zagI (n : Int) : Int := if n % 2 = 1 then -(n / 2) - 1 else n / 2
theorem zag_zig (n : Int) : zagI (zigI n) = n := by unfold zagI zigI; split <;> split <;> omega
theorem zig_u64 {n : Int} (h : I64 n) : U64 (zigI n) := by unfold I64 at h; unfold U64 zigI; split <;> omega
theorem zigs_u64 {l : List Int} (h : ∀ x ∈ l, I64 x) : U64s (l.map zigI) := by
  intro x hx
  obtain ⟨y, hy, rfl⟩ := List.mem_map.1 hx
  exact zig_u64 (h y hy)
end Go.Proofs.YtecgbelgoomneaaGreat
/- What a number got is, and where it ends: plain mathematics. -/
/- Places that rise, their code, numbers spread and gathered, lists together: plain mathematics. No program in sight. -/
namespace Go.Proofs.YtecgbelgoomneaaGreat
set_option maxRecDepth 100000
set_option linter.unusedVariables false
/-- A list that rises. -/
def risP (l : List Int) : Prop := l.Pairwise (· < ·)
instance (l : List Int) : Decidable (risP l) := by unfold risP; infer_instance
def risB (l : List Int) : Bool := decide (risP l)
theorem ris_iff {l : List Int} : risP l ↔ ∀ (i j : Nat) (x y : Int), l[i]? = some x → l[j]? = some y → i < j → x < y := by
  unfold risP
  rw [List.pairwise_iff_getElem]
  constructor
  · intro h i j x y hx hy hij
    obtain ⟨h1, rfl⟩ := List.getElem?_eq_some_iff.1 hx
    obtain ⟨h2, rfl⟩ := List.getElem?_eq_some_iff.1 hy
    exact h i j h1 h2 hij
  · intro h i j hi hj hij
    exact h i j _ _ (List.getElem?_eq_getElem hi) (List.getElem?_eq_getElem hj) hij
theorem ris_nil : risP [] := List.Pairwise.nil
theorem ris_one (x : Int) : risP [x] := List.pairwise_singleton _ _
theorem ris_take {l : List Int} (h : risP l) (k : Nat) : risP (l.take k) := List.Pairwise.sublist (List.take_sublist k l) h
theorem ris_snoc {l : List Int} {y : Int} : risP (l ++ [y]) ↔ risP l ∧ ∀ x ∈ l, x < y := by
  unfold risP
  rw [List.pairwise_append]
  simp
theorem take_snoc {l : List Int} {k : Nat} {y : Int} (h : l[k]? = some y) : l.take (k + 1) = l.take k ++ [y] := by
  rw [List.take_add_one, h]; rfl
theorem ris_step {l : List Int} {k : Nat} {x y : Int} (h : risP (l.take k)) (hy : l[k]? = some y) (hx : k = 0 ∨ l[k - 1]? = some x ∧ x < y) : risP (l.take (k + 1)) := by
  rw [take_snoc hy, ris_snoc]
  refine ⟨h, fun z hz => ?_⟩
  rcases hx with rfl | ⟨hx, hlt⟩
  · simp at hz
  · have hk : k ≠ 0 := by rintro rfl; simp at hz
    obtain ⟨j, rfl⟩ : ∃ j, k = j + 1 := ⟨k - 1, by omega⟩
    rw [Nat.add_sub_cancel] at hx
    rw [take_snoc hx] at h hz
    rcases List.mem_append.1 hz with hz | hz
    · have := (ris_snoc.1 h).2 z hz; omega
    · simp at hz; omega
theorem ris_no {l : List Int} {i j : Nat} {x y : Int} (hx : l[i]? = some x) (hy : l[j]? = some y) (hij : i < j) (h : y ≤ x) : ¬ risP l := fun hr => by
  have := ris_iff.1 hr i j x y hx hy hij
  omega
theorem ris_nodup {l : List Int} (h : risP l) : l.Nodup := List.Pairwise.imp (fun h => by omega) h
/-- Two lists that rise are one, if they have the same numbers. -/
theorem ris_eq {a b : List Int} (ha : risP a) (hb : risP b) (h : ∀ x, x ∈ a ↔ x ∈ b) : a = b := by
  have hp := (List.perm_ext_iff_of_nodup (ris_nodup ha) (ris_nodup hb)).2 h
  exact List.Perm.eq_of_pairwise (fun x y _ _ h1 h2 => by omega) ha hb hp
/-- Whether they are places of a dimension. -/
def plcP (dim : Int) (l : List Int) : Prop := 1 ≤ dim ∧ dim ≤ 4096 ∧ risP l ∧ ∀ n ∈ l, 0 ≤ n ∧ n < dim
instance (dim : Int) (l : List Int) : Decidable (plcP dim l) := by unfold plcP; infer_instance
def chkE (dim : Int) (l : List Int) : Int := if plcP dim l then 0 else 1
theorem chk_ok {dim : Int} {l : List Int} : chkE dim l = 0 ↔ plcP dim l := by
  unfold chkE
  split
  · simp_all
  · simp_all
theorem chk_no {dim : Int} {l : List Int} (h : ¬ plcP dim l) : chkE dim l = 1 := if_neg h
/-- All numbers from 0 on. -/
def upI (k : Nat) : List Int := (List.range k).map fun n : Nat => (n : Int)
theorem upI_succ (k : Nat) : upI (k + 1) = upI k ++ [(k : Int)] := by unfold upI; rw [List.range_succ, List.map_append]; rfl
theorem upI_len (k : Nat) : (upI k).length = k := by unfold upI; simp
theorem upI_mem {k : Nat} {x : Int} : x ∈ upI k ↔ 0 ≤ x ∧ x < k := by
  unfold upI
  rw [List.mem_map]
  constructor
  · rintro ⟨n, hn, rfl⟩
    have := List.mem_range.1 hn
    omega
  · intro h
    exact ⟨x.toNat, List.mem_range.2 (by omega), by omega⟩
theorem upI_ris : ∀ k, risP (upI k)
  | 0 => ris_nil
  | k + 1 => by
    rw [upI_succ, ris_snoc]
    exact ⟨upI_ris k, fun x hx => (upI_mem.1 hx).2⟩
theorem upI_at {k i : Nat} (h : i < k) : (upI k)[i]? = some (i : Int) := by unfold upI; simp [h]
theorem ris_filter {l : List Int} (h : risP l) (p : Int → Bool) : risP (l.filter p) := List.Pairwise.sublist List.filter_sublist h
theorem plc_sub {dim : Int} {l : List Int} (h : plcP dim l) : ∃ k : Nat, dim = k ∧ 1 ≤ k ∧ k ≤ 4096 ∧ l = (upI k).filter (fun x => decide (x ∈ l)) := by
  obtain ⟨h1, h2, h3, h4⟩ := h
  obtain ⟨k, rfl⟩ := Int.eq_ofNat_of_zero_le (show 0 ≤ dim by omega)
  refine ⟨k, rfl, by omega, by omega, ris_eq h3 (ris_filter (upI_ris k) _) fun x => ?_⟩
  rw [List.mem_filter, upI_mem]
  constructor
  · intro h; exact ⟨h4 x h, by simpa using h⟩
  · intro h; simpa using h.2
theorem filter_both (p : Int → Bool) (l : List Int) : (l.filter p).length + (l.filter fun x => !p x).length = l.length := by
  induction l with
  | nil => rfl
  | cons x l ih =>
    rw [List.filter_cons, List.filter_cons]
    cases p x <;> simp <;> omega
/-- The places that are not in a list. -/
def lfF (k : Nat) (l : List Int) : List Int := (upI k).filter fun x => !decide (x ∈ l)
theorem plc_len {k : Nat} {l : List Int} (h : plcP k l) : l.length + (lfF k l).length = k := by
  obtain ⟨k', e, _, _, hl⟩ := plc_sub h
  obtain rfl : k = k' := by omega
  have := filter_both (fun x => decide (x ∈ l)) (upI k)
  rw [upI_len] at this
  unfold lfF
  have e2 : ((upI k).filter fun x => decide (x ∈ l)).length = l.length := by rw [← hl]
  omega
theorem plc_le {dim : Int} {l : List Int} (h : plcP dim l) : (l.length : Int) ≤ dim := by
  obtain ⟨k, rfl, _, _, _⟩ := plc_sub h
  have := plc_len h
  omega
/-- Distances, less 1. -/
def gapsF : Int → List Int → List Int
  | _, [] => []
  | last, n :: l => (n - last - 1) :: gapsF n l
def lastI (a : Int) (l : List Int) : Int := l.getLastD a
theorem lastI_snoc (a : Int) (l : List Int) (x : Int) : lastI a (l ++ [x]) = x := by unfold lastI; simp
theorem gaps_snoc : ∀ (l : List Int) (a x : Int), gapsF a (l ++ [x]) = gapsF a l ++ [x - lastI a l - 1]
  | [], a, x => by simp [gapsF, lastI]
  | n :: l, a, x => by
    rw [List.cons_append, gapsF, gapsF, gaps_snoc l n x, List.cons_append]
    congr 3
    unfold lastI
    cases l with
    | nil => rfl
    | cons y l => rw [List.getLastD_cons, List.getLastD_cons, List.getLastD_cons]
theorem gaps_len : ∀ (l : List Int) (a : Int), (gapsF a l).length = l.length
  | [], _ => rfl
  | n :: l, a => by rw [gapsF, List.length_cons, gaps_len l n, List.length_cons]
theorem gaps_u64 : ∀ (l : List Int) (a : Int), risP (a :: l) → -1 ≤ a → (∀ n ∈ l, n < 4096) → U64s (gapsF a l)
  | [], _, _, _, _ => by intro x hx; simp [gapsF] at hx
  | n :: l, a, hr, ha, hb => by
    have h1 : a < n := (List.pairwise_cons.1 hr).1 n (by simp)
    have h2 := hb n (by simp)
    intro x hx
    rw [gapsF] at hx
    rcases List.mem_cons.1 hx with rfl | hx
    · unfold U64; omega
    · exact gaps_u64 l n (List.pairwise_cons.1 hr).2 (by omega) (fun m hm => hb m (by simp [hm])) x hx
def putL (l : List Int) : List Int := (l.length : Int) :: gapsF (-1) l
def pixV (dim : Int) (l : List Int) : List Int := if chkE dim l = 0 then encs (putL l) else []
theorem plc_cons {dim : Int} {l : List Int} (h : plcP dim l) : risP (-1 :: l) := List.pairwise_cons.2 ⟨fun n hn => by have := h.2.2.2 n hn; omega, h.2.2.1⟩
theorem putL_u64 {dim : Int} {l : List Int} (h : plcP dim l) : U64s (putL l) := by
  have h1 := plc_le h
  have h2 := h.2.1
  intro x hx
  unfold putL at hx
  rcases List.mem_cons.1 hx with rfl | hx
  · unfold U64; omega
  · exact gaps_u64 l (-1) (plc_cons h) (by omega) (fun n hn => by have := h.2.2.2 n hn; omega) x hx
theorem putL_step {l : List Int} {k : Nat} {x : Int} (h : l[k]? = some x) : gapsF (-1) (l.take (k + 1)) = gapsF (-1) (l.take k) ++ [x - lastI (-1) (l.take k) - 1] := by
  rw [take_snoc h, gaps_snoc]
theorem lastI_step {l : List Int} {k : Nat} {x : Int} (h : l[k]? = some x) : lastI (-1) (l.take (k + 1)) = x := by
  rw [take_snoc h, lastI_snoc]
theorem lastI_mem : ∀ (l : List Int) (a : Int), lastI a l = a ∧ l = [] ∨ lastI a l ∈ l
  | [], a => by simp [lastI]
  | n :: l, a => by right; unfold lastI; rw [List.getLastD_cons]; rcases lastI_mem l n with ⟨h, _⟩ | h
                    · unfold lastI at h; rw [h]; simp
                    · unfold lastI at h; exact List.mem_cons_of_mem _ h
theorem lastI_lt {dim : Int} {l : List Int} {k : Nat} {x : Int} (h : plcP dim l) (hx : l[k]? = some x) : -1 ≤ lastI (-1) (l.take k) ∧ lastI (-1) (l.take k) < x ∧ 0 ≤ x ∧ x < dim := by
  have hr := ris_take h.2.2.1 (k + 1)
  rw [take_snoc hx, ris_snoc] at hr
  have hxd := h.2.2.2 x (List.mem_of_getElem? hx)
  rcases lastI_mem (l.take k) (-1) with ⟨e, _⟩ | hm
  · rw [e]; omega
  · have h1 := hr.2 _ hm
    have h2 := h.2.2.2 _ (List.mem_of_mem_take hm)
    omega
/-- What is read: so many distances from a place on, the last place ahead of them. -/
def ixL (dim : Int) (b : List Int) : Nat → Int → Int → List Int × Int × Int
  | 0, _, a => ([], a, 0)
  | m + 1, last, a => if getE b a ≠ 0 then ([], 0, getE b a) else if dim - last - 1 ≤ getN b a then ([], 0, 6) else
      if (ixL dim b m (last + getN b a + 1) (getA b a)).2.2 = 0 then ((last + getN b a + 1) :: (ixL dim b m (last + getN b a + 1) (getA b a)).1, (ixL dim b m (last + getN b a + 1) (getA b a)).2.1, 0) else ([], 0, (ixL dim b m (last + getN b a + 1) (getA b a)).2.2)
def gixR (dim : Int) (b : List Int) (a : Int) : List Int × Int × Int :=
  if dim < 1 ∨ 4096 < dim then ([], 0, 1) else if getE b a ≠ 0 then ([], 0, getE b a) else if dim < getN b a then ([], 0, 6) else ixL dim b (getN b a).toNat (-1) (getA b a)
/-- Numbers at places. -/
def spF (l v : List Int) (j : Int) : Int := (l.zip v).foldl (fun acc p => if j = p.1 then p.2 else acc) 0
def spE (dim : Int) (l v : List Int) : Int := if chkE dim l = 0 then (if l.length = v.length then 0 else 4) else chkE dim l
def spV (dim : Int) (l v : List Int) : List Int := if spE dim l v = 0 then (upI dim.toNat).map (spF l v) else []
theorem spF_snoc {l v : List Int} (h : l.length = v.length) (n x j : Int) : spF (l ++ [n]) (v ++ [x]) j = if j = n then x else spF l v j := by
  unfold spF
  rw [List.zip_append h, List.foldl_append]
  rfl
theorem spF_step {l v : List Int} {k : Nat} {n x : Int} (hn : l[k]? = some n) (hx : v[k]? = some x) (j : Int) : spF (l.take (k + 1)) (v.take (k + 1)) j = if j = n then x else spF (l.take k) (v.take k) j := by
  have h1 := (List.getElem?_eq_some_iff.1 hn).1
  have h2 := (List.getElem?_eq_some_iff.1 hx).1
  rw [take_snoc hn, take_snoc hx]
  exact spF_snoc (by rw [List.length_take, List.length_take]; omega) n x j
theorem spF_out {l v : List Int} {j : Int} (h : j ∉ l) : spF l v j = 0 := by
  unfold spF
  have key : ∀ (ps : List (Int × Int)) (a : Int), (∀ p ∈ ps, j ≠ p.1) → ps.foldl (fun acc p => if j = p.1 then p.2 else acc) a = a := by
    intro ps
    induction ps with
    | nil => intro a _; rfl
    | cons p ps ih =>
      intro a hp
      rw [List.foldl_cons, if_neg (hp p (by simp)), ih a (fun q hq => hp q (by simp [hq]))]
  exact key _ 0 fun p hp e => h (by rw [e]; exact (List.of_mem_zip hp).1)
theorem spF_at {l v : List Int} (hr : risP l) : ∀ (k : Nat) (i : Nat) (n x : Int), i < k → l[i]? = some n → v[i]? = some x → k ≤ l.length → k ≤ v.length → spF (l.take k) (v.take k) n = x := by
  intro k
  induction k with
  | zero => intro i n x h; omega
  | succ k ih =>
    intro i n x h hn hx h1 h2
    have hk1 : l[k]? = some l[k] := List.getElem?_eq_getElem (by omega)
    have hk2 : v[k]? = some v[k] := List.getElem?_eq_getElem (by omega)
    rw [spF_step hk1 hk2]
    by_cases hik : i = k
    · subst hik
      rw [hn] at hk1
      rw [hx] at hk2
      injection hk1 with e1
      injection hk2 with e2
      rw [if_pos e1, ← e2]
    · have := ris_iff.1 hr i k n l[k] hn hk1 (by omega)
      rw [if_neg (by omega)]
      exact ih i n x (by omega) hn hx (by omega) (by omega)
theorem spF_in {l v : List Int} (hr : risP l) (hl : l.length = v.length) {i : Nat} {n x : Int} (hn : l[i]? = some n) (hx : v[i]? = some x) : spF l v n = x := by
  have h := spF_at hr l.length i n x (List.getElem?_eq_some_iff.1 hn).1 hn hx (Nat.le_refl _) (by omega)
  rwa [List.take_length, hl, List.take_length] at h
/-- Numbers from places. -/
def gatP (l v : List Int) : Prop := risP l ∧ ∀ n ∈ l, 0 ≤ n ∧ n < v.length
instance (l v : List Int) : Decidable (gatP l v) := by unfold gatP; infer_instance
def gatE (l v : List Int) : Int := if gatP l v then 0 else 1
def gatV (l v : List Int) : List Int := if gatE l v = 0 then l.map (fun n => v.getD n.toNat 0) else []
theorem gat_ok {l v : List Int} : gatE l v = 0 ↔ gatP l v := by unfold gatE; split <;> simp_all
theorem gat_no {l v : List Int} (h : ¬ gatP l v) : gatE l v = 1 := if_neg h
/-- Lists together. -/
def insI (out : List Int) (n : Int) : List Int := if n ∈ out then out else out.filter (fun m => decide (m < n)) ++ [n] ++ out.filter (fun m => decide (n < m))
def mrgF (out l : List Int) : List Int := l.foldl insI out
def mrgV (ls : List (List Int)) : List Int := mrgF [] ls.flatten
theorem ins_mem {out : List Int} {n x : Int} : x ∈ insI out n ↔ x = n ∨ x ∈ out := by
  unfold insI
  split
  · rename_i h
    constructor
    · intro h2; exact Or.inr h2
    · rintro (rfl | h2)
      · exact h
      · exact h2
  · rw [List.mem_append, List.mem_append, List.mem_filter, List.mem_filter, List.mem_singleton, decide_eq_true_eq, decide_eq_true_eq]
    constructor
    · rintro ((⟨h, _⟩ | h) | ⟨h, _⟩)
      · exact Or.inr h
      · exact Or.inl h
      · exact Or.inr h
    · rintro (h | h)
      · exact Or.inl (Or.inr h)
      · by_cases h1 : x < n
        · exact Or.inl (Or.inl ⟨h, h1⟩)
        · by_cases h2 : x = n
          · exact Or.inl (Or.inr h2)
          · exact Or.inr ⟨h, by omega⟩
theorem ins_ris {out : List Int} (h : risP out) (n : Int) : risP (insI out n) := by
  unfold insI
  split
  · exact h
  · unfold risP
    rw [List.pairwise_append, List.pairwise_append]
    refine ⟨⟨ris_filter h _, List.pairwise_singleton _ _, ?_⟩, ris_filter h _, ?_⟩
    · intro a ha b hb
      rw [List.mem_filter, decide_eq_true_eq] at ha
      rw [List.mem_singleton] at hb
      omega
    · intro a ha b hb
      rw [List.mem_filter, decide_eq_true_eq] at hb
      rw [List.mem_append, List.mem_filter, List.mem_singleton, decide_eq_true_eq] at ha
      rcases ha with ha | ha <;> omega
theorem mrg_ris : ∀ (l out : List Int), risP out → risP (mrgF out l)
  | [], out, h => h
  | n :: l, out, h => mrg_ris l (insI out n) (ins_ris h n)
theorem mrg_mem : ∀ (l out : List Int) (x : Int), x ∈ mrgF out l ↔ x ∈ out ∨ x ∈ l
  | [], out, x => by simp [mrgF]
  | n :: l, out, x => by
    have := mrg_mem l (insI out n) x
    show x ∈ mrgF (insI out n) l ↔ _
    rw [this, ins_mem, List.mem_cons]
    constructor
    · rintro ((h | h) | h)
      · exact Or.inr (Or.inl h)
      · exact Or.inl h
      · exact Or.inr (Or.inr h)
    · rintro (h | h | h)
      · exact Or.inl (Or.inr h)
      · exact Or.inl (Or.inl h)
      · exact Or.inr h
theorem mrgV_ris (ls : List (List Int)) : risP (mrgV ls) := mrg_ris _ _ ris_nil
theorem mrgV_mem {ls : List (List Int)} {x : Int} : x ∈ mrgV ls ↔ ∃ l ∈ ls, x ∈ l := by
  unfold mrgV
  rw [mrg_mem, List.mem_flatten]
  simp
theorem mrgV_eq {ls : List (List Int)} {m : List Int} (hr : risP m) (h : ∀ x, x ∈ m ↔ ∃ l ∈ ls, x ∈ l) : m = mrgV ls := ris_eq hr (mrgV_ris ls) fun x => by rw [h, mrgV_mem]
theorem mrg_snoc (out l : List Int) (n : Int) : mrgF out (l ++ [n]) = insI (mrgF out l) n := by unfold mrgF; rw [List.foldl_append]; rfl
def hasB (l : List Int) (n : Int) : Bool := decide (n ∈ l)
end Go.Proofs.YtecgbelgoomneaaGreat
/- The greatest numbers of a vector: how many are picked, that they rise, who is left out, scaled and turned vectors. Plain mathematics. No program in sight. -/
namespace Go.Proofs.YtecgbelgoomneaaGreat
set_option maxRecDepth 100000
set_option linter.unusedVariables false
theorem pkF_up (v : List Int) (k : Nat) : (pkF v k).Pairwise (· < ·) := List.Pairwise.filter _ List.pairwise_lt_range
theorem pkF_nodup (v : List Int) (k : Nat) : (pkF v k).Nodup := (pkF_up v k).imp fun h => Nat.ne_of_lt h
theorem ordT_nodup (v : List Int) : (ordT v).Nodup := by
  unfold List.Nodup
  rw [List.pairwise_iff_getElem]
  intro i j hi hj hij e
  rw [ordT_len] at hi hj
  have h1 := ordT_at hi
  have h2 := ordT_at hj
  rw [List.getElem?_eq_getElem (by rw [ordT_len]; exact hi)] at h1
  rw [List.getElem?_eq_getElem (by rw [ordT_len]; exact hj)] at h2
  injection h1 with h1
  injection h2 with h2
  have e3 : atR v i = atR v j := by rw [← h1, ← h2, e]
  have h3 := (atR_is hi).2
  have h4 := (atR_is hj).2
  rw [e3] at h3
  omega
theorem pkF_perm {v : List Int} {k : Nat} (hk : k ≤ v.length) : (pkF v k).Perm ((ordT v).take k) :=
  (List.perm_ext_iff_of_nodup (pkF_nodup v k) (List.Pairwise.sublist (List.take_sublist _ _) (ordT_nodup v))).2 fun i => pkF_ord hk
theorem pkF_len {v : List Int} {k : Nat} (hk : k ≤ v.length) : (pkF v k).length = k := by
  rw [(pkF_perm hk).length_eq, List.length_take, ordT_len]
  omega
/-- As whole numbers. -/
def pkI (v : List Int) (k : Nat) : List Int := (pkF v k).map fun (i : Nat) => (i : Int)
theorem pkI_ris (v : List Int) (k : Nat) : risP (pkI v k) := by
  unfold pkI risP
  rw [List.pairwise_map]
  exact (pkF_up v k).imp fun h => by omega
theorem pkI_len {v : List Int} {k : Nat} (hk : k ≤ v.length) : (pkI v k).length = k := by unfold pkI; rw [List.length_map, pkF_len hk]
theorem pkI_mem {v : List Int} {k : Nat} {x : Int} : x ∈ pkI v k ↔ ∃ i : Nat, x = i ∧ i < v.length ∧ rkN v i < k := by
  unfold pkI
  rw [List.mem_map]
  constructor
  · rintro ⟨i, hi, rfl⟩
    exact ⟨i, rfl, pkF_mem.1 hi⟩
  · rintro ⟨i, rfl, h⟩
    exact ⟨i, pkF_mem.2 h, rfl⟩
theorem pk_more {v : List Int} {k m i : Nat} (h : k ≤ m) (hi : i ∈ pkF v k) : i ∈ pkF v m := by
  have := pkF_mem.1 hi
  exact pkF_mem.2 ⟨this.1, by omega⟩
end Go.Proofs.YtecgbelgoomneaaGreat
/- Words for memory: a slice that reads as a list; a call's answer in memory of its own; number by number, up to the first error. -/
namespace Go.Proofs.YtecgbelgoomneaaGreat
open Go.RowKit
set_option maxHeartbeats 400000
set_option maxRecDepth 100000
set_option linter.unusedVariables false
theorem info_i64 : (Tryz.prog.info? 2).map (fun i => (i.zero, i.size, i.bytes)) = some (some (.int .i64 0), 1, 8) := by kernel_rfl
def seqE (num : Nat → Int × Int) : Nat → Int
  | 0 => 0
  | n + 1 => if seqE num n = 0 then (num n).2 else seqE num n
theorem seqE_stays {num : Nat → Int × Int} {k : Nat} (h : seqE num k ≠ 0) : ∀ n, k ≤ n → seqE num n = seqE num k
  | 0, hn => by have : k = 0 := by omega
                subst this; rfl
  | n + 1, hn => by
    by_cases e : k = n + 1
    · rw [e]
    · have := seqE_stays h n (by omega)
      show (if seqE num n = 0 then (num n).2 else seqE num n) = _
      rw [this, if_neg h]
def seqV (num : Nat → Int × Int) (n : Nat) : List Int := if seqE num n = 0 then (List.range n).map fun k => (num k).1 else []
/-- A call's answer: a list of numbers, in memory of the call's own, and an error; nothing that was there has turned. -/
def OwnInts (xs : List Int) (er : Int) (w : World) (e : Ending) (w' : World) : Prop :=
  ∃ A c, e = .returned (.tuple #[.slice A xs.length c, .int .i64 er]) ∧ w'.ownsRow w.heap.size 2 1 (.slice A xs.length c) xs.length (xs.map (Value.int .i64)) ∧ Below w.heap.size w w'
theorem own_made {w w' : World} {n : Nat} {f : Nat → Value} {e : TypeId} {B b : Nat} (h : w.rowIs b e n f) (hB : B ≤ b) (hn : n ≤ maxLen) :
    w.ownsRow B e 1 (.slice (some ⟨b, 0, none⟩) n n) n ((List.range n).map f) := by
  obtain ⟨c, hb, hs, hc⟩ := h
  refine ⟨by simp, .inr ⟨b, n, c, rfl, hB, hb, Nat.le_refl _, hn, by omega, ?_⟩⟩
  apply List.ext_getElem?
  intro i
  by_cases hi : i < n
  · rw [List.getElem?_take_of_lt (by omega), Array.getElem?_toList, hc i hi]
    simp [hi]
  · rw [List.getElem?_eq_none (by simp; omega), List.getElem?_eq_none (by simp; omega)]
theorem own_nil (w : World) (B : Nat) (e : TypeId) : w.ownsRow B e 1 (.slice none 0 0) 0 [] := World.ownsRow_nil w B e 1

/-- A slice at A, whatever its capacity, reads as these things, in blocks below B. -/
def Rd {α : Type} (enc : α → Value) (w : World) (B : Nat) (A : Option Addr) (xs : List α) : Prop :=
  ∀ k x, xs[k]? = some x → ∃ b off, A = some ⟨b, off, none⟩ ∧ b < B ∧ w.cell? ⟨b, off + k, none⟩ = some (enc x)
section
variable {α : Type} {enc : α → Value} {w w' : World} {B B' : Nat} {A : Option Addr} {xs : List α}
theorem Rd.keep (h : Rd enc w B A xs) (hk : ∀ p : Addr, p.block < B → w'.cell? p = w.cell? p) : Rd enc w' B A xs := fun k x hx => by
  obtain ⟨b, off, e, hb, hc⟩ := h k x hx
  exact ⟨b, off, e, hb, (hk _ hb).trans hc⟩
theorem Rd.below (h : Rd enc w B A xs) (hb : Below B w w') : Rd enc w' B A xs := h.keep fun _ hp => hb.cell hp
theorem Rd.more (h : Rd enc w B A xs) (hB : B ≤ B') : Rd enc w B' A xs := fun k x hx => by
  obtain ⟨b, off, e, hb, hc⟩ := h k x hx
  exact ⟨b, off, e, by omega, hc⟩
/-- To a world from which nothing below its own start has turned. -/
theorem Rd.on (h : Rd enc w w.heap.size A xs) (hb : Below w.heap.size w w') : Rd enc w' w'.heap.size A xs := (h.below hb).more hb.size
theorem Rd.drewN (h : Rd enc w B A xs) (n : Nat) : Rd enc (w.drewN n) B A xs := h
theorem Rd.none_ : Rd enc w B A ([] : List α) := fun k x hx => by simp at hx
theorem Rd.at_ (h : Rd enc w B A xs) {k : Nat} (hk : k < xs.length) : ∃ b off x, A = some ⟨b, off, none⟩ ∧ b < B ∧ xs[k]? = some x ∧ w.cell? ⟨b, off + k, none⟩ = some (enc x) := by
  obtain ⟨b, off, e, hb, hc⟩ := h k xs[k] (List.getElem?_eq_getElem hk)
  exact ⟨b, off, xs[k], e, hb, List.getElem?_eq_getElem hk, hc⟩
theorem Rd.of_own {base n c : Nat} {e : TypeId} (h : w.ownsRow base e 1 (.slice A n c) n (xs.map enc)) : Rd enc w w.heap.size A xs := fun k x hx => by
  have hl : xs.length = n := by simpa using h.1
  have hk : k < xs.length := (List.getElem?_eq_some_iff.1 hx).1
  rcases h.2 with ⟨h', h0⟩ | ⟨g, cap, cur, h', _, hg, _⟩
  · omega
  · simp only [Value.slice.injEq] at h'
    obtain ⟨rfl, _, rfl⟩ := h'
    refine ⟨g, 0, rfl, ?_, ?_⟩
    · exact (Array.getElem?_eq_some_iff.1 hg).1
    · rw [Nat.zero_add, h.cellAt k (by omega)]
      simp [hx]
/-- Memory of the call's own: it lies from base on, and below the heap's end. -/
theorem own_rd {base c : Nat} {e : TypeId} (h : w.ownsRow base e 1 (.slice A xs.length c) xs.length (xs.map enc)) : Rd enc w w.heap.size A xs := .of_own h
/-- It stays where only what lies above its world's end turns. -/
theorem own_on {base n c : Nat} {e : TypeId} {vs : List Value} (h : w.ownsRow base e 1 (.slice A n c) n vs) (hb : Below w.heap.size w w') : w'.ownsRow base e 1 (.slice A n c) n vs := by
  refine ⟨h.1, ?_⟩
  rcases h.2 with hn | ⟨g, cap, cur, hv, hg, hh, r⟩
  · exact .inl hn
  · exact .inr ⟨g, cap, cur, hv, hg, (hb.block g (Array.getElem?_eq_some_iff.1 hh).1).trans hh, r⟩
theorem own_lt {base n c g : Nat} {e : TypeId} {vs : List Value} (h : w.ownsRow base e 1 (.slice (some ⟨g, 0, none⟩) n c) n vs) : g < w.heap.size := (h.lt g rfl).2
theorem own_base {base base' n c : Nat} {e : TypeId} {vs : List Value} (h : w.ownsRow base e 1 (.slice A n c) n vs) (hb : base' ≤ base) : w.ownsRow base' e 1 (.slice A n c) n vs := by
  refine ⟨h.1, ?_⟩
  rcases h.2 with hn | ⟨g, cap, cur, hv, hg, r⟩
  · exact .inl hn
  · exact .inr ⟨g, cap, cur, hv, by omega, r⟩
end
theorem lt_of_cell {w : World} {p : Addr} {v : Value} (h : w.cell? p = some v) : p.block < w.heap.size := by
  rcases Nat.lt_or_ge p.block w.heap.size with hlt | hge
  · exact hlt
  · rw [World.cell?, Array.getElem?_eq_none hge] at h; cases h
/-- Every one is an int64. -/
def I64s (xs : List Int) : Prop := ∀ x ∈ xs, I64 x
theorem I64s.at_ {xs : List Int} (h : I64s xs) {k : Nat} {x : Int} (hx : xs[k]? = some x) : I64 x := h x (List.mem_of_getElem? hx)
theorem getD_of {xs : List Int} {k : Nat} {x : Int} (hx : xs[k]? = some x) : xs.getD k 0 = x := by simp [List.getD, hx]
/-- Numbers added up, up to the first error. -/
def tot (num : Nat → Int × Int) : Nat → Int × Int
  | 0 => (0, 0)
  | n + 1 => if (tot num n).2 = 0 then (if (num n).2 = 0 then (ckV ((tot num n).1 + (num n).1), ckE ((tot num n).1 + (num n).1)) else (0, (num n).2)) else tot num n
theorem tot_stays {num : Nat → Int × Int} {k : Nat} (h : (tot num k).2 ≠ 0) : ∀ n, k ≤ n → tot num n = tot num k
  | 0, hn => by have : k = 0 := by omega
                subst this; rfl
  | n + 1, hn => by
    by_cases e : k = n + 1
    · rw [e]
    · have := tot_stays h n (by omega)
      rw [tot, this, if_neg h]
end Go.Proofs.YtecgbelgoomneaaGreat
/- Words that every layer's walks use: quiet calls, blocks just laid, lists that are the same. -/
namespace Go.Proofs.YtecgbelgoomneaaGreat
open Go.RowKit
set_option maxHeartbeats 400000
set_option maxRecDepth 100000
set_option linter.unusedVariables false
theorem quietL {P : Program} {f : FuncId} {args : Array Value} {w : World} {v : Value} (h : ∀ W : World, Calls P f args W fun e w' => e = .returned v ∧ W = w') (n : Nat) :
    Calls P f args (w.drewN n) fun e w' => e = .returned v ∧ ∃ m, w' = w.drewN m := (h _).mono fun _ _ ⟨he, hm⟩ => ⟨he, n, hm.symm⟩
theorem belowN (B : Nat) (w : World) (n : Nat) : Below B w (w.drewN n) := ⟨rfl, rfl, rfl, Nat.le_refl _, fun _ _ => rfl⟩
theorem two_cells (w : World) (u v : Value) (t s : TypeId) :
    ((w.alloc (.cells #[u] t)).alloc (.cells #[v] s)).cell? ⟨w.heap.size, 0, none⟩ = some u ∧ ((w.alloc (.cells #[u] t)).alloc (.cells #[v] s)).cell? ⟨w.heap.size + 1, 0, none⟩ = some v ∧
      Below w.heap.size w ((w.alloc (.cells #[u] t)).alloc (.cells #[v] s)) := by
  refine ⟨?_, ?_, by go_grown⟩ <;> simp [go_sem]
theorem one_cell (w : World) (u : Value) (t : TypeId) : (w.alloc (.cells #[u] t)).cell? ⟨w.heap.size, 0, none⟩ = some u ∧ Below w.heap.size w (w.alloc (.cells #[u] t)) := by
  refine ⟨?_, by go_grown⟩; simp [go_sem]
/-- Are they the same? -/
def eqB (xs ys : List Int) : Bool := decide (xs = ys)
theorem take_step {xs ys : List Int} {k : Nat} {x y : Int} (h : xs.take k = ys.take k) (hx : xs[k]? = some x) (hy : ys[k]? = some y) (e : x = y) : xs.take (k + 1) = ys.take (k + 1) := by
  rw [List.take_add_one, List.take_add_one, h, hx, hy, e]
theorem eqB_no {xs ys : List Int} {k : Nat} {x y : Int} (hx : xs[k]? = some x) (hy : ys[k]? = some y) (e : x ≠ y) : eqB xs ys = false := by
  unfold eqB
  rw [decide_eq_false_iff_not]
  rintro rfl
  rw [hx] at hy
  exact e (Option.some.inj hy)
theorem eqB_yes {xs ys : List Int} {k : Nat} (h : xs.take k = ys.take k) (hx : k = xs.length) (hl : xs.length = ys.length) : eqB xs ys = true := by
  unfold eqB
  rw [List.take_of_length_le (by omega), List.take_of_length_le (by omega)] at h
  simpa using h
theorem eqB_len {xs ys : List Int} (h : xs.length ≠ ys.length) : eqB xs ys = false := by
  unfold eqB
  rw [decide_eq_false_iff_not]
  rintro rfl
  exact h rfl
theorem eqB_self (xs : List Int) : eqB xs xs = true := by unfold eqB; simp
theorem rd_block {α : Type} {enc : α → Value} {w : World} {b : Nat} {t : TypeId} (xs : List α) (fr : Nat × Nat) (h : w.heap[b]? = some (.cells (xs.map enc).toArray t fr)) : Rd enc w w.heap.size (some ⟨b, 0, none⟩) xs := fun k x hx => by
  refine ⟨b, 0, rfl, (Array.getElem?_eq_some_iff.1 h).1, ?_⟩
  have hk := (List.getElem?_eq_some_iff.1 hx)
  rw [Nat.zero_add, cell_of_row w b k _ t fr h]
  simp [hx]
theorem rd_new {α : Type} {enc : α → Value} (w : World) (t : TypeId) (xs : List α) : Rd enc (w.alloc (.cells (xs.map enc).toArray t)) (w.alloc (.cells (xs.map enc).toArray t)).heap.size (some ⟨w.heap.size, 0, none⟩) xs := rd_block xs (0, 0) (heap_alloc_new w _)
/-- A list just laid, in memory of the call's own. -/
theorem own_new {α : Type} {enc : α → Value} (w : World) (t : TypeId) (xs : List α) (hm : xs.length ≤ maxLen) {B : Nat} (hB : B ≤ w.heap.size) :
    (w.alloc (.cells (xs.map enc).toArray t)).ownsRow B t 1 (.slice (some ⟨w.heap.size, 0, none⟩) xs.length xs.length) xs.length (xs.map enc) := by
  have := World.ownsRow_lit (base := B) (e := t) (size := 1) w (xs.map enc).toArray xs.length hB hm (by simp)
  simpa using this
/-- What the call's own list's room is. -/
theorem own_cap {w : World} {base n c : Nat} {e : TypeId} {A : Option Addr} {vs : List Value} (h : w.ownsRow base e 1 (.slice A n c) n vs) : n ≤ c ∧ c ≤ 9223372036854775807 := by
  rcases h.2 with ⟨he, h0⟩ | ⟨g, cap, cur, he, _, _, h1, h2, _⟩
  · simp only [Value.slice.injEq] at he
    omega
  · simp only [Value.slice.injEq] at he
    unfold maxLen at h2
    omega
theorem own_cellk {w : World} {q : IntKind} {A : Option Addr} {base n c k : Nat} {e : TypeId} {zs : List Int} (h : w.ownsRow base e 1 (.slice A n c) n (zs.map (Value.int q))) (hk : k < zs.length) :
    ∃ g, A = some ⟨g, 0, none⟩ ∧ base ≤ g ∧ w.cell? ⟨g, k, none⟩ = some (.int q (zs.getD k 0)) ∧ w.frozen? ⟨g, k, none⟩ = false := by
  have hl : zs.length = n := by simpa using h.1
  have h' := h
  rcases h.2 with ⟨he, h0⟩ | ⟨g, cap, cur, he, hg, _⟩
  · omega
  · simp only [Value.slice.injEq] at he
    obtain ⟨rfl, _, rfl⟩ := he
    refine ⟨g, rfl, hg, ?_, h'.frozenAt k⟩
    rw [h'.cellAt k (by omega)]
    simp [List.getD, hk]
/-- Room made ahead. -/
theorem run_room {P : Program} (t e : TypeId) (z : Value) (bytes : Nat) (ht : P.underlying t = some (.slice e)) (hinfo : (P.info? e).map (fun i => (i.zero, i.size, i.bytes)) = some (some z, 1, bytes)) (hz1 : z.cells = #[z])
    (c : Nat) (hbytes : bytes * c ≤ 281474976710656) (h63 : c ≤ 9223372036854775807) (w : World) :
    (Instr.makeSlice t (.int .i64 0) (.int .i64 (c : Int))).run P w = .ok (.slice (some ⟨w.heap.size, 0, none⟩) 0 c) (w.alloc (.cells (madeCells #[z] c) e)) := by
  obtain ⟨i, hi, hzz⟩ := Option.map_eq_some_iff.1 hinfo
  simp only [Prod.mk.injEq] at hzz
  obtain ⟨hz, hs, hb⟩ := hzz
  have h : ((i.bytes * c : Nat) : Int) ≤ 281474976710656 := by rw [hb]; omega
  have hr := run_make (P := P) w t e i z ht hi hz .i64 .i64 0 c (Int.le_refl _) (by omega) (by rwa [Int.natCast_mul] at h) (by omega)
  simp only [Int.toNat_natCast, hs, Nat.mul_one, hz1, Int.toNat_zero] at hr
  exact hr
theorem own_room (w : World) (t : TypeId) (z : Value) (c : Nat) (hc : c ≤ maxLen) {B : Nat} (hB : B ≤ w.heap.size) :
    (w.alloc (.cells (madeCells #[z] c) t)).ownsRow B t 1 (.slice (some ⟨w.heap.size, 0, none⟩) 0 c) 0 [] :=
  World.ownsRow_made w _ c hB hc (by rw [size_madeCells, Nat.mul_one])
/-- Where what is left of a slice lies. -/
def cutA (A : Option Addr) (k c : Nat) : Option Addr := if c = k then A else A.map (·.add k)
theorem run_upto {P : Program} (t : TypeId) (ht : P.underlying t = some (.slice (P.elem t))) (hs : ∀ w, (sizeOf (P.elem t)).run P w = .ok 1 w) (A : Option Addr) (len c k : Nat) (hk : k ≤ c) (w : World) :
    (Instr.slice t (.slice A len c) none (some (.int .i64 (k : Int))) none).run P w = .ok (.slice (cutA A 0 c) k c) w := by
  rw [run_slice_h w t A len c ht .i64 (k : Int) (by omega) (by omega)]
  simp [hs, sliced, cutA, Result.andThen]
theorem Rd.cut {α : Type} {enc : α → Value} {w : World} {B : Nat} {A : Option Addr} {xs : List α} {c : Nat} (h : Rd enc w B A xs) (k : Nat) (hc : xs.length ≤ c) : Rd enc w B (cutA A k c) (xs.drop k) := fun j x hx => by
  unfold cutA
  by_cases e : c = k
  · rw [List.drop_eq_nil_of_le (by omega)] at hx
    simp at hx
  · rw [if_neg e]
    rw [List.getElem?_drop] at hx
    obtain ⟨b, off, rfl, hb, hc⟩ := h (k + j) x hx
    refine ⟨b, off + k, by simp [Go.WideShapes.add_plain], hb, ?_⟩
    rw [Nat.add_assoc]
    exact hc
theorem Rd.some_cut {α : Type} {enc : α → Value} {w : World} {B : Nat} {A : Option Addr} {xs : List α} (h : Rd enc w B A xs) (k : Nat) : Rd enc w B A (xs.take k) := fun j x hx => h j x (by
  rw [List.getElem?_take] at hx
  split at hx
  · exact hx
  · simp at hx)
theorem Rd.cut0 {α : Type} {enc : α → Value} {w : World} {B : Nat} {A : Option Addr} {xs : List α} {c : Nat} (h : Rd enc w B A xs) (hc : xs.length ≤ c) (k : Nat) : Rd enc w B (cutA A 0 c) (xs.take k) := by
  have := (h.cut 0 hc).some_cut k
  rwa [List.drop_zero] at this
end Go.Proofs.YtecgbelgoomneaaGreat
/- Words for bytes and numbers of 64 bits: their types, a list that a call tells. -/
namespace Go.Proofs.YtecgbelgoomneaaGreat
open Go.RowKit
set_option maxRecDepth 100000
set_option linter.unusedVariables false
theorem cells_i64' : Tryz.prog.cellsOf 2 = 1 := by kernel_rfl
theorem info_u8 : (Tryz.prog.info? 5).map (fun i => (i.zero, i.size, i.bytes)) = some (some (.int .u8 0), 1, 1) := by kernel_rfl
theorem info_u64 : (Tryz.prog.info? 25).map (fun i => (i.zero, i.size, i.bytes)) = some (some (.int .u64 0), 1, 8) := by kernel_rfl
/-- A call's answer: a list in memory that lies from base on; nothing below base has turned. -/
def OwnOf (t : TypeId) (k : IntKind) (base : Nat) (xs : List Int) (w : World) (e : Ending) (w' : World) : Prop :=
  ∃ A c, e = .returned (.slice A xs.length c) ∧ w'.ownsRow base t 1 (.slice A xs.length c) xs.length (xs.map (Value.int k)) ∧ Below base w w'
theorem OwnOf.onto {t : TypeId} {k : IntKind} {xs : List Int} {B : Nat} {w wl w' : World} {e : Ending} (h : OwnOf t k wl.heap.size xs wl e w') (hb : Below B w wl) (hB : B ≤ wl.heap.size) : OwnOf t k B xs w e w' := by
  obtain ⟨A, c, he, ho, hk⟩ := h
  exact ⟨A, c, he, own_base ho hB, hb.trans (hk.mono hB)⟩
/-- A call's answer: a list in memory of the call's own, and a number beside it (an error). -/
def OwnE (t : TypeId) (k : IntKind) (base : Nat) (xs : List Int) (er : Int) (w : World) (e : Ending) (w' : World) : Prop :=
  ∃ A c, e = .returned (.tuple #[.slice A xs.length c, .int .i64 er]) ∧ w'.ownsRow base t 1 (.slice A xs.length c) xs.length (xs.map (Value.int k)) ∧ Below base w w'
theorem OwnE.nil {t : TypeId} {k : IntKind} {base : Nat} {er : Int} {w w' : World} (hb : Below base w w') : OwnE t k base [] er w (.returned (.tuple #[.slice none 0 0, .int .i64 er])) w' := ⟨none, 0, rfl, own_nil _ _ _, hb⟩
theorem ret1 {k : IntKind} {x y : Int} (h : x = y) : Ending.returned (Value.int k x) = Ending.returned (Value.int k y) := by rw [h]
end Go.Proofs.YtecgbelgoomneaaGreat
/- Texts that are the same, lists of numbers that are, as the document tells them. -/
/- 'append' onto a list of the call's own, whatever list is appended: the walk goes on in one way. -/
namespace Go.Proofs.YtecgbelgoomneaaGreat
open Go.RowKit
set_option maxRecDepth 100000
set_option linter.unusedVariables false
section
variable {P : Program} {α : Type}
theorem app_nothing (w : World) (base : Nat) (t ty e : TypeId) (i : TypeInfo) (ht : P.underlying t = some (.slice e)) (hi : P.info? e = some i)
    (v : Value) (n : Nat) (vs : List Value) (hown : w.ownsRow base e 1 v n vs) (c : Nat) : (Builtin.append_ #[t, t] ty #[v, .slice none 0 c]).run P w = .ok v w := by
  rcases hown.2 with ⟨rfl, rfl⟩ | ⟨g, cap, cur, rfl, _, _, hnc, _⟩
  · simp [Builtin.append_, run_underlying ht, sizeOf, typeInfo, hi, Builtin.lenOf, Builtin.firstCells]
  · simp [Builtin.append_, run_underlying ht, sizeOf, typeInfo, hi, Builtin.lenOf, Builtin.firstCells, hnc, storeCells]
/-- The value of a list of the call's own. -/
theorem own_shape {w : World} {base n : Nat} {e : TypeId} {v : Value} {vs : List Value} (h : w.ownsRow base e 1 v n vs) : ∃ A c, v = .slice A n c := by
  rcases h.2 with ⟨rfl, rfl⟩ | ⟨g, cap, cur, rfl, _⟩
  · exact ⟨_, _, rfl⟩
  · exact ⟨_, _, rfl⟩
theorem run_app (enc : α → Value) (h1 : ∀ x, (enc x).oneCell' = true) (w : World) (base : Nat) (t ty e : TypeId) (z : Value) (bytes : Nat) (ht : P.underlying t = some (.slice e))
    (hinfo : (P.info? e).map (fun i => (i.zero, i.size, i.bytes)) = some (some z, 1, bytes)) (hzs : z.cells.size = 1)
    (ys : List α) (A0 : Option Addr) (c0 : Nat) (hown : w.ownsRow base e 1 (.slice A0 ys.length c0) ys.length (ys.map enc))
    (xs : List α) (A : Option Addr) (c B : Nat) (hr : Rd enc w B A xs) (h63 : ys.length + xs.length ≤ maxLen) (hbytes : (ys.length + xs.length) * bytes ≤ 140737488355328) (hbase : base ≤ w.heap.size) :
    ∃ A' c' w', (Builtin.append_ #[t, t] ty #[.slice A0 ys.length c0, .slice A xs.length c]).run P w = .ok (.slice A' (ys ++ xs).length c') w' ∧ w'.ownsRow base e 1 (.slice A' (ys ++ xs).length c') (ys ++ xs).length ((ys ++ xs).map enc) ∧
      Below base w w' ∧ w.grownBy w' (Value.slice A0 ys.length c0).ownBlock ∧ ((Value.slice A' (ys ++ xs).length c').ownBlock = (Value.slice A0 ys.length c0).ownBlock ∨ (Value.slice A' (ys ++ xs).length c').ownBlock = some w.heap.size) := by
  obtain ⟨i, hi, hzz⟩ := Option.map_eq_some_iff.1 hinfo
  simp only [Prod.mk.injEq] at hzz
  obtain ⟨hz, hs, hb⟩ := hzz
  have hlen : (ys ++ xs).length = ys.length + xs.length := List.length_append
  rcases A with _ | ad
  · have hx : xs = [] := by
      cases xs with
      | nil => rfl
      | cons x xs =>
        obtain ⟨_, _, he, _⟩ := hr 0 x rfl
        cases he
    subst hx
    rw [List.append_nil]
    exact ⟨A0, c0, w, app_nothing w base t ty e i ht hi _ _ _ hown c, hown, Below.refl _ _, World.grownBy.refl w _, .inl rfl⟩
  · have hcells : ∀ j u, (xs.map enc)[j]? = some u → w.cell? (ad.add j) = some u := by
      intro j u hu
      rw [List.getElem?_map, Option.map_eq_some_iff] at hu
      obtain ⟨x, hx, rfl⟩ := hu
      obtain ⟨b, off, he, _, hc⟩ := hr j x hx
      injection he with he
      subst he
      rw [Addr.add_lit]
      exact hc
    obtain ⟨v', w', hrun, h2, h3, _, h5⟩ := run_append_own_at (P := P) w base t ty e i z 1 bytes ht hi hz hs hb hzs (by decide) _ ys.length (ys.map enc) hown ad xs.length c (xs.map enc) (by simp) hcells (by
      intro u hu
      obtain ⟨x, _, rfl⟩ := List.mem_map.1 hu
      exact h1 x) h63 hbytes hbase
    obtain ⟨A', c', rfl⟩ := own_shape h2
    rw [← List.map_append] at h2
    rw [← hlen] at h2 hrun h5
    refine ⟨A', c', w', hrun, h2, (Below.refl base w).grown h3 hbase fun k hk => (hown.lt k hk).1, h3, h5⟩
theorem wpList_app (enc : α → Value) (h1 : ∀ x, (enc x).oneCell' = true) (w : World) {ops : Array Oper} {rest : List Oper} {o : Oper} {a : Act} {Q : Exit → Act → World → Prop} (hgd : o.guard = none) (s x : Operand) (t : TypeId)
    (ho : o.op = .call { callee := .builtin .append, args := #[s, x], argTypes := #[t, t] })
    (base : Nat) (e : TypeId) (z : Value) (bytes : Nat) (ht : P.underlying t = some (.slice e)) (hinfo : (P.info? e).map (fun i => (i.zero, i.size, i.bytes)) = some (some z, 1, bytes)) (hzs : z.cells.size = 1)
    (ys : List α) (A0 : Option Addr) (c0 : Nat) (hs : a.eval s = .slice A0 ys.length c0) (hown : w.ownsRow base e 1 (.slice A0 ys.length c0) ys.length (ys.map enc))
    (xs : List α) (A : Option Addr) (c B : Nat) (hx : a.eval x = .slice A xs.length c) (hr : Rd enc w B A xs) (h63 : ys.length + xs.length ≤ maxLen) (hbytes : (ys.length + xs.length) * bytes ≤ 140737488355328) (hbase : base ≤ w.heap.size)
    (h : ∀ (S : List α) (A' : Option Addr) (c' : Nat) (w' : World), S = ys ++ xs → w'.ownsRow base e 1 (.slice A' S.length c') S.length (S.map enc) → Below base w w' → w.grownBy w' (Value.slice A0 ys.length c0).ownBlock → wpList P ops Q rest (a.put o.dst (.slice A' S.length c')) w') :
    wpList P ops Q (o :: rest) a w := by
  refine wpList_plain hgd fun _ hK => ?_
  obtain ⟨A', c', w', hrun, h2, h3, h4, _⟩ := run_app (P := P) enc h1 w base t o.type e z bytes ht hinfo hzs ys A0 c0 hown xs A c B hr h63 hbytes hbase
  unfold Oper.wp execOp
  simp only [ho, resolve, invoke, builtin, Sem.run_bind, Sem.run_pure, Result.andThen_ok, List.map_toArray, List.map_cons, List.map_nil, hs, hx, hrun]
  exact hK _ _ (h _ A' c' w' rfl h2 h3 h4)
/-- One thing appended: it lies in a cell of its own. -/
theorem rd_one {enc : α → Value} {w : World} {b o : Nat} {x : α} (hc : w.cell? ⟨b, o, none⟩ = some (enc x)) : Rd enc w w.heap.size (some ⟨b, o, none⟩) [x] := fun k y hy => by
  cases k with
  | zero =>
    simp only [List.getElem?_cons_zero, Option.some.injEq] at hy
    subst hy
    exact ⟨b, o, rfl, lt_of_cell hc, hc⟩
  | succ k => simp at hy
end
end Go.Proofs.YtecgbelgoomneaaGreat
/- Lists that are the same, by the document (thrumref06). -/
namespace Go.Proofs.YtecgbelgoomneaaGreat
open Go.RowKit
set_option maxHeartbeats 400000
set_option maxRecDepth 100000
set_option linter.unusedVariables false
theorem info_int : (Tryz.prog.info? 3).map (fun i => (i.zero, i.size, i.bytes)) = some (some (.int .i64 0), 1, 8) := by kernel_rfl
theorem cells_int : Tryz.prog.cellsOf 3 = 1 := by kernel_rfl
theorem drewN_two (w : World) (n m : Nat) : ∃ k, (w.drewN n).drewN m = w.drewN k := ⟨n + m, by simp⟩
theorem ref_Equal {A B : Option Addr} {c d : Nat} (xs ys : List Int) (hx : xs.length ≤ 9223372036854775807) (hy : ys.length ≤ 9223372036854775807) (w : World) {L M : Nat}
    (ra : Rd (Value.int .i64) w L A xs) (rb : Rd (Value.int .i64) w M B ys) :
    Calls Tryz.prog 39 #[.slice A xs.length c, .slice B ys.length d] w fun e w' => e = .returned (.bool (eqB xs ys)) ∧ ∃ n, w' = w.drewN n := by
  by_cases hl : xs.length = ys.length
  · have HA := hid ra
    have HB := hid rb
    clear ra rb
    have h1 : ((xs.length : Int) != (ys.length : Int)) = false := by simp; omega
    have h2 : (xs.length != ys.length) = false := by simp; omega
    have HL := hid hl
    clear hl
    go_enter Tryz.func39, Tryz.ntmps39
    go_wp2_with fail
    clear h1 h2
    go_loopw [13] (fun i wr => ∃ k : Nat, k ≤ xs.length ∧ i = .int .i64 k ∧ xs.take k = ys.take k ∧ ∃ n, wr = w.drewN n) (fun i _ => xs.length - (intOf i).toNat)
    case atStart => exact ⟨0, by omega, rfl, rfl, 0, rfl⟩
    case round =>
      obtain ⟨k, hk, rfl, ht, n, rfl⟩ := hrel
      have HT := hid ht
      clear ht
      by_cases hlt : k < xs.length
      · have hlt2 : k < ys.length := by have := HL.out; omega
        obtain ⟨b1, o1, x, rfl, l1, ex, c1⟩ := HA.out.at_ hlt
        obtain ⟨b2, o2, y, rfl, l2, ey, c2⟩ := HB.out.at_ hlt2
        have EX := hid ex
        have EY := hid ey
        clear ex ey
        by_cases e : x = y
        · have e' : (x != y) = false := by simpa using e
          have E := hid e
          clear e
          go_wp2_with fail
          go_quiet (fail)
          go_wp2_with fail
          go_roundw
          case rel => exact ⟨k + 1, by omega, by go_num, take_step HT.out EX.out EY.out E.out, _, rfl⟩
          case measure => simp [intOf]; omega
        · have e' : (x != y) = true := by simpa using e
          go_wp2_with fail
          go_quiet (fail)
          go_wp2_with fail
          go_ret
          rw [eqB_no EX.out EY.out e]
          exact ⟨rfl, drewN_two _ _ _⟩
      · have hke : k = xs.length := by omega
        have HK := hid hke
        clear hke
        go_wp2_with fail
        go_ret
        rw [eqB_yes HT.out HK.out HL.out]
        exact ⟨rfl, _, rfl⟩
  · rw [eqB_len hl]
    have h1 : ((xs.length : Int) != (ys.length : Int)) = true := by simp; omega
    have h2 : (xs.length != ys.length) = true := by simp; omega
    go_enter Tryz.func39, Tryz.ntmps39
    go_wp2_with fail
    go_ret
    exact ⟨rfl, 0, rfl⟩
end Go.Proofs.YtecgbelgoomneaaGreat
/- Lists that are the same, that rise, places of a dimension, where a number stands: by the document. -/
namespace Go.Proofs.YtecgbelgoomneaaGreat
open Go.RowKit
set_option maxHeartbeats 400000
set_option maxRecDepth 100000
set_option linter.unusedVariables false
theorem ris_small {l : List Int} (h : l.length ≤ 1) : risP l := by
  cases l with
  | nil => exact ris_nil
  | cons x l => cases l with
    | nil => exact ris_one x
    | cons y l => simp at h
theorem ref_rises {A : Option Addr} {c : Nat} (l : List Int) (hl : l.length ≤ 9223372036854775807) (w : World) {B : Nat} (ra : Rd (Value.int .i64) w B A l) :
    Calls Tryz.prog 140 #[.slice A l.length c] w fun e w' => e = .returned (.bool (risB l)) ∧ ∃ n, w' = w.drewN n := by
  have HA := hid ra
  have HY : Hid (risP l → risB l = true) := hid (fun h => decide_eq_true h)
  have HN : Hid (¬ risP l → risB l = false) := hid (fun h => decide_eq_false h)
  obtain ⟨R, hR⟩ : ∃ R, risB l = R := ⟨_, rfl⟩
  rw [hR] at HY HN ⊢
  clear ra hR
  go_enter Tryz.func140, Tryz.ntmps140
  go_wp2_with fail
  go_loopw [3] (fun i wr => ∃ k : Nat, 1 ≤ k ∧ (k ≤ l.length ∨ k = 1) ∧ i = .int .i64 k ∧ risP (l.take k) ∧ ∃ n, wr = w.drewN n) (fun i _ => l.length - (intOf i).toNat)
  case atStart => exact ⟨1, by omega, by omega, rfl, ris_small (by rw [List.length_take]; omega), 0, rfl⟩
  case round =>
    obtain ⟨k, hk1, hk, rfl, ht, n, rfl⟩ := hrel
    have HT := hid ht
    clear ht
    by_cases hlt : k < l.length
    · obtain ⟨j, rfl⟩ : ∃ j, k = j + 1 := ⟨k - 1, by omega⟩
      have hj : j < l.length := by omega
      obtain ⟨b1, o1, y, rfl, l1, ey, c1⟩ := HA.out.at_ hlt
      obtain ⟨b2, o2, x, e2, l2, ex, c2⟩ := HA.out.at_ hj
      injection e2 with e2
      injection e2 with e2 e3
      subst e2 e3
      have hji : ((j + 1 : Nat) : Int) - 1 = (j : Int) := by omega
      have hjc : ((j + 1 : Nat) : Int) = (j : Int) + 1 := by omega
      have hi0 : (0 : Int) ≤ (j : Int) := by omega
      have hi1 : (j : Int) < (l.length : Int) := by omega
      have EX := hid ex
      have EY := hid ey
      clear ex ey hk1 hk
      by_cases e : y ≤ x
      · have hR := HN.out (ris_no EX.out EY.out (by omega) e)
        subst hR
        go_wp2_with fail
        go_quiet (fail)
        go_wp2_with fail
        go_ret
        exact ⟨rfl, drewN_two _ _ _⟩
      · have e' : x < y := by omega
        go_wp2_with fail
        go_quiet (fail)
        go_wp2_with fail
        go_roundw
        case rel => exact ⟨j + 1 + 1, by omega, by omega, by go_num, ris_step HT.out EY.out (Or.inr ⟨EX.out, e'⟩), _, rfl⟩
        case measure => simp [intOf]; omega
    · have hR := HY.out (by have h := HT.out; rw [List.take_of_length_le (by omega)] at h; exact h)
      subst hR
      go_wp2_with fail
      go_ret
      exact ⟨rfl, _, rfl⟩
theorem ref_Check {A : Option Addr} {c : Nat} (dim : Int) (l : List Int) (hd : I64 dim) (hl : l.length ≤ 9223372036854775807) (w : World) {B : Nat} (ra : Rd (Value.int .i64) w B A l) :
    Calls Tryz.prog 93 #[.int .i64 dim, .slice A l.length c] w fun e w' => e = .returned (.int .i64 (chkE dim l)) ∧ ∃ n, w' = w.drewN n := by
  have C := hid (ref_rises (c := c) l hl w ra)
  have HY : Hid (plcP dim l → chkE dim l = 0) := hid (fun h => chk_ok.2 h)
  have HN : Hid (¬ plcP dim l → chkE dim l = 1) := hid chk_no
  obtain ⟨R, hR⟩ : ∃ R, chkE dim l = R := ⟨_, rfl⟩
  rw [hR] at HY HN ⊢
  unfold I64 at hd
  clear hR
  by_cases h1 : dim < 1
  · have hR := HN.out (fun h => by have := h.1; omega)
    subst hR
    clear HY HN C ra
    go_enter Tryz.func93, Tryz.ntmps93
    go_wp2_with fail
    go_ret
    exact ⟨rfl, 0, rfl⟩
  · by_cases h2 : 4096 < dim
    · have hR := HN.out (fun h => by have := h.2.1; omega)
      subst hR
      clear HY HN C ra
      go_enter Tryz.func93, Tryz.ntmps93
      go_wp2_with fail
      go_ret
      exact ⟨rfl, 0, rfl⟩
    · by_cases h3 : risP l
      · rw [show risB l = true from decide_eq_true h3] at C
        have HA := hid ra
        have HR := hid h3
        clear ra h3
        go_enter Tryz.func93, Tryz.ntmps93
        go_wp2_with fail
        refine C.out.mono ?_
        rintro _ _ ⟨rfl, n0, rfl⟩
        go_wp2_with fail
        go_loopw [6, 20] (fun n0 i wr => ∃ k : Nat, k ≤ l.length ∧ i = .int .i64 k ∧ (∀ n ∈ l.take k, 0 ≤ n ∧ n < dim) ∧ ∃ n, wr = w.drewN n) (fun _ i _ => l.length - (intOf i).toNat)
        case atStart => exact ⟨0, by omega, rfl, by simp, n0, rfl⟩
        case round =>
          obtain ⟨k, hk, rfl, ht, n, rfl⟩ := hrel
          have HT := hid ht
          clear ht
          by_cases hlt : k < l.length
          · obtain ⟨b1, o1, y, rfl, l1, ey, c1⟩ := HA.out.at_ hlt
            have EY := hid ey
            clear ey
            by_cases a : y < 0
            · have hR := HN.out (fun h => by have := h.2.2.2 y (List.mem_of_getElem? EY.out); omega)
              subst hR
              go_wp2_with fail
              go_ret
              exact ⟨rfl, _, rfl⟩
            · by_cases b : dim ≤ y
              · have hR := HN.out (fun h => by have := h.2.2.2 y (List.mem_of_getElem? EY.out); omega)
                subst hR
                go_wp2_with fail
                go_ret
                exact ⟨rfl, _, rfl⟩
              · have a' : 0 ≤ y := by omega
                have b' : y < dim := by omega
                go_wp2_with fail
                go_roundw
                case rel =>
                  refine ⟨k + 1, by omega, by go_num, ?_, _, rfl⟩
                  intro z hz
                  rw [take_snoc EY.out] at hz
                  rcases List.mem_append.1 hz with hz | hz
                  · exact HT.out z hz
                  · simp at hz; omega
                case measure => simp [intOf]; omega
          · have hR := HY.out ⟨by omega, by omega, HR.out, by have h := HT.out; rw [List.take_of_length_le (by omega)] at h; exact h⟩
            subst hR
            go_wp2_with fail
            go_ret
            exact ⟨rfl, _, rfl⟩
      · rw [show risB l = false from decide_eq_false h3] at C
        have hR := HN.out (fun h => h3 h.2.2.1)
        subst hR
        clear HY HN ra h3
        go_enter Tryz.func93, Tryz.ntmps93
        go_wp2_with fail
        refine C.out.mono ?_
        rintro _ _ ⟨rfl, n0, rfl⟩
        go_wp2_with fail
        go_ret
        exact ⟨rfl, _, rfl⟩
theorem ref_in {A : Option Addr} {c : Nat} (l : List Int) (n : Int) (hl : l.length ≤ 9223372036854775807) (w : World) {B : Nat} (ra : Rd (Value.int .i64) w B A l) :
    Calls Tryz.prog 178 #[.slice A l.length c, .int .i64 n] w fun e w' => e = .returned (.bool (hasB l n)) ∧ w = w' := by
  have HA := hid ra
  have HY : Hid (n ∈ l → hasB l n = true) := hid (fun h => decide_eq_true h)
  have HN : Hid (n ∉ l → hasB l n = false) := hid (fun h => decide_eq_false h)
  obtain ⟨R, hR⟩ : ∃ R, hasB l n = R := ⟨_, rfl⟩
  rw [hR] at HY HN ⊢
  clear ra hR
  go_enter Tryz.func178, Tryz.ntmps178
  go_wp2_with fail
  go_loop [6, 9] (fun x0 i => ∃ k : Nat, k ≤ l.length ∧ i = .int .i64 k ∧ n ∉ l.take k) (fun _ i => l.length - (intOf i).toNat)
  case atStart => exact ⟨0, by omega, rfl, by simp⟩
  case round =>
    obtain ⟨k, hk, rfl, ht⟩ := hrel
    have HT := hid ht
    clear ht
    by_cases hlt : k < l.length
    · obtain ⟨b1, o1, y, rfl, l1, ey, c1⟩ := HA.out.at_ hlt
      have EY := hid ey
      clear ey
      by_cases a : y = n
      · have hR := HY.out (by rw [← a]; exact List.mem_of_getElem? EY.out)
        subst hR
        have a' : (y == n) = true := by simpa using a
        clear a
        go_wp2_with fail
        go_ret
        exact ⟨rfl, rfl⟩
      · have a' : (y == n) = false := by simpa using a
        go_wp2_with fail
        go_round
        case rel =>
          refine ⟨k + 1, by omega, by go_num, ?_⟩
          rw [take_snoc EY.out]
          intro hz
          rcases List.mem_append.1 hz with hz | hz
          · exact HT.out hz
          · simp at hz; omega
        case measure => simp [intOf]; omega
    · have hR := HN.out (by have h := HT.out; rw [List.take_of_length_le (by omega)] at h; exact h)
      subst hR
      go_wp2_with fail
      go_ret
      exact ⟨rfl, rfl⟩
end Go.Proofs.YtecgbelgoomneaaGreat
/- Sizes, which place is ahead, an order of all: by the document. -/
namespace Go.Proofs.YtecgbelgoomneaaGreat
open Go.RowKit
set_option maxHeartbeats 400000
set_option maxRecDepth 100000
set_option linter.unusedVariables false
/-- An order's error, and the order. -/
def orkE (v : List Int) : Int := if 4096 < v.length then 3 else 0
def orkV (v : List Int) : List Int := if orkE v = 0 then (ordT v).map fun (i : Nat) => (i : Int) else []
theorem orkE_ok {v : List Int} : orkE v = 0 ↔ v.length ≤ 4096 := by unfold orkE; split <;> omega
theorem orkV_len {v : List Int} (h : orkE v = 0) : (orkV v).length = v.length := by unfold orkV; rw [if_pos h, List.length_map, ordT_len]
/-- The places found by those below m. -/
def oF (v : List Int) (m j : Nat) : Nat := if atR v j < m then atR v j else 0
theorem oF_step {v : List Int} {m j : Nat} (hm : m < v.length) (hj : j < v.length) : oF v (m + 1) j = if j = rkN v m then m else oF v m j := by
  obtain ⟨h1, h2⟩ := atR_is hj
  by_cases e : j = rkN v m
  · have e2 : atR v j = m := by rw [e, atR_of hm]
    unfold oF
    rw [if_pos e, e2, if_pos (by omega)]
  · have e2 : atR v j ≠ m := fun h => e (by rw [← h2, h])
    unfold oF
    rw [if_neg e]
    by_cases h3 : atR v j < m
    · rw [if_pos h3, if_pos (by omega)]
    · rw [if_neg h3, if_neg (by omega)]
theorem oF_all {v : List Int} {j : Nat} (hj : j < v.length) : oF v v.length j = atR v j := if_pos (atR_is hj).1
theorem szN_le {n : Int} (h : I64 n) : szN n ≤ 9223372036854775808 := by unfold szN; unfold I64 at h; omega
theorem ref_Size9 (n : Int) (hn : I64 n) (w : World) :
    Calls Tryz.prog 133 #[.int .i64 n] w fun e w' => e = .returned (.int .u64 (szN n : Int)) ∧ w = w' := by
  unfold I64 at hn
  have hs : Hid (n < 0 → (szN n : Int) = -n) := hid (fun h => by unfold szN; omega)
  have hp : Hid (¬ n < 0 → (szN n : Int) = n) := hid (fun h => by unfold szN; omega)
  obtain ⟨z, hz⟩ : ∃ z, (szN n : Int) = z := ⟨_, rfl⟩
  rw [hz] at hs hp ⊢
  clear hz
  by_cases h : n < 0
  · rw [hs.out h]
    have e1 : IntKind.i64.wrap (n + 1) = n + 1 := by rw [IntKind.wrap_i64]; omega
    have e2 : IntKind.i64.wrap (-(n + 1)) = -(n + 1) := by rw [IntKind.wrap_i64]; omega
    have e3 : IntKind.u64.wrap (-(n + 1)) = -(n + 1) := by rw [IntKind.wrap_u64]; omega
    have e4 : IntKind.u64.wrap (-(n + 1) + 1) = -n := by rw [IntKind.wrap_u64]; omega
    clear hs hp
    go_enter Tryz.func133, Tryz.ntmps133
    go_wp2_with fail
    go_ret
    exact ⟨by simp <;> omega, rfl⟩
  · rw [hp.out h]
    have e1 : IntKind.u64.wrap n = n := by rw [IntKind.wrap_u64]; omega
    clear hs hp
    go_enter Tryz.func133, Tryz.ntmps133
    go_wp2_with fail
    go_ret
    exact ⟨by simp <;> omega, rfl⟩
theorem ret_of9 {v R : Bool} (h : v = true ↔ R = true) : Ending.returned (Value.bool v) = Ending.returned (Value.bool R) := by
  have : v = R := by cases v <;> cases R <;> simp_all
  rw [this]
theorem ref_Ahead {A : Option Addr} {c : Nat} (v : List Int) (uv : ∀ x ∈ v, I64 x) (i k : Nat) (hi : i < v.length) (hk : k < v.length) (hl : v.length ≤ 9223372036854775807) (w : World) {B : Nat} (ra : Rd (Value.int .i64) w B A v) :
    Calls Tryz.prog 177 #[.slice A v.length c, .int .i64 (i : Int), .int .i64 (k : Int)] w fun e w' => e = .returned (.bool (ahB v i k)) ∧ w = w' := by
  obtain ⟨b1, o1, x, rfl, l1, ex, c1⟩ := ra.at_ hi
  obtain ⟨b2, o2, y, e2, l2, ey, c2⟩ := ra.at_ hk
  injection e2 with e2
  injection e2 with e2 e3
  subst e2 e3
  have hx := uv x (List.mem_of_getElem? ex)
  have hy := uv y (List.mem_of_getElem? ey)
  have CX := hid (ref_Size9 x hx w)
  have CY := hid (ref_Size9 y hy w)
  have HR : Hid (ahB v i k = true ↔ ((szN y : Int) < szN x ∨ ((szN x : Int) = szN y ∧ i < k))) := hid (by
    rw [ahB_iff, getD_of ex, getD_of ey]
    constructor <;> rintro (h | h) <;> first | exact .inl (by omega) | exact .inr ⟨by omega, h.2⟩)
  obtain ⟨R, hR⟩ : ∃ R, ahB v i k = R := ⟨_, rfl⟩
  rw [hR] at HR ⊢
  obtain ⟨p, hp⟩ : ∃ p, (szN x : Int) = p := ⟨_, rfl⟩
  obtain ⟨q, hq⟩ : ∃ q, (szN y : Int) = q := ⟨_, rfl⟩
  rw [hp] at CX HR
  rw [hq] at CY HR
  clear hR hp hq ex ey ra uv hx hy
  go_enter Tryz.func177, Tryz.ntmps177
  go_wp2_with fail
  refine CX.out.mono ?_
  rintro _ _ ⟨rfl, rfl⟩
  go_wp2_with fail
  refine CY.out.mono ?_
  rintro _ _ ⟨rfl, rfl⟩
  go_wp2_with fail
  all_goals (go_ret; refine ⟨ret_of9 ?_, rfl⟩; rw [HR.out]; first | (simp [*]; done) | (simp [*]; omega))
theorem own_ordT {w : World} {b M : Nat} {v : List Int} (h : w.rowIs b 3 M (fun j => .int .i64 (oF v M j : Int))) (hM : v.length = M) (hl : M ≤ 4096) {B : Nat} (hB : B ≤ b) :
    w.ownsRow B 3 1 (.slice (some ⟨b, 0, none⟩) M M) M (((ordT v).map fun (i : Nat) => (i : Int)).map (Value.int .i64)) := by
  have h2 := own_made (w' := w) h hB (by unfold maxLen; omega)
  have e : ((ordT v).map fun (i : Nat) => (i : Int)).map (Value.int .i64) = (List.range M).map fun j => .int .i64 (oF v M j : Int) := by
    unfold ordT
    rw [List.map_map, List.map_map, hM]
    refine List.map_congr_left fun j hj => ?_
    have hj' : j < v.length := by rw [hM]; exact List.mem_range.1 hj
    have := oF_all hj'
    rw [hM] at this
    rw [this]
    rfl
  rw [e]
  exact h2
set_option maxHeartbeats 1000000 in
theorem ref_Order9 {A : Option Addr} {c : Nat} (v : List Int) (uv : ∀ x ∈ v, I64 x) (hl : v.length ≤ 9223372036854775807) (w : World) (ra : Rd (Value.int .i64) w w.heap.size A v) :
    Calls Tryz.prog 130 #[.slice A v.length c] w (OwnE 3 .i64 w.heap.size (orkV v) (orkE v) w) := by
  by_cases h1 : 4096 < v.length
  · have he : orkE v = 3 := if_pos h1
    have hv : orkV v = [] := if_neg (by rw [he]; decide)
    rw [he, hv]
    have h1' : (v.length : Int) > 4096 := by omega
    clear he hv ra uv
    go_enter Tryz.func130, Tryz.ntmps130
    go_wp2_with fail
    go_ret2
    exact .nil (Below.refl _ _)
  · have he : orkE v = 0 := if_neg h1
    have hv : orkV v = (ordT v).map fun (i : Nat) => (i : Int) := if_pos he
    have hvl : (orkV v).length = v.length := orkV_len he
    rw [he, hv]
    rw [hv] at hvl
    have h1' : ¬ (v.length : Int) > 4096 := by omega
    obtain ⟨M, hM⟩ : ∃ M, v.length = M := ⟨_, rfl⟩
    have HA := hid ra
    have CA := hid (fun (i k : Nat) (hi : i < M) (hk : k < M) W (h : Rd (Value.int .i64) W w.heap.size A v) => ref_Ahead (A := A) (c := c) v uv k i (by omega) (by omega) hl W h)
    have HO := hid (fun (W : World) (h : W.rowIs w.heap.size 3 M (fun j => .int .i64 (oF v M j : Int))) => own_ordT (v := v) (B := w.heap.size) h hM (by omega) (Nat.le_refl _))
    have HST := hid (fun (m j : Nat) (hm : m < M) (hj : j < M) => oF_step (v := v) (m := m) (j := j) (by omega) (by omega))
    have HRK := hid (fun (i : Nat) (hi : i < M) => rkN_lt (v := v) (i := i) (by omega))
    have HRM := hid (fun (i m : Nat) => rkM_le v i m)
    have HRN := hid (fun (i : Nat) => show rkM v i M = rkN v i by unfold rkN; rw [hM])
    rw [hM] at hvl h1' HRK ⊢
    have hM4 : M ≤ 4096 := by omega
    have hmk := fun W => run_make_row' (P := Tryz.prog) 26 3 (.int .i64 0) 8 Tryz.underlying26 info_int rfl .i64 .i64 M (by omega) (by omega) W
    have HF0 : Hid (∀ j, oF v 0 j = 0) := hid (fun j => by unfold oF; simp)
    have HLEN := hid hvl
    simp only [hM] at CA
    clear ra uv h1 he hv hM hl hvl
    go_enter Tryz.func130, Tryz.ntmps130
    go_wp2_with fail
    go_loopw [5, 6, 7, 16, 20, 21] (fun x5 x6 x7 i x20 x21 wr => ∃ k : Nat, k ≤ M ∧ i = .int .i64 k ∧ wr.rowIs w.heap.size 3 M (fun j => .int .i64 (oF v k j : Int)) ∧ Below w.heap.size w wr) (fun _ _ _ i _ _ _ => M - (intOf i).toNat)
    case atStart => exact ⟨0, by omega, rfl, (World.rowIs_made w (.int .i64 0) M _).congr (fun j hj => by rw [HF0.out]; rfl), by go_grown⟩
    case round =>
      clear hmk
      obtain ⟨k, hk, rfl, hrow, hbel⟩ := hrel
      have HR := hid hrow
      have HB := hid hbel
      clear hrow
      by_cases hlt : k < M
      · go_wp2_with fail
        go_loop [6, 7, 21] (fun n x7 i => ∃ q : Nat, q ≤ M ∧ i = .int .i64 q ∧ n = .int .i64 (rkM v k q : Int)) (fun _ _ i => M - (intOf i).toNat)
        case atStart => exact ⟨0, by omega, rfl, rfl⟩
        case round =>
          obtain ⟨q, hq, rfl, rfl⟩ := hrel
          by_cases hq2 : q < M
          · have C := hid (CA.out k q hlt hq2 wr (HA.out.below HB.out))
            have HS : Hid (rkM v k (q + 1) = rkM v k q + (if ahB v q k = true then 1 else 0)) := hid rfl
            have hle := HRM.out k q
            obtain ⟨R, hR⟩ : ∃ R, ahB v q k = R := ⟨_, rfl⟩
            rw [hR] at C HS
            obtain ⟨N, hN⟩ : ∃ N, rkM v k q = N := ⟨_, rfl⟩
            rw [hN] at HS hle ⊢
            clear hR hN
            cases R with
            | true =>
              go_wp2_with fail
              refine C.out.mono ?_
              rintro _ _ ⟨rfl, rfl⟩
              go_wp2_with fail
              go_round
              case rel => exact ⟨q + 1, by omega, by go_num, by rw [HS.out]; go_num⟩
              case measure => simp [intOf]; omega
            | false =>
              go_wp2_with fail
              refine C.out.mono ?_
              rintro _ _ ⟨rfl, rfl⟩
              go_wp2_with fail
              go_round
              case rel => exact ⟨q + 1, by omega, by go_num, by rw [HS.out]; simp⟩
              case measure => simp [intOf]; omega
          · obtain rfl : q = M := by omega
            have hlt2 := HRK.out k hlt
            rw [HRN.out]
            have HSS := hid (fun j hj => HST.out k j hlt hj)
            obtain ⟨N, hN⟩ : ∃ N, rkN v k = N := ⟨_, rfl⟩
            rw [hN] at hlt2 HSS ⊢
            have f1 := HR.out.frozen N
            have c3 := HR.out.cell hlt2
            clear hN hbel
            go_wp2_with fail
            go_roundw
            case rel =>
              refine ⟨k + 1, by omega, by go_num, ?_, HB.out.setCell (Nat.le_refl _) _⟩
              refine World.rowIs.congr (HR.out.set N (.int .i64 k)) fun j hj => ?_
              rw [HSS.out j hj]
              by_cases e : j = N
              · rw [if_pos e, if_pos e]
              · rw [if_neg e, if_neg e]
            case measure => simp [intOf]; omega
      · obtain rfl : k = M := by omega
        have h := HO.out wr HR.out
        have HH := hid h
        clear h hbel
        go_wp2_with fail
        go_ret2
        exact ⟨some ⟨w.heap.size, 0, none⟩, k, by rw [HLEN.out]; rfl, by rw [HLEN.out]; exact HH.out, HB.out⟩
end Go.Proofs.YtecgbelgoomneaaGreat
/- leb's functions that tell numbers alone, and a code behind a text of the call's own. -/
namespace Go.Proofs.YtecgbelgoomneaaGreat
open Go.RowKit
set_option maxHeartbeats 400000
set_option maxRecDepth 100000
set_option linter.unusedVariables false
theorem not_i64 {n : Int} (h : I64 n) : bits BinOp.xor IntKind.i64 (-1) n = -n - 1 := by
  unfold I64 at h
  show IntKind.i64.wrap ((BitVec.ofInt 64 (-1) ^^^ BitVec.ofInt 64 n).toNat : Int) = _
  rw [show BitVec.ofInt 64 (-1) = BitVec.allOnes 64 from rfl, BitVec.allOnes_xor, BitVec.toNat_not, BitVec.toNat_ofInt, IntKind.wrap_i64]
  omega
theorem or_one {m : Int} (h0 : 0 ≤ m) (h1 : m ≤ 9223372036854775807) : bits BinOp.or IntKind.u64 (m * 2) 1 = m * 2 + 1 :=
  bits_join .u64 64 (by decide) (fun n h0 h1 => by rw [IntKind.wrap_u64]; omega) 1 _ _ (by omega) (by omega) (by omega) (by omega) (by omega) (by omega)
theorem leb_Zig (n : Int) (hn : I64 n) (w : World) :
    Calls Tryz.prog 187 #[.int .i64 n] w fun e w' => e = .returned (.int .u64 (zigI n)) ∧ w = w' := by
  have e1 := not_i64 hn
  unfold I64 at hn
  have hsg : IntKind.i64.signed = true := rfl
  by_cases h : n < 0
  · have e2 := or_one (m := -n - 1) (by omega) (by omega)
    go_enter Tryz.func187, Tryz.ntmps187
    go_wp2_with fail
    go_ret
    exact ⟨ret1 (by unfold zigI; rw [if_pos h]; omega), rfl⟩
  · go_enter Tryz.func187, Tryz.ntmps187
    go_wp2_with fail
    go_ret
    exact ⟨ret1 (by unfold zigI; rw [if_neg (by omega)]; omega), rfl⟩
theorem ref_Zig (n : Int) (hn : I64 n) (w : World) :
    Calls Tryz.prog 142 #[.int .i64 n] w fun e w' => e = .returned (.int .u64 (zigI n)) ∧ w = w' := by
  unfold I64 at hn
  by_cases h : n < 0
  · go_enter Tryz.func142, Tryz.ntmps142
    go_wp2_with fail
    go_ret
    exact ⟨ret1 (by unfold zigI; rw [if_pos h]; omega), rfl⟩
  · go_enter Tryz.func142, Tryz.ntmps142
    go_wp2_with fail
    go_ret
    exact ⟨ret1 (by unfold zigI; rw [if_neg (by omega)]), rfl⟩
theorem leb_Size (n : Int) (hn : U64 n) (w : World) :
    Calls Tryz.prog 105 #[.int .u64 n] w fun e w' => e = .returned (.int .i64 ((lebI n).length : Int)) ∧ w = w' := by
  have hb := lebI_bits hn
  have ht := lebI_ten hn
  have CL := hid (Tryz.bits_Len64 (max n 1))
  unfold U64 at hn
  obtain ⟨L, hL⟩ : ∃ L, Lib.bitLen (max n 1).toNat = L := ⟨_, rfl⟩
  rw [hL] at hb CL
  have h1 : 0 ≤ max n 1 := by omega
  have h2 : max n 1 ≤ 18446744073709551615 := by omega
  have h3 : L ≤ 70 := by omega
  have HB := hid hb
  clear hL hb
  go_enter Tryz.func105, Tryz.ntmps105
  go_wp2_with fail
  refine (CL.out _ h1 h2).mono ?_
  rintro _ _ ⟨rfl, rfl⟩
  go_wp2_with fail
  go_ret
  exact ⟨ret1 (by rw [HB.out]; omega), rfl⟩
theorem or_more (x : Int) : bits BinOp.or IntKind.u8 (x % 256) 128 = x % 128 + 128 := by
  have hd : ∀ b : Fin 256, bits BinOp.or IntKind.u8 (b.val : Int) 128 = (b.val : Int) % 128 + 128 := by decide +kernel
  have := hd ⟨(x % 256).toNat, by omega⟩
  simp only at this
  rw [show (((x % 256).toNat : Nat) : Int) = x % 256 by omega] at this
  rw [this]
  omega
/-- One thing appended to a list of the call's own. -/
theorem code_any (base : Nat) (ys : List Int) (n : Int) (A0 : Option Addr) (c0 : Nat) (w : World) (hown : w.ownsRow base 5 1 (.slice A0 ys.length c0) ys.length (ys.map (Value.int .u8))) (hl : ys.length ≤ 100000) (hn : U64 n) (hbase : base ≤ w.heap.size) :
    Calls Tryz.prog 106 #[.slice A0 ys.length c0, .int .u64 n] w (OwnOf 5 .u8 base (ys ++ lebI n) w) := by
  have HT := hid (lebI_ten hn)
  have HO := hid hown
  obtain ⟨R, hR⟩ : ∃ R, ys ++ lebI n = R := ⟨_, rfl⟩
  have hRl : R.length ≤ 100010 := by rw [← hR, List.length_append]; have := HT.out; omega
  rw [hR]
  have HR := hid hR
  clear hR hown
  go_enter Tryz.func106, Tryz.ntmps106
  go_wp2_with fail
  go_loopw [0, 1] (fun t m wr => ∃ (S : List Int) (x : Int) (A : Option Addr) (c : Nat), 0 ≤ x ∧ x ≤ 18446744073709551615 ∧ m = .int .u64 x ∧ t = .slice A S.length c ∧ wr.ownsRow base 5 1 (.slice A S.length c) S.length (S.map (Value.int .u8)) ∧ S ++ lebI x = R ∧ Below base w wr) (fun _ m _ => (intOf m).toNat)
  case atStart => exact ⟨ys, n, A0, c0, hn.1, hn.2, rfl, rfl, HO.out, HR.out, Below.refl _ _⟩
  case round =>
    obtain ⟨S, x, A, c, h0, h1, rfl, rfl, ho, hs, hb⟩ := hrel
    have HO := hid ho
    have HS := hid hs
    have hlS : S.length < 100010 := by have := lebI_pos x h0; rw [← hs, List.length_append] at hRl; omega
    clear ho hs
    by_cases hlt : 128 ≤ x
    · have e1 := or_more x
      have hr0 : Rd (Value.int .u8) (wr.alloc (.cells #[.int .u8 (x % 128 + 128)] 5)) _ (some ⟨wr.heap.size, 0, none⟩) [x % 128 + 128] := rd_one (one_cell wr (.int .u8 (x % 128 + 128)) 5).1
      have h0' := own_on HO.out ((Below.refl wr.heap.size wr).alloc (Nat.le_refl _) (.cells #[.int .u8 (x % 128 + 128)] 5))
      go_wp2_with (at_builtin; refine wpList_app (Value.int .u8) (fun _ => rfl) _ rfl _ _ 50 rfl base 5 (.int .u8 0) 1 Tryz.underlying50 info_u8 rfl S _ _ rfl h0' [x % 128 + 128] _ 1 _ rfl hr0 (by simp [maxLen]; omega) (by simp; omega) (by have := hb.size; simp; omega) ?_)
      clear e1 h0' hr0
      rintro S' A' c' w1 hS' ho hb1 _
      have HS' := hid hS'
      have HO' := hid ho
      clear hS' ho
      go_wp2_with fail
      go_roundw
      case rel =>
        refine ⟨S', x / 128, A', c', by omega, by omega, rfl, rfl, HO'.out, ?_, (hb.alloc (Nat.le_trans hbase hb.size) _).trans hb1⟩
        rw [HS'.out, ← HS.out, lebI_more hlt]
        simp
      case measure => simp [intOf]; omega
    · have e1 : x % 256 = x := by omega
      have hr0 : Rd (Value.int .u8) (wr.alloc (.cells #[.int .u8 x] 5)) _ (some ⟨wr.heap.size, 0, none⟩) [x] := rd_one (one_cell wr (.int .u8 x) 5).1
      have h0' := own_on HO.out ((Below.refl wr.heap.size wr).alloc (Nat.le_refl _) (.cells #[.int .u8 x] 5))
      go_wp2_with (at_builtin; refine wpList_app (Value.int .u8) (fun _ => rfl) _ rfl _ _ 50 rfl base 5 (.int .u8 0) 1 Tryz.underlying50 info_u8 rfl S _ _ rfl h0' [x] _ 1 _ rfl hr0 (by simp [maxLen]; omega) (by simp; omega) (by have := hb.size; simp; omega) ?_)
      clear e1 h0' hr0
      rintro S' A' c' w1 hS' ho hb1 _
      have HS' := hid hS'
      have HO' := hid ho
      clear hS' ho
      go_wp2_with fail
      go_ret
      have e : S' = R := by rw [HS'.out, ← HS.out, lebI_last h0 (by omega)]
      subst e
      exact ⟨A', c', rfl, HO'.out, (hb.alloc (Nat.le_trans hbase hb.size) _).trans hb1⟩
end Go.Proofs.YtecgbelgoomneaaGreat
/- Texts that are the same; a number got, signed and not, by the program and by the document. -/
/- Numbers put and got, one behind the other, by the program and by the document. -/
namespace Go.Proofs.YtecgbelgoomneaaGreat
open Go.RowKit
set_option maxHeartbeats 400000
set_option maxRecDepth 100000
set_option linter.unusedVariables false
theorem encs_step {l : List Int} {k : Nat} {x : Int} (h : l[k]? = some x) : encs (l.take (k + 1)) = encs (l.take k) ++ lebI x := by
  rw [List.take_add_one, h, encs_app]
  congr 1
  exact encs_one x
theorem encs_take {l : List Int} (h : U64s l) (k : Nat) : (encs (l.take k)).length ≤ 10 * l.length := by
  have h1 := encs_len (h.take k)
  have : (l.take k).length ≤ l.length := by rw [List.length_take]; omega
  omega
theorem ref_code (n : Int) (hn : U64 n) : ∀ w : World, Calls Tryz.prog 141 #[.int .u64 n] w (OwnOf 5 .u8 w.heap.size (lebI n) w) := by
  have key := leb_ind (p := fun n => n ≤ 18446744073709551615 → ∀ w : World, Calls Tryz.prog 141 #[.int .u64 n] w (OwnOf 5 .u8 w.heap.size (lebI n) w)) ?_ ?_ n hn.1 hn.2
  · exact key
  · intro n h0 h1 _ w
    have e1 : n % 256 = n := by omega
    have HL := hid (lebI_last h0 h1)
    go_enter Tryz.func141, Tryz.ntmps141
    go_wp2_with fail
    go_ret
    rw [HL.out]
    exact ⟨_, _, rfl, own_new (enc := Value.int .u8) w 5 [n] (by simp [maxLen]) (Nat.le_refl _), (one_cell w _ _).2⟩
  · intro n h1 ih h2 w
    have IH := hid (ih (by omega))
    have HT := hid (lebI_ten (n := n / 128) (by unfold U64; omega))
    have HL := hid (lebI_more h1)
    clear ih
    have e1 : n % 128 % 256 = n % 128 := by omega
    go_enter Tryz.func141, Tryz.ntmps141
    go_wp2_with fail
    refine (IH.out _).mono ?_
    rintro _ w1 ⟨A, c, rfl, ho, hb⟩
    have h0 := own_on (own_new (enc := Value.int .u8) w 5 [n % 128 + 128] (by simp [maxLen]) (Nat.le_refl _)) hb
    have hr := own_rd ho
    have HO := hid ho
    clear ho
    have hlt : (lebI (n / 128)).length ≤ 10 := HT.out
    have hz := (one_cell w (.int .u8 (n % 128 + 128)) 5).2.trans (hb.mono (by simp))
    go_wp2_with (at_builtin; refine wpList_app (Value.int .u8) (fun _ => rfl) _ rfl _ _ 50 rfl w.heap.size 5 (.int .u8 0) 1 Tryz.underlying50 info_u8 rfl [n % 128 + 128] _ _ rfl h0 (lebI (n / 128)) _ c _ rfl hr (by simp [maxLen]; omega) (by simp; omega) hz.size ?_)
    rintro S' A' c' w2 hS' ho hb1 _
    have HS' := hid hS'
    have HO' := hid ho
    clear hS' ho
    go_wp2_with fail
    go_ret
    rw [HL.out]
    have e : S' = (n % 128 + 128) :: lebI (n / 128) := HS'.out
    rw [← e]
    exact ⟨A', c', rfl, HO'.out, hz.trans hb1⟩
theorem leb_Put {A B : Option Addr} {c d : Nat} (b l : List Int) (hb : b.length ≤ 50000) (hl : l.length ≤ 5000) (ul : U64s l) (w : World) (ra : Rd (Value.int .u8) w w.heap.size A b) (rl : Rd (Value.int .u64) w w.heap.size B l) :
    Calls Tryz.prog 58 #[.slice A b.length c, .slice B l.length d] w (OwnOf 5 .u8 w.heap.size (b ++ encs l) w) := by
  have HA := hid ra
  have HL := hid rl
  have UL := hid ul
  have HT : Hid (∀ k, (encs (l.take k)).length ≤ 10 * l.length) := encs_take ul
  clear ra rl ul
  go_enter Tryz.func58, Tryz.ntmps58
  go_wp2_with fail
  go_loop [5, 15] (fun s i => ∃ (k T : Nat), k ≤ l.length ∧ i = .int .i64 k ∧ s = .int .i64 T ∧ T = b.length + (encs (l.take k)).length) (fun _ i => l.length - (intOf i).toNat)
  case atStart => exact ⟨0, b.length, by omega, rfl, rfl, by rw [List.take_zero]; rfl⟩
  case round =>
    obtain ⟨k, T, hk, rfl, rfl, hT⟩ := hrel
    have hTb : T ≤ 100000 := by have := HT.out k; omega
    have HTT := hid hT
    clear hT
    by_cases hlt : k < l.length
    · obtain ⟨b1, o1, x, rfl, l1, ex, c1⟩ := HL.out.at_ hlt
      have CS := hid (leb_Size x (UL.out.at_ ex))
      have ht : (lebI x).length ≤ 10 := lebI_ten (UL.out.at_ ex)
      obtain ⟨y, hy⟩ : ∃ y, (lebI x).length = y := ⟨_, rfl⟩
      rw [hy] at CS ht
      have HY := hid hy
      have EX := hid ex
      clear hy ex
      go_wp2_with fail
      refine (CS.out _).mono ?_
      rintro _ _ ⟨rfl, rfl⟩
      go_wp2_with fail
      go_round
      case rel => exact ⟨k + 1, T + y, by omega, by go_num, by go_num, by rw [encs_step EX.out, List.length_append, HTT.out, HY.out]; omega⟩
      case measure => simp [intOf]; omega
    · have hk2 : k = l.length := by omega
      clear HTT hk2 hk
      have hmk := fun W => run_room (P := Tryz.prog) 50 5 (.int .u8 0) 1 Tryz.underlying50 info_u8 rfl T (by omega) (by omega) W
      have h0 := own_room w 5 (.int .u8 0) T (by simp [maxLen]; omega) (Nat.le_refl _)
      have hb0 : Below w.heap.size w (w.alloc (.cells (madeCells #[.int .u8 0] T) 5)) := (Below.refl _ _).alloc (Nat.le_refl _) _
      have hr0 := HA.out.below hb0
      go_wp2_with (at_builtin; refine wpList_app (Value.int .u8) (fun _ => rfl) _ rfl _ _ 50 rfl w.heap.size 5 (.int .u8 0) 1 Tryz.underlying50 info_u8 rfl [] _ T rfl h0 b _ c _ rfl hr0 (by simp [maxLen]; omega) (by simp; omega) (by simp) ?_)
      rintro S A' c' w1 hS ho hb1 _
      have hb2 := hb0.trans hb1
      have HO := hid ho
      have HS := hid hS
      clear hS ho hmk h0 hr0 hb1 hb0
      go_wp2_with fail
      go_loopw [8, 30] (fun t i wr => ∃ (k : Nat) (S : List Int) (A2 : Option Addr) (c2 : Nat), k ≤ l.length ∧ i = .int .i64 k ∧ t = .slice A2 S.length c2 ∧ S = b ++ encs (l.take k) ∧ wr.ownsRow w.heap.size 5 1 (.slice A2 S.length c2) S.length (S.map (Value.int .u8)) ∧ Below w.heap.size w wr) (fun _ i _ => l.length - (intOf i).toNat)
      case atStart => exact ⟨0, S, A', c', by omega, rfl, rfl, by rw [HS.out]; simp [encs], HO.out, hb2⟩
      case round =>
        obtain ⟨k, S, A2, c2, hk, rfl, rfl, hS, ho, hb3⟩ := hrel
        have hSl : S.length ≤ 100000 := by have := HT.out k; rw [hS, List.length_append]; omega
        have HS := hid hS
        have HO := hid ho
        clear hS ho
        by_cases hlt : k < l.length
        · obtain ⟨b1, o1, x, rfl, l1, ex, c1⟩ := (HL.out.below hb3).at_ hlt
          have CC := hid (code_any w.heap.size S x A2 c2 wr HO.out hSl (UL.out.at_ ex) hb3.size)
          obtain ⟨R, hR⟩ : ∃ R, S ++ lebI x = R := ⟨_, rfl⟩
          rw [hR] at CC
          have HR := hid hR
          have EX := hid ex
          clear hR ex
          go_wp2_with fail
          refine CC.out.mono ?_
          rintro _ w4 ⟨A4, c4, rfl, ho, hb4⟩
          have HO4 := hid ho
          clear ho
          go_wp2_with fail
          go_roundw
          case rel => exact ⟨k + 1, R, A4, c4, by omega, by go_num, rfl, by rw [encs_step EX.out, ← HR.out, HS.out, List.append_assoc], HO4.out, hb3.trans hb4⟩
          case measure => simp [intOf]; omega
        · obtain rfl : k = l.length := by omega
          go_wp2_with fail
          go_ret
          have e : S = b ++ encs l := by rw [HS.out, List.take_length]
          rw [← e]
          exact ⟨A2, c2, rfl, HO.out, hb3⟩
end Go.Proofs.YtecgbelgoomneaaGreat
/- Signed numbers put; numbers put by the document; one got signed; many got; lists that are the same. -/
namespace Go.Proofs.YtecgbelgoomneaaGreat
open Go.RowKit
set_option maxHeartbeats 400000
set_option maxRecDepth 100000
set_option linter.unusedVariables false
theorem ref_Put {A B : Option Addr} {c d : Nat} (b l : List Int) (hb : b.length ≤ 50000) (hl : l.length ≤ 2000) (ul : U64s l) (w : World) (ra : Rd (Value.int .u8) w w.heap.size A b) (rl : Rd (Value.int .u64) w w.heap.size B l) :
    Calls Tryz.prog 99 #[.slice A b.length c, .slice B l.length d] w (OwnOf 5 .u8 w.heap.size (b ++ encs l) w) := by
  have HA := hid ra
  have HL := hid rl
  have UL := hid ul
  have HT : Hid (∀ k, (encs (l.take k)).length ≤ 10 * l.length) := encs_take ul
  clear ra rl ul
  go_enter Tryz.func99, Tryz.ntmps99
  go_wp2_with (at_builtin; refine wpList_app (Value.int .u8) (fun _ => rfl) _ rfl _ _ 50 rfl w.heap.size 5 (.int .u8 0) 1 Tryz.underlying50 info_u8 rfl [] _ 0 rfl (own_nil _ _ _) b _ c _ rfl HA.out (by simp [maxLen]; omega) (by simp; omega) (Nat.le_refl _) ?_)
  rintro S A' c' w1 hS ho hb2 _
  have HO := hid ho
  have HS := hid hS
  clear hS ho
  go_wp2_with fail
  go_loopw [5, 12] (fun t i wr => ∃ (k : Nat) (S : List Int) (A2 : Option Addr) (c2 : Nat), k ≤ l.length ∧ i = .int .i64 k ∧ t = .slice A2 S.length c2 ∧ S = b ++ encs (l.take k) ∧ wr.ownsRow w.heap.size 5 1 (.slice A2 S.length c2) S.length (S.map (Value.int .u8)) ∧ Below w.heap.size w wr) (fun _ i _ => l.length - (intOf i).toNat)
  case atStart => exact ⟨0, S, A', c', by omega, rfl, rfl, by rw [HS.out]; simp [encs], HO.out, hb2⟩
  case round =>
    obtain ⟨k, S, A2, c2, hk, rfl, rfl, hS, ho, hb3⟩ := hrel
    have hSl : S.length ≤ 100000 := by have := HT.out k; rw [hS, List.length_append]; omega
    have HS := hid hS
    have HO := hid ho
    clear hS ho
    by_cases hlt : k < l.length
    · obtain ⟨b1, o1, x, rfl, l1, ex, c1⟩ := (HL.out.below hb3).at_ hlt
      have CC := hid (ref_code x (UL.out.at_ ex))
      have hRl : (lebI x).length ≤ 10 := lebI_ten (UL.out.at_ ex)
      obtain ⟨R, hR⟩ : ∃ R, lebI x = R := ⟨_, rfl⟩
      rw [hR] at CC hRl
      have HR := hid hR
      have EX := hid ex
      clear hR ex
      go_wp2_with fail
      refine (CC.out _).mono ?_
      rintro _ w4 ⟨A4, c4, rfl, ho, hb4⟩
      have hr4 := own_rd ho
      have h4 := own_on HO.out hb4
      have hb5 := hb3.trans (hb4.mono hb3.size)
      clear ho
      go_wp2_with (at_builtin; refine wpList_app (Value.int .u8) (fun _ => rfl) _ rfl _ _ 50 rfl w.heap.size 5 (.int .u8 0) 1 Tryz.underlying50 info_u8 rfl S _ _ rfl h4 R _ c4 _ rfl hr4 (by simp [maxLen]; omega) (by simp; omega) hb5.size ?_)
      rintro S' A' c' w5 hS' ho hb6 _
      have HS' := hid hS'
      have HO' := hid ho
      clear hS' ho
      go_wp2_with fail
      go_roundw
      case rel => exact ⟨k + 1, S', A', c', by omega, by go_num, rfl, by rw [encs_step EX.out, HR.out, HS'.out, HS.out, List.append_assoc], HO'.out, hb5.trans hb6⟩
      case measure => simp [intOf]; omega
    · obtain rfl : k = l.length := by omega
      go_wp2_with fail
      go_ret
      have e : S = b ++ encs l := by rw [HS.out, List.take_length]
      rw [← e]
      exact ⟨A2, c2, rfl, HO.out, hb3⟩
theorem encs_zig_step {l : List Int} {k : Nat} {x : Int} (h : l[k]? = some x) : encs ((l.take (k + 1)).map zigI) = encs ((l.take k).map zigI) ++ lebI (zigI x) := by
  rw [List.take_add_one, h, List.map_append, encs_app]
  congr 1
  exact encs_one _
theorem ref_Signed {A B : Option Addr} {c d : Nat} (b l : List Int) (hb : b.length ≤ 50000) (hl : l.length ≤ 2000) (ul : I64s l) (w : World) (ra : Rd (Value.int .u8) w w.heap.size A b) (rl : Rd (Value.int .i64) w w.heap.size B l) :
    Calls Tryz.prog 100 #[.slice A b.length c, .slice B l.length d] w (OwnOf 5 .u8 w.heap.size (b ++ encs (l.map zigI)) w) := by
  have HA := hid ra
  have HL := hid rl
  have UL := hid ul
  have HT : Hid (∀ k, (encs ((l.take k).map zigI)).length ≤ 10 * l.length) := fun k => by
    have := encs_take (zigs_u64 ul) k
    rwa [List.length_map, ← List.map_take] at this
  clear ra rl ul
  go_enter Tryz.func100, Tryz.ntmps100
  go_wp2_with (at_builtin; refine wpList_app (Value.int .u8) (fun _ => rfl) _ rfl _ _ 50 rfl w.heap.size 5 (.int .u8 0) 1 Tryz.underlying50 info_u8 rfl [] _ 0 rfl (own_nil _ _ _) b _ c _ rfl HA.out (by simp [maxLen]; omega) (by simp; omega) (Nat.le_refl _) ?_)
  rintro S A' c' w1 hS ho hb2 _
  have HO := hid ho
  have HS := hid hS
  clear hS ho
  go_wp2_with fail
  go_loopw [5, 12] (fun t i wr => ∃ (k : Nat) (S : List Int) (A2 : Option Addr) (c2 : Nat), k ≤ l.length ∧ i = .int .i64 k ∧ t = .slice A2 S.length c2 ∧ S = b ++ encs ((l.take k).map zigI) ∧ wr.ownsRow w.heap.size 5 1 (.slice A2 S.length c2) S.length (S.map (Value.int .u8)) ∧ Below w.heap.size w wr) (fun _ i _ => l.length - (intOf i).toNat)
  case atStart => exact ⟨0, S, A', c', by omega, rfl, rfl, by rw [HS.out]; simp [encs], HO.out, hb2⟩
  case round =>
    obtain ⟨k, S, A2, c2, hk, rfl, rfl, hS, ho, hb3⟩ := hrel
    have hSl : S.length ≤ 100000 := by have := HT.out k; rw [hS, List.length_append]; omega
    have HS := hid hS
    have HO := hid ho
    clear hS ho
    by_cases hlt : k < l.length
    · obtain ⟨b1, o1, x, rfl, l1, ex, c1⟩ := (HL.out.below hb3).at_ hlt
      have CZ := hid (ref_Zig x (UL.out.at_ ex))
      have hz := zig_u64 (UL.out.at_ ex)
      obtain ⟨z, hzz⟩ : ∃ z, zigI x = z := ⟨_, rfl⟩
      rw [hzz] at CZ hz
      have CC := hid (ref_code z hz)
      have hRl : (lebI z).length ≤ 10 := lebI_ten hz
      obtain ⟨R, hR⟩ : ∃ R, lebI z = R := ⟨_, rfl⟩
      rw [hR] at CC hRl
      have HR := hid hR
      have HZ := hid hzz
      have EX := hid ex
      clear hR ex hz hzz
      go_wp2_with fail
      refine (CZ.out _).mono ?_
      rintro _ _ ⟨rfl, rfl⟩
      go_wp2_with fail
      refine (CC.out _).mono ?_
      rintro _ w4 ⟨A4, c4, rfl, ho, hb4⟩
      have hr4 := own_rd ho
      have h4 := own_on HO.out hb4
      have hb5 := hb3.trans (hb4.mono hb3.size)
      clear ho
      go_wp2_with (at_builtin; refine wpList_app (Value.int .u8) (fun _ => rfl) _ rfl _ _ 50 rfl w.heap.size 5 (.int .u8 0) 1 Tryz.underlying50 info_u8 rfl S _ _ rfl h4 R _ c4 _ rfl hr4 (by simp [maxLen]; omega) (by simp; omega) hb5.size ?_)
      rintro S' A' c' w5 hS' ho hb6 _
      have HS' := hid hS'
      have HO' := hid ho
      clear hS' ho
      go_wp2_with fail
      go_roundw
      case rel => exact ⟨k + 1, S', A', c', by omega, by go_num, rfl, by rw [encs_zig_step EX.out, HZ.out, HR.out, HS'.out, HS.out, List.append_assoc], HO'.out, hb5.trans hb6⟩
      case measure => simp [intOf]; omega
    · obtain rfl : k = l.length := by omega
      go_wp2_with fail
      go_ret
      have e : S = b ++ encs (l.map zigI) := by rw [HS.out, List.take_length]
      rw [← e]
      exact ⟨A2, c2, rfl, HO.out, hb3⟩
theorem leb_Signed {A B : Option Addr} {c d : Nat} (b l : List Int) (hb : b.length ≤ 50000) (hl : l.length ≤ 5000) (ul : I64s l) (w : World) (ra : Rd (Value.int .u8) w w.heap.size A b) (rl : Rd (Value.int .i64) w w.heap.size B l) :
    Calls Tryz.prog 146 #[.slice A b.length c, .slice B l.length d] w (OwnOf 5 .u8 w.heap.size (b ++ encs (l.map zigI)) w) := by
  obtain ⟨R, hR⟩ : ∃ R, b ++ encs (l.map zigI) = R := ⟨_, rfl⟩
  rw [hR]
  have HR := hid hR
  clear hR
  have HA := hid ra
  have HL := hid rl
  have UL := hid ul
  have hmk := fun W => run_make_row' (P := Tryz.prog) 29 25 (.int .u64 0) 8 Tryz.underlying29 info_u64 rfl .i64 .i64 l.length (by omega) (by omega) W
  clear ra rl ul
  go_enter Tryz.func146, Tryz.ntmps146
  go_wp2_with fail
  go_loopw [13] (fun i wr => ∃ k : Nat, k ≤ l.length ∧ i = .int .i64 k ∧ wr.rowIs w.heap.size 25 l.length (fun j => if j < k then .int .u64 (zigI (l.getD j 0)) else .int .u64 0) ∧ Below w.heap.size w wr) (fun i _ => l.length - (intOf i).toNat)
  case atStart => exact ⟨0, by omega, rfl, by simpa using World.rowIs_made w (.int .u64 0) l.length _, by go_grown⟩
  case round =>
    obtain ⟨k, hk, rfl, hrow, hbel⟩ := hrel
    have hz := hrow.lt
    clear hmk
    by_cases hlt : k < l.length
    · obtain ⟨b1, o1, x, rfl, l1, ex, c1⟩ := (HL.out.below hbel).at_ hlt
      have CZ := hid (leb_Zig x (UL.out.at_ ex))
      obtain ⟨z, hzz⟩ : ∃ z, zigI x = z := ⟨_, rfl⟩
      rw [hzz] at CZ
      have HZ : Hid (zigI (l.getD k 0) = z) := by rw [getD_of ex]; exact hzz
      have f1 := hrow.frozen k
      have c2 := hrow.cell hlt
      rw [if_neg (Nat.lt_irrefl k)] at c2
      clear ex hzz
      go_wp2_with fail
      refine (CZ.out _).mono ?_
      rintro _ _ ⟨rfl, rfl⟩
      go_wp2_with fail
      go_roundw
      case rel =>
        refine ⟨k + 1, by omega, by go_num, ?_, hbel.setCell (Nat.le_refl _) _⟩
        refine (hrow.set k (.int .u64 z)).congr fun j hj => ?_
        by_cases e : j = k
        · subst e
          rw [if_pos rfl, if_pos (by omega), HZ.out]
        · rw [if_neg e]
          by_cases e2 : j < k
          · rw [if_pos e2, if_pos (by omega)]
          · rw [if_neg e2, if_neg (by omega)]
      case measure => simp [intOf]; omega
    · obtain rfl : k = l.length := by omega
      have hr2 : Rd (Value.int .u64) wr wr.heap.size (some ⟨w.heap.size, 0, none⟩) (l.map zigI) := fun j y hy => by
        rw [List.getElem?_map, Option.map_eq_some_iff] at hy
        obtain ⟨x, hx, rfl⟩ := hy
        have hj := (List.getElem?_eq_some_iff.1 hx).1
        refine ⟨w.heap.size, 0, rfl, hz, ?_⟩
        rw [Nat.zero_add, hrow.cell hj, if_pos hj, getD_of hx]
      have CP := hid (leb_Put (c := c) (d := l.length) b (l.map zigI) hb (by simp; omega) (zigs_u64 UL.out) wr (HA.out.on hbel) hr2)
      rw [List.length_map, HR.out] at CP
      clear hr2 hrow
      go_wp2_with fail
      refine CP.out.mono ?_
      rintro _ w3 ho3
      have HO := hid (OwnOf.onto ho3 hbel hbel.size)
      obtain ⟨A3, c3, rfl, _, _⟩ := ho3
      go_wp2_with fail
      go_ret
      exact HO.out
end Go.Proofs.YtecgbelgoomneaaGreat
/- Places written and read, by the document. -/
namespace Go.Proofs.YtecgbelgoomneaaGreat
open Go.RowKit
set_option maxHeartbeats 400000
set_option maxRecDepth 100000
set_option linter.unusedVariables false
/-- A call's answer: places of the call's own, where it ends, an error. -/
def OwnG (r : List Int × Int × Int) (w : World) (e : Ending) (w' : World) : Prop :=
  ∃ A c, e = .returned (.tuple #[.slice A r.1.length c, .int .i64 r.2.1, .int .i64 r.2.2]) ∧ w'.ownsRow w.heap.size 3 1 (.slice A r.1.length c) r.1.length (r.1.map (Value.int .i64)) ∧ Below w.heap.size w w'
theorem OwnG.nil {er : Int} {w w' : World} (hb : Below w.heap.size w w') : OwnG ([], 0, er) w (.returned (.tuple #[.slice none 0 0, .int .i64 0, .int .i64 er])) w' := ⟨none, 0, rfl, own_nil _ _ _, hb⟩
theorem plc_take {dim : Int} {l : List Int} (h : plcP dim l) (k : Nat) : plcP dim (l.take k) := ⟨h.1, h.2.1, ris_take h.2.2.1 k, fun n hn => h.2.2.2 n (List.mem_of_mem_take hn)⟩
/-- The codes of how many there are, and of the first ones. -/
def putK (l : List Int) (k : Nat) : List Int := encs ((l.length : Int) :: gapsF (-1) (l.take k))
theorem putK_step {l : List Int} {k : Nat} {x : Int} (h : l[k]? = some x) : putK l (k + 1) = putK l k ++ encs [x - lastI (-1) (l.take k) - 1] := by
  unfold putK
  rw [putL_step h, ← List.cons_append, encs_app]
theorem putK_len {dim : Int} {l : List Int} (h : plcP dim l) (k : Nat) : (putK l k).length ≤ 41000 := by
  have h1 := plc_le h
  have h2 := plc_le (plc_take h k)
  have hd := h.2.1
  have hu : U64s ((l.length : Int) :: gapsF (-1) (l.take k)) := by
    have hp := plc_take h k
    intro x hx
    rcases List.mem_cons.1 hx with rfl | hx
    · unfold U64; omega
    · exact gaps_u64 _ (-1) (plc_cons hp) (by omega) (fun n hn => by have := hp.2.2.2 n hn; omega) x hx
  have := encs_len hu
  unfold putK
  rw [List.length_cons, gaps_len] at this
  omega
theorem putK_all (l : List Int) : putK l l.length = encs (putL l) := by unfold putK putL; rw [List.take_length]
theorem ref_PutIx {A : Option Addr} {c : Nat} (dim : Int) (l : List Int) (hd : I64 dim) (hl : l.length ≤ 9223372036854775807) (w : World) (ra : Rd (Value.int .i64) w w.heap.size A l) :
    Calls Tryz.prog 101 #[.int .i64 dim, .slice A l.length c] w (OwnE 5 .u8 w.heap.size (pixV dim l) (chkE dim l) w) := by
  have C := hid (ref_Check (A := A) (c := c) dim l hd hl w ra)
  by_cases h : chkE dim l = 0
  · have hp := chk_ok.1 h
    have hlen := plc_le hp
    have hd4 := hp.2.1
    have e : pixV dim l = putK l l.length := by unfold pixV; rw [if_pos h, putK_all]
    rw [h] at C
    rw [h, e]
    have RA := hid ra
    have HS0 : Hid (putK l 0 = encs [(l.length : Int)]) := hid (by unfold putK; rw [List.take_zero]; rfl)
    have HS : Hid (∀ k x, l[k]? = some x → putK l (k + 1) = putK l k ++ encs [x - lastI (-1) (l.take k) - 1]) := hid (fun k x h => putK_step h)
    have HL : Hid (∀ k x, l[k]? = some x → lastI (-1) (l.take (k + 1)) = x) := hid (fun k x h => lastI_step h)
    have HI : Hid (∀ k x, l[k]? = some x → -1 ≤ lastI (-1) (l.take k) ∧ lastI (-1) (l.take k) < x ∧ 0 ≤ x ∧ x < dim) := hid (fun k x h => lastI_lt hp h)
    have HB := hid (putK_len hp)
    have HI0 : Hid (lastI (-1) (l.take 0) = -1) := hid rfl
    obtain ⟨S, hS⟩ : ∃ S : Nat → List Int, putK l = S := ⟨_, rfl⟩
    obtain ⟨T, hT⟩ : ∃ T : Nat → Int, (fun k => lastI (-1) (l.take k)) = T := ⟨_, rfl⟩
    have hT' : ∀ k, lastI (-1) (l.take k) = T k := fun k => by rw [← hT]
    simp only [hT'] at HS HL HI HI0
    rw [hS] at HS HB HS0 ⊢
    obtain ⟨N, hN⟩ : ∃ N, l.length = N := ⟨_, rfl⟩
    have HN := hid hN
    rw [hN] at C hlen HS0 ⊢
    have CP0 : Hid (∀ g W, W.cell? ⟨g, 0, none⟩ = some (.int .u64 (N : Int)) → Calls Tryz.prog 99 #[.slice none 0 0, .slice (some ⟨g, 0, none⟩) 1 1] W (OwnOf 5 .u8 W.heap.size (S 0) W)) := hid (fun g W h => by
      have h := ref_Put (A := none) (B := some ⟨g, 0, none⟩) (c := 0) (d := 1) [] [(N : Int)] (by decide) (by simp) (by intro x hx; simp at hx; subst hx; unfold U64; omega) W Rd.none_ (rd_one h)
      rw [List.nil_append, ← HS0.out] at h
      exact h)
    have hN4 : N ≤ 4096 := by omega
    clear h hp hlen e hS hT hT' hN ra HS0 hl
    go_enter Tryz.func101, Tryz.ntmps101
    go_wp2_with fail
    refine C.out.mono ?_
    rintro _ w0 ⟨rfl, n0, hw0⟩
    have k0 : Below w.heap.size w w0 := by rw [hw0]; exact belowN _ _ n0
    clear hw0 C
    go_wp2_with fail
    refine (CP0.out _ _ (one_cell w0 _ _).1).mono ?_
    rintro _ w1 ⟨A1, c1, rfl, ho1, hb1⟩
    have kz := (one_cell w0 (.int .u64 (N : Int)) 25).2
    have k1 : Below w.heap.size w w1 := k0.trans ((kz.trans (hb1.mono kz.size)).mono k0.size)
    have hsz : w.heap.size ≤ (w0.alloc (.cells #[.int .u64 (N : Int)] 25)).heap.size := by have := k0.size; have := kz.size; omega
    have HO1 := hid (own_base ho1 hsz)
    clear ho1 hb1 kz hsz k0
    go_wp2_with fail
    go_loopw [7, 8, 10, 24] (fun t p x0 i wr => ∃ (k : Nat) (A2 : Option Addr) (c2 : Nat), k ≤ N ∧ i = .int .i64 k ∧ p = .int .i64 (T k) ∧ t = .slice A2 (S k).length c2 ∧ wr.ownsRow w.heap.size 5 1 (.slice A2 (S k).length c2) (S k).length ((S k).map (Value.int .u8)) ∧ Below w.heap.size w wr) (fun _ _ _ i _ => N - (intOf i).toNat)
    case atStart => exact ⟨0, A1, c1, by omega, rfl, by rw [HI0.out], rfl, HO1.out, k1⟩
    case round =>
      clear HO1 k1
      obtain ⟨k, A2, c2, hk, rfl, rfl, rfl, ho, hbel⟩ := hrel
      have HO := hid ho
      clear ho
      by_cases hlt : k < N
      · obtain ⟨b1, o1, x, rfl, l1, ex, cx⟩ := (RA.out.below hbel).at_ (k := k) (by rw [HN.out]; exact hlt)
        have hi := HI.out k x ex
        have HSk := hid (HS.out k x ex)
        have HLk := hid (HL.out k x ex)
        have hSb := HB.out k
        obtain ⟨t, ht⟩ : ∃ t, T k = t := ⟨_, rfl⟩
        obtain ⟨g, hg⟩ : ∃ g, x - t - 1 = g := ⟨_, rfl⟩
        rw [ht] at hi HSk
        rw [hg] at HSk
        obtain ⟨Sk, hSk⟩ : ∃ Sk, S k = Sk := ⟨_, rfl⟩
        rw [hSk] at HO HSk hSb
        have CP : Hid (∀ W g', W.cell? ⟨g', 0, none⟩ = some (.int .u64 g) → Rd (Value.int .u8) W W.heap.size A2 Sk → Calls Tryz.prog 99 #[.slice A2 Sk.length c2, .slice (some ⟨g', 0, none⟩) 1 1] W (OwnOf 5 .u8 W.heap.size (S (k + 1)) W)) := hid (fun W g' h hr => by
          have h := ref_Put (A := A2) (B := some ⟨g', 0, none⟩) (c := c2) (d := 1) Sk [g] (by omega) (by simp) (by intro y hy; simp at hy; subst hy; unfold U64; omega) W hr (rd_one h)
          rw [← HSk.out] at h
          exact h)
        have HRd := hid (own_rd HO.out)
        have hg0 : 0 ≤ g ∧ g ≤ 4096 := by omega
        clear ex HO HSk
        rw [ht, hSk]
        go_wp2_with fail
        have kz := (one_cell wr (.int .u64 g) 25)
        refine (CP.out _ _ kz.1 (HRd.out.on kz.2)).mono ?_
        rintro _ w2 ⟨A3, c3, rfl, ho3, hb3⟩
        have k3 : Below w.heap.size w w2 := hbel.trans ((kz.2.trans (hb3.mono kz.2.size)).mono hbel.size)
        have hsz : w.heap.size ≤ (wr.alloc (.cells #[.int .u64 g] 25)).heap.size := by have := hbel.size; have := kz.2.size; omega
        have HO3 := hid (own_base ho3 hsz)
        clear ho3 hb3 kz hsz HRd
        go_wp2_with fail
        go_roundw
        case rel => exact ⟨k + 1, A3, c3, by omega, by go_num, by rw [HLk.out], rfl, HO3.out, k3⟩
        case measure => simp [intOf]; omega
      · obtain rfl : k = N := by omega
        go_wp2_with fail
        go_ret2
        exact ⟨A2, c2, rfl, HO.out, hbel⟩
  · have e : pixV dim l = [] := if_neg h
    rw [e]
    obtain ⟨E, hE⟩ : ∃ E, chkE dim l = E := ⟨_, rfl⟩
    rw [hE] at C h ⊢
    have hne : (E != 0) = true := by simpa using h
    clear h e hE ra
    go_enter Tryz.func101, Tryz.ntmps101
    go_wp2_with fail
    refine C.out.mono ?_
    rintro _ _ ⟨rfl, n0, rfl⟩
    go_wp2_with fail
    go_ret2
    exact .nil (belowN _ _ _)
end Go.Proofs.YtecgbelgoomneaaGreat
/- Lists of lists in memory, by their slices; part of them and turned round. -/
namespace Go.Proofs.YtecgbelgoomneaaGreat
open Go.RowKit
set_option maxRecDepth 100000
set_option linter.unusedVariables false
/-- A slice of slices at A reads as these lists. -/
def RdRows (w : World) (B : Nat) (A : Option Addr) (rows : List (List Int)) : Prop :=
  ∀ k xs, rows[k]? = some xs → ∃ b off A' c', A = some ⟨b, off, none⟩ ∧ b < B ∧ w.cell? ⟨b, off + k, none⟩ = some (.slice A' xs.length c') ∧ Rd (Value.int .i64) w B A' xs
theorem RdRows.below {w w' : World} {B : Nat} {A : Option Addr} {rows : List (List Int)} (h : RdRows w B A rows) (hb : Below B w w') : RdRows w' B A rows := fun k xs hx => by
  obtain ⟨b, off, A', c', e, hl, hc, hr⟩ := h k xs hx
  exact ⟨b, off, A', c', e, hl, (hb.cell (p := ⟨b, off + k, none⟩) hl).trans hc, hr.below hb⟩
theorem RdRows.more {w : World} {B B' : Nat} {A : Option Addr} {rows : List (List Int)} (h : RdRows w B A rows) (hB : B ≤ B') : RdRows w B' A rows := fun k xs hx => by
  obtain ⟨b, off, A', c', e, hl, hc, hr⟩ := h k xs hx
  exact ⟨b, off, A', c', e, by omega, hc, hr.more hB⟩
theorem RdRows.on {w w' : World} {A : Option Addr} {rows : List (List Int)} (h : RdRows w w.heap.size A rows) (hb : Below w.heap.size w w') : RdRows w' w'.heap.size A rows := (h.below hb).more hb.size
theorem rows_two {A B : Option Addr} {c d : Nat} (xs ys : List Int) (W : World) (ra : Rd (Value.int .i64) W W.heap.size A xs) (rb : Rd (Value.int .i64) W W.heap.size B ys) (t : TypeId) :
    RdRows (W.alloc (.cells #[.slice A xs.length c, .slice B ys.length d] t)) (W.alloc (.cells #[.slice A xs.length c, .slice B ys.length d] t)).heap.size (some ⟨W.heap.size, 0, none⟩) [xs, ys] := fun k zs hz => by
  have hb : Below W.heap.size W (W.alloc (.cells #[.slice A xs.length c, .slice B ys.length d] t)) := (Below.refl _ _).alloc (Nat.le_refl _) _
  have hn := heap_alloc_new W (.cells #[.slice A xs.length c, .slice B ys.length d] t)
  have hlt : W.heap.size < (W.alloc (.cells #[.slice A xs.length c, .slice B ys.length d] t)).heap.size := (Array.getElem?_eq_some_iff.1 hn).1
  match k, hz with
  | 0, hz =>
    obtain rfl : xs = zs := by simpa using hz
    exact ⟨_, 0, A, c, rfl, hlt, by rw [cell_of_row _ _ _ _ t (0, 0) hn]; rfl, ra.on hb⟩
  | 1, hz =>
    obtain rfl : ys = zs := by simpa using hz
    exact ⟨_, 0, B, d, rfl, hlt, by rw [cell_of_row _ _ _ _ t (0, 0) hn]; rfl, rb.on hb⟩
  | k + 2, hz => simp at hz
theorem rows_one {A : Option Addr} {c : Nat} (xs : List Int) (W : World) (ra : Rd (Value.int .i64) W W.heap.size A xs) (t : TypeId) :
    RdRows (W.alloc (.cells #[.slice A xs.length c] t)) (W.alloc (.cells #[.slice A xs.length c] t)).heap.size (some ⟨W.heap.size, 0, none⟩) [xs] := fun k zs hz => by
  have hb : Below W.heap.size W (W.alloc (.cells #[.slice A xs.length c] t)) := (Below.refl _ _).alloc (Nat.le_refl _) _
  have hn := heap_alloc_new W (.cells #[.slice A xs.length c] t)
  have hlt : W.heap.size < (W.alloc (.cells #[.slice A xs.length c] t)).heap.size := (Array.getElem?_eq_some_iff.1 hn).1
  match k, hz with
  | 0, hz =>
    obtain rfl : xs = zs := by simpa using hz
    exact ⟨_, 0, A, c, rfl, hlt, by rw [cell_of_row _ _ _ _ t (0, 0) hn]; rfl, ra.on hb⟩
  | k + 1, hz => simp at hz
end Go.Proofs.YtecgbelgoomneaaGreat
/- Numbers spread and gathered, other places, lists together, by the document. -/
namespace Go.Proofs.YtecgbelgoomneaaGreat
open Go.RowKit
set_option maxHeartbeats 400000
set_option maxRecDepth 100000
set_option linter.unusedVariables false
theorem sp_map {k : Nat} {l v : List Int} : (upI k).map (spF l v) = (List.range k).map fun j : Nat => spF l v (j : Int) := by
  unfold upI
  rw [List.map_map]
  rfl
/-- The numbers ahead of some place of lists. -/
def upto (ls : List (List Int)) (i j : Nat) : List Int := (ls.take i).flatten ++ (ls.getD i []).take j
theorem upto_next {ls : List (List Int)} {i : Nat} {x : List Int} (h : ls[i]? = some x) : upto ls i x.length = upto ls (i + 1) 0 := by
  unfold upto
  rw [List.take_add_one, h, List.getD_eq_getElem?_getD, h, Option.getD_some, List.take_length, List.flatten_append, List.take_zero, List.append_nil]
  simp
theorem upto_step {ls : List (List Int)} {i j : Nat} {x : List Int} {n : Int} (h : ls[i]? = some x) (hj : x[j]? = some n) : upto ls i (j + 1) = upto ls i j ++ [n] := by
  unfold upto
  rw [List.getD_eq_getElem?_getD, h, Option.getD_some, take_snoc hj, List.append_assoc]
theorem upto_end (ls : List (List Int)) {i : Nat} (h : ls.length ≤ i) : upto ls i 0 = ls.flatten := by
  unfold upto
  rw [List.take_of_length_le h, List.take_zero, List.append_nil]
theorem upto_len {ls : List (List Int)} {i j : Nat} : (upto ls i j).length ≤ ls.flatten.length := by
  unfold upto
  conv => rhs; rw [← List.take_append_drop i ls, List.flatten_append]
  rw [List.length_append, List.length_append]
  have : ((ls.getD i []).take j).length ≤ (ls.drop i).flatten.length := by
    by_cases hi : i < ls.length
    · rw [List.drop_eq_getElem_cons hi, List.flatten_cons, List.length_append, List.getD_eq_getElem?_getD, List.getElem?_eq_getElem hi, Option.getD_some, List.length_take]
      omega
    · rw [List.getD_eq_getElem?_getD, List.getElem?_eq_none (by omega)]
      simp
  omega
theorem ins_len (out : List Int) (n : Int) : (insI out n).length ≤ out.length + 1 := by
  unfold insI
  split
  · omega
  · rw [List.length_append, List.length_append]
    have h : (out.filter fun m => decide (m < n)).length + (out.filter fun m => decide (n < m)).length ≤ out.length := by
      have h1 := filter_both (fun m => decide (m < n)) out
      have h2 : (out.filter fun m => decide (n < m)).length ≤ (out.filter fun x => !decide (x < n)).length := by
        rw [← List.countP_eq_length_filter, ← List.countP_eq_length_filter]
        exact List.countP_mono_left fun x _ hx => by simp at hx ⊢; omega
      omega
    simp
    omega
theorem mrgF_len : ∀ (l out : List Int), (mrgF out l).length ≤ out.length + l.length
  | [], out => by simp [mrgF]
  | n :: l, out => by
    have h1 := mrgF_len l (insI out n)
    have h2 := ins_len out n
    show (mrgF (insI out n) l).length ≤ _
    rw [List.length_cons]
    omega
theorem filter_snoc {l : List Int} {k : Nat} {x : Int} (h : l[k]? = some x) (p : Int → Bool) : (l.take (k + 1)).filter p = (l.take k).filter p ++ if p x = true then [x] else [] := by
  rw [take_snoc h, List.filter_append]
  congr 1
  cases hp : p x <;> simp [hp]
set_option maxHeartbeats 2000000 in
theorem ref_Merge {A : Option Addr} {c : Nat} (ls : List (List Int)) (hl : ls.length ≤ 100000) (hf : ls.flatten.length ≤ 100000) (w : World) (ra : RdRows w w.heap.size A ls) :
    Calls Tryz.prog 131 #[.slice A ls.length c] w (OwnOf 3 .i64 w.heap.size (mrgV ls) w) := by
  have RA := hid ra
  have HL := hid (fun i j => (mrgF_len (upto ls i j) []))
  have HU := hid (fun i j => upto_len (ls := ls) (i := i) (j := j))
  have HE : Hid (mrgF [] (upto ls ls.length 0) = mrgV ls) := hid (by rw [upto_end ls (Nat.le_refl _)]; rfl)
  have HN : Hid (∀ i x, ls[i]? = some x → upto ls i x.length = upto ls (i + 1) 0) := hid (fun i x h => upto_next h)
  have HS : Hid (∀ i j x n, ls[i]? = some x → x[j]? = some n → mrgF [] (upto ls i (j + 1)) = insI (mrgF [] (upto ls i j)) n) := hid (fun i j x n h hj => by rw [upto_step h hj, mrg_snoc])
  have H0 : Hid (mrgF [] (upto ls 0 0) = []) := hid (by unfold upto; simp [mrgF])
  clear ra
  go_enter Tryz.func131, Tryz.ntmps131
  go_wp2_with fail
  go_loopw [3, 5, 7, 8, 10, 12, 15] (fun t x5 x7 x8 x10 x12 i wr => ∃ (k : Nat) (S : List Int) (A2 : Option Addr) (c2 : Nat), k ≤ ls.length ∧ i = .int .i64 k ∧ t = .slice A2 S.length c2 ∧ S = mrgF [] (upto ls k 0) ∧ wr.ownsRow w.heap.size 3 1 (.slice A2 S.length c2) S.length (S.map (Value.int .i64)) ∧ Below w.heap.size w wr) (fun _ _ _ _ _ _ i _ => ls.length - (intOf i).toNat)
  case atStart => exact ⟨0, [], none, 0, by omega, rfl, rfl, H0.out.symm, own_nil _ _ _, Below.refl _ _⟩
  case round =>
    obtain ⟨k, S, A2, c2, hk, rfl, rfl, hS, ho, hbel⟩ := hrel
    have HSk := hid hS
    have HO := hid ho
    clear hS ho
    by_cases hlt : k < ls.length
    · have hx0 : ls[k]? = some ls[k] := List.getElem?_eq_getElem hlt
      obtain ⟨x, hx⟩ : ∃ x, ls[k] = x := ⟨_, rfl⟩
      rw [hx] at hx0
      obtain ⟨b1, o1, Ax, cx, rfl, l1, c0, rx⟩ := RA.out k x hx0
      have c1 := (hbel.cell (p := ⟨b1, o1 + k, none⟩) l1).trans c0
      have RX := hid rx
      have HX := hid hx0
      have HNx := hid (HN.out k x hx0)
      have hxl : x.length ≤ 100000 := by
        have h1 := upto_len (ls := ls) (i := k) (j := x.length)
        unfold upto at h1
        rw [List.getD_eq_getElem?_getD, hx0, Option.getD_some, List.take_length, List.length_append] at h1
        omega
      clear hx hx0 rx c0
      go_wp2_with fail
      go_loopw [3, 7, 8, 10, 12, 21] (fun t x7 x8 x10 x12 i wr => ∃ (j : Nat) (S : List Int) (A2 : Option Addr) (c2 : Nat), j ≤ x.length ∧ i = .int .i64 j ∧ t = .slice A2 S.length c2 ∧ S = mrgF [] (upto ls k j) ∧ wr.ownsRow w.heap.size 3 1 (.slice A2 S.length c2) S.length (S.map (Value.int .i64)) ∧ Below w.heap.size w wr) (fun _ _ _ _ _ i _ => x.length - (intOf i).toNat)
      case atStart => exact ⟨0, S, A2, c2, by omega, rfl, rfl, HSk.out, HO.out, hbel⟩
      case round =>
        clear c1 hbel HSk HO
        obtain ⟨j, S, A2, c2s, hj, rfl, rfl, hS, ho, hbel⟩ := hrel
        have hSl : S.length ≤ 100000 := by
          rw [hS]
          have h1 := HL.out k j
          have h2 := HU.out k j
          simp at h1
          omega
        have HSj := hid hS
        have HO := hid ho
        clear hS ho
        by_cases hjl : j < x.length
        · obtain ⟨b2, o2, n, rfl, l2, en, c2⟩ := (RX.out.below hbel).at_ hjl
          have CI := hid (ref_in (A := A2) (c := c2s) S n (by omega) wr (own_rd HO.out))
          have HSn := hid (HS.out k j x n HX.out en)
          have HSj2 : Hid (S = mrgF [] (upto ls k j)) := HSj
          have HI1 : Hid (hasB S n = true → insI S n = S) := hid (fun h => by unfold insI; rw [if_pos (by unfold hasB at h; simpa using h)])
          have HI0 : Hid (hasB S n = false → insI S n = S.filter (fun m => decide (m < n)) ++ [n] ++ S.filter (fun m => decide (n < m))) := hid (fun h => by unfold insI; rw [if_neg (by unfold hasB at h; simpa using h)])
          obtain ⟨v, hv⟩ : ∃ v, hasB S n = v := ⟨_, rfl⟩
          rw [hv] at CI HI1 HI0
          clear en hv
          cases v with
          | true =>
            have HR : Hid (S = mrgF [] (upto ls k (j + 1))) := hid (by rw [HSn.out, ← HSj.out, HI1.out rfl])
            go_wp2_with fail
            refine CI.out.mono ?_
            rintro _ _ ⟨rfl, rfl⟩
            go_wp2_with fail
            go_roundw
            case rel => exact ⟨j + 1, S, A2, c2s, by omega, by go_num, rfl, HR.out, HO.out, hbel⟩
            case measure => simp [intOf]; omega
          | false =>
            have HR : Hid (S.filter (fun m => decide (m < n)) ++ [n] ++ S.filter (fun m => decide (n < m)) = mrgF [] (upto ls k (j + 1))) := hid (by rw [HSn.out, ← HSj.out, HI0.out rfl])
            have RS := hid (own_rd HO.out)
            have HW := hid hbel
            have hws := hbel.size
            clear HI1 HI0 HSn HSj2 HO hbel
            go_wp2_with fail
            refine CI.out.mono ?_
            rintro _ w2 ⟨rfl, hw2⟩
            have hw3 := hw2.symm
            subst hw3
            clear CI c2
            go_wp2_with fail
            go_loopw [8, 10, 30] (fun t x0 i wr => ∃ (q : Nat) (O : List Int) (A3 : Option Addr) (c3 : Nat), q ≤ S.length ∧ i = .int .i64 q ∧ t = .slice A3 O.length c3 ∧ O = (S.take q).filter (fun m => decide (m < n)) ∧ wr.ownsRow w2.heap.size 3 1 (.slice A3 O.length c3) O.length (O.map (Value.int .i64)) ∧ Below w2.heap.size w2 wr) (fun _ _ i _ => S.length - (intOf i).toNat)
            case atStart => exact ⟨0, [], none, 0, by omega, rfl, rfl, rfl, own_nil _ _ _, Below.refl _ _⟩
            case round =>
              obtain ⟨q, O, A3, c3, hq, rfl, rfl, hO, ho3, hb3⟩ := hrel
              have hOl : O.length ≤ 100000 := by rw [hO]; have := List.length_filter_le (fun m => decide (m < n)) (S.take q); rw [List.length_take] at this; omega
              have HOq := hid hO
              have HO3 := hid ho3
              clear hO ho3
              by_cases hql : q < S.length
              · obtain ⟨b4, o4, y, rfl, l4, ey, c4⟩ := (RS.out.below hb3).at_ hql
                have HF := hid (filter_snoc ey (fun m => decide (m < n)))
                clear ey
                by_cases hyn : y < n
                · have HF2 : Hid ((S.take (q + 1)).filter (fun m => decide (m < n)) = (S.take q).filter (fun m => decide (m < n)) ++ [y]) := hid (by rw [HF.out]; simp [hyn])
                  have hr0 : Rd (Value.int .i64) (wr.alloc (.cells #[.int .i64 y] 3)) _ (some ⟨wr.heap.size, 0, none⟩) [y] := rd_one (one_cell wr (.int .i64 y) 3).1
                  have h0' := own_on HO3.out ((Below.refl wr.heap.size wr).alloc (Nat.le_refl _) (.cells #[.int .i64 y] 3))
                  go_wp2_with (at_builtin; refine wpList_app (Value.int .i64) (fun _ => rfl) _ rfl _ _ 26 rfl w2.heap.size 3 (.int .i64 0) 8 Tryz.underlying26 info_int rfl O _ _ rfl h0' [y] _ 1 _ rfl hr0 (by simp [maxLen]; omega) (by simp; omega) (by have := hb3.size; simp; omega) ?_)
                  rintro O' A' c' w4 hO' ho4 hb4 _
                  have HO4 := hid ho4
                  have HEQ := hid hO'
                  clear hO' ho4 h0' hr0
                  go_wp2_with fail
                  go_roundw
                  case rel => exact ⟨q + 1, O', A', c', by omega, by go_num, rfl, by rw [HEQ.out, HF2.out, HOq.out], HO4.out, (hb3.alloc hb3.size _).trans hb4⟩
                  case measure => simp [intOf]; omega
                · have HF2 : Hid ((S.take (q + 1)).filter (fun m => decide (m < n)) = (S.take q).filter (fun m => decide (m < n))) := hid (by rw [HF.out]; simp [hyn])
                  go_wp2_with fail
                  go_roundw
                  case rel => exact ⟨q + 1, O, A3, c3, by omega, by go_num, rfl, by rw [HF2.out, HOq.out], HO3.out, hb3⟩
                  case measure => simp [intOf]; omega
              · have HOe : Hid (O = S.filter (fun m => decide (m < n))) := hid (by rw [HOq.out, List.take_of_length_le (by omega)])
                clear HOq
                have hr0 : Rd (Value.int .i64) (wr.alloc (.cells #[.int .i64 n] 3)) _ (some ⟨wr.heap.size, 0, none⟩) [n] := rd_one (one_cell wr (.int .i64 n) 3).1
                have h0' := own_on HO3.out ((Below.refl wr.heap.size wr).alloc (Nat.le_refl _) (.cells #[.int .i64 n] 3))
                go_wp2_with (at_builtin; refine wpList_app (Value.int .i64) (fun _ => rfl) _ rfl _ _ 26 rfl w2.heap.size 3 (.int .i64 0) 8 Tryz.underlying26 info_int rfl O _ _ rfl h0' [n] _ 1 _ rfl hr0 (by simp [maxLen]; omega) (by simp; omega) (by have := hb3.size; simp; omega) ?_)
                rintro O' A' c' w4 hO' ho4 hb4 _
                have HO4 := hid ho4
                have HEQ := hid hO'
                clear hO' ho4 h0' hr0
                go_wp2_with fail
                have hOl' : O'.length ≤ 100001 := by rw [HEQ.out, List.length_append, List.length_singleton]; omega
                have HP1 : Hid (O' = S.filter (fun m => decide (m < n)) ++ [n]) := hid (by rw [HEQ.out, HOe.out])
                have hb5 := (hb3.alloc hb3.size (.cells #[.int .i64 n] 3)).trans hb4
                clear HEQ HOe HO3 hb4
                go_loopw [8, 12, 48] (fun t x0 i wr => ∃ (q : Nat) (O : List Int) (A3 : Option Addr) (c3 : Nat), q ≤ S.length ∧ i = .int .i64 q ∧ t = .slice A3 O.length c3 ∧ O = S.filter (fun m => decide (m < n)) ++ [n] ++ (S.take q).filter (fun m => decide (n < m)) ∧ wr.ownsRow w2.heap.size 3 1 (.slice A3 O.length c3) O.length (O.map (Value.int .i64)) ∧ Below w2.heap.size w2 wr) (fun _ _ i _ => S.length - (intOf i).toNat)
                case atStart => exact ⟨0, O', A', c', by omega, rfl, rfl, by rw [HP1.out]; simp, HO4.out, hb5⟩
                case round =>
                  clear HO4 hb5 hb3
                  obtain ⟨q, O, A3, c3, hq, rfl, rfl, hO, ho3, hb3⟩ := hrel
                  have hOl : O.length ≤ 300000 := by
                    rw [hO, List.length_append, List.length_append]
                    have h1 := List.length_filter_le (fun m => decide (m < n)) S
                    have h2 := List.length_filter_le (fun m => decide (n < m)) (S.take q)
                    rw [List.length_take] at h2
                    simp
                    omega
                  have HOq := hid hO
                  have HO3 := hid ho3
                  clear hO ho3
                  by_cases hql : q < S.length
                  · obtain ⟨b4, o4, y, rfl, l4, ey, c4⟩ := (RS.out.below hb3).at_ hql
                    have HF := hid (filter_snoc ey (fun m => decide (n < m)))
                    clear ey
                    by_cases hyn : n < y
                    · have HF2 : Hid ((S.take (q + 1)).filter (fun m => decide (n < m)) = (S.take q).filter (fun m => decide (n < m)) ++ [y]) := hid (by rw [HF.out]; simp [hyn])
                      have hr0 : Rd (Value.int .i64) (wr.alloc (.cells #[.int .i64 y] 3)) _ (some ⟨wr.heap.size, 0, none⟩) [y] := rd_one (one_cell wr (.int .i64 y) 3).1
                      have h0' := own_on HO3.out ((Below.refl wr.heap.size wr).alloc (Nat.le_refl _) (.cells #[.int .i64 y] 3))
                      go_wp2_with (at_builtin; refine wpList_app (Value.int .i64) (fun _ => rfl) _ rfl _ _ 26 rfl w2.heap.size 3 (.int .i64 0) 8 Tryz.underlying26 info_int rfl O _ _ rfl h0' [y] _ 1 _ rfl hr0 (by simp [maxLen]; omega) (by simp; omega) (by have := hb3.size; simp; omega) ?_)
                      rintro O' A' c' w4 hO' ho4 hb4 _
                      have HO4 := hid ho4
                      have HEQ := hid hO'
                      clear hO' ho4 h0' hr0
                      go_wp2_with fail
                      go_roundw
                      case rel => exact ⟨q + 1, O', A', c', by omega, by go_num, rfl, by rw [HEQ.out, HF2.out, HOq.out, List.append_assoc], HO4.out, (hb3.alloc hb3.size _).trans hb4⟩
                      case measure => simp [intOf]; omega
                    · have HF2 : Hid ((S.take (q + 1)).filter (fun m => decide (n < m)) = (S.take q).filter (fun m => decide (n < m))) := hid (by rw [HF.out]; simp [hyn])
                      go_wp2_with fail
                      go_roundw
                      case rel => exact ⟨q + 1, O, A3, c3, by omega, by go_num, rfl, by rw [HF2.out, HOq.out], HO3.out, hb3⟩
                      case measure => simp [intOf]; omega
                  · have HOe : Hid (O = mrgF [] (upto ls k (j + 1))) := hid (by rw [HOq.out, List.take_of_length_le (by omega), HR.out])
                    have HO5 := hid (own_base HO3.out hws)
                    have k5 := HW.out.trans (hb3.mono hws)
                    clear HOq HO3
                    go_wp2_with fail
                    go_roundw
                    case rel => exact ⟨j + 1, O, A3, c3, by omega, by go_num, rfl, HOe.out, HO5.out, k5⟩
                    case measure => simp [intOf]; omega
        · obtain rfl : j = x.length := by omega
          have HS2 : Hid (S = mrgF [] (upto ls (k + 1) 0)) := hid (by rw [HSj.out, HNx.out])
          go_wp2_with fail
          go_roundw
          case rel => exact ⟨k + 1, S, A2, c2s, by omega, by go_num, rfl, HS2.out, HO.out, hbel⟩
          case measure => simp [intOf]; omega
    · obtain rfl : k = ls.length := by omega
      have h := HSk.out
      rw [HE.out] at h
      subst h
      go_wp2_with fail
      go_ret
      exact ⟨A2, c2, rfl, HO.out, hbel⟩
end Go.Proofs.YtecgbelgoomneaaGreat
/- What is picked, the least size of some: by the document. -/
namespace Go.Proofs.YtecgbelgoomneaaGreat
open Go.RowKit
set_option maxHeartbeats 400000
set_option maxRecDepth 100000
set_option linter.unusedVariables false
/-- The first k, rising; its error. -/
def pikE (v : List Int) (k : Int) : Int := if orkE v ≠ 0 then orkE v else if k < 0 ∨ (v.length : Int) < k then 1 else 0
def pikV (v : List Int) (k : Int) : List Int := if pikE v k = 0 then pkI v k.toNat else []
theorem pikE_ok {v : List Int} {k : Int} : pikE v k = 0 ↔ v.length ≤ 4096 ∧ 0 ≤ k ∧ k ≤ v.length := by
  unfold pikE
  by_cases h : orkE v = 0
  · have := orkE_ok.1 h
    rw [if_neg (by omega)]
    split <;> omega
  · have : ¬ v.length ≤ 4096 := fun h2 => h (orkE_ok.2 h2)
    rw [if_pos h]
    omega
theorem pikV_len {v : List Int} {k : Int} (h : pikE v k = 0) : ((pikV v k).length : Int) = k := by
  have h2 := pikE_ok.1 h
  unfold pikV
  rw [if_pos h, pkI_len (by omega)]
  omega
theorem pikV_le (v : List Int) (k : Int) : (pikV v k).length ≤ v.length := by
  by_cases h : pikE v k = 0
  · have h2 := pikE_ok.1 h
    have := pikV_len h
    omega
  · unfold pikV
    rw [if_neg h]
    simp
theorem mrg_pick {v : List Int} {k : Nat} (h : orkE v = 0) (hk : k ≤ v.length) : mrgV [(orkV v).take k] = pkI v k := by
  refine (mrgV_eq (pkI_ris v k) fun x => ?_).symm
  unfold orkV pkI
  rw [if_pos h, ← List.map_take]
  simp only [List.mem_singleton, exists_eq_left, List.mem_map]
  constructor
  · rintro ⟨i, hi, rfl⟩
    exact ⟨i, (pkF_ord hk).1 hi, rfl⟩
  · rintro ⟨i, hi, rfl⟩
    exact ⟨i, (pkF_ord hk).2 hi, rfl⟩
theorem ref_Pick9 {A : Option Addr} {c : Nat} (k : Int) (v : List Int) (uv : ∀ x ∈ v, I64 x) (hl : v.length ≤ 9223372036854775807) (w : World) (ra : Rd (Value.int .i64) w w.heap.size A v) :
    Calls Tryz.prog 82 #[.int .i64 k, .slice A v.length c] w (OwnE 3 .i64 w.heap.size (pikV v k) (pikE v k) w) := by
  have C := hid (ref_Order9 (A := A) (c := c) v uv hl w ra)
  by_cases h : orkE v = 0
  · have hL := orkV_len h
    have h4 := orkE_ok.1 h
    rw [h] at C
    by_cases hk : k < 0 ∨ (v.length : Int) < k
    · have he : pikE v k = 1 := by unfold pikE; rw [if_neg (by rw [h]; decide), if_pos hk]
      have hv : pikV v k = [] := if_neg (by rw [he]; decide)
      rw [he, hv]
      have hk' : k < 0 ∨ (k > (v.length : Int) ∧ ¬ k < 0) := by omega
      clear he hv h hL ra uv hk
      rcases hk' with hk | ⟨hk, hk2⟩
      · go_enter Tryz.func82, Tryz.ntmps82
        go_wp2_with fail
        refine C.out.mono ?_
        rintro _ w1 ⟨A1, c1, rfl, _, hb⟩
        go_wp2_with fail
        go_ret2
        exact .nil hb
      · go_enter Tryz.func82, Tryz.ntmps82
        go_wp2_with fail
        refine C.out.mono ?_
        rintro _ w1 ⟨A1, c1, rfl, _, hb⟩
        go_wp2_with fail
        go_ret2
        exact .nil hb
    · have he : pikE v k = 0 := pikE_ok.2 (by omega)
      have hv : pikV v k = pkI v k.toNat := if_pos he
      obtain ⟨K, rfl⟩ := Int.eq_ofNat_of_zero_le (show 0 ≤ k by omega)
      have hK : K ≤ v.length := by omega
      have hm := mrg_pick h hK
      rw [Int.toNat_natCast] at hv
      rw [he, hv, ← hm]
      obtain ⟨L, hLL⟩ : ∃ L, orkV v = L := ⟨_, rfl⟩
      rw [hLL] at C hL ⊢
      have hTl : (L.take K).length = K := by rw [List.length_take]; omega
      have CM := hid (fun (A : Option Addr) (W : World) (h : RdRows W W.heap.size A [L.take K]) => ref_Merge (A := A) (c := 1) [L.take K] (by simp) (by simp; omega) W h)
      rw [show ([L.take K] : List (List Int)).length = 1 from rfl] at CM
      obtain ⟨R, hR⟩ : ∃ R, mrgV [L.take K] = R := ⟨_, rfl⟩
      rw [hR] at CM ⊢
      have HTL := hid hTl
      have h1 : ¬ ((K : Int) > (v.length : Int)) := by omega
      have HL := hid hL
      have hKL : K ≤ L.length := by omega
      clear he hv h hm hLL hR hTl ra uv hk hL
      go_enter Tryz.func82, Tryz.ntmps82
      go_wp2_with fail
      refine C.out.mono ?_
      rintro _ w1 ⟨A1, c1, rfl, ho, hb⟩
      have hcap := own_cap ho
      have hsl := fun W => run_upto (P := Tryz.prog) 26 Tryz.underlying26 Tryz.sizeOf3 A1 L.length c1 K (by omega) W
      have hrd := (own_rd ho).cut0 (c := c1) (by omega) K
      have HRR := hid (rows_one (c := c1) (L.take K) w1 hrd 26)
      rw [HTL.out] at HRR
      have HB := hid hb
      have hg : Below w1.heap.size w1 (w1.alloc (.cells #[.slice (cutA A1 0 c1) K c1] 26)) := (Below.refl _ _).alloc (Nat.le_refl _) _
      have CM2 := hid (CM.out _ _ HRR.out)
      clear C CM ho hb hrd HRR
      obtain ⟨A2, hA2⟩ : ∃ A2, cutA A1 0 c1 = A2 := ⟨_, rfl⟩
      rw [hA2] at hsl hg CM2
      clear hA2
      go_wp2_with fail
      refine CM2.out.mono ?_
      rintro _ w2 ⟨A3, c3, rfl, ho3, hb3⟩
      have HO := hid (own_base ho3 (show w.heap.size ≤ _ from Nat.le_trans HB.out.size hg.size))
      have k3 := HB.out.trans ((hg.trans (hb3.mono hg.size)).mono HB.out.size)
      clear ho3 hb3
      go_wp2_with fail
      go_ret2
      exact ⟨A3, c3, rfl, HO.out, k3⟩
  · have he : pikE v k = orkE v := if_pos h
    have hv : pikV v k = [] := if_neg (by rw [he]; exact h)
    rw [he, hv]
    obtain ⟨E, hE⟩ : ∃ E, orkE v = E := ⟨_, rfl⟩
    rw [hE] at C h ⊢
    have hne : (E != 0) = true := by simpa using h
    clear he hv hE h ra uv
    go_enter Tryz.func82, Tryz.ntmps82
    go_wp2_with fail
    refine C.out.mono ?_
    rintro _ w1 ⟨A1, c1, rfl, _, hb⟩
    go_wp2_with fail
    go_ret2
    exact .nil hb
end Go.Proofs.YtecgbelgoomneaaGreat
/- A text's sum: a register of 32 bits, halved and turned; bursts. Plain mathematics on numbers. No program in sight. -/
namespace Go.Proofs.YtecgbelgoomneaaGreat
set_option maxRecDepth 100000
set_option linter.unusedVariables false
/-- What a register is turned by whose bit that fell out was 1. -/
def tnr : Nat := 3988292384
/-- A register halved. -/
def hs (r : Nat) : Nat := if r % 2 = 1 then r / 2 ^^^ tnr else r / 2
/-- .. so many times. -/
def hn : Nat → Nat → Nat
  | 0, r => r
  | n + 1, r => hn n (hs r)
theorem hs_lt {r : Nat} (h : r < 2 ^ 32) : hs r < 2 ^ 32 := by
  unfold hs
  split
  · exact Nat.xor_lt_two_pow (by omega) (by decide)
  · omega
theorem hn_lt : ∀ (n : Nat) {r : Nat}, r < 2 ^ 32 → hn n r < 2 ^ 32
  | 0, _, h => h
  | n + 1, _, h => hn_lt n (hs_lt h)
theorem hs_zero : hs 0 = 0 := by rfl
theorem hn_zero : ∀ n, hn n 0 = 0
  | 0 => rfl
  | n + 1 => by rw [hn, hs_zero, hn_zero]
theorem xor4 (a b t : Nat) : (a ^^^ t) ^^^ (b ^^^ t) = a ^^^ b := by
  rw [Nat.xor_assoc, Nat.xor_comm b t, ← Nat.xor_assoc t, Nat.xor_self, Nat.zero_xor]
theorem hs_xor (a b : Nat) : hs (a ^^^ b) = hs a ^^^ hs b := by
  have hm : (a ^^^ b) % 2 = 1 ↔ ¬ ((a % 2 = 1) ↔ (b % 2 = 1)) := Nat.xor_mod_two_eq_one
  unfold hs
  rw [Nat.xor_div_two]
  by_cases ha : a % 2 = 1 <;> by_cases hb : b % 2 = 1
  · rw [if_neg (by rw [hm]; simp [ha, hb]), if_pos ha, if_pos hb, xor4]
  · rw [if_pos (by rw [hm]; simp [ha, hb]), if_pos ha, if_neg hb, Nat.xor_assoc, Nat.xor_comm _ tnr, ← Nat.xor_assoc]
  · rw [if_pos (by rw [hm]; simp [ha, hb]), if_neg ha, if_pos hb, Nat.xor_assoc]
  · rw [if_neg (by rw [hm]; simp [ha, hb]), if_neg ha, if_neg hb]
theorem hn_xor : ∀ (n a b : Nat), hn n (a ^^^ b) = hn n a ^^^ hn n b
  | 0, _, _ => rfl
  | n + 1, a, b => by rw [hn, hs_xor, hn_xor n, hn, hn]
theorem hn_add : ∀ (m n r : Nat), hn (m + n) r = hn n (hn m r)
  | 0, n, r => by rw [Nat.zero_add]; rfl
  | m + 1, n, r => by rw [show m + 1 + n = (m + n) + 1 by omega, hn, hn_add m n, hn]
theorem eq_of_xor {a b : Nat} (h : a ^^^ b = 0) : a = b := by
  have := congrArg (· ^^^ b) h
  simpa [Nat.xor_assoc] using this
theorem hs_inj {r : Nat} (h : r < 2 ^ 32) (h0 : hs r = 0) : r = 0 := by
  unfold hs at h0
  split at h0
  · have := eq_of_xor h0
    unfold tnr at this
    omega
  · omega
theorem hn_inj : ∀ (n : Nat) {r : Nat}, r < 2 ^ 32 → hn n r = 0 → r = 0
  | 0, _, _, h0 => h0
  | n + 1, _, h, h0 => hs_inj h (hn_inj n (hs_lt h) h0)
/-- One byte taken in, and texts. -/
def crcB (c x : Nat) : Nat := hn 8 (c ^^^ x)
def crcL : Nat → List Int → Nat
  | c, [] => c
  | c, x :: xs => crcL (crcB c x.toNat) xs
theorem crcL_nil (c : Nat) : crcL c [] = c := by rfl
theorem crcL_cons (c : Nat) (x : Int) (xs : List Int) : crcL c (x :: xs) = crcL (crcB c x.toNat) xs := by rfl
theorem crcB_lt {c x : Nat} (hc : c < 2 ^ 32) (hx : x < 256) : crcB c x < 2 ^ 32 := hn_lt 8 (Nat.xor_lt_two_pow hc (by omega))
theorem crcL_app : ∀ (a b : List Int) (c : Nat), crcL c (a ++ b) = crcL (crcL c a) b
  | [], _, _ => rfl
  | x :: xs, b, c => by rw [List.cons_append, crcL_cons, crcL_app xs b, crcL_cons]
theorem crcL_lt : ∀ (l : List Int) {c : Nat}, U8s l → c < 2 ^ 32 → crcL c l < 2 ^ 32
  | [], _, _, h => h
  | x :: xs, c, hl, h => by
    have hx := hl x (by simp)
    exact crcL_lt xs (fun y hy => hl y (by simp [hy])) (crcB_lt h (by omega))
/-- All bits of a register turned. -/
def inv (s : Nat) : Nat := 4294967295 - s
theorem inv_lt (s : Nat) : inv s < 2 ^ 32 := by unfold inv; omega
theorem inv_xor {s : Nat} (h : s < 2 ^ 32) : inv s = s ^^^ 4294967295 := by
  have e : inv s = (~~~ (BitVec.ofNat 32 s)).toNat := by
    rw [BitVec.toNat_not, BitVec.toNat_ofNat, Nat.mod_eq_of_lt h]; rfl
  have e2 : s ^^^ 4294967295 = (BitVec.ofNat 32 s ^^^ BitVec.allOnes 32).toNat := by
    rw [BitVec.toNat_xor, BitVec.toNat_ofNat, Nat.mod_eq_of_lt h, BitVec.toNat_allOnes]
  rw [e, e2, BitVec.xor_allOnes]
/-- The sum that goes on from s, and a text's. -/
def moreN (s : Nat) (l : List Int) : Nat := inv (crcL (inv s) l)
def sumN (l : List Int) : Nat := moreN 0 l
theorem sumN_lt (l : List Int) : sumN l < 2 ^ 32 := inv_lt _
/-- The lowest bytes of a number, the lowest first. -/
def le4 (s : Nat) : List Int := [((s % 256 : Nat) : Int), ((s / 256 % 256 : Nat) : Int), ((s / 65536 % 256 : Nat) : Int), ((s / 16777216 % 256 : Nat) : Int)]
theorem le4_bytes (s : Nat) : U8s (le4 s) := by
  intro x hx
  simp only [le4, List.mem_cons, List.not_mem_nil, or_false] at hx
  omega
theorem le4_len (s : Nat) : (le4 s).length = 4 := by rfl
theorem le4_inj {s t : Nat} (hs : s < 2 ^ 32) (ht : t < 2 ^ 32) (h : le4 s = le4 t) : s = t := by
  unfold le4 at h
  simp only [List.cons.injEq, and_true] at h
  omega
theorem le4_of {a b c d : Int} (h : U8s [a, b, c, d]) : ∃ s, s < 2 ^ 32 ∧ [a, b, c, d] = le4 s := by
  have h0 := h a (by simp)
  have h1 := h b (by simp)
  have h2 := h c (by simp)
  have h3 := h d (by simp)
  refine ⟨(a + 256 * b + 65536 * c + 16777216 * d).toNat, by omega, ?_⟩
  unfold le4
  simp only [List.cons.injEq, and_true]
  omega
/-- Eight bits of a number, put ahead of what is above them. -/
theorem join_byte (n : Nat) : n = n % 256 ^^^ (n / 256) * 256 := by
  have h1 : n = (n / 256) * 2 ^ 8 + n % 256 := by omega
  apply Nat.eq_of_testBit_eq
  intro i
  rw [Nat.testBit_xor, show (n / 256 * 256) = n / 256 * 2 ^ 8 from rfl, Nat.testBit_mul_two_pow, show n % 256 = n % 2 ^ 8 from rfl, Nat.testBit_mod_two_pow, show n / 256 = n / 2 ^ 8 from rfl, Nat.testBit_div_two_pow]
  by_cases h : i < 8
  · simp [h, show ¬ 8 ≤ i by omega]
  · simp [h, show 8 ≤ i by omega, show i - 8 + 8 = i by omega]
theorem hn_up : ∀ (k m : Nat), hn k (m * 2 ^ k) = m
  | 0, m => by simp [hn]
  | k + 1, m => by
    rw [hn]
    have : hs (m * 2 ^ (k + 1)) = m * 2 ^ k := by
      unfold hs
      rw [Nat.pow_succ, ← Nat.mul_assoc, if_neg (by omega)]
      omega
    rw [this, hn_up k]
/-- A number's bytes taken in, one behind the other, are the number taken in. -/
theorem crcL_le4 {c s : Nat} (hs : s < 2 ^ 32) : crcL c (le4 s) = hn 32 (c ^^^ s) := by
  have step : ∀ (c n : Nat), crcB c (n % 256) ^^^ n / 256 = hn 8 (c ^^^ n) := fun c n => by
    unfold crcB
    conv => rhs; rw [join_byte n, ← Nat.xor_assoc, hn_xor, show n / 256 * 256 = n / 256 * 2 ^ 8 from rfl, hn_up]
  have e : ∀ (c n : Nat), crcB c (n % 256) = hn 8 (c ^^^ n) ^^^ n / 256 := fun c n => by
    rw [← step, Nat.xor_assoc, Nat.xor_self, Nat.xor_zero]
  have e2 : ∀ a n : Nat, crcB (a ^^^ n) (n % 256) = hn 8 a ^^^ n / 256 := fun a n => by
    rw [e, Nat.xor_assoc, Nat.xor_self, Nat.xor_zero]
  have cast : ∀ k : Nat, ((k : Int)).toNat = k := fun k => by omega
  unfold le4
  rw [crcL_cons, crcL_cons, crcL_cons, crcL_cons, crcL_nil, cast, cast, cast, cast, show s / 65536 = s / 256 / 256 by omega, show s / 16777216 = s / 256 / 256 / 256 by omega]
  have h0 : s / 256 / 256 / 256 / 256 = 0 := by omega
  obtain ⟨a, ha⟩ : ∃ a, s / 256 = a := ⟨_, rfl⟩
  obtain ⟨b, hb⟩ : ∃ b, a / 256 = b := ⟨_, rfl⟩
  obtain ⟨d, hd⟩ : ∃ d, b / 256 = d := ⟨_, rfl⟩
  rw [ha, hb, hd] at h0
  have h1 := e c s
  have h2 := e2 (hn 8 (c ^^^ s)) a
  have h3 := e2 (hn 8 (hn 8 (c ^^^ s))) b
  have h4 := e2 (hn 8 (hn 8 (hn 8 (c ^^^ s)))) d
  rw [ha] at h1
  rw [hb] at h2
  rw [hd] at h3
  rw [h0, Nat.xor_zero] at h4
  rw [ha, hb, hd, h1, h2, h3, h4, show (32 : Nat) = 8 + (8 + (8 + 8)) from rfl, hn_add 8, hn_add 8, hn_add 8]
/-- How far a sealed text is off. -/
def off (l : List Int) : Nat := crcL 4294967295 l ^^^ hn 32 4294967295
theorem off_sum {a : List Int} (ha : U8s a) {s : Nat} (hs : s < 2 ^ 32) : off (a ++ le4 s) = hn 32 (sumN a ^^^ s) := by
  have hc := crcL_lt a ha (c := 4294967295) (by decide)
  have e : sumN a = crcL 4294967295 a ^^^ 4294967295 := by
    unfold sumN moreN
    rw [show inv 0 = 4294967295 from rfl, inv_xor hc]
  unfold off
  rw [crcL_app, crcL_le4 hs, e, ← hn_xor]
  congr 1
  rw [Nat.xor_assoc, Nat.xor_assoc, Nat.xor_comm s]
/-- A sealed text's sum is its own just if it isn't off. -/
theorem off_iff {a : List Int} (ha : U8s a) {s : Nat} (hs : s < 2 ^ 32) : off (a ++ le4 s) = 0 ↔ s = sumN a := by
  rw [off_sum ha hs]
  constructor
  · intro h
    exact (eq_of_xor (hn_inj 32 (Nat.xor_lt_two_pow (sumN_lt a) hs) h)).symm
  · rintro rfl
    rw [Nat.xor_self, hn_zero]
theorem cut4 {l : List Int} (hl : U8s l) (h4 : 4 ≤ l.length) : ∃ s, s < 2 ^ 32 ∧ l.drop (l.length - 4) = le4 s := by
  have hb := hl.drop (l.length - 4)
  have hlen : (l.drop (l.length - 4)).length = 4 := by rw [List.length_drop]; omega
  match hd : l.drop (l.length - 4), hlen, hb with
  | [a, b, c, d], _, hb => exact le4_of hb
/-- Is it sealed? -/
def sealedB (l : List Int) : Bool := eqL (l.drop (l.length - 4)) (le4 (sumN (l.take (l.length - 4))))
where eqL (a b : List Int) : Bool := decide (a = b)
theorem sealed_iff {l : List Int} (hl : U8s l) (h4 : 4 ≤ l.length) : sealedB l = true ↔ off l = 0 := by
  obtain ⟨s, hs, e⟩ := cut4 hl h4
  unfold sealedB sealedB.eqL
  rw [decide_eq_true_iff, e]
  have h := off_iff (hl.take (l.length - 4)) hs
  rw [← e, List.take_append_drop] at h
  rw [h]
  constructor
  · intro h'; exact le4_inj hs (sumN_lt _) h'
  · rintro rfl; rfl
def sealV (l : List Int) : List Int := if 65532 < l.length then [] else l ++ le4 (sumN l)
def sealE (l : List Int) : Int := if 65532 < l.length then 3 else 0
def openV (l : List Int) : List Int := if 65536 < l.length ∨ l.length < 4 ∨ sealedB l = false then [] else l.take (l.length - 4)
def openE (l : List Int) : Int := if 65536 < l.length then 3 else if l.length < 4 then 5 else if sealedB l = false then 7 else 0
end Go.Proofs.YtecgbelgoomneaaGreat
/- What was put is got, what was got was put; spread, gathered, left: plain mathematics. -/
namespace Go.Proofs.YtecgbelgoomneaaGreat
set_option maxRecDepth 100000
set_option linter.unusedVariables false
theorem pixV_u8 (dim : Int) (l : List Int) : U8s (pixV dim l) := by
  unfold pixV
  split
  · rename_i h; exact encs_u8 (putL_u64 (chk_ok.1 h))
  · intro x hx; simp at hx
theorem pixV_len (dim : Int) (l : List Int) : (pixV dim l).length ≤ 41000 := by
  unfold pixV
  split
  · rename_i h
    have hp := chk_ok.1 h
    have h1 := encs_len (putL_u64 hp)
    have h2 := plc_le hp
    have h3 := hp.2.1
    unfold putL at h1 ⊢
    rw [List.length_cons, gaps_len] at h1
    omega
  · simp
theorem ixL_put {dim : Int} {b behind : List Int} (hd : dim ≤ 4096) : ∀ (l : List Int) (last : Int) (ahead : List Int), risP (last :: l) → -1 ≤ last → (∀ n ∈ l, n < dim) → b = ahead ++ (encs (gapsF last l) ++ behind) →
    ixL dim b l.length last ahead.length = (l, (((ahead ++ encs (gapsF last l)).length : Nat) : Int), 0)
  | [], last, ahead, _, _, _, hb => by simp [ixL, gapsF, encs]
  | n :: l, last, ahead, hr, hl, hn, hb => by
    have hn1 := hn n (by simp)
    have hlt : last < n := (List.pairwise_cons.1 hr).1 n (by simp)
    rw [gapsF, encs_cons] at hb
    have hu : U64 (n - last - 1) := by unfold U64; omega
    have hb' : b = ahead ++ (lebI (n - last - 1) ++ (encs (gapsF n l) ++ behind)) := by rw [hb]; simp
    obtain ⟨e1, e2, e3⟩ := get_at hu ahead _ hb'
    have ih := ixL_put (b := b) (behind := behind) hd l n (ahead ++ lebI (n - last - 1)) (List.pairwise_cons.1 hr).2 (by omega) (fun m hm => hn m (by simp [hm])) (by rw [hb']; simp)
    rw [List.length_cons, ixL]
    have h1 : ¬ getE b (ahead.length : Int) ≠ 0 := fun h => h e2
    rw [if_neg h1, e1, if_neg (by omega), show last + (n - last - 1) + 1 = n by omega, e3]
    rw [List.length_append, Int.natCast_add] at ih
    rw [ih]
    simp [gapsF, encs_cons]
theorem gix_put {dim : Int} {l ahead behind b : List Int} (h : chkE dim l = 0) (hb : b = ahead ++ (pixV dim l ++ behind)) : gixR dim b ahead.length = (l, (((ahead ++ pixV dim l).length : Nat) : Int), 0) := by
  have hp := chk_ok.1 h
  have h1 := hp.1
  have h2 := hp.2.1
  have h3 := plc_le hp
  have e : pixV dim l = lebI (l.length : Int) ++ encs (gapsF (-1) l) := by unfold pixV; rw [if_pos h]; unfold putL; rw [encs_cons]
  rw [e] at hb ⊢
  have hu : U64 (l.length : Int) := by unfold U64; omega
  have hb' : b = ahead ++ (lebI (l.length : Int) ++ (encs (gapsF (-1) l) ++ behind)) := by rw [hb]; simp
  obtain ⟨e1, e2, e3⟩ := get_at hu ahead _ hb'
  have h4 := ixL_put (b := b) (behind := behind) h2 l (-1) (ahead ++ lebI (l.length : Int)) (plc_cons hp) (by omega) (fun n hn => (hp.2.2.2 n hn).2) (by rw [hb']; simp)
  unfold gixR
  have hne : ¬ getE b (ahead.length : Int) ≠ 0 := fun h => h e2
  rw [if_neg (by omega), if_neg hne, e1, if_neg (by omega), Int.toNat_natCast, e3]
  rw [List.length_append, Int.natCast_add] at h4
  rw [h4]
  simp
theorem sp_ok {K : Nat} {l v : List Int} (h : chkE K l = 0) (hv : l.length = v.length) : spE K l v = 0 ∧ spV K l v = (upI K).map (spF l v) := by
  have e : spE K l v = 0 := by unfold spE; rw [if_pos h, if_pos hv]
  refine ⟨e, ?_⟩
  unfold spV
  rw [if_pos e, Int.toNat_natCast]
theorem sp_at {K : Nat} {l v : List Int} {n : Nat} (hn : n < K) : ((upI K).map (spF l v))[n]? = some (spF l v n) := by
  rw [List.getElem?_map, upI_at hn]; rfl
end Go.Proofs.YtecgbelgoomneaaGreat
/- Bits in bytes, side by side and in planes: plain mathematics. No program in sight. -/
namespace Go.Proofs.YtecgbelgoomneaaGreat
set_option maxRecDepth 100000
set_option linter.unusedVariables false
/-- The first n of the bits that f tells. -/
def mkB (n : Nat) (f : Nat → Bool) : List Bool := (List.range n).map f
theorem mkB_len (n : Nat) (f : Nat → Bool) : (mkB n f).length = n := by unfold mkB; simp
theorem mkB_succ (n : Nat) (f : Nat → Bool) : mkB (n + 1) f = mkB n f ++ [f n] := by unfold mkB; simp [List.range_succ]
theorem mkB_at {n k : Nat} (f : Nat → Bool) (h : k < n) : (mkB n f)[k]? = some (f k) := by unfold mkB; simp [h]
/-- What a bit at place p weighs, of the first n. -/
def bv (n : Nat) (f : Nat → Bool) (p : Nat) (w : Int) : Int := if p < n ∧ f p = true then w else 0
/-- A byte of the first n bits. -/
def byF (n : Nat) (f : Nat → Bool) (i : Nat) : Int :=
  bv n f (8 * i) 128 + bv n f (8 * i + 1) 64 + bv n f (8 * i + 2) 32 + bv n f (8 * i + 3) 16 + bv n f (8 * i + 4) 8 + bv n f (8 * i + 5) 4 + bv n f (8 * i + 6) 2 + bv n f (8 * i + 7) 1
def pkL (n : Nat) (f : Nat → Bool) : List Int := (List.range ((n + 7) / 8)).map (byF n f)
theorem pkL_len (n : Nat) (f : Nat → Bool) : (pkL n f).length = (n + 7) / 8 := by unfold pkL; simp
theorem pkL_at {n i : Nat} (f : Nat → Bool) (h : i < (n + 7) / 8) : (pkL n f)[i]? = some (byF n f i) := by unfold pkL; simp [h]
theorem bv_next {n p : Nat} {f : Nat → Bool} {w : Int} (h : p ≠ n) : bv (n + 1) f p w = bv n f p w := by
  unfold bv
  by_cases hp : p < n
  · simp [hp, show p < n + 1 by omega]
  · simp [hp, show ¬ p < n + 1 by omega]
theorem bv_here {n p : Nat} {f : Nat → Bool} {w : Int} (h : p = n) : bv (n + 1) f p w = if f n = true then w else 0 := by
  unfold bv
  subst h
  simp
theorem bv_not {n p : Nat} {f : Nat → Bool} {w : Int} (h : n ≤ p) : bv n f p w = 0 := by
  unfold bv
  rw [if_neg (by omega)]
theorem byF_other {n i : Nat} {f : Nat → Bool} (h : i ≠ n / 8) : byF (n + 1) f i = byF n f i := by
  unfold byF
  rw [bv_next (by omega), bv_next (by omega), bv_next (by omega), bv_next (by omega), bv_next (by omega), bv_next (by omega), bv_next (by omega), bv_next (by omega)]
theorem byF_off {n i : Nat} {f : Nat → Bool} (h : f n = false) : byF (n + 1) f i = byF n f i := by
  have e : ∀ p w, bv (n + 1) f p w = bv n f p w := fun p w => by
    by_cases hp : p = n
    · rw [bv_here hp, bv_not (by omega), h]; rfl
    · exact bv_next hp
  unfold byF
  simp only [e]
theorem byF_on {n : Nat} {f : Nat → Bool} (h : f n = true) : byF (n + 1) f (n / 8) = byF n f (n / 8) + 128 / 2 ^ (n % 8) := by
  have e : ∀ j w, bv (n + 1) f (8 * (n / 8) + j) w = bv n f (8 * (n / 8) + j) w + if j = n % 8 then w else 0 := fun j w => by
    by_cases hj : j = n % 8
    · rw [bv_here (by omega), bv_not (by omega), if_pos h, if_pos hj]; omega
    · rw [bv_next (by omega), if_neg hj]; omega
  have e0 : ∀ w, bv (n + 1) f (8 * (n / 8)) w = bv n f (8 * (n / 8)) w + if 0 = n % 8 then w else 0 := e 0
  unfold byF
  rw [e0, e, e, e, e, e, e, e]
  have h8 : n % 8 < 8 := Nat.mod_lt _ (by decide)
  obtain ⟨r, hr⟩ : ∃ r, n % 8 = r := ⟨_, rfl⟩
  rw [hr] at h8 ⊢
  match r, h8 with
  | 0, _ => simp; omega
  | 1, _ => simp; omega
  | 2, _ => simp; omega
  | 3, _ => simp; omega
  | 4, _ => simp; omega
  | 5, _ => simp; omega
  | 6, _ => simp; omega
  | 7, _ => simp; omega
theorem bv_cases (n : Nat) (f : Nat → Bool) (p : Nat) (w : Int) : bv n f p w = if (decide (p < n) && f p) then w else 0 := by
  unfold bv
  by_cases h : p < n <;> simp [h]
theorem byF_lt (n : Nat) (f : Nat → Bool) (i : Nat) : 0 ≤ byF n f i ∧ byF n f i ≤ 255 := by
  have h : ∀ p w, 0 ≤ w → 0 ≤ bv n f p w ∧ bv n f p w ≤ w := fun p w hw => by unfold bv; split <;> omega
  unfold byF
  have := h (8 * i) 128 (by decide)
  have := h (8 * i + 1) 64 (by decide)
  have := h (8 * i + 2) 32 (by decide)
  have := h (8 * i + 3) 16 (by decide)
  have := h (8 * i + 4) 8 (by decide)
  have := h (8 * i + 5) 4 (by decide)
  have := h (8 * i + 6) 2 (by decide)
  have := h (8 * i + 7) 1 (by decide)
  omega
theorem pkL_bytes (n : Nat) (f : Nat → Bool) : U8s (pkL n f) := by
  intro x hx
  unfold pkL at hx
  obtain ⟨i, _, rfl⟩ := List.mem_map.1 hx
  exact byF_lt n f i
theorem pkL_congr {n : Nat} {f g : Nat → Bool} (h : ∀ k, k < n → f k = g k) : pkL n f = pkL n g := by
  have e : ∀ p w, bv n f p w = bv n g p w := fun p w => by
    unfold bv
    by_cases hp : p < n
    · rw [h p hp]
    · rw [if_neg (by omega), if_neg (by omega)]
  unfold pkL
  refine List.map_congr_left fun i _ => ?_
  unfold byF
  simp only [e]
/-- A bit of a number, of bytes. -/
def bt (n : Int) (k : Nat) : Bool := decide (n / 2 ^ k % 2 = 1)
def fB (b : List Int) (p : Nat) : Bool := bt (b.getD (p / 8) 0) (7 - p % 8)
def sum8 (a b c d e f g h : Bool) : Int := (if a then 128 else 0) + (if b then 64 else 0) + (if c then 32 else 0) + (if d then 16 else 0) + (if e then 8 else 0) + (if f then 4 else 0) + (if g then 2 else 0) + (if h then 1 else 0)
theorem sum8_bits : ∀ a b c d e f g h : Bool, bt (sum8 a b c d e f g h) 7 = a ∧ bt (sum8 a b c d e f g h) 6 = b ∧ bt (sum8 a b c d e f g h) 5 = c ∧ bt (sum8 a b c d e f g h) 4 = d ∧
    bt (sum8 a b c d e f g h) 3 = e ∧ bt (sum8 a b c d e f g h) 2 = f ∧ bt (sum8 a b c d e f g h) 1 = g ∧ bt (sum8 a b c d e f g h) 0 = h := by decide +kernel
theorem byF_sum (n : Nat) (f : Nat → Bool) (i : Nat) : byF n f i = sum8 (decide (8 * i < n) && f (8 * i)) (decide (8 * i + 1 < n) && f (8 * i + 1)) (decide (8 * i + 2 < n) && f (8 * i + 2)) (decide (8 * i + 3 < n) && f (8 * i + 3))
    (decide (8 * i + 4 < n) && f (8 * i + 4)) (decide (8 * i + 5 < n) && f (8 * i + 5)) (decide (8 * i + 6 < n) && f (8 * i + 6)) (decide (8 * i + 7 < n) && f (8 * i + 7)) := by
  unfold byF sum8
  simp only [bv_cases]
theorem byF_bit (n : Nat) (f : Nat → Bool) (i j : Nat) (hj : j < 8) : bt (byF n f i) (7 - j) = (decide (8 * i + j < n) && f (8 * i + j)) := by
  rw [byF_sum]
  obtain ⟨h0, h1, h2, h3, h4, h5, h6, h7⟩ := sum8_bits (decide (8 * i < n) && f (8 * i)) (decide (8 * i + 1 < n) && f (8 * i + 1)) (decide (8 * i + 2 < n) && f (8 * i + 2)) (decide (8 * i + 3 < n) && f (8 * i + 3))
    (decide (8 * i + 4 < n) && f (8 * i + 4)) (decide (8 * i + 5 < n) && f (8 * i + 5)) (decide (8 * i + 6 < n) && f (8 * i + 6)) (decide (8 * i + 7 < n) && f (8 * i + 7))
  match j, hj with
  | 0, _ => exact h0
  | 1, _ => exact h1
  | 2, _ => exact h2
  | 3, _ => exact h3
  | 4, _ => exact h4
  | 5, _ => exact h5
  | 6, _ => exact h6
  | 7, _ => exact h7
/-- What was packed, bit by bit. -/
theorem fB_pkL {n p : Nat} (f : Nat → Bool) (h : p / 8 < (n + 7) / 8) : fB (pkL n f) p = (decide (p < n) && f p) := by
  unfold fB
  rw [List.getD_eq_getElem?_getD, pkL_at f h, Option.getD_some, byF_bit n f (p / 8) (p % 8) (Nat.mod_lt _ (by decide)), show 8 * (p / 8) + p % 8 = p by omega]
/-- A number of w bits, the highest first. -/
def nmF : Nat → (Nat → Bool) → Int
  | 0, _ => 0
  | w + 1, g => 2 * nmF w g + if g w then 1 else 0
theorem nmF_congr : ∀ {w : Nat} {f g : Nat → Bool}, (∀ k, k < w → f k = g k) → nmF w f = nmF w g
  | 0, _, _, _ => by rfl
  | w + 1, f, g, h => by rw [nmF, nmF, nmF_congr (fun k hk => h k (by omega)), h w (by omega)]
theorem nmF_of {n : Int} {w : Nat} (h0 : 0 ≤ n) (h1 : n < 2 ^ w) : nmF w (fun k => bt n (w - 1 - k)) = n := by
  have key : ∀ j, j ≤ w → nmF j (fun k => bt n (w - 1 - k)) = n / 2 ^ (w - j) := by
    intro j
    induction j with
    | zero =>
      intro _
      rw [nmF, Nat.sub_zero, Int.ediv_eq_zero_of_lt h0 h1]
    | succ j ih =>
      intro hj
      rw [nmF, ih (by omega)]
      have e : w - j = (w - (j + 1)) + 1 := by omega
      have h2 : n / 2 ^ (w - j) = n / 2 ^ (w - (j + 1)) / 2 := by
        rw [e, Int.pow_succ, Int.ediv_ediv_of_nonneg (Int.pow_nonneg (by decide))]
      rw [h2]
      unfold bt
      rw [show w - 1 - j = w - (j + 1) by omega]
      by_cases hb : n / 2 ^ (w - (j + 1)) % 2 = 1
      · simp only [hb, decide_true, if_true]; omega
      · simp only [hb, decide_false, Bool.false_eq_true, if_false]; omega
  have := key w (Nat.le_refl _)
  rw [Nat.sub_self] at this
  simpa using this
/-- A number's width. -/
def wdt (n : Int) : Nat := Lib.bitLen n.toNat
theorem bitLen_lt (k : Nat) : ∀ x : Nat, k ≤ 64 → x < 2 ^ 64 → (Lib.bitLen x ≤ k ↔ x < 2 ^ k) := by
  induction k with
  | zero =>
    intro x _ hx
    constructor
    · intro h
      by_cases h0 : x = 0
      · simp [h0]
      · rw [Lib.bitLen_half x h0 hx] at h; omega
    · intro h
      exact Lib.bitLen_le x 0 (by omega) h
  | succ k ih =>
    intro x hk hx
    by_cases h0 : x = 0
    · subst h0
      exact ⟨fun _ => Nat.pow_pos (by decide), fun h => Lib.bitLen_le 0 _ (by omega) h⟩
    · rw [Lib.bitLen_half x h0 hx]
      have := ih (x / 2) (by omega) (by omega)
      rw [Nat.pow_succ]
      omega
theorem wdt_le {n : Int} (hn : U64 n) {w : Nat} (hw : w ≤ 64) : wdt n ≤ w ↔ n < 2 ^ w := by
  unfold U64 at hn
  unfold wdt
  rw [bitLen_lt w n.toNat hw (by omega)]
  have : ((2 ^ w : Nat) : Int) = (2 : Int) ^ w := by norm_cast
  omega
end Go.Proofs.YtecgbelgoomneaaGreat
/- What plane's calls tell, and what follows. Plain mathematics. No program in sight. -/
namespace Go.Proofs.YtecgbelgoomneaaGreat
set_option maxRecDepth 100000
set_option linter.unusedVariables false
/-- How many bytes, and the error. -/
def bysE (w m : Int) : Int := if w < 0 ∨ 32 < w ∨ m < 0 then 1 else if 4096 < m then 3 else 0
def bysV (w m : Int) : Int := if bysE w m = 0 then (w * m + 7) / 8 else 0
theorem bys_ok {w m : Int} (h : bysE w m = 0) : (0 ≤ w ∧ w ≤ 32) ∧ 0 ≤ m ∧ m ≤ 4096 := by
  unfold bysE at h
  split at h
  · simp at h
  · split at h
    · simp at h
    · omega
theorem bys_nat {w m : Nat} (h : bysE w m = 0) : bysV w m = (((w * m + 7) / 8 : Nat) : Int) := by
  unfold bysV
  rw [if_pos h]
  rw [Int.natCast_ediv, Int.natCast_add, Int.natCast_mul]
  rfl
/-- Whether numbers may be packed. -/
def fitsB (w : Int) (l : List Int) : Bool := l.all fun n => decide ((wdt n : Int) ≤ w)
def mayE (w : Int) (l : List Int) : Int := if bysE w l.length = 0 then (if fitsB w l = true then 0 else 1) else bysE w l.length
theorem mayE_ok {w : Int} {l : List Int} (h : mayE w l = 0) : bysE w l.length = 0 ∧ fitsB w l = true := by
  unfold mayE at h
  split at h
  · rename_i h1
    split at h
    · rename_i h2; exact ⟨h1, h2⟩
    · simp at h
  · rename_i h1; exact absurd h h1
theorem fitsB_iff {w : Nat} (hw : w ≤ 32) {l : List Int} (ul : U64s l) : fitsB w l = true ↔ ∀ n ∈ l, n < 2 ^ w := by
  unfold fitsB
  rw [List.all_eq_true]
  constructor
  · intro h n hn
    have := of_decide_eq_true (h n hn)
    exact (wdt_le (ul n hn) (by omega)).1 (by omega)
  · intro h n hn
    have := (wdt_le (ul n hn) (w := w) (by omega)).2 (h n hn)
    exact decide_eq_true (by omega)
/-- Where each bit goes: side by side, and in planes. -/
def sdF (w : Nat) (l : List Int) (p : Nat) : Bool := bt (l.getD (p / w) 0) (w - 1 - p % w)
def plF (w : Nat) (l : List Int) (p : Nat) : Bool := bt (l.getD (p % l.length) 0) (w - 1 - p / l.length)
def pckV (w : Int) (l : List Int) : List Int := if mayE w l = 0 then pkL (w.toNat * l.length) (sdF w.toNat l) else []
def wevV (w : Int) (l : List Int) : List Int := if mayE w l = 0 then pkL (w.toNat * l.length) (plF w.toNat l) else []
/-- Is what is left of the last byte 0? -/
def tlB (n : Nat) (b : List Int) : Bool := (List.range (8 * b.length - n)).all fun j => !fB b (n + j)
def bitE (w m : Int) (b : List Int) : Int := if bysE w m = 0 then (if (b.length : Int) = bysV w m then (if tlB (w.toNat * m.toNat) b = true then 0 else 6) else 4) else bysE w m
def bitV (w m : Int) (b : List Int) : List Bool := if bitE w m b = 0 then mkB (w.toNat * m.toNat) (fB b) else []
def uwvV (w m : Int) (b : List Int) : List Int := if bitE w m b = 0 then (List.range m.toNat).map (fun i => nmF w.toNat fun k => fB b (k * m.toNat + i)) else []
/-- Signs. -/
def sgnE (l : List Bool) : Int := if 4096 < l.length then 3 else 0
def sgnV (l : List Bool) : List Int := if 4096 < l.length then [] else pkL l.length fun p => l.getD p false
theorem tlB_iff (n : Nat) (b : List Int) : tlB n b = true ↔ ∀ p, n ≤ p → p < 8 * b.length → fB b p = false := by
  unfold tlB
  rw [List.all_eq_true]
  constructor
  · intro h p h1 h2
    have := h (p - n) (List.mem_range.2 (by omega))
    rw [show n + (p - n) = p by omega] at this
    simpa using this
  · intro h j hj
    have hj := List.mem_range.1 hj
    rw [h (n + j) (by omega) (by omega)]
    rfl
/-- What was packed reads well. -/
theorem bitE_pkL {w m : Nat} (f : Nat → Bool) (h : bysE w m = 0) : bitE w m (pkL (w * m) f) = 0 := by
  unfold bitE
  rw [if_pos h, if_pos (by rw [pkL_len, bys_nat h]), if_pos]
  rw [tlB_iff, pkL_len]
  intro p h1 h2
  rw [Int.toNat_natCast, Int.toNat_natCast] at h1
  rw [fB_pkL f (by omega)]
  simp
  omega
theorem sd_at {w : Nat} {l : List Int} {i k : Nat} (hk : k < w) : sdF w l (i * w + k) = bt (l.getD i 0) (w - 1 - k) := by
  unfold sdF
  have h1 : (i * w + k) / w = i := by rw [Nat.mul_comm, Nat.mul_add_div (by omega), Nat.div_eq_of_lt hk, Nat.add_zero]
  have h2 : (i * w + k) % w = k := by rw [Nat.mul_comm, Nat.mul_add_mod, Nat.mod_eq_of_lt hk]
  rw [h1, h2]
theorem pl_at {w : Nat} {l : List Int} {i k : Nat} (hi : i < l.length) : plF w l (k * l.length + i) = bt (l.getD i 0) (w - 1 - k) := by
  unfold plF
  have h1 : (k * l.length + i) / l.length = k := by rw [Nat.mul_comm, Nat.mul_add_div (by omega), Nat.div_eq_of_lt hi, Nat.add_zero]
  have h2 : (k * l.length + i) % l.length = i := by rw [Nat.mul_comm, Nat.mul_add_mod, Nat.mod_eq_of_lt hi]
  rw [h1, h2]
theorem place_lt {w m i k : Nat} (hi : i < m) (hk : k < w) : i * w + k < w * m := by
  have : (i + 1) * w ≤ m * w := Nat.mul_le_mul_right w (by omega)
  rw [Nat.add_mul, Nat.one_mul] at this
  rw [Nat.mul_comm w m]
  omega
theorem fB_in {n p : Nat} (f : Nat → Bool) (h : p < n) : fB (pkL n f) p = f p := by
  rw [fB_pkL f (by omega)]
  simp [h]
theorem numbers_back {w : Nat} {l : List Int} (h0 : ∀ n ∈ l, 0 ≤ n ∧ n < 2 ^ w) {g : Nat → Nat → Bool} (hg : ∀ i k, i < l.length → k < w → g i k = bt (l.getD i 0) (w - 1 - k)) :
    (List.range l.length).map (fun i => nmF w fun k => g i k) = l := by
  apply List.ext_getElem?
  intro i
  by_cases hi : i < l.length
  · rw [List.getElem?_map, List.getElem?_range hi, Option.map_some, List.getElem?_eq_getElem hi]
    congr 1
    have h := h0 _ (List.getElem_mem hi)
    rw [nmF_congr (fun k hk => hg i k hi hk), List.getD_eq_getElem?_getD, List.getElem?_eq_getElem hi, Option.getD_some]
    exact nmF_of h.1 h.2
  · rw [List.getElem?_eq_none (by simp; omega), List.getElem?_eq_none (by omega)]
theorem may_nat {w : Int} {l : List Int} (h : mayE w l = 0) (ul : U64s l) : ∃ k : Nat, w = k ∧ k ≤ 32 ∧ bysE (k : Int) (l.length : Int) = 0 ∧ (∀ n ∈ l, 0 ≤ n ∧ n < 2 ^ k) := by
  obtain ⟨h1, h2⟩ := mayE_ok h
  have hb := bys_ok h1
  obtain ⟨k, rfl⟩ := Int.eq_ofNat_of_zero_le hb.1.1
  have hk : k ≤ 32 := by omega
  exact ⟨k, rfl, hk, h1, fun n hn => ⟨(ul n hn).1, (fitsB_iff hk ul).1 h2 n hn⟩⟩
theorem uwv_wev {w : Int} {l : List Int} (h : mayE w l = 0) (ul : U64s l) : bitE w l.length (wevV w l) = 0 ∧ uwvV w l.length (wevV w l) = l := by
  obtain ⟨k, rfl, hk, h1, h2⟩ := may_nat h ul
  unfold wevV uwvV
  rw [if_pos h, Int.toNat_natCast, if_pos (bitE_pkL _ h1)]
  refine ⟨bitE_pkL _ h1, ?_⟩
  rw [Int.toNat_natCast]
  exact numbers_back h2 fun i j hi hj => by
    have := place_lt (w := l.length) (m := k) hj hi
    rw [Nat.mul_comm l.length k] at this
    rw [fB_in _ this, pl_at hi]
theorem read_sgn {l : List Bool} (h : l.length ≤ 4096) : bitE 1 l.length (sgnV l) = 0 ∧ bitV 1 l.length (sgnV l) = l := by
  have h1 : bysE (1 : Nat) (l.length : Nat) = 0 := by unfold bysE; rw [if_neg (by omega), if_neg (by omega)]
  have h2 := bitE_pkL (w := 1) (m := l.length) (fun p => l.getD p false) h1
  rw [Nat.one_mul] at h2
  have h2 : bitE 1 l.length (pkL l.length fun p => l.getD p false) = 0 := h2
  unfold sgnV bitV
  rw [if_neg (by omega), if_pos h2]
  refine ⟨h2, ?_⟩
  rw [show (1 : Int).toNat = 1 from rfl, Int.toNat_natCast, Nat.one_mul]
  apply List.ext_getElem?
  intro i
  by_cases hi : i < l.length
  · rw [mkB_at _ hi, fB_in _ hi, List.getD_eq_getElem?_getD, List.getElem?_eq_getElem hi, Option.getD_some]
  · rw [List.getElem?_eq_none (by rw [mkB_len]; omega), List.getElem?_eq_none (by omega)]
theorem may_same (w : Int) (l : List Int) : (mayE w l ≠ 0 → pckV w l = [] ∧ wevV w l = []) ∧ (mayE w l = 0 → (pckV w l).length = (w.toNat * l.length + 7) / 8 ∧ (wevV w l).length = (w.toNat * l.length + 7) / 8) := by
  unfold pckV wevV
  constructor
  · intro h; rw [if_neg h, if_neg h]; exact ⟨rfl, rfl⟩
  · intro h; rw [if_pos h, if_pos h, pkL_len, pkL_len]; exact ⟨rfl, rfl⟩
theorem wevV_bytes (w : Int) (l : List Int) : U8s (wevV w l) := by
  unfold wevV
  split
  · exact pkL_bytes _ _
  · intro x hx; simp at hx
theorem sgnV_bytes (l : List Bool) : U8s (sgnV l) := by
  unfold sgnV
  split
  · intro x hx; simp at hx
  · exact pkL_bytes _ _
end Go.Proofs.YtecgbelgoomneaaGreat
/- Pressed vectors, frames, their texts, and what a text is: plain words. No program in sight. -/
namespace Go.Proofs.YtecgbelgoomneaaGreat
set_option maxRecDepth 100000
set_option linter.unusedVariables false
/-- A pressed vector. -/
structure SentV where
  sch : Int
  dim : Int
  L : List Int
  V : List Int
  scale : Int
  wide : Int
  lev : List Int
  neg : List Bool
def zeroS : SentV := ⟨0, 0, [], [], 0, 0, [], []⟩
/-- A frame. -/
structure FrameV where
  knd : Int
  frm : Int
  stp : Int
  S : SentV
def zeroF : FrameV := ⟨0, 0, 0, zeroS⟩
def eqN (a b : List Bool) : Bool := decide (a = b)
def sameS (a b : SentV) : Bool := (a.sch == b.sch) && ((a.dim == b.dim) && (eqB a.L b.L && (eqB a.V b.V && ((a.scale == b.scale) && ((a.wide == b.wide) && (eqB a.lev b.lev && eqN a.neg b.neg))))))
def sameF (a b : FrameV) : Bool := (a.knd == b.knd) && ((a.frm == b.frm) && ((a.stp == b.stp) && sameS a.S b.S))
theorem sameS_iff {a b : SentV} : sameS a b = true ↔ a = b := by
  obtain ⟨a1, a2, a3, a4, a5, a6, a7, a8⟩ := a
  obtain ⟨b1, b2, b3, b4, b5, b6, b7, b8⟩ := b
  unfold sameS eqB eqN
  simp
theorem sameF_iff {a b : FrameV} : sameF a b = true ↔ a = b := by
  obtain ⟨a1, a2, a3, a4⟩ := a
  obtain ⟨b1, b2, b3, b4⟩ := b
  unfold sameF
  simp [sameS_iff]
theorem sameF_self (a : FrameV) : sameF a a = true := sameF_iff.2 rfl
/-- Whether it may be. -/
def mayP (s : SentV) : Prop := 1 ≤ s.dim ∧ s.dim ≤ 4096 ∧
  ((s.sch = 0 ∧ s.L = [] ∧ (s.V.length : Int) = s.dim ∧ s.wide = 0 ∧ s.lev = [] ∧ s.scale = 0 ∧ s.neg = []) ∨
   (s.sch = 1 ∧ chkE s.dim s.L = 0 ∧ s.V.length = s.L.length ∧ s.wide = 0 ∧ s.lev = [] ∧ s.scale = 0 ∧ s.neg = []) ∨
   (s.sch = 2 ∧ 1 ≤ s.wide ∧ s.wide ≤ 8 ∧ (s.lev.length : Int) = s.dim ∧ fitsB s.wide s.lev = true ∧ s.L = [] ∧ s.V = [] ∧ 0 ≤ s.scale ∧ (s.neg.length : Int) = s.dim) ∨
   (s.sch = 3 ∧ s.L = [] ∧ s.V = [] ∧ s.wide = 0 ∧ s.lev = [] ∧ 0 ≤ s.scale ∧ (s.neg.length : Int) = s.dim))
instance (s : SentV) : Decidable (mayP s) := by unfold mayP; infer_instance
def mayB (s : SentV) : Bool := decide (mayP s)
theorem mayB_iff {s : SentV} : mayB s = true ↔ mayP s := by unfold mayB; exact decide_eq_true_iff
theorem mayB_no {s : SentV} (h : ¬ mayP s) : mayB s = false := decide_eq_false h
def frmP (f : FrameV) : Prop := 0 ≤ f.frm ∧ f.frm < 64 ∧ 0 ≤ f.stp ∧ f.stp ≤ 1073741824 ∧ ((f.knd = 1 ∧ mayB f.S = true) ∨ (f.knd = 2 ∧ sameS f.S zeroS = true))
instance (f : FrameV) : Decidable (frmP f) := by unfold frmP; infer_instance
def chkF (f : FrameV) : Int := if frmP f then 0 else 1
theorem chkF_ok {f : FrameV} : chkF f = 0 ↔ frmP f := by unfold chkF; split <;> simp_all
/-- Signed codes. -/
def sgnd (l : List Int) : List Int := encs (l.map zigI)
/-- What stands behind the scheme and the dimension. -/
def tailL (s : SentV) : List Int :=
  if s.sch = 0 then sgnd s.V else if s.sch = 1 then pixV s.dim s.L ++ sgnd s.V else lebI s.scale ++ ((if s.sch = 2 then s.wide :: wevV s.wide s.lev else []) ++ sgnV s.neg)
def bodyL (s : SentV) : List Int := s.sch :: (lebI s.dim ++ tailL s)
def bodyV (s : SentV) : List Int := if mayB s = true then bodyL s else []
def bodyE (s : SentV) : Int := if mayB s = true then 0 else 1
def textL (f : FrameV) : List Int := 1 :: f.knd :: (lebI f.frm ++ (lebI f.stp ++ (if f.knd = 1 then bodyL f.S else [])))
def wrtE (f : FrameV) : Int := if chkF f = 0 then sealE (textL f) else 1
def wrtV (f : FrameV) : List Int := if chkF f = 0 then sealV (textL f) else []
/-- What is still to be read, and whether it is none. -/
abbrev Tx := List Int × Bool
def badT : Tx := ([], true)
def by1 (t : Tx) : Int × Tx := if t.2 = true ∨ t.1 = [] then (0, badT) else (t.1.headD 0, t.1.tail, false)
def num1 (m : Int) (t : Tx) : Int × Tx := if t.2 = true ∨ getE t.1 0 ≠ 0 ∨ m < getN t.1 0 then (0, badT) else (getN t.1 0, t.1.drop (getA t.1 0).toNat, false)
def sgd1 : Nat → List Int → Tx → List Int × Tx
  | 0, O, t => (O, t)
  | k + 1, O, t => if t.2 = true ∨ getE t.1 0 ≠ 0 then ([], badT) else sgd1 k (O ++ [zagI (getN t.1 0)]) (t.1.drop (getA t.1 0).toNat, false)
def prt1 (n : Int) (t : Tx) : List Int × Tx := if t.2 = true ∨ (t.1.length : Int) < n then ([], badT) else (t.1.take n.toNat, t.1.drop n.toNat, false)
/-- The signs. -/
def neg1 (s : SentV) (t : Tx) : SentV × Tx :=
  ({ s with neg := bitV 1 s.dim (prt1 ((s.dim + 7) / 8) t).1 }, (prt1 ((s.dim + 7) / 8) t).2.1, (prt1 ((s.dim + 7) / 8) t).2.2 || (bitE 1 s.dim (prt1 ((s.dim + 7) / 8) t).1 != 0))
/-- Levels, and the signs. -/
def lev1 (s : SentV) (t : Tx) : SentV × Tx :=
  if s.wide < 1 ∨ 8 < s.wide then (s, badT) else
  if (prt1 ((s.wide * s.dim + 7) / 8) t).2.2 = true ∨ bitE s.wide s.dim (prt1 ((s.wide * s.dim + 7) / 8) t).1 ≠ 0 then (s, badT) else
  neg1 { s with lev := uwvV s.wide s.dim (prt1 ((s.wide * s.dim + 7) / 8) t).1 } (prt1 ((s.wide * s.dim + 7) / 8) t).2
def dns1 (dim : Int) (t : Tx) : SentV × Tx := (⟨0, dim, [], (sgd1 dim.toNat [] t).1, 0, 0, [], []⟩, (sgd1 dim.toNat [] t).2)
def top1 (dim : Int) (t : Tx) : SentV × Tx :=
  if (gixR dim t.1 0).2.2 ≠ 0 then (⟨1, dim, [], [], 0, 0, [], []⟩, badT) else
  (⟨1, dim, (gixR dim t.1 0).1, (sgd1 (gixR dim t.1 0).1.length [] (t.1.drop (gixR dim t.1 0).2.1.toNat, false)).1, 0, 0, [], []⟩, (sgd1 (gixR dim t.1 0).1.length [] (t.1.drop (gixR dim t.1 0).2.1.toNat, false)).2)
def top63 : Int := 9223372036854775807
/-- What stands behind the scheme and the dimension. -/
def rest1 (sch dim : Int) (t : Tx) : SentV × Tx :=
  if sch = 1 then top1 dim t else if sch = 0 then dns1 dim t
  else if sch = 2 then lev1 ⟨2, dim, [], [], (num1 top63 t).1, (by1 (num1 top63 t).2).1, [], []⟩ (by1 (num1 top63 t).2).2
  else neg1 ⟨sch, dim, [], [], (num1 top63 t).1, 0, [], []⟩ (num1 top63 t).2
def sent1 (t : Tx) : SentV × Tx :=
  if (num1 4096 (by1 t).2).2.2 = true ∨ (num1 4096 (by1 t).2).1 = 0 then (⟨(by1 t).1, (num1 4096 (by1 t).2).1, [], [], 0, 0, [], []⟩, badT)
  else rest1 (by1 t).1 (num1 4096 (by1 t).2).1 (num1 4096 (by1 t).2).2
def fram1 (knd frm stp : Int) (t : Tx) : FrameV × Tx := (⟨knd, frm, stp, (if knd = 1 then sent1 t else (zeroS, t)).1⟩, (if knd = 1 then sent1 t else (zeroS, t)).2)
def endR (ver : Int) (r : FrameV × Tx) : FrameV × Int := if r.2.2 = true ∨ r.2.1 ≠ [] ∨ ver ≠ 1 ∨ chkF r.1 ≠ 0 then (zeroF, 6) else (r.1, 0)
def read1 (o : List Int) : FrameV × Int :=
  endR (by1 (o, false)).1 (fram1 (by1 (by1 (o, false)).2).1 (num1 63 (by1 (by1 (o, false)).2).2).1 (num1 1073741824 (num1 63 (by1 (by1 (o, false)).2).2).2).1 (num1 1073741824 (num1 63 (by1 (by1 (o, false)).2).2).2).2)
def rdR (b : List Int) : FrameV × Int := if openE b ≠ 0 then (zeroF, openE b) else read1 (openV b)
/-- How great its numbers are. -/
def wfS (s : SentV) : Prop := I64 s.sch ∧ I64 s.dim ∧ (∀ x ∈ s.L, I64 x) ∧ (∀ x ∈ s.V, I64 x) ∧ I64 s.scale ∧ I64 s.wide ∧ U64s s.lev
def wfF (f : FrameV) : Prop := I64 f.knd ∧ I64 f.frm ∧ I64 f.stp ∧ wfS f.S
theorem wf_zeroS : wfS zeroS := by
  refine ⟨by decide, by decide, ?_, ?_, by decide, by decide, ?_⟩ <;> intro x hx <;> simp [zeroS] at hx
/-- Reading what was written. -/
theorem by1_put (x : Int) (r : List Int) : by1 (x :: r, false) = (x, r, false) := by unfold by1; simp
theorem get_here {n : Int} (h : U64 n) (r : List Int) : getN (lebI n ++ r) 0 = n ∧ getE (lebI n ++ r) 0 = 0 ∧ getA (lebI n ++ r) 0 = (lebI n).length := by
  have := get_at h [] r (b := lebI n ++ r) rfl
  simpa using this
theorem num1_put {n m : Int} (h : U64 n) (hm : n ≤ m) (r : List Int) : num1 m (lebI n ++ r, false) = (n, r, false) := by
  obtain ⟨h1, h2, h3⟩ := get_here h r
  unfold num1
  simp only [h1, h2, h3]
  rw [if_neg (by simp; omega)]
  rw [Int.toNat_natCast, List.drop_left]
theorem sgnd_cons (x : Int) (l : List Int) : sgnd (x :: l) = lebI (zigI x) ++ sgnd l := by unfold sgnd; rw [List.map_cons, encs_cons]
theorem sgd1_put : ∀ (l O r : List Int), (∀ x ∈ l, I64 x) → sgd1 l.length O (sgnd l ++ r, false) = (O ++ l, r, false)
  | [], O, r, _ => by simp [sgd1, sgnd, encs]
  | x :: l, O, r, h => by
    rw [List.length_cons, sgd1, sgnd_cons, List.append_assoc]
    obtain ⟨h1, h2, h3⟩ := get_here (zig_u64 (h x (by simp))) (sgnd l ++ r)
    simp only [h1, h2, h3]
    rw [if_neg (by simp), zag_zig, Int.toNat_natCast, List.drop_left, sgd1_put l _ r (fun y hy => h y (by simp [hy])), List.append_assoc]
    rfl
theorem prt1_put {n : Int} {p : List Int} (h : (p.length : Int) = n) (r : List Int) : prt1 n (p ++ r, false) = (p, r, false) := by
  unfold prt1
  rw [if_neg (by simp; omega)]
  have : n.toNat = p.length := by omega
  simp only [this, List.take_left, List.drop_left]
theorem gix_here {dim : Int} {l : List Int} (h : chkE dim l = 0) (r : List Int) : gixR dim (pixV dim l ++ r) 0 = (l, ((pixV dim l).length : Int), 0) := by
  have := gix_put (ahead := []) (behind := r) (b := pixV dim l ++ r) h rfl
  simpa using this
theorem sgnV_len {l : List Bool} (h : l.length ≤ 4096) : (sgnV l).length = (l.length + 7) / 8 := by
  unfold sgnV; rw [if_neg (by omega), pkL_len]
theorem neg1_put {sch dim scale wide : Int} {L V lev : List Int} {neg : List Bool} (h : (neg.length : Int) = dim) (h4 : dim ≤ 4096) (r : List Int) : neg1 ⟨sch, dim, L, V, scale, wide, lev, []⟩ (sgnV neg ++ r, false) = (⟨sch, dim, L, V, scale, wide, lev, neg⟩, r, false) := by
  have hl := sgnV_len (l := neg) (by omega)
  have hr := read_sgn (l := neg) (by omega)
  have hp : prt1 ((dim + 7) / 8) (sgnV neg ++ r, false) = (sgnV neg, r, false) := prt1_put (by rw [hl]; omega) r
  rw [h] at hr
  unfold neg1
  simp only [hp, hr.1, hr.2]
  rfl
theorem lev1_put {sch dim scale wide : Int} {L V lev : List Int} {neg : List Bool} (hw1 : 1 ≤ wide) (hw8 : wide ≤ 8) (hl : (lev.length : Int) = dim) (hf : fitsB wide lev = true) (ul : U64s lev) (h : (neg.length : Int) = dim) (h4 : dim ≤ 4096) (r : List Int) :
    lev1 ⟨sch, dim, L, V, scale, wide, [], []⟩ (wevV wide lev ++ (sgnV neg ++ r), false) = (⟨sch, dim, L, V, scale, wide, lev, neg⟩, r, false) := by
  have hb : bysE wide lev.length = 0 := by unfold bysE; rw [if_neg (by omega), if_neg (by omega)]
  have hm : mayE wide lev = 0 := by unfold mayE; rw [if_pos hb, if_pos hf]
  have hwl := (may_same wide lev).2 hm
  have hu := uwv_wev hm ul
  have hn : ((wevV wide lev).length : Int) = (wide * dim + 7) / 8 := by
    rw [hwl.2, ← hl]
    obtain ⟨k, rfl⟩ := Int.eq_ofNat_of_zero_le (show 0 ≤ wide by omega)
    rw [Int.toNat_natCast]
    omega
  have hp : prt1 ((wide * dim + 7) / 8) (wevV wide lev ++ (sgnV neg ++ r), false) = (wevV wide lev, sgnV neg ++ r, false) := prt1_put hn _
  rw [hl] at hu
  unfold lev1
  simp only [hp, hu.1, hu.2]
  rw [if_neg (by omega), if_neg (by simp)]
  exact neg1_put h h4 r
theorem sent1_put {s : SentV} (hm : mayP s) (hw : wfS s) (r : List Int) : sent1 (bodyL s ++ r, false) = (s, r, false) := by
  obtain ⟨sch, dim, L, V, scale, wide, lev, neg⟩ := s
  obtain ⟨hd1, hd4, hc⟩ := hm
  obtain ⟨w1, w2, w3, w4, w5, w6, w7⟩ := hw
  simp only at hd1 hd4 hc w1 w2 w3 w4 w5 w6 w7
  have hn := fun R => num1_put (n := dim) (m := 4096) (by unfold U64; omega) hd4 R
  have hsc := fun (h : 0 ≤ scale) R => num1_put (n := scale) (m := top63) (by unfold I64 at w5; unfold U64; omega) (by unfold I64 at w5; unfold top63; omega) R
  have key : ∀ T, rest1 sch dim (T ++ r, false) = (⟨sch, dim, L, V, scale, wide, lev, neg⟩, r, false) → sent1 (sch :: (lebI dim ++ T) ++ r, false) = (⟨sch, dim, L, V, scale, wide, lev, neg⟩, r, false) := fun T hT => by
    rw [List.cons_append, List.append_assoc]
    unfold sent1
    simp only [by1_put, hn]
    rw [if_neg (by simp; omega)]
    exact hT
  refine key _ ?_
  unfold tailL rest1
  simp only
  rcases hc with ⟨rfl, rfl, h2, rfl, rfl, rfl, rfl⟩ | ⟨rfl, h1, h2, rfl, rfl, rfl, rfl⟩ | ⟨rfl, h1, h2, h3, h4, rfl, rfl, h7, h8⟩ | ⟨rfl, rfl, rfl, rfl, rfl, h5, h6⟩
  · rw [if_neg (by decide), if_pos rfl, if_pos rfl]
    unfold dns1
    have hn : dim.toNat = V.length := by omega
    rw [hn, sgd1_put _ _ _ w4]
    rfl
  · rw [if_pos rfl, if_neg (by decide), if_pos rfl]
    unfold top1
    simp only [List.append_assoc, gix_here h1]
    rw [if_neg (by simp), Int.toNat_natCast, List.drop_left, ← h2, sgd1_put _ _ _ w4]
    rfl
  · rw [if_neg (by decide), if_neg (by decide), if_pos rfl, if_neg (by decide), if_neg (by decide), if_pos rfl]
    simp only [List.append_assoc, hsc h7, List.cons_append, by1_put]
    exact lev1_put h1 h2 h3 h4 w7 h8 hd4 r
  · rw [if_neg (by decide), if_neg (by decide), if_neg (by decide), if_neg (by decide), if_neg (by decide), if_neg (by decide)]
    simp only [List.append_assoc, hsc h5, List.nil_append]
    exact neg1_put h6 hd4 r
theorem read1_put {f : FrameV} (hc : chkF f = 0) (hw : wfF f) : read1 (textL f) = (f, 0) := by
  have hp := chkF_ok.1 hc
  obtain ⟨knd, frm, stp, S⟩ := f
  obtain ⟨h1, h2, h3, h4, h5⟩ := hp
  simp only at h1 h2 h3 h4 h5
  have hf := fun R => num1_put (n := frm) (m := 63) (by unfold U64; omega) (by omega) R
  have hs := fun R => num1_put (n := stp) (m := 1073741824) (by unfold U64; omega) (by omega) R
  have he : endR 1 (⟨knd, frm, stp, S⟩, ([], false)) = (⟨knd, frm, stp, S⟩, 0) := by
    unfold endR
    rw [if_neg]
    simp [hc]
  unfold read1 textL
  simp only [by1_put, hf, hs]
  rcases h5 with ⟨rfl, hm⟩ | ⟨rfl, hz⟩
  · have hb := sent1_put (of_decide_eq_true hm) hw.2.2.2 []
    rw [List.append_nil] at hb
    unfold fram1
    rw [if_pos rfl, if_pos rfl, hb]
    exact he
  · have e2 := sameS_iff.1 hz
    subst e2
    unfold fram1
    rw [if_neg (by decide), if_neg (by decide)]
    exact he
end Go.Proofs.YtecgbelgoomneaaGreat
/- What is told the same; lists just laid. -/
namespace Go.Proofs.YtecgbelgoomneaaGreat
open Go.RowKit
set_option maxHeartbeats 400000
set_option maxRecDepth 100000
set_option linter.unusedVariables false
theorem grow (w : World) (o : Obj) : Below w.heap.size w (w.alloc o) := (Below.refl _ _).alloc (Nat.le_refl _) _
theorem ref_Same64 {A B : Option Addr} {c d : Nat} (xs ys : List Int) (hx : xs.length ≤ 9223372036854775807) (hy : ys.length ≤ 9223372036854775807) (w : World) {L M : Nat}
    (ra : Rd (Value.int .i64) w L A xs) (rb : Rd (Value.int .i64) w M B ys) :
    Calls Tryz.prog 16 #[.slice A xs.length c, .slice B ys.length d] w fun e w' => e = .returned (.bool (eqB xs ys)) ∧ ∃ n, w' = w.drewN n := by
  by_cases hl : xs.length = ys.length
  · have HA := hid ra
    have HB := hid rb
    clear ra rb
    have h1 : ((xs.length : Int) != (ys.length : Int)) = false := by simp; omega
    have h2 : (xs.length != ys.length) = false := by simp; omega
    have HL := hid hl
    clear hl
    go_enter Tryz.func16, Tryz.ntmps16
    go_wp2_with fail
    clear h1 h2
    go_loopw [13] (fun i wr => ∃ k : Nat, k ≤ xs.length ∧ i = .int .i64 k ∧ xs.take k = ys.take k ∧ ∃ n, wr = w.drewN n) (fun i _ => xs.length - (intOf i).toNat)
    case atStart => exact ⟨0, by omega, rfl, rfl, 0, rfl⟩
    case round =>
      obtain ⟨k, hk, rfl, ht, n, rfl⟩ := hrel
      have HT := hid ht
      clear ht
      by_cases hlt : k < xs.length
      · have hlt2 : k < ys.length := by have := HL.out; omega
        obtain ⟨b1, o1, x, rfl, l1, ex, c1⟩ := HA.out.at_ hlt
        obtain ⟨b2, o2, y, rfl, l2, ey, c2⟩ := HB.out.at_ hlt2
        have EX := hid ex
        have EY := hid ey
        clear ex ey
        by_cases e : x = y
        · have e' : (x != y) = false := by simpa using e
          have E := hid e
          clear e
          go_wp2_with fail
          go_quiet (fail)
          go_wp2_with fail
          go_roundw
          case rel => exact ⟨k + 1, by omega, by go_num, take_step HT.out EX.out EY.out E.out, _, rfl⟩
          case measure => simp [intOf]; omega
        · have e' : (x != y) = true := by simpa using e
          go_wp2_with fail
          go_quiet (fail)
          go_wp2_with fail
          go_ret
          rw [eqB_no EX.out EY.out e]
          exact ⟨rfl, drewN_two _ _ _⟩
      · have hke : k = xs.length := by omega
        have HK := hid hke
        clear hke
        go_wp2_with fail
        go_ret
        rw [eqB_yes HT.out HK.out HL.out]
        exact ⟨rfl, _, rfl⟩
  · rw [eqB_len hl]
    have h1 : ((xs.length : Int) != (ys.length : Int)) = true := by simp; omega
    have h2 : (xs.length != ys.length) = true := by simp; omega
    go_enter Tryz.func16, Tryz.ntmps16
    go_wp2_with fail
    go_ret
    exact ⟨rfl, 0, rfl⟩
end Go.Proofs.YtecgbelgoomneaaGreat
/- Widths, bytes, whether numbers may be packed; bits put into bytes, by the document. -/
namespace Go.Proofs.YtecgbelgoomneaaGreat
open Go.RowKit
set_option maxHeartbeats 400000
set_option maxRecDepth 100000
set_option linter.unusedVariables false
theorem info_bool : (Tryz.prog.info? 4).map (fun i => (i.zero, i.size, i.bytes)) = some (some (.bool false), 1, 1) := by kernel_rfl
theorem wdt_zero : wdt 0 = 0 := by decide
theorem wdt_half {n : Int} (h0 : 0 < n) (h : n ≤ 18446744073709551615) : wdt n = 1 + wdt (n / 2) := by
  unfold wdt
  rw [Lib.bitLen_half n.toNat (by omega) (by omega)]
  congr 2
  omega
theorem wdt_64 {n : Int} (hn : U64 n) : wdt n ≤ 64 := by
  rw [wdt_le hn (by omega)]
  unfold U64 at hn
  have : (2 : Int) ^ 64 = 18446744073709551616 := by decide
  omega
theorem ref_Width (n : Int) (hn : U64 n) (w : World) :
    Calls Tryz.prog 94 #[.int .u64 n] w fun e w' => e = .returned (.int .i64 (wdt n : Int)) ∧ w = w' := by
  have hle := wdt_64 hn
  obtain ⟨R, hR⟩ : ∃ R, wdt n = R := ⟨_, rfl⟩
  rw [hR] at hle ⊢
  have HR := hid hR
  unfold U64 at hn
  clear hR
  go_enter Tryz.func94, Tryz.ntmps94
  go_wp2_with fail
  go_loop [0, 3] (fun m s => ∃ (x : Int) (k : Nat), 0 ≤ x ∧ x ≤ 18446744073709551615 ∧ m = .int .u64 x ∧ s = .int .i64 k ∧ k + wdt x = R) (fun m _ => (intOf m).toNat)
  case atStart => exact ⟨n, 0, hn.1, hn.2, rfl, rfl, by rw [HR.out]; omega⟩
  case round =>
    obtain ⟨x, k, h0, h1, rfl, rfl, hs⟩ := hrel
    have hk : k ≤ 64 := by omega
    have HS := hid hs
    clear hs
    by_cases hlt : 0 < x
    · have HN : Hid (k + 1 + wdt (x / 2) = R) := hid (by have h := HS.out; rw [wdt_half hlt h1] at h; omega)
      go_wp2_with fail
      go_round
      case rel => exact ⟨x / 2, k + 1, by omega, by omega, rfl, by go_num, HN.out⟩
      case measure => simp [intOf]; omega
    · obtain rfl : x = 0 := by omega
      have HN : Hid (k = R) := hid (by have h := HS.out; rw [wdt_zero] at h; omega)
      go_wp2_with fail
      go_ret
      rw [HN.out]
      exact ⟨rfl, rfl⟩
theorem ref_Bytes (wd many : Int) (hw : I64 wd) (hm : I64 many) (w : World) :
    Calls Tryz.prog 186 #[.int .i64 wd, .int .i64 many] w fun e w' => e = .returned (.tuple #[.int .i64 (bysV wd many), .int .i64 (bysE wd many)]) ∧ w = w' := by
  unfold I64 at hw hm
  unfold bysV bysE
  by_cases h1 : wd < 0 ∨ 32 < wd ∨ many < 0
  · rw [if_pos h1, if_neg (by decide)]
    by_cases a : wd < 0
    · clear h1
      go_enter Tryz.func186, Tryz.ntmps186
      go_wp2_with fail
      go_ret2
      exact ⟨rfl, rfl⟩
    · by_cases b : 32 < wd
      · clear h1
        go_enter Tryz.func186, Tryz.ntmps186
        go_wp2_with fail
        go_ret2
        exact ⟨rfl, rfl⟩
      · have c : many < 0 := by omega
        clear h1
        go_enter Tryz.func186, Tryz.ntmps186
        go_wp2_with fail
        go_ret2
        exact ⟨rfl, rfl⟩
  · rw [if_neg h1]
    have a : 0 ≤ wd := by omega
    have b : wd ≤ 32 := by omega
    have c : 0 ≤ many := by omega
    by_cases h2 : 4096 < many
    · rw [if_pos h2, if_neg (by decide)]
      clear h1
      go_enter Tryz.func186, Tryz.ntmps186
      go_wp2_with fail
      go_ret2
      exact ⟨rfl, rfl⟩
    · rw [if_neg h2, if_pos rfl]
      have hp : 0 ≤ wd * many ∧ wd * many ≤ 131072 := by
        have h3 := Int.mul_nonneg a c
        have h4 := Int.mul_le_mul b (show many ≤ 4096 by omega) c (by decide)
        omega
      obtain ⟨q, hq⟩ : ∃ q, wd * many = q := ⟨_, rfl⟩
      rw [hq] at hp ⊢
      clear h1
      go_enter Tryz.func186, Tryz.ntmps186
      go_wp2_with fail
      go_ret2
      exact ⟨rfl, rfl⟩
theorem fits_no {wd : Int} {l : List Int} {k : Nat} {x : Int} (hx : l[k]? = some x) (h : wd < (wdt x : Int)) : fitsB wd l = false := by
  cases hb : fitsB wd l with
  | false => rfl
  | true =>
    unfold fitsB at hb
    rw [List.all_eq_true] at hb
    have := of_decide_eq_true (hb x (List.mem_of_getElem? hx))
    omega
theorem fits_step {wd : Int} {l : List Int} {k : Nat} {x : Int} (hx : l[k]? = some x) (h : (wdt x : Int) ≤ wd) (ht : fitsB wd (l.take k) = true) : fitsB wd (l.take (k + 1)) = true := by
  unfold fitsB at *
  rw [List.take_add_one, hx, List.all_append, ht]
  simpa using h
theorem ref_may {A : Option Addr} {c : Nat} (wd : Int) (l : List Int) (hw : I64 wd) (hl : l.length ≤ 9223372036854775807) (ul : U64s l) (w : World) {B : Nat} (ra : Rd (Value.int .u64) w B A l) :
    Calls Tryz.prog 143 #[.int .i64 wd, .slice A l.length c] w fun e w' => e = .returned (.int .i64 (mayE wd l)) ∧ w = w' := by
  have CB := hid (ref_Bytes wd l.length hw (by unfold I64; omega))
  by_cases h : bysE wd l.length = 0
  · have hwd := (bys_ok h).1
    have hM : mayE wd l = if fitsB wd l = true then 0 else 1 := if_pos h
    rw [h] at CB
    obtain ⟨V, hV⟩ : ∃ V, bysV wd l.length = V := ⟨_, rfl⟩
    rw [hV] at CB
    have HM := hid hM
    have RA := hid ra
    have UL := hid ul
    obtain ⟨E, hE⟩ : ∃ E, mayE wd l = E := ⟨_, rfl⟩
    rw [hE] at HM ⊢
    clear h hM hV ra ul hE
    go_enter Tryz.func143, Tryz.ntmps143
    go_wp2_with fail
    refine (CB.out _).mono ?_
    rintro _ _ ⟨rfl, rfl⟩
    go_wp2_with fail
    go_loop [8, 21] (fun m i => ∃ (k : Nat), k ≤ l.length ∧ i = .int .i64 k ∧ fitsB wd (l.take k) = true) (fun _ i => l.length - (intOf i).toNat)
    case atStart => exact ⟨0, by omega, rfl, by rw [List.take_zero]; rfl⟩
    case round =>
      obtain ⟨k, hk, rfl, hs⟩ := hrel
      have HS := hid hs
      clear hs
      by_cases hlt : k < l.length
      · obtain ⟨b1, o1, x, rfl, l1, ex, c1⟩ := RA.out.at_ hlt
        have CW := hid (ref_Width x (UL.out.at_ ex))
        have hle := wdt_64 (UL.out.at_ ex)
        have HF : Hid ((wd < (wdt x : Int) → fitsB wd l = false) ∧ ((wdt x : Int) ≤ wd → fitsB wd (l.take (k + 1)) = true)) := hid ⟨fits_no ex, fun h => fits_step ex h HS.out⟩
        obtain ⟨z, hz⟩ : ∃ z, wdt x = z := ⟨_, rfl⟩
        rw [hz] at CW HF hle
        clear ex hz
        by_cases hgt : wd < (z : Int)
        · go_wp2_with fail
          refine (CW.out _).mono ?_
          rintro _ _ ⟨rfl, rfl⟩
          go_wp2_with fail
          go_ret
          rw [HM.out, HF.out.1 hgt]
          exact ⟨rfl, rfl⟩
        · have hle2 : (z : Int) ≤ wd := by omega
          go_wp2_with fail
          refine (CW.out _).mono ?_
          rintro _ _ ⟨rfl, rfl⟩
          go_wp2_with fail
          go_round
          case rel => exact ⟨k + 1, by omega, by go_num, HF.out.2 hle2⟩
          case measure => simp [intOf]; omega
      · have HL : Hid (fitsB wd l = true) := hid (by have h := HS.out; rw [List.take_of_length_le (by omega)] at h; exact h)
        obtain rfl : k = l.length := by omega
        go_wp2_with fail
        go_ret
        rw [HM.out, if_pos HL.out]
        exact ⟨rfl, rfl⟩
  · have hM : mayE wd l = bysE wd l.length := if_neg h
    rw [hM]
    obtain ⟨E, hE⟩ : ∃ E, bysE wd l.length = E := ⟨_, rfl⟩
    obtain ⟨V, hV⟩ : ∃ V, bysV wd l.length = V := ⟨_, rfl⟩
    rw [hE] at CB h ⊢
    rw [hV] at CB
    have hne : (E != 0) = true := by simpa using h
    clear h hM hE hV ra ul
    go_enter Tryz.func143, Tryz.ntmps143
    go_wp2_with fail
    refine (CB.out _).mono ?_
    rintro _ _ ⟨rfl, rfl⟩
    go_wp2_with fail
    go_ret
    exact ⟨rfl, rfl⟩
end Go.Proofs.YtecgbelgoomneaaGreat
/- Bits put into bytes; numbers packed, woven, signs, by the document. -/
namespace Go.Proofs.YtecgbelgoomneaaGreat
open Go.RowKit
set_option maxHeartbeats 400000
set_option maxRecDepth 100000
set_option linter.unusedVariables false
theorem byF_zero (f : Nat → Bool) (i : Nat) : byF 0 f i = 0 := by
  unfold byF
  simp [bv_not]
theorem ref_pack {A : Option Addr} {c : Nat} (bs : List Bool) (hl : bs.length ≤ 1000000) (w : World) (ra : Rd Value.bool w w.heap.size A bs) :
    Calls Tryz.prog 144 #[.slice A bs.length c] w (OwnOf 5 .u8 w.heap.size (pkL bs.length fun p => bs.getD p false) w) := by
  obtain ⟨f, hf⟩ : ∃ f : Nat → Bool, (fun p => bs.getD p false) = f := ⟨_, rfl⟩
  have HF : Hid (∀ k x, bs[k]? = some x → f k = x) := hid (fun k x h => by rw [← hf]; simp [List.getD, h])
  rw [hf]
  obtain ⟨m, hm⟩ : ∃ m, (bs.length + 7) / 8 = m := ⟨_, rfl⟩
  have hme : ((bs.length : Int) + 7) / 8 = (m : Int) := by omega
  have hm2 : m ≤ 200000 := by omega
  have hmk := fun W => run_make_row' (P := Tryz.prog) 50 5 (.int .u8 0) 1 Tryz.underlying50 info_u8 rfl .i64 .i64 m (by omega) (by omega) W
  have HM := hid hm
  have RA := hid ra
  clear hf ra hm
  go_enter Tryz.func144, Tryz.ntmps144
  go_wp2_with fail
  go_loopw [4, 5, 13] (fun i0 b0 i wr => ∃ k : Nat, k ≤ bs.length ∧ i = .int .i64 k ∧ wr.rowIs w.heap.size 5 m (fun j => .int .u8 (byF k f j)) ∧ Below w.heap.size w wr) (fun _ _ i _ => bs.length - (intOf i).toNat)
  case atStart => exact ⟨0, by omega, rfl, by simpa [byF_zero] using World.rowIs_made w (.int .u8 0) m _, by go_grown⟩
  case round =>
    obtain ⟨k, hk, rfl, hrow, hbel⟩ := hrel
    have hz := hrow.lt
    clear hmk
    by_cases hlt : k < bs.length
    · obtain ⟨b1, o1, x, rfl, l1, ex, c1⟩ := (RA.out.below hbel).at_ hlt
      have hfx := HF.out k x ex
      have hkm : k / 8 < m := by have := HM.out; omega
      have f1 := hrow.frozen (k / 8)
      have c2 := hrow.cell hkm
      have HR := hid hrow
      cases x with
      | false =>
        have HE : Hid (∀ j, byF (k + 1) f j = byF k f j) := hid (fun j => byF_off hfx)
        clear ex hfx hrow
        go_wp2_with fail
        go_roundw
        case rel => exact ⟨k + 1, by omega, by go_num, HR.out.congr fun j _ => by rw [HE.out], hbel⟩
        case measure => simp [intOf]; omega
      | true =>
        have HE : Hid (∀ j, j ≠ k / 8 → byF (k + 1) f j = byF k f j) := hid (fun j hj => byF_other hj)
        have e1 := byF_on hfx
        have hb := byF_lt (k + 1) f (k / 8)
        obtain ⟨y, hy⟩ : ∃ y, byF k f (k / 8) = y := ⟨_, rfl⟩
        obtain ⟨z, hz'⟩ : ∃ z, byF (k + 1) f (k / 8) = z := ⟨_, rfl⟩
        rw [hz'] at e1 hb
        rw [hy] at e1 c2
        have HZ := hid hz'
        clear ex hfx hrow hy hz'
        go_wp2_with fail
        go_region
        go_wp2_with fail
        go_roundw
        case rel =>
          refine ⟨k + 1, by omega, by go_num, ?_, (hbel.setCell (Nat.le_refl _) _).drew⟩
          rw [← e1]
          refine World.rowIs.congr (f := fun j => if j = k / 8 then .int .u8 z else .int .u8 (byF k f j)) (HR.out.set (k / 8) (.int .u8 z)) fun j hj => ?_
          by_cases e : j = k / 8
          · rw [if_pos e, e, HZ.out]
          · rw [if_neg e, HE.out j e]
        case measure => simp [intOf]; omega
    · obtain rfl : k = bs.length := by omega
      clear hz
      have HR := hid hrow
      clear hrow
      go_wp2_with fail
      go_ret
      have h := own_made (w' := wr) HR.out (Nat.le_refl w.heap.size) (by unfold maxLen; omega)
      refine ⟨some ⟨w.heap.size, 0, none⟩, m, ?_, ?_, hbel⟩
      · rw [pkL_len, HM.out]; rfl
      · rw [pkL_len, HM.out]
        unfold pkL
        rw [HM.out, List.map_map]
        exact h
theorem ref_Signs {A : Option Addr} {c : Nat} (bs : List Bool) (hl : bs.length ≤ 1000000) (w : World) (ra : Rd Value.bool w w.heap.size A bs) :
    Calls Tryz.prog 103 #[.slice A bs.length c] w (OwnE 5 .u8 w.heap.size (sgnV bs) (sgnE bs) w) := by
  unfold sgnV sgnE
  by_cases h : 4096 < bs.length
  · rw [if_pos h, if_pos h]
    clear ra
    go_enter Tryz.func103, Tryz.ntmps103
    go_wp2_with fail
    go_ret2
    exact .nil (Below.refl _ _)
  · rw [if_neg h, if_neg h]
    have CP := hid (ref_pack (A := A) (c := c) bs hl w ra)
    obtain ⟨X, hX⟩ : ∃ X, (pkL bs.length fun p => bs.getD p false) = X := ⟨_, rfl⟩
    rw [hX] at CP ⊢
    clear hX ra
    go_enter Tryz.func103, Tryz.ntmps103
    go_wp2_with fail
    refine CP.out.mono ?_
    rintro _ w1 ⟨A1, c1, rfl, ho, hb⟩
    have HO := hid ho
    clear ho
    go_wp2_with fail
    go_ret2
    exact ⟨A1, c1, rfl, HO.out, hb⟩
theorem beq_bt {x : Int} (h0 : 0 ≤ x) (q : Nat) : ((x / 2 ^ q).tmod 2 == 1) = bt x q := by
  rw [Int.tmod_eq_emod_of_nonneg (Int.ediv_nonneg h0 (Int.pow_nonneg (by decide)))]
  unfold bt
  by_cases h : x / 2 ^ q % 2 = 1 <;> simp [h]
end Go.Proofs.YtecgbelgoomneaaGreat
/- Numbers woven, by the document. -/
namespace Go.Proofs.YtecgbelgoomneaaGreat
open Go.RowKit
set_option maxHeartbeats 400000
set_option maxRecDepth 100000
set_option linter.unusedVariables false
theorem ref_Weave {A : Option Addr} {c : Nat} (wd : Int) (l : List Int) (hw : I64 wd) (hl : l.length ≤ 100000) (ul : U64s l) (w : World) (ra : Rd (Value.int .u64) w w.heap.size A l) :
    Calls Tryz.prog 102 #[.int .i64 wd, .slice A l.length c] w (OwnE 5 .u8 w.heap.size (wevV wd l) (mayE wd l) w) := by
  have CM := hid (ref_may (A := A) (c := c) wd l hw (by omega) ul w ra)
  by_cases h : mayE wd l = 0
  · obtain ⟨k, rfl, hk, hb, _⟩ := may_nat h ul
    have hlen := (bys_ok hb).2.2
    unfold wevV
    rw [if_pos h, Int.toNat_natCast]
    rw [h] at CM ⊢
    obtain ⟨f, hf⟩ : ∃ f, plF k l = f := ⟨_, rfl⟩
    have HF : Hid (∀ i x q j, l[i]? = some x → q + j + 1 = k → ((x / 2 ^ q).tmod 2 == 1) = f (j * l.length + i)) := hid (fun i x q j hx hq => by
      rw [← hf, pl_at (List.getElem?_eq_some_iff.1 hx).1, getD_of hx, beq_bt (ul.at_ hx).1, show k - 1 - j = q by omega])
    rw [hf]
    obtain ⟨n, hn⟩ : ∃ n, l.length = n := ⟨_, rfl⟩
    have RA := hid ra
    have HN := hid hn
    have hnk : k * n ≤ 131072 := by
      have := Nat.mul_le_mul hk (show n ≤ 4096 by omega)
      omega
    have CP := hid (fun A2 c2 W h => ref_pack (A := A2) (c := c2) (mkB (k * l.length) f) (by rw [mkB_len, hn]; omega) W h)
    have e : pkL (mkB (k * l.length) f).length (fun p => (mkB (k * l.length) f).getD p false) = pkL (k * l.length) f := by
      rw [mkB_len]
      exact pkL_congr fun p hp => by rw [List.getD_eq_getElem?_getD, mkB_at _ hp, Option.getD_some]
    rw [e] at CP
    obtain ⟨X, hX⟩ : ∃ X, pkL (k * l.length) f = X := ⟨_, rfl⟩
    rw [hX] at CP ⊢
    rw [hn] at CP HF
    have hl4 : n ≤ 4096 := by omega
    rw [hn] at CM ⊢
    clear h hf ra hn ul hb hlen hl hX e hw
    go_enter Tryz.func102, Tryz.ntmps102
    go_wp2_with fail
    refine CM.out.mono ?_
    rintro _ _ ⟨rfl, rfl⟩
    go_wp2_with fail
    go_loopw [7, 8, 10] (fun t s x0 wr => ∃ (j : Nat) (u : Int) (S : List Bool) (A2 : Option Addr) (c2 : Nat), -1 ≤ u ∧ s = .int .i64 u ∧ u + j + 1 = k ∧ t = .slice A2 S.length c2 ∧ S = mkB (j * n) f ∧ wr.ownsRow w.heap.size 4 1 (.slice A2 S.length c2) S.length (S.map Value.bool) ∧ Below w.heap.size w wr) (fun _ s _ _ => (intOf s + 1).toNat)
    case atStart => exact ⟨0, (k : Int) - 1, [], none, 0, by omega, rfl, by omega, rfl, by rw [Nat.zero_mul]; rfl, own_nil _ _ _, Below.refl _ _⟩
    case round =>
      obtain ⟨j, u, S, A2, c2, hu, rfl, huj, rfl, hS, ho, hbel⟩ := hrel
      have HS := hid hS
      have HO := hid ho
      clear hS ho
      by_cases hu0 : 0 ≤ u
      · obtain ⟨q, rfl⟩ := Int.eq_ofNat_of_zero_le hu0
        have hq64 : q ≤ 32 := by omega
        have HX := hid (fun i x hx => HF.out i x q j hx (by omega))
        go_wp2_with fail
        go_loopw [7, 10, 25] (fun t x0 i wr => ∃ (m : Nat) (S : List Bool) (A2 : Option Addr) (c2 : Nat), m ≤ n ∧ i = .int .i64 m ∧ t = .slice A2 S.length c2 ∧ S = mkB (j * n + m) f ∧ wr.ownsRow w.heap.size 4 1 (.slice A2 S.length c2) S.length (S.map Value.bool) ∧ Below w.heap.size w wr) (fun _ _ i _ => n - (intOf i).toNat)
        case atStart => exact ⟨0, S, A2, c2, by omega, rfl, rfl, HS.out, HO.out, hbel⟩
        case round =>
          obtain ⟨m, S, A2, c2, hm, rfl, rfl, hS, ho, hbel⟩ := hrel
          clear HS HO
          have hSl : S.length ≤ 131072 := by
            have h2 : (j + 1) * n ≤ k * n := Nat.mul_le_mul_right n (by omega)
            rw [Nat.add_mul, Nat.one_mul] at h2
            rw [hS, mkB_len]; omega
          have HS := hid hS
          have HO := hid ho
          clear hS ho
          by_cases hlt : m < n
          · obtain ⟨b1, o1, x, rfl, l1, ex, c1⟩ := (RA.out.below hbel).at_ (k := m) (by rw [HN.out]; exact hlt)
            have e1 := HX.out m x ex
            obtain ⟨v, hv⟩ : ∃ v, f (j * n + m) = v := ⟨_, rfl⟩
            rw [hv] at e1
            have HV := hid hv
            have hr0 : Rd Value.bool (wr.alloc (.cells #[.bool v] 4)) _ (some ⟨wr.heap.size, 0, none⟩) [v] := rd_one (one_cell wr (.bool v) 4).1
            have h0' := own_on HO.out ((Below.refl wr.heap.size wr).alloc (Nat.le_refl _) (.cells #[.bool v] 4))
            clear hv ex
            go_wp2_with (at_builtin; refine wpList_app Value.bool (fun _ => rfl) _ rfl _ _ 30 rfl w.heap.size 4 (.bool false) 1 Tryz.underlying30 info_bool rfl S _ _ rfl h0' [v] _ 1 _ rfl hr0 (by simp [maxLen]; omega) (by simp; omega) (by have := hbel.size; simp; omega) ?_)
            rintro S' A' c' w4 hS' ho hb4 _
            have HS' := hid hS'
            have HO' := hid ho
            clear hS' ho h0' hr0
            go_wp2_with fail
            go_roundw
            case rel => exact ⟨m + 1, S', A', c', by omega, by go_num, rfl, by rw [HS'.out, HS.out, ← HV.out, ← Nat.add_assoc, mkB_succ], HO'.out, (hbel.alloc hbel.size _).trans hb4⟩
            case measure => simp [intOf]; omega
          · obtain rfl : m = n := by omega
            have HS2 : Hid (S = mkB ((j + 1) * m) f) := hid (by rw [Nat.add_mul, Nat.one_mul]; exact HS.out)
            go_wp2_with fail
            go_roundw
            case rel => exact ⟨j + 1, (q : Int) - 1, S, A2, c2, by omega, by go_num, by omega, rfl, HS2.out, HO.out, hbel⟩
            case measure => first | (simp [intOf]; done) | (simp [intOf]; omega)
      · obtain rfl : u = -1 := by omega
        obtain rfl : j = k := by omega
        have hr := own_rd HO.out
        have hS := HS.out
        have CQ := CP.out A2 c2 wr (by rw [← hS]; exact hr)
        rw [← hS] at CQ
        have CQ := hid CQ
        clear hr hS
        go_wp2_with fail
        refine CQ.out.mono ?_
        rintro _ w5 ⟨A5, c5, rfl, ho5, hb5⟩
        have HO5 := hid (own_base ho5 hbel.size)
        clear ho5
        go_wp2_with fail
        go_ret2
        exact ⟨A5, c5, rfl, HO5.out, hbel.trans (hb5.mono hbel.size)⟩
  · have e : wevV wd l = [] := if_neg h
    rw [e]
    obtain ⟨E, hE⟩ : ∃ E, mayE wd l = E := ⟨_, rfl⟩
    rw [hE] at CM h ⊢
    have hne : (E != 0) = true := by simpa using h
    clear h e hE ra ul
    go_enter Tryz.func102, Tryz.ntmps102
    go_wp2_with fail
    refine CM.out.mono ?_
    rintro _ _ ⟨rfl, rfl⟩
    go_wp2_with fail
    go_ret2
    exact .nil (Below.refl _ _)
end Go.Proofs.YtecgbelgoomneaaGreat
/- Bytes read as bits, by the document. -/
namespace Go.Proofs.YtecgbelgoomneaaGreat
open Go.RowKit
set_option maxHeartbeats 400000
set_option maxRecDepth 100000
set_option linter.unusedVariables false
/-- A call's answer: a list that reads so, and an error; nothing that was there has turned. -/
def RdE {α : Type} (enc : α → Value) (xs : List α) (er : Int) (w : World) (e : Ending) (w' : World) : Prop :=
  ∃ A c, e = .returned (.tuple #[.slice A xs.length c, .int .i64 er]) ∧ xs.length ≤ c ∧ c ≤ 9223372036854775807 ∧ Rd enc w' w'.heap.size A xs ∧ Below w.heap.size w w'
theorem RdE.nil {α : Type} {enc : α → Value} {er : Int} {w w' : World} (hb : Below w.heap.size w w') : RdE enc ([] : List α) er w (.returned (.tuple #[.slice none 0 0, .int .i64 er])) w' := ⟨none, 0, rfl, by simp, by omega, Rd.none_, hb⟩
end Go.Proofs.YtecgbelgoomneaaGreat
/- Numbers unpacked, unwoven; signs read, by the document; lists of signs that are the same. -/
/- Numbers unwoven, signs read, by the document; lists of signs that are the same. -/
/- Frames in memory; whether they are the same, by the document. -/
namespace Go.Proofs.YtecgbelgoomneaaGreat
open Go.RowKit
set_option maxHeartbeats 400000
set_option maxRecDepth 100000
set_option linter.unusedVariables false
/-- Where a vector's lists lie. -/
structure SentP where
  AL : Option Addr
  cL : Nat
  AV : Option Addr
  cV : Nat
  AE : Option Addr
  cE : Nat
  AN : Option Addr
  cN : Nat
def zeroP : SentP := ⟨none, 0, none, 0, none, 0, none, 0⟩
@[reducible] def encT (s : SentV) (p : SentP) : Value := .agg #[.int .i64 s.sch, .int .i64 s.dim, .slice p.AL s.L.length p.cL, .slice p.AV s.V.length p.cV, .int .i64 s.scale, .int .i64 s.wide, .slice p.AE s.lev.length p.cE, .slice p.AN s.neg.length p.cN]
/-- Its lists read so. -/
def RdS (w : World) (B : Nat) (s : SentV) (p : SentP) : Prop := Rd (Value.int .i64) w B p.AL s.L ∧ Rd (Value.int .i64) w B p.AV s.V ∧ Rd (Value.int .u64) w B p.AE s.lev ∧ Rd Value.bool w B p.AN s.neg
theorem RdS.below {w w' : World} {B : Nat} {s : SentV} {p : SentP} (h : RdS w B s p) (hb : Below B w w') : RdS w' B s p := ⟨h.1.below hb, h.2.1.below hb, h.2.2.1.below hb, h.2.2.2.below hb⟩
theorem RdS.more {w : World} {B B' : Nat} {s : SentV} {p : SentP} (h : RdS w B s p) (hB : B ≤ B') : RdS w B' s p := ⟨h.1.more hB, h.2.1.more hB, h.2.2.1.more hB, h.2.2.2.more hB⟩
theorem RdS.on {w w' : World} {s : SentV} {p : SentP} (h : RdS w w.heap.size s p) (hb : Below w.heap.size w w') : RdS w' w'.heap.size s p := (h.below hb).more hb.size
theorem RdS.zero (w : World) (B : Nat) : RdS w B zeroS zeroP := ⟨Rd.none_, Rd.none_, Rd.none_, Rd.none_⟩
/-- How long its lists are at the most. -/
def lnS (n : Nat) (s : SentV) : Prop := s.L.length ≤ n ∧ s.V.length ≤ n ∧ s.lev.length ≤ n ∧ s.neg.length ≤ n
theorem lnS.more {n m : Nat} {s : SentV} (h : lnS n s) (hm : n ≤ m) : lnS m s := ⟨by have := h.1; omega, by have := h.2.1; omega, by have := h.2.2.1; omega, by have := h.2.2.2; omega⟩
theorem ln_zero (n : Nat) : lnS n zeroS := ⟨by simp [zeroS], by simp [zeroS], by simp [zeroS], by simp [zeroS]⟩
theorem takeN_step {xs ys : List Bool} {k : Nat} {x y : Bool} (h : xs.take k = ys.take k) (hx : xs[k]? = some x) (hy : ys[k]? = some y) (e : x = y) : xs.take (k + 1) = ys.take (k + 1) := by
  rw [List.take_add_one, List.take_add_one, h, hx, hy, e]
theorem eqN_no {xs ys : List Bool} {k : Nat} {x y : Bool} (hx : xs[k]? = some x) (hy : ys[k]? = some y) (e : x ≠ y) : eqN xs ys = false := by
  unfold eqN
  rw [decide_eq_false_iff_not]
  rintro rfl
  rw [hx] at hy
  exact e (Option.some.inj hy)
theorem eqN_yes {xs ys : List Bool} {k : Nat} (h : xs.take k = ys.take k) (hx : k = xs.length) (hl : xs.length = ys.length) : eqN xs ys = true := by
  unfold eqN
  rw [List.take_of_length_le (by omega), List.take_of_length_le (by omega)] at h
  simpa using h
theorem eqN_len {xs ys : List Bool} (h : xs.length ≠ ys.length) : eqN xs ys = false := by
  unfold eqN
  rw [decide_eq_false_iff_not]
  rintro rfl
  exact h rfl
theorem ref_SignsEq {A B : Option Addr} {c d : Nat} (xs ys : List Bool) (hx : xs.length ≤ 9223372036854775807) (hy : ys.length ≤ 9223372036854775807) (w : World) {L M : Nat}
    (ra : Rd Value.bool w L A xs) (rb : Rd Value.bool w M B ys) :
    Calls Tryz.prog 41 #[.slice A xs.length c, .slice B ys.length d] w fun e w' => e = .returned (.bool (eqN xs ys)) ∧ ∃ n, w' = w.drewN n := by
  by_cases hl : xs.length = ys.length
  · have HA := hid ra
    have HB := hid rb
    clear ra rb
    have h1 : ((xs.length : Int) != (ys.length : Int)) = false := by simp; omega
    have h2 : (xs.length != ys.length) = false := by simp; omega
    have HL := hid hl
    clear hl
    go_enter Tryz.func41, Tryz.ntmps41
    go_wp2_with fail
    clear h1 h2
    go_loopw [13] (fun i wr => ∃ k : Nat, k ≤ xs.length ∧ i = .int .i64 k ∧ xs.take k = ys.take k ∧ ∃ n, wr = w.drewN n) (fun i _ => xs.length - (intOf i).toNat)
    case atStart => exact ⟨0, by omega, rfl, rfl, 0, rfl⟩
    case round =>
      obtain ⟨k, hk, rfl, ht, n, rfl⟩ := hrel
      have HT := hid ht
      clear ht
      by_cases hlt : k < xs.length
      · have hlt2 : k < ys.length := by have := HL.out; omega
        obtain ⟨b1, o1, x, rfl, l1, ex, c1⟩ := HA.out.at_ hlt
        obtain ⟨b2, o2, y, rfl, l2, ey, c2⟩ := HB.out.at_ hlt2
        have EX := hid ex
        have EY := hid ey
        clear ex ey
        by_cases e : x = y
        · have e' : (x == y) = true := by simpa using e
          have E := hid e
          clear e
          go_wp2_with fail
          go_quiet (fail)
          go_wp2_with fail
          go_roundw
          case rel => exact ⟨k + 1, by omega, by go_num, takeN_step HT.out EX.out EY.out E.out, _, rfl⟩
          case measure => simp [intOf]; omega
        · have e' : (x == y) = false := by simpa using e
          go_wp2_with fail
          go_quiet (fail)
          go_wp2_with fail
          go_ret
          rw [eqN_no EX.out EY.out e]
          exact ⟨rfl, drewN_two _ _ _⟩
      · have hke : k = xs.length := by omega
        have HK := hid hke
        clear hke
        go_wp2_with fail
        go_ret
        rw [eqN_yes HT.out HK.out HL.out]
        exact ⟨rfl, _, rfl⟩
  · rw [eqN_len hl]
    have h1 : ((xs.length : Int) != (ys.length : Int)) = true := by simp; omega
    have h2 : (xs.length != ys.length) = true := by simp; omega
    clear hl ra rb
    go_enter Tryz.func41, Tryz.ntmps41
    go_wp2_with fail
    go_ret
    exact ⟨rfl, 0, rfl⟩
theorem ref_NumsEq {A B : Option Addr} {c d : Nat} (xs ys : List Int) (hx : xs.length ≤ 9223372036854775807) (hy : ys.length ≤ 9223372036854775807) (w : World) {L M : Nat}
    (ra : Rd (Value.int .u64) w L A xs) (rb : Rd (Value.int .u64) w M B ys) :
    Calls Tryz.prog 40 #[.slice A xs.length c, .slice B ys.length d] w fun e w' => e = .returned (.bool (eqB xs ys)) ∧ ∃ n, w' = w.drewN n := by
  by_cases hl : xs.length = ys.length
  · have HA := hid ra
    have HB := hid rb
    clear ra rb
    have h1 : ((xs.length : Int) != (ys.length : Int)) = false := by simp; omega
    have h2 : (xs.length != ys.length) = false := by simp; omega
    have HL := hid hl
    clear hl
    go_enter Tryz.func40, Tryz.ntmps40
    go_wp2_with fail
    clear h1 h2
    go_loopw [13] (fun i wr => ∃ k : Nat, k ≤ xs.length ∧ i = .int .i64 k ∧ xs.take k = ys.take k ∧ ∃ n, wr = w.drewN n) (fun i _ => xs.length - (intOf i).toNat)
    case atStart => exact ⟨0, by omega, rfl, rfl, 0, rfl⟩
    case round =>
      obtain ⟨k, hk, rfl, ht, n, rfl⟩ := hrel
      have HT := hid ht
      clear ht
      by_cases hlt : k < xs.length
      · have hlt2 : k < ys.length := by have := HL.out; omega
        obtain ⟨b1, o1, x, rfl, l1, ex, c1⟩ := HA.out.at_ hlt
        obtain ⟨b2, o2, y, rfl, l2, ey, c2⟩ := HB.out.at_ hlt2
        have EX := hid ex
        have EY := hid ey
        clear ex ey
        by_cases e : x = y
        · have e' : (x != y) = false := by simpa using e
          have E := hid e
          clear e
          go_wp2_with fail
          go_quiet (fail)
          go_wp2_with fail
          go_roundw
          case rel => exact ⟨k + 1, by omega, by go_num, take_step HT.out EX.out EY.out E.out, _, rfl⟩
          case measure => simp [intOf]; omega
        · have e' : (x != y) = true := by simpa using e
          go_wp2_with fail
          go_quiet (fail)
          go_wp2_with fail
          go_ret
          rw [eqB_no EX.out EY.out e]
          exact ⟨rfl, drewN_two _ _ _⟩
      · have hke : k = xs.length := by omega
        have HK := hid hke
        clear hke
        go_wp2_with fail
        go_ret
        rw [eqB_yes HT.out HK.out HL.out]
        exact ⟨rfl, _, rfl⟩
  · rw [eqB_len hl]
    have h1 : ((xs.length : Int) != (ys.length : Int)) = true := by simp; omega
    have h2 : (xs.length != ys.length) = true := by simp; omega
    go_enter Tryz.func40, Tryz.ntmps40
    go_wp2_with fail
    go_ret
    exact ⟨rfl, 0, rfl⟩
theorem ref_SameSent (a b : SentV) (p q : SentP) (ha : lnS 100000 a) (hb : lnS 100000 b) (w : World) {B D : Nat} (hB : B ≤ w.heap.size) (hD : D ≤ w.heap.size) (ra : RdS w B a p) (rb : RdS w D b q) :
    Calls Tryz.prog 15 #[encT a p, encT b q] w fun e w' => e = .returned (.bool (sameS a b)) ∧ Below w.heap.size w w' := by
  have C1 := hid (fun W (h : Below w.heap.size w W) => ref_Equal (A := p.AL) (B := q.AL) (c := p.cL) (d := q.cL) a.L b.L (by have := ha.1; omega) (by have := hb.1; omega) W (ra.1.below (h.mono hB)) (rb.1.below (h.mono hD)))
  have C2 := hid (fun W (h : Below w.heap.size w W) => ref_Same64 (A := p.AV) (B := q.AV) (c := p.cV) (d := q.cV) a.V b.V (by have := ha.2.1; omega) (by have := hb.2.1; omega) W (ra.2.1.below (h.mono hB)) (rb.2.1.below (h.mono hD)))
  have C3 := hid (fun W (h : Below w.heap.size w W) => ref_NumsEq (A := p.AE) (B := q.AE) (c := p.cE) (d := q.cE) a.lev b.lev (by have := ha.2.2.1; omega) (by have := hb.2.2.1; omega) W (ra.2.2.1.below (h.mono hB)) (rb.2.2.1.below (h.mono hD)))
  have C4 := hid (fun W (h : Below w.heap.size w W) => ref_SignsEq (A := p.AN) (B := q.AN) (c := p.cN) (d := q.cN) a.neg b.neg (by have := ha.2.2.2; omega) (by have := hb.2.2.2; omega) W (ra.2.2.2.below (h.mono hB)) (rb.2.2.2.below (h.mono hD)))
  unfold sameS
  obtain ⟨vL, eL⟩ : ∃ v, eqB a.L b.L = v := ⟨_, rfl⟩
  obtain ⟨vV, eV⟩ : ∃ v, eqB a.V b.V = v := ⟨_, rfl⟩
  obtain ⟨vlev, elev⟩ : ∃ v, eqB a.lev b.lev = v := ⟨_, rfl⟩
  obtain ⟨vneg, eneg⟩ : ∃ v, eqN a.neg b.neg = v := ⟨_, rfl⟩
  rw [eL] at C1 ⊢
  rw [eV] at C2 ⊢
  rw [elev] at C3 ⊢
  rw [eneg] at C4 ⊢
  obtain ⟨vsch, hsch⟩ : ∃ v, (a.sch == b.sch) = v := ⟨_, rfl⟩
  obtain ⟨vdim, hdim⟩ : ∃ v, (a.dim == b.dim) = v := ⟨_, rfl⟩
  obtain ⟨vscale, hscale⟩ : ∃ v, (a.scale == b.scale) = v := ⟨_, rfl⟩
  obtain ⟨vwide, hwide⟩ : ∃ v, (a.wide == b.wide) = v := ⟨_, rfl⟩
  rw [hsch, hdim, hscale, hwide]
  have K : Hid (∀ n, Below w.heap.size w (((w.alloc (.cells #[.int .i64 a.sch, .int .i64 a.dim, .slice p.AL a.L.length p.cL, .slice p.AV a.V.length p.cV, .int .i64 a.scale, .int .i64 a.wide, .slice p.AE a.lev.length p.cE, .slice p.AN a.neg.length p.cN] 32)).alloc (.cells #[.int .i64 b.sch, .int .i64 b.dim, .slice q.AL b.L.length q.cL, .slice q.AV b.V.length q.cV, .int .i64 b.scale, .int .i64 b.wide, .slice q.AE b.lev.length q.cE, .slice q.AN b.neg.length q.cN] 32)).drewN n)) := hid (fun n => Below.trans (by go_grown) (belowN _ _ n))
  clear eL eV elev eneg ra rb ha hb
  go_enter Tryz.func15, Tryz.ntmps15
  go_wp2_with fail
  any_goals (go_ret; exact ⟨by simp [*], by go_grown⟩)
  refine (C1.out _ (by go_grown)).mono ?_
  rintro _ _ ⟨rfl, n1, rfl⟩
  go_wp2_with fail
  any_goals (go_ret; exact ⟨by simp [*], K.out _⟩)
  refine (C2.out _ (K.out _)).mono ?_
  rintro _ _ ⟨rfl, n2, rfl⟩
  go_wp2_with fail
  any_goals (go_ret; exact ⟨by simp [*], K.out _⟩)
  refine (C3.out _ (K.out _)).mono ?_
  rintro _ _ ⟨rfl, n3, rfl⟩
  go_wp2_with fail
  any_goals (go_ret; exact ⟨by simp [*], K.out _⟩)
  refine (C4.out _ (K.out _)).mono ?_
  rintro _ _ ⟨rfl, n4, rfl⟩
  go_wp2_with fail
  go_ret
  exact ⟨by simp [*], K.out _⟩
end Go.Proofs.YtecgbelgoomneaaGreat
/- A step of a region that draws: an append onto a list of the call's own. -/
namespace Go.Proofs.YtecgbelgoomneaaGreat
open Go.RowKit
set_option maxHeartbeats 400000
set_option maxRecDepth 100000
set_option linter.unusedVariables false
theorem step_app {P : Program} {α : Type} (enc : α → Value) (h1 : ∀ x, (enc x).oneCell' = true) {w : World} {ops : Array Oper} {o : Oper} {a : Act} {K : Act → World → Prop} {Q : Exit → Act → World → Prop} {E : Prop} (hgd : o.guard = none) (s x : Operand) (t : TypeId)
    (ho : o.op = .call { callee := .builtin .append, args := #[s, x], argTypes := #[t, t] })
    (base : Nat) (e : TypeId) (z : Value) (bytes : Nat) (ht : P.underlying t = some (.slice e)) (hinfo : (P.info? e).map (fun i => (i.zero, i.size, i.bytes)) = some (some z, 1, bytes)) (hzs : z.cells.size = 1)
    (ys : List α) (A0 : Option Addr) (c0 : Nat) (hs : a.eval s = .slice A0 ys.length c0) (hown : w.ownsRow base e 1 (.slice A0 ys.length c0) ys.length (ys.map enc))
    (xs : List α) (A : Option Addr) (c B : Nat) (hx : a.eval x = .slice A xs.length c) (hr : Rd enc w B A xs) (h63 : ys.length + xs.length ≤ maxLen) (hbytes : (ys.length + xs.length) * bytes ≤ 140737488355328) (hbase : base ≤ w.heap.size)
    (h : ∀ (S : List α) (A' : Option Addr) (c' : Nat) (w' : World), S = ys ++ xs → w'.ownsRow base e 1 (.slice A' S.length c') S.length (S.map enc) → Below base w w' → w.grownBy w' (Value.slice A0 ys.length c0).ownBlock → K (a.put o.dst (.slice A' S.length c')) w') :
    if Region.wanted o (yielded ops a.tmps) = true then Oper.wp P o a w K Q else E := by
  have hw : Region.wanted o (yielded ops a.tmps) = true := by simp [Region.wanted, hgd]
  rw [if_pos hw]
  obtain ⟨A', c', w', hrun, h2, h3, h4, _⟩ := run_app (P := P) enc h1 w base t o.type e z bytes ht hinfo hzs ys A0 c0 hown xs A c B hr h63 hbytes hbase
  unfold Oper.wp execOp
  simp only [ho, resolve, invoke, builtin, Sem.run_bind, Sem.run_pure, Result.andThen_ok, List.map_toArray, List.map_cons, List.map_nil, hs, hx, hrun]
  exact h _ A' c' w' rfl h2 h3 h4
theorem own_far {w w' : World} {base n : Nat} {e : TypeId} {v : Value} {vs : List Value} {row : Option Nat} (h : w.ownsRow base e 1 v n vs) (hg : w.grownBy w' row) (hr : ∀ k, row = some k → k < base) : w'.ownsRow base e 1 v n vs := by
  refine ⟨h.1, ?_⟩
  rcases h.2 with hn | ⟨g, cap, cur, hv, hg2, hh, r⟩
  · exact .inl hn
  · exact .inr ⟨g, cap, cur, hv, hg2, (hg.block g (Array.getElem?_eq_some_iff.1 hh).1 (by intro e; have := hr g e.symm; omega)).trans hh, r⟩
end Go.Proofs.YtecgbelgoomneaaGreat
