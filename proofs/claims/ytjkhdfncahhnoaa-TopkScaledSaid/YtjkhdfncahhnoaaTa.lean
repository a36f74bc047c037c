
/- Ta: texts joined: Math TkM HpM Mem Wd HpA App HpB Step HpC HpD LebM LebN IxM TkN HpN Byte Same Eq IxA LebA LebB LebC LebD IxB Rws. -/
import Derived.WalkKit
import Derived.OpenShut
import Derived.Sort.LotA
import Derived.Test.YtjkhdfncahhnoaaProg
import Derived.Handy
import Derived.Deep.OwnRows
import Derived.Deep.Draws
import Derived.Laws.OwnMore
import Derived.Deep.QuietTactic
import Derived.BigQuiet
import Derived.Laws.Slices
import Derived.Laws.BytesArg
import Derived.WideShapes
import Derived.Shelf.SlSortCmp.QuietGrown
import Derived.StillTailTactics
import Derived.Shelf.SlSortCmp.InsertionK
import Derived.Maps.AppendAt
import Derived.OwnWalk
import Derived.RegionTactic
import Derived.Deep.RegionHeld3
import Derived.Deep.RegionLaw
import Derived.Lib.BitFns
import Derived.WalkSpells
import Derived.Outline
import Derived.ChangeAlike
import Derived.Test.YtjkhdfncahhnoaaShelf
import Derived.WalkLawsBesides
import Derived.Laws.Bits64b
/-
  Plain facts on whole numbers of 64 bits, checked sums and wraps. No program in sight.
-/
namespace Go.Proofs.Ytjkhdfncahhnoaa
open Go.RowKit

/-- Kept from the walk, which takes every equation that stands open for a rule. -/
theorem hid {p : Prop} (h : p) : Hid p := h

/-- The numbers of 64 bits with a sign, and without one. -/
def I64 (a : Int) : Prop := -9223372036854775808 ≤ a ∧ a ≤ 9223372036854775807
def U64 (a : Int) : Prop := 0 ≤ a ∧ a ≤ 18446744073709551615
instance (a : Int) : Decidable (I64 a) := by unfold I64; infer_instance
instance (a : Int) : Decidable (U64 a) := by unfold U64; infer_instance
/-- Every one is a byte, a number of 64 bits. -/
def U8s (xs : List Int) : Prop := ∀ x ∈ xs, 0 ≤ x ∧ x ≤ 255
def U64s (xs : List Int) : Prop := ∀ x ∈ xs, U64 x
theorem U8s.app {a b : List Int} (ha : U8s a) (hb : U8s b) : U8s (a ++ b) := fun x hx => (List.mem_append.1 hx).elim (ha x) (hb x)
theorem U8s.at_ {xs : List Int} (h : U8s xs) {k : Nat} {x : Int} (hx : xs[k]? = some x) : 0 ≤ x ∧ x ≤ 255 := h x (List.mem_of_getElem? hx)
theorem U8s.take {xs : List Int} (h : U8s xs) (k : Nat) : U8s (xs.take k) := fun x hx => h x (List.mem_of_mem_take hx)
theorem U8s.drop {xs : List Int} (h : U8s xs) (k : Nat) : U8s (xs.drop k) := fun x hx => h x (List.mem_of_mem_drop hx)
theorem U64s.at_ {xs : List Int} (h : U64s xs) {k : Nat} {x : Int} (hx : xs[k]? = some x) : U64 x := h x (List.mem_of_getElem? hx)
theorem U64s.take {xs : List Int} (h : U64s xs) (k : Nat) : U64s (xs.take k) := fun x hx => h x (List.mem_of_mem_take hx)
theorem I64.of_wf {a : Int} (h : (Lit.int .i64 a).wf = true) : I64 a := by
  have := bounds_i64 h; unfold I64; omega

/-- What a checked result is: the number, if it has a place in 64 bits; its error. -/
def ckV (s : Int) : Int := if I64 s then s else 0
def ckE (s : Int) : Int := if I64 s then 0 else 2

theorem ckV_in {s : Int} (h : I64 s) : ckV s = s := by unfold ckV; rw [if_pos h]
theorem ckE_in {s : Int} (h : I64 s) : ckE s = 0 := by unfold ckE; rw [if_pos h]
theorem ckV_out {s : Int} (h : ¬ I64 s) : ckV s = 0 := by unfold ckV; rw [if_neg h]
theorem ckE_out {s : Int} (h : ¬ I64 s) : ckE s = 2 := by unfold ckE; rw [if_neg h]
theorem ckV_i64 (s : Int) : I64 (ckV s) := by
  unfold ckV; split
  · assumption
  · unfold I64; omega
theorem ckE_cases (s : Int) : (ckE s = 0 ∧ I64 s ∧ ckV s = s) ∨ (ckE s = 2 ∧ ¬ I64 s ∧ ckV s = 0) := by
  by_cases h : I64 s
  · exact Or.inl ⟨ckE_in h, h, ckV_in h⟩
  · exact Or.inr ⟨ckE_out h, h, ckV_out h⟩

theorem ret2 {k k' : IntKind} {x y x' y' : Int} (h1 : x = x') (h2 : y = y') : Ending.returned (Value.tuple #[.int k x, .int k' y]) = Ending.returned (Value.tuple #[.int k x', .int k' y']) := by rw [h1, h2]
theorem wrap64_lo (s : Int) : wrap64 s = s % 18446744073709551616 ∨ wrap64 s = s % 18446744073709551616 - 18446744073709551616 := by unfold wrap64; omega
theorem wrap64_eq (s : Int) : wrap64 s = (s + 9223372036854775808) % 18446744073709551616 - 9223372036854775808 := by unfold wrap64; omega
theorem I64.wrap (s : Int) : I64 (wrap64 s) := by unfold I64; rw [wrap64_eq]; omega
theorem I64.wrap_in {s : Int} (h : I64 s) : wrap64 s = s := by unfold I64 at h; rw [wrap64_eq]; omega

theorem add_w1 {a b : Int} (ha : I64 a) (hb : I64 b) (h : (!decide (wrap64 (a + b) < a) == decide (b < 0)) = true) : ¬ I64 (a + b) := by
  unfold I64 at *; rw [wrap64_eq] at h
  by_cases c1 : (a + b + 9223372036854775808) % 18446744073709551616 - 9223372036854775808 < a <;> by_cases c2 : b < 0 <;> simp [c1, c2] at h <;> omega
theorem add_w2 {a b : Int} (ha : I64 a) (hb : I64 b) (h : (!decide (wrap64 (a + b) < a) == decide (b < 0)) = false) : I64 (a + b) := by
  unfold I64 at *; rw [wrap64_eq] at h
  by_cases c1 : (a + b + 9223372036854775808) % 18446744073709551616 - 9223372036854775808 < a <;> by_cases c2 : b < 0 <;> simp [c1, c2] at h <;> omega
theorem sub_w1 {a b : Int} (ha : I64 a) (hb : I64 b) (h : (!decide (a < wrap64 (a - b)) == decide (b < 0)) = true) : ¬ I64 (a - b) := by
  unfold I64 at *; rw [wrap64_eq] at h
  by_cases c1 : a < (a - b + 9223372036854775808) % 18446744073709551616 - 9223372036854775808 <;> by_cases c2 : b < 0 <;> simp [c1, c2] at h <;> omega
theorem sub_w2 {a b : Int} (ha : I64 a) (hb : I64 b) (h : (!decide (a < wrap64 (a - b)) == decide (b < 0)) = false) : I64 (a - b) := by
  unfold I64 at *; rw [wrap64_eq] at h
  by_cases c1 : a < (a - b + 9223372036854775808) % 18446744073709551616 - 9223372036854775808 <;> by_cases c2 : b < 0 <;> simp [c1, c2] at h <;> omega
theorem ck_out2 {s : Int} (h : ¬ I64 s) : Ending.returned (Value.tuple #[.int .i64 0, .int .i64 2]) = Ending.returned (Value.tuple #[.int .i64 (ckV s), .int .i64 (ckE s)]) := ret2 (ckV_out h).symm (ckE_out h).symm
theorem ck_wrap2 {s : Int} (h : I64 s) : Ending.returned (Value.tuple #[.int .i64 (wrap64 s), .int .i64 0]) = Ending.returned (Value.tuple #[.int .i64 (ckV s), .int .i64 (ckE s)]) := ret2 ((I64.wrap_in h).trans (ckV_in h).symm) (ckE_in h).symm
theorem ck_in2 {s : Int} (h : I64 s) : Ending.returned (Value.tuple #[.int .i64 s, .int .i64 0]) = Ending.returned (Value.tuple #[.int .i64 (ckV s), .int .i64 (ckE s)]) := ret2 (ckV_in h).symm (ckE_in h).symm

theorem ret_true {b : Bool} (h : b = true) : Ending.returned (Value.bool b) = Ending.returned (Value.bool true) := by rw [h]

/-- A number's size. -/
def absI (a : Int) : Int := if a < 0 then -a else a

/-- A number clipped: its error is that of a bound below 0. -/
def clipV (a m : Int) : Int := if m < 0 then 0 else if a < -m then -m else if m < a then m else a
def clipE (m : Int) : Int := if m < 0 then 1 else 0

end Go.Proofs.Ytjkhdfncahhnoaa
/- The greatest numbers of a vector: sizes, which place is ahead, how many are, an order of all, the first ones. Plain mathematics. No program in sight. -/
namespace Go.Proofs.Ytjkhdfncahhnoaa
set_option maxRecDepth 100000
set_option linter.unusedVariables false
/-- A number's size. -/
def szN (n : Int) : Nat := n.natAbs
/-- Place i is ahead of place k. -/
def ahB (v : List Int) (i k : Nat) : Bool := decide (szN (v.getD k 0) < szN (v.getD i 0)) || (decide (szN (v.getD i 0) = szN (v.getD k 0)) && decide (i < k))
theorem ahB_iff {v : List Int} {i k : Nat} : ahB v i k = true ↔ szN (v.getD k 0) < szN (v.getD i 0) ∨ (szN (v.getD i 0) = szN (v.getD k 0) ∧ i < k) := by
  unfold ahB
  simp
theorem ah_irr (v : List Int) (i : Nat) : ahB v i i = false := by
  rw [Bool.eq_false_iff]
  intro h
  rcases ahB_iff.1 h with h | h <;> omega
theorem ah_trans {v : List Int} {i j k : Nat} (h1 : ahB v i j = true) (h2 : ahB v j k = true) : ahB v i k = true := by
  rcases ahB_iff.1 h1 with h1 | h1 <;> rcases ahB_iff.1 h2 with h2 | h2 <;> exact ahB_iff.2 (by omega)
theorem ah_tot {v : List Int} {i k : Nat} (h : i ≠ k) : ahB v i k = true ∨ ahB v k i = true := by
  by_cases h1 : szN (v.getD k 0) < szN (v.getD i 0)
  · exact Or.inl (ahB_iff.2 (Or.inl h1))
  · by_cases h2 : szN (v.getD i 0) < szN (v.getD k 0)
    · exact Or.inr (ahB_iff.2 (Or.inl h2))
    · by_cases h3 : i < k
      · exact Or.inl (ahB_iff.2 (Or.inr ⟨by omega, h3⟩))
      · exact Or.inr (ahB_iff.2 (Or.inr ⟨by omega, by omega⟩))
theorem ah_not {v : List Int} {i k : Nat} (h : ahB v i k = true) : ahB v k i = false := by
  rw [Bool.eq_false_iff]
  intro h2
  have := ah_trans h h2
  rw [ah_irr] at this
  cases this
/-- How many of the first m places are ahead of one. -/
def rkM (v : List Int) (i : Nat) : Nat → Nat
  | 0 => 0
  | m + 1 => rkM v i m + (if ahB v m i = true then 1 else 0)
/-- How many are ahead. -/
def rkN (v : List Int) (i : Nat) : Nat := rkM v i v.length
theorem rkM_le (v : List Int) (i : Nat) : ∀ m, rkM v i m ≤ m
  | 0 => Nat.le_refl _
  | m + 1 => by
    have := rkM_le v i m
    rw [rkM]
    split <;> omega
theorem rkM_lt (v : List Int) (i : Nat) : ∀ m, i < m → rkM v i m < m
  | 0, h => by omega
  | m + 1, h => by
    rw [rkM]
    by_cases e : i = m
    · subst e
      rw [ah_irr, if_neg (by decide)]
      have := rkM_le v i i
      omega
    · have := rkM_lt v i m (by omega)
      split <;> omega
theorem rkN_lt {v : List Int} {i : Nat} (h : i < v.length) : rkN v i < v.length := rkM_lt v i _ h
/-- Who is ahead has fewer ahead. -/
theorem rkM_mono {v : List Int} {i k : Nat} (h : ahB v i k = true) : ∀ m, rkM v i m ≤ rkM v k m
  | 0 => Nat.le_refl _
  | m + 1 => by
    have := rkM_mono h m
    rw [rkM, rkM]
    by_cases h1 : ahB v m i = true
    · rw [if_pos h1, if_pos (ah_trans h1 h)]
      omega
    · rw [if_neg h1]
      omega
theorem rkM_strict {v : List Int} {i k : Nat} (h : ahB v i k = true) : ∀ m, i < m → rkM v i m < rkM v k m
  | 0, hm => by omega
  | m + 1, hm => by
    rw [rkM, rkM]
    by_cases e : i = m
    · subst e
      have := rkM_mono h i
      rw [ah_irr, if_neg (by decide), if_pos h]
      omega
    · have := rkM_strict h m (by omega)
      by_cases h1 : ahB v m i = true
      · rw [if_pos h1, if_pos (ah_trans h1 h)]
        omega
      · rw [if_neg h1]
        omega
theorem rk_lt {v : List Int} {i k : Nat} (hi : i < v.length) (h : ahB v i k = true) : rkN v i < rkN v k := rkM_strict h _ hi
theorem rk_iff {v : List Int} {i k : Nat} (hi : i < v.length) (hk : k < v.length) : rkN v i < rkN v k ↔ ahB v i k = true := by
  refine ⟨fun h => ?_, rk_lt hi⟩
  by_cases e : i = k
  · subst e; omega
  · rcases ah_tot (v := v) e with h1 | h1
    · exact h1
    · have := rk_lt hk h1
      omega
theorem rk_inj {v : List Int} {i k : Nat} (hi : i < v.length) (hk : k < v.length) (h : rkN v i = rkN v k) : i = k := by
  by_cases e : i = k
  · exact e
  · rcases ah_tot (v := v) e with h1 | h1
    · have := rk_lt hi h1
      omega
    · have := rk_lt hk h1
      omega
/-- The first k, rising. -/
def pkF (v : List Int) (k : Nat) : List Nat := (List.range v.length).filter fun i => decide (rkN v i < k)
theorem pkF_mem {v : List Int} {k i : Nat} : i ∈ pkF v k ↔ i < v.length ∧ rkN v i < k := by
  unfold pkF
  simp
/-- A function one to one below n meets each number below n: counted. -/
theorem onto_of_inj : ∀ (n : Nat) (f : Nat → Nat), (∀ x, x < n → f x < n) → (∀ x y, x < n → y < n → f x = f y → x = y) → ∀ y, y < n → ∃ x, x < n ∧ f x = y
  | 0, _, _, _, y, hy => by omega
  | n + 1, f, h1, h2, y, hy => by
    by_cases hl : f n = y
    · exact ⟨n, by omega, hl⟩
    · -- the value at n changes places with n
      have hfn := h1 n (by omega)
      have g1 : ∀ x, x < n → (if f x = n then f n else f x) < n := fun x hx => by
        have a := h1 x (by omega)
        by_cases e : f x = n
        · rw [if_pos e]
          have : f n ≠ n := fun e2 => by
            have := h2 x n (by omega) (by omega) (by omega)
            omega
          omega
        · rw [if_neg e]
          omega
      have g2 : ∀ x z, x < n → z < n → (if f x = n then f n else f x) = (if f z = n then f n else f z) → x = z := fun x z hx hz e => by
        have a := h2 x z (by omega) (by omega)
        have b := h2 x n (by omega) (by omega)
        have c := h2 z n (by omega) (by omega)
        split at e <;> split at e <;> first | exact a (by omega) | (have := b (by omega); omega) | (have := c (by omega); omega) | (have := b e.symm; omega) | (have := c e; omega)
      by_cases hyn : y = n
      · subst hyn
        obtain ⟨x, hx, hfx⟩ := onto_of_inj y (fun x => if f x = y then f y else f x) g1 g2 (f y) (by omega)
        refine ⟨x, by omega, ?_⟩
        by_cases e : f x = y
        · exact e
        · simp only [if_neg e] at hfx
          have := h2 x y (by omega) (by omega) hfx
          omega
      · obtain ⟨x, hx, hfx⟩ := onto_of_inj n (fun x => if f x = n then f n else f x) g1 g2 y (by omega)
        refine ⟨x, by omega, ?_⟩
        by_cases e : f x = n
        · simp only [if_pos e] at hfx
          exact absurd hfx hl
        · simpa only [if_neg e] using hfx
theorem rk_onto {v : List Int} {r : Nat} (h : r < v.length) : ∃ i, i < v.length ∧ rkN v i = r :=
  onto_of_inj v.length (rkN v) (fun _ h => rkN_lt h) (fun _ _ h1 h2 h => rk_inj h1 h2 h) r h
/-- Which place comes as the r-th. -/
def atR (v : List Int) (r : Nat) : Nat := ((List.range v.length).find? fun i => decide (rkN v i = r)).getD 0
theorem atR_is {v : List Int} {r : Nat} (h : r < v.length) : atR v r < v.length ∧ rkN v (atR v r) = r := by
  obtain ⟨i, hi, hr⟩ := rk_onto h
  unfold atR
  cases hf : (List.range v.length).find? fun i => decide (rkN v i = r) with
  | none =>
    have := List.find?_eq_none.1 hf i (List.mem_range.2 hi)
    simp [hr] at this
  | some j =>
    have h1 := List.find?_some hf
    have h2 := List.mem_of_find?_eq_some hf
    simp at h1 h2
    exact ⟨h2, h1⟩
theorem atR_of {v : List Int} {i : Nat} (h : i < v.length) : atR v (rkN v i) = i := by
  obtain ⟨h1, h2⟩ := atR_is (rkN_lt h)
  exact rk_inj h1 h h2
/-- The order. -/
def ordT (v : List Int) : List Nat := (List.range v.length).map (atR v)
theorem ordT_len (v : List Int) : (ordT v).length = v.length := by unfold ordT; simp
theorem ordT_at {v : List Int} {r : Nat} (h : r < v.length) : (ordT v)[r]? = some (atR v r) := by unfold ordT; simp [h]
/-- The first k of the order are those that are picked. -/
theorem pkF_ord {v : List Int} {k i : Nat} (hk : k ≤ v.length) : i ∈ pkF v k ↔ i ∈ (ordT v).take k := by
  rw [pkF_mem]
  constructor
  · rintro ⟨h1, h2⟩
    refine List.mem_of_getElem? (i := rkN v i) ?_
    rw [List.getElem?_take_of_lt h2, ordT_at (rkN_lt h1), atR_of h1]
  · intro h
    obtain ⟨r, hr⟩ := List.mem_iff_getElem?.1 h
    have hl := (List.getElem?_eq_some_iff.1 hr).1
    rw [List.length_take, ordT_len] at hl
    rw [List.getElem?_take_of_lt (by omega), ordT_at (by omega)] at hr
    injection hr with hr
    obtain ⟨h1, h2⟩ := atR_is (v := v) (r := r) (by omega)
    rw [hr] at h1 h2
    exact ⟨h1, by omega⟩
end Go.Proofs.Ytjkhdfncahhnoaa
/- A heap of places with sizes: which one is behind, what one that rises or sinks leaves, who is on top. Plain mathematics. No program in sight. -/
namespace Go.Proofs.Ytjkhdfncahhnoaa
open Go.Sort
set_option maxRecDepth 100000
set_option linter.unusedVariables false
/-- A place with its size is behind another one. -/
def beh (x y : Nat × Nat) : Bool := decide (x.2 < y.2 ∨ (x.2 = y.2 ∧ y.1 < x.1))
theorem beh_iff {x y : Nat × Nat} : beh x y = true ↔ x.2 < y.2 ∨ (x.2 = y.2 ∧ y.1 < x.1) := by unfold beh; simp
theorem beh_not {x y : Nat × Nat} : beh x y = false ↔ ¬ (x.2 < y.2 ∨ (x.2 = y.2 ∧ y.1 < x.1)) := by rw [← beh_iff, Bool.not_eq_true]
theorem beh_irr (x : Nat × Nat) : beh x x = false := beh_not.2 (by omega)
theorem beh_nt {x y z : Nat × Nat} (h1 : beh x y = false) (h2 : beh y z = false) : beh x z = false := by
  rw [beh_not] at *; omega
theorem beh_asym {x y : Nat × Nat} (h : beh x y = true) : beh y x = false := by
  rw [beh_iff] at h; rw [beh_not]; omega
theorem beh_eq {x y : Nat × Nat} (h1 : beh x y = false) (h2 : beh y x = false) : x = y := by
  rw [beh_not] at h1 h2; exact Prod.ext (by omega) (by omega)
/-- None of the first n is behind who stands above it. -/
def HpOk (d : Array (Nat × Nat)) (n : Nat) : Prop := ∀ i, 0 < i → i < n → beh d[i]! d[(i - 1) / 2]! = false
/-- .. but for the one at j, which may rise. -/
def HpUp (d : Array (Nat × Nat)) (n j : Nat) : Prop :=
  (∀ i, 0 < i → i < n → i ≠ j → beh d[i]! d[(i - 1) / 2]! = false) ∧ (∀ i, 0 < i → i < n → (i - 1) / 2 = j → 0 < j → beh d[i]! d[(j - 1) / 2]! = false)
/-- .. but for those below j, which may sink. -/
def HpDn (d : Array (Nat × Nat)) (n j : Nat) : Prop :=
  (∀ i, 0 < i → i < n → (i - 1) / 2 ≠ j → beh d[i]! d[(i - 1) / 2]! = false) ∧ (∀ i, 0 < i → i < n → (i - 1) / 2 = j → 0 < j → beh d[i]! d[(j - 1) / 2]! = false)
theorem hp_up_stop {d : Array (Nat × Nat)} {n j : Nat} (h : HpUp d n j) (h2 : 0 < j → beh d[j]! d[(j - 1) / 2]! = false) : HpOk d n := fun i h0 hn => by
  by_cases e : i = j
  · subst e; exact h2 h0
  · exact h.1 i h0 hn e
theorem hp_up_step {d : Array (Nat × Nat)} {n j : Nat} (h : HpUp d n j) (h0 : 0 < j) (hj : j < n) (hn : n ≤ d.size) (hb : beh d[j]! d[(j - 1) / 2]! = true) : HpUp (swp d ((j - 1) / 2) j) n ((j - 1) / 2) := by
  obtain ⟨p, hp⟩ : ∃ p, (j - 1) / 2 = p := ⟨_, rfl⟩
  have hpj : p < j := by omega
  have hg := fun k => swp_get d (show p < d.size by omega) (show j < d.size by omega) k
  rw [hp] at hb ⊢
  refine ⟨fun i i0 hi e => ?_, fun i i0 hi e1 e2 => ?_⟩
  · rw [hg, hg]
    by_cases c : i = j
    · rw [if_pos c, c, hp, if_neg (by omega), if_pos rfl]
      exact beh_asym hb
    · rw [if_neg c, if_neg e]
      by_cases c2 : (i - 1) / 2 = j
      · rw [if_pos c2]
        have := h.2 i i0 hi c2 h0
        rwa [hp] at this
      · rw [if_neg c2]
        by_cases c3 : (i - 1) / 2 = p
        · rw [if_pos c3]
          have := h.1 i i0 hi c
          rw [c3] at this
          exact beh_nt this (beh_asym hb)
        · rw [if_neg c3]
          exact h.1 i i0 hi c
  · rw [hg, hg, if_neg (show ¬ (p - 1) / 2 = j by omega), if_neg (show ¬ (p - 1) / 2 = p by omega)]
    have hpp := h.1 p e2 (by omega) (by omega)
    by_cases c : i = j
    · rw [if_pos c]; exact hpp
    · rw [if_neg c, if_neg (show ¬ i = p by omega)]
      have := h.1 i i0 hi c
      rw [e1] at this
      exact beh_nt this hpp
theorem hp_dn_stop {d : Array (Nat × Nat)} {n j : Nat} (h : HpDn d n j) (h2 : ∀ c, 0 < c → c < n → (c - 1) / 2 = j → beh d[c]! d[j]! = false) : HpOk d n := fun i h0 hn => by
  by_cases e : (i - 1) / 2 = j
  · rw [e]; exact h2 i h0 hn e
  · exact h.1 i h0 hn e
theorem hp_dn_step {d : Array (Nat × Nat)} {n j c : Nat} (h : HpDn d n j) (hc : 0 < c) (hcn : c < n) (hcj : (c - 1) / 2 = j) (hn : n ≤ d.size) (hb : beh d[c]! d[j]! = true)
    (ho : ∀ k, 0 < k → k < n → (k - 1) / 2 = j → beh d[k]! d[c]! = false) : HpDn (swp d j c) n c := by
  have hjc : j < c := by omega
  have hg := fun k => swp_get d (show j < d.size by omega) (show c < d.size by omega) k
  refine ⟨fun i i0 hi e => ?_, fun i i0 hi e1 e2 => ?_⟩
  · rw [hg, hg]
    by_cases e1 : i = c
    · rw [if_pos e1, e1, hcj, if_neg (by omega), if_pos rfl]
      exact beh_asym hb
    · rw [if_neg e1, if_neg e]
      by_cases e2 : i = j
      · rw [if_pos e2]
        by_cases e3 : (i - 1) / 2 = j
        · omega
        · rw [if_neg e3, e2]
          exact h.2 c hc hcn hcj (by omega)
      · rw [if_neg e2]
        by_cases e3 : (i - 1) / 2 = j
        · rw [if_pos e3]; exact ho i i0 hi e3
        · rw [if_neg e3]; exact h.1 i i0 hi e3
  · rw [hg, hg, if_neg (show ¬ i = c by omega), if_neg (show ¬ i = j by omega), hcj, if_neg (show ¬ j = c by omega), if_pos rfl]
    have := h.1 i i0 hi (by omega)
    rwa [e1] at this
/-- Nobody is behind the one on top. -/
theorem hp_top {d : Array (Nat × Nat)} {n : Nat} (h : HpOk d n) : ∀ i, i < n → beh d[i]! d[0]! = false := fun i => by
  induction i using Nat.strongRecOn with
  | _ i ih =>
    intro hi
    by_cases h0 : i = 0
    · subst h0; exact beh_irr _
    · exact beh_nt (h i (by omega) hi) (ih ((i - 1) / 2) (by omega) (by omega))
theorem push_get {d : Array (Nat × Nat)} {x : Nat × Nat} {i : Nat} (h : i < d.size) : (d.push x)[i]! = d[i]! := by
  rw [getElem!_pos (d.push x) i (by simp; omega), getElem!_pos d i h, Array.getElem_push_lt]
theorem hp_push {d : Array (Nat × Nat)} (h : HpOk d d.size) (x : Nat × Nat) : HpUp (d.push x) (d.size + 1) d.size :=
  ⟨fun i i0 hi e => by rw [push_get (by omega), push_get (by omega)]; exact h i i0 (by omega), fun i i0 hi e1 e2 => by omega⟩
/-- The last one is put on top, and may sink. -/
theorem hp_lower {d : Array (Nat × Nat)} {n : Nat} (h : HpOk d (n + 1)) (hn : n < d.size) : HpDn (swp d 0 n) n 0 := by
  refine ⟨fun i i0 hi e => ?_, fun i i0 hi e1 e2 => by omega⟩
  rw [swp_other d 0 n i (by omega) (by omega), swp_other d 0 n _ (by omega) (by omega)]
  exact h i i0 (by omega)
theorem swp_perm {d : Array (Nat × Nat)} {i j : Nat} (hi : i < d.size) (hj : j < d.size) : (swp d i j).toList.Perm d.toList := by
  have h := (swp_permIn d 0 d.size i j (Nat.zero_le _) hi (Nat.zero_le _) hj (Nat.le_refl _)).2.2
  have e1 : (swp d i j).extract 0 d.size = swp d i j := by rw [← size_swp d i j]; simp
  rw [e1] at h
  simpa using h
end Go.Proofs.Ytjkhdfncahhnoaa
/- Words for memory: a slice that reads as a list; a call's answer in memory of its own; number by number, up to the first error. -/
namespace Go.Proofs.Ytjkhdfncahhnoaa
open Go.RowKit
set_option maxHeartbeats 400000
set_option maxRecDepth 100000
set_option linter.unusedVariables false
theorem info_i64 : (Try.prog.info? 2).map (fun i => (i.zero, i.size, i.bytes)) = some (some (.int .i64 0), 1, 8) := by kernel_rfl
def seqE (num : Nat → Int × Int) : Nat → Int
  | 0 => 0
  | n + 1 => if seqE num n = 0 then (num n).2 else seqE num n
theorem seqE_stays {num : Nat → Int × Int} {k : Nat} (h : seqE num k ≠ 0) : ∀ n, k ≤ n → seqE num n = seqE num k
  | 0, hn => by have : k = 0 := by omega
                subst this; rfl
  | n + 1, hn => by
    by_cases e : k = n + 1
    · rw [e]
    · have := seqE_stays h n (by omega)
      show (if seqE num n = 0 then (num n).2 else seqE num n) = _
      rw [this, if_neg h]
def seqV (num : Nat → Int × Int) (n : Nat) : List Int := if seqE num n = 0 then (List.range n).map fun k => (num k).1 else []
/-- A call's answer: a list of numbers, in memory of the call's own, and an error; nothing that was there has turned. -/
def OwnInts (xs : List Int) (er : Int) (w : World) (e : Ending) (w' : World) : Prop :=
  ∃ A c, e = .returned (.tuple #[.slice A xs.length c, .int .i64 er]) ∧ w'.ownsRow w.heap.size 2 1 (.slice A xs.length c) xs.length (xs.map (Value.int .i64)) ∧ Below w.heap.size w w'
theorem own_made {w w' : World} {n : Nat} {f : Nat → Value} {e : TypeId} {B b : Nat} (h : w.rowIs b e n f) (hB : B ≤ b) (hn : n ≤ maxLen) :
    w.ownsRow B e 1 (.slice (some ⟨b, 0, none⟩) n n) n ((List.range n).map f) := by
  obtain ⟨c, hb, hs, hc⟩ := h
  refine ⟨by simp, .inr ⟨b, n, c, rfl, hB, hb, Nat.le_refl _, hn, by omega, ?_⟩⟩
  apply List.ext_getElem?
  intro i
  by_cases hi : i < n
  · rw [List.getElem?_take_of_lt (by omega), Array.getElem?_toList, hc i hi]
    simp [hi]
  · rw [List.getElem?_eq_none (by simp; omega), List.getElem?_eq_none (by simp; omega)]
theorem own_nil (w : World) (B : Nat) (e : TypeId) : w.ownsRow B e 1 (.slice none 0 0) 0 [] := World.ownsRow_nil w B e 1

/-- A slice at A, whatever its capacity, reads as these things, in blocks below B. -/
def Rd {α : Type} (enc : α → Value) (w : World) (B : Nat) (A : Option Addr) (xs : List α) : Prop :=
  ∀ k x, xs[k]? = some x → ∃ b off, A = some ⟨b, off, none⟩ ∧ b < B ∧ w.cell? ⟨b, off + k, none⟩ = some (enc x)
section
variable {α : Type} {enc : α → Value} {w w' : World} {B B' : Nat} {A : Option Addr} {xs : List α}
theorem Rd.keep (h : Rd enc w B A xs) (hk : ∀ p : Addr, p.block < B → w'.cell? p = w.cell? p) : Rd enc w' B A xs := fun k x hx => by
  obtain ⟨b, off, e, hb, hc⟩ := h k x hx
  exact ⟨b, off, e, hb, (hk _ hb).trans hc⟩
theorem Rd.below (h : Rd enc w B A xs) (hb : Below B w w') : Rd enc w' B A xs := h.keep fun _ hp => hb.cell hp
theorem Rd.more (h : Rd enc w B A xs) (hB : B ≤ B') : Rd enc w B' A xs := fun k x hx => by
  obtain ⟨b, off, e, hb, hc⟩ := h k x hx
  exact ⟨b, off, e, by omega, hc⟩
/-- To a world from which nothing below its own start has turned. -/
theorem Rd.on (h : Rd enc w w.heap.size A xs) (hb : Below w.heap.size w w') : Rd enc w' w'.heap.size A xs := (h.below hb).more hb.size
theorem Rd.drewN (h : Rd enc w B A xs) (n : Nat) : Rd enc (w.drewN n) B A xs := h
theorem Rd.none_ : Rd enc w B A ([] : List α) := fun k x hx => by simp at hx
theorem Rd.at_ (h : Rd enc w B A xs) {k : Nat} (hk : k < xs.length) : ∃ b off x, A = some ⟨b, off, none⟩ ∧ b < B ∧ xs[k]? = some x ∧ w.cell? ⟨b, off + k, none⟩ = some (enc x) := by
  obtain ⟨b, off, e, hb, hc⟩ := h k xs[k] (List.getElem?_eq_getElem hk)
  exact ⟨b, off, xs[k], e, hb, List.getElem?_eq_getElem hk, hc⟩
theorem Rd.of_own {base n c : Nat} {e : TypeId} (h : w.ownsRow base e 1 (.slice A n c) n (xs.map enc)) : Rd enc w w.heap.size A xs := fun k x hx => by
  have hl : xs.length = n := by simpa using h.1
  have hk : k < xs.length := (List.getElem?_eq_some_iff.1 hx).1
  rcases h.2 with ⟨h', h0⟩ | ⟨g, cap, cur, h', _, hg, _⟩
  · omega
  · simp only [Value.slice.injEq] at h'
    obtain ⟨rfl, _, rfl⟩ := h'
    refine ⟨g, 0, rfl, ?_, ?_⟩
    · exact (Array.getElem?_eq_some_iff.1 hg).1
    · rw [Nat.zero_add, h.cellAt k (by omega)]
      simp [hx]
/-- Memory of the call's own: it lies from base on, and below the heap's end. -/
theorem own_rd {base c : Nat} {e : TypeId} (h : w.ownsRow base e 1 (.slice A xs.length c) xs.length (xs.map enc)) : Rd enc w w.heap.size A xs := .of_own h
/-- It stays where only what lies above its world's end turns. -/
theorem own_on {base n c : Nat} {e : TypeId} {vs : List Value} (h : w.ownsRow base e 1 (.slice A n c) n vs) (hb : Below w.heap.size w w') : w'.ownsRow base e 1 (.slice A n c) n vs := by
  refine ⟨h.1, ?_⟩
  rcases h.2 with hn | ⟨g, cap, cur, hv, hg, hh, r⟩
  · exact .inl hn
  · exact .inr ⟨g, cap, cur, hv, hg, (hb.block g (Array.getElem?_eq_some_iff.1 hh).1).trans hh, r⟩
theorem own_lt {base n c g : Nat} {e : TypeId} {vs : List Value} (h : w.ownsRow base e 1 (.slice (some ⟨g, 0, none⟩) n c) n vs) : g < w.heap.size := (h.lt g rfl).2
theorem own_cell {base n c k : Nat} {e : TypeId} {zs : List Int} (h : w.ownsRow base e 1 (.slice A n c) n (zs.map (Value.int .i64))) (hk : k < zs.length) :
    ∃ g, A = some ⟨g, 0, none⟩ ∧ base ≤ g ∧ w.cell? ⟨g, k, none⟩ = some (.int .i64 (zs.getD k 0)) ∧ w.frozen? ⟨g, k, none⟩ = false := by
  have hl : zs.length = n := by simpa using h.1
  have h' := h
  rcases h.2 with ⟨he, h0⟩ | ⟨g, cap, cur, he, hg, _⟩
  · omega
  · simp only [Value.slice.injEq] at he
    obtain ⟨rfl, _, rfl⟩ := he
    refine ⟨g, rfl, hg, ?_, h'.frozenAt k⟩
    rw [h'.cellAt k (by omega)]
    simp [List.getD, hk]
theorem own_base {base base' n c : Nat} {e : TypeId} {vs : List Value} (h : w.ownsRow base e 1 (.slice A n c) n vs) (hb : base' ≤ base) : w.ownsRow base' e 1 (.slice A n c) n vs := by
  refine ⟨h.1, ?_⟩
  rcases h.2 with hn | ⟨g, cap, cur, hv, hg, r⟩
  · exact .inl hn
  · exact .inr ⟨g, cap, cur, hv, by omega, r⟩
end
theorem lt_of_cell {w : World} {p : Addr} {v : Value} (h : w.cell? p = some v) : p.block < w.heap.size := by
  rcases Nat.lt_or_ge p.block w.heap.size with hlt | hge
  · exact hlt
  · rw [World.cell?, Array.getElem?_eq_none hge] at h; cases h
/-- Every one is an int64. -/
def I64s (xs : List Int) : Prop := ∀ x ∈ xs, I64 x
theorem I64s.at_ {xs : List Int} (h : I64s xs) {k : Nat} {x : Int} (hx : xs[k]? = some x) : I64 x := h x (List.mem_of_getElem? hx)
theorem getD_of {xs : List Int} {k : Nat} {x : Int} (hx : xs[k]? = some x) : xs.getD k 0 = x := by simp [List.getD, hx]
/-- Below: what a call leaves as it was, as the walk asks it. -/
theorem bcells {W w1 : World} (hb : Below W.heap.size W w1) : (∀ b o, b < W.heap.size → w1.cell? ⟨b, o, none⟩ = W.cell? ⟨b, o, none⟩) ∧ (∀ b o, b < W.heap.size → w1.frozen? ⟨b, o, none⟩ = W.frozen? ⟨b, o, none⟩) :=
  ⟨fun b o h => hb.cell (p := ⟨b, o, none⟩) h, fun b o h => hb.frozen (p := ⟨b, o, none⟩) h⟩
/-- Numbers added up, up to the first error. -/
def tot (num : Nat → Int × Int) : Nat → Int × Int
  | 0 => (0, 0)
  | n + 1 => if (tot num n).2 = 0 then (if (num n).2 = 0 then (ckV ((tot num n).1 + (num n).1), ckE ((tot num n).1 + (num n).1)) else (0, (num n).2)) else tot num n
theorem tot_stays {num : Nat → Int × Int} {k : Nat} (h : (tot num k).2 ≠ 0) : ∀ n, k ≤ n → tot num n = tot num k
  | 0, hn => by have : k = 0 := by omega
                subst this; rfl
  | n + 1, hn => by
    by_cases e : k = n + 1
    · rw [e]
    · have := tot_stays h n (by omega)
      rw [tot, this, if_neg h]
end Go.Proofs.Ytjkhdfncahhnoaa
/- Words that every layer's walks use: quiet calls, blocks just laid, lists that are the same. -/
namespace Go.Proofs.Ytjkhdfncahhnoaa
open Go.RowKit
set_option maxHeartbeats 400000
set_option maxRecDepth 100000
set_option linter.unusedVariables false
theorem quietL {P : Program} {f : FuncId} {args : Array Value} {w : World} {v : Value} (h : ∀ W : World, Calls P f args W fun e w' => e = .returned v ∧ W = w') (n : Nat) :
    Calls P f args (w.drewN n) fun e w' => e = .returned v ∧ ∃ m, w' = w.drewN m := (h _).mono fun _ _ ⟨he, hm⟩ => ⟨he, n, hm.symm⟩
/-- .. where the contract asks something of the world that draws leave as it is. -/
theorem quietR {P : Program} {f : FuncId} {args : Array Value} {w : World} {v : Value} (h : ∀ n, Calls P f args (w.drewN n) fun e w' => e = .returned v ∧ w.drewN n = w') (n : Nat) :
    Calls P f args (w.drewN n) fun e w' => e = .returned v ∧ ∃ m, w' = w.drewN m := (h n).mono fun _ _ ⟨he, hm⟩ => ⟨he, n, hm.symm⟩
theorem belowN (B : Nat) (w : World) (n : Nat) : Below B w (w.drewN n) := ⟨rfl, rfl, rfl, Nat.le_refl _, fun _ _ => rfl⟩
theorem below_step {B : Nat} {w W w1 : World} (h0 : Below B w W) (h1 : Below W.heap.size W w1) (hB : B ≤ w.heap.size) : Below B w w1 := h0.trans (h1.mono (Nat.le_trans hB h0.size))
theorem two_cells (w : World) (u v : Value) (t s : TypeId) :
    ((w.alloc (.cells #[u] t)).alloc (.cells #[v] s)).cell? ⟨w.heap.size, 0, none⟩ = some u ∧ ((w.alloc (.cells #[u] t)).alloc (.cells #[v] s)).cell? ⟨w.heap.size + 1, 0, none⟩ = some v ∧
      Below w.heap.size w ((w.alloc (.cells #[u] t)).alloc (.cells #[v] s)) := by
  refine ⟨?_, ?_, by go_grown⟩ <;> simp [go_sem]
theorem one_cell (w : World) (u : Value) (t : TypeId) : (w.alloc (.cells #[u] t)).cell? ⟨w.heap.size, 0, none⟩ = some u ∧ Below w.heap.size w (w.alloc (.cells #[u] t)) := by
  refine ⟨?_, by go_grown⟩; simp [go_sem]
/-- Are they the same? -/
def eqB (xs ys : List Int) : Bool := decide (xs = ys)
theorem take_step {xs ys : List Int} {k : Nat} {x y : Int} (h : xs.take k = ys.take k) (hx : xs[k]? = some x) (hy : ys[k]? = some y) (e : x = y) : xs.take (k + 1) = ys.take (k + 1) := by
  rw [List.take_add_one, List.take_add_one, h, hx, hy, e]
theorem eqB_no {xs ys : List Int} {k : Nat} {x y : Int} (hx : xs[k]? = some x) (hy : ys[k]? = some y) (e : x ≠ y) : eqB xs ys = false := by
  unfold eqB
  rw [decide_eq_false_iff_not]
  rintro rfl
  rw [hx] at hy
  exact e (Option.some.inj hy)
theorem eqB_yes {xs ys : List Int} {k : Nat} (h : xs.take k = ys.take k) (hx : k = xs.length) (hl : xs.length = ys.length) : eqB xs ys = true := by
  unfold eqB
  rw [List.take_of_length_le (by omega), List.take_of_length_le (by omega)] at h
  simpa using h
theorem eqB_len {xs ys : List Int} (h : xs.length ≠ ys.length) : eqB xs ys = false := by
  unfold eqB
  rw [decide_eq_false_iff_not]
  rintro rfl
  exact h rfl
theorem eqB_self (xs : List Int) : eqB xs xs = true := by unfold eqB; simp
theorem eqB_of {xs ys : List Int} (h : xs = ys) : eqB xs ys = true := by subst h; exact eqB_self xs
theorem rd_block {α : Type} {enc : α → Value} {w : World} {b : Nat} {t : TypeId} (xs : List α) (fr : Nat × Nat) (h : w.heap[b]? = some (.cells (xs.map enc).toArray t fr)) : Rd enc w w.heap.size (some ⟨b, 0, none⟩) xs := fun k x hx => by
  refine ⟨b, 0, rfl, (Array.getElem?_eq_some_iff.1 h).1, ?_⟩
  have hk := (List.getElem?_eq_some_iff.1 hx)
  rw [Nat.zero_add, cell_of_row w b k _ t fr h]
  simp [hx]
theorem rd_new {α : Type} {enc : α → Value} (w : World) (t : TypeId) (xs : List α) : Rd enc (w.alloc (.cells (xs.map enc).toArray t)) (w.alloc (.cells (xs.map enc).toArray t)).heap.size (some ⟨w.heap.size, 0, none⟩) xs := rd_block xs (0, 0) (heap_alloc_new w _)
/-- A list just laid, in memory of the call's own. -/
theorem own_new {α : Type} {enc : α → Value} (w : World) (t : TypeId) (xs : List α) (hm : xs.length ≤ maxLen) {B : Nat} (hB : B ≤ w.heap.size) :
    (w.alloc (.cells (xs.map enc).toArray t)).ownsRow B t 1 (.slice (some ⟨w.heap.size, 0, none⟩) xs.length xs.length) xs.length (xs.map enc) := by
  have := World.ownsRow_lit (base := B) (e := t) (size := 1) w (xs.map enc).toArray xs.length hB hm (by simp)
  simpa using this
/-- What the call's own list's room is. -/
theorem own_cap {w : World} {base n c : Nat} {e : TypeId} {A : Option Addr} {vs : List Value} (h : w.ownsRow base e 1 (.slice A n c) n vs) : n ≤ c ∧ c ≤ 9223372036854775807 := by
  rcases h.2 with ⟨he, h0⟩ | ⟨g, cap, cur, he, _, _, h1, h2, _⟩
  · simp only [Value.slice.injEq] at he
    omega
  · simp only [Value.slice.injEq] at he
    unfold maxLen at h2
    omega
theorem own_cellk {w : World} {q : IntKind} {A : Option Addr} {base n c k : Nat} {e : TypeId} {zs : List Int} (h : w.ownsRow base e 1 (.slice A n c) n (zs.map (Value.int q))) (hk : k < zs.length) :
    ∃ g, A = some ⟨g, 0, none⟩ ∧ base ≤ g ∧ w.cell? ⟨g, k, none⟩ = some (.int q (zs.getD k 0)) ∧ w.frozen? ⟨g, k, none⟩ = false := by
  have hl : zs.length = n := by simpa using h.1
  have h' := h
  rcases h.2 with ⟨he, h0⟩ | ⟨g, cap, cur, he, hg, _⟩
  · omega
  · simp only [Value.slice.injEq] at he
    obtain ⟨rfl, _, rfl⟩ := he
    refine ⟨g, rfl, hg, ?_, h'.frozenAt k⟩
    rw [h'.cellAt k (by omega)]
    simp [List.getD, hk]
/-- Room made ahead. -/
theorem run_room {P : Program} (t e : TypeId) (z : Value) (bytes : Nat) (ht : P.underlying t = some (.slice e)) (hinfo : (P.info? e).map (fun i => (i.zero, i.size, i.bytes)) = some (some z, 1, bytes)) (hz1 : z.cells = #[z])
    (c : Nat) (hbytes : bytes * c ≤ 281474976710656) (h63 : c ≤ 9223372036854775807) (w : World) :
    (Instr.makeSlice t (.int .i64 0) (.int .i64 (c : Int))).run P w = .ok (.slice (some ⟨w.heap.size, 0, none⟩) 0 c) (w.alloc (.cells (madeCells #[z] c) e)) := by
  obtain ⟨i, hi, hzz⟩ := Option.map_eq_some_iff.1 hinfo
  simp only [Prod.mk.injEq] at hzz
  obtain ⟨hz, hs, hb⟩ := hzz
  have h : ((i.bytes * c : Nat) : Int) ≤ 281474976710656 := by rw [hb]; omega
  have hr := run_make (P := P) w t e i z ht hi hz .i64 .i64 0 c (Int.le_refl _) (by omega) (by rwa [Int.natCast_mul] at h) (by omega)
  simp only [Int.toNat_natCast, hs, Nat.mul_one, hz1, Int.toNat_zero] at hr
  exact hr
theorem own_room (w : World) (t : TypeId) (z : Value) (c : Nat) (hc : c ≤ maxLen) {B : Nat} (hB : B ≤ w.heap.size) :
    (w.alloc (.cells (madeCells #[z] c) t)).ownsRow B t 1 (.slice (some ⟨w.heap.size, 0, none⟩) 0 c) 0 [] :=
  World.ownsRow_made w _ c hB hc (by rw [size_madeCells, Nat.mul_one])
/-- Where what is left of a slice lies. -/
def cutA (A : Option Addr) (k c : Nat) : Option Addr := if c = k then A else A.map (·.add k)
theorem run_from {P : Program} (t : TypeId) (ht : P.underlying t = some (.slice (P.elem t))) (hs : ∀ w, (sizeOf (P.elem t)).run P w = .ok 1 w) (A : Option Addr) (len c k : Nat) (hk : k ≤ len) (hc : len ≤ c) (w : World) :
    (Instr.slice t (.slice A len c) (some (.int .i64 (k : Int))) none none).run P w = .ok (.slice (cutA A k c) (len - k) (c - k)) w := by
  rw [run_slice_l w t A len c ht .i64 (k : Int) (by omega) (by omega)]
  simp [hs, sliced, cutA, Result.andThen]
theorem run_upto {P : Program} (t : TypeId) (ht : P.underlying t = some (.slice (P.elem t))) (hs : ∀ w, (sizeOf (P.elem t)).run P w = .ok 1 w) (A : Option Addr) (len c k : Nat) (hk : k ≤ c) (w : World) :
    (Instr.slice t (.slice A len c) none (some (.int .i64 (k : Int))) none).run P w = .ok (.slice (cutA A 0 c) k c) w := by
  rw [run_slice_h w t A len c ht .i64 (k : Int) (by omega) (by omega)]
  simp [hs, sliced, cutA, Result.andThen]
theorem run_part {P : Program} (t : TypeId) (ht : P.underlying t = some (.slice (P.elem t))) (hs : ∀ w, (sizeOf (P.elem t)).run P w = .ok 1 w) (A : Option Addr) (len c k j : Nat) (hk : k ≤ j) (hj : j ≤ c) (w : World) :
    (Instr.slice t (.slice A len c) (some (.int .i64 (k : Int))) (some (.int .i64 (j : Int))) none).run P w = .ok (.slice (cutA A k c) (j - k) (c - k)) w := by
  rw [run_slice_lh w t A len c ht .i64 .i64 (k : Int) (j : Int) (by omega) (by omega) (by omega)]
  simp [hs, sliced, cutA, Result.andThen]
theorem Rd.cut {α : Type} {enc : α → Value} {w : World} {B : Nat} {A : Option Addr} {xs : List α} {c : Nat} (h : Rd enc w B A xs) (k : Nat) (hc : xs.length ≤ c) : Rd enc w B (cutA A k c) (xs.drop k) := fun j x hx => by
  unfold cutA
  by_cases e : c = k
  · rw [List.drop_eq_nil_of_le (by omega)] at hx
    simp at hx
  · rw [if_neg e]
    rw [List.getElem?_drop] at hx
    obtain ⟨b, off, rfl, hb, hc⟩ := h (k + j) x hx
    refine ⟨b, off + k, by simp [Go.WideShapes.add_plain], hb, ?_⟩
    rw [Nat.add_assoc]
    exact hc
theorem Rd.some_cut {α : Type} {enc : α → Value} {w : World} {B : Nat} {A : Option Addr} {xs : List α} (h : Rd enc w B A xs) (k : Nat) : Rd enc w B A (xs.take k) := fun j x hx => h j x (by
  rw [List.getElem?_take] at hx
  split at hx
  · exact hx
  · simp at hx)
theorem Rd.cut0 {α : Type} {enc : α → Value} {w : World} {B : Nat} {A : Option Addr} {xs : List α} {c : Nat} (h : Rd enc w B A xs) (hc : xs.length ≤ c) (k : Nat) : Rd enc w B (cutA A 0 c) (xs.take k) := by
  have := (h.cut 0 hc).some_cut k
  rwa [List.drop_zero] at this
/-- A text of bytes as a string. -/
theorem run_bytes {P : Program} {src e dst : TypeId} (hs : P.underlying src = some (.slice e)) (he : P.underlying e = some (.int .u8)) (hd : P.underlying dst = some .string) {w : World} {A : Option Addr} {B c : Nat} {xs : List Int} (h : Rd (Value.int .u8) w B A xs) :
    (convert src dst (.slice A xs.length c)).run P w = .ok (.string (strOfNums xs)) w := by
  cases A with
  | none =>
    have hx : xs = [] := by
      cases xs with
      | nil => rfl
      | cons x xs =>
        obtain ⟨_, _, he, _⟩ := h 0 x rfl
        cases he
    subst hx
    exact run_convert_bytes_nil w src e hs he _ _ dst hd
  | some a =>
    cases xs with
    | nil =>
      obtain ⟨b, off, spot⟩ := a
      rw [run_convert_bytes_string w src dst e _ _ c hs he hd, run_bytesToString w _ _ c [] (by simp [loadCells, loadCellsFrom])]
      rfl
    | cons x xs =>
      obtain ⟨b, off, ha, _, _⟩ := h 0 x rfl
      injection ha with ha
      subst ha
      exact run_convert_bytes_arg w src e hs he b off _ c (x :: xs) rfl (fun i hi => by
        obtain ⟨b', off', y, ha, _, hy, hc⟩ := h.at_ hi
        injection ha with ha
        injection ha with h1 h2 h3
        subst h1 h2
        rw [hc]
        simp [List.getD, hy]) dst hd
theorem str_eq {xs ys : List Int} (hx : ∀ x ∈ xs, 0 ≤ x ∧ x ≤ 255) (hy : ∀ y ∈ ys, 0 ≤ y ∧ y ≤ 255) : ((strOfNums xs).toList == (strOfNums ys).toList) = eqB xs ys := by
  have key : ∀ xs ys : List Int, (∀ x ∈ xs, 0 ≤ x ∧ x ≤ 255) → (∀ y ∈ ys, 0 ≤ y ∧ y ≤ 255) → (xs.map fun n => UInt8.ofNat n.toNat) = (ys.map fun n => UInt8.ofNat n.toNat) → xs = ys := by
    intro xs
    induction xs with
    | nil => intro ys _ _ h; cases ys with
      | nil => rfl
      | cons y ys => simp at h
    | cons x xs ih => intro ys hx hy h; cases ys with
      | nil => simp at h
      | cons y ys =>
        rw [List.map_cons, List.map_cons, List.cons.injEq] at h
        have h1 := hx x (by simp)
        have h2 := hy y (by simp)
        have e : x = y := by
          have := congrArg UInt8.toNat h.1
          simp only [UInt8.toNat_ofNat'] at this
          omega
        rw [e, ih ys (fun z hz => hx z (by simp [hz])) (fun z hz => hy z (by simp [hz])) h.2]
  have e1 : ∀ xs, (strOfNums xs).toList = xs.map fun n => UInt8.ofNat n.toNat := fun xs => by
    rw [← strOfNums_data]; exact ByteArray.toList_eq _
  rw [e1, e1]
  unfold eqB
  by_cases h : xs = ys
  · subst h; simp
  · rw [show decide (xs = ys) = false by simpa using h]
    rw [beq_eq_false_iff_ne]
    intro h'
    exact h (key xs ys hx hy h')
end Go.Proofs.Ytjkhdfncahhnoaa
/- Entries held against each other; the library's Compare and Or. -/
namespace Go.Proofs.Ytjkhdfncahhnoaa
open Go.RowKit
set_option maxHeartbeats 400000
set_option maxRecDepth 100000
set_option linter.unusedVariables false
def cmpI (x y : Int) : Int := if x < y then -1 else if x > y then 1 else 0
def orI (a b : Int) : Int := if a ≠ 0 then a else b
/-- Below 0, if the first is ahead of the second. -/
def cfE (x y : Nat × Nat) : Int := orI (cmpI y.2 x.2) (cmpI x.1 y.1)
theorem cfE_pos {x y : Nat × Nat} : (cfE x y > 0) ↔ beh x y = true := by
  rw [beh_iff]
  unfold cfE orI cmpI
  constructor
  · intro h
    split at h <;> split at h <;> (try split at h) <;> (try split at h) <;> omega
  · intro h
    split <;> split <;> (try split) <;> (try split) <;> omega
theorem cfE_neg {x y : Nat × Nat} : (cfE x y < 0) ↔ beh y x = true := by
  rw [beh_iff]
  unfold cfE orI cmpI
  constructor
  · intro h
    split at h <;> split at h <;> (try split at h) <;> (try split at h) <;> omega
  · intro h
    split <;> split <;> (try split) <;> (try split) <;> omega
theorem hp_CmpI (x y : Int) (w : World) : Calls Try.prog 58 #[.int .i64 x, .int .i64 y] w fun e w' => e = .returned (.int .i64 (cmpI x y)) ∧ w = w' := by
  by_cases h1 : x < y
  · have e : cmpI x y = -1 := if_pos h1
    rw [e]
    clear e
    go_enter Try.func58, Try.ntmps58
    go_wp2
    go_ret
    exact ⟨rfl, rfl⟩
  · by_cases h2 : x > y
    · have e : cmpI x y = 1 := by unfold cmpI; rw [if_neg h1, if_pos h2]
      rw [e]
      clear e
      go_enter Try.func58, Try.ntmps58
      go_wp2
      go_ret
      exact ⟨rfl, rfl⟩
    · have e : cmpI x y = 0 := by unfold cmpI; rw [if_neg h1, if_neg h2]
      rw [e]
      clear e
      go_enter Try.func58, Try.ntmps58
      go_wp2
      go_ret
      exact ⟨rfl, rfl⟩
theorem hp_CmpU (x y : Int) (w : World) : Calls Try.prog 57 #[.int .u64 x, .int .u64 y] w fun e w' => e = .returned (.int .i64 (cmpI x y)) ∧ w = w' := by
  by_cases h1 : x < y
  · have e : cmpI x y = -1 := if_pos h1
    rw [e]
    clear e
    go_enter Try.func57, Try.ntmps57
    go_wp2
    go_ret
    exact ⟨rfl, rfl⟩
  · by_cases h2 : x > y
    · have e : cmpI x y = 1 := by unfold cmpI; rw [if_neg h1, if_pos h2]
      rw [e]
      clear e
      go_enter Try.func57, Try.ntmps57
      go_wp2
      go_ret
      exact ⟨rfl, rfl⟩
    · have e : cmpI x y = 0 := by unfold cmpI; rw [if_neg h1, if_neg h2]
      rw [e]
      clear e
      go_enter Try.func57, Try.ntmps57
      go_wp2
      go_ret
      exact ⟨rfl, rfl⟩
theorem hp_Or (a b : Int) (g : Nat) (c : Nat) (w : World) (h0 : w.cell? ⟨g, 0, none⟩ = some (.int .i64 a)) (h1 : w.cell? ⟨g, 1, none⟩ = some (.int .i64 b)) :
    Calls Try.prog 56 #[.slice (some ⟨g, 0, none⟩) 2 c] w fun e w' => e = .returned (.int .i64 (orI a b)) ∧ w = w' := by
  have HR : Hid ((a ≠ 0 → orI a b = a) ∧ (a = 0 → orI a b = b)) := hid ⟨fun h => if_pos h, fun h => if_neg (by omega)⟩
  obtain ⟨R, hR⟩ : ∃ R, orI a b = R := ⟨_, rfl⟩
  rw [hR] at HR ⊢
  clear hR
  go_enter Try.func56, Try.ntmps56
  go_wp2_with fail
  go_loop [5, 8] (fun x5 i => ∃ q : Nat, q ≤ 2 ∧ i = .int .i64 q ∧ (1 ≤ q → a = 0) ∧ (q = 2 → b = 0)) (fun _ i => 2 - (intOf i).toNat)
  case atStart => exact ⟨0, by omega, rfl, by omega, by omega⟩
  case round =>
    obtain ⟨q, hq, rfl, ha, hb⟩ := hrel
    obtain hq | hq | hq : q = 0 ∨ q = 1 ∨ q = 2 := by omega
    · subst hq
      by_cases hz : a = 0
      · have e : (a != 0) = false := by simp [hz]
        go_wp2_with fail
        go_round
        case rel => exact ⟨1, by omega, by go_num, fun _ => hz, by omega⟩
        case measure => simp [intOf]
      · have e : (a != 0) = true := by simp [hz]
        go_wp2_with fail
        go_ret
        exact ⟨by rw [HR.out.1 hz]; (first | done | rfl), rfl⟩
    · subst hq
      have ha := ha (by omega)
      by_cases hz : b = 0
      · have e : (b != 0) = false := by simp [hz]
        go_wp2_with fail
        go_round
        case rel => exact ⟨2, by omega, by go_num, fun _ => ha, fun _ => hz⟩
        case measure => simp [intOf]
      · have e : (b != 0) = true := by simp [hz]
        have HA := hid ha
        clear ha
        go_wp2_with fail
        go_ret
        exact ⟨by rw [HR.out.2 HA.out]; (first | done | rfl), rfl⟩
    · subst hq
      have HA := hid (ha (by omega))
      have HB := hid (hb (by omega))
      clear ha hb
      go_wp2_with fail
      go_ret
      exact ⟨by rw [HR.out.2 HA.out, HB.out]; (first | done | rfl), rfl⟩
theorem tc_0 {W : World} {u v : Value} {t : TypeId} {n : Nat} (h : n = W.heap.size) : (W.alloc (.cells #[u, v] t)).cell? ⟨n, 0, none⟩ = some u := by
  subst h
  simp
theorem tc_1 {W : World} {u v : Value} {t : TypeId} {n : Nat} (h : n = W.heap.size) : (W.alloc (.cells #[u, v] t)).cell? ⟨n, 1, none⟩ = some v := by
  subst h
  simp
set_option maxHeartbeats 4000000 in
theorem hp_against (x y : Nat × Nat) (w : World) : Calls Try.prog 36 #[.agg #[.int .i64 (x.1 : Int), .int .u64 (x.2 : Int)], .agg #[.int .i64 (y.1 : Int), .int .u64 (y.2 : Int)]] w fun e w' => e = .returned (.int .i64 (cfE x y)) ∧ ∃ q os, w' = Go.Sort.grow (w.drewN q) os := by
  have C1 := hid (fun W => (hp_CmpU (y.2 : Int) (x.2 : Int) W).mono fun _ _ h => And.intro h.1 h.2.symm)
  have C2 := hid (fun W => (hp_CmpI (x.1 : Int) (y.1 : Int) W).mono fun _ _ h => And.intro h.1 h.2.symm)
  unfold cfE
  obtain ⟨a, ha⟩ : ∃ a, cmpI (y.2 : Int) (x.2 : Int) = a := ⟨_, rfl⟩
  obtain ⟨b, hb⟩ : ∃ b, cmpI (x.1 : Int) (y.1 : Int) = b := ⟨_, rfl⟩
  rw [ha] at C1 ⊢
  rw [hb] at C2 ⊢
  clear ha hb
  have C3 := hid (fun (W : World) (t : TypeId) (n c : Nat) (h : n = W.heap.size) => hp_Or a b n c _ (tc_0 (W := W) (u := .int .i64 a) (v := .int .i64 b) (t := t) h) (tc_1 (W := W) (u := .int .i64 a) (v := .int .i64 b) (t := t) h))
  obtain ⟨r, hr⟩ : ∃ r, orI a b = r := ⟨_, rfl⟩
  rw [hr] at C3 ⊢
  clear hr
  go_enter Try.func36, Try.ntmps36
  go_wp2_with fail
  obtain ⟨w2, hw2⟩ : ∃ w2, ((w.alloc (.cells #[.int .i64 (x.1 : Int), .int .u64 (x.2 : Int)] 61)).alloc (.cells #[.int .i64 (y.1 : Int), .int .u64 (y.2 : Int)] 61)) = w2 := ⟨_, rfl⟩
  have a0 : w2.cell? ⟨w.heap.size, 0, none⟩ = some (.int .i64 (x.1 : Int)) := by rw [← hw2]; simp
  have a1 : w2.cell? ⟨w.heap.size, 1, none⟩ = some (.int .u64 (x.2 : Int)) := by rw [← hw2]; simp
  have b0 : w2.cell? ⟨w.heap.size + 1, 0, none⟩ = some (.int .i64 (y.1 : Int)) := by rw [← hw2]; simp
  have b1 : w2.cell? ⟨w.heap.size + 1, 1, none⟩ = some (.int .u64 (y.2 : Int)) := by rw [← hw2]; simp
  rw [hw2]
  have HW := hid hw2
  clear hw2
  go_still_tail 10, (by kernel_rfl)
  repeat (first | still_call (C1.out _) | still_call (C2.out _) | still_step)
  refine wpStill_nil ?_
  change wpList _ _ _ _ _ w2.drew
  generalize hw3 : w2.drew = w3
  have HW3 := hid hw3
  clear hw3
  go_wp2_with fail
  refine (C3.out _ _ _ _ rfl).mono ?_
  rintro _ _ ⟨rfl, rfl⟩
  go_wp2_with fail
  go_ret
  exact ⟨rfl, 1, _, by rw [← HW3.out, ← HW.out, Go.Sort.alloc_eq_grow w, Go.Sort.alloc_eq_grow (Go.Sort.grow w _), Go.Sort.grow_grow, Go.Sort.drew_grow, Go.Sort.alloc_eq_grow, Go.Sort.grow_grow]; rfl⟩
end Go.Proofs.Ytjkhdfncahhnoaa
/- 'append' onto a list of the call's own, whatever list is appended: the walk goes on in one way. -/
namespace Go.Proofs.Ytjkhdfncahhnoaa
open Go.RowKit
set_option maxRecDepth 100000
set_option linter.unusedVariables false
section
variable {P : Program} {α : Type}
theorem app_nothing (w : World) (base : Nat) (t ty e : TypeId) (i : TypeInfo) (ht : P.underlying t = some (.slice e)) (hi : P.info? e = some i)
    (v : Value) (n : Nat) (vs : List Value) (hown : w.ownsRow base e 1 v n vs) (c : Nat) : (Builtin.append_ #[t, t] ty #[v, .slice none 0 c]).run P w = .ok v w := by
  rcases hown.2 with ⟨rfl, rfl⟩ | ⟨g, cap, cur, rfl, _, _, hnc, _⟩
  · simp [Builtin.append_, run_underlying ht, sizeOf, typeInfo, hi, Builtin.lenOf, Builtin.firstCells]
  · simp [Builtin.append_, run_underlying ht, sizeOf, typeInfo, hi, Builtin.lenOf, Builtin.firstCells, hnc, storeCells]
/-- The value of a list of the call's own. -/
theorem own_shape {w : World} {base n : Nat} {e : TypeId} {v : Value} {vs : List Value} (h : w.ownsRow base e 1 v n vs) : ∃ A c, v = .slice A n c := by
  rcases h.2 with ⟨rfl, rfl⟩ | ⟨g, cap, cur, rfl, _⟩
  · exact ⟨_, _, rfl⟩
  · exact ⟨_, _, rfl⟩
theorem run_app (enc : α → Value) (h1 : ∀ x, (enc x).oneCell' = true) (w : World) (base : Nat) (t ty e : TypeId) (z : Value) (bytes : Nat) (ht : P.underlying t = some (.slice e))
    (hinfo : (P.info? e).map (fun i => (i.zero, i.size, i.bytes)) = some (some z, 1, bytes)) (hzs : z.cells.size = 1)
    (ys : List α) (A0 : Option Addr) (c0 : Nat) (hown : w.ownsRow base e 1 (.slice A0 ys.length c0) ys.length (ys.map enc))
    (xs : List α) (A : Option Addr) (c B : Nat) (hr : Rd enc w B A xs) (h63 : ys.length + xs.length ≤ maxLen) (hbytes : (ys.length + xs.length) * bytes ≤ 140737488355328) (hbase : base ≤ w.heap.size) :
    ∃ A' c' w', (Builtin.append_ #[t, t] ty #[.slice A0 ys.length c0, .slice A xs.length c]).run P w = .ok (.slice A' (ys ++ xs).length c') w' ∧ w'.ownsRow base e 1 (.slice A' (ys ++ xs).length c') (ys ++ xs).length ((ys ++ xs).map enc) ∧
      Below base w w' ∧ w.grownBy w' (Value.slice A0 ys.length c0).ownBlock ∧ ((Value.slice A' (ys ++ xs).length c').ownBlock = (Value.slice A0 ys.length c0).ownBlock ∨ (Value.slice A' (ys ++ xs).length c').ownBlock = some w.heap.size) := by
  obtain ⟨i, hi, hzz⟩ := Option.map_eq_some_iff.1 hinfo
  simp only [Prod.mk.injEq] at hzz
  obtain ⟨hz, hs, hb⟩ := hzz
  have hlen : (ys ++ xs).length = ys.length + xs.length := List.length_append
  rcases A with _ | ad
  · have hx : xs = [] := by
      cases xs with
      | nil => rfl
      | cons x xs =>
        obtain ⟨_, _, he, _⟩ := hr 0 x rfl
        cases he
    subst hx
    rw [List.append_nil]
    exact ⟨A0, c0, w, app_nothing w base t ty e i ht hi _ _ _ hown c, hown, Below.refl _ _, World.grownBy.refl w _, .inl rfl⟩
  · have hcells : ∀ j u, (xs.map enc)[j]? = some u → w.cell? (ad.add j) = some u := by
      intro j u hu
      rw [List.getElem?_map, Option.map_eq_some_iff] at hu
      obtain ⟨x, hx, rfl⟩ := hu
      obtain ⟨b, off, he, _, hc⟩ := hr j x hx
      injection he with he
      subst he
      rw [Addr.add_lit]
      exact hc
    obtain ⟨v', w', hrun, h2, h3, _, h5⟩ := run_append_own_at (P := P) w base t ty e i z 1 bytes ht hi hz hs hb hzs (by decide) _ ys.length (ys.map enc) hown ad xs.length c (xs.map enc) (by simp) hcells (by
      intro u hu
      obtain ⟨x, _, rfl⟩ := List.mem_map.1 hu
      exact h1 x) h63 hbytes hbase
    obtain ⟨A', c', rfl⟩ := own_shape h2
    rw [← List.map_append] at h2
    rw [← hlen] at h2 hrun h5
    refine ⟨A', c', w', hrun, h2, (Below.refl base w).grown h3 hbase fun k hk => (hown.lt k hk).1, h3, h5⟩
theorem wpList_app (enc : α → Value) (h1 : ∀ x, (enc x).oneCell' = true) (w : World) {ops : Array Oper} {rest : List Oper} {o : Oper} {a : Act} {Q : Exit → Act → World → Prop} (hgd : o.guard = none) (s x : Operand) (t : TypeId)
    (ho : o.op = .call { callee := .builtin .append, args := #[s, x], argTypes := #[t, t] })
    (base : Nat) (e : TypeId) (z : Value) (bytes : Nat) (ht : P.underlying t = some (.slice e)) (hinfo : (P.info? e).map (fun i => (i.zero, i.size, i.bytes)) = some (some z, 1, bytes)) (hzs : z.cells.size = 1)
    (ys : List α) (A0 : Option Addr) (c0 : Nat) (hs : a.eval s = .slice A0 ys.length c0) (hown : w.ownsRow base e 1 (.slice A0 ys.length c0) ys.length (ys.map enc))
    (xs : List α) (A : Option Addr) (c B : Nat) (hx : a.eval x = .slice A xs.length c) (hr : Rd enc w B A xs) (h63 : ys.length + xs.length ≤ maxLen) (hbytes : (ys.length + xs.length) * bytes ≤ 140737488355328) (hbase : base ≤ w.heap.size)
    (h : ∀ (S : List α) (A' : Option Addr) (c' : Nat) (w' : World), S = ys ++ xs → w'.ownsRow base e 1 (.slice A' S.length c') S.length (S.map enc) → Below base w w' → w.grownBy w' (Value.slice A0 ys.length c0).ownBlock → wpList P ops Q rest (a.put o.dst (.slice A' S.length c')) w') :
    wpList P ops Q (o :: rest) a w := by
  refine wpList_plain hgd fun _ hK => ?_
  obtain ⟨A', c', w', hrun, h2, h3, h4, _⟩ := run_app (P := P) enc h1 w base t o.type e z bytes ht hinfo hzs ys A0 c0 hown xs A c B hr h63 hbytes hbase
  unfold Oper.wp execOp
  simp only [ho, resolve, invoke, builtin, Sem.run_bind, Sem.run_pure, Result.andThen_ok, List.map_toArray, List.map_cons, List.map_nil, hs, hx, hrun]
  exact hK _ _ (h _ A' c' w' rfl h2 h3 h4)
/-- .. where the operation hangs on a test that holds. -/
theorem wpList_app_if (enc : α → Value) (h1 : ∀ x, (enc x).oneCell' = true) (w : World) {ops : Array Oper} {rest : List Oper} {o : Oper} {a : Act} {Q : Exit → Act → World → Prop} (hgd : Region.wanted o (yielded ops a.tmps) = true) (s x : Operand) (t : TypeId)
    (ho : o.op = .call { callee := .builtin .append, args := #[s, x], argTypes := #[t, t] })
    (base : Nat) (e : TypeId) (z : Value) (bytes : Nat) (ht : P.underlying t = some (.slice e)) (hinfo : (P.info? e).map (fun i => (i.zero, i.size, i.bytes)) = some (some z, 1, bytes)) (hzs : z.cells.size = 1)
    (ys : List α) (A0 : Option Addr) (c0 : Nat) (hs : a.eval s = .slice A0 ys.length c0) (hown : w.ownsRow base e 1 (.slice A0 ys.length c0) ys.length (ys.map enc))
    (xs : List α) (A : Option Addr) (c B : Nat) (hx : a.eval x = .slice A xs.length c) (hr : Rd enc w B A xs) (h63 : ys.length + xs.length ≤ maxLen) (hbytes : (ys.length + xs.length) * bytes ≤ 140737488355328) (hbase : base ≤ w.heap.size)
    (h : ∀ (S : List α) (A' : Option Addr) (c' : Nat) (w' : World), S = ys ++ xs → w'.ownsRow base e 1 (.slice A' S.length c') S.length (S.map enc) → Below base w w' → w.grownBy w' (Value.slice A0 ys.length c0).ownBlock → wpList P ops Q rest (a.put o.dst (.slice A' S.length c')) w') :
    wpList P ops Q (o :: rest) a w := by
  refine wpList_step fun K hK => ?_
  rw [if_pos hgd]
  obtain ⟨A', c', w', hrun, h2, h3, h4, _⟩ := run_app (P := P) enc h1 w base t o.type e z bytes ht hinfo hzs ys A0 c0 hown xs A c B hr h63 hbytes hbase
  unfold Oper.wp execOp
  simp only [ho, resolve, invoke, builtin, Sem.run_bind, Sem.run_pure, Result.andThen_ok, List.map_toArray, List.map_cons, List.map_nil, hs, hx, hrun]
  exact hK _ _ (h _ A' c' w' rfl h2 h3 h4)
/-- One thing appended: it lies in a cell of its own. -/
theorem rd_one {enc : α → Value} {w : World} {b o : Nat} {x : α} (hc : w.cell? ⟨b, o, none⟩ = some (enc x)) : Rd enc w w.heap.size (some ⟨b, o, none⟩) [x] := fun k y hy => by
  cases k with
  | zero =>
    simp only [List.getElem?_cons_zero, Option.some.injEq] at hy
    subst hy
    exact ⟨b, o, rfl, lt_of_cell hc, hc⟩
  | succ k => simp at hy
end
end Go.Proofs.Ytjkhdfncahhnoaa
/- Entries in a row of memory: what is loaded, exchanged. -/
namespace Go.Proofs.Ytjkhdfncahhnoaa
open Go.RowKit
set_option maxHeartbeats 400000
set_option maxRecDepth 100000
set_option linter.unusedVariables false
/-- Entries as the cells of a row. -/
def flE (d : Array (Nat × Nat)) : List Value := (List.range (d.size * 2)).map fun t => if t % 2 = 0 then .int .i64 ((d[t / 2]!).1 : Int) else .int .u64 ((d[t / 2]!).2 : Int)
theorem flE_len (d : Array (Nat × Nat)) : (flE d).length = d.size * 2 := by unfold flE; simp
theorem flE_at {d : Array (Nat × Nat)} {t : Nat} (h : t < d.size * 2) : (flE d)[t]? = some (if t % 2 = 0 then .int .i64 ((d[t / 2]!).1 : Int) else .int .u64 ((d[t / 2]!).2 : Int)) := by unfold flE; simp [h]
theorem flE_0 {d : Array (Nat × Nat)} {i : Nat} (h : i < d.size) : (flE d)[i * 2]? = some (.int .i64 ((d[i]!).1 : Int)) := by
  rw [flE_at (by omega), if_pos (by omega), show i * 2 / 2 = i by omega]
theorem flE_1 {d : Array (Nat × Nat)} {i : Nat} (h : i < d.size) : (flE d)[i * 2 + 1]? = some (.int .u64 ((d[i]!).2 : Int)) := by
  rw [flE_at (by omega), if_neg (by omega), show (i * 2 + 1) / 2 = i by omega]
theorem flE_push (d : Array (Nat × Nat)) (x : Nat × Nat) : flE (d.push x) = flE d ++ [.int .i64 (x.1 : Int), .int .u64 (x.2 : Int)] := by
  refine List.ext_getElem? fun t => ?_
  by_cases h : t < d.size * 2
  · rw [List.getElem?_append_left (by rw [flE_len]; exact h), flE_at (by simp; omega), flE_at h, push_get (by omega)]
  · rw [List.getElem?_append_right (by rw [flE_len]; omega), flE_len]
    have e : (d.push x)[d.size]! = x := by rw [getElem!_pos _ _ (by simp)]; simp
    by_cases h0 : t = d.size * 2
    · subst h0
      rw [flE_0 (by simp), e]
      simp
    · by_cases h1 : t = d.size * 2 + 1
      · subst h1
        rw [flE_1 (by simp), e]
        simp
      · rw [List.getElem?_eq_none (by rw [flE_len]; simp; omega), List.getElem?_eq_none (by simp; omega)]
/-- A row of entries in memory of the call's own. -/
def RwE (w : World) (B g cap : Nat) (d : Array (Nat × Nat)) : Prop := w.ownsRow B 61 2 (.slice (some ⟨g, 0, none⟩) d.size cap) d.size (flE d)
theorem RwE.parts {w : World} {B g cap : Nat} {d : Array (Nat × Nat)} (h : RwE w B g cap d) : ∃ cur, B ≤ g ∧ w.heap[g]? = some (.cells cur 61 (0, 0)) ∧ d.size ≤ cap ∧ cap ≤ maxLen ∧ cur.size = cap * 2 ∧ cur.toList.take (d.size * 2) = flE d := by
  rcases h.2 with ⟨h', _⟩ | ⟨g', cap', cur, h', h1, h2, h3, h4, h5, h6⟩
  · simp at h'
  · simp only [Value.slice.injEq, Option.some.injEq, Addr.mk.injEq, and_true, true_and] at h'
    obtain ⟨rfl, rfl⟩ := h'
    exact ⟨cur, h1, h2, h3, h4, h5, h6⟩
theorem RwE.of {w : World} {B g cap : Nat} {d : Array (Nat × Nat)} {cur : Array Value} (h1 : B ≤ g) (h2 : w.heap[g]? = some (.cells cur 61 (0, 0))) (h3 : d.size ≤ cap) (h4 : cap ≤ maxLen) (h5 : cur.size = cap * 2) (h6 : ∀ t, t < d.size * 2 → cur[t]? = (flE d)[t]?) : RwE w B g cap d := by
  refine ⟨flE_len d, .inr ⟨g, cap, cur, rfl, h1, h2, h3, h4, h5, ?_⟩⟩
  refine List.ext_getElem? fun t => ?_
  by_cases h : t < d.size * 2
  · rw [List.getElem?_take_of_lt h, Array.getElem?_toList, h6 t h]
  · rw [List.getElem?_eq_none (by simp; omega), List.getElem?_eq_none (by rw [flE_len]; omega)]
theorem RwE.c0 {w : World} {B g cap : Nat} {d : Array (Nat × Nat)} (h : RwE w B g cap d) {i : Nat} (hi : i < d.size) : w.cell? ⟨g, i * 2, none⟩ = some (.int .i64 ((d[i]!).1 : Int)) := by
  rw [h.cellAt (i * 2) (by omega), flE_0 hi]
theorem RwE.c1 {w : World} {B g cap : Nat} {d : Array (Nat × Nat)} (h : RwE w B g cap d) {i : Nat} (hi : i < d.size) : w.cell? ⟨g, i * 2 + 1, none⟩ = some (.int .u64 ((d[i]!).2 : Int)) := by
  rw [h.cellAt (i * 2 + 1) (by omega), flE_1 hi]
theorem RwE.lt {w : World} {B g cap : Nat} {d : Array (Nat × Nat)} (h : RwE w B g cap d) : g < w.heap.size := by
  obtain ⟨cur, _, h2, _⟩ := h.parts
  exact (Array.getElem?_eq_some_iff.1 h2).1
theorem RwE.keep {w w' : World} {B g cap : Nat} {d : Array (Nat × Nat)} (h : RwE w B g cap d) (hk : w'.heap[g]? = w.heap[g]?) : RwE w' B g cap d := by
  obtain ⟨cur, h1, h2, h3, h4, h5, h6⟩ := h.parts
  exact ⟨h.1, .inr ⟨g, cap, cur, rfl, h1, hk.trans h2, h3, h4, h5, h6⟩⟩
theorem RwE.on {w w' : World} {B g cap : Nat} {d : Array (Nat × Nat)} (h : RwE w B g cap d) (hb : Below w.heap.size w w') : RwE w' B g cap d := h.keep (hb.block g h.lt)
theorem heap_set {w : World} {g off : Nat} {v : Value} {cur : Array Value} {e : TypeId} {fr : Nat × Nat} (h : w.heap[g]? = some (.cells cur e fr)) : (w.setCell ⟨g, off, none⟩ v).heap[g]? = some (.cells (cur.setIfInBounds off v) e fr) := by
  rw [Go.Sort.setCell_eq]
  simp [Go.Sort.mapBlock, Array.getElem?_modify, h, Go.Sort.onCells]
/-- Two entries change places. -/
theorem RwE.swap {w : World} {B g cap : Nat} {d : Array (Nat × Nat)} (h : RwE w B g cap d) {i j : Nat} (hi : i < d.size) (hj : j < d.size) {a b a' b' : Value} (ha : a = .int .i64 ((d[j]!).1 : Int)) (hb : b = .int .u64 ((d[j]!).2 : Int)) (ha' : a' = .int .i64 ((d[i]!).1 : Int)) (hb' : b' = .int .u64 ((d[i]!).2 : Int)) :
    RwE ((((w.setCell ⟨g, i * 2, none⟩ a).setCell ⟨g, i * 2 + 1, none⟩ b).setCell ⟨g, j * 2, none⟩ a').setCell ⟨g, j * 2 + 1, none⟩ b') B g cap (Go.Sort.swp d i j) := by
  obtain ⟨cur, h1, h2, h3, h4, h5, h6⟩ := h.parts
  refine RwE.of h1 (heap_set (heap_set (heap_set (heap_set h2)))) (by rw [Go.Sort.size_swp]; exact h3) h4 (by simpa using h5) fun t ht => ?_
  rw [Go.Sort.size_swp] at ht
  rw [flE_at (by rw [Go.Sort.size_swp]; exact ht), Go.Sort.swp_get d hi hj]
  have hc : cur[t]? = some (if t % 2 = 0 then .int .i64 ((d[t / 2]!).1 : Int) else .int .u64 ((d[t / 2]!).2 : Int)) := by
    have := congrArg (fun l => l[t]?) h6
    simp only [List.getElem?_take_of_lt ht, Array.getElem?_toList, flE_at ht] at this
    exact this
  have hs : t < cur.size := (Array.getElem?_eq_some_iff.1 hc).1
  subst ha hb ha' hb'
  simp only [Array.getElem?_setIfInBounds, Array.size_setIfInBounds]
  by_cases e1 : j * 2 + 1 = t
  · rw [if_pos e1, if_pos (by omega), if_neg (by omega), if_pos (by omega)]
  · rw [if_neg e1]
    by_cases e2 : j * 2 = t
    · rw [if_pos e2, if_pos (by omega), if_pos (by omega), if_pos (by omega)]
    · rw [if_neg e2, if_neg (show ¬ t / 2 = j by omega)]
      by_cases e3 : i * 2 + 1 = t
      · rw [if_pos e3, if_pos (by omega), if_neg (by omega), if_pos (by omega)]
      · rw [if_neg e3]
        by_cases e4 : i * 2 = t
        · rw [if_pos e4, if_pos (by omega), if_pos (by omega), if_pos (by omega)]
        · rw [if_neg e4, if_neg (show ¬ t / 2 = i by omega), hc]
/-- Of the blocks that were there these two alone may have turned. -/
structure Otr (x y : Nat) (w w' : World) : Prop where
  os : w'.os = w.os
  tape : w'.tape = w.tape
  output : w'.output = w.output
  size : w.heap.size ≤ w'.heap.size
  block : ∀ k, k < w.heap.size → k ≠ x → k ≠ y → w'.heap[k]? = w.heap[k]?
theorem Otr.refl (x y : Nat) (w : World) : Otr x y w w := ⟨rfl, rfl, rfl, Nat.le_refl _, fun _ _ _ _ => rfl⟩
theorem Otr.trans {x y : Nat} {a b c : World} (h : Otr x y a b) (k : Otr x y b c) : Otr x y a c :=
  ⟨k.os.trans h.os, k.tape.trans h.tape, k.output.trans h.output, Nat.le_trans h.size k.size, fun i hi h1 h2 => (k.block i (Nat.lt_of_lt_of_le hi h.size) h1 h2).trans (h.block i hi h1 h2)⟩
theorem Otr.wide {x y x' y' : Nat} {w w' : World} (h : Otr x y w w') (hx : x = x' ∨ x = y') (hy : y = x' ∨ y = y') : Otr x' y' w w' :=
  ⟨h.os, h.tape, h.output, h.size, fun k hk h1 h2 => h.block k hk (by rcases hx with e | e <;> omega) (by rcases hy with e | e <;> omega)⟩
theorem Otr.of_below {x y : Nat} {w w' : World} (h : Below w.heap.size w w') : Otr x y w w' := ⟨h.os, h.tape, h.output, h.size, fun k hk _ _ => h.block k hk⟩
theorem Otr.below {x y B : Nat} {w w' : World} (h : Otr x y w w') (hx : B ≤ x) (hy : B ≤ y) (hB : B ≤ w.heap.size) : Below B w w' := ⟨h.os, h.tape, h.output, h.size, fun k hk => h.block k (by omega) (by omega) (by omega)⟩
theorem Otr.drew {x y : Nat} {a w : World} (h : Otr x y a w) : Otr x y a w.drew := ⟨h.os, h.tape, h.output, h.size, h.block⟩
theorem Otr.set {x y : Nat} {a w : World} (h : Otr x y a w) {p : Addr} (hp : p.block = x ∨ p.block = y) (u : Value) : Otr x y a (w.setCell p u) :=
  ⟨h.os, h.tape, h.output, by simpa [World.setCell] using h.size, fun k hk h1 h2 => by rw [Below.heap_setCell _ _ _ _ (by rcases hp with e | e <;> omega)]; exact h.block k hk h1 h2⟩
theorem grow_below (w : World) (q : Nat) (os : Array Obj) : Below w.heap.size w (Go.Sort.grow (w.drewN q) os) := by
  refine ⟨rfl, rfl, rfl, ?_, fun k hk => ?_⟩
  · show w.heap.size ≤ (w.heap ++ os).size
    simp
  · show (w.heap ++ os)[k]? = _
    rw [Array.getElem?_append_left hk]
theorem hp_Len {A : Option Addr} {n c : Nat} (w : World) : Calls Try.prog 50 #[.slice A n c] w fun e w' => e = .returned (.int .i64 n) ∧ w = w' := by
  go_enter Try.func50, Try.ntmps50
  go_wp2
  go_ret
  exact ⟨rfl, rfl⟩
theorem cell_set {w : World} {p q : Addr} {x v : Value} (h : w.cell? q = some v) : ∃ v', (w.setCell p x).cell? q = some v' := by
  by_cases e : p = q
  · subst e; exact ⟨x, World.cell?_setCell_same w p x h⟩
  · exact ⟨v, (World.cell?_setCell_other w p q x e).trans h⟩
theorem hp_Swap {B g cap : Nat} (d : Array (Nat × Nat)) (i j : Nat) (hi : i < d.size) (hj : j < d.size) (w : World) (h : RwE w B g cap d) :
    Calls Try.prog 116 #[.slice (some ⟨g, 0, none⟩) d.size cap, .int .i64 i, .int .i64 j] w fun e w' => e = .returned (.tuple #[]) ∧ RwE w' B g cap (Go.Sort.swp d i j) ∧ Otr g g w w' := by
  have f := fun k => World.ownsRow.frozenAt h k
  have c0 := h.c0 hi
  have c1 := h.c1 hi
  have d0 := h.c0 hj
  have d1 := h.c1 hj
  have hl : i < d.size := hi
  have HX := hid (d0)
  have HY := hid (d1)
  obtain ⟨a, ha⟩ : ∃ a : Int, ((d[i]!).1 : Int) = a := ⟨_, rfl⟩
  obtain ⟨b, hb⟩ : ∃ b : Int, ((d[i]!).2 : Int) = b := ⟨_, rfl⟩
  obtain ⟨c, hc⟩ : ∃ c : Int, ((d[j]!).1 : Int) = c := ⟨_, rfl⟩
  obtain ⟨e, he⟩ : ∃ e : Int, ((d[j]!).2 : Int) = e := ⟨_, rfl⟩
  have HSW := hid (fun W (h : RwE W B g cap d) => h.swap (a := .int .i64 c) (b := .int .u64 e) (a' := .int .i64 a) (b' := .int .u64 b) hi hj (by rw [hc]) (by rw [he]) (by rw [ha]) (by rw [hb]))
  rw [ha] at c0
  rw [hb] at c1
  rw [hc] at d0
  rw [he] at d1
  clear ha hb hc he
  obtain ⟨v1, hv1⟩ := cell_set (p := ⟨g, i * 2, none⟩) (x := .int .i64 c) d0
  obtain ⟨v2, hv2⟩ := cell_set (p := ⟨g, i * 2 + 1, none⟩) (x := .int .u64 e) d1
  obtain ⟨v0, hv0⟩ := cell_set (p := ⟨g, i * 2, none⟩) (x := .int .i64 c) d1
  obtain ⟨v3, hv3⟩ := cell_set (p := ⟨g, i * 2 + 1, none⟩) (x := .int .u64 e) hv0
  have H := hid h
  clear h
  go_enter Try.func116, Try.ntmps116
  go_wp2_with fail
  go_region
  go_wp2_with fail
  go_end0
  refine ⟨rfl, HSW.out w H.out, ?_⟩
  exact ((((Otr.refl g g w).set (.inl rfl) _).set (.inl rfl) _).set (.inl rfl) _).set (.inl rfl) _ |>.drew
theorem hp_Less {B g cap : Nat} (d : Array (Nat × Nat)) (i j : Nat) (hi : i < d.size) (hj : j < d.size) (w : World) (h : RwE w B g cap d) :
    Calls Try.prog 115 #[.slice (some ⟨g, 0, none⟩) d.size cap, .int .i64 i, .int .i64 j] w fun e w' => e = .returned (.bool (beh d[i]! d[j]!)) ∧ Below w.heap.size w w' := by
  have c0 := fun n os => Go.cell_grown (a := ⟨g, i * 2, none⟩) h.lt (h.c0 hi) n os
  have c1 := fun n os => Go.cell_grown (a := ⟨g, i * 2 + 1, none⟩) h.lt (h.c1 hi) n os
  have d0 := fun n os => Go.cell_grown (a := ⟨g, j * 2, none⟩) h.lt (h.c0 hj) n os
  have d1 := fun n os => Go.cell_grown (a := ⟨g, j * 2 + 1, none⟩) h.lt (h.c1 hj) n os
  clear h
  obtain ⟨N, hN⟩ : ∃ N, d.size = N := ⟨_, rfl⟩
  rw [hN] at hi hj ⊢
  obtain ⟨⟨x1, x2⟩, hx⟩ : ∃ x, d[i]! = x := ⟨_, rfl⟩
  obtain ⟨⟨y1, y2⟩, hy⟩ : ∃ y, d[j]! = y := ⟨_, rfl⟩
  rw [hx] at c0 c1 ⊢
  rw [hy] at d0 d1 ⊢
  clear hx hy hN d
  have C := hid (fun W => hp_against (x1, x2) (y1, y2) W)
  have HR : Hid (beh (x1, x2) (y1, y2) = decide (cfE (x1, x2) (y1, y2) > 0)) := hid (by
    by_cases hb : beh (x1, x2) (y1, y2) = true
    · rw [hb, decide_eq_true (cfE_pos.2 hb)]
    · rw [Bool.eq_false_iff.2 hb, decide_eq_false (fun hc => hb (cfE_pos.1 hc))])
  obtain ⟨R, hR⟩ : ∃ R, beh (x1, x2) (y1, y2) = R := ⟨_, rfl⟩
  obtain ⟨r, hr⟩ : ∃ r, cfE (x1, x2) (y1, y2) = r := ⟨_, rfl⟩
  rw [hR, hr] at HR
  rw [hr] at C
  rw [hR]
  clear hR hr
  have mx : Try.prog.follows .mixedOrders = true := by kernel_rfl
  go_enter Try.func115, Try.ntmps115
  go_wp2_with fail
  go_quiet_grown (first | (go_at_call 36; (with_reducible refine Calls.grown_of (C.out _))))
  go_wp2_with fail
  go_ret
  refine ⟨by rw [HR.out]; rfl, grow_below _ _ _⟩
end Go.Proofs.Ytjkhdfncahhnoaa
/- A step of a region that draws: an append onto a list of the call's own. -/
namespace Go.Proofs.Ytjkhdfncahhnoaa
open Go.RowKit
set_option maxHeartbeats 400000
set_option maxRecDepth 100000
set_option linter.unusedVariables false
theorem step_app {P : Program} {α : Type} (enc : α → Value) (h1 : ∀ x, (enc x).oneCell' = true) {w : World} {ops : Array Oper} {o : Oper} {a : Act} {K : Act → World → Prop} {Q : Exit → Act → World → Prop} {E : Prop} (hgd : o.guard = none) (s x : Operand) (t : TypeId)
    (ho : o.op = .call { callee := .builtin .append, args := #[s, x], argTypes := #[t, t] })
    (base : Nat) (e : TypeId) (z : Value) (bytes : Nat) (ht : P.underlying t = some (.slice e)) (hinfo : (P.info? e).map (fun i => (i.zero, i.size, i.bytes)) = some (some z, 1, bytes)) (hzs : z.cells.size = 1)
    (ys : List α) (A0 : Option Addr) (c0 : Nat) (hs : a.eval s = .slice A0 ys.length c0) (hown : w.ownsRow base e 1 (.slice A0 ys.length c0) ys.length (ys.map enc))
    (xs : List α) (A : Option Addr) (c B : Nat) (hx : a.eval x = .slice A xs.length c) (hr : Rd enc w B A xs) (h63 : ys.length + xs.length ≤ maxLen) (hbytes : (ys.length + xs.length) * bytes ≤ 140737488355328) (hbase : base ≤ w.heap.size)
    (h : ∀ (S : List α) (A' : Option Addr) (c' : Nat) (w' : World), S = ys ++ xs → w'.ownsRow base e 1 (.slice A' S.length c') S.length (S.map enc) → Below base w w' → w.grownBy w' (Value.slice A0 ys.length c0).ownBlock → K (a.put o.dst (.slice A' S.length c')) w') :
    if Region.wanted o (yielded ops a.tmps) = true then Oper.wp P o a w K Q else E := by
  have hw : Region.wanted o (yielded ops a.tmps) = true := by simp [Region.wanted, hgd]
  rw [if_pos hw]
  obtain ⟨A', c', w', hrun, h2, h3, h4, _⟩ := run_app (P := P) enc h1 w base t o.type e z bytes ht hinfo hzs ys A0 c0 hown xs A c B hr h63 hbytes hbase
  unfold Oper.wp execOp
  simp only [ho, resolve, invoke, builtin, Sem.run_bind, Sem.run_pure, Result.andThen_ok, List.map_toArray, List.map_cons, List.map_nil, hs, hx, hrun]
  exact h _ A' c' w' rfl h2 h3 h4
theorem own_far {w w' : World} {base n : Nat} {e : TypeId} {v : Value} {vs : List Value} {row : Option Nat} (h : w.ownsRow base e 1 v n vs) (hg : w.grownBy w' row) (hr : ∀ k, row = some k → k < base) : w'.ownsRow base e 1 v n vs := by
  refine ⟨h.1, ?_⟩
  rcases h.2 with hn | ⟨g, cap, cur, hv, hg2, hh, r⟩
  · exact .inl hn
  · exact .inr ⟨g, cap, cur, hv, hg2, (hg.block g (Array.getElem?_eq_some_iff.1 hh).1 (by intro e; have := hr g e.symm; omega)).trans hh, r⟩
end Go.Proofs.Ytjkhdfncahhnoaa
/- One more entry is laid behind the others, the last one is taken off: the pile's own methods. -/
namespace Go.Proofs.Ytjkhdfncahhnoaa
open Go.RowKit
set_option maxHeartbeats 400000
set_option maxRecDepth 100000
set_option linter.unusedVariables false
theorem info_ent : (Try.prog.info? 61).map (fun i => (i.zero, i.size, i.bytes)) = some (some (.agg #[.int .i64 0, .int .u64 0]), 2, 16) := by kernel_rfl
theorem run_appE (w : World) (ty : TypeId) {B g cap : Nat} {d : Array (Nat × Nat)} (hr : RwE w B g cap d) (m c : Nat) (x : Nat × Nat) (h0 : w.cell? ⟨m, 0, none⟩ = some (.int .i64 (x.1 : Int))) (h1 : w.cell? ⟨m, 1, none⟩ = some (.int .u64 (x.2 : Int)))
    (hl : d.size < 100000) (hB : B ≤ w.heap.size) :
    ∃ g' cap' w', (Builtin.append_ #[56, 56] ty #[.slice (some ⟨g, 0, none⟩) d.size cap, .slice (some ⟨m, 0, none⟩) 1 c]).run Try.prog w = .ok (.slice (some ⟨g', 0, none⟩) (d.push x).size cap') w' ∧ RwE w' B g' cap' (d.push x) ∧ Otr g g w w' ∧ (g' = g ∨ g' = w.heap.size) := by
  obtain ⟨i, hi, hzz⟩ := Option.map_eq_some_iff.1 info_ent
  simp only [Prod.mk.injEq] at hzz
  obtain ⟨hz, hs, hb⟩ := hzz
  obtain ⟨v', w', hrun, h2, h3, _, h5⟩ := run_append_own_at (P := Try.prog) w B 56 ty 61 i _ 2 16 rfl hi hz hs hb rfl (by decide) _ d.size (flE d) hr ⟨m, 0, none⟩ 1 c [.int .i64 (x.1 : Int), .int .u64 (x.2 : Int)] rfl (by
    intro j u hu
    match j, hu with
    | 0, hu => simp only [List.getElem?_cons_zero, Option.some.injEq] at hu; subst hu; simpa [Addr.add] using h0
    | 1, hu => simp at hu; subst hu; simpa [Addr.add] using h1
    | j + 2, hu => simp at hu) (by
    intro u hu
    simp at hu
    rcases hu with rfl | rfl <;> rfl) (by simp [maxLen]; omega) (by omega) hB
  have hsz : (d.push x).size = d.size + 1 := by simp
  rw [← flE_push] at h2
  rcases h2.2 with ⟨_, h0⟩ | ⟨g', cap', cur, rfl, _⟩
  · omega
  · refine ⟨g', cap', w', by rw [hsz]; exact hrun, by unfold RwE; rw [hsz]; exact h2, ⟨h3.os, h3.tape, h3.output, h3.size, fun k hk h1 _ => h3.block k hk (by simp [Value.ownBlock]; exact h1)⟩, ?_⟩
    simpa [Value.ownBlock] using h5
theorem wpList_appE (w : World) {ops : Array Oper} {rest : List Oper} {o : Oper} {a : Act} {Q : Exit → Act → World → Prop} (hgd : o.guard = none) (s x : Operand)
    (ho : o.op = .call { callee := .builtin .append, args := #[s, x], argTypes := #[56, 56] })
    {B g cap : Nat} {d : Array (Nat × Nat)} (hs : a.eval s = .slice (some ⟨g, 0, none⟩) d.size cap) (hr : RwE w B g cap d) (m c : Nat) (hx : a.eval x = .slice (some ⟨m, 0, none⟩) 1 c) (y : Nat × Nat) (h0 : w.cell? ⟨m, 0, none⟩ = some (.int .i64 (y.1 : Int))) (h1 : w.cell? ⟨m, 1, none⟩ = some (.int .u64 (y.2 : Int)))
    (hl : d.size < 100000) (hB : B ≤ w.heap.size)
    (h : ∀ g' cap' w', RwE w' B g' cap' (d.push y) → Otr g g w w' → (g' = g ∨ g' = w.heap.size) → wpList Try.prog ops Q rest (a.put o.dst (.slice (some ⟨g', 0, none⟩) (d.push y).size cap')) w') : wpList Try.prog ops Q (o :: rest) a w := by
  refine wpList_plain hgd fun _ hK => ?_
  obtain ⟨g', cap', w', hrun, h2, h3, h4⟩ := run_appE w o.type hr m c y h0 h1 hl hB
  unfold Oper.wp execOp
  simp only [ho, resolve, invoke, builtin, Sem.run_bind, Sem.run_pure, Result.andThen_ok, List.map_toArray, List.map_cons, List.map_nil, hs, hx, hrun]
  exact hK _ _ (h g' cap' w' h2 h3 h4)
theorem step_appE {w : World} {ops : Array Oper} {o : Oper} {a : Act} {K : Act → World → Prop} {Q : Exit → Act → World → Prop} {E : Prop} (hgd : o.guard = none) (s x : Operand)
    (ho : o.op = .call { callee := .builtin .append, args := #[s, x], argTypes := #[56, 56] })
    {B g cap : Nat} {d : Array (Nat × Nat)} (hs : a.eval s = .slice (some ⟨g, 0, none⟩) d.size cap) (hr : RwE w B g cap d) (m c : Nat) (hx : a.eval x = .slice (some ⟨m, 0, none⟩) 1 c) (y : Nat × Nat) (h0 : w.cell? ⟨m, 0, none⟩ = some (.int .i64 (y.1 : Int))) (h1 : w.cell? ⟨m, 1, none⟩ = some (.int .u64 (y.2 : Int)))
    (hl : d.size < 100000) (hB : B ≤ w.heap.size)
    (h : ∀ g' cap' w', RwE w' B g' cap' (d.push y) → Otr g g w w' → (g' = g ∨ g' = w.heap.size) → K (a.put o.dst (.slice (some ⟨g', 0, none⟩) (d.push y).size cap')) w') :
    if Region.wanted o (yielded ops a.tmps) = true then Oper.wp Try.prog o a w K Q else E := by
  have hw : Region.wanted o (yielded ops a.tmps) = true := by simp [Region.wanted, hgd]
  rw [if_pos hw]
  obtain ⟨g', cap', w', hrun, h2, h3, h4⟩ := run_appE w o.type hr m c y h0 h1 hl hB
  unfold Oper.wp execOp
  simp only [ho, resolve, invoke, builtin, Sem.run_bind, Sem.run_pure, Result.andThen_ok, List.map_toArray, List.map_cons, List.map_nil, hs, hx, hrun]
  exact h g' cap' w' h2 h3 h4
/-- A box that holds a row of entries. -/
def PileAt (w : World) (B bp g cap : Nat) (d : Array (Nat × Nat)) : Prop :=
  w.cell? ⟨bp, 0, none⟩ = some (.slice (some ⟨g, 0, none⟩) d.size cap) ∧ w.frozen? ⟨bp, 0, none⟩ = false ∧ RwE w B g cap d ∧ bp ≠ g
theorem PileAt.lt {w : World} {B bp g cap : Nat} {d : Array (Nat × Nat)} (h : PileAt w B bp g cap d) : bp < w.heap.size := lt_of_cell h.1
theorem cell_blk {w w' : World} {b o : Nat} (h : w'.heap[b]? = w.heap[b]?) : w'.cell? ⟨b, o, none⟩ = w.cell? ⟨b, o, none⟩ := World.cell?_of_block (a := ⟨b, o, none⟩) h
theorem froz_blk {w w' : World} {b o : Nat} (h : w'.heap[b]? = w.heap[b]?) : w'.frozen? ⟨b, o, none⟩ = w.frozen? ⟨b, o, none⟩ := World.frozen?_of_block (a := ⟨b, o, none⟩) h
theorem PileAt.keep {w w' : World} {B bp g cap : Nat} {d : Array (Nat × Nat)} (h : PileAt w B bp g cap d) (h1 : w'.heap[bp]? = w.heap[bp]?) (h2 : w'.heap[g]? = w.heap[g]?) : PileAt w' B bp g cap d :=
  ⟨(cell_blk h1).trans h.1, (froz_blk h1).trans h.2.1, h.2.2.1.keep h2, h.2.2.2⟩
theorem PileAt.on {w w' : World} {B bp g cap : Nat} {d : Array (Nat × Nat)} (h : PileAt w B bp g cap d) (hb : Below w.heap.size w w') : PileAt w' B bp g cap d := h.keep (hb.block bp h.lt) (hb.block g h.2.2.1.lt)
set_option maxHeartbeats 1000000 in
theorem hp_PushM {B bp g cap : Nat} (d : Array (Nat × Nat)) (x1 x2 : Nat) (hl : d.size < 100000) (w : World) (h : PileAt w B bp g cap d) (hB : B ≤ w.heap.size) :
    Calls Try.prog 118 #[.pointer (some ⟨bp, 0, none⟩), .iface 61 (.agg #[.int .i64 (x1 : Int), .int .u64 (x2 : Int)])] w fun e w' => e = .returned (.tuple #[]) ∧ ∃ g' cap', PileAt w' B bp g' cap' (d.push (x1, x2)) ∧ Otr bp g w w' ∧ (g' = g ∨ w.heap.size ≤ g') := by
  have hta : ∀ w : World, (Instr.typeAssert (.iface 61 (.agg #[.int .i64 (x1 : Int), .int .u64 (x2 : Int)])) 20 61 false).run Try.prog w = .ok (.agg #[.int .i64 (x1 : Int), .int .u64 (x2 : Int)]) w := fun _ => by kernel_rfl
  obtain ⟨b0, f0, hr, hne⟩ := h
  have HR := hid hr
  have hlt := lt_of_cell b0
  have hgt := hr.lt
  clear hr
  have ba : (w.alloc (.cells #[.int .i64 (x1 : Int), .int .u64 (x2 : Int)] 61)).cell? ⟨bp, 0, none⟩ = some (.slice (some ⟨g, 0, none⟩) d.size cap) := (((Below.refl _ w).alloc (Nat.le_refl _) _).cell (p := ⟨bp, 0, none⟩) hlt).trans b0
  have HB0 := hid b0
  have HF0 := hid f0
  go_enter Try.func118, Try.ntmps118
  go_wp2_with fail
  go_region_law (first | (refine step_appE rfl _ _ rfl rfl (HR.out.on (by first | exact ((Below.refl _ w).drew).alloc (Nat.le_refl _) _ | exact ((Below.refl _ w).alloc (Nat.le_refl _) _).drew | fail)) w.heap.size _ rfl (x1, x2) (by first | (simp; done) | (show (w.alloc _).cell? _ = _; simp; done) | fail) (by first | (simp; done) | (show (w.alloc _).cell? _ = _; simp; done) | fail) hl (by simp; omega) ?_; rintro g' cap' w4 hr4 ho4 hg4; have HR4 := hid hr4; have HO4 : Hid (Otr bp g w w4) := hid (by first | exact ((Otr.of_below ((((Below.refl _ w).drew).alloc (Nat.le_refl _) _))).trans (ho4.wide (.inr rfl) (.inr rfl))) | exact ((Otr.of_below ((((Below.refl _ w).alloc (Nat.le_refl _) _).drew))).trans (ho4.wide (.inr rfl) (.inr rfl))) | fail); have HG4 : Hid (g' = g ∨ w.heap.size ≤ g') := hid (by simp at hg4; omega); have HK : Hid (w4.heap[bp]? = w.heap[bp]?) := hid (by first | exact (ho4.block bp (by simp; omega) hne hne).trans (((Below.refl w.heap.size w).alloc (Nat.le_refl _) _).block bp hlt) | fail); have b4 := (cell_blk (o := 0) HK.out).trans HB0.out; have f4 := (froz_blk (o := 0) HK.out).trans HF0.out; clear hr4 ho4 hg4) | fail)
  all_goals (
    go_wp2_with fail
    go_end0
    have hne' : g' ≠ bp := by have := HG4.out; omega
    refine ⟨rfl, g', cap', ⟨?_, ?_, ?_, hne'.symm⟩, ?_, HG4.out⟩
    · rw [Array.size_push]; exact World.cell?_setCell_same' _ _ _ (by rw [b4]; rfl)
    · rw [World.frozen?_setCell]; exact f4
    · exact HR4.out.keep (Below.heap_setCell _ _ _ _ hne')
    · exact HO4.out.set (.inl rfl) _)
end Go.Proofs.Ytjkhdfncahhnoaa
/- The last entry is taken off; the methods behind an interface. -/
namespace Go.Proofs.Ytjkhdfncahhnoaa
open Go.RowKit
set_option maxHeartbeats 400000
set_option maxRecDepth 100000
set_option linter.unusedVariables false
theorem run_cutE {g n cap k : Nat} (hk : k ≤ cap) (h0 : 0 < cap) (w : World) : (Instr.slice 56 (.slice (some ⟨g, 0, none⟩) n cap) none (some (.int .i64 (k : Int))) none).run Try.prog w = .ok (.slice (some ⟨g, 0, none⟩) k cap) w := by
  have hs : ∀ w, (sizeOf (Try.prog.elem 56)).run Try.prog w = .ok 2 w := fun _ => by kernel_rfl
  rw [run_slice_h w 56 _ n cap (by kernel_rfl) .i64 (k : Int) (by omega) (by omega)]
  have : ¬ cap = 0 := by omega
  simp [hs, sliced, Result.andThen, this, Addr.add]
theorem pop_get {d : Array (Nat × Nat)} {i : Nat} (h : i < d.size - 1) : d.pop[i]! = d[i]! := by
  rw [getElem!_pos d.pop i (by simp; omega), getElem!_pos d i (by omega), Array.getElem_pop]
theorem RwE.pop {w : World} {B g cap : Nat} {d : Array (Nat × Nat)} (h : RwE w B g cap d) : RwE w B g cap d.pop := by
  obtain ⟨cur, h1, h2, h3, h4, h5, h6⟩ := h.parts
  refine RwE.of h1 h2 (by simp; omega) h4 h5 fun t ht => ?_
  have ht2 : t < d.size * 2 := by simp at ht; omega
  have hc := congrArg (fun l => l[t]?) h6
  simp only [List.getElem?_take_of_lt ht2, Array.getElem?_toList, flE_at ht2] at hc
  rw [hc, flE_at ht, pop_get (by simp at ht; omega)]
theorem RwE.cap {w : World} {B g cap : Nat} {d : Array (Nat × Nat)} (h : RwE w B g cap d) : d.size ≤ cap ∧ cap ≤ maxLen := by
  obtain ⟨cur, h1, h2, h3, h4, h5, h6⟩ := h.parts
  exact ⟨h3, h4⟩
set_option maxHeartbeats 1000000 in
theorem hp_PopM {B bp g cap n : Nat} (d : Array (Nat × Nat)) (hn : d.size = n + 1) (w : World) (h : PileAt w B bp g cap d) :
    Calls Try.prog 117 #[.pointer (some ⟨bp, 0, none⟩)] w fun e w' => e = .returned (.iface 61 (.agg #[.int .i64 ((d[n]!).1 : Int), .int .u64 ((d[n]!).2 : Int)])) ∧ PileAt w' B bp g cap d.pop ∧ Otr bp g w w' := by
  have hlt := h.lt
  obtain ⟨b0, f0, hr, hne⟩ := h
  have HR := hid hr
  have hgt := hr.lt
  have hcap := hr.cap.1
  have hcm := hr.cap.2
  have c0 := hr.c0 (i := n) (by omega)
  have c1 := hr.c1 (i := n) (by omega)
  have hpop : d.pop.size = n := by simp; omega
  obtain ⟨x1, hx1⟩ : ∃ x : Int, ((d[n]!).1 : Int) = x := ⟨_, rfl⟩
  obtain ⟨x2, hx2⟩ : ∃ x : Int, ((d[n]!).2 : Int) = x := ⟨_, rfl⟩
  rw [hx1] at c0 ⊢
  rw [hx2] at c1 ⊢
  rw [hn] at b0 hcap
  have hsl := fun W => run_cutE (g := g) (n := n + 1) (cap := cap) (k := n) (by omega) (by omega) W
  have hn5 : n + 1 ≤ 9223372036854775807 := by unfold maxLen at hcm; omega
  have HPOP := hid hpop
  clear hr hx1 hx2 hn hpop hcm
  have e1 : IntKind.i64.wrap (((n + 1 : Nat) : Int) - 1) = (n : Int) := by rw [IntKind.wrap_i64]; omega
  go_enter Try.func117, Try.ntmps117
  go_wp2_with fail
  go_ret
  have hs : (w.setCell ⟨bp, 0, none⟩ (.slice (some ⟨g, 0, none⟩) n cap)).heap.size = w.heap.size := by simp [World.setCell]
  have k1 : Below w.heap.size (w.setCell ⟨bp, 0, none⟩ (.slice (some ⟨g, 0, none⟩) n cap)) ((w.setCell ⟨bp, 0, none⟩ (.slice (some ⟨g, 0, none⟩) n cap)).alloc (.cells #[.int .i64 x1, .int .u64 x2] 61)) := (Below.refl _ _).alloc (by omega) _
  refine ⟨rfl, PileAt.keep ⟨?_, ?_, ?_, hne⟩ (k1.block bp hlt) (k1.block g hgt), ((Otr.refl bp g w).set (.inl rfl) _).trans (Otr.of_below (by rw [hs]; exact k1))⟩
  · rw [HPOP.out]; exact World.cell?_setCell_same' _ _ _ (by rw [b0]; rfl)
  · rw [World.frozen?_setCell]; exact f0
  · exact (HR.out.keep (Below.heap_setCell _ _ _ _ hne.symm)).pop
theorem run_loadP (w : World) {b : Nat} {A : Option Addr} {n c : Nat} (h : w.cell? ⟨b, 0, none⟩ = some (.slice A n c)) : (loadVar 56 ⟨b, 0, none⟩).run Try.prog w = .ok (.slice A n c) w := by
  simp [loadVar, h, go_sem]
theorem hp_meth {nm : String} {f : FuncId} (hf : ((Try.prog.info? 73).bind fun i => (i.methods.find? (·.name == nm)).map fun m => (m.path.toList, m.func)) = some ([], some (f, false))) (k : Nat) (w : World) {b : Nat} {A : Option Addr} {n c : Nat} (h : w.cell? ⟨b, 0, none⟩ = some (.slice A n c)) :
    (method (k + 1) 73 (.pointer (some ⟨b, 0, none⟩)) nm).run Try.prog w = .ok (f, .slice A n c) w := by
  obtain ⟨i, hi, hf⟩ := Option.bind_eq_some_iff.1 hf
  obtain ⟨m, hm, he⟩ := Option.map_eq_some_iff.1 hf
  simp only [Prod.mk.injEq] at he
  obtain ⟨hp, hfn⟩ := he
  have hL := run_loadP w h
  have hpe : m.path = #[] := by
    apply Array.ext'
    exact hp
  have hW : ∀ (t : Array TypeId) (u : TypeId) (s1 s2 : ByteArray), (Builtin.ssaWrapNilChk_ t u #[.pointer (some ⟨b, 0, none⟩), .string s1, .string s2]).run Try.prog w = .ok (.pointer (some ⟨b, 0, none⟩)) w := fun _ _ _ _ => rfl
  have hT : (typeInfo 73).run Try.prog w = .ok i w := by simp [typeInfo, hi]
  have hU : (underlying 73).run Try.prog w = .ok (.pointer 56) w := run_underlying Try.underlying73 w
  unfold method
  rw [Sem.run_bind, hT, Result.andThen_ok]
  simp only [hm, hfn]
  rw [hpe]
  simp only [follow, Sem.run_bind, Sem.run_pure, Result.andThen_ok, receiverAt, Place.get, hU, strVal, asAddr]
  simp only [show (#[] : Array FieldStep).isEmpty = true from rfl, if_true, Sem.run_bind, hW, Result.andThen_ok, Sem.run_pure, hL]
theorem hp_meth0 {nm : String} {f : FuncId} (hf : ((Try.prog.info? 73).bind fun i => (i.methods.find? (·.name == nm)).map fun m => (m.path.toList, m.func)) = some ([], some (f, false))) (w : World) {b : Nat} {A : Option Addr} {n c : Nat} (h : w.cell? ⟨b, 0, none⟩ = some (.slice A n c)) :
    (method 240 73 (.pointer (some ⟨b, 0, none⟩)) nm).run Try.prog w = .ok (f, .slice A n c) w := hp_meth hf 239 w h
end Go.Proofs.Ytjkhdfncahhnoaa
/- Numbers' codes, seven bits a byte: plain mathematics on lists of whole numbers. No program in sight. -/
namespace Go.Proofs.Ytjkhdfncahhnoaa
set_option maxRecDepth 100000
set_option linter.unusedVariables false
/-- A number's code. -/
def lebL (n : Nat) : List Int := if h : n < 128 then [(n : Int)] else ((n % 128 : Nat) + 128 : Int) :: lebL (n / 128)
termination_by n
decreasing_by omega
def lebI (n : Int) : List Int := lebL n.toNat
theorem lebI_last {n : Int} (h0 : 0 ≤ n) (h : n < 128) : lebI n = [n] := by
  unfold lebI
  rw [lebL, dif_pos (by omega)]
  congr 1
  omega
theorem lebI_more {n : Int} (h : 128 ≤ n) : lebI n = (n % 128 + 128) :: lebI (n / 128) := by
  unfold lebI
  rw [lebL, dif_neg (by omega)]
  congr 1
  · omega
  · congr 1; omega
/-- What holds of the small ones, and goes from a number's 128th to it, holds of all. -/
theorem leb_ind {p : Int → Prop} (h1 : ∀ n, 0 ≤ n → n < 128 → p n) (h2 : ∀ n, 128 ≤ n → p (n / 128) → p n) (n : Int) (h0 : 0 ≤ n) : p n := by
  obtain ⟨m, rfl⟩ := Int.eq_ofNat_of_zero_le h0
  clear h0
  induction m using Nat.strongRecOn with
  | _ m ih =>
    by_cases h : (m : Int) < 128
    · exact h1 _ (by omega) h
    · refine h2 _ (by omega) ?_
      have := ih (m / 128) (by omega)
      rwa [show ((m / 128 : Nat) : Int) = (m : Int) / 128 by omega] at this
theorem lebI_u8 (n : Int) (h : 0 ≤ n) : U8s (lebI n) := by
  refine leb_ind (p := fun n => U8s (lebI n)) ?_ ?_ n h
  · intro n h0 h1
    rw [lebI_last h0 h1]
    intro x hx
    simp only [List.mem_singleton] at hx
    omega
  · intro n h1 ih
    rw [lebI_more h1]
    intro x hx
    rcases List.mem_cons.1 hx with rfl | hx
    · omega
    · exact ih x hx
theorem lebI_pos (n : Int) (h : 0 ≤ n) : 0 < (lebI n).length := by
  by_cases h1 : n < 128
  · rw [lebI_last h h1]; simp
  · rw [lebI_more (by omega)]; simp
theorem lebI_mono (a : Int) (ha : 0 ≤ a) : ∀ b, a ≤ b → (lebI a).length ≤ (lebI b).length := by
  refine leb_ind (p := fun a => ∀ b, a ≤ b → (lebI a).length ≤ (lebI b).length) ?_ ?_ a ha
  · intro n h0 h1 b hb
    rw [lebI_last h0 h1]
    exact lebI_pos b (by omega)
  · intro n h1 ih b hb
    rw [lebI_more h1, lebI_more (n := b) (by omega)]
    have := ih (b / 128) (by omega)
    simp only [List.length_cons]
    omega
theorem lebI_le (k : Nat) : ∀ n : Int, 0 ≤ n → n < 128 ^ (k + 1) → (lebI n).length ≤ k + 1 := by
  induction k with
  | zero =>
    intro n h0 h
    rw [lebI_last h0 (by simpa using h)]; simp
  | succ k ih =>
    intro n h0 h
    by_cases h1 : n < 128
    · rw [lebI_last h0 h1]; simp
    · rw [lebI_more (by omega)]
      have := ih (n / 128) (by omega) (by rw [Int.pow_succ] at h; omega)
      simp only [List.length_cons]
      omega
theorem lebI_ten {n : Int} (h : U64 n) : (lebI n).length ≤ 10 := lebI_le 9 n h.1 (by have := h.2; omega)
/-- How long a code is, by its bits. -/
theorem lebI_bits {n : Int} (h : U64 n) : (lebI n).length = (Lib.bitLen (max n 1).toNat + 6) / 7 := by
  have key : ∀ n : Int, 0 ≤ n → n ≤ 18446744073709551615 → (lebI n).length = (Lib.bitLen (max n 1).toNat + 6) / 7 := by
    intro n h0
    refine leb_ind (p := fun n => n ≤ 18446744073709551615 → (lebI n).length = (Lib.bitLen (max n 1).toNat + 6) / 7) ?_ ?_ n h0
    · intro n h0 h1 _
      rw [lebI_last h0 h1]
      have hd : ∀ m : Fin 128, (Lib.bitLen (max m.val 1) + 6) / 7 = 1 := by decide +kernel
      have := hd ⟨n.toNat, by omega⟩
      rw [show (max n 1).toNat = max n.toNat 1 by omega, this]
      rfl
    · intro n h1 ih h2
      rw [lebI_more h1, List.length_cons, ih (by omega)]
      have hs := Lib.bitLen_shift 7 (max n 1).toNat (by omega) (by omega)
      rw [show (max n 1).toNat / 2 ^ 7 = (max (n / 128) 1).toNat by omega] at hs
      omega
  exact key n h.1 h.2
/-- All codes, one behind the other. -/
def encs (l : List Int) : List Int := l.flatMap lebI
theorem encs_nil : encs [] = [] := rfl
theorem encs_app (l m : List Int) : encs (l ++ m) = encs l ++ encs m := List.flatMap_append
theorem encs_one (n : Int) : encs [n] = lebI n := by simp [encs]
theorem encs_cons (n : Int) (l : List Int) : encs (n :: l) = lebI n ++ encs l := by simp [encs]
theorem encs_u8 {l : List Int} (h : U64s l) : U8s (encs l) := by
  intro x hx
  obtain ⟨n, hn, hx⟩ := List.mem_flatMap.1 hx
  exact lebI_u8 n (h n hn).1 x hx
theorem encs_len {l : List Int} (h : U64s l) : (encs l).length ≤ 10 * l.length := by
  induction l with
  | nil => simp [encs]
  | cons n l ih =>
    rw [encs_cons, List.length_append, List.length_cons]
    have h1 := lebI_ten (h n (by simp))
    have h2 := ih (fun x hx => h x (by simp [hx]))
    omega
/-- What stands at a text's beginning, k bytes behind a code's, of which n is there: the number, the code's size, the error. -/
def gL : List Int → Nat → Int → Int × Int × Int
  | [], _, _ => (0, 0, 5)
  | c :: cs, k, n => if k = 9 ∧ 1 < c then (0, 0, 6) else if c < 128 then (if 0 < k ∧ c = 0 then (0, 0, 6) else (n + c % 128 * 2 ^ (7 * k), ((k + 1 : Nat) : Int), 0)) else gL cs (k + 1) (n + c % 128 * 2 ^ (7 * k))
/-- What Get is to answer. -/
def getN (b : List Int) (a : Int) : Int := if a < 0 then 0 else (gL (b.drop a.toNat) 0 0).1
def getE (b : List Int) (a : Int) : Int := if a < 0 then 1 else (gL (b.drop a.toNat) 0 0).2.2
def getA (b : List Int) (a : Int) : Int := if getE b a = 0 then a + (gL (b.drop a.toNat) 0 0).2.1 else 0
theorem pow7 (k : Nat) : (2 : Int) ^ (7 * (k + 1)) = 128 * 2 ^ (7 * k) := by
  rw [show 7 * (k + 1) = 7 * k + 7 by omega, Int.pow_add]; omega
theorem pow7_pos (k : Nat) : (0 : Int) < 2 ^ (7 * k) := Int.pow_pos (by decide)
/-- What was put is got. -/
theorem gL_put (n : Int) (h0 : 0 ≤ n) : ∀ (rest : List Int) (k : Nat) (m : Int), 0 < k ∧ n = 0 ∨ (lebI n).length + k ≤ 10 ∧ (0 < k → 0 < n) ∧ (n * 2 ^ (7 * k) ≤ 18446744073709551615) →
    ¬ (0 < k ∧ n = 0) → gL (lebI n ++ rest) k m = (m + n * 2 ^ (7 * k), ((k + (lebI n).length : Nat) : Int), 0) := by
  refine leb_ind (p := fun n => ∀ (rest : List Int) (k : Nat) (m : Int), 0 < k ∧ n = 0 ∨ (lebI n).length + k ≤ 10 ∧ (0 < k → 0 < n) ∧ (n * 2 ^ (7 * k) ≤ 18446744073709551615) →
    ¬ (0 < k ∧ n = 0) → gL (lebI n ++ rest) k m = (m + n * 2 ^ (7 * k), ((k + (lebI n).length : Nat) : Int), 0)) ?_ ?_ n h0
  · intro n h0 h1 rest k m hk hz
    rcases hk with hk | ⟨hk, hp, hm⟩
    · exact absurd hk hz
    rw [lebI_last h0 h1] at *
    simp only [List.length_singleton] at hk
    rw [List.singleton_append, gL, if_neg ?_, if_pos h1, if_neg hz, show n % 128 = n by omega]
    · simp
    · rintro ⟨rfl, h⟩
      have : (2 : Int) ^ (7 * 9) = 9223372036854775808 := by decide
      rw [this] at hm
      omega
  · intro n h1 ih rest k m hk hz
    rcases hk with hk | ⟨hk, hp, hm⟩
    · omega
    rw [lebI_more h1] at *
    simp only [List.length_cons] at hk
    have hl := lebI_pos (n / 128) (by omega)
    have hp := pow7_pos k
    have he : n = n % 128 + 128 * (n / 128) := by omega
    rw [List.cons_append, gL, if_neg (by omega), if_neg (by omega), ih rest (k + 1) _ (.inr ⟨by omega, by omega, ?_⟩) (by omega), pow7]
    · simp only [Prod.mk.injEq, List.length_cons, and_true]
      refine ⟨?_, by omega⟩
      rw [show (n % 128 + 128) % 128 = n % 128 by omega, Int.add_assoc]
      congr 1
      rw [show n / 128 * (128 * 2 ^ (7 * k)) = (128 * (n / 128)) * 2 ^ (7 * k) by rw [← Int.mul_assoc, Int.mul_comm 128], ← Int.add_mul, ← he]
    · rw [pow7]
      have h2 : n / 128 * (128 * 2 ^ (7 * k)) = (128 * (n / 128)) * 2 ^ (7 * k) := by rw [← Int.mul_assoc, Int.mul_comm 128]
      rw [h2]
      have := Int.mul_le_mul_of_nonneg_right (show 128 * (n / 128) ≤ n by omega) (Int.le_of_lt hp)
      omega
theorem gL_code {n : Int} (h : U64 n) (rest : List Int) : gL (lebI n ++ rest) 0 0 = (n, ((lebI n).length : Int), 0) := by
  have := gL_put n h.1 rest 0 0 (.inr ⟨by have := lebI_ten h; omega, by omega, by simpa using h.2⟩) (by omega)
  simpa using this
/-- What was got was put. -/
theorem gL_back : ∀ (b : List Int) (k : Nat) (m v : Int) (s : Int), U8s b → gL b k m = (v, s, 0) →
    ∃ (q : Int) (j : Nat), 0 ≤ q ∧ v = m + q * 2 ^ (7 * k) ∧ s = ((k + j : Nat) : Int) ∧ j ≤ b.length ∧ b.take j = lebI q ∧ (0 < k → 0 < q)
  | [], k, m, v, s, _, h => by simp [gL] at h
  | c :: cs, k, m, v, s, hu, h => by
    have hc := hu c (by simp)
    rw [gL] at h
    split at h
    · simp at h
    · split at h
      · split at h
        · simp at h
        · rename_i h1 h2 h3
          simp only [Prod.mk.injEq, and_true] at h
          obtain ⟨rfl, rfl⟩ := h
          refine ⟨c, 1, hc.1, by rw [show c % 128 = c by omega], by simp, by simp, by simp [lebI_last hc.1 h2], by omega⟩
      · rename_i h1 h2
        obtain ⟨q, j, hq, rfl, rfl, hj, ht, hp⟩ := gL_back cs (k + 1) _ v s (fun x hx => hu x (by simp [hx])) h
        have hq1 := hp (by omega)
        refine ⟨c % 128 + 128 * q, j + 1, by omega, ?_, by omega, by simp; omega, ?_, by omega⟩
        · rw [pow7, Int.add_mul, Int.add_assoc]
          congr 2
          rw [← Int.mul_assoc, Int.mul_comm q]
        · rw [lebI_more (by omega), List.take_succ_cons, ht]
          congr 1
          · omega
          · congr 1; omega
/-- A code that ends too soon. -/
theorem gL_cut (n : Int) (h0 : 0 ≤ n) : ∀ (k : Nat) (m : Int), (lebI n).length + k ≤ 10 → gL ((lebI n).take ((lebI n).length - 1)) k m = (0, 0, 5) := by
  refine leb_ind (p := fun n => ∀ (k : Nat) (m : Int), (lebI n).length + k ≤ 10 → gL ((lebI n).take ((lebI n).length - 1)) k m = (0, 0, 5)) ?_ ?_ n h0
  · intro n h0 h1 k m hk
    rw [lebI_last h0 h1]; simp [gL]
  · intro n h1 ih k m hk
    have hl := lebI_pos (n / 128) (by omega)
    rw [lebI_more h1] at *
    simp only [List.length_cons] at hk
    obtain ⟨j, hj⟩ : ∃ j, (lebI (n / 128)).length = j + 1 := ⟨(lebI (n / 128)).length - 1, by omega⟩
    have := ih (k + 1) (m + (n % 128 + 128) % 128 * 2 ^ (7 * k)) (by omega)
    rw [hj] at this
    simp only [List.length_cons, hj, Nat.add_sub_cancel, List.take_succ_cons]
    rw [gL, if_neg (by omega), if_neg (by omega)]
    exact this
theorem get_at {b : List Int} {n : Int} (h : U64 n) (ahead behind : List Int) (hb : b = ahead ++ (lebI n ++ behind)) :
    getN b ahead.length = n ∧ getE b ahead.length = 0 ∧ getA b ahead.length = ahead.length + (lebI n).length := by
  subst hb
  have e : gL ((ahead ++ (lebI n ++ behind)).drop (ahead.length : Int).toNat) 0 0 = (n, ((lebI n).length : Int), 0) := by
    rw [show (ahead.length : Int).toNat = ahead.length by omega, List.drop_left, gL_code h]
  have h1 : ¬ (ahead.length : Int) < 0 := by omega
  unfold getA getN getE
  rw [e]
  simp [h1]
theorem get_off {b : List Int} : getE b b.length = 5 := by
  have h1 : ¬ (b.length : Int) < 0 := by omega
  unfold getE
  rw [if_neg h1, show (b.length : Int).toNat = b.length by omega, List.drop_length]
  rfl
/-- So many numbers, one behind the other: those that there are, the place, the error. -/
def mny (b : List Int) : Nat → Int → List Int → List Int × Int × Int
  | 0, a, S => (S, a, 0)
  | k + 1, a, S => if getE b a = 0 then mny b k (getA b a) (S ++ [getN b a]) else ([], 0, getE b a)
theorem mny_put {b behind : List Int} : ∀ (l : List Int) (ahead S : List Int), U64s l → b = ahead ++ (encs l ++ behind) → mny b l.length ahead.length S = (S ++ l, (((ahead ++ encs l).length : Nat) : Int), 0)
  | [], ahead, S, _, hb => by simp [mny, encs]
  | n :: l, ahead, S, hu, hb => by
    have hb' : b = (ahead ++ lebI n) ++ (encs l ++ behind) := by rw [hb, encs_cons]; simp
    obtain ⟨e1, e2, e3⟩ := get_at (b := b) (hu n (by simp)) ahead (encs l ++ behind) (by rw [hb']; simp)
    have := mny_put l (ahead ++ lebI n) (S ++ [n]) (fun x hx => hu x (by simp [hx])) hb'
    rw [List.length_cons, mny, if_pos e2, e1, e3]
    rw [show ((ahead.length : Int) + ((lebI n).length : Int)) = (((ahead ++ lebI n).length : Nat) : Int) by simp, this, encs_cons]
    simp
/-- One more than there are. -/
theorem mny_more {b : List Int} : ∀ (l : List Int) (ahead S : List Int), U64s l → b = ahead ++ encs l → mny b (l.length + 1) ahead.length S = ([], 0, 5)
  | [], ahead, S, _, hb => by
    have : b.length = ahead.length := by rw [hb]; simp [encs]
    have e := get_off (b := b)
    rw [this] at e
    simp [mny, e]
  | n :: l, ahead, S, hu, hb => by
    have hb' : b = (ahead ++ lebI n) ++ encs l := by rw [hb, encs_cons]; simp
    obtain ⟨e1, e2, e3⟩ := get_at (b := b) (hu n (by simp)) ahead (encs l) (by rw [hb']; simp)
    have := mny_more l (ahead ++ lebI n) (S ++ [n]) (fun x hx => hu x (by simp [hx])) hb'
    rw [List.length_cons, mny, if_pos e2, e1, e3]
    rw [show ((ahead.length : Int) + ((lebI n).length : Int)) = (((ahead ++ lebI n).length : Nat) : Int) by simp, this]
/-- Signed numbers and others. -/
def zigI (n : Int) : Int := if n < 0 then -2 * n - 1 else 2 * n
def zagI (n : Int) : Int := if n % 2 = 1 then -(n / 2) - 1 else n / 2
theorem zag_zig (n : Int) : zagI (zigI n) = n := by unfold zagI zigI; split <;> split <;> omega
theorem zig_zag {n : Int} (h : 0 ≤ n) : zigI (zagI n) = n := by unfold zagI zigI; split <;> split <;> omega
theorem zig_u64 {n : Int} (h : I64 n) : U64 (zigI n) := by unfold I64 at h; unfold U64 zigI; split <;> omega
theorem zag_i64 {n : Int} (h : U64 n) : I64 (zagI n) := by unfold U64 at h; unfold I64 zagI; split <;> omega
theorem zigs_u64 {l : List Int} (h : ∀ x ∈ l, I64 x) : U64s (l.map zigI) := by
  intro x hx
  obtain ⟨y, hy, rfl⟩ := List.mem_map.1 hx
  exact zig_u64 (h y hy)
/-- No code is another one's beginning. -/
theorem code_apart {a b : Int} (ha : U64 a) (hb : U64 b) (h : (lebI b).take (lebI a).length = lebI a) : a = b := by
  have h1 := gL_code hb []
  rw [List.append_nil] at h1
  have h2 := gL_code ha ((lebI b).drop (lebI a).length)
  have e := List.take_append_drop (lebI a).length (lebI b)
  rw [h] at e
  rw [e, h1] at h2
  simp only [Prod.mk.injEq] at h2
  exact h2.1.symm
end Go.Proofs.Ytjkhdfncahhnoaa
/- What a number got is, and where it ends: plain mathematics. -/
namespace Go.Proofs.Ytjkhdfncahhnoaa
set_option maxRecDepth 100000
set_option linter.unusedVariables false
theorem shl_in {x : Int} {k : Nat} (h0 : 0 ≤ x) (h1 : x ≤ 127) (hk : k ≤ 9) (h9 : k = 9 → x ≤ 1) : 0 ≤ x * 2 ^ (7 * k) ∧ x * 2 ^ (7 * k) ≤ 18446744073709551615 := by
  have hp := pow7_pos k
  refine ⟨Int.mul_nonneg h0 (Int.le_of_lt hp), ?_⟩
  rcases Nat.lt_or_ge k 9 with h | h
  · have h2 : (2 : Int) ^ (7 * k) ≤ 2 ^ (7 * 8) := by
      have := Nat.pow_le_pow_right (show 0 < 2 by decide) (show 7 * k ≤ 7 * 8 by omega)
      exact_mod_cast this
    have h3 : (2 : Int) ^ (7 * 8) = 72057594037927936 := by decide
    have := Int.mul_le_mul h1 h2 (Int.le_of_lt hp) (by decide)
    omega
  · obtain rfl : k = 9 := by omega
    have h3 : (2 : Int) ^ (7 * 9) = 9223372036854775808 := by decide
    have := h9 rfl
    rw [h3]
    omega
theorem get_out {b : List Int} {a v s e : Int} (ha : 0 ≤ a) (h : gL (b.drop a.toNat) 0 0 = (v, s, e)) : getN b a = v ∧ getE b a = e ∧ getA b a = if e = 0 then a + s else 0 := by
  have h1 : ¬ a < 0 := by omega
  unfold getA getN getE
  rw [h]
  simp [h1]
theorem part_lt {n x : Int} {k : Nat} (hn0 : 0 ≤ n) (hn : n < 2 ^ (7 * k)) : 0 ≤ n + x % 128 * 2 ^ (7 * k) ∧ n + x % 128 * 2 ^ (7 * k) < 2 ^ (7 * (k + 1)) := by
  have hp := pow7_pos k
  have h1 := Int.mul_nonneg (show 0 ≤ x % 128 by omega) (Int.le_of_lt hp)
  have h2 := Int.mul_le_mul_of_nonneg_right (show x % 128 ≤ 127 by omega) (Int.le_of_lt hp)
  rw [pow7]
  omega
theorem gL_u64 : ∀ (b : List Int) (k : Nat) (m v s : Int), U8s b → k ≤ 9 → 0 ≤ m → m < 2 ^ (7 * k) → gL b k m = (v, s, 0) → U64 v
  | [], k, m, v, s, _, _, _, _, h => by simp [gL] at h
  | c :: cs, k, m, v, s, hu, hk, h0, h1, h => by
    have hc := hu c (by simp)
    rw [gL] at h
    split at h
    · simp at h
    · rename_i h9
      have hpl := part_lt (x := c) h0 h1
      split at h
      · split at h
        · simp at h
        · rename_i h2 h3
          simp only [Prod.mk.injEq, and_true] at h
          obtain ⟨rfl, rfl⟩ := h
          refine ⟨hpl.1, ?_⟩
          have hs := shl_in (x := c % 128) (k := k) (by omega) (by omega) hk (by omega)
          rcases Nat.lt_or_ge k 9 with h | h
          · have h2 : (2 : Int) ^ (7 * (k + 1)) ≤ 2 ^ (7 * 9) := by
              have := Nat.pow_le_pow_right (show 0 < 2 by decide) (show 7 * (k + 1) ≤ 7 * 9 by omega)
              exact_mod_cast this
            have h3 : (2 : Int) ^ (7 * 9) = 9223372036854775808 := by decide
            omega
          · obtain rfl : k = 9 := by omega
            have h3 : (2 : Int) ^ (7 * 9) = 9223372036854775808 := by decide
            rw [h3] at h1 ⊢
            omega
      · rename_i h2
        exact gL_u64 cs (k + 1) _ v s (fun x hx => hu x (by simp [hx])) (by omega) hpl.1 hpl.2 h
/-- What a number got is, and where it ends. -/
theorem get_ok {b : List Int} {a : Int} (ub : U8s b) (h : getE b a = 0) : 0 ≤ a ∧ U64 (getN b a) ∧ ∃ j : Nat, a.toNat + j ≤ b.length ∧ getA b a = ((a.toNat + j : Nat) : Int) ∧ (b.drop a.toNat).take j = lebI (getN b a) := by
  by_cases h1 : a < 0
  · unfold getE at h; rw [if_pos h1] at h; simp at h
  · obtain ⟨v, s, e, hg⟩ : ∃ v s e, gL (b.drop a.toNat) 0 0 = (v, s, e) := ⟨_, _, _, rfl⟩
    obtain ⟨e1, e2, e3⟩ := get_out (b := b) (a := a) (by omega) hg
    rw [e2] at h
    subst h
    have ud : U8s (b.drop a.toNat) := fun x hx => ub x (List.mem_of_mem_drop hx)
    obtain ⟨q, j, hq, hv, rfl, hj, ht, _⟩ := gL_back _ 0 0 v s ud hg
    have hv' : v = q := by rw [hv]; simp
    have hj' : a.toNat + j ≤ b.length ∨ j = 0 := by rw [List.length_drop] at hj; omega
    have hu := gL_u64 _ 0 0 v _ ud (by omega) (by omega) (by decide) hg
    have hjp : 0 < j := by
      have := lebI_pos q hq
      rw [← ht, List.length_take] at this
      omega
    rw [e1, e3, hv']
    rw [hv'] at hu
    refine ⟨by omega, hu, j, by omega, ?_, ht⟩
    simp
    omega
theorem getA_i64 {b : List Int} {a : Int} {c : Nat} (ub : U8s b) (hb : b.length ≤ c) (hc : c ≤ 9223372036854775807) (h : getE b a = 0) : I64 (getA b a) := by
  obtain ⟨_, _, j, hj, e, _⟩ := get_ok ub h
  rw [e]
  unfold I64
  omega
end Go.Proofs.Ytjkhdfncahhnoaa
/- Places that rise, their code, numbers spread and gathered, lists together: plain mathematics. No program in sight. -/
namespace Go.Proofs.Ytjkhdfncahhnoaa
set_option maxRecDepth 100000
set_option linter.unusedVariables false
/-- A list that rises. -/
def risP (l : List Int) : Prop := l.Pairwise (· < ·)
instance (l : List Int) : Decidable (risP l) := by unfold risP; infer_instance
def risB (l : List Int) : Bool := decide (risP l)
theorem ris_iff {l : List Int} : risP l ↔ ∀ (i j : Nat) (x y : Int), l[i]? = some x → l[j]? = some y → i < j → x < y := by
  unfold risP
  rw [List.pairwise_iff_getElem]
  constructor
  · intro h i j x y hx hy hij
    obtain ⟨h1, rfl⟩ := List.getElem?_eq_some_iff.1 hx
    obtain ⟨h2, rfl⟩ := List.getElem?_eq_some_iff.1 hy
    exact h i j h1 h2 hij
  · intro h i j hi hj hij
    exact h i j _ _ (List.getElem?_eq_getElem hi) (List.getElem?_eq_getElem hj) hij
theorem ris_nil : risP [] := List.Pairwise.nil
theorem ris_one (x : Int) : risP [x] := List.pairwise_singleton _ _
theorem ris_take {l : List Int} (h : risP l) (k : Nat) : risP (l.take k) := List.Pairwise.sublist (List.take_sublist k l) h
theorem ris_snoc {l : List Int} {y : Int} : risP (l ++ [y]) ↔ risP l ∧ ∀ x ∈ l, x < y := by
  unfold risP
  rw [List.pairwise_append]
  simp
theorem take_snoc {l : List Int} {k : Nat} {y : Int} (h : l[k]? = some y) : l.take (k + 1) = l.take k ++ [y] := by
  rw [List.take_add_one, h]; rfl
theorem ris_step {l : List Int} {k : Nat} {x y : Int} (h : risP (l.take k)) (hy : l[k]? = some y) (hx : k = 0 ∨ l[k - 1]? = some x ∧ x < y) : risP (l.take (k + 1)) := by
  rw [take_snoc hy, ris_snoc]
  refine ⟨h, fun z hz => ?_⟩
  rcases hx with rfl | ⟨hx, hlt⟩
  · simp at hz
  · have hk : k ≠ 0 := by rintro rfl; simp at hz
    obtain ⟨j, rfl⟩ : ∃ j, k = j + 1 := ⟨k - 1, by omega⟩
    rw [Nat.add_sub_cancel] at hx
    rw [take_snoc hx] at h hz
    rcases List.mem_append.1 hz with hz | hz
    · have := (ris_snoc.1 h).2 z hz; omega
    · simp at hz; omega
theorem ris_no {l : List Int} {i j : Nat} {x y : Int} (hx : l[i]? = some x) (hy : l[j]? = some y) (hij : i < j) (h : y ≤ x) : ¬ risP l := fun hr => by
  have := ris_iff.1 hr i j x y hx hy hij
  omega
theorem ris_nodup {l : List Int} (h : risP l) : l.Nodup := List.Pairwise.imp (fun h => by omega) h
/-- Two lists that rise are one, if they have the same numbers. -/
theorem ris_eq {a b : List Int} (ha : risP a) (hb : risP b) (h : ∀ x, x ∈ a ↔ x ∈ b) : a = b := by
  have hp := (List.perm_ext_iff_of_nodup (ris_nodup ha) (ris_nodup hb)).2 h
  exact List.Perm.eq_of_pairwise (fun x y _ _ h1 h2 => by omega) ha hb hp
/-- Whether they are places of a dimension. -/
def plcP (dim : Int) (l : List Int) : Prop := 1 ≤ dim ∧ dim ≤ 4096 ∧ risP l ∧ ∀ n ∈ l, 0 ≤ n ∧ n < dim
instance (dim : Int) (l : List Int) : Decidable (plcP dim l) := by unfold plcP; infer_instance
def chkE (dim : Int) (l : List Int) : Int := if plcP dim l then 0 else 1
theorem chk_ok {dim : Int} {l : List Int} : chkE dim l = 0 ↔ plcP dim l := by
  unfold chkE
  split
  · simp_all
  · simp_all
theorem chk_no {dim : Int} {l : List Int} (h : ¬ plcP dim l) : chkE dim l = 1 := if_neg h
theorem chk_or (dim : Int) (l : List Int) : chkE dim l = 0 ∨ chkE dim l = 1 := by unfold chkE; split <;> simp
/-- All numbers from 0 on. -/
def upI (k : Nat) : List Int := (List.range k).map fun n : Nat => (n : Int)
theorem upI_succ (k : Nat) : upI (k + 1) = upI k ++ [(k : Int)] := by unfold upI; rw [List.range_succ, List.map_append]; rfl
theorem upI_len (k : Nat) : (upI k).length = k := by unfold upI; simp
theorem upI_mem {k : Nat} {x : Int} : x ∈ upI k ↔ 0 ≤ x ∧ x < k := by
  unfold upI
  rw [List.mem_map]
  constructor
  · rintro ⟨n, hn, rfl⟩
    have := List.mem_range.1 hn
    omega
  · intro h
    exact ⟨x.toNat, List.mem_range.2 (by omega), by omega⟩
theorem upI_ris : ∀ k, risP (upI k)
  | 0 => ris_nil
  | k + 1 => by
    rw [upI_succ, ris_snoc]
    exact ⟨upI_ris k, fun x hx => (upI_mem.1 hx).2⟩
theorem upI_at {k i : Nat} (h : i < k) : (upI k)[i]? = some (i : Int) := by unfold upI; simp [h]
theorem ris_filter {l : List Int} (h : risP l) (p : Int → Bool) : risP (l.filter p) := List.Pairwise.sublist List.filter_sublist h
theorem plc_sub {dim : Int} {l : List Int} (h : plcP dim l) : ∃ k : Nat, dim = k ∧ 1 ≤ k ∧ k ≤ 4096 ∧ l = (upI k).filter (fun x => decide (x ∈ l)) := by
  obtain ⟨h1, h2, h3, h4⟩ := h
  obtain ⟨k, rfl⟩ := Int.eq_ofNat_of_zero_le (show 0 ≤ dim by omega)
  refine ⟨k, rfl, by omega, by omega, ris_eq h3 (ris_filter (upI_ris k) _) fun x => ?_⟩
  rw [List.mem_filter, upI_mem]
  constructor
  · intro h; exact ⟨h4 x h, by simpa using h⟩
  · intro h; simpa using h.2
theorem filter_both (p : Int → Bool) (l : List Int) : (l.filter p).length + (l.filter fun x => !p x).length = l.length := by
  induction l with
  | nil => rfl
  | cons x l ih =>
    rw [List.filter_cons, List.filter_cons]
    cases p x <;> simp <;> omega
/-- The places that are not in a list. -/
def lfF (k : Nat) (l : List Int) : List Int := (upI k).filter fun x => !decide (x ∈ l)
def lfV (dim : Int) (l : List Int) : List Int := if chkE dim l = 0 then lfF dim.toNat l else []
theorem lfF_step (k : Nat) (l : List Int) : lfF (k + 1) l = lfF k l ++ if (k : Int) ∈ l then [] else [(k : Int)] := by
  unfold lfF
  rw [upI_succ, List.filter_append]
  congr 1
  by_cases h : (k : Int) ∈ l <;> simp [h]
theorem plc_len {k : Nat} {l : List Int} (h : plcP k l) : l.length + (lfF k l).length = k := by
  obtain ⟨k', e, _, _, hl⟩ := plc_sub h
  obtain rfl : k = k' := by omega
  have := filter_both (fun x => decide (x ∈ l)) (upI k)
  rw [upI_len] at this
  unfold lfF
  have e2 : ((upI k).filter fun x => decide (x ∈ l)).length = l.length := by rw [← hl]
  omega
theorem plc_le {dim : Int} {l : List Int} (h : plcP dim l) : (l.length : Int) ≤ dim := by
  obtain ⟨k, rfl, _, _, _⟩ := plc_sub h
  have := plc_len h
  omega
theorem lfF_mem {k : Nat} {l : List Int} {x : Int} : x ∈ lfF k l ↔ (0 ≤ x ∧ x < k) ∧ x ∉ l := by
  unfold lfF
  rw [List.mem_filter, upI_mem]
  simp
theorem lf_plc {dim : Int} {l : List Int} (h : plcP dim l) : plcP dim (lfV dim l) := by
  unfold lfV
  rw [if_pos (chk_ok.2 h)]
  obtain ⟨k, rfl, h1, h2, _⟩ := plc_sub h
  rw [Int.toNat_natCast]
  exact ⟨by omega, by omega, ris_filter (upI_ris k) _, fun n hn => (lfF_mem.1 hn).1⟩
theorem lf_lf {dim : Int} {l : List Int} (h : plcP dim l) : lfV dim (lfV dim l) = l := by
  have h2 := lf_plc h
  obtain ⟨k, rfl, _, _, _⟩ := plc_sub h
  have e : lfV k (lfV k l) = lfF k (lfF k l) := by
    unfold lfV
    rw [if_pos (chk_ok.2 h)]
    rw [if_pos]
    · rw [Int.toNat_natCast]
    · unfold lfV at h2
      rw [if_pos (chk_ok.2 h)] at h2
      exact chk_ok.2 h2
  rw [e]
  refine ris_eq (ris_filter (upI_ris k) _) h.2.2.1 fun x => ?_
  rw [lfF_mem, lfF_mem]
  constructor
  · intro h3
    by_cases hx : x ∈ l
    · exact hx
    · exact absurd ⟨h3.1, hx⟩ h3.2
  · intro hx
    exact ⟨h.2.2.2 x hx, fun h4 => h4.2 hx⟩
/-- Distances, less 1. -/
def gapsF : Int → List Int → List Int
  | _, [] => []
  | last, n :: l => (n - last - 1) :: gapsF n l
def lastI (a : Int) (l : List Int) : Int := l.getLastD a
theorem lastI_snoc (a : Int) (l : List Int) (x : Int) : lastI a (l ++ [x]) = x := by unfold lastI; simp
theorem gaps_snoc : ∀ (l : List Int) (a x : Int), gapsF a (l ++ [x]) = gapsF a l ++ [x - lastI a l - 1]
  | [], a, x => by simp [gapsF, lastI]
  | n :: l, a, x => by
    rw [List.cons_append, gapsF, gapsF, gaps_snoc l n x, List.cons_append]
    congr 3
    unfold lastI
    cases l with
    | nil => rfl
    | cons y l => rw [List.getLastD_cons, List.getLastD_cons, List.getLastD_cons]
theorem gaps_len : ∀ (l : List Int) (a : Int), (gapsF a l).length = l.length
  | [], _ => rfl
  | n :: l, a => by rw [gapsF, List.length_cons, gaps_len l n, List.length_cons]
theorem gaps_u64 : ∀ (l : List Int) (a : Int), risP (a :: l) → -1 ≤ a → (∀ n ∈ l, n < 4096) → U64s (gapsF a l)
  | [], _, _, _, _ => by intro x hx; simp [gapsF] at hx
  | n :: l, a, hr, ha, hb => by
    have h1 : a < n := (List.pairwise_cons.1 hr).1 n (by simp)
    have h2 := hb n (by simp)
    intro x hx
    rw [gapsF] at hx
    rcases List.mem_cons.1 hx with rfl | hx
    · unfold U64; omega
    · exact gaps_u64 l n (List.pairwise_cons.1 hr).2 (by omega) (fun m hm => hb m (by simp [hm])) x hx
def putL (l : List Int) : List Int := (l.length : Int) :: gapsF (-1) l
def pixV (dim : Int) (l : List Int) : List Int := if chkE dim l = 0 then encs (putL l) else []
theorem plc_cons {dim : Int} {l : List Int} (h : plcP dim l) : risP (-1 :: l) := List.pairwise_cons.2 ⟨fun n hn => by have := h.2.2.2 n hn; omega, h.2.2.1⟩
theorem putL_u64 {dim : Int} {l : List Int} (h : plcP dim l) : U64s (putL l) := by
  have h1 := plc_le h
  have h2 := h.2.1
  intro x hx
  unfold putL at hx
  rcases List.mem_cons.1 hx with rfl | hx
  · unfold U64; omega
  · exact gaps_u64 l (-1) (plc_cons h) (by omega) (fun n hn => by have := h.2.2.2 n hn; omega) x hx
theorem putL_step {l : List Int} {k : Nat} {x : Int} (h : l[k]? = some x) : gapsF (-1) (l.take (k + 1)) = gapsF (-1) (l.take k) ++ [x - lastI (-1) (l.take k) - 1] := by
  rw [take_snoc h, gaps_snoc]
theorem lastI_step {l : List Int} {k : Nat} {x : Int} (h : l[k]? = some x) : lastI (-1) (l.take (k + 1)) = x := by
  rw [take_snoc h, lastI_snoc]
theorem lastI_mem : ∀ (l : List Int) (a : Int), lastI a l = a ∧ l = [] ∨ lastI a l ∈ l
  | [], a => by simp [lastI]
  | n :: l, a => by right; unfold lastI; rw [List.getLastD_cons]; rcases lastI_mem l n with ⟨h, _⟩ | h
                    · unfold lastI at h; rw [h]; simp
                    · unfold lastI at h; exact List.mem_cons_of_mem _ h
theorem lastI_lt {dim : Int} {l : List Int} {k : Nat} {x : Int} (h : plcP dim l) (hx : l[k]? = some x) : -1 ≤ lastI (-1) (l.take k) ∧ lastI (-1) (l.take k) < x ∧ 0 ≤ x ∧ x < dim := by
  have hr := ris_take h.2.2.1 (k + 1)
  rw [take_snoc hx, ris_snoc] at hr
  have hxd := h.2.2.2 x (List.mem_of_getElem? hx)
  rcases lastI_mem (l.take k) (-1) with ⟨e, _⟩ | hm
  · rw [e]; omega
  · have h1 := hr.2 _ hm
    have h2 := h.2.2.2 _ (List.mem_of_mem_take hm)
    omega
/-- What is read: so many distances from a place on, the last place ahead of them. -/
def ixL (dim : Int) (b : List Int) : Nat → Int → Int → List Int × Int × Int
  | 0, _, a => ([], a, 0)
  | m + 1, last, a => if getE b a ≠ 0 then ([], 0, getE b a) else if dim - last - 1 ≤ getN b a then ([], 0, 6) else
      if (ixL dim b m (last + getN b a + 1) (getA b a)).2.2 = 0 then ((last + getN b a + 1) :: (ixL dim b m (last + getN b a + 1) (getA b a)).1, (ixL dim b m (last + getN b a + 1) (getA b a)).2.1, 0) else ([], 0, (ixL dim b m (last + getN b a + 1) (getA b a)).2.2)
def gixR (dim : Int) (b : List Int) (a : Int) : List Int × Int × Int :=
  if dim < 1 ∨ 4096 < dim then ([], 0, 1) else if getE b a ≠ 0 then ([], 0, getE b a) else if dim < getN b a then ([], 0, 6) else ixL dim b (getN b a).toNat (-1) (getA b a)
/-- A list ahead of what is read. -/
def withL (O : List Int) (r : List Int × Int × Int) : List Int × Int × Int := if r.2.2 = 0 then (O ++ r.1, r.2.1, 0) else ([], 0, r.2.2)
theorem withL_nil {r : List Int × Int × Int} (h : r.2.2 ≠ 0 → r = ([], 0, r.2.2)) : withL [] r = r := by
  unfold withL
  obtain ⟨x, y, z⟩ := r
  by_cases hz : z = 0
  · subst hz; rfl
  · rw [if_neg hz]; exact (h hz).symm
theorem ixL_bad (dim : Int) (b : List Int) : ∀ (m : Nat) (last a : Int), (ixL dim b m last a).2.2 ≠ 0 → ixL dim b m last a = ([], 0, (ixL dim b m last a).2.2)
  | 0, last, a, h => by simp [ixL] at h
  | m + 1, last, a, h => by
    rw [ixL] at h ⊢
    split
    · rfl
    · split
      · rfl
      · split
        · rename_i h1 h2 h3
          rw [if_neg h1, if_neg h2, if_pos h3] at h
          simp at h
        · rfl
theorem withL_end (dim : Int) (b : List Int) (O : List Int) (last a : Int) : withL O (ixL dim b 0 last a) = (O, a, 0) := by
  unfold withL ixL; simp
theorem withL_err {dim : Int} {b : List Int} {m : Nat} {O : List Int} {last a : Int} (h : getE b a ≠ 0) : withL O (ixL dim b (m + 1) last a) = ([], 0, getE b a) := by
  unfold withL
  rw [ixL, if_pos h, if_neg h]
theorem withL_form {dim : Int} {b : List Int} {m : Nat} {O : List Int} {last a : Int} (h : getE b a = 0) (h2 : dim - last - 1 ≤ getN b a) : withL O (ixL dim b (m + 1) last a) = ([], 0, 6) := by
  have h1 : ¬ getE b a ≠ 0 := fun hn => hn h
  rw [ixL, if_neg h1, if_pos h2]
  rfl
theorem withL_step {dim : Int} {b : List Int} {m : Nat} {O : List Int} {last a : Int} (h : getE b a = 0) (h2 : getN b a < dim - last - 1) :
    withL O (ixL dim b (m + 1) last a) = withL (O ++ [last + getN b a + 1]) (ixL dim b m (last + getN b a + 1) (getA b a)) := by
  rw [ixL, if_neg (by omega), if_neg (by omega)]
  by_cases h3 : (ixL dim b m (last + getN b a + 1) (getA b a)).2.2 = 0
  · rw [if_pos h3]
    unfold withL
    rw [if_pos h3]
    simp
  · rw [if_neg h3]
    unfold withL
    rw [if_neg h3, if_neg h3]
/-- Numbers at places. -/
def spF (l v : List Int) (j : Int) : Int := (l.zip v).foldl (fun acc p => if j = p.1 then p.2 else acc) 0
def spE (dim : Int) (l v : List Int) : Int := if chkE dim l = 0 then (if l.length = v.length then 0 else 4) else chkE dim l
def spV (dim : Int) (l v : List Int) : List Int := if spE dim l v = 0 then (upI dim.toNat).map (spF l v) else []
theorem spF_snoc {l v : List Int} (h : l.length = v.length) (n x j : Int) : spF (l ++ [n]) (v ++ [x]) j = if j = n then x else spF l v j := by
  unfold spF
  rw [List.zip_append h, List.foldl_append]
  rfl
theorem spF_step {l v : List Int} {k : Nat} {n x : Int} (hn : l[k]? = some n) (hx : v[k]? = some x) (j : Int) : spF (l.take (k + 1)) (v.take (k + 1)) j = if j = n then x else spF (l.take k) (v.take k) j := by
  have h1 := (List.getElem?_eq_some_iff.1 hn).1
  have h2 := (List.getElem?_eq_some_iff.1 hx).1
  rw [take_snoc hn, take_snoc hx]
  exact spF_snoc (by rw [List.length_take, List.length_take]; omega) n x j
theorem spF_out {l v : List Int} {j : Int} (h : j ∉ l) : spF l v j = 0 := by
  unfold spF
  have key : ∀ (ps : List (Int × Int)) (a : Int), (∀ p ∈ ps, j ≠ p.1) → ps.foldl (fun acc p => if j = p.1 then p.2 else acc) a = a := by
    intro ps
    induction ps with
    | nil => intro a _; rfl
    | cons p ps ih =>
      intro a hp
      rw [List.foldl_cons, if_neg (hp p (by simp)), ih a (fun q hq => hp q (by simp [hq]))]
  exact key _ 0 fun p hp e => h (by rw [e]; exact (List.of_mem_zip hp).1)
theorem spF_at {l v : List Int} (hr : risP l) : ∀ (k : Nat) (i : Nat) (n x : Int), i < k → l[i]? = some n → v[i]? = some x → k ≤ l.length → k ≤ v.length → spF (l.take k) (v.take k) n = x := by
  intro k
  induction k with
  | zero => intro i n x h; omega
  | succ k ih =>
    intro i n x h hn hx h1 h2
    have hk1 : l[k]? = some l[k] := List.getElem?_eq_getElem (by omega)
    have hk2 : v[k]? = some v[k] := List.getElem?_eq_getElem (by omega)
    rw [spF_step hk1 hk2]
    by_cases hik : i = k
    · subst hik
      rw [hn] at hk1
      rw [hx] at hk2
      injection hk1 with e1
      injection hk2 with e2
      rw [if_pos e1, ← e2]
    · have := ris_iff.1 hr i k n l[k] hn hk1 (by omega)
      rw [if_neg (by omega)]
      exact ih i n x (by omega) hn hx (by omega) (by omega)
theorem spF_in {l v : List Int} (hr : risP l) (hl : l.length = v.length) {i : Nat} {n x : Int} (hn : l[i]? = some n) (hx : v[i]? = some x) : spF l v n = x := by
  have h := spF_at hr l.length i n x (List.getElem?_eq_some_iff.1 hn).1 hn hx (Nat.le_refl _) (by omega)
  rwa [List.take_length, hl, List.take_length] at h
/-- Numbers from places. -/
def gatP (l v : List Int) : Prop := risP l ∧ ∀ n ∈ l, 0 ≤ n ∧ n < v.length
instance (l v : List Int) : Decidable (gatP l v) := by unfold gatP; infer_instance
def gatE (l v : List Int) : Int := if gatP l v then 0 else 1
def gatV (l v : List Int) : List Int := if gatE l v = 0 then l.map (fun n => v.getD n.toNat 0) else []
theorem gat_ok {l v : List Int} : gatE l v = 0 ↔ gatP l v := by unfold gatE; split <;> simp_all
theorem gat_no {l v : List Int} (h : ¬ gatP l v) : gatE l v = 1 := if_neg h
/-- Lists together. -/
def insI (out : List Int) (n : Int) : List Int := if n ∈ out then out else out.filter (fun m => decide (m < n)) ++ [n] ++ out.filter (fun m => decide (n < m))
def mrgF (out l : List Int) : List Int := l.foldl insI out
def mrgV (ls : List (List Int)) : List Int := mrgF [] ls.flatten
theorem ins_mem {out : List Int} {n x : Int} : x ∈ insI out n ↔ x = n ∨ x ∈ out := by
  unfold insI
  split
  · rename_i h
    constructor
    · intro h2; exact Or.inr h2
    · rintro (rfl | h2)
      · exact h
      · exact h2
  · rw [List.mem_append, List.mem_append, List.mem_filter, List.mem_filter, List.mem_singleton, decide_eq_true_eq, decide_eq_true_eq]
    constructor
    · rintro ((⟨h, _⟩ | h) | ⟨h, _⟩)
      · exact Or.inr h
      · exact Or.inl h
      · exact Or.inr h
    · rintro (h | h)
      · exact Or.inl (Or.inr h)
      · by_cases h1 : x < n
        · exact Or.inl (Or.inl ⟨h, h1⟩)
        · by_cases h2 : x = n
          · exact Or.inl (Or.inr h2)
          · exact Or.inr ⟨h, by omega⟩
theorem ins_ris {out : List Int} (h : risP out) (n : Int) : risP (insI out n) := by
  unfold insI
  split
  · exact h
  · unfold risP
    rw [List.pairwise_append, List.pairwise_append]
    refine ⟨⟨ris_filter h _, List.pairwise_singleton _ _, ?_⟩, ris_filter h _, ?_⟩
    · intro a ha b hb
      rw [List.mem_filter, decide_eq_true_eq] at ha
      rw [List.mem_singleton] at hb
      omega
    · intro a ha b hb
      rw [List.mem_filter, decide_eq_true_eq] at hb
      rw [List.mem_append, List.mem_filter, List.mem_singleton, decide_eq_true_eq] at ha
      rcases ha with ha | ha <;> omega
theorem mrg_ris : ∀ (l out : List Int), risP out → risP (mrgF out l)
  | [], out, h => h
  | n :: l, out, h => mrg_ris l (insI out n) (ins_ris h n)
theorem mrg_mem : ∀ (l out : List Int) (x : Int), x ∈ mrgF out l ↔ x ∈ out ∨ x ∈ l
  | [], out, x => by simp [mrgF]
  | n :: l, out, x => by
    have := mrg_mem l (insI out n) x
    show x ∈ mrgF (insI out n) l ↔ _
    rw [this, ins_mem, List.mem_cons]
    constructor
    · rintro ((h | h) | h)
      · exact Or.inr (Or.inl h)
      · exact Or.inl h
      · exact Or.inr (Or.inr h)
    · rintro (h | h | h)
      · exact Or.inl (Or.inr h)
      · exact Or.inl (Or.inl h)
      · exact Or.inr h
theorem mrgV_ris (ls : List (List Int)) : risP (mrgV ls) := mrg_ris _ _ ris_nil
theorem mrgV_mem {ls : List (List Int)} {x : Int} : x ∈ mrgV ls ↔ ∃ l ∈ ls, x ∈ l := by
  unfold mrgV
  rw [mrg_mem, List.mem_flatten]
  simp
theorem mrgV_eq {ls : List (List Int)} {m : List Int} (hr : risP m) (h : ∀ x, x ∈ m ↔ ∃ l ∈ ls, x ∈ l) : m = mrgV ls := ris_eq hr (mrgV_ris ls) fun x => by rw [h, mrgV_mem]
theorem mrg_snoc (out l : List Int) (n : Int) : mrgF out (l ++ [n]) = insI (mrgF out l) n := by unfold mrgF; rw [List.foldl_append]; rfl
/-- Where a number stands, or would. -/
def hasI (l : List Int) (n : Int) : Nat := l.findIdx fun x => decide (n ≤ x)
def hasB (l : List Int) (n : Int) : Bool := decide (n ∈ l)
theorem has_at {l : List Int} {i : Nat} {x n : Int} (hr : risP l) (hx : l[i]? = some x) (hn : n ≤ x) (h : ∀ y ∈ l.take i, y < n) : hasI l n = i ∧ hasB l n = (x == n) := by
  obtain ⟨hi, rfl⟩ := List.getElem?_eq_some_iff.1 hx
  constructor
  · unfold hasI
    rw [List.findIdx_eq hi]
    refine ⟨by simpa using hn, fun j hj => ?_⟩
    have := h l[j] (by rw [List.mem_take_iff_getElem]; exact ⟨j, by omega, rfl⟩)
    simpa using this
  · unfold hasB
    by_cases he : l[i] = n
    · rw [decide_eq_true (by rw [← he]; exact List.getElem_mem hi)]
      simp [he]
    · rw [decide_eq_false]
      · simp [he]
      · intro hm
        obtain ⟨j, hj, hjn⟩ := List.getElem_of_mem hm
        by_cases h1 : j < i
        · have := h l[j] (by rw [List.mem_take_iff_getElem]; exact ⟨j, by omega, rfl⟩)
          omega
        · by_cases h2 : j = i
          · subst h2; exact he hjn
          · have := ris_iff.1 hr i j _ _ (List.getElem?_eq_getElem hi) (List.getElem?_eq_getElem hj) (by omega)
            omega
theorem has_off {l : List Int} {n : Int} (h : ∀ y ∈ l, y < n) : hasI l n = l.length ∧ hasB l n = false := by
  constructor
  · unfold hasI
    rw [List.findIdx_eq_length]
    intro x hx
    have := h x hx
    simpa using this
  · unfold hasB
    rw [decide_eq_false]
    intro hm
    have := h n hm
    omega
end Go.Proofs.Ytjkhdfncahhnoaa
/- The greatest numbers of a vector: how many are picked, that they rise, who is left out, scaled and turned vectors. Plain mathematics. No program in sight. -/
namespace Go.Proofs.Ytjkhdfncahhnoaa
set_option maxRecDepth 100000
set_option linter.unusedVariables false
theorem pkF_up (v : List Int) (k : Nat) : (pkF v k).Pairwise (· < ·) := List.Pairwise.filter _ List.pairwise_lt_range
theorem pkF_nodup (v : List Int) (k : Nat) : (pkF v k).Nodup := (pkF_up v k).imp fun h => Nat.ne_of_lt h
theorem ordT_nodup (v : List Int) : (ordT v).Nodup := by
  unfold List.Nodup
  rw [List.pairwise_iff_getElem]
  intro i j hi hj hij e
  rw [ordT_len] at hi hj
  have h1 := ordT_at hi
  have h2 := ordT_at hj
  rw [List.getElem?_eq_getElem (by rw [ordT_len]; exact hi)] at h1
  rw [List.getElem?_eq_getElem (by rw [ordT_len]; exact hj)] at h2
  injection h1 with h1
  injection h2 with h2
  have e3 : atR v i = atR v j := by rw [← h1, ← h2, e]
  have h3 := (atR_is hi).2
  have h4 := (atR_is hj).2
  rw [e3] at h3
  omega
theorem pkF_perm {v : List Int} {k : Nat} (hk : k ≤ v.length) : (pkF v k).Perm ((ordT v).take k) :=
  (List.perm_ext_iff_of_nodup (pkF_nodup v k) (List.Pairwise.sublist (List.take_sublist _ _) (ordT_nodup v))).2 fun i => pkF_ord hk
theorem pkF_len {v : List Int} {k : Nat} (hk : k ≤ v.length) : (pkF v k).length = k := by
  rw [(pkF_perm hk).length_eq, List.length_take, ordT_len]
  omega
/-- As whole numbers. -/
def pkI (v : List Int) (k : Nat) : List Int := (pkF v k).map fun (i : Nat) => (i : Int)
theorem pkI_ris (v : List Int) (k : Nat) : risP (pkI v k) := by
  unfold pkI risP
  rw [List.pairwise_map]
  exact (pkF_up v k).imp fun h => by omega
theorem pkI_len {v : List Int} {k : Nat} (hk : k ≤ v.length) : (pkI v k).length = k := by unfold pkI; rw [List.length_map, pkF_len hk]
theorem pkI_mem {v : List Int} {k : Nat} {x : Int} : x ∈ pkI v k ↔ ∃ i : Nat, x = i ∧ i < v.length ∧ rkN v i < k := by
  unfold pkI
  rw [List.mem_map]
  constructor
  · rintro ⟨i, hi, rfl⟩
    exact ⟨i, rfl, pkF_mem.1 hi⟩
  · rintro ⟨i, rfl, h⟩
    exact ⟨i, pkF_mem.2 h, rfl⟩
theorem pk_more {v : List Int} {k m i : Nat} (h : k ≤ m) (hi : i ∈ pkF v k) : i ∈ pkF v m := by
  have := pkF_mem.1 hi
  exact pkF_mem.2 ⟨this.1, by omega⟩
theorem pk_all (v : List Int) : pkF v v.length = List.range v.length := by
  unfold pkF
  rw [List.filter_eq_self]
  intro i hi
  exact decide_eq_true (rkN_lt (List.mem_range.1 hi))
theorem pk_none (v : List Int) : pkF v 0 = [] := by
  unfold pkF
  rw [List.filter_eq_nil_iff]
  intro i hi
  simp
/-- Who is picked is ahead of who is left out. -/
theorem pk_ahead {v : List Int} {k i n : Nat} (hi : i ∈ pkF v k) (hn : n < v.length) (ho : n ∉ pkF v k) : ahB v i n = true := by
  have h1 := pkF_mem.1 hi
  have h2 : ¬ rkN v n < k := fun h => ho (pkF_mem.2 ⟨hn, h⟩)
  exact (rk_iff h1.1 hn).1 (by omega)
/-- Vectors whose sizes stand to one another alike are picked alike. -/
theorem rk_alike {v u : List Int} (hl : u.length = v.length) (h : ∀ i k, ahB u i k = ahB v i k) (i : Nat) : rkN u i = rkN v i := by
  have : ∀ m, rkM u i m = rkM v i m := by
    intro m
    induction m with
    | zero => rfl
    | succ m ih => rw [rkM, rkM, ih, h]
  unfold rkN
  rw [hl, this]
theorem pk_alike {v u : List Int} (hl : u.length = v.length) (h : ∀ i k, ahB u i k = ahB v i k) (k : Nat) : pkF u k = pkF v k := by
  unfold pkF
  rw [hl]
  congr 1
  funext i
  rw [rk_alike hl h]
theorem getD_map {f : Int → Int} (h0 : f 0 = 0) (v : List Int) (i : Nat) : (v.map f).getD i 0 = f (v.getD i 0) := by
  unfold List.getD
  rw [List.getElem?_map]
  cases v[i]? with
  | none => simp [h0]
  | some x => rfl
theorem ah_neg (v : List Int) (i k : Nat) : ahB (v.map fun n => -n) i k = ahB v i k := by
  unfold ahB szN
  rw [getD_map (by decide), getD_map (by decide), Int.natAbs_neg, Int.natAbs_neg]
theorem ah_scale {c : Int} (hc : 0 < c) (v : List Int) (i k : Nat) : ahB (v.map fun n => c * n) i k = ahB v i k := by
  unfold ahB szN
  rw [getD_map (by simp), getD_map (by simp), Int.natAbs_mul, Int.natAbs_mul]
  have hp : 0 < c.natAbs := by omega
  have e1 : ∀ a b : Nat, (c.natAbs * a < c.natAbs * b) ↔ a < b := fun a b => Nat.mul_lt_mul_left hp
  have e2 : ∀ a b : Nat, (c.natAbs * a = c.natAbs * b) ↔ a = b := fun a b => ⟨fun h => Nat.eq_of_mul_eq_mul_left hp h, fun h => by rw [h]⟩
  simp only [e1, e2]
end Go.Proofs.Ytjkhdfncahhnoaa
/- A heap of the greatest numbers met so far: what it holds, one by one. Plain mathematics. No program in sight. -/
namespace Go.Proofs.Ytjkhdfncahhnoaa
open Go.Sort
set_option maxRecDepth 100000
set_option linter.unusedVariables false
/-- A place with its number's size. -/
def ent (v : List Int) (i : Nat) : Nat × Nat := (i, szN (v.getD i 0))
theorem beh_ent {v : List Int} {i k : Nat} : beh (ent v i) (ent v k) = ahB v k i := by
  unfold beh ahB ent
  rw [← Bool.decide_and, ← Bool.decide_or]
  exact decide_eq_decide.2 (by constructor <;> rintro (h | ⟨h1, h2⟩) <;> first | exact .inl h | exact .inr ⟨h1.symm, h2⟩)
theorem getD_take {v : List Int} {m i : Nat} (h : i < m) : (v.take m).getD i 0 = v.getD i 0 := by
  rw [List.getD_eq_getElem?_getD, List.getD_eq_getElem?_getD, List.getElem?_take_of_lt h]
theorem ah_take {v : List Int} {m i k : Nat} (hi : i < m) (hk : k < m) : ahB (v.take m) i k = ahB v i k := by
  unfold ahB
  rw [getD_take hi, getD_take hk]
theorem rk_take {v : List Int} {m i : Nat} (hi : i < m) : ∀ q, q ≤ m → rkM (v.take m) i q = rkM v i q
  | 0, _ => rfl
  | q + 1, h => by rw [rkM, rkM, rk_take hi q (by omega), ah_take (by omega) hi]
theorem rkN_take {v : List Int} {m i : Nat} (hm : m ≤ v.length) (hi : i < m) : rkN (v.take m) i = rkM v i m := by
  unfold rkN
  rw [List.length_take, Nat.min_eq_left hm, rk_take hi m (Nat.le_refl _)]
theorem pk_take_mem {v : List Int} {m k i : Nat} (hm : m ≤ v.length) : i ∈ pkF (v.take m) k ↔ i < m ∧ rkM v i m < k := by
  rw [pkF_mem, List.length_take, Nat.min_eq_left hm]
  constructor
  · rintro ⟨h1, h2⟩
    exact ⟨h1, by rwa [rkN_take hm h1] at h2⟩
  · rintro ⟨h1, h2⟩
    exact ⟨h1, by rwa [rkN_take hm h1]⟩
theorem take_len' {v : List Int} {m : Nat} (hm : m ≤ v.length) : (v.take m).length = m := by rw [List.length_take, Nat.min_eq_left hm]
theorem pk_few {v : List Int} {m k : Nat} (hm : m ≤ v.length) (hk : m ≤ k) : pkF (v.take m) k = List.range m := by
  unfold pkF
  rw [take_len' hm, List.filter_eq_self]
  intro i hi
  have hi := List.mem_range.1 hi
  rw [rkN_take hm hi]
  exact decide_eq_true (Nat.lt_of_lt_of_le (rkM_lt v i m hi) hk)
/-- What the heap holds when m numbers have been met, k of them kept. -/
def ctn (v : List Int) (m k : Nat) : List (Nat × Nat) := (pkF (v.take m) k).map (ent v)
theorem ctn_zero (v : List Int) (k : Nat) : ctn v 0 k = [] := by
  unfold ctn pkF
  simp
theorem ctn_len {v : List Int} {m k : Nat} (hm : m ≤ v.length) : (ctn v m k).length = min m k := by
  unfold ctn
  rw [List.length_map]
  by_cases h : m ≤ k
  · rw [pk_few hm h, List.length_range, Nat.min_eq_left h]
  · rw [pkF_len (by rw [take_len' hm]; omega), Nat.min_eq_right (by omega)]
theorem ctn_all (v : List Int) (k : Nat) : ctn v v.length k = (pkF v k).map (ent v) := by unfold ctn; rw [List.take_length]
/-- One more is met while there is room. -/
theorem ctn_more {v : List Int} {m k : Nat} (hm : m < v.length) (h : m < k) : ctn v (m + 1) k = ctn v m k ++ [ent v m] := by
  unfold ctn
  rw [pk_few (by omega) (by omega), pk_few (by omega) (by omega), List.range_succ, List.map_append]
  rfl
theorem ent_inj (v : List Int) {i j : Nat} (h : ent v i = ent v j) : i = j := congrArg Prod.fst h
/-- One more is met where there is none: the one that goes is the one of all these that is behind all others. -/
theorem ctn_full {v : List Int} {m k : Nat} (hm : m < v.length) (h : k ≤ m) {x : Nat × Nat} {l : List (Nat × Nat)} (hp : (x :: l).Perm (ctn v m k ++ [ent v m])) (hx : ∀ y ∈ l, beh y x = false) : l.Perm (ctn v (m + 1) k) := by
  -- those that stay, as places
  have hT : ∀ i, i ∈ pkF (v.take (m + 1)) k → i ∈ pkF (v.take m) k ++ [m] := fun i hi => by
    obtain ⟨h1, h2⟩ := (pk_take_mem (by omega)).1 hi
    rw [List.mem_append, List.mem_singleton]
    by_cases e : i = m
    · exact .inr e
    · refine .inl ((pk_take_mem (by omega)).2 ⟨by omega, ?_⟩)
      have : rkM v i m ≤ rkM v i (m + 1) := by rw [rkM]; omega
      omega
  have hSn : (pkF (v.take m) k ++ [m]).Nodup := by
    rw [List.nodup_append]
    refine ⟨pkF_nodup _ _, by simp, fun a ha b hb e => ?_⟩
    rw [List.mem_singleton] at hb
    have := ((pk_take_mem (by omega)).1 ha).1
    omega
  have hSl : (pkF (v.take m) k ++ [m]).length = k + 1 := by
    rw [List.length_append, pkF_len (by rw [take_len' (by omega)]; omega)]
    rfl
  have hTl : (pkF (v.take (m + 1)) k).length = k := pkF_len (by rw [take_len' (by omega)]; omega)
  have hTn := pkF_nodup (v.take (m + 1)) k
  have hmap : ctn v m k ++ [ent v m] = (pkF (v.take m) k ++ [m]).map (ent v) := by unfold ctn; rw [List.map_append]; rfl
  rw [hmap] at hp
  -- the one that goes is a place, too
  obtain ⟨y, hy, rfl⟩ := List.mem_map.1 (hp.mem_iff.1 List.mem_cons_self)
  have hyT : y ∉ pkF (v.take (m + 1)) k := by
    intro hyT
    -- somebody is not among those that stay, and this one is ahead of y
    have hex : ∃ z, z ∈ pkF (v.take m) k ++ [m] ∧ z ∉ pkF (v.take (m + 1)) k := Classical.byContradiction fun hno => by
      have hsub : ∀ z, z ∈ pkF (v.take m) k ++ [m] → z ∈ pkF (v.take (m + 1)) k := fun z hz => Classical.byContradiction fun hn => hno ⟨z, hz, hn⟩
      have hperm := (List.perm_ext_iff_of_nodup hSn hTn).2 fun z => ⟨hsub z, hT z⟩
      have := hperm.length_eq
      omega
    obtain ⟨z, hz, hzT⟩ := hex
    have hzm : z < m + 1 := by
      rw [List.mem_append, List.mem_singleton] at hz
      rcases hz with hz | hz
      · have := ((pk_take_mem (by omega)).1 hz).1
        omega
      · omega
    have hym := (pk_take_mem (show m + 1 ≤ v.length by omega)).1 hyT
    have hzr : ¬ rkM v z (m + 1) < k := fun hlt => hzT ((pk_take_mem (by omega)).2 ⟨hzm, hlt⟩)
    have hne : z ≠ y := fun e => by rw [e] at hzT; exact hzT hyT
    have hah : ahB v y z = true := by
      rcases ah_tot (v := v) hne with h1 | h1
      · have := rkM_mono h1 (m + 1)
        omega
      · exact h1
    have hzl : ent v z ∈ l := by
      have := hp.mem_iff.2 (List.mem_map.2 ⟨z, hz, rfl⟩)
      rcases List.mem_cons.1 this with e | e
      · exact absurd (ent_inj v e) hne
      · exact e
    have := hx _ hzl
    rw [beh_ent, hah] at this
    cases this
  have hfin : (y :: pkF (v.take (m + 1)) k).Perm (pkF (v.take m) k ++ [m]) := by
    have hn1 : (y :: pkF (v.take (m + 1)) k).Nodup := List.nodup_cons.2 ⟨hyT, hTn⟩
    have hsub : (y :: pkF (v.take (m + 1)) k) ⊆ pkF (v.take m) k ++ [m] := fun z hz => by
      rcases List.mem_cons.1 hz with rfl | hz
      · exact hy
      · exact hT z hz
    refine (List.perm_ext_iff_of_nodup hn1 hSn).2 fun z => ⟨fun hz => hsub hz, fun hz => Classical.byContradiction fun hn => ?_⟩
    have hn2 : (z :: y :: pkF (v.take (m + 1)) k).Nodup := List.nodup_cons.2 ⟨hn, hn1⟩
    have := List.Nodup.length_le_of_subset hn2 (l₂ := pkF (v.take m) k ++ [m]) (fun q hq => by
      rcases List.mem_cons.1 hq with rfl | hq
      · exact hz
      · exact hsub hq)
    rw [hSl, List.length_cons, List.length_cons, hTl] at this
    omega
  have h2 := (hfin.map (ent v)).symm
  rw [List.map_cons] at h2
  exact (hp.trans h2).cons_inv
/-- The places of all that the heap holds, sorted. -/
theorem pk_sorted {v : List Int} {k : Nat} {l : List Int} (hp : l.Perm ((pkF v k).map fun (i : Nat) => (i : Int))) : l.mergeSort (fun x y => decide (x ≤ y)) = pkI v k := by
  have h1 := List.pairwise_mergeSort (le := fun x y : Int => decide (x ≤ y)) (fun a b c h1 h2 => by simp at *; omega) (fun a b => by simp; omega) l
  have h2 : (l.mergeSort (fun x y => decide (x ≤ y))).Perm (pkI v k) := (List.mergeSort_perm l _).trans hp
  refine List.Perm.eq_of_pairwise (le := fun x y : Int => x ≤ y) (fun a b _ _ h3 h4 => by omega) (h1.imp fun h => by simpa using h) ((pkI_ris v k).imp fun h => by omega) h2
/-- All in order, as the sort leaves them. -/
theorem ord_sorted {v : List Int} {l : List (Nat × Nat)} (hp : l.Perm ((List.range v.length).map (ent v))) (hs : l.Pairwise fun x y => beh x y = false) : l.map Prod.fst = ordT v := by
  have h1 : ((ordT v).map (ent v)).Perm ((List.range v.length).map (ent v)) := by
    refine List.Perm.map _ ?_
    rw [← pk_all]
    have := (pkF_perm (v := v) (Nat.le_refl v.length)).symm
    rwa [show (ordT v).take v.length = ordT v by rw [← ordT_len v, List.take_length]] at this
  have h2 : ((ordT v).map (ent v)).Pairwise fun x y => beh x y = false := by
    rw [List.pairwise_map]
    unfold ordT
    rw [List.pairwise_map]
    refine List.Pairwise.imp_of_mem (R := (· < ·)) (fun {a b} ha hb hab => ?_) List.pairwise_lt_range
    obtain ⟨a1, a2⟩ := atR_is (v := v) (List.mem_range.1 ha)
    obtain ⟨b1, b2⟩ := atR_is (v := v) (List.mem_range.1 hb)
    rw [beh_ent]
    exact ah_not ((rk_iff a1 b1).1 (by omega))
  have e : l = (ordT v).map (ent v) := List.Perm.eq_of_pairwise (le := fun x y => beh x y = false) (fun a b _ _ h3 h4 => beh_eq h3 h4) hs h2 (hp.trans h1.symm)
  rw [e, List.map_map]
  refine List.ext_getElem? fun i => ?_
  rw [List.getElem?_map]
  cases (ordT v)[i]? <;> rfl
end Go.Proofs.Ytjkhdfncahhnoaa
/- Words for bytes and numbers of 64 bits: their types, a list that a call tells. -/
namespace Go.Proofs.Ytjkhdfncahhnoaa
open Go.RowKit
set_option maxRecDepth 100000
set_option linter.unusedVariables false
theorem cells_u8 : Try.prog.cellsOf 5 = 1 := by kernel_rfl
theorem cells_u64 : Try.prog.cellsOf 37 = 1 := by kernel_rfl
theorem cells_i64' : Try.prog.cellsOf 2 = 1 := by kernel_rfl
theorem info_u8 : (Try.prog.info? 5).map (fun i => (i.zero, i.size, i.bytes)) = some (some (.int .u8 0), 1, 1) := by kernel_rfl
theorem info_u64 : (Try.prog.info? 37).map (fun i => (i.zero, i.size, i.bytes)) = some (some (.int .u64 0), 1, 8) := by kernel_rfl
/-- A call's answer: a list in memory that lies from base on; nothing below base has turned. -/
def OwnOf (t : TypeId) (k : IntKind) (base : Nat) (xs : List Int) (w : World) (e : Ending) (w' : World) : Prop :=
  ∃ A c, e = .returned (.slice A xs.length c) ∧ w'.ownsRow base t 1 (.slice A xs.length c) xs.length (xs.map (Value.int k)) ∧ Below base w w'
theorem OwnOf.onto {t : TypeId} {k : IntKind} {xs : List Int} {B : Nat} {w wl w' : World} {e : Ending} (h : OwnOf t k wl.heap.size xs wl e w') (hb : Below B w wl) (hB : B ≤ wl.heap.size) : OwnOf t k B xs w e w' := by
  obtain ⟨A, c, he, ho, hk⟩ := h
  exact ⟨A, c, he, own_base ho hB, hb.trans (hk.mono hB)⟩
/-- A call's answer: a list in memory of the call's own, and a number beside it (an error). -/
def OwnE (t : TypeId) (k : IntKind) (base : Nat) (xs : List Int) (er : Int) (w : World) (e : Ending) (w' : World) : Prop :=
  ∃ A c, e = .returned (.tuple #[.slice A xs.length c, .int .i64 er]) ∧ w'.ownsRow base t 1 (.slice A xs.length c) xs.length (xs.map (Value.int k)) ∧ Below base w w'
theorem OwnE.nil {t : TypeId} {k : IntKind} {base : Nat} {er : Int} {w w' : World} (hb : Below base w w') : OwnE t k base [] er w (.returned (.tuple #[.slice none 0 0, .int .i64 er])) w' := ⟨none, 0, rfl, own_nil _ _ _, hb⟩
theorem ret1 {k : IntKind} {x y : Int} (h : x = y) : Ending.returned (Value.int k x) = Ending.returned (Value.int k y) := by rw [h]
end Go.Proofs.Ytjkhdfncahhnoaa
/- Texts that are the same, lists of numbers that are, as the document tells them. -/
namespace Go.Proofs.Ytjkhdfncahhnoaa
open Go.RowKit
set_option maxHeartbeats 400000
set_option maxRecDepth 100000
set_option linter.unusedVariables false
theorem ref_SameNumbers {A B : Option Addr} {c d : Nat} (xs ys : List Int) (hx : xs.length ≤ 9223372036854775807) (hy : ys.length ≤ 9223372036854775807) (w : World)
    (ra : Rd (Value.int .u64) w w.heap.size A xs) (rb : Rd (Value.int .u64) w w.heap.size B ys) :
    Calls Try.prog 39 #[.slice A xs.length c, .slice B ys.length d] w fun e w' => e = .returned (.bool (eqB xs ys)) ∧ Below w.heap.size w w' := by
  by_cases hl : xs.length = ys.length
  · have HA := hid ra
    have HB := hid rb
    clear ra rb
    have h1 : ((xs.length : Int) != (ys.length : Int)) = false := by simp; omega
    have h2 : (xs.length != ys.length) = false := by simp; omega
    have HL := hid hl
    clear hl
    go_enter Try.func39, Try.ntmps39
    go_wp2_with fail
    clear h1 h2
    go_loopw [13] (fun i wr => ∃ k : Nat, k ≤ xs.length ∧ i = .int .i64 k ∧ xs.take k = ys.take k ∧ Below w.heap.size w wr) (fun i _ => xs.length - (intOf i).toNat)
    case atStart => exact ⟨0, by omega, rfl, rfl, Below.refl _ _⟩
    case round =>
      obtain ⟨k, hk, rfl, ht, hb⟩ := hrel
      have HT := hid ht
      clear ht
      by_cases hlt : k < xs.length
      · have hlt2 : k < ys.length := by have := HL.out; omega
        obtain ⟨b1, o1, x, rfl, l1, ex, c1⟩ := (HA.out.below hb).at_ hlt
        obtain ⟨b2, o2, y, rfl, l2, ey, c2⟩ := (HB.out.below hb).at_ hlt2
        have EX := hid ex
        have EY := hid ey
        clear ex ey
        by_cases e : x = y
        · have e' : (x != y) = false := by simpa using e
          have E := hid e
          clear e
          go_wp2_with fail
          go_quiet (fail)
          go_wp2_with fail
          go_roundw
          case rel => exact ⟨k + 1, by omega, by go_num, take_step HT.out EX.out EY.out E.out, hb.trans (belowN _ _ _)⟩
          case measure => simp [intOf]; omega
        · have e' : (x != y) = true := by simpa using e
          go_wp2_with fail
          go_quiet (fail)
          go_wp2_with fail
          go_ret
          rw [eqB_no EX.out EY.out e]
          exact ⟨rfl, hb.trans (belowN _ _ _)⟩
      · have hke : k = xs.length := by omega
        have HK := hid hke
        clear hke
        go_wp2_with fail
        go_ret
        rw [eqB_yes HT.out HK.out HL.out]
        exact ⟨rfl, hb⟩
  · rw [eqB_len hl]
    have h1 : ((xs.length : Int) != (ys.length : Int)) = true := by simp; omega
    have h2 : (xs.length != ys.length) = true := by simp; omega
    go_enter Try.func39, Try.ntmps39
    go_wp2_with fail
    go_ret
    exact ⟨rfl, Below.refl _ _⟩
/-- What is told the same is found the same. -/
def SameB (P : Program) (f : FuncId) (X : List Int) : Prop := ∀ (A B : Option Addr) (c d : Nat) (W : World) (L M : Nat), Rd (Value.int .u8) W L A X → Rd (Value.int .u8) W M B X → Calls P f #[.slice A X.length c, .slice B X.length d] W fun e w' => e = .returned (.bool true) ∧ W = w'
/-- .. of numbers. -/
def SameN (P : Program) (f : FuncId) (X : List Int) : Prop := ∀ (A B : Option Addr) (c d : Nat) (W : World), Rd (Value.int .u64) W W.heap.size A X → Rd (Value.int .u64) W W.heap.size B X → Calls P f #[.slice A X.length c, .slice B X.length d] W fun e w' => e = .returned (.bool true) ∧ Below W.heap.size W w'
theorem samen_yes {X : List Int} (hx : X.length ≤ 9223372036854775807) : SameN Try.prog 39 X := fun A B c d W h1 h2 => by
  have := ref_SameNumbers (A := A) (B := B) (c := c) (d := d) X X hx hx W h1 h2
  rwa [eqB_self] at this
end Go.Proofs.Ytjkhdfncahhnoaa
/- Lists that are the same, by the document (thrumref06). -/
namespace Go.Proofs.Ytjkhdfncahhnoaa
open Go.RowKit
set_option maxHeartbeats 400000
set_option maxRecDepth 100000
set_option linter.unusedVariables false
theorem info_int : (Try.prog.info? 3).map (fun i => (i.zero, i.size, i.bytes)) = some (some (.int .i64 0), 1, 8) := by kernel_rfl
theorem cells_int : Try.prog.cellsOf 3 = 1 := by kernel_rfl
theorem cells_ints : Try.prog.cellsOf 23 = 1 := by kernel_rfl
theorem drewN_two (w : World) (n m : Nat) : ∃ k, (w.drewN n).drewN m = w.drewN k := ⟨n + m, by simp⟩
theorem ref_Equal {A B : Option Addr} {c d : Nat} (xs ys : List Int) (hx : xs.length ≤ 9223372036854775807) (hy : ys.length ≤ 9223372036854775807) (w : World) {L M : Nat}
    (ra : Rd (Value.int .i64) w L A xs) (rb : Rd (Value.int .i64) w M B ys) :
    Calls Try.prog 19 #[.slice A xs.length c, .slice B ys.length d] w fun e w' => e = .returned (.bool (eqB xs ys)) ∧ ∃ n, w' = w.drewN n := by
  by_cases hl : xs.length = ys.length
  · have HA := hid ra
    have HB := hid rb
    clear ra rb
    have h1 : ((xs.length : Int) != (ys.length : Int)) = false := by simp; omega
    have h2 : (xs.length != ys.length) = false := by simp; omega
    have HL := hid hl
    clear hl
    go_enter Try.func19, Try.ntmps19
    go_wp2_with fail
    clear h1 h2
    go_loopw [13] (fun i wr => ∃ k : Nat, k ≤ xs.length ∧ i = .int .i64 k ∧ xs.take k = ys.take k ∧ ∃ n, wr = w.drewN n) (fun i _ => xs.length - (intOf i).toNat)
    case atStart => exact ⟨0, by omega, rfl, rfl, 0, rfl⟩
    case round =>
      obtain ⟨k, hk, rfl, ht, n, rfl⟩ := hrel
      have HT := hid ht
      clear ht
      by_cases hlt : k < xs.length
      · have hlt2 : k < ys.length := by have := HL.out; omega
        obtain ⟨b1, o1, x, rfl, l1, ex, c1⟩ := HA.out.at_ hlt
        obtain ⟨b2, o2, y, rfl, l2, ey, c2⟩ := HB.out.at_ hlt2
        have EX := hid ex
        have EY := hid ey
        clear ex ey
        by_cases e : x = y
        · have e' : (x != y) = false := by simpa using e
          have E := hid e
          clear e
          go_wp2_with fail
          go_quiet (fail)
          go_wp2_with fail
          go_roundw
          case rel => exact ⟨k + 1, by omega, by go_num, take_step HT.out EX.out EY.out E.out, _, rfl⟩
          case measure => simp [intOf]; omega
        · have e' : (x != y) = true := by simpa using e
          go_wp2_with fail
          go_quiet (fail)
          go_wp2_with fail
          go_ret
          rw [eqB_no EX.out EY.out e]
          exact ⟨rfl, drewN_two _ _ _⟩
      · have hke : k = xs.length := by omega
        have HK := hid hke
        clear hke
        go_wp2_with fail
        go_ret
        rw [eqB_yes HT.out HK.out HL.out]
        exact ⟨rfl, _, rfl⟩
  · rw [eqB_len hl]
    have h1 : ((xs.length : Int) != (ys.length : Int)) = true := by simp; omega
    have h2 : (xs.length != ys.length) = true := by simp; omega
    go_enter Try.func19, Try.ntmps19
    go_wp2_with fail
    go_ret
    exact ⟨rfl, 0, rfl⟩
end Go.Proofs.Ytjkhdfncahhnoaa
/- Lists that are the same, that rise, places of a dimension, where a number stands: by the document. -/
namespace Go.Proofs.Ytjkhdfncahhnoaa
open Go.RowKit
set_option maxHeartbeats 400000
set_option maxRecDepth 100000
set_option linter.unusedVariables false
theorem ris_small {l : List Int} (h : l.length ≤ 1) : risP l := by
  cases l with
  | nil => exact ris_nil
  | cons x l => cases l with
    | nil => exact ris_one x
    | cons y l => simp at h
theorem ref_in {A : Option Addr} {c : Nat} (l : List Int) (n : Int) (hl : l.length ≤ 9223372036854775807) (w : World) {B : Nat} (ra : Rd (Value.int .i64) w B A l) :
    Calls Try.prog 54 #[.slice A l.length c, .int .i64 n] w fun e w' => e = .returned (.bool (hasB l n)) ∧ w = w' := by
  have HA := hid ra
  have HY : Hid (n ∈ l → hasB l n = true) := hid (fun h => decide_eq_true h)
  have HN : Hid (n ∉ l → hasB l n = false) := hid (fun h => decide_eq_false h)
  obtain ⟨R, hR⟩ : ∃ R, hasB l n = R := ⟨_, rfl⟩
  rw [hR] at HY HN ⊢
  clear ra hR
  go_enter Try.func54, Try.ntmps54
  go_wp2_with fail
  go_loop [6, 9] (fun x0 i => ∃ k : Nat, k ≤ l.length ∧ i = .int .i64 k ∧ n ∉ l.take k) (fun _ i => l.length - (intOf i).toNat)
  case atStart => exact ⟨0, by omega, rfl, by simp⟩
  case round =>
    obtain ⟨k, hk, rfl, ht⟩ := hrel
    have HT := hid ht
    clear ht
    by_cases hlt : k < l.length
    · obtain ⟨b1, o1, y, rfl, l1, ey, c1⟩ := HA.out.at_ hlt
      have EY := hid ey
      clear ey
      by_cases a : y = n
      · have hR := HY.out (by rw [← a]; exact List.mem_of_getElem? EY.out)
        subst hR
        have a' : (y == n) = true := by simpa using a
        clear a
        go_wp2_with fail
        go_ret
        exact ⟨rfl, rfl⟩
      · have a' : (y == n) = false := by simpa using a
        go_wp2_with fail
        go_round
        case rel =>
          refine ⟨k + 1, by omega, by go_num, ?_⟩
          rw [take_snoc EY.out]
          intro hz
          rcases List.mem_append.1 hz with hz | hz
          · exact HT.out hz
          · simp at hz; omega
        case measure => simp [intOf]; omega
    · have hR := HN.out (by have h := HT.out; rw [List.take_of_length_le (by omega)] at h; exact h)
      subst hR
      go_wp2_with fail
      go_ret
      exact ⟨rfl, rfl⟩
end Go.Proofs.Ytjkhdfncahhnoaa
/- leb's functions that tell numbers alone, and a code behind a text of the call's own. -/
namespace Go.Proofs.Ytjkhdfncahhnoaa
open Go.RowKit
set_option maxHeartbeats 400000
set_option maxRecDepth 100000
set_option linter.unusedVariables false
theorem not_i64 {n : Int} (h : I64 n) : bits BinOp.xor IntKind.i64 (-1) n = -n - 1 := by
  unfold I64 at h
  show IntKind.i64.wrap ((BitVec.ofInt 64 (-1) ^^^ BitVec.ofInt 64 n).toNat : Int) = _
  rw [show BitVec.ofInt 64 (-1) = BitVec.allOnes 64 from rfl, BitVec.allOnes_xor, BitVec.toNat_not, BitVec.toNat_ofInt, IntKind.wrap_i64]
  omega
theorem or_one {m : Int} (h0 : 0 ≤ m) (h1 : m ≤ 9223372036854775807) : bits BinOp.or IntKind.u64 (m * 2) 1 = m * 2 + 1 :=
  bits_join .u64 64 (by decide) (fun n h0 h1 => by rw [IntKind.wrap_u64]; omega) 1 _ _ (by omega) (by omega) (by omega) (by omega) (by omega) (by omega)
theorem or_more (x : Int) : bits BinOp.or IntKind.u8 (x % 256) 128 = x % 128 + 128 := by
  have hd : ∀ b : Fin 256, bits BinOp.or IntKind.u8 (b.val : Int) 128 = (b.val : Int) % 128 + 128 := by decide +kernel
  have := hd ⟨(x % 256).toNat, by omega⟩
  simp only at this
  rw [show (((x % 256).toNat : Nat) : Int) = x % 256 by omega] at this
  rw [this]
  omega
end Go.Proofs.Ytjkhdfncahhnoaa
/- Texts that are the same; a number got, signed and not, by the program and by the document. -/
namespace Go.Proofs.Ytjkhdfncahhnoaa
open Go.RowKit
set_option maxHeartbeats 400000
set_option maxRecDepth 100000
set_option linter.unusedVariables false
theorem or_comm_u64 (x y : Int) : bits .or .u64 x y = bits .or .u64 y x := by
  show IntKind.u64.wrap ((BitVec.ofInt 64 x ||| BitVec.ofInt 64 y).toNat : Int) = IntKind.u64.wrap ((BitVec.ofInt 64 y ||| BitVec.ofInt 64 x).toNat : Int)
  rw [BitVec.or_comm]
theorem or_put {n x : Int} {k : Nat} (h0 : 0 ≤ x) (h1 : x ≤ 127) (hk : k ≤ 9) (h9 : k = 9 → x ≤ 1) (hn0 : 0 ≤ n) (hn : n < 2 ^ (7 * k)) : bits BinOp.or IntKind.u64 n (x * 2 ^ (7 * k)) = n + x * 2 ^ (7 * k) := by
  have hb := shl_in h0 h1 hk h9
  have hp := pow7_pos k
  have h3 : (2 : Int) ^ (7 * k) ≤ 2 ^ 63 := by
    have := Nat.pow_le_pow_right (show 0 < 2 by decide) (show 7 * k ≤ 63 by omega)
    exact_mod_cast this
  rw [or_comm_u64, bits_join .u64 64 (by decide) (fun n h0 h1 => by rw [IntKind.wrap_u64]; omega) (7 * k) _ _ hb.1 (Int.mul_emod_left _ _) (by omega) hn0 hn (by omega)]
  omega
theorem get_short {b : List Int} {a : Int} (ha : (b.length : Int) ≤ a) : getN b a = 0 ∧ getE b a = 5 ∧ getA b a = 0 :=
  get_out (v := 0) (s := 0) (e := 5) (by omega) (by rw [List.drop_eq_nil_of_le (by omega)]; rfl)
theorem get_arg {b : List Int} {a : Int} (ha : a < 0) : getN b a = 0 ∧ getE b a = 1 ∧ getA b a = 0 := by
  unfold getA getN getE
  simp [ha]
theorem drop_at {D : List Int} {k : Nat} {x : Int} (h : D[k]? = some x) : D.drop k = x :: D.drop (k + 1) := by
  obtain ⟨hk, rfl⟩ := List.getElem?_eq_some_iff.1 h
  exact List.drop_eq_getElem_cons hk
theorem gl_next {D : List Int} {k : Nat} {x n : Int} (h : D[k]? = some x) (hx : 128 ≤ x) (hk : k ≤ 8) : gL (D.drop k) k n = gL (D.drop (k + 1)) (k + 1) (n + x % 128 * 2 ^ (7 * k)) := by
  rw [drop_at h, gL, if_neg (by omega), if_neg (by omega)]
theorem gl_nine {D : List Int} {x n : Int} (h : D[9]? = some x) (hx : 1 < x) : gL (D.drop 9) 9 n = (0, 0, 6) := by
  rw [drop_at h, gL, if_pos ⟨rfl, hx⟩]
theorem gl_zero {D : List Int} {k : Nat} {n : Int} (h : D[k]? = some 0) (hk : 0 < k) : gL (D.drop k) k n = (0, 0, 6) := by
  rw [drop_at h, gL, if_neg (by omega), if_pos (by omega), if_pos ⟨hk, rfl⟩]
theorem gl_last {D : List Int} {k : Nat} {x n : Int} (h : D[k]? = some x) (hx : x < 128) (h9 : k = 9 → x ≤ 1) (h0 : k = 0 ∨ x ≠ 0) : gL (D.drop k) k n = (n + x % 128 * 2 ^ (7 * k), ((k + 1 : Nat) : Int), 0) := by
  rw [drop_at h, gL, if_neg (by omega), if_pos hx, if_neg (by omega)]
theorem gl_end {D : List Int} {k : Nat} {n : Int} (h : D.length ≤ k) : gL (D.drop k) k n = (0, 0, 5) := by
  rw [List.drop_eq_nil_of_le h, gL]
theorem or_part {n x : Int} {k : Nat} (hx : 0 ≤ x ∧ x ≤ 255) (hk : k ≤ 9) (h9 : k = 9 → x ≤ 1) (hn0 : 0 ≤ n) (hn : n < 2 ^ (7 * k)) :
    bits BinOp.or IntKind.u64 n (IntKind.u64.wrap (x % 128 * 2 ^ (7 * k))) = n + x % 128 * 2 ^ (7 * k) := by
  have h := shl_in (x := x % 128) (k := k) (by omega) (by omega) hk (fun e => by have := h9 e; omega)
  rw [show IntKind.u64.wrap (x % 128 * 2 ^ (7 * k)) = x % 128 * 2 ^ (7 * k) by rw [IntKind.wrap_u64]; omega]
  exact or_put (by omega) (by omega) hk (fun e => by have := h9 e; omega) hn0 hn
theorem ret3 {k k' k'' : IntKind} {x y z x' y' z' : Int} (h1 : x = x') (h2 : y = y') (h3 : z = z') : Ending.returned (Value.tuple #[.int k x, .int k' y, .int k'' z]) = Ending.returned (Value.tuple #[.int k x', .int k' y', .int k'' z']) := by rw [h1, h2, h3]
end Go.Proofs.Ytjkhdfncahhnoaa
/- Numbers put and got, one behind the other, by the program and by the document. -/
namespace Go.Proofs.Ytjkhdfncahhnoaa
open Go.RowKit
set_option maxHeartbeats 400000
set_option maxRecDepth 100000
set_option linter.unusedVariables false
theorem encs_step {l : List Int} {k : Nat} {x : Int} (h : l[k]? = some x) : encs (l.take (k + 1)) = encs (l.take k) ++ lebI x := by
  rw [List.take_add_one, h, encs_app]
  congr 1
  exact encs_one x
theorem encs_take {l : List Int} (h : U64s l) (k : Nat) : (encs (l.take k)).length ≤ 10 * l.length := by
  have h1 := encs_len (h.take k)
  have : (l.take k).length ≤ l.length := by rw [List.length_take]; omega
  omega
end Go.Proofs.Ytjkhdfncahhnoaa
/- Signed numbers put; numbers put by the document; one got signed; many got; lists that are the same. -/
namespace Go.Proofs.Ytjkhdfncahhnoaa
open Go.RowKit
set_option maxHeartbeats 400000
set_option maxRecDepth 100000
set_option linter.unusedVariables false
theorem encs_zig_step {l : List Int} {k : Nat} {x : Int} (h : l[k]? = some x) : encs ((l.take (k + 1)).map zigI) = encs ((l.take k).map zigI) ++ lebI (zigI x) := by
  rw [List.take_add_one, h, List.map_append, encs_app]
  congr 1
  exact encs_one _
end Go.Proofs.Ytjkhdfncahhnoaa
/- Places written and read, by the document. -/
namespace Go.Proofs.Ytjkhdfncahhnoaa
open Go.RowKit
set_option maxHeartbeats 400000
set_option maxRecDepth 100000
set_option linter.unusedVariables false
/-- A call's answer: places of the call's own, where it ends, an error. -/
def OwnG (r : List Int × Int × Int) (w : World) (e : Ending) (w' : World) : Prop :=
  ∃ A c, e = .returned (.tuple #[.slice A r.1.length c, .int .i64 r.2.1, .int .i64 r.2.2]) ∧ w'.ownsRow w.heap.size 3 1 (.slice A r.1.length c) r.1.length (r.1.map (Value.int .i64)) ∧ Below w.heap.size w w'
theorem OwnG.nil {er : Int} {w w' : World} (hb : Below w.heap.size w w') : OwnG ([], 0, er) w (.returned (.tuple #[.slice none 0 0, .int .i64 0, .int .i64 er])) w' := ⟨none, 0, rfl, own_nil _ _ _, hb⟩
theorem plc_take {dim : Int} {l : List Int} (h : plcP dim l) (k : Nat) : plcP dim (l.take k) := ⟨h.1, h.2.1, ris_take h.2.2.1 k, fun n hn => h.2.2.2 n (List.mem_of_mem_take hn)⟩
/-- The codes of how many there are, and of the first ones. -/
def putK (l : List Int) (k : Nat) : List Int := encs ((l.length : Int) :: gapsF (-1) (l.take k))
theorem putK_step {l : List Int} {k : Nat} {x : Int} (h : l[k]? = some x) : putK l (k + 1) = putK l k ++ encs [x - lastI (-1) (l.take k) - 1] := by
  unfold putK
  rw [putL_step h, ← List.cons_append, encs_app]
theorem putK_len {dim : Int} {l : List Int} (h : plcP dim l) (k : Nat) : (putK l k).length ≤ 41000 := by
  have h1 := plc_le h
  have h2 := plc_le (plc_take h k)
  have hd := h.2.1
  have hu : U64s ((l.length : Int) :: gapsF (-1) (l.take k)) := by
    have hp := plc_take h k
    intro x hx
    rcases List.mem_cons.1 hx with rfl | hx
    · unfold U64; omega
    · exact gaps_u64 _ (-1) (plc_cons hp) (by omega) (fun n hn => by have := hp.2.2.2 n hn; omega) x hx
  have := encs_len hu
  unfold putK
  rw [List.length_cons, gaps_len] at this
  omega
theorem putK_all (l : List Int) : putK l l.length = encs (putL l) := by unfold putK putL; rw [List.take_length]
theorem gix_cases {dim : Int} {b : List Int} {a : Int} (h1 : 1 ≤ dim) (h2 : dim ≤ 4096) : (getE b a ≠ 0 → gixR dim b a = ([], 0, getE b a)) ∧ (getE b a = 0 → dim < getN b a → gixR dim b a = ([], 0, 6)) ∧
    (getE b a = 0 → getN b a ≤ dim → withL [] (ixL dim b (getN b a).toNat (-1) (getA b a)) = gixR dim b a) := by
  unfold gixR
  rw [if_neg (by omega)]
  refine ⟨fun h => if_pos h, fun h h3 => ?_, fun h h3 => ?_⟩
  · have h' : ¬ getE b a ≠ 0 := fun hn => hn h
    rw [if_neg h', if_pos h3]
  · have h' : ¬ getE b a ≠ 0 := fun hn => hn h
    rw [if_neg h', if_neg (by omega)]
    exact withL_nil (ixL_bad dim b _ _ _)
end Go.Proofs.Ytjkhdfncahhnoaa
/- Lists of lists in memory, by their slices; part of them and turned round. -/
namespace Go.Proofs.Ytjkhdfncahhnoaa
open Go.RowKit
set_option maxRecDepth 100000
set_option linter.unusedVariables false
/-- A slice of slices at A reads as these lists. -/
def RdRows (w : World) (B : Nat) (A : Option Addr) (rows : List (List Int)) : Prop :=
  ∀ k xs, rows[k]? = some xs → ∃ b off A' c', A = some ⟨b, off, none⟩ ∧ b < B ∧ w.cell? ⟨b, off + k, none⟩ = some (.slice A' xs.length c') ∧ Rd (Value.int .i64) w B A' xs
theorem RdRows.below {w w' : World} {B : Nat} {A : Option Addr} {rows : List (List Int)} (h : RdRows w B A rows) (hb : Below B w w') : RdRows w' B A rows := fun k xs hx => by
  obtain ⟨b, off, A', c', e, hl, hc, hr⟩ := h k xs hx
  exact ⟨b, off, A', c', e, hl, (hb.cell (p := ⟨b, off + k, none⟩) hl).trans hc, hr.below hb⟩
theorem RdRows.more {w : World} {B B' : Nat} {A : Option Addr} {rows : List (List Int)} (h : RdRows w B A rows) (hB : B ≤ B') : RdRows w B' A rows := fun k xs hx => by
  obtain ⟨b, off, A', c', e, hl, hc, hr⟩ := h k xs hx
  exact ⟨b, off, A', c', e, by omega, hc, hr.more hB⟩
theorem RdRows.on {w w' : World} {A : Option Addr} {rows : List (List Int)} (h : RdRows w w.heap.size A rows) (hb : Below w.heap.size w w') : RdRows w' w'.heap.size A rows := (h.below hb).more hb.size
/-- A slice's three parts. -/
abbrev Sl := Option Addr × Nat × Nat
def encS (p : Sl) : Value := .slice p.1 p.2.1 p.2.2
theorem encS_one (p : Sl) : (encS p).oneCell' = true := rfl
/-- The slices by which lists lie in memory. -/
def Fits (w : World) (B : Nat) (ps : List Sl) (rows : List (List Int)) : Prop := ps.length = rows.length ∧ ∀ (k : Nat) (p : Sl) (xs : List Int), ps[k]? = some p → rows[k]? = some xs → p.2.1 = xs.length ∧ Rd (Value.int .i64) w B p.1 xs
theorem rows_split {w : World} {B : Nat} {A : Option Addr} : ∀ {rows : List (List Int)}, RdRows w B A rows → ∃ ps, Rd encS w B A ps ∧ Fits w B ps rows := by
  intro rows h
  have key : ∀ k, k ≤ rows.length → ∃ ps : List Sl, Rd encS w B A ps ∧ Fits w B ps (rows.take k) := by
    intro k
    induction k with
    | zero => exact fun _ => ⟨[], Rd.none_, by simp, fun k p xs hp => by simp at hp⟩
    | succ k ih =>
      intro hk
      obtain ⟨ps, h1, h2, h3⟩ := ih (by omega)
      have hu : rows[k]? = some rows[k] := List.getElem?_eq_getElem (by omega)
      obtain ⟨b, off, A', c', e, hl, hc, hr⟩ := h k _ hu
      have hlen : ps.length = k := by rw [h2, List.length_take]; omega
      refine ⟨ps ++ [(A', rows[k].length, c')], ?_, ?_, ?_⟩
      · intro j p hp
        by_cases hj : j < ps.length
        · rw [List.getElem?_append_left hj] at hp
          exact h1 j p hp
        · have hj2 : j = k := by
            have := (List.getElem?_eq_some_iff.1 hp).1
            simp at this; omega
          subst hj2
          rw [List.getElem?_append_right (by omega), hlen] at hp
          simp at hp
          subst hp
          exact ⟨b, off, e, hl, hc⟩
      · rw [List.length_append, hlen, List.length_take]; simp; omega
      · intro j p xs hp hx
        by_cases hj : j < ps.length
        · rw [List.getElem?_append_left hj] at hp
          refine h3 j p xs hp ?_
          rw [List.getElem?_take_of_lt (by omega)] at hx ⊢
          exact hx
        · have hj2 : j = k := by
            have := (List.getElem?_eq_some_iff.1 hp).1
            simp at this; omega
          subst hj2
          rw [List.getElem?_append_right (by omega), hlen] at hp
          rw [List.getElem?_take_of_lt (by omega), hu] at hx
          simp at hp hx
          subst hp
          subst hx
          exact ⟨rfl, hr⟩
  obtain ⟨ps, h1, h2⟩ := key rows.length (Nat.le_refl _)
  rw [List.take_of_length_le (Nat.le_refl _)] at h2
  exact ⟨ps, h1, h2⟩
theorem rows_join {w : World} {B : Nat} {A : Option Addr} {ps : List Sl} {rows : List (List Int)} (h : Rd encS w B A ps) (hf : Fits w B ps rows) : RdRows w B A rows := fun k xs hx => by
  have hk : k < ps.length := by rw [hf.1]; exact (List.getElem?_eq_some_iff.1 hx).1
  obtain ⟨b, off, e, hl, hc⟩ := h k ps[k] (List.getElem?_eq_getElem hk)
  obtain ⟨h1, h2⟩ := hf.2 k _ xs (List.getElem?_eq_getElem hk) hx
  refine ⟨b, off, ps[k].1, ps[k].2.2, e, hl, ?_, h2⟩
  rw [hc]
  unfold encS
  rw [h1]
theorem fits_on {w w' : World} {B : Nat} {ps : List Sl} {rows : List (List Int)} (h : Fits w B ps rows) (hb : Below B w w') : Fits w' B ps rows := ⟨h.1, fun k p xs hp hx => ⟨(h.2 k p xs hp hx).1, (h.2 k p xs hp hx).2.below hb⟩⟩
theorem fits_more {w : World} {B B' : Nat} {ps : List Sl} {rows : List (List Int)} (h : Fits w B ps rows) (hB : B ≤ B') : Fits w B' ps rows := ⟨h.1, fun k p xs hp hx => ⟨(h.2 k p xs hp hx).1, (h.2 k p xs hp hx).2.more hB⟩⟩
theorem fits_reverse {w : World} {B : Nat} {ps : List Sl} {rows : List (List Int)} (h : Fits w B ps rows) : Fits w B ps.reverse rows.reverse := by
  refine ⟨by simp [h.1], fun k p xs hp hx => ?_⟩
  have hk : k < ps.length := by have := (List.getElem?_eq_some_iff.1 hp).1; simpa using this
  rw [List.getElem?_reverse hk] at hp
  rw [List.getElem?_reverse (by rw [← h.1]; exact hk), ← h.1] at hx
  exact h.2 _ p xs hp hx
theorem rows_tail {w : World} {B b off : Nat} {v : List Int} {r : List (List Int)} (h : RdRows w B (some ⟨b, off, none⟩) (v :: r)) : RdRows w B (some ⟨b, off + 1, none⟩) r := fun k xs hx => by
  obtain ⟨b', off', A', c', e, hl, hc, hr⟩ := h (k + 1) xs (by rw [List.getElem?_cons_succ]; exact hx)
  have e2 := Option.some.inj e
  simp only [Addr.mk.injEq] at e2
  obtain ⟨rfl, rfl, _⟩ := e2
  exact ⟨b, off + 1, A', c', rfl, hl, by rw [show off + 1 + k = off + (k + 1) by omega]; exact hc, hr⟩
theorem rows_two {A B : Option Addr} {c d : Nat} (xs ys : List Int) (W : World) (ra : Rd (Value.int .i64) W W.heap.size A xs) (rb : Rd (Value.int .i64) W W.heap.size B ys) (t : TypeId) :
    RdRows (W.alloc (.cells #[.slice A xs.length c, .slice B ys.length d] t)) (W.alloc (.cells #[.slice A xs.length c, .slice B ys.length d] t)).heap.size (some ⟨W.heap.size, 0, none⟩) [xs, ys] := fun k zs hz => by
  have hb : Below W.heap.size W (W.alloc (.cells #[.slice A xs.length c, .slice B ys.length d] t)) := (Below.refl _ _).alloc (Nat.le_refl _) _
  have hn := heap_alloc_new W (.cells #[.slice A xs.length c, .slice B ys.length d] t)
  have hlt : W.heap.size < (W.alloc (.cells #[.slice A xs.length c, .slice B ys.length d] t)).heap.size := (Array.getElem?_eq_some_iff.1 hn).1
  match k, hz with
  | 0, hz =>
    obtain rfl : xs = zs := by simpa using hz
    exact ⟨_, 0, A, c, rfl, hlt, by rw [cell_of_row _ _ _ _ t (0, 0) hn]; rfl, ra.on hb⟩
  | 1, hz =>
    obtain rfl : ys = zs := by simpa using hz
    exact ⟨_, 0, B, d, rfl, hlt, by rw [cell_of_row _ _ _ _ t (0, 0) hn]; rfl, rb.on hb⟩
  | k + 2, hz => simp at hz
theorem rows_one {A : Option Addr} {c : Nat} (xs : List Int) (W : World) (ra : Rd (Value.int .i64) W W.heap.size A xs) (t : TypeId) :
    RdRows (W.alloc (.cells #[.slice A xs.length c] t)) (W.alloc (.cells #[.slice A xs.length c] t)).heap.size (some ⟨W.heap.size, 0, none⟩) [xs] := fun k zs hz => by
  have hb : Below W.heap.size W (W.alloc (.cells #[.slice A xs.length c] t)) := (Below.refl _ _).alloc (Nat.le_refl _) _
  have hn := heap_alloc_new W (.cells #[.slice A xs.length c] t)
  have hlt : W.heap.size < (W.alloc (.cells #[.slice A xs.length c] t)).heap.size := (Array.getElem?_eq_some_iff.1 hn).1
  match k, hz with
  | 0, hz =>
    obtain rfl : xs = zs := by simpa using hz
    exact ⟨_, 0, A, c, rfl, hlt, by rw [cell_of_row _ _ _ _ t (0, 0) hn]; rfl, ra.on hb⟩
  | k + 1, hz => simp at hz
end Go.Proofs.Ytjkhdfncahhnoaa
