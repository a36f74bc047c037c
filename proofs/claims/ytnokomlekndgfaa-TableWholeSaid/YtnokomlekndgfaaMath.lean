
/-
  Plain facts on whole numbers of 64 bits, checked sums and wraps. No program in sight.
-/
import Derived.WalkKit
import Derived.OpenShut
namespace Go.Proofs.Ytnokomlekndgfaa
open Go.RowKit

/-- Kept from the walk, which takes every equation that stands open for a rule. -/
theorem hid {p : Prop} (h : p) : Hid p := h

/-- The numbers of 64 bits with a sign, and without one. -/
def I64 (a : Int) : Prop := -9223372036854775808 ≤ a ∧ a ≤ 9223372036854775807
def U64 (a : Int) : Prop := 0 ≤ a ∧ a ≤ 18446744073709551615
instance (a : Int) : Decidable (I64 a) := by unfold I64; infer_instance
instance (a : Int) : Decidable (U64 a) := by unfold U64; infer_instance
/-- Every one is a byte, a number of 64 bits. -/
def U8s (xs : List Int) : Prop := ∀ x ∈ xs, 0 ≤ x ∧ x ≤ 255
def U64s (xs : List Int) : Prop := ∀ x ∈ xs, U64 x
theorem U8s.app {a b : List Int} (ha : U8s a) (hb : U8s b) : U8s (a ++ b) := fun x hx => (List.mem_append.1 hx).elim (ha x) (hb x)
theorem U8s.at_ {xs : List Int} (h : U8s xs) {k : Nat} {x : Int} (hx : xs[k]? = some x) : 0 ≤ x ∧ x ≤ 255 := h x (List.mem_of_getElem? hx)
theorem U8s.take {xs : List Int} (h : U8s xs) (k : Nat) : U8s (xs.take k) := fun x hx => h x (List.mem_of_mem_take hx)
theorem U8s.drop {xs : List Int} (h : U8s xs) (k : Nat) : U8s (xs.drop k) := fun x hx => h x (List.mem_of_mem_drop hx)
theorem U64s.at_ {xs : List Int} (h : U64s xs) {k : Nat} {x : Int} (hx : xs[k]? = some x) : U64 x := h x (List.mem_of_getElem? hx)
theorem U64s.take {xs : List Int} (h : U64s xs) (k : Nat) : U64s (xs.take k) := fun x hx => h x (List.mem_of_mem_take hx)
theorem I64.of_wf {a : Int} (h : (Lit.int .i64 a).wf = true) : I64 a := by
  have := bounds_i64 h; unfold I64; omega

/-- What a checked result is: the number, if it has a place in 64 bits; its error. -/
def ckV (s : Int) : Int := if I64 s then s else 0
def ckE (s : Int) : Int := if I64 s then 0 else 2

theorem ckV_in {s : Int} (h : I64 s) : ckV s = s := by unfold ckV; rw [if_pos h]
theorem ckE_in {s : Int} (h : I64 s) : ckE s = 0 := by unfold ckE; rw [if_pos h]
theorem ckV_out {s : Int} (h : ¬ I64 s) : ckV s = 0 := by unfold ckV; rw [if_neg h]
theorem ckE_out {s : Int} (h : ¬ I64 s) : ckE s = 2 := by unfold ckE; rw [if_neg h]
theorem ckV_i64 (s : Int) : I64 (ckV s) := by
  unfold ckV; split
  · assumption
  · unfold I64; omega
theorem ckE_cases (s : Int) : (ckE s = 0 ∧ I64 s ∧ ckV s = s) ∨ (ckE s = 2 ∧ ¬ I64 s ∧ ckV s = 0) := by
  by_cases h : I64 s
  · exact Or.inl ⟨ckE_in h, h, ckV_in h⟩
  · exact Or.inr ⟨ckE_out h, h, ckV_out h⟩

theorem ret2 {k k' : IntKind} {x y x' y' : Int} (h1 : x = x') (h2 : y = y') : Ending.returned (Value.tuple #[.int k x, .int k' y]) = Ending.returned (Value.tuple #[.int k x', .int k' y']) := by rw [h1, h2]
theorem wrap64_lo (s : Int) : wrap64 s = s % 18446744073709551616 ∨ wrap64 s = s % 18446744073709551616 - 18446744073709551616 := by unfold wrap64; omega
theorem wrap64_eq (s : Int) : wrap64 s = (s + 9223372036854775808) % 18446744073709551616 - 9223372036854775808 := by unfold wrap64; omega
theorem I64.wrap (s : Int) : I64 (wrap64 s) := by unfold I64; rw [wrap64_eq]; omega
theorem I64.wrap_in {s : Int} (h : I64 s) : wrap64 s = s := by unfold I64 at h; rw [wrap64_eq]; omega

theorem add_w1 {a b : Int} (ha : I64 a) (hb : I64 b) (h : (!decide (wrap64 (a + b) < a) == decide (b < 0)) = true) : ¬ I64 (a + b) := by
  unfold I64 at *; rw [wrap64_eq] at h
  by_cases c1 : (a + b + 9223372036854775808) % 18446744073709551616 - 9223372036854775808 < a <;> by_cases c2 : b < 0 <;> simp [c1, c2] at h <;> omega
theorem add_w2 {a b : Int} (ha : I64 a) (hb : I64 b) (h : (!decide (wrap64 (a + b) < a) == decide (b < 0)) = false) : I64 (a + b) := by
  unfold I64 at *; rw [wrap64_eq] at h
  by_cases c1 : (a + b + 9223372036854775808) % 18446744073709551616 - 9223372036854775808 < a <;> by_cases c2 : b < 0 <;> simp [c1, c2] at h <;> omega
theorem sub_w1 {a b : Int} (ha : I64 a) (hb : I64 b) (h : (!decide (a < wrap64 (a - b)) == decide (b < 0)) = true) : ¬ I64 (a - b) := by
  unfold I64 at *; rw [wrap64_eq] at h
  by_cases c1 : a < (a - b + 9223372036854775808) % 18446744073709551616 - 9223372036854775808 <;> by_cases c2 : b < 0 <;> simp [c1, c2] at h <;> omega
theorem sub_w2 {a b : Int} (ha : I64 a) (hb : I64 b) (h : (!decide (a < wrap64 (a - b)) == decide (b < 0)) = false) : I64 (a - b) := by
  unfold I64 at *; rw [wrap64_eq] at h
  by_cases c1 : a < (a - b + 9223372036854775808) % 18446744073709551616 - 9223372036854775808 <;> by_cases c2 : b < 0 <;> simp [c1, c2] at h <;> omega
theorem ck_out2 {s : Int} (h : ¬ I64 s) : Ending.returned (Value.tuple #[.int .i64 0, .int .i64 2]) = Ending.returned (Value.tuple #[.int .i64 (ckV s), .int .i64 (ckE s)]) := ret2 (ckV_out h).symm (ckE_out h).symm
theorem ck_wrap2 {s : Int} (h : I64 s) : Ending.returned (Value.tuple #[.int .i64 (wrap64 s), .int .i64 0]) = Ending.returned (Value.tuple #[.int .i64 (ckV s), .int .i64 (ckE s)]) := ret2 ((I64.wrap_in h).trans (ckV_in h).symm) (ckE_in h).symm
theorem ck_in2 {s : Int} (h : I64 s) : Ending.returned (Value.tuple #[.int .i64 s, .int .i64 0]) = Ending.returned (Value.tuple #[.int .i64 (ckV s), .int .i64 (ckE s)]) := ret2 (ckV_in h).symm (ckE_in h).symm

theorem ret_true {b : Bool} (h : b = true) : Ending.returned (Value.bool b) = Ending.returned (Value.bool true) := by rw [h]

/-- A number's size. -/
def absI (a : Int) : Int := if a < 0 then -a else a

/-- A number clipped: its error is that of a bound below 0. -/
def clipV (a m : Int) : Int := if m < 0 then 0 else if a < -m then -m else if m < a then m else a
def clipE (m : Int) : Int := if m < 0 then 1 else 0

end Go.Proofs.Ytnokomlekndgfaa
