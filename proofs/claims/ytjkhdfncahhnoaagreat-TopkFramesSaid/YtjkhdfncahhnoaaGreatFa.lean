
/- Fa: texts joined: Math CrcM Mem Wd Byte Same CrcA App CrcB CrcC CrcD Rws FsF LebM LebN IxM IxN PlM PlN. -/
import Derived.WalkKit
import Derived.OpenShut
import Derived.Test.YtjkhdfncahhnoaaGreatProg
import Derived.Handy
import Derived.Deep.OwnRows
import Derived.Deep.Draws
import Derived.Laws.OwnMore
import Derived.Deep.QuietTactic
import Derived.BigQuiet
import Derived.Laws.Slices
import Derived.Laws.BytesArg
import Derived.WideShapes
import Derived.WalkSpells
import Derived.OwnWalk
import Derived.Outline
import Derived.Maps.AppendAt
import Derived.Test.YtjkhdfncahhnoaaGreatShelf
import Derived.RegionTactic
import Derived.ChangeAlike
import Derived.Lib.AppendZerosOnto
import Derived.Lib.Walk
import Derived.Lib.BitFns
/-
  Plain facts on whole numbers of 64 bits, checked sums and wraps. No program in sight.
-/
namespace Go.Proofs.YtjkhdfncahhnoaaGreat
open Go.RowKit

/-- Kept from the walk, which takes every equation that stands open for a rule. -/
theorem hid {p : Prop} (h : p) : Hid p := h

/-- The numbers of 64 bits with a sign, and without one. -/
def I64 (a : Int) : Prop := -9223372036854775808 ≤ a ∧ a ≤ 9223372036854775807
def U64 (a : Int) : Prop := 0 ≤ a ∧ a ≤ 18446744073709551615
instance (a : Int) : Decidable (I64 a) := by unfold I64; infer_instance
instance (a : Int) : Decidable (U64 a) := by unfold U64; infer_instance
/-- Every one is a byte, a number of 64 bits. -/
def U8s (xs : List Int) : Prop := ∀ x ∈ xs, 0 ≤ x ∧ x ≤ 255
def U64s (xs : List Int) : Prop := ∀ x ∈ xs, U64 x
theorem U8s.app {a b : List Int} (ha : U8s a) (hb : U8s b) : U8s (a ++ b) := fun x hx => (List.mem_append.1 hx).elim (ha x) (hb x)
theorem U8s.at_ {xs : List Int} (h : U8s xs) {k : Nat} {x : Int} (hx : xs[k]? = some x) : 0 ≤ x ∧ x ≤ 255 := h x (List.mem_of_getElem? hx)
theorem U8s.take {xs : List Int} (h : U8s xs) (k : Nat) : U8s (xs.take k) := fun x hx => h x (List.mem_of_mem_take hx)
theorem U8s.drop {xs : List Int} (h : U8s xs) (k : Nat) : U8s (xs.drop k) := fun x hx => h x (List.mem_of_mem_drop hx)
theorem U64s.at_ {xs : List Int} (h : U64s xs) {k : Nat} {x : Int} (hx : xs[k]? = some x) : U64 x := h x (List.mem_of_getElem? hx)
theorem U64s.take {xs : List Int} (h : U64s xs) (k : Nat) : U64s (xs.take k) := fun x hx => h x (List.mem_of_mem_take hx)
theorem I64.of_wf {a : Int} (h : (Lit.int .i64 a).wf = true) : I64 a := by
  have := bounds_i64 h; unfold I64; omega

/-- What a checked result is: the number, if it has a place in 64 bits; its error. -/
def ckV (s : Int) : Int := if I64 s then s else 0
def ckE (s : Int) : Int := if I64 s then 0 else 2

theorem ckV_in {s : Int} (h : I64 s) : ckV s = s := by unfold ckV; rw [if_pos h]
theorem ckE_in {s : Int} (h : I64 s) : ckE s = 0 := by unfold ckE; rw [if_pos h]
theorem ckV_out {s : Int} (h : ¬ I64 s) : ckV s = 0 := by unfold ckV; rw [if_neg h]
theorem ckE_out {s : Int} (h : ¬ I64 s) : ckE s = 2 := by unfold ckE; rw [if_neg h]
theorem ckV_i64 (s : Int) : I64 (ckV s) := by
  unfold ckV; split
  · assumption
  · unfold I64; omega
theorem ckE_cases (s : Int) : (ckE s = 0 ∧ I64 s ∧ ckV s = s) ∨ (ckE s = 2 ∧ ¬ I64 s ∧ ckV s = 0) := by
  by_cases h : I64 s
  · exact Or.inl ⟨ckE_in h, h, ckV_in h⟩
  · exact Or.inr ⟨ckE_out h, h, ckV_out h⟩

theorem ret2 {k k' : IntKind} {x y x' y' : Int} (h1 : x = x') (h2 : y = y') : Ending.returned (Value.tuple #[.int k x, .int k' y]) = Ending.returned (Value.tuple #[.int k x', .int k' y']) := by rw [h1, h2]
theorem wrap64_lo (s : Int) : wrap64 s = s % 18446744073709551616 ∨ wrap64 s = s % 18446744073709551616 - 18446744073709551616 := by unfold wrap64; omega
theorem wrap64_eq (s : Int) : wrap64 s = (s + 9223372036854775808) % 18446744073709551616 - 9223372036854775808 := by unfold wrap64; omega
theorem I64.wrap (s : Int) : I64 (wrap64 s) := by unfold I64; rw [wrap64_eq]; omega
theorem I64.wrap_in {s : Int} (h : I64 s) : wrap64 s = s := by unfold I64 at h; rw [wrap64_eq]; omega

theorem add_w1 {a b : Int} (ha : I64 a) (hb : I64 b) (h : (!decide (wrap64 (a + b) < a) == decide (b < 0)) = true) : ¬ I64 (a + b) := by
  unfold I64 at *; rw [wrap64_eq] at h
  by_cases c1 : (a + b + 9223372036854775808) % 18446744073709551616 - 9223372036854775808 < a <;> by_cases c2 : b < 0 <;> simp [c1, c2] at h <;> omega
theorem add_w2 {a b : Int} (ha : I64 a) (hb : I64 b) (h : (!decide (wrap64 (a + b) < a) == decide (b < 0)) = false) : I64 (a + b) := by
  unfold I64 at *; rw [wrap64_eq] at h
  by_cases c1 : (a + b + 9223372036854775808) % 18446744073709551616 - 9223372036854775808 < a <;> by_cases c2 : b < 0 <;> simp [c1, c2] at h <;> omega
theorem sub_w1 {a b : Int} (ha : I64 a) (hb : I64 b) (h : (!decide (a < wrap64 (a - b)) == decide (b < 0)) = true) : ¬ I64 (a - b) := by
  unfold I64 at *; rw [wrap64_eq] at h
  by_cases c1 : a < (a - b + 9223372036854775808) % 18446744073709551616 - 9223372036854775808 <;> by_cases c2 : b < 0 <;> simp [c1, c2] at h <;> omega
theorem sub_w2 {a b : Int} (ha : I64 a) (hb : I64 b) (h : (!decide (a < wrap64 (a - b)) == decide (b < 0)) = false) : I64 (a - b) := by
  unfold I64 at *; rw [wrap64_eq] at h
  by_cases c1 : a < (a - b + 9223372036854775808) % 18446744073709551616 - 9223372036854775808 <;> by_cases c2 : b < 0 <;> simp [c1, c2] at h <;> omega
theorem ck_out2 {s : Int} (h : ¬ I64 s) : Ending.returned (Value.tuple #[.int .i64 0, .int .i64 2]) = Ending.returned (Value.tuple #[.int .i64 (ckV s), .int .i64 (ckE s)]) := ret2 (ckV_out h).symm (ckE_out h).symm
theorem ck_wrap2 {s : Int} (h : I64 s) : Ending.returned (Value.tuple #[.int .i64 (wrap64 s), .int .i64 0]) = Ending.returned (Value.tuple #[.int .i64 (ckV s), .int .i64 (ckE s)]) := ret2 ((I64.wrap_in h).trans (ckV_in h).symm) (ckE_in h).symm
theorem ck_in2 {s : Int} (h : I64 s) : Ending.returned (Value.tuple #[.int .i64 s, .int .i64 0]) = Ending.returned (Value.tuple #[.int .i64 (ckV s), .int .i64 (ckE s)]) := ret2 (ckV_in h).symm (ckE_in h).symm

theorem ret_true {b : Bool} (h : b = true) : Ending.returned (Value.bool b) = Ending.returned (Value.bool true) := by rw [h]

/-- A number's size. -/
def absI (a : Int) : Int := if a < 0 then -a else a

/-- A number clipped: its error is that of a bound below 0. -/
def clipV (a m : Int) : Int := if m < 0 then 0 else if a < -m then -m else if m < a then m else a
def clipE (m : Int) : Int := if m < 0 then 1 else 0

end Go.Proofs.YtjkhdfncahhnoaaGreat
/- A text's sum: a register of 32 bits, halved and turned; bursts. Plain mathematics on numbers. No program in sight. -/
namespace Go.Proofs.YtjkhdfncahhnoaaGreat
set_option maxRecDepth 100000
set_option linter.unusedVariables false
/-- What a register is turned by whose bit that fell out was 1. -/
def tnr : Nat := 3988292384
/-- A register halved. -/
def hs (r : Nat) : Nat := if r % 2 = 1 then r / 2 ^^^ tnr else r / 2
/-- .. so many times. -/
def hn : Nat → Nat → Nat
  | 0, r => r
  | n + 1, r => hn n (hs r)
theorem hs_lt {r : Nat} (h : r < 2 ^ 32) : hs r < 2 ^ 32 := by
  unfold hs
  split
  · exact Nat.xor_lt_two_pow (by omega) (by decide)
  · omega
theorem hn_lt : ∀ (n : Nat) {r : Nat}, r < 2 ^ 32 → hn n r < 2 ^ 32
  | 0, _, h => h
  | n + 1, _, h => hn_lt n (hs_lt h)
theorem hs_zero : hs 0 = 0 := by rfl
theorem hn_zero : ∀ n, hn n 0 = 0
  | 0 => rfl
  | n + 1 => by rw [hn, hs_zero, hn_zero]
theorem xor4 (a b t : Nat) : (a ^^^ t) ^^^ (b ^^^ t) = a ^^^ b := by
  rw [Nat.xor_assoc, Nat.xor_comm b t, ← Nat.xor_assoc t, Nat.xor_self, Nat.zero_xor]
theorem hs_xor (a b : Nat) : hs (a ^^^ b) = hs a ^^^ hs b := by
  have hm : (a ^^^ b) % 2 = 1 ↔ ¬ ((a % 2 = 1) ↔ (b % 2 = 1)) := Nat.xor_mod_two_eq_one
  unfold hs
  rw [Nat.xor_div_two]
  by_cases ha : a % 2 = 1 <;> by_cases hb : b % 2 = 1
  · rw [if_neg (by rw [hm]; simp [ha, hb]), if_pos ha, if_pos hb, xor4]
  · rw [if_pos (by rw [hm]; simp [ha, hb]), if_pos ha, if_neg hb, Nat.xor_assoc, Nat.xor_comm _ tnr, ← Nat.xor_assoc]
  · rw [if_pos (by rw [hm]; simp [ha, hb]), if_neg ha, if_pos hb, Nat.xor_assoc]
  · rw [if_neg (by rw [hm]; simp [ha, hb]), if_neg ha, if_neg hb]
theorem hn_xor : ∀ (n a b : Nat), hn n (a ^^^ b) = hn n a ^^^ hn n b
  | 0, _, _ => rfl
  | n + 1, a, b => by rw [hn, hs_xor, hn_xor n, hn, hn]
theorem hn_add : ∀ (m n r : Nat), hn (m + n) r = hn n (hn m r)
  | 0, n, r => by rw [Nat.zero_add]; rfl
  | m + 1, n, r => by rw [show m + 1 + n = (m + n) + 1 by omega, hn, hn_add m n, hn]
theorem eq_of_xor {a b : Nat} (h : a ^^^ b = 0) : a = b := by
  have := congrArg (· ^^^ b) h
  simpa [Nat.xor_assoc] using this
theorem hs_inj {r : Nat} (h : r < 2 ^ 32) (h0 : hs r = 0) : r = 0 := by
  unfold hs at h0
  split at h0
  · have := eq_of_xor h0
    unfold tnr at this
    omega
  · omega
theorem hn_inj : ∀ (n : Nat) {r : Nat}, r < 2 ^ 32 → hn n r = 0 → r = 0
  | 0, _, _, h0 => h0
  | n + 1, _, h, h0 => hs_inj h (hn_inj n (hs_lt h) h0)
theorem hn_pow : ∀ (i : Nat), hn i (2 ^ i) = 1
  | 0 => rfl
  | i + 1 => by
    rw [hn]
    have : hs (2 ^ (i + 1)) = 2 ^ i := by
      unfold hs
      rw [Nat.pow_succ, if_neg (by omega)]
      omega
    rw [this, hn_pow i]
/-- The lowest bits alone are turned. -/
theorem hn_split (k c : Nat) : hn k c = hn k (c % 2 ^ k) ^^^ c / 2 ^ k := by
  induction k generalizing c with
  | zero => simp [hn, Nat.mod_one]
  | succ k ih =>
    have hdiv : c / 2 / 2 ^ k = c / 2 ^ (k + 1) := by rw [Nat.div_div_eq_div_mul, Nat.pow_succ, Nat.mul_comm]
    have hmod : c % 2 ^ (k + 1) / 2 = c / 2 % 2 ^ k := by
      rw [Nat.pow_succ, Nat.mul_comm (2 ^ k) 2, Nat.mod_mul]
      omega
    have hm2 : c % 2 ^ (k + 1) % 2 = c % 2 := by
      rw [Nat.pow_succ, Nat.mul_comm (2 ^ k) 2, Nat.mod_mul]
      omega
    rw [hn, hn, ← hdiv]
    unfold hs
    rw [hm2, hmod]
    split
    · rw [hn_xor, hn_xor, ih (c / 2), Nat.xor_assoc, Nat.xor_assoc, Nat.xor_comm _ (hn k tnr)]
    · rw [ih (c / 2)]
/-- One byte taken in, and texts. -/
def crcB (c x : Nat) : Nat := hn 8 (c ^^^ x)
def crcL : Nat → List Int → Nat
  | c, [] => c
  | c, x :: xs => crcL (crcB c x.toNat) xs
theorem crcL_nil (c : Nat) : crcL c [] = c := by rfl
theorem crcL_cons (c : Nat) (x : Int) (xs : List Int) : crcL c (x :: xs) = crcL (crcB c x.toNat) xs := by rfl
theorem crcB_lt {c x : Nat} (hc : c < 2 ^ 32) (hx : x < 256) : crcB c x < 2 ^ 32 := hn_lt 8 (Nat.xor_lt_two_pow hc (by omega))
theorem crcL_app : ∀ (a b : List Int) (c : Nat), crcL c (a ++ b) = crcL (crcL c a) b
  | [], _, _ => rfl
  | x :: xs, b, c => by rw [List.cons_append, crcL_cons, crcL_app xs b, crcL_cons]
theorem crcL_one (c : Nat) (x : Int) : crcL c [x] = crcB c x.toNat := by rfl
theorem crcL_step {l : List Int} {k : Nat} {x : Int} (c : Nat) (h : l[k]? = some x) : crcL c (l.take (k + 1)) = crcB (crcL c (l.take k)) x.toNat := by
  rw [List.take_add_one, h, crcL_app]
  exact crcL_one _ x
theorem crcL_lt : ∀ (l : List Int) {c : Nat}, U8s l → c < 2 ^ 32 → crcL c l < 2 ^ 32
  | [], _, _, h => h
  | x :: xs, c, hl, h => by
    have hx := hl x (by simp)
    exact crcL_lt xs (fun y hy => hl y (by simp [hy])) (crcB_lt h (by omega))
/-- A register turned, behind a text. -/
theorem crcL_xor : ∀ (l : List Int) (c d : Nat), crcL (c ^^^ d) l = crcL c l ^^^ hn (8 * l.length) d
  | [], c, d => rfl
  | x :: xs, c, d => by
    rw [crcL_cons, crcL_cons, List.length_cons, show 8 * (xs.length + 1) = 8 + 8 * xs.length by omega, hn_add, ← crcL_xor xs]
    congr 1
    unfold crcB
    rw [← hn_xor, Nat.xor_assoc, Nat.xor_comm d, ← Nat.xor_assoc]
/-- All bits of a register turned. -/
def inv (s : Nat) : Nat := 4294967295 - s
theorem inv_lt (s : Nat) : inv s < 2 ^ 32 := by unfold inv; omega
theorem inv_inv {s : Nat} (h : s < 2 ^ 32) : inv (inv s) = s := by unfold inv; omega
theorem inv_xor {s : Nat} (h : s < 2 ^ 32) : inv s = s ^^^ 4294967295 := by
  have e : inv s = (~~~ (BitVec.ofNat 32 s)).toNat := by
    rw [BitVec.toNat_not, BitVec.toNat_ofNat, Nat.mod_eq_of_lt h]; rfl
  have e2 : s ^^^ 4294967295 = (BitVec.ofNat 32 s ^^^ BitVec.allOnes 32).toNat := by
    rw [BitVec.toNat_xor, BitVec.toNat_ofNat, Nat.mod_eq_of_lt h, BitVec.toNat_allOnes]
  rw [e, e2, BitVec.xor_allOnes]
/-- The sum that goes on from s, and a text's. -/
def moreN (s : Nat) (l : List Int) : Nat := inv (crcL (inv s) l)
def sumN (l : List Int) : Nat := moreN 0 l
theorem moreN_lt (s : Nat) (l : List Int) : moreN s l < 2 ^ 32 := inv_lt _
theorem sumN_lt (l : List Int) : sumN l < 2 ^ 32 := inv_lt _
theorem sumN_nil : sumN [] = 0 := by unfold sumN moreN inv; rfl
theorem moreN_app {a b : List Int} (ha : U8s a) : moreN (sumN a) b = sumN (a ++ b) := by
  unfold sumN moreN
  rw [inv_inv (crcL_lt a ha (inv_lt _)), crcL_app]
/-- The lowest bytes of a number, the lowest first. -/
def le4 (s : Nat) : List Int := [((s % 256 : Nat) : Int), ((s / 256 % 256 : Nat) : Int), ((s / 65536 % 256 : Nat) : Int), ((s / 16777216 % 256 : Nat) : Int)]
theorem le4_bytes (s : Nat) : U8s (le4 s) := by
  intro x hx
  simp only [le4, List.mem_cons, List.not_mem_nil, or_false] at hx
  omega
theorem le4_len (s : Nat) : (le4 s).length = 4 := by rfl
theorem le4_inj {s t : Nat} (hs : s < 2 ^ 32) (ht : t < 2 ^ 32) (h : le4 s = le4 t) : s = t := by
  unfold le4 at h
  simp only [List.cons.injEq, and_true] at h
  omega
theorem le4_of {a b c d : Int} (h : U8s [a, b, c, d]) : ∃ s, s < 2 ^ 32 ∧ [a, b, c, d] = le4 s := by
  have h0 := h a (by simp)
  have h1 := h b (by simp)
  have h2 := h c (by simp)
  have h3 := h d (by simp)
  refine ⟨(a + 256 * b + 65536 * c + 16777216 * d).toNat, by omega, ?_⟩
  unfold le4
  simp only [List.cons.injEq, and_true]
  omega
theorem xor_byte (a x : Nat) : (a ^^^ x) / 256 = a / 256 ^^^ x / 256 := Nat.xor_div_two_pow (n := 8)
/-- Eight bits of a number, put ahead of what is above them. -/
theorem join_byte (n : Nat) : n = n % 256 ^^^ (n / 256) * 256 := by
  have h1 : n = (n / 256) * 2 ^ 8 + n % 256 := by omega
  apply Nat.eq_of_testBit_eq
  intro i
  rw [Nat.testBit_xor, show (n / 256 * 256) = n / 256 * 2 ^ 8 from rfl, Nat.testBit_mul_two_pow, show n % 256 = n % 2 ^ 8 from rfl, Nat.testBit_mod_two_pow, show n / 256 = n / 2 ^ 8 from rfl, Nat.testBit_div_two_pow]
  by_cases h : i < 8
  · simp [h, show ¬ 8 ≤ i by omega]
  · simp [h, show 8 ≤ i by omega, show i - 8 + 8 = i by omega]
theorem hn_up : ∀ (k m : Nat), hn k (m * 2 ^ k) = m
  | 0, m => by simp [hn]
  | k + 1, m => by
    rw [hn]
    have : hs (m * 2 ^ (k + 1)) = m * 2 ^ k := by
      unfold hs
      rw [Nat.pow_succ, ← Nat.mul_assoc, if_neg (by omega)]
      omega
    rw [this, hn_up k]
/-- A number's bytes taken in, one behind the other, are the number taken in. -/
theorem crcL_le4 {c s : Nat} (hs : s < 2 ^ 32) : crcL c (le4 s) = hn 32 (c ^^^ s) := by
  have step : ∀ (c n : Nat), crcB c (n % 256) ^^^ n / 256 = hn 8 (c ^^^ n) := fun c n => by
    unfold crcB
    conv => rhs; rw [join_byte n, ← Nat.xor_assoc, hn_xor, show n / 256 * 256 = n / 256 * 2 ^ 8 from rfl, hn_up]
  have e : ∀ (c n : Nat), crcB c (n % 256) = hn 8 (c ^^^ n) ^^^ n / 256 := fun c n => by
    rw [← step, Nat.xor_assoc, Nat.xor_self, Nat.xor_zero]
  have e2 : ∀ a n : Nat, crcB (a ^^^ n) (n % 256) = hn 8 a ^^^ n / 256 := fun a n => by
    rw [e, Nat.xor_assoc, Nat.xor_self, Nat.xor_zero]
  have cast : ∀ k : Nat, ((k : Int)).toNat = k := fun k => by omega
  unfold le4
  rw [crcL_cons, crcL_cons, crcL_cons, crcL_cons, crcL_nil, cast, cast, cast, cast, show s / 65536 = s / 256 / 256 by omega, show s / 16777216 = s / 256 / 256 / 256 by omega]
  have h0 : s / 256 / 256 / 256 / 256 = 0 := by omega
  obtain ⟨a, ha⟩ : ∃ a, s / 256 = a := ⟨_, rfl⟩
  obtain ⟨b, hb⟩ : ∃ b, a / 256 = b := ⟨_, rfl⟩
  obtain ⟨d, hd⟩ : ∃ d, b / 256 = d := ⟨_, rfl⟩
  rw [ha, hb, hd] at h0
  have h1 := e c s
  have h2 := e2 (hn 8 (c ^^^ s)) a
  have h3 := e2 (hn 8 (hn 8 (c ^^^ s))) b
  have h4 := e2 (hn 8 (hn 8 (hn 8 (c ^^^ s)))) d
  rw [ha] at h1
  rw [hb] at h2
  rw [hd] at h3
  rw [h0, Nat.xor_zero] at h4
  rw [ha, hb, hd, h1, h2, h3, h4, show (32 : Nat) = 8 + (8 + (8 + 8)) from rfl, hn_add 8, hn_add 8, hn_add 8]
/-- How far a sealed text is off. -/
def off (l : List Int) : Nat := crcL 4294967295 l ^^^ hn 32 4294967295
theorem off_sum {a : List Int} (ha : U8s a) {s : Nat} (hs : s < 2 ^ 32) : off (a ++ le4 s) = hn 32 (sumN a ^^^ s) := by
  have hc := crcL_lt a ha (c := 4294967295) (by decide)
  have e : sumN a = crcL 4294967295 a ^^^ 4294967295 := by
    unfold sumN moreN
    rw [show inv 0 = 4294967295 from rfl, inv_xor hc]
  unfold off
  rw [crcL_app, crcL_le4 hs, e, ← hn_xor]
  congr 1
  rw [Nat.xor_assoc, Nat.xor_assoc, Nat.xor_comm s]
/-- A sealed text's sum is its own just if it isn't off. -/
theorem off_iff {a : List Int} (ha : U8s a) {s : Nat} (hs : s < 2 ^ 32) : off (a ++ le4 s) = 0 ↔ s = sumN a := by
  rw [off_sum ha hs]
  constructor
  · intro h
    exact (eq_of_xor (hn_inj 32 (Nat.xor_lt_two_pow (sumN_lt a) hs) h)).symm
  · rintro rfl
    rw [Nat.xor_self, hn_zero]
theorem cut4 {l : List Int} (hl : U8s l) (h4 : 4 ≤ l.length) : ∃ s, s < 2 ^ 32 ∧ l.drop (l.length - 4) = le4 s := by
  have hb := hl.drop (l.length - 4)
  have hlen : (l.drop (l.length - 4)).length = 4 := by rw [List.length_drop]; omega
  match hd : l.drop (l.length - 4), hlen, hb with
  | [a, b, c, d], _, hb => exact le4_of hb
/-- Is it sealed? -/
def sealedB (l : List Int) : Bool := eqL (l.drop (l.length - 4)) (le4 (sumN (l.take (l.length - 4))))
where eqL (a b : List Int) : Bool := decide (a = b)
theorem sealed_iff {l : List Int} (hl : U8s l) (h4 : 4 ≤ l.length) : sealedB l = true ↔ off l = 0 := by
  obtain ⟨s, hs, e⟩ := cut4 hl h4
  unfold sealedB sealedB.eqL
  rw [decide_eq_true_iff, e]
  have h := off_iff (hl.take (l.length - 4)) hs
  rw [← e, List.take_append_drop] at h
  rw [h]
  constructor
  · intro h'; exact le4_inj hs (sumN_lt _) h'
  · rintro rfl; rfl
/-- A text with one bit turned. -/
def trn (l : List Int) (p : Nat) : List Int := l.set (p / 8) (((l.getD (p / 8) 0).toNat ^^^ 2 ^ (p % 8) : Nat) : Int)
theorem trn_len (l : List Int) (p : Nat) : (trn l p).length = l.length := by unfold trn; simp
theorem trn_bytes {l : List Int} (hl : U8s l) {p : Nat} (hp : p / 8 < l.length) : U8s (trn l p) := by
  intro x hx
  unfold trn at hx
  rcases List.mem_or_eq_of_mem_set hx with hx | rfl
  · exact hl x hx
  · have h0 := hl.at_ (List.getElem?_eq_getElem hp)
    rw [List.getD_eq_getElem?_getD, List.getElem?_eq_getElem hp, Option.getD_some]
    have : (l[p / 8]).toNat ^^^ 2 ^ (p % 8) < 2 ^ 8 := Nat.xor_lt_two_pow (by omega) (by
      have : p % 8 < 8 := by omega
      exact Nat.pow_lt_pow_right (by decide) this)
    omega
theorem set_split (l : List Int) (q : Nat) (v : Int) (h : q < l.length) : l.set q v = l.take q ++ v :: l.drop (q + 1) := by
  rw [List.set_eq_take_append_cons_drop, if_pos h]
theorem crcL_trn {l : List Int} {p : Nat} (hl : U8s l) (hp : p / 8 < l.length) (c : Nat) : crcL c (trn l p) = crcL c l ^^^ hn (8 * l.length - p) 1 := by
  have e1 : l = l.take (p / 8) ++ l[p / 8] :: l.drop (p / 8 + 1) := by
    rw [← List.drop_eq_getElem_cons hp, List.take_append_drop]
  have ex : l.getD (p / 8) 0 = l[p / 8] := by rw [List.getD_eq_getElem?_getD, List.getElem?_eq_getElem hp, Option.getD_some]
  unfold trn
  rw [ex, set_split _ _ _ hp]
  conv => rhs; rw [e1]
  rw [crcL_app, crcL_app, crcL_cons, crcL_cons]
  have hcast : (((l[p / 8].toNat ^^^ 2 ^ (p % 8) : Nat) : Int)).toNat = l[p / 8].toNat ^^^ 2 ^ (p % 8) := by omega
  rw [hcast]
  have e2 : ∀ c x : Nat, crcB c (x ^^^ 2 ^ (p % 8)) = crcB c x ^^^ hn (8 - p % 8) 1 := fun c x => by
    unfold crcB
    rw [← Nat.xor_assoc, hn_xor]
    congr 1
    obtain ⟨q, hq⟩ : ∃ q, p % 8 = q := ⟨_, rfl⟩
    rw [hq]
    have hq8 : q < 8 := by omega
    have h8 : hn 8 (2 ^ q) = hn (q + (8 - q)) (2 ^ q) := by rw [show q + (8 - q) = 8 by omega]
    rw [h8, hn_add, hn_pow]
  rw [e2, crcL_xor, ← hn_add]
  congr 2
  rw [List.length_drop, ← e1]
  omega
theorem off_trn {l : List Int} {p : Nat} (hl : U8s l) (hp : p / 8 < l.length) : off (trn l p) = off l ^^^ hn (8 * l.length - p) 1 := by
  unfold off
  rw [crcL_trn hl hp, Nat.xor_assoc, Nat.xor_assoc, Nat.xor_comm (hn 32 4294967295)]
theorem trn_trn {l : List Int} {p : Nat} (hl : U8s l) (hp : p / 8 < l.length) : trn (trn l p) p = l := by
  have ex : l.getD (p / 8) 0 = l[p / 8] := by rw [List.getD_eq_getElem?_getD, List.getElem?_eq_getElem hp, Option.getD_some]
  have hb := hl.at_ (List.getElem?_eq_getElem hp)
  unfold trn
  rw [ex]
  have e2 : (l.set (p / 8) (((l[p / 8]).toNat ^^^ 2 ^ (p % 8) : Nat) : Int)).getD (p / 8) 0 = (((l[p / 8]).toNat ^^^ 2 ^ (p % 8) : Nat) : Int) := by
    rw [List.getD_eq_getElem?_getD, List.getElem?_set, if_pos rfl, if_pos hp, Option.getD_some]
  rw [e2, List.set_set, show ((((l[p / 8]).toNat ^^^ 2 ^ (p % 8) : Nat) : Int)).toNat = (l[p / 8]).toNat ^^^ 2 ^ (p % 8) by omega, Nat.xor_assoc, Nat.xor_self, Nat.xor_zero, show (((l[p / 8]).toNat : Nat) : Int) = l[p / 8] by omega]
  exact List.set_getElem_self hp
/-- The lowest k bits of a pattern, as far as there is room for n. -/
def pk (p n k : Nat) : Nat := p % 2 ^ min k n
theorem pk_zero (p n : Nat) : pk p n 0 = 0 := by unfold pk; rw [Nat.zero_min, Nat.pow_zero, Nat.mod_one]
theorem pk_lt (p n k : Nat) (hk : k ≤ 32) : pk p n k < 2 ^ 32 := by
  unfold pk
  have h1 := Nat.mod_lt p (show 0 < 2 ^ min k n from Nat.pow_pos (by decide))
  have h2 : 2 ^ min k n ≤ 2 ^ 32 := Nat.pow_le_pow_right (by decide) (by omega)
  omega
theorem pk_out {p n k : Nat} (h : n ≤ k) : pk p n (k + 1) = pk p n k := by
  unfold pk; rw [show min (k + 1) n = min k n by omega]
theorem pk_next {p n k : Nat} (h : k < n) : pk p n (k + 1) = pk p n k + 2 ^ k * (p / 2 ^ k % 2) := by
  unfold pk
  rw [show min (k + 1) n = k + 1 by omega, show min k n = k by omega, Nat.mod_pow_succ]
theorem pk_skip {p n k : Nat} (h : p / 2 ^ k % 2 ≠ 1) : pk p n (k + 1) = pk p n k := by
  by_cases hk : k < n
  · rw [pk_next hk, show p / 2 ^ k % 2 = 0 by omega, Nat.mul_zero, Nat.add_zero]
  · exact pk_out (by omega)
theorem pk_turn {p n k : Nat} (hk : k < n) (h : p / 2 ^ k % 2 = 1) : pk p n (k + 1) = pk p n k ^^^ 2 ^ k := by
  rw [pk_next hk, h, Nat.mul_one]
  have hlt : pk p n k < 2 ^ k := by
    unfold pk
    rw [show min k n = k by omega]
    exact Nat.mod_lt p (Nat.pow_pos (by decide))
  obtain ⟨a, ha⟩ : ∃ a, pk p n k = a := ⟨_, rfl⟩
  rw [ha] at hlt ⊢
  have h2 := Nat.two_pow_add_eq_or_of_lt hlt 1
  rw [Nat.mul_one] at h2
  rw [Nat.add_comm, h2]
  apply Nat.eq_of_testBit_eq
  intro i
  rw [Nat.testBit_or, Nat.testBit_xor, Nat.testBit_two_pow]
  by_cases e : k = i
  · subst e
    rw [Nat.testBit_lt_two_pow hlt]
    simp
  · simp [e]
theorem pk_pos {p n k : Nat} (hk : k < n) (h : p / 2 ^ k % 2 = 1) : pk p n (k + 1) ≠ 0 := by
  rw [pk_next hk, h]
  have := Nat.pow_pos (n := k) (show 0 < 2 by decide)
  omega
theorem hn_bit {n k : Nat} (h : k ≤ n) : hn n (2 ^ k) = hn (n - k) 1 := by
  rw [show n = k + (n - k) by omega, hn_add, hn_pow, show k + (n - k) - k = n - k by omega]
/-- A burst, bit by bit. -/
theorem burst_step {l : List Int} {p f k n : Nat} (hl : U8s l) (hn' : f + n = 8 * l.length) (hk : k < n) (hb : p / 2 ^ k % 2 = 1) (h : off l = hn n (pk p n k)) :
    off (trn l (f + k)) = hn n (pk p n (k + 1)) := by
  rw [off_trn hl (by omega), h, pk_turn hk hb, hn_xor, hn_bit (by omega), show 8 * l.length - (f + k) = n - k by omega]
/-- Texts turned by one another. -/
def xorL : List Int → List Int → List Int
  | x :: xs, y :: ys => ((x.toNat ^^^ y.toNat : Nat) : Int) :: xorL xs ys
  | _, _ => []
theorem xorL_len : ∀ {a b : List Int}, a.length = b.length → (xorL a b).length = a.length
  | [], [], _ => rfl
  | x :: xs, y :: ys, h => by
    simp only [List.length_cons] at h
    rw [xorL, List.length_cons, List.length_cons, xorL_len (by omega)]
theorem crcL_xorL : ∀ (a b : List Int) (c d : Nat), a.length = b.length → crcL (c ^^^ d) (xorL a b) = crcL c a ^^^ crcL d b
  | [], [], c, d, _ => by rfl
  | x :: xs, y :: ys, c, d, h => by
    simp only [List.length_cons] at h
    rw [xorL, crcL_cons, crcL_cons, crcL_cons, show (((x.toNat ^^^ y.toNat : Nat) : Int)).toNat = x.toNat ^^^ y.toNat by omega, ← crcL_xorL xs ys _ _ (by omega)]
    congr 1
    unfold crcB
    rw [← hn_xor]
    congr 1
    rw [Nat.xor_assoc, Nat.xor_assoc, ← Nat.xor_assoc d, Nat.xor_comm d, Nat.xor_assoc]
theorem xorL_bytes : ∀ {a b : List Int}, U8s a → U8s b → U8s (xorL a b)
  | [], _, _, _ => by intro x hx; simp [xorL] at hx
  | _ :: _, [], _, _ => by intro x hx; simp [xorL] at hx
  | x :: xs, y :: ys, ha, hb => by
    intro z hz
    rw [xorL] at hz
    rcases List.mem_cons.1 hz with rfl | hz
    · have h1 := ha x (by simp)
      have h2 := hb y (by simp)
      have : x.toNat ^^^ y.toNat < 2 ^ 8 := Nat.xor_lt_two_pow (by omega) (by omega)
      omega
    · exact xorL_bytes (fun w hw => ha w (by simp [hw])) (fun w hw => hb w (by simp [hw])) z hz
theorem xorL_at : ∀ {a b : List Int} {k : Nat} {x y : Int}, a[k]? = some x → b[k]? = some y → (xorL a b)[k]? = some ((x.toNat ^^^ y.toNat : Nat) : Int)
  | [], _, _, _, _, h, _ => by simp at h
  | _ :: _, [], _, _, _, _, h => by simp at h
  | x :: xs, y :: ys, 0, _, _, h1, h2 => by
    simp only [List.getElem?_cons_zero, Option.some.injEq] at h1 h2
    subst h1 h2
    simp [xorL]
  | x :: xs, y :: ys, k + 1, _, _, h1, h2 => by
    simp only [List.getElem?_cons_succ] at h1 h2
    rw [xorL, List.getElem?_cons_succ]
    exact xorL_at h1 h2
theorem sum_lin {a b c : List Int} (ha : U8s a) (hb : U8s b) (hc : U8s c) (h1 : a.length = b.length) (h2 : a.length = c.length) :
    sumN (xorL (xorL a b) c) = (sumN a ^^^ sumN b) ^^^ sumN c := by
  have e : ∀ {l : List Int}, U8s l → sumN l = crcL 4294967295 l ^^^ 4294967295 := fun {l} hl => by
    unfold sumN moreN
    rw [show inv 0 = 4294967295 from rfl, inv_xor (crcL_lt l hl (by decide))]
  rw [e ha, e hb, e hc, e (xorL_bytes (xorL_bytes ha hb) hc)]
  have h3 := crcL_xorL (xorL a b) c (4294967295 ^^^ 4294967295) 4294967295 (by rw [xorL_len h1]; exact h2)
  rw [crcL_xorL a b _ _ h1, show (4294967295 ^^^ 4294967295 ^^^ 4294967295 : Nat) = 4294967295 from by decide] at h3
  rw [h3, xor4, Nat.xor_assoc]
/-- The register's lowest bits turned alone: how the program takes a byte in. -/
theorem crcB_low {c x : Nat} (hx : x < 256) : crcB c x = c / 256 ^^^ hn 8 (c % 256 ^^^ x) := by
  unfold crcB
  have h1 : (c ^^^ x) % 2 ^ 8 = c % 256 ^^^ x := by
    rw [Nat.xor_mod_two_pow, Nat.mod_eq_of_lt (a := x) (by omega)]
  have h2 : (c ^^^ x) / 2 ^ 8 = c / 256 := by
    rw [Nat.xor_div_two_pow, Nat.div_eq_of_lt (a := x) (by omega), Nat.xor_zero]
  rw [hn_split 8 (c ^^^ x), h1, h2, Nat.xor_comm]
/-- What the calls tell, and their errors. -/
def trnV (l : List Int) (bit : Int) : List Int := if bit < 0 ∨ (l.length : Int) ≤ bit / 8 then [] else trn l bit.toNat
def trnE (l : List Int) (bit : Int) : Int := if bit < 0 ∨ (l.length : Int) ≤ bit / 8 then 1 else 0
def sealV (l : List Int) : List Int := if 65532 < l.length then [] else l ++ le4 (sumN l)
def sealE (l : List Int) : Int := if 65532 < l.length then 3 else 0
def openV (l : List Int) : List Int := if 65536 < l.length ∨ l.length < 4 ∨ sealedB l = false then [] else l.take (l.length - 4)
def openE (l : List Int) : Int := if 65536 < l.length then 3 else if l.length < 4 then 5 else if sealedB l = false then 7 else 0
end Go.Proofs.YtjkhdfncahhnoaaGreat
/- Words for memory: a slice that reads as a list; a call's answer in memory of its own; number by number, up to the first error. -/
namespace Go.Proofs.YtjkhdfncahhnoaaGreat
open Go.RowKit
set_option maxHeartbeats 400000
set_option maxRecDepth 100000
set_option linter.unusedVariables false
theorem info_i64 : (Tryz.prog.info? 2).map (fun i => (i.zero, i.size, i.bytes)) = some (some (.int .i64 0), 1, 8) := by kernel_rfl
def seqE (num : Nat → Int × Int) : Nat → Int
  | 0 => 0
  | n + 1 => if seqE num n = 0 then (num n).2 else seqE num n
theorem seqE_stays {num : Nat → Int × Int} {k : Nat} (h : seqE num k ≠ 0) : ∀ n, k ≤ n → seqE num n = seqE num k
  | 0, hn => by have : k = 0 := by omega
                subst this; rfl
  | n + 1, hn => by
    by_cases e : k = n + 1
    · rw [e]
    · have := seqE_stays h n (by omega)
      show (if seqE num n = 0 then (num n).2 else seqE num n) = _
      rw [this, if_neg h]
def seqV (num : Nat → Int × Int) (n : Nat) : List Int := if seqE num n = 0 then (List.range n).map fun k => (num k).1 else []
/-- A call's answer: a list of numbers, in memory of the call's own, and an error; nothing that was there has turned. -/
def OwnInts (xs : List Int) (er : Int) (w : World) (e : Ending) (w' : World) : Prop :=
  ∃ A c, e = .returned (.tuple #[.slice A xs.length c, .int .i64 er]) ∧ w'.ownsRow w.heap.size 2 1 (.slice A xs.length c) xs.length (xs.map (Value.int .i64)) ∧ Below w.heap.size w w'
theorem own_made {w w' : World} {n : Nat} {f : Nat → Value} {e : TypeId} {B b : Nat} (h : w.rowIs b e n f) (hB : B ≤ b) (hn : n ≤ maxLen) :
    w.ownsRow B e 1 (.slice (some ⟨b, 0, none⟩) n n) n ((List.range n).map f) := by
  obtain ⟨c, hb, hs, hc⟩ := h
  refine ⟨by simp, .inr ⟨b, n, c, rfl, hB, hb, Nat.le_refl _, hn, by omega, ?_⟩⟩
  apply List.ext_getElem?
  intro i
  by_cases hi : i < n
  · rw [List.getElem?_take_of_lt (by omega), Array.getElem?_toList, hc i hi]
    simp [hi]
  · rw [List.getElem?_eq_none (by simp; omega), List.getElem?_eq_none (by simp; omega)]
theorem own_nil (w : World) (B : Nat) (e : TypeId) : w.ownsRow B e 1 (.slice none 0 0) 0 [] := World.ownsRow_nil w B e 1

/-- A slice at A, whatever its capacity, reads as these things, in blocks below B. -/
def Rd {α : Type} (enc : α → Value) (w : World) (B : Nat) (A : Option Addr) (xs : List α) : Prop :=
  ∀ k x, xs[k]? = some x → ∃ b off, A = some ⟨b, off, none⟩ ∧ b < B ∧ w.cell? ⟨b, off + k, none⟩ = some (enc x)
section
variable {α : Type} {enc : α → Value} {w w' : World} {B B' : Nat} {A : Option Addr} {xs : List α}
theorem Rd.keep (h : Rd enc w B A xs) (hk : ∀ p : Addr, p.block < B → w'.cell? p = w.cell? p) : Rd enc w' B A xs := fun k x hx => by
  obtain ⟨b, off, e, hb, hc⟩ := h k x hx
  exact ⟨b, off, e, hb, (hk _ hb).trans hc⟩
theorem Rd.below (h : Rd enc w B A xs) (hb : Below B w w') : Rd enc w' B A xs := h.keep fun _ hp => hb.cell hp
theorem Rd.more (h : Rd enc w B A xs) (hB : B ≤ B') : Rd enc w B' A xs := fun k x hx => by
  obtain ⟨b, off, e, hb, hc⟩ := h k x hx
  exact ⟨b, off, e, by omega, hc⟩
/-- To a world from which nothing below its own start has turned. -/
theorem Rd.on (h : Rd enc w w.heap.size A xs) (hb : Below w.heap.size w w') : Rd enc w' w'.heap.size A xs := (h.below hb).more hb.size
theorem Rd.drewN (h : Rd enc w B A xs) (n : Nat) : Rd enc (w.drewN n) B A xs := h
theorem Rd.none_ : Rd enc w B A ([] : List α) := fun k x hx => by simp at hx
theorem Rd.at_ (h : Rd enc w B A xs) {k : Nat} (hk : k < xs.length) : ∃ b off x, A = some ⟨b, off, none⟩ ∧ b < B ∧ xs[k]? = some x ∧ w.cell? ⟨b, off + k, none⟩ = some (enc x) := by
  obtain ⟨b, off, e, hb, hc⟩ := h k xs[k] (List.getElem?_eq_getElem hk)
  exact ⟨b, off, xs[k], e, hb, List.getElem?_eq_getElem hk, hc⟩
theorem Rd.of_own {base n c : Nat} {e : TypeId} (h : w.ownsRow base e 1 (.slice A n c) n (xs.map enc)) : Rd enc w w.heap.size A xs := fun k x hx => by
  have hl : xs.length = n := by simpa using h.1
  have hk : k < xs.length := (List.getElem?_eq_some_iff.1 hx).1
  rcases h.2 with ⟨h', h0⟩ | ⟨g, cap, cur, h', _, hg, _⟩
  · omega
  · simp only [Value.slice.injEq] at h'
    obtain ⟨rfl, _, rfl⟩ := h'
    refine ⟨g, 0, rfl, ?_, ?_⟩
    · exact (Array.getElem?_eq_some_iff.1 hg).1
    · rw [Nat.zero_add, h.cellAt k (by omega)]
      simp [hx]
/-- Memory of the call's own: it lies from base on, and below the heap's end. -/
theorem own_rd {base c : Nat} {e : TypeId} (h : w.ownsRow base e 1 (.slice A xs.length c) xs.length (xs.map enc)) : Rd enc w w.heap.size A xs := .of_own h
/-- It stays where only what lies above its world's end turns. -/
theorem own_on {base n c : Nat} {e : TypeId} {vs : List Value} (h : w.ownsRow base e 1 (.slice A n c) n vs) (hb : Below w.heap.size w w') : w'.ownsRow base e 1 (.slice A n c) n vs := by
  refine ⟨h.1, ?_⟩
  rcases h.2 with hn | ⟨g, cap, cur, hv, hg, hh, r⟩
  · exact .inl hn
  · exact .inr ⟨g, cap, cur, hv, hg, (hb.block g (Array.getElem?_eq_some_iff.1 hh).1).trans hh, r⟩
theorem own_lt {base n c g : Nat} {e : TypeId} {vs : List Value} (h : w.ownsRow base e 1 (.slice (some ⟨g, 0, none⟩) n c) n vs) : g < w.heap.size := (h.lt g rfl).2
theorem own_cell {base n c k : Nat} {e : TypeId} {zs : List Int} (h : w.ownsRow base e 1 (.slice A n c) n (zs.map (Value.int .i64))) (hk : k < zs.length) :
    ∃ g, A = some ⟨g, 0, none⟩ ∧ base ≤ g ∧ w.cell? ⟨g, k, none⟩ = some (.int .i64 (zs.getD k 0)) ∧ w.frozen? ⟨g, k, none⟩ = false := by
  have hl : zs.length = n := by simpa using h.1
  have h' := h
  rcases h.2 with ⟨he, h0⟩ | ⟨g, cap, cur, he, hg, _⟩
  · omega
  · simp only [Value.slice.injEq] at he
    obtain ⟨rfl, _, rfl⟩ := he
    refine ⟨g, rfl, hg, ?_, h'.frozenAt k⟩
    rw [h'.cellAt k (by omega)]
    simp [List.getD, hk]
theorem own_base {base base' n c : Nat} {e : TypeId} {vs : List Value} (h : w.ownsRow base e 1 (.slice A n c) n vs) (hb : base' ≤ base) : w.ownsRow base' e 1 (.slice A n c) n vs := by
  refine ⟨h.1, ?_⟩
  rcases h.2 with hn | ⟨g, cap, cur, hv, hg, r⟩
  · exact .inl hn
  · exact .inr ⟨g, cap, cur, hv, by omega, r⟩
end
theorem lt_of_cell {w : World} {p : Addr} {v : Value} (h : w.cell? p = some v) : p.block < w.heap.size := by
  rcases Nat.lt_or_ge p.block w.heap.size with hlt | hge
  · exact hlt
  · rw [World.cell?, Array.getElem?_eq_none hge] at h; cases h
/-- Every one is an int64. -/
def I64s (xs : List Int) : Prop := ∀ x ∈ xs, I64 x
theorem I64s.at_ {xs : List Int} (h : I64s xs) {k : Nat} {x : Int} (hx : xs[k]? = some x) : I64 x := h x (List.mem_of_getElem? hx)
theorem getD_of {xs : List Int} {k : Nat} {x : Int} (hx : xs[k]? = some x) : xs.getD k 0 = x := by simp [List.getD, hx]
/-- Below: what a call leaves as it was, as the walk asks it. -/
theorem bcells {W w1 : World} (hb : Below W.heap.size W w1) : (∀ b o, b < W.heap.size → w1.cell? ⟨b, o, none⟩ = W.cell? ⟨b, o, none⟩) ∧ (∀ b o, b < W.heap.size → w1.frozen? ⟨b, o, none⟩ = W.frozen? ⟨b, o, none⟩) :=
  ⟨fun b o h => hb.cell (p := ⟨b, o, none⟩) h, fun b o h => hb.frozen (p := ⟨b, o, none⟩) h⟩
/-- Numbers added up, up to the first error. -/
def tot (num : Nat → Int × Int) : Nat → Int × Int
  | 0 => (0, 0)
  | n + 1 => if (tot num n).2 = 0 then (if (num n).2 = 0 then (ckV ((tot num n).1 + (num n).1), ckE ((tot num n).1 + (num n).1)) else (0, (num n).2)) else tot num n
theorem tot_stays {num : Nat → Int × Int} {k : Nat} (h : (tot num k).2 ≠ 0) : ∀ n, k ≤ n → tot num n = tot num k
  | 0, hn => by have : k = 0 := by omega
                subst this; rfl
  | n + 1, hn => by
    by_cases e : k = n + 1
    · rw [e]
    · have := tot_stays h n (by omega)
      rw [tot, this, if_neg h]
end Go.Proofs.YtjkhdfncahhnoaaGreat
/- Words that every layer's walks use: quiet calls, blocks just laid, lists that are the same. -/
namespace Go.Proofs.YtjkhdfncahhnoaaGreat
open Go.RowKit
set_option maxHeartbeats 400000
set_option maxRecDepth 100000
set_option linter.unusedVariables false
theorem quietL {P : Program} {f : FuncId} {args : Array Value} {w : World} {v : Value} (h : ∀ W : World, Calls P f args W fun e w' => e = .returned v ∧ W = w') (n : Nat) :
    Calls P f args (w.drewN n) fun e w' => e = .returned v ∧ ∃ m, w' = w.drewN m := (h _).mono fun _ _ ⟨he, hm⟩ => ⟨he, n, hm.symm⟩
/-- .. where the contract asks something of the world that draws leave as it is. -/
theorem quietR {P : Program} {f : FuncId} {args : Array Value} {w : World} {v : Value} (h : ∀ n, Calls P f args (w.drewN n) fun e w' => e = .returned v ∧ w.drewN n = w') (n : Nat) :
    Calls P f args (w.drewN n) fun e w' => e = .returned v ∧ ∃ m, w' = w.drewN m := (h n).mono fun _ _ ⟨he, hm⟩ => ⟨he, n, hm.symm⟩
theorem belowN (B : Nat) (w : World) (n : Nat) : Below B w (w.drewN n) := ⟨rfl, rfl, rfl, Nat.le_refl _, fun _ _ => rfl⟩
theorem below_step {B : Nat} {w W w1 : World} (h0 : Below B w W) (h1 : Below W.heap.size W w1) (hB : B ≤ w.heap.size) : Below B w w1 := h0.trans (h1.mono (Nat.le_trans hB h0.size))
theorem two_cells (w : World) (u v : Value) (t s : TypeId) :
    ((w.alloc (.cells #[u] t)).alloc (.cells #[v] s)).cell? ⟨w.heap.size, 0, none⟩ = some u ∧ ((w.alloc (.cells #[u] t)).alloc (.cells #[v] s)).cell? ⟨w.heap.size + 1, 0, none⟩ = some v ∧
      Below w.heap.size w ((w.alloc (.cells #[u] t)).alloc (.cells #[v] s)) := by
  refine ⟨?_, ?_, by go_grown⟩ <;> simp [go_sem]
theorem one_cell (w : World) (u : Value) (t : TypeId) : (w.alloc (.cells #[u] t)).cell? ⟨w.heap.size, 0, none⟩ = some u ∧ Below w.heap.size w (w.alloc (.cells #[u] t)) := by
  refine ⟨?_, by go_grown⟩; simp [go_sem]
/-- Are they the same? -/
def eqB (xs ys : List Int) : Bool := decide (xs = ys)
theorem take_step {xs ys : List Int} {k : Nat} {x y : Int} (h : xs.take k = ys.take k) (hx : xs[k]? = some x) (hy : ys[k]? = some y) (e : x = y) : xs.take (k + 1) = ys.take (k + 1) := by
  rw [List.take_add_one, List.take_add_one, h, hx, hy, e]
theorem eqB_no {xs ys : List Int} {k : Nat} {x y : Int} (hx : xs[k]? = some x) (hy : ys[k]? = some y) (e : x ≠ y) : eqB xs ys = false := by
  unfold eqB
  rw [decide_eq_false_iff_not]
  rintro rfl
  rw [hx] at hy
  exact e (Option.some.inj hy)
theorem eqB_yes {xs ys : List Int} {k : Nat} (h : xs.take k = ys.take k) (hx : k = xs.length) (hl : xs.length = ys.length) : eqB xs ys = true := by
  unfold eqB
  rw [List.take_of_length_le (by omega), List.take_of_length_le (by omega)] at h
  simpa using h
theorem eqB_len {xs ys : List Int} (h : xs.length ≠ ys.length) : eqB xs ys = false := by
  unfold eqB
  rw [decide_eq_false_iff_not]
  rintro rfl
  exact h rfl
theorem eqB_self (xs : List Int) : eqB xs xs = true := by unfold eqB; simp
theorem eqB_of {xs ys : List Int} (h : xs = ys) : eqB xs ys = true := by subst h; exact eqB_self xs
theorem rd_block {α : Type} {enc : α → Value} {w : World} {b : Nat} {t : TypeId} (xs : List α) (fr : Nat × Nat) (h : w.heap[b]? = some (.cells (xs.map enc).toArray t fr)) : Rd enc w w.heap.size (some ⟨b, 0, none⟩) xs := fun k x hx => by
  refine ⟨b, 0, rfl, (Array.getElem?_eq_some_iff.1 h).1, ?_⟩
  have hk := (List.getElem?_eq_some_iff.1 hx)
  rw [Nat.zero_add, cell_of_row w b k _ t fr h]
  simp [hx]
theorem rd_new {α : Type} {enc : α → Value} (w : World) (t : TypeId) (xs : List α) : Rd enc (w.alloc (.cells (xs.map enc).toArray t)) (w.alloc (.cells (xs.map enc).toArray t)).heap.size (some ⟨w.heap.size, 0, none⟩) xs := rd_block xs (0, 0) (heap_alloc_new w _)
/-- A list just laid, in memory of the call's own. -/
theorem own_new {α : Type} {enc : α → Value} (w : World) (t : TypeId) (xs : List α) (hm : xs.length ≤ maxLen) {B : Nat} (hB : B ≤ w.heap.size) :
    (w.alloc (.cells (xs.map enc).toArray t)).ownsRow B t 1 (.slice (some ⟨w.heap.size, 0, none⟩) xs.length xs.length) xs.length (xs.map enc) := by
  have := World.ownsRow_lit (base := B) (e := t) (size := 1) w (xs.map enc).toArray xs.length hB hm (by simp)
  simpa using this
/-- What the call's own list's room is. -/
theorem own_cap {w : World} {base n c : Nat} {e : TypeId} {A : Option Addr} {vs : List Value} (h : w.ownsRow base e 1 (.slice A n c) n vs) : n ≤ c ∧ c ≤ 9223372036854775807 := by
  rcases h.2 with ⟨he, h0⟩ | ⟨g, cap, cur, he, _, _, h1, h2, _⟩
  · simp only [Value.slice.injEq] at he
    omega
  · simp only [Value.slice.injEq] at he
    unfold maxLen at h2
    omega
theorem own_cellk {w : World} {q : IntKind} {A : Option Addr} {base n c k : Nat} {e : TypeId} {zs : List Int} (h : w.ownsRow base e 1 (.slice A n c) n (zs.map (Value.int q))) (hk : k < zs.length) :
    ∃ g, A = some ⟨g, 0, none⟩ ∧ base ≤ g ∧ w.cell? ⟨g, k, none⟩ = some (.int q (zs.getD k 0)) ∧ w.frozen? ⟨g, k, none⟩ = false := by
  have hl : zs.length = n := by simpa using h.1
  have h' := h
  rcases h.2 with ⟨he, h0⟩ | ⟨g, cap, cur, he, hg, _⟩
  · omega
  · simp only [Value.slice.injEq] at he
    obtain ⟨rfl, _, rfl⟩ := he
    refine ⟨g, rfl, hg, ?_, h'.frozenAt k⟩
    rw [h'.cellAt k (by omega)]
    simp [List.getD, hk]
/-- Room made ahead. -/
theorem run_room {P : Program} (t e : TypeId) (z : Value) (bytes : Nat) (ht : P.underlying t = some (.slice e)) (hinfo : (P.info? e).map (fun i => (i.zero, i.size, i.bytes)) = some (some z, 1, bytes)) (hz1 : z.cells = #[z])
    (c : Nat) (hbytes : bytes * c ≤ 281474976710656) (h63 : c ≤ 9223372036854775807) (w : World) :
    (Instr.makeSlice t (.int .i64 0) (.int .i64 (c : Int))).run P w = .ok (.slice (some ⟨w.heap.size, 0, none⟩) 0 c) (w.alloc (.cells (madeCells #[z] c) e)) := by
  obtain ⟨i, hi, hzz⟩ := Option.map_eq_some_iff.1 hinfo
  simp only [Prod.mk.injEq] at hzz
  obtain ⟨hz, hs, hb⟩ := hzz
  have h : ((i.bytes * c : Nat) : Int) ≤ 281474976710656 := by rw [hb]; omega
  have hr := run_make (P := P) w t e i z ht hi hz .i64 .i64 0 c (Int.le_refl _) (by omega) (by rwa [Int.natCast_mul] at h) (by omega)
  simp only [Int.toNat_natCast, hs, Nat.mul_one, hz1, Int.toNat_zero] at hr
  exact hr
theorem own_room (w : World) (t : TypeId) (z : Value) (c : Nat) (hc : c ≤ maxLen) {B : Nat} (hB : B ≤ w.heap.size) :
    (w.alloc (.cells (madeCells #[z] c) t)).ownsRow B t 1 (.slice (some ⟨w.heap.size, 0, none⟩) 0 c) 0 [] :=
  World.ownsRow_made w _ c hB hc (by rw [size_madeCells, Nat.mul_one])
/-- Where what is left of a slice lies. -/
def cutA (A : Option Addr) (k c : Nat) : Option Addr := if c = k then A else A.map (·.add k)
theorem run_from {P : Program} (t : TypeId) (ht : P.underlying t = some (.slice (P.elem t))) (hs : ∀ w, (sizeOf (P.elem t)).run P w = .ok 1 w) (A : Option Addr) (len c k : Nat) (hk : k ≤ len) (hc : len ≤ c) (w : World) :
    (Instr.slice t (.slice A len c) (some (.int .i64 (k : Int))) none none).run P w = .ok (.slice (cutA A k c) (len - k) (c - k)) w := by
  rw [run_slice_l w t A len c ht .i64 (k : Int) (by omega) (by omega)]
  simp [hs, sliced, cutA, Result.andThen]
theorem run_upto {P : Program} (t : TypeId) (ht : P.underlying t = some (.slice (P.elem t))) (hs : ∀ w, (sizeOf (P.elem t)).run P w = .ok 1 w) (A : Option Addr) (len c k : Nat) (hk : k ≤ c) (w : World) :
    (Instr.slice t (.slice A len c) none (some (.int .i64 (k : Int))) none).run P w = .ok (.slice (cutA A 0 c) k c) w := by
  rw [run_slice_h w t A len c ht .i64 (k : Int) (by omega) (by omega)]
  simp [hs, sliced, cutA, Result.andThen]
theorem run_part {P : Program} (t : TypeId) (ht : P.underlying t = some (.slice (P.elem t))) (hs : ∀ w, (sizeOf (P.elem t)).run P w = .ok 1 w) (A : Option Addr) (len c k j : Nat) (hk : k ≤ j) (hj : j ≤ c) (w : World) :
    (Instr.slice t (.slice A len c) (some (.int .i64 (k : Int))) (some (.int .i64 (j : Int))) none).run P w = .ok (.slice (cutA A k c) (j - k) (c - k)) w := by
  rw [run_slice_lh w t A len c ht .i64 .i64 (k : Int) (j : Int) (by omega) (by omega) (by omega)]
  simp [hs, sliced, cutA, Result.andThen]
theorem Rd.cut {α : Type} {enc : α → Value} {w : World} {B : Nat} {A : Option Addr} {xs : List α} {c : Nat} (h : Rd enc w B A xs) (k : Nat) (hc : xs.length ≤ c) : Rd enc w B (cutA A k c) (xs.drop k) := fun j x hx => by
  unfold cutA
  by_cases e : c = k
  · rw [List.drop_eq_nil_of_le (by omega)] at hx
    simp at hx
  · rw [if_neg e]
    rw [List.getElem?_drop] at hx
    obtain ⟨b, off, rfl, hb, hc⟩ := h (k + j) x hx
    refine ⟨b, off + k, by simp [Go.WideShapes.add_plain], hb, ?_⟩
    rw [Nat.add_assoc]
    exact hc
theorem Rd.some_cut {α : Type} {enc : α → Value} {w : World} {B : Nat} {A : Option Addr} {xs : List α} (h : Rd enc w B A xs) (k : Nat) : Rd enc w B A (xs.take k) := fun j x hx => h j x (by
  rw [List.getElem?_take] at hx
  split at hx
  · exact hx
  · simp at hx)
theorem Rd.cut0 {α : Type} {enc : α → Value} {w : World} {B : Nat} {A : Option Addr} {xs : List α} {c : Nat} (h : Rd enc w B A xs) (hc : xs.length ≤ c) (k : Nat) : Rd enc w B (cutA A 0 c) (xs.take k) := by
  have := (h.cut 0 hc).some_cut k
  rwa [List.drop_zero] at this
/-- A text of bytes as a string. -/
theorem run_bytes {P : Program} {src e dst : TypeId} (hs : P.underlying src = some (.slice e)) (he : P.underlying e = some (.int .u8)) (hd : P.underlying dst = some .string) {w : World} {A : Option Addr} {B c : Nat} {xs : List Int} (h : Rd (Value.int .u8) w B A xs) :
    (convert src dst (.slice A xs.length c)).run P w = .ok (.string (strOfNums xs)) w := by
  cases A with
  | none =>
    have hx : xs = [] := by
      cases xs with
      | nil => rfl
      | cons x xs =>
        obtain ⟨_, _, he, _⟩ := h 0 x rfl
        cases he
    subst hx
    exact run_convert_bytes_nil w src e hs he _ _ dst hd
  | some a =>
    cases xs with
    | nil =>
      obtain ⟨b, off, spot⟩ := a
      rw [run_convert_bytes_string w src dst e _ _ c hs he hd, run_bytesToString w _ _ c [] (by simp [loadCells, loadCellsFrom])]
      rfl
    | cons x xs =>
      obtain ⟨b, off, ha, _, _⟩ := h 0 x rfl
      injection ha with ha
      subst ha
      exact run_convert_bytes_arg w src e hs he b off _ c (x :: xs) rfl (fun i hi => by
        obtain ⟨b', off', y, ha, _, hy, hc⟩ := h.at_ hi
        injection ha with ha
        injection ha with h1 h2 h3
        subst h1 h2
        rw [hc]
        simp [List.getD, hy]) dst hd
theorem str_eq {xs ys : List Int} (hx : ∀ x ∈ xs, 0 ≤ x ∧ x ≤ 255) (hy : ∀ y ∈ ys, 0 ≤ y ∧ y ≤ 255) : ((strOfNums xs).toList == (strOfNums ys).toList) = eqB xs ys := by
  have key : ∀ xs ys : List Int, (∀ x ∈ xs, 0 ≤ x ∧ x ≤ 255) → (∀ y ∈ ys, 0 ≤ y ∧ y ≤ 255) → (xs.map fun n => UInt8.ofNat n.toNat) = (ys.map fun n => UInt8.ofNat n.toNat) → xs = ys := by
    intro xs
    induction xs with
    | nil => intro ys _ _ h; cases ys with
      | nil => rfl
      | cons y ys => simp at h
    | cons x xs ih => intro ys hx hy h; cases ys with
      | nil => simp at h
      | cons y ys =>
        rw [List.map_cons, List.map_cons, List.cons.injEq] at h
        have h1 := hx x (by simp)
        have h2 := hy y (by simp)
        have e : x = y := by
          have := congrArg UInt8.toNat h.1
          simp only [UInt8.toNat_ofNat'] at this
          omega
        rw [e, ih ys (fun z hz => hx z (by simp [hz])) (fun z hz => hy z (by simp [hz])) h.2]
  have e1 : ∀ xs, (strOfNums xs).toList = xs.map fun n => UInt8.ofNat n.toNat := fun xs => by
    rw [← strOfNums_data]; exact ByteArray.toList_eq _
  rw [e1, e1]
  unfold eqB
  by_cases h : xs = ys
  · subst h; simp
  · rw [show decide (xs = ys) = false by simpa using h]
    rw [beq_eq_false_iff_ne]
    intro h'
    exact h (key xs ys hx hy h')
end Go.Proofs.YtjkhdfncahhnoaaGreat
/- Words for bytes and numbers of 64 bits: their types, a list that a call tells. -/
namespace Go.Proofs.YtjkhdfncahhnoaaGreat
open Go.RowKit
set_option maxRecDepth 100000
set_option linter.unusedVariables false
theorem cells_u8 : Tryz.prog.cellsOf 5 = 1 := by kernel_rfl
theorem cells_u64 : Tryz.prog.cellsOf 47 = 1 := by kernel_rfl
theorem cells_i64' : Tryz.prog.cellsOf 2 = 1 := by kernel_rfl
theorem info_u8 : (Tryz.prog.info? 5).map (fun i => (i.zero, i.size, i.bytes)) = some (some (.int .u8 0), 1, 1) := by kernel_rfl
theorem info_u64 : (Tryz.prog.info? 47).map (fun i => (i.zero, i.size, i.bytes)) = some (some (.int .u64 0), 1, 8) := by kernel_rfl
/-- A call's answer: a list in memory that lies from base on; nothing below base has turned. -/
def OwnOf (t : TypeId) (k : IntKind) (base : Nat) (xs : List Int) (w : World) (e : Ending) (w' : World) : Prop :=
  ∃ A c, e = .returned (.slice A xs.length c) ∧ w'.ownsRow base t 1 (.slice A xs.length c) xs.length (xs.map (Value.int k)) ∧ Below base w w'
theorem OwnOf.onto {t : TypeId} {k : IntKind} {xs : List Int} {B : Nat} {w wl w' : World} {e : Ending} (h : OwnOf t k wl.heap.size xs wl e w') (hb : Below B w wl) (hB : B ≤ wl.heap.size) : OwnOf t k B xs w e w' := by
  obtain ⟨A, c, he, ho, hk⟩ := h
  exact ⟨A, c, he, own_base ho hB, hb.trans (hk.mono hB)⟩
/-- A call's answer: a list in memory of the call's own, and a number beside it (an error). -/
def OwnE (t : TypeId) (k : IntKind) (base : Nat) (xs : List Int) (er : Int) (w : World) (e : Ending) (w' : World) : Prop :=
  ∃ A c, e = .returned (.tuple #[.slice A xs.length c, .int .i64 er]) ∧ w'.ownsRow base t 1 (.slice A xs.length c) xs.length (xs.map (Value.int k)) ∧ Below base w w'
theorem OwnE.nil {t : TypeId} {k : IntKind} {base : Nat} {er : Int} {w w' : World} (hb : Below base w w') : OwnE t k base [] er w (.returned (.tuple #[.slice none 0 0, .int .i64 er])) w' := ⟨none, 0, rfl, own_nil _ _ _, hb⟩
theorem ret1 {k : IntKind} {x y : Int} (h : x = y) : Ending.returned (Value.int k x) = Ending.returned (Value.int k y) := by rw [h]
end Go.Proofs.YtjkhdfncahhnoaaGreat
/- Texts that are the same, lists of numbers that are, as the document tells them. -/
namespace Go.Proofs.YtjkhdfncahhnoaaGreat
open Go.RowKit
set_option maxHeartbeats 400000
set_option maxRecDepth 100000
set_option linter.unusedVariables false
theorem ref_SameNumbers {A B : Option Addr} {c d : Nat} (xs ys : List Int) (hx : xs.length ≤ 9223372036854775807) (hy : ys.length ≤ 9223372036854775807) (w : World)
    (ra : Rd (Value.int .u64) w w.heap.size A xs) (rb : Rd (Value.int .u64) w w.heap.size B ys) :
    Calls Tryz.prog 27 #[.slice A xs.length c, .slice B ys.length d] w fun e w' => e = .returned (.bool (eqB xs ys)) ∧ Below w.heap.size w w' := by
  by_cases hl : xs.length = ys.length
  · have HA := hid ra
    have HB := hid rb
    clear ra rb
    have h1 : ((xs.length : Int) != (ys.length : Int)) = false := by simp; omega
    have h2 : (xs.length != ys.length) = false := by simp; omega
    have HL := hid hl
    clear hl
    go_enter Tryz.func27, Tryz.ntmps27
    go_wp2_with fail
    clear h1 h2
    go_loopw [13] (fun i wr => ∃ k : Nat, k ≤ xs.length ∧ i = .int .i64 k ∧ xs.take k = ys.take k ∧ Below w.heap.size w wr) (fun i _ => xs.length - (intOf i).toNat)
    case atStart => exact ⟨0, by omega, rfl, rfl, Below.refl _ _⟩
    case round =>
      obtain ⟨k, hk, rfl, ht, hb⟩ := hrel
      have HT := hid ht
      clear ht
      by_cases hlt : k < xs.length
      · have hlt2 : k < ys.length := by have := HL.out; omega
        obtain ⟨b1, o1, x, rfl, l1, ex, c1⟩ := (HA.out.below hb).at_ hlt
        obtain ⟨b2, o2, y, rfl, l2, ey, c2⟩ := (HB.out.below hb).at_ hlt2
        have EX := hid ex
        have EY := hid ey
        clear ex ey
        by_cases e : x = y
        · have e' : (x != y) = false := by simpa using e
          have E := hid e
          clear e
          go_wp2_with fail
          go_quiet (fail)
          go_wp2_with fail
          go_roundw
          case rel => exact ⟨k + 1, by omega, by go_num, take_step HT.out EX.out EY.out E.out, hb.trans (belowN _ _ _)⟩
          case measure => simp [intOf]; omega
        · have e' : (x != y) = true := by simpa using e
          go_wp2_with fail
          go_quiet (fail)
          go_wp2_with fail
          go_ret
          rw [eqB_no EX.out EY.out e]
          exact ⟨rfl, hb.trans (belowN _ _ _)⟩
      · have hke : k = xs.length := by omega
        have HK := hid hke
        clear hke
        go_wp2_with fail
        go_ret
        rw [eqB_yes HT.out HK.out HL.out]
        exact ⟨rfl, hb⟩
  · rw [eqB_len hl]
    have h1 : ((xs.length : Int) != (ys.length : Int)) = true := by simp; omega
    have h2 : (xs.length != ys.length) = true := by simp; omega
    go_enter Tryz.func27, Tryz.ntmps27
    go_wp2_with fail
    go_ret
    exact ⟨rfl, Below.refl _ _⟩
/-- What is told the same is found the same. -/
def SameB (P : Program) (f : FuncId) (X : List Int) : Prop := ∀ (A B : Option Addr) (c d : Nat) (W : World) (L M : Nat), Rd (Value.int .u8) W L A X → Rd (Value.int .u8) W M B X → Calls P f #[.slice A X.length c, .slice B X.length d] W fun e w' => e = .returned (.bool true) ∧ W = w'
/-- .. of numbers. -/
def SameN (P : Program) (f : FuncId) (X : List Int) : Prop := ∀ (A B : Option Addr) (c d : Nat) (W : World), Rd (Value.int .u64) W W.heap.size A X → Rd (Value.int .u64) W W.heap.size B X → Calls P f #[.slice A X.length c, .slice B X.length d] W fun e w' => e = .returned (.bool true) ∧ Below W.heap.size W w'
theorem samen_yes {X : List Int} (hx : X.length ≤ 9223372036854775807) : SameN Tryz.prog 27 X := fun A B c d W h1 h2 => by
  have := ref_SameNumbers (A := A) (B := B) (c := c) (d := d) X X hx hx W h1 h2
  rwa [eqB_self] at this
end Go.Proofs.YtjkhdfncahhnoaaGreat
/- Sums: a register halved, a byte taken in, by the program and by the document. -/
namespace Go.Proofs.YtjkhdfncahhnoaaGreat
open Go.RowKit
set_option maxHeartbeats 400000
set_option maxRecDepth 100000
set_option linter.unusedVariables false
theorem xor_nat {k : IntKind} {n : Nat} (hn : k.bits = n) (hw : ∀ m : Nat, m < 2 ^ n → k.wrap (m : Int) = m) {a b : Nat} (ha : a < 2 ^ n) (hb : b < 2 ^ n) : bits BinOp.xor k (a : Int) (b : Int) = ((a ^^^ b : Nat) : Int) := by
  show k.wrap ((BitVec.ofInt k.bits a ^^^ BitVec.ofInt k.bits b).toNat : Int) = _
  rw [BitVec.toNat_xor, BitVec.ofInt_natCast, BitVec.ofInt_natCast, BitVec.toNat_ofNat, BitVec.toNat_ofNat, hn, Nat.mod_eq_of_lt ha, Nat.mod_eq_of_lt hb]
  exact hw _ (Nat.xor_lt_two_pow ha hb)
theorem xor_u32 {a b : Nat} (ha : a < 2 ^ 32) (hb : b < 2 ^ 32) : bits BinOp.xor IntKind.u32 (a : Int) (b : Int) = ((a ^^^ b : Nat) : Int) :=
  xor_nat (n := 32) rfl (fun m h => by simp [IntKind.wrap, IntKind.bits, IntKind.signed]; omega) ha hb
theorem xor_u8 {a b : Nat} (ha : a < 2 ^ 8) (hb : b < 2 ^ 8) : bits BinOp.xor IntKind.u8 (a : Int) (b : Int) = ((a ^^^ b : Nat) : Int) :=
  xor_nat (n := 8) rfl (fun m h => by simp [IntKind.wrap, IntKind.bits, IntKind.signed]; omega) ha hb
theorem and_one {x : Nat} (hx : x < 2 ^ 32) : bits BinOp.and IntKind.u32 (x : Int) 1 = ((x % 2 : Nat) : Int) := by
  show IntKind.u32.wrap ((BitVec.ofInt 32 x &&& BitVec.ofInt 32 ((1 : Nat) : Int)).toNat : Int) = _
  rw [BitVec.toNat_and, BitVec.ofInt_natCast, BitVec.ofInt_natCast, BitVec.toNat_ofNat, BitVec.toNat_ofNat, Nat.mod_eq_of_lt hx, show 1 % 2 ^ 32 = 1 from rfl, Nat.and_one_is_mod]
  simp [IntKind.wrap, IntKind.bits, IntKind.signed]
  omega
theorem and_odd {x : Nat} (hx : x < 2 ^ 32) (h : x % 2 = 1) : bits BinOp.and IntKind.u32 (x : Int) 1 = 1 := by rw [and_one hx, h]; rfl
theorem and_even {x : Nat} (hx : x < 2 ^ 32) (h : x % 2 ≠ 1) : bits BinOp.and IntKind.u32 (x : Int) 1 = 0 := by rw [and_one hx, show x % 2 = 0 by omega]; rfl
theorem hs_odd {x : Nat} (hx : x < 2 ^ 32) (h : x % 2 = 1) : bits BinOp.xor IntKind.u32 ((x : Int) / 2) 3988292384 = ((hs x : Nat) : Int) := by
  rw [show ((x : Int) / 2) = ((x / 2 : Nat) : Int) by omega, show (3988292384 : Int) = ((tnr : Nat) : Int) from rfl, xor_u32 (by omega) (by decide)]
  unfold hs
  rw [if_pos h]
theorem hs_even {x : Nat} (h : x % 2 ≠ 1) : ((x : Int) / 2) = ((hs x : Nat) : Int) := by
  unfold hs
  rw [if_neg h]
  omega
theorem crc_halved (r : Nat) (hr : r < 2 ^ 32) (w : World) :
    Calls Tryz.prog 111 #[.int .u32 (r : Int)] w fun e w' => e = .returned (.int .u32 ((hn 8 r : Nat) : Int)) ∧ w = w' := by
  obtain ⟨R, hR⟩ : ∃ R, hn 8 r = R := ⟨_, rfl⟩
  rw [hR]
  have HR := hid hR
  clear hR
  go_enter Tryz.func111, Tryz.ntmps111
  go_wp2_with fail
  go_loop [0, 4] (fun s i => ∃ (k x : Nat), k ≤ 8 ∧ x < 2 ^ 32 ∧ i = .int .i64 k ∧ s = .int .u32 x ∧ hn (8 - k) x = R) (fun _ i => 8 - (intOf i).toNat)
  case atStart => exact ⟨0, r, by omega, hr, rfl, rfl, HR.out⟩
  case round =>
    obtain ⟨k, x, hk, hx, rfl, rfl, hs'⟩ := hrel
    have HS := hid hs'
    clear hs'
    by_cases hlt : k < 8
    · have HN : Hid (hn (8 - (k + 1)) (hs x) = R) := by
        have h := HS.out
        rw [show 8 - k = (8 - (k + 1)) + 1 by omega, hn] at h
        exact h
      by_cases h1 : x % 2 = 1
      · have e1 := hs_odd hx h1
        go_wp2_with fail
        go_round
        case rel => exact ⟨k + 1, hs x, by omega, hs_lt hx, by go_num, rfl, HN.out⟩
        case measure => simp [intOf]; omega
      · have e1 := hs_even h1
        go_wp2_with fail
        go_round
        case rel => exact ⟨k + 1, hs x, by omega, hs_lt hx, by go_num, rfl, HN.out⟩
        case measure => simp [intOf]; omega
    · obtain rfl : k = 8 := by omega
      have HN : Hid (x = R) := HS.out
      go_wp2_with fail
      go_ret
      rw [HN.out]
      exact ⟨rfl, rfl⟩
theorem not_u32 {s : Nat} (h : s < 2 ^ 32) : bits BinOp.xor IntKind.u32 IntKind.u32.max (s : Int) = ((inv s : Nat) : Int) := by
  rw [show IntKind.u32.max = ((4294967295 : Nat) : Int) from rfl, xor_u32 (by decide) h, inv_xor h, Nat.xor_comm]
theorem crc_More {A : Option Addr} {c : Nat} (s : Nat) (hs' : s < 2 ^ 32) (b : List Int) (hb : b.length ≤ 9223372036854775807) (ub : U8s b) (w : World) {B : Nat} (ra : Rd (Value.int .u8) w B A b) :
    Calls Tryz.prog 94 #[.int .u32 (s : Int), .slice A b.length c] w fun e w' => e = .returned (.int .u32 ((moreN s b : Nat) : Int)) ∧ w = w' := by
  obtain ⟨R, hR⟩ : ∃ R, moreN s b = R := ⟨_, rfl⟩
  rw [hR]
  have HR : Hid (inv (crcL (inv s) b) = R) := hR
  have hi := inv_lt s
  obtain ⟨v, hv⟩ : ∃ v, inv s = v := ⟨_, rfl⟩
  have HA := hid ra
  have UB := hid ub
  have e0 := not_u32 hs'
  rw [hv] at hi e0 HR
  have hsg : IntKind.u32.signed = false := rfl
  clear ra ub hv hR
  go_enter Tryz.func94, Tryz.ntmps94
  go_wp2_with fail
  clear e0
  go_loop [5, 12] (fun s i => ∃ (k x : Nat), k ≤ b.length ∧ x < 2 ^ 32 ∧ i = .int .i64 k ∧ s = .int .u32 x ∧ crcL v (b.take k) = x) (fun _ i => b.length - (intOf i).toNat)
  case atStart => exact ⟨0, v, by omega, hi, rfl, rfl, by rw [List.take_zero]; exact crcL_nil v⟩
  case round =>
    obtain ⟨k, x, hk, hx, rfl, rfl, hs'⟩ := hrel
    have HS := hid hs'
    clear hs'
    by_cases hlt : k < b.length
    · obtain ⟨b1, o1, y, rfl, l1, ex, c1⟩ := HA.out.at_ hlt
      obtain ⟨y0, y1⟩ := UB.out.at_ ex
      obtain ⟨y, rfl⟩ := Int.eq_ofNat_of_zero_le y0
      have e1 := xor_u32 (a := x) (b := y) hx (by omega)
      have hz : x ^^^ y < 2 ^ 32 := Nat.xor_lt_two_pow hx (by omega)
      have CH := hid (crc_halved (x ^^^ y) hz)
      have HN : Hid (crcL v (b.take (k + 1)) = crcB x y) := by
        have h := crcL_step v ex
        rw [HS.out] at h
        exact h
      have hc := crcB_lt (c := x) (x := y) hx (by omega)
      rw [show hn 8 (x ^^^ y) = crcB x y from rfl] at CH
      obtain ⟨z, hz'⟩ : ∃ z, x ^^^ y = z := ⟨_, rfl⟩
      rw [hz'] at e1 hz CH
      obtain ⟨N, hN⟩ : ∃ N, crcB x y = N := ⟨_, rfl⟩
      rw [hN] at CH HN hc
      clear ex hz' hN y0
      go_wp2_with fail
      refine (CH.out _).mono ?_
      rintro _ _ ⟨rfl, rfl⟩
      go_wp2_with fail
      go_round
      case rel => exact ⟨k + 1, N, by omega, hc, by go_num, rfl, HN.out⟩
      case measure => simp [intOf]; omega
    · have e1 := not_u32 hx
      have HN : Hid (inv x = R) := by
        have h := HS.out
        rw [List.take_of_length_le (by omega)] at h
        rw [← h]
        exact HR.out
      obtain ⟨N, hN⟩ : ∃ N, inv x = N := ⟨_, rfl⟩
      rw [hN] at e1 HN
      clear hN
      obtain rfl : k = b.length := by omega
      go_wp2_with fail
      go_ret
      rw [HN.out]
      exact ⟨rfl, rfl⟩
theorem crc_Sum {A : Option Addr} {c : Nat} (b : List Int) (hb : b.length ≤ 9223372036854775807) (ub : U8s b) (w : World) {B : Nat} (ra : Rd (Value.int .u8) w B A b) :
    Calls Tryz.prog 64 #[.slice A b.length c] w fun e w' => e = .returned (.int .u32 ((sumN b : Nat) : Int)) ∧ w = w' := by
  have CM := hid (crc_More (A := A) (c := c) 0 (by decide) b hb ub w ra)
  rw [show moreN 0 b = sumN b from rfl] at CM
  obtain ⟨R, hR⟩ : ∃ R, sumN b = R := ⟨_, rfl⟩
  rw [hR] at CM ⊢
  clear hR ra ub
  go_enter Tryz.func64, Tryz.ntmps64
  go_wp2_with fail
  refine CM.out.mono ?_
  rintro _ _ ⟨rfl, rfl⟩
  go_wp2_with fail
  go_ret
  exact ⟨rfl, rfl⟩
end Go.Proofs.YtjkhdfncahhnoaaGreat
/- 'append' onto a list of the call's own, whatever list is appended: the walk goes on in one way. -/
namespace Go.Proofs.YtjkhdfncahhnoaaGreat
open Go.RowKit
set_option maxRecDepth 100000
set_option linter.unusedVariables false
section
variable {P : Program} {α : Type}
theorem app_nothing (w : World) (base : Nat) (t ty e : TypeId) (i : TypeInfo) (ht : P.underlying t = some (.slice e)) (hi : P.info? e = some i)
    (v : Value) (n : Nat) (vs : List Value) (hown : w.ownsRow base e 1 v n vs) (c : Nat) : (Builtin.append_ #[t, t] ty #[v, .slice none 0 c]).run P w = .ok v w := by
  rcases hown.2 with ⟨rfl, rfl⟩ | ⟨g, cap, cur, rfl, _, _, hnc, _⟩
  · simp [Builtin.append_, run_underlying ht, sizeOf, typeInfo, hi, Builtin.lenOf, Builtin.firstCells]
  · simp [Builtin.append_, run_underlying ht, sizeOf, typeInfo, hi, Builtin.lenOf, Builtin.firstCells, hnc, storeCells]
/-- The value of a list of the call's own. -/
theorem own_shape {w : World} {base n : Nat} {e : TypeId} {v : Value} {vs : List Value} (h : w.ownsRow base e 1 v n vs) : ∃ A c, v = .slice A n c := by
  rcases h.2 with ⟨rfl, rfl⟩ | ⟨g, cap, cur, rfl, _⟩
  · exact ⟨_, _, rfl⟩
  · exact ⟨_, _, rfl⟩
theorem run_app (enc : α → Value) (h1 : ∀ x, (enc x).oneCell' = true) (w : World) (base : Nat) (t ty e : TypeId) (z : Value) (bytes : Nat) (ht : P.underlying t = some (.slice e))
    (hinfo : (P.info? e).map (fun i => (i.zero, i.size, i.bytes)) = some (some z, 1, bytes)) (hzs : z.cells.size = 1)
    (ys : List α) (A0 : Option Addr) (c0 : Nat) (hown : w.ownsRow base e 1 (.slice A0 ys.length c0) ys.length (ys.map enc))
    (xs : List α) (A : Option Addr) (c B : Nat) (hr : Rd enc w B A xs) (h63 : ys.length + xs.length ≤ maxLen) (hbytes : (ys.length + xs.length) * bytes ≤ 140737488355328) (hbase : base ≤ w.heap.size) :
    ∃ A' c' w', (Builtin.append_ #[t, t] ty #[.slice A0 ys.length c0, .slice A xs.length c]).run P w = .ok (.slice A' (ys ++ xs).length c') w' ∧ w'.ownsRow base e 1 (.slice A' (ys ++ xs).length c') (ys ++ xs).length ((ys ++ xs).map enc) ∧
      Below base w w' ∧ w.grownBy w' (Value.slice A0 ys.length c0).ownBlock ∧ ((Value.slice A' (ys ++ xs).length c').ownBlock = (Value.slice A0 ys.length c0).ownBlock ∨ (Value.slice A' (ys ++ xs).length c').ownBlock = some w.heap.size) := by
  obtain ⟨i, hi, hzz⟩ := Option.map_eq_some_iff.1 hinfo
  simp only [Prod.mk.injEq] at hzz
  obtain ⟨hz, hs, hb⟩ := hzz
  have hlen : (ys ++ xs).length = ys.length + xs.length := List.length_append
  rcases A with _ | ad
  · have hx : xs = [] := by
      cases xs with
      | nil => rfl
      | cons x xs =>
        obtain ⟨_, _, he, _⟩ := hr 0 x rfl
        cases he
    subst hx
    rw [List.append_nil]
    exact ⟨A0, c0, w, app_nothing w base t ty e i ht hi _ _ _ hown c, hown, Below.refl _ _, World.grownBy.refl w _, .inl rfl⟩
  · have hcells : ∀ j u, (xs.map enc)[j]? = some u → w.cell? (ad.add j) = some u := by
      intro j u hu
      rw [List.getElem?_map, Option.map_eq_some_iff] at hu
      obtain ⟨x, hx, rfl⟩ := hu
      obtain ⟨b, off, he, _, hc⟩ := hr j x hx
      injection he with he
      subst he
      rw [Addr.add_lit]
      exact hc
    obtain ⟨v', w', hrun, h2, h3, _, h5⟩ := run_append_own_at (P := P) w base t ty e i z 1 bytes ht hi hz hs hb hzs (by decide) _ ys.length (ys.map enc) hown ad xs.length c (xs.map enc) (by simp) hcells (by
      intro u hu
      obtain ⟨x, _, rfl⟩ := List.mem_map.1 hu
      exact h1 x) h63 hbytes hbase
    obtain ⟨A', c', rfl⟩ := own_shape h2
    rw [← List.map_append] at h2
    rw [← hlen] at h2 hrun h5
    refine ⟨A', c', w', hrun, h2, (Below.refl base w).grown h3 hbase fun k hk => (hown.lt k hk).1, h3, h5⟩
theorem wpList_app (enc : α → Value) (h1 : ∀ x, (enc x).oneCell' = true) (w : World) {ops : Array Oper} {rest : List Oper} {o : Oper} {a : Act} {Q : Exit → Act → World → Prop} (hgd : o.guard = none) (s x : Operand) (t : TypeId)
    (ho : o.op = .call { callee := .builtin .append, args := #[s, x], argTypes := #[t, t] })
    (base : Nat) (e : TypeId) (z : Value) (bytes : Nat) (ht : P.underlying t = some (.slice e)) (hinfo : (P.info? e).map (fun i => (i.zero, i.size, i.bytes)) = some (some z, 1, bytes)) (hzs : z.cells.size = 1)
    (ys : List α) (A0 : Option Addr) (c0 : Nat) (hs : a.eval s = .slice A0 ys.length c0) (hown : w.ownsRow base e 1 (.slice A0 ys.length c0) ys.length (ys.map enc))
    (xs : List α) (A : Option Addr) (c B : Nat) (hx : a.eval x = .slice A xs.length c) (hr : Rd enc w B A xs) (h63 : ys.length + xs.length ≤ maxLen) (hbytes : (ys.length + xs.length) * bytes ≤ 140737488355328) (hbase : base ≤ w.heap.size)
    (h : ∀ (S : List α) (A' : Option Addr) (c' : Nat) (w' : World), S = ys ++ xs → w'.ownsRow base e 1 (.slice A' S.length c') S.length (S.map enc) → Below base w w' → w.grownBy w' (Value.slice A0 ys.length c0).ownBlock → wpList P ops Q rest (a.put o.dst (.slice A' S.length c')) w') :
    wpList P ops Q (o :: rest) a w := by
  refine wpList_plain hgd fun _ hK => ?_
  obtain ⟨A', c', w', hrun, h2, h3, h4, _⟩ := run_app (P := P) enc h1 w base t o.type e z bytes ht hinfo hzs ys A0 c0 hown xs A c B hr h63 hbytes hbase
  unfold Oper.wp execOp
  simp only [ho, resolve, invoke, builtin, Sem.run_bind, Sem.run_pure, Result.andThen_ok, List.map_toArray, List.map_cons, List.map_nil, hs, hx, hrun]
  exact hK _ _ (h _ A' c' w' rfl h2 h3 h4)
/-- .. where the operation hangs on a test that holds. -/
theorem wpList_app_if (enc : α → Value) (h1 : ∀ x, (enc x).oneCell' = true) (w : World) {ops : Array Oper} {rest : List Oper} {o : Oper} {a : Act} {Q : Exit → Act → World → Prop} (hgd : Region.wanted o (yielded ops a.tmps) = true) (s x : Operand) (t : TypeId)
    (ho : o.op = .call { callee := .builtin .append, args := #[s, x], argTypes := #[t, t] })
    (base : Nat) (e : TypeId) (z : Value) (bytes : Nat) (ht : P.underlying t = some (.slice e)) (hinfo : (P.info? e).map (fun i => (i.zero, i.size, i.bytes)) = some (some z, 1, bytes)) (hzs : z.cells.size = 1)
    (ys : List α) (A0 : Option Addr) (c0 : Nat) (hs : a.eval s = .slice A0 ys.length c0) (hown : w.ownsRow base e 1 (.slice A0 ys.length c0) ys.length (ys.map enc))
    (xs : List α) (A : Option Addr) (c B : Nat) (hx : a.eval x = .slice A xs.length c) (hr : Rd enc w B A xs) (h63 : ys.length + xs.length ≤ maxLen) (hbytes : (ys.length + xs.length) * bytes ≤ 140737488355328) (hbase : base ≤ w.heap.size)
    (h : ∀ (S : List α) (A' : Option Addr) (c' : Nat) (w' : World), S = ys ++ xs → w'.ownsRow base e 1 (.slice A' S.length c') S.length (S.map enc) → Below base w w' → w.grownBy w' (Value.slice A0 ys.length c0).ownBlock → wpList P ops Q rest (a.put o.dst (.slice A' S.length c')) w') :
    wpList P ops Q (o :: rest) a w := by
  refine wpList_step fun K hK => ?_
  rw [if_pos hgd]
  obtain ⟨A', c', w', hrun, h2, h3, h4, _⟩ := run_app (P := P) enc h1 w base t o.type e z bytes ht hinfo hzs ys A0 c0 hown xs A c B hr h63 hbytes hbase
  unfold Oper.wp execOp
  simp only [ho, resolve, invoke, builtin, Sem.run_bind, Sem.run_pure, Result.andThen_ok, List.map_toArray, List.map_cons, List.map_nil, hs, hx, hrun]
  exact hK _ _ (h _ A' c' w' rfl h2 h3 h4)
/-- One thing appended: it lies in a cell of its own. -/
theorem rd_one {enc : α → Value} {w : World} {b o : Nat} {x : α} (hc : w.cell? ⟨b, o, none⟩ = some (enc x)) : Rd enc w w.heap.size (some ⟨b, o, none⟩) [x] := fun k y hy => by
  cases k with
  | zero =>
    simp only [List.getElem?_cons_zero, Option.some.injEq] at hy
    subst hy
    exact ⟨b, o, rfl, lt_of_cell hc, hc⟩
  | succ k => simp at hy
end
end Go.Proofs.YtjkhdfncahhnoaaGreat
/- A text with one bit turned, by the program and by the document. -/
namespace Go.Proofs.YtjkhdfncahhnoaaGreat
open Go.RowKit
set_option maxHeartbeats 400000
set_option maxRecDepth 100000
set_option linter.unusedVariables false
/-- A copy of bytes. -/
theorem clone_any {A : Option Addr} {c : Nat} (b : List Int) (hb : b.length ≤ 1000000) (w : World) {B : Nat} (ra : Rd (Value.int .u8) w B A b) :
    Calls Tryz.prog 43 #[.slice A b.length c] w (OwnOf 5 .u8 w.heap.size b w) := by
  cases A with
  | none =>
    have hx : b = [] := by
      cases b with
      | nil => rfl
      | cons x xs =>
        obtain ⟨_, _, he, _⟩ := ra 0 x rfl
        cases he
    subst hx
    refine (Tryz.bytes_Clone_nil 0 c w).mono ?_
    rintro _ _ ⟨rfl, rfl⟩
    exact ⟨none, 0, rfl, own_nil _ _ _, Below.refl _ _⟩
  | some a =>
    refine (Tryz.bytes_Clone_at a b.length c b w rfl (by omega) ?_).mono ?_
    · intro i hi
      obtain ⟨b1, o1, x, e, _, ex, hc⟩ := ra.at_ hi
      injection e with e
      subst e
      rw [Go.WideShapes.add_plain, hc, getD_of ex]
    · rintro _ w1 ⟨v, rfl, ho, _, hb⟩
      obtain ⟨A', c', rfl⟩ := own_shape ho
      exact ⟨A', c', rfl, ho, hb⟩
end Go.Proofs.YtjkhdfncahhnoaaGreat
/- A text's sum in bytes; a text and its sum. -/
namespace Go.Proofs.YtjkhdfncahhnoaaGreat
open Go.RowKit
set_option maxHeartbeats 400000
set_option maxRecDepth 100000
set_option linter.unusedVariables false
/-- The first k bytes of a sum, the others 0. -/
def tl (s k j : Nat) : Int := if j < k then ((s / 2 ^ (8 * j) % 256 : Nat) : Int) else 0
theorem tl_zero (s j : Nat) : tl s 0 j = 0 := rfl
theorem tl_new (s k : Nat) : tl s (k + 1) k = ((s / 2 ^ (8 * k) % 256 : Nat) : Int) := by unfold tl; rw [if_pos (by omega)]
theorem tl_old {s k j : Nat} (h : j ≠ k) : tl s (k + 1) j = tl s k j := by
  unfold tl
  by_cases h1 : j < k
  · rw [if_pos h1, if_pos (by omega)]
  · rw [if_neg h1, if_neg (by omega)]
/-- Four bytes in a block. -/
def Four (w : World) (g : Nat) (f : Nat → Int) : Prop := ∀ j, j < 4 → w.cell? ⟨g, j, none⟩ = some (.int .u8 (f j)) ∧ w.frozen? ⟨g, j, none⟩ = false
theorem four_new (w : World) (t : TypeId) : Four (w.alloc (.cells #[.int .u8 0, .int .u8 0, .int .u8 0, .int .u8 0] t)) w.heap.size (fun _ => 0) := fun j hj => by
  match j, hj with
  | 0, _ => exact ⟨by simp [go_sem], by simp [go_sem]⟩
  | 1, _ => exact ⟨by simp [go_sem], by simp [go_sem]⟩
  | 2, _ => exact ⟨by simp [go_sem], by simp [go_sem]⟩
  | 3, _ => exact ⟨by simp [go_sem], by simp [go_sem]⟩
theorem Four.below {w w' : World} {g B : Nat} {f : Nat → Int} (h : Four w g f) (hb : Below B w w') (hg : g < B) : Four w' g f := fun j hj =>
  ⟨(hb.cell (p := ⟨g, j, none⟩) hg).trans (h j hj).1, (hb.frozen (p := ⟨g, j, none⟩) hg).trans (h j hj).2⟩
theorem Four.other {w : World} {g : Nat} {f : Nat → Int} (h : Four w g f) {p : Addr} (hp : p.block ≠ g) (v : Value) : Four (w.setCell p v) g f := fun j hj => by
  refine ⟨?_, ?_⟩
  · rw [World.cell?_setCell_other _ _ _ _ (by rintro rfl; exact hp rfl)]
    exact (h j hj).1
  · rw [World.frozen?_setCell]
    exact (h j hj).2
theorem Four.set {w : World} {g k s : Nat} (h : Four w g (tl s k)) (hk : k < 4) {u : Value} (hc : w.cell? ⟨g, k, none⟩ = some u) : Four (w.setCell ⟨g, k, none⟩ (.int .u8 (tl s (k + 1) k))) g (tl s (k + 1)) := fun j hj => by
  refine ⟨?_, ?_⟩
  · by_cases e : j = k
    · subst e
      exact World.cell?_setCell_same _ _ _ hc
    · rw [World.cell?_setCell_other _ _ _ _ (by intro e'; injection e' with e1 e2; exact e e2.symm), tl_old e]
      exact (h j hj).1
  · rw [World.frozen?_setCell]
    exact (h j hj).2
/-- Four bytes laid at once. -/
def lay4 (w : World) (g : Nat) (a b c d : Value) : World := (((w.setCell ⟨g, 0, none⟩ a).setCell ⟨g, 1, none⟩ b).setCell ⟨g, 2, none⟩ c).setCell ⟨g, 3, none⟩ d
theorem lay4_below {w w' : World} {g B : Nat} (h : Below B w w') (hg : B ≤ g) (a b c d : Value) : Below B w (lay4 w' g a b c d) :=
  (((h.setCell (p := ⟨g, 0, none⟩) hg _).setCell (p := ⟨g, 1, none⟩) hg _).setCell (p := ⟨g, 2, none⟩) hg _).setCell (p := ⟨g, 3, none⟩) hg _
theorem lay4_cells {w : World} {g : Nat} {f : Nat → Int} (h : Four w g f) (a b c d : Value) :
    (lay4 w g a b c d).cell? ⟨g, 0, none⟩ = some a ∧ (lay4 w g a b c d).cell? ⟨g, 1, none⟩ = some b ∧ (lay4 w g a b c d).cell? ⟨g, 2, none⟩ = some c ∧ (lay4 w g a b c d).cell? ⟨g, 3, none⟩ = some d := by
  have ne : ∀ {i j : Nat}, i ≠ j → (⟨g, i, none⟩ : Addr) ≠ ⟨g, j, none⟩ := fun hij e => by injection e with _ e; exact hij e
  have h0 := (h 0 (by omega)).1
  have h1 := (h 1 (by omega)).1
  have h2 := (h 2 (by omega)).1
  have h3 := (h 3 (by omega)).1
  have oth : ∀ (w : World) (i j : Nat) (v : Value), i ≠ j → (w.setCell ⟨g, i, none⟩ v).cell? ⟨g, j, none⟩ = w.cell? ⟨g, j, none⟩ := fun w i j v hij => World.cell?_setCell_other _ _ _ _ (ne hij)
  unfold lay4
  refine ⟨?_, ?_, ?_, ?_⟩
  · rw [oth _ 3 0 _ (by omega), oth _ 2 0 _ (by omega), oth _ 1 0 _ (by omega), World.cell?_setCell_same _ _ _ h0]
  · rw [oth _ 3 1 _ (by omega), oth _ 2 1 _ (by omega)]
    exact World.cell?_setCell_same _ _ _ ((oth _ 0 1 _ (by omega)).trans h1)
  · rw [oth _ 3 2 _ (by omega)]
    exact World.cell?_setCell_same _ _ _ ((oth _ 1 2 _ (by omega)).trans ((oth _ 0 2 _ (by omega)).trans h2))
  · exact World.cell?_setCell_same _ _ _ ((oth _ 2 3 _ (by omega)).trans ((oth _ 1 3 _ (by omega)).trans ((oth _ 0 3 _ (by omega)).trans h3)))
theorem crc_tail {A : Option Addr} {c : Nat} (b : List Int) (hb : b.length ≤ 1000000) (ub : U8s b) (w : World) (ra : Rd (Value.int .u8) w w.heap.size A b) :
    Calls Tryz.prog 41 #[.slice A b.length c] w fun e w' => e = .returned (.agg #[.int .u8 (tl (sumN b) 4 0), .int .u8 (tl (sumN b) 4 1), .int .u8 (tl (sumN b) 4 2), .int .u8 (tl (sumN b) 4 3)]) ∧ Below w.heap.size w w' := by
  have hs := sumN_lt b
  obtain ⟨w2, hw2⟩ : ∃ w2, (w.alloc (.cells #[.int .u8 0, .int .u8 0, .int .u8 0, .int .u8 0] 79)).alloc (.cells #[.int .u8 0, .int .u8 0, .int .u8 0, .int .u8 0] 79) = w2 := ⟨_, rfl⟩
  have hb2 : Below w.heap.size w w2 := by rw [← hw2]; go_grown
  have f2 : Four w2 (w.heap.size + 1) (fun _ => 0) := by
    rw [← hw2]
    have := four_new (w.alloc (.cells #[.int .u8 0, .int .u8 0, .int .u8 0, .int .u8 0] 79)) 79
    rwa [World.size_alloc] at this
  have f1 : Four w2 w.heap.size (fun _ => 0) := by
    rw [← hw2]
    exact (four_new w 79).below ((Below.refl _ _).alloc (Nat.le_refl _) _) (by simp)
  have CS := hid (crc_Sum (A := A) (c := c) b (by omega) ub w2 (ra.below hb2))
  obtain ⟨s, hs'⟩ : ∃ s, sumN b = s := ⟨_, rfl⟩
  rw [hs'] at CS hs ⊢
  clear hs' ra ub
  go_enter Tryz.func41, Tryz.ntmps41
  go_wp2_with fail
  refine CS.out.mono ?_
  rintro _ _ ⟨rfl, rfl⟩
  have F1 := hid f1
  have F2 := hid f2
  clear f1 f2 hw2
  go_wp2_with fail
  go_loopw [5, 8] (fun q i wr => ∃ (k : Nat), k ≤ 4 ∧ i = .int .i64 k ∧ Four wr (w.heap.size + 1) (tl s k) ∧ Four wr w.heap.size (fun _ => 0) ∧ Below w.heap.size w wr) (fun _ i _ => 4 - (intOf i).toNat)
  case atStart => exact ⟨0, by omega, rfl, F2.out, F1.out, hb2⟩
  case round =>
    obtain ⟨k, hk, rfl, g2, g1, hbr⟩ := hrel
    have G1 := hid g1
    have G2 := hid g2
    clear F1 F2
    by_cases hlt : k < 4
    · obtain ⟨hc, hf⟩ := g2 k hlt
      clear g1 g2
      go_wp2_with fail
      go_roundw
      case rel =>
        refine ⟨k + 1, by omega, by go_num, ?_, ?_, hbr.setCell (by simp) _⟩
        · have e1 : (s : Int) / 2 ^ (8 * k) % 256 = tl s (k + 1) k := by rw [tl_new, Int.natCast_emod, Int.natCast_ediv, Int.natCast_pow]; rfl
          rw [e1]
          exact G2.out.set hlt hc
        · exact G1.out.other (by simp) _
      case measure => simp [intOf]; omega
    · obtain rfl : k = 4 := by omega
      clear G2
      obtain ⟨a0, b0⟩ := g2 0 (by omega)
      obtain ⟨a1, b1⟩ := g2 1 (by omega)
      obtain ⟨a2, b2⟩ := g2 2 (by omega)
      obtain ⟨a3, b3⟩ := g2 3 (by omega)
      obtain ⟨c0, d0⟩ := g1 0 (by omega)
      obtain ⟨c1, d1⟩ := g1 1 (by omega)
      obtain ⟨c2, d2⟩ := g1 2 (by omega)
      obtain ⟨c3, d3⟩ := g1 3 (by omega)
      clear g1 g2
      go_wp2_with fail
      have K := lay4_cells G1.out (.int .u8 (tl s 4 0)) (.int .u8 (tl s 4 1)) (.int .u8 (tl s 4 2)) (.int .u8 (tl s 4 3))
      have KB := lay4_below hbr (Nat.le_refl _) (.int .u8 (tl s 4 0)) (.int .u8 (tl s 4 1)) (.int .u8 (tl s 4 2)) (.int .u8 (tl s 4 3))
      have hw5 : lay4 wr w.heap.size (.int .u8 (tl s 4 0)) (.int .u8 (tl s 4 1)) (.int .u8 (tl s 4 2)) (.int .u8 (tl s 4 3)) = (((wr.setCell ⟨w.heap.size, 0, none⟩ (.int .u8 (tl s 4 0))).setCell ⟨w.heap.size, 1, none⟩ (.int .u8 (tl s 4 1))).setCell ⟨w.heap.size, 2, none⟩ (.int .u8 (tl s 4 2))).setCell ⟨w.heap.size, 3, none⟩ (.int .u8 (tl s 4 3)) := rfl
      obtain ⟨w5, h5⟩ : ∃ w5, lay4 wr w.heap.size (.int .u8 (tl s 4 0)) (.int .u8 (tl s 4 1)) (.int .u8 (tl s 4 2)) (.int .u8 (tl s 4 3)) = w5 := ⟨_, rfl⟩
      rw [← hw5]
      rw [h5] at K KB ⊢
      clear h5 hw5 a0 a1 a2 a3 b0 b1 b2 b3 c0 c1 c2 c3 d0 d1 d2 d3 G1
      obtain ⟨a0, a1, a2, a3⟩ := K
      refine bodyPost_ret (v := .agg #[.int .u8 (tl s 4 0), .int .u8 (tl s 4 1), .int .u8 (tl s 4 2), .int .u8 (tl s 4 3)]) (by simp [results, Tryz.results41, go_sem, a0, a1, a2, a3]) rfl ⟨rfl, KB⟩
/-- Room made ahead for so many bytes. -/
theorem grow_nil (n : Nat) (hn : n ≤ 3000000) (w : World) :
    Calls Tryz.prog 65 #[.slice none 0 0, .int .i64 (n : Int)] w fun e w' => ∃ A c, e = .returned (.slice A 0 c) ∧ w'.ownsRow w.heap.size 5 1 (.slice A 0 c) 0 [] ∧ Below w.heap.size w w' := by
  by_cases h0 : n = 0
  · subst h0
    go_enter Tryz.func65, Tryz.ntmps65
    go_wp2_with fail
    go_ret
    exact ⟨none, 0, rfl, own_nil _ _ _, Below.refl _ _⟩
  · obtain ⟨i, hi, hzz⟩ := Option.map_eq_some_iff.1 info_u8
    simp only [Prod.mk.injEq] at hzz
    obtain ⟨hz, hs, hb⟩ := hzz
    have hold : (Builtin.firstCells i.size 0 (.slice none 0 0)).run Tryz.prog w.drew = .ok (#[] : Array Value) w.drew := run_firstCells_none w.drew i.size 0 0 0
    have hrz : ∀ ty, (Builtin.append_ #[33, 3] ty #[.slice none 0 0, .int .i64 (n : Int)]).run Tryz.prog w =
        .ok (.slice (some ⟨w.heap.size, 0, none⟩) n (grownCap w n 0 5)) (w.drew.alloc (.cells (#[] ++ Builtin.zeroCells #[.int .u8 0] n ++ Builtin.zeroCells #[.int .u8 0] (grownCap w n 0 5 - n)) 5)) := fun ty => by
      have h := Lib.run_append_grow_zeros w 33 3 ty 5 i (.int .u8 0) .i64 .i64 Tryz.underlying33 Tryz.underlying3 hi hz none 0 0 [] hold n (by omega) (by omega) (by omega) (by omega) (by rw [hb]; omega) (by rw [Nat.zero_add]; exact growslice_fits (by omega) (by rw [hb]; omega))
      rw [Nat.zero_add] at h
      exact h
    have hGn : n ≤ grownCap w n 0 5 := grownCap_ge w _ _ _
    have hGm := grownCap_le_maxLen w n 0 5 (by unfold maxLen; omega)
    obtain ⟨G, hG⟩ : ∃ G, G = grownCap w n 0 5 := ⟨_, rfl⟩
    rw [← hG] at hrz hGn hGm
    have hG63 : G ≤ 9223372036854775807 := by unfold maxLen at hGm; omega
    clear hold hG
    have hn0 : 0 < n := by omega
    have HM := hid hGm
    clear hGm h0
    go_enter Tryz.func65, Tryz.ntmps65
    go_wp2_with (at_builtin; refine Lib.wpList_append_run _ rfl _ _ _ _ rfl _ _ rfl rfl _ _ (hrz _) ?_)
    go_ret
    exact ⟨_, _, rfl, World.ownsRow_made _ _ G (Nat.le_refl _) HM.out (by simp [Builtin.zeroCells]; omega), ((Below.refl _ _).drew).alloc (Nat.le_refl _) _⟩
end Go.Proofs.YtjkhdfncahhnoaaGreat
/- Two texts put together; a text and its sum, by the program and by the document. -/
namespace Go.Proofs.YtjkhdfncahhnoaaGreat
open Go.RowKit
set_option maxHeartbeats 400000
set_option maxRecDepth 100000
set_option linter.unusedVariables false
theorem tl4 (s : Nat) : [tl s 4 0, tl s 4 1, tl s 4 2, tl s 4 3] = le4 s := by
  unfold tl le4
  simp
theorem concat2 {A B : Option Addr} {c d : Nat} (xs ys : List Int) (hx : xs.length ≤ 1000000) (hy : ys.length ≤ 1000000) (w : World) (g : Nat) (cap : Nat) (h0 : w.cell? ⟨g, 0, none⟩ = some (.slice A xs.length c)) (h1 : w.cell? ⟨g, 1, none⟩ = some (.slice B ys.length d))
    (ra : Rd (Value.int .u8) w w.heap.size A xs) (rb : Rd (Value.int .u8) w w.heap.size B ys) :
    Calls Tryz.prog 42 #[.slice (some ⟨g, 0, none⟩) 2 cap] w (OwnOf 5 .u8 w.heap.size (xs ++ ys) w) := by
  have hg := lt_of_cell h0
  have CG := hid (grow_nil (xs.length + ys.length) (by omega))
  have HA := hid ra
  have HB := hid rb
  have H0 := hid h0
  have H1 := hid h1
  clear ra rb
  go_enter Tryz.func42, Tryz.ntmps42
  go_wp2_with fail
  go_loop [3, 5, 11] (fun s x i => ∃ (k T : Nat), k ≤ 2 ∧ i = .int .i64 k ∧ s = .int .i64 T ∧ (k = 0 → T = 0) ∧ (k = 1 → T = xs.length) ∧ (k = 2 → T = xs.length + ys.length)) (fun _ _ i => 2 - (intOf i).toNat)
  case atStart => exact ⟨0, 0, by omega, rfl, rfl, fun _ => rfl, fun h => by omega, fun h => by omega⟩
  case round =>
    obtain ⟨k, T, hk, rfl, rfl, t0, t1, t2⟩ := hrel
    by_cases hk0 : k = 0
    · obtain rfl := t0 hk0
      subst hk0
      clear t0 t1 t2
      go_wp2_with fail
      go_round
      case rel => exact ⟨1, xs.length, by omega, by go_num, by go_num, fun h => by omega, fun _ => rfl, fun h => by omega⟩
      case measure => simp [intOf]
    · by_cases hk1 : k = 1
      · obtain rfl := t1 hk1
        subst hk1
        clear t0 t1 t2 hk0
        go_wp2_with fail
        go_round
        case rel => exact ⟨2, xs.length + ys.length, by omega, by go_num, by go_num, fun h => by omega, fun h => by omega, fun _ => rfl⟩
        case measure => simp [intOf]
      · obtain rfl : k = 2 := by omega
        obtain rfl := t2 rfl
        clear t0 t1 t2 hk0 hk1
        go_wp2_with fail
        refine (CG.out _).mono ?_
        rintro _ w1 ⟨A1, c1, rfl, ho, hb1⟩
        have HO := hid ho
        have h0' : w1.cell? ⟨g, 0, none⟩ = some (.slice A xs.length c) := (hb1.cell (p := ⟨g, 0, none⟩) hg).trans H0.out
        have h1' : w1.cell? ⟨g, 1, none⟩ = some (.slice B ys.length d) := (hb1.cell (p := ⟨g, 1, none⟩) hg).trans H1.out
        clear ho
        go_wp2_with fail
        go_loopw [6, 8, 27] (fun t x i wr => ∃ (k : Nat) (S : List Int) (A2 : Option Addr) (c2 : Nat), k ≤ 2 ∧ i = .int .i64 k ∧ t = .slice A2 S.length c2 ∧ (k = 0 → S = []) ∧ (k = 1 → S = xs) ∧ (k = 2 → S = xs ++ ys) ∧ wr.ownsRow w.heap.size 5 1 (.slice A2 S.length c2) S.length (S.map (Value.int .u8)) ∧ Below w.heap.size w wr) (fun _ _ i _ => 2 - (intOf i).toNat)
        case atStart => exact ⟨0, [], A1, c1, by omega, rfl, rfl, fun _ => rfl, fun h => by omega, fun h => by omega, HO.out, hb1⟩
        case round =>
          obtain ⟨k, S, A2, c2, hk, rfl, rfl, t0, t1, t2, ho, hbr⟩ := hrel
          have HO2 := hid ho
          have c0 : wr.cell? ⟨g, 0, none⟩ = some (.slice A xs.length c) := (hbr.cell (p := ⟨g, 0, none⟩) hg).trans H0.out
          have c1 : wr.cell? ⟨g, 1, none⟩ = some (.slice B ys.length d) := (hbr.cell (p := ⟨g, 1, none⟩) hg).trans H1.out
          clear ho
          by_cases hk0 : k = 0
          · obtain rfl := t0 hk0
            subst hk0
            have r1 := HA.out.below hbr
            clear t0 t1 t2
            go_wp2_with (at_builtin; refine wpList_app (Value.int .u8) (fun _ => rfl) _ rfl _ _ 33 rfl w.heap.size 5 (.int .u8 0) 1 Tryz.underlying33 info_u8 rfl [] _ _ rfl HO2.out xs _ c _ rfl r1 (by simp [maxLen]; omega) (by simp; omega) hbr.size ?_)
            rintro S' A' c' w4 hS' ho hb4 _
            have HS' := hid hS'
            have HO' := hid ho
            clear hS' ho r1
            go_wp2_with fail
            go_roundw
            case rel => exact ⟨1, S', A', c', by omega, by go_num, rfl, fun h => by omega, fun _ => HS'.out, fun h => by omega, HO'.out, hbr.trans hb4⟩
            case measure => simp [intOf]
          · by_cases hk1 : k = 1
            · obtain rfl := t1 hk1
              subst hk1
              have r1 := HB.out.below hbr
              clear t0 t1 t2 hk0
              go_wp2_with (at_builtin; refine wpList_app (Value.int .u8) (fun _ => rfl) _ rfl _ _ 33 rfl w.heap.size 5 (.int .u8 0) 1 Tryz.underlying33 info_u8 rfl S _ _ rfl HO2.out ys _ d _ rfl r1 (by simp [maxLen]; omega) (by simp; omega) hbr.size ?_)
              rintro S' A' c' w4 hS' ho hb4 _
              have HS' := hid hS'
              have HO' := hid ho
              clear hS' ho r1
              go_wp2_with fail
              go_roundw
              case rel => exact ⟨2, S', A', c', by omega, by go_num, rfl, fun h => by omega, fun h => by omega, fun _ => HS'.out, HO'.out, hbr.trans hb4⟩
              case measure => simp [intOf]
            · obtain rfl : k = 2 := by omega
              have e := t2 rfl
              have E := hid e
              clear t0 t1 t2 hk0 hk1 e
              go_wp2_with fail
              go_ret
              rw [← E.out]
              exact ⟨A2, c2, rfl, HO2.out, hbr⟩
theorem four_rd {w : World} {g : Nat} {a b c d : Int} (h0 : w.cell? ⟨g, 0, none⟩ = some (.int .u8 a)) (h1 : w.cell? ⟨g, 1, none⟩ = some (.int .u8 b)) (h2 : w.cell? ⟨g, 2, none⟩ = some (.int .u8 c)) (h3 : w.cell? ⟨g, 3, none⟩ = some (.int .u8 d)) :
    Rd (Value.int .u8) w w.heap.size (some ⟨g, 0, none⟩) [a, b, c, d] := fun k x hx => by
  refine ⟨g, 0, rfl, lt_of_cell h0, ?_⟩
  rw [Nat.zero_add]
  match k with
  | 0 => simp at hx; subst hx; exact h0
  | 1 => simp at hx; subst hx; exact h1
  | 2 => simp at hx; subst hx; exact h2
  | 3 => simp at hx; subst hx; exact h3
  | k + 4 => simp at hx
theorem crc_Seal {A : Option Addr} {c : Nat} (b : List Int) (hb : b.length ≤ 1000000) (ub : U8s b) (w : World) (ra : Rd (Value.int .u8) w w.heap.size A b) :
    Calls Tryz.prog 18 #[.slice A b.length c] w (OwnE 5 .u8 w.heap.size (sealV b) (sealE b) w) := by
  unfold sealV sealE
  by_cases h : 65532 < b.length
  · rw [if_pos h, if_pos h]
    clear ra ub
    go_enter Tryz.func18, Tryz.ntmps18
    go_wp2_with fail
    go_ret2
    exact .nil (Below.refl _ _)
  · rw [if_neg h, if_neg h]
    have CT := hid (crc_tail (A := A) (c := c) b hb ub w ra)
    have RA := hid ra
    obtain ⟨R, hR⟩ : ∃ R, b ++ le4 (sumN b) = R := ⟨_, rfl⟩
    rw [hR]
    rw [← tl4] at hR
    obtain ⟨s, hs⟩ : ∃ s, sumN b = s := ⟨_, rfl⟩
    rw [hs] at CT hR
    have HR := hid hR
    clear ra ub hs hR
    obtain ⟨y0, e0⟩ : ∃ y, tl s 4 0 = y := ⟨_, rfl⟩
    obtain ⟨y1, e1⟩ : ∃ y, tl s 4 1 = y := ⟨_, rfl⟩
    obtain ⟨y2, e2⟩ : ∃ y, tl s 4 2 = y := ⟨_, rfl⟩
    obtain ⟨y3, e3⟩ : ∃ y, tl s 4 3 = y := ⟨_, rfl⟩
    rw [e0, e1, e2, e3] at CT HR
    clear e0 e1 e2 e3
    go_enter Tryz.func18, Tryz.ntmps18
    go_wp2_with fail
    refine CT.out.mono ?_
    rintro _ w1 ⟨rfl, hb1⟩
    go_wp2_with fail
    obtain ⟨w2, hw2⟩ : ∃ w2, (w1.alloc (.cells #[.int .u8 y0, .int .u8 y1, .int .u8 y2, .int .u8 y3] 79)).alloc (.cells #[.slice A b.length c, .slice (some ⟨w1.heap.size, 0, none⟩) 4 4] 33) = w2 := ⟨_, rfl⟩
    have hb2 : Below w1.heap.size w1 w2 := by rw [← hw2]; go_grown
    have g0 : w2.cell? ⟨w1.heap.size + 1, 0, none⟩ = some (.slice A b.length c) := by rw [← hw2]; simp [go_sem]
    have g1 : w2.cell? ⟨w1.heap.size + 1, 1, none⟩ = some (.slice (some ⟨w1.heap.size, 0, none⟩) [y0, y1, y2, y3].length 4) := by rw [← hw2]; simp [go_sem]
    have z0 : w2.cell? ⟨w1.heap.size, 0, none⟩ = some (.int .u8 y0) := by rw [← hw2]; simp [go_sem]
    have z1 : w2.cell? ⟨w1.heap.size, 1, none⟩ = some (.int .u8 y1) := by rw [← hw2]; simp [go_sem]
    have z2 : w2.cell? ⟨w1.heap.size, 2, none⟩ = some (.int .u8 y2) := by rw [← hw2]; simp [go_sem]
    have z3 : w2.cell? ⟨w1.heap.size, 3, none⟩ = some (.int .u8 y3) := by rw [← hw2]; simp [go_sem]
    have hb3 : Below w.heap.size w w2 := hb1.trans (hb2.mono hb1.size)
    have r1 := RA.out.on hb3
    rw [hw2]
    refine (concat2 (d := 4) b [y0, y1, y2, y3] hb (by simp) w2 (w1.heap.size + 1) 2 g0 g1 r1 (four_rd z0 z1 z2 z3)).mono ?_
    rw [HR.out]
    rintro _ w3 ⟨A3, c3, rfl, ho, hb4⟩
    have HO := hid (own_base ho hb3.size)
    clear ho g0 g1 z0 z1 z2 z3 hw2 r1
    go_wp2_with fail
    go_ret2
    exact ⟨A3, c3, rfl, HO.out, hb3.trans (hb4.mono hb3.size)⟩
theorem le4_int (s : Nat) : le4 s = [(s : Int) % 256, (s : Int) / 256 % 256, (s : Int) / 65536 % 256, (s : Int) / 16777216 % 256] := by
  unfold le4
  simp only [List.cons.injEq, and_true]
  omega
theorem rd_four (w : World) (t : TypeId) (a b c d : Int) : Rd (Value.int .u8) (w.alloc (.cells #[.int .u8 a, .int .u8 b, .int .u8 c, .int .u8 d] t)) (w.alloc (.cells #[.int .u8 a, .int .u8 b, .int .u8 c, .int .u8 d] t)).heap.size (some ⟨w.heap.size, 0, none⟩) [a, b, c, d] :=
  rd_new (enc := Value.int .u8) w t [a, b, c, d]
end Go.Proofs.YtjkhdfncahhnoaaGreat
/- Lists of lists in memory, by their slices; part of them and turned round. -/
namespace Go.Proofs.YtjkhdfncahhnoaaGreat
open Go.RowKit
set_option maxRecDepth 100000
set_option linter.unusedVariables false
/-- A slice of slices at A reads as these lists. -/
def RdRows (w : World) (B : Nat) (A : Option Addr) (rows : List (List Int)) : Prop :=
  ∀ k xs, rows[k]? = some xs → ∃ b off A' c', A = some ⟨b, off, none⟩ ∧ b < B ∧ w.cell? ⟨b, off + k, none⟩ = some (.slice A' xs.length c') ∧ Rd (Value.int .i64) w B A' xs
theorem RdRows.below {w w' : World} {B : Nat} {A : Option Addr} {rows : List (List Int)} (h : RdRows w B A rows) (hb : Below B w w') : RdRows w' B A rows := fun k xs hx => by
  obtain ⟨b, off, A', c', e, hl, hc, hr⟩ := h k xs hx
  exact ⟨b, off, A', c', e, hl, (hb.cell (p := ⟨b, off + k, none⟩) hl).trans hc, hr.below hb⟩
theorem RdRows.more {w : World} {B B' : Nat} {A : Option Addr} {rows : List (List Int)} (h : RdRows w B A rows) (hB : B ≤ B') : RdRows w B' A rows := fun k xs hx => by
  obtain ⟨b, off, A', c', e, hl, hc, hr⟩ := h k xs hx
  exact ⟨b, off, A', c', e, by omega, hc, hr.more hB⟩
theorem RdRows.on {w w' : World} {A : Option Addr} {rows : List (List Int)} (h : RdRows w w.heap.size A rows) (hb : Below w.heap.size w w') : RdRows w' w'.heap.size A rows := (h.below hb).more hb.size
/-- A slice's three parts. -/
abbrev Sl := Option Addr × Nat × Nat
def encS (p : Sl) : Value := .slice p.1 p.2.1 p.2.2
theorem encS_one (p : Sl) : (encS p).oneCell' = true := rfl
/-- The slices by which lists lie in memory. -/
def Fits (w : World) (B : Nat) (ps : List Sl) (rows : List (List Int)) : Prop := ps.length = rows.length ∧ ∀ (k : Nat) (p : Sl) (xs : List Int), ps[k]? = some p → rows[k]? = some xs → p.2.1 = xs.length ∧ Rd (Value.int .i64) w B p.1 xs
theorem rows_split {w : World} {B : Nat} {A : Option Addr} : ∀ {rows : List (List Int)}, RdRows w B A rows → ∃ ps, Rd encS w B A ps ∧ Fits w B ps rows := by
  intro rows h
  have key : ∀ k, k ≤ rows.length → ∃ ps : List Sl, Rd encS w B A ps ∧ Fits w B ps (rows.take k) := by
    intro k
    induction k with
    | zero => exact fun _ => ⟨[], Rd.none_, by simp, fun k p xs hp => by simp at hp⟩
    | succ k ih =>
      intro hk
      obtain ⟨ps, h1, h2, h3⟩ := ih (by omega)
      have hu : rows[k]? = some rows[k] := List.getElem?_eq_getElem (by omega)
      obtain ⟨b, off, A', c', e, hl, hc, hr⟩ := h k _ hu
      have hlen : ps.length = k := by rw [h2, List.length_take]; omega
      refine ⟨ps ++ [(A', rows[k].length, c')], ?_, ?_, ?_⟩
      · intro j p hp
        by_cases hj : j < ps.length
        · rw [List.getElem?_append_left hj] at hp
          exact h1 j p hp
        · have hj2 : j = k := by
            have := (List.getElem?_eq_some_iff.1 hp).1
            simp at this; omega
          subst hj2
          rw [List.getElem?_append_right (by omega), hlen] at hp
          simp at hp
          subst hp
          exact ⟨b, off, e, hl, hc⟩
      · rw [List.length_append, hlen, List.length_take]; simp; omega
      · intro j p xs hp hx
        by_cases hj : j < ps.length
        · rw [List.getElem?_append_left hj] at hp
          refine h3 j p xs hp ?_
          rw [List.getElem?_take_of_lt (by omega)] at hx ⊢
          exact hx
        · have hj2 : j = k := by
            have := (List.getElem?_eq_some_iff.1 hp).1
            simp at this; omega
          subst hj2
          rw [List.getElem?_append_right (by omega), hlen] at hp
          rw [List.getElem?_take_of_lt (by omega), hu] at hx
          simp at hp hx
          subst hp
          subst hx
          exact ⟨rfl, hr⟩
  obtain ⟨ps, h1, h2⟩ := key rows.length (Nat.le_refl _)
  rw [List.take_of_length_le (Nat.le_refl _)] at h2
  exact ⟨ps, h1, h2⟩
theorem rows_join {w : World} {B : Nat} {A : Option Addr} {ps : List Sl} {rows : List (List Int)} (h : Rd encS w B A ps) (hf : Fits w B ps rows) : RdRows w B A rows := fun k xs hx => by
  have hk : k < ps.length := by rw [hf.1]; exact (List.getElem?_eq_some_iff.1 hx).1
  obtain ⟨b, off, e, hl, hc⟩ := h k ps[k] (List.getElem?_eq_getElem hk)
  obtain ⟨h1, h2⟩ := hf.2 k _ xs (List.getElem?_eq_getElem hk) hx
  refine ⟨b, off, ps[k].1, ps[k].2.2, e, hl, ?_, h2⟩
  rw [hc]
  unfold encS
  rw [h1]
theorem fits_on {w w' : World} {B : Nat} {ps : List Sl} {rows : List (List Int)} (h : Fits w B ps rows) (hb : Below B w w') : Fits w' B ps rows := ⟨h.1, fun k p xs hp hx => ⟨(h.2 k p xs hp hx).1, (h.2 k p xs hp hx).2.below hb⟩⟩
theorem fits_more {w : World} {B B' : Nat} {ps : List Sl} {rows : List (List Int)} (h : Fits w B ps rows) (hB : B ≤ B') : Fits w B' ps rows := ⟨h.1, fun k p xs hp hx => ⟨(h.2 k p xs hp hx).1, (h.2 k p xs hp hx).2.more hB⟩⟩
theorem fits_reverse {w : World} {B : Nat} {ps : List Sl} {rows : List (List Int)} (h : Fits w B ps rows) : Fits w B ps.reverse rows.reverse := by
  refine ⟨by simp [h.1], fun k p xs hp hx => ?_⟩
  have hk : k < ps.length := by have := (List.getElem?_eq_some_iff.1 hp).1; simpa using this
  rw [List.getElem?_reverse hk] at hp
  rw [List.getElem?_reverse (by rw [← h.1]; exact hk), ← h.1] at hx
  exact h.2 _ p xs hp hx
theorem rows_tail {w : World} {B b off : Nat} {v : List Int} {r : List (List Int)} (h : RdRows w B (some ⟨b, off, none⟩) (v :: r)) : RdRows w B (some ⟨b, off + 1, none⟩) r := fun k xs hx => by
  obtain ⟨b', off', A', c', e, hl, hc, hr⟩ := h (k + 1) xs (by rw [List.getElem?_cons_succ]; exact hx)
  have e2 := Option.some.inj e
  simp only [Addr.mk.injEq] at e2
  obtain ⟨rfl, rfl, _⟩ := e2
  exact ⟨b, off + 1, A', c', rfl, hl, by rw [show off + 1 + k = off + (k + 1) by omega]; exact hc, hr⟩
theorem rows_two {A B : Option Addr} {c d : Nat} (xs ys : List Int) (W : World) (ra : Rd (Value.int .i64) W W.heap.size A xs) (rb : Rd (Value.int .i64) W W.heap.size B ys) (t : TypeId) :
    RdRows (W.alloc (.cells #[.slice A xs.length c, .slice B ys.length d] t)) (W.alloc (.cells #[.slice A xs.length c, .slice B ys.length d] t)).heap.size (some ⟨W.heap.size, 0, none⟩) [xs, ys] := fun k zs hz => by
  have hb : Below W.heap.size W (W.alloc (.cells #[.slice A xs.length c, .slice B ys.length d] t)) := (Below.refl _ _).alloc (Nat.le_refl _) _
  have hn := heap_alloc_new W (.cells #[.slice A xs.length c, .slice B ys.length d] t)
  have hlt : W.heap.size < (W.alloc (.cells #[.slice A xs.length c, .slice B ys.length d] t)).heap.size := (Array.getElem?_eq_some_iff.1 hn).1
  match k, hz with
  | 0, hz =>
    obtain rfl : xs = zs := by simpa using hz
    exact ⟨_, 0, A, c, rfl, hlt, by rw [cell_of_row _ _ _ _ t (0, 0) hn]; rfl, ra.on hb⟩
  | 1, hz =>
    obtain rfl : ys = zs := by simpa using hz
    exact ⟨_, 0, B, d, rfl, hlt, by rw [cell_of_row _ _ _ _ t (0, 0) hn]; rfl, rb.on hb⟩
  | k + 2, hz => simp at hz
theorem rows_one {A : Option Addr} {c : Nat} (xs : List Int) (W : World) (ra : Rd (Value.int .i64) W W.heap.size A xs) (t : TypeId) :
    RdRows (W.alloc (.cells #[.slice A xs.length c] t)) (W.alloc (.cells #[.slice A xs.length c] t)).heap.size (some ⟨W.heap.size, 0, none⟩) [xs] := fun k zs hz => by
  have hb : Below W.heap.size W (W.alloc (.cells #[.slice A xs.length c] t)) := (Below.refl _ _).alloc (Nat.le_refl _) _
  have hn := heap_alloc_new W (.cells #[.slice A xs.length c] t)
  have hlt : W.heap.size < (W.alloc (.cells #[.slice A xs.length c] t)).heap.size := (Array.getElem?_eq_some_iff.1 hn).1
  match k, hz with
  | 0, hz =>
    obtain rfl : xs = zs := by simpa using hz
    exact ⟨_, 0, A, c, rfl, hlt, by rw [cell_of_row _ _ _ _ t (0, 0) hn]; rfl, ra.on hb⟩
  | k + 1, hz => simp at hz
end Go.Proofs.YtjkhdfncahhnoaaGreat
/- Texts put together, by package slices. -/
namespace Go.Proofs.YtjkhdfncahhnoaaGreat
open Go.RowKit
set_option maxHeartbeats 400000
set_option maxRecDepth 100000
set_option linter.unusedVariables false
/-- A slice of texts at A reads as these. -/
def RdRow8 (w : World) (B : Nat) (A : Option Addr) (rows : List (List Int)) : Prop :=
  ∀ k xs, rows[k]? = some xs → ∃ b off A' c', A = some ⟨b, off, none⟩ ∧ b < B ∧ w.cell? ⟨b, off + k, none⟩ = some (.slice A' xs.length c') ∧ Rd (Value.int .u8) w B A' xs
theorem RdRow8.below {w w' : World} {B : Nat} {A : Option Addr} {rows : List (List Int)} (h : RdRow8 w B A rows) (hb : Below B w w') : RdRow8 w' B A rows := fun k xs hx => by
  obtain ⟨b, off, A', c', e, hl, hc, hr⟩ := h k xs hx
  exact ⟨b, off, A', c', e, hl, (hb.cell (p := ⟨b, off + k, none⟩) hl).trans hc, hr.below hb⟩
theorem RdRow8.more {w : World} {B B' : Nat} {A : Option Addr} {rows : List (List Int)} (h : RdRow8 w B A rows) (hB : B ≤ B') : RdRow8 w B' A rows := fun k xs hx => by
  obtain ⟨b, off, A', c', e, hl, hc, hr⟩ := h k xs hx
  exact ⟨b, off, A', c', e, by omega, hc, hr.more hB⟩
theorem RdRow8.on {w w' : World} {A : Option Addr} {rows : List (List Int)} (h : RdRow8 w w.heap.size A rows) (hb : Below w.heap.size w w') : RdRow8 w' w'.heap.size A rows := (h.below hb).more hb.size
theorem row8_two {A B : Option Addr} {c d : Nat} (xs ys : List Int) (W : World) (ra : Rd (Value.int .u8) W W.heap.size A xs) (rb : Rd (Value.int .u8) W W.heap.size B ys) (t : TypeId) :
    RdRow8 (W.alloc (.cells #[.slice A xs.length c, .slice B ys.length d] t)) (W.alloc (.cells #[.slice A xs.length c, .slice B ys.length d] t)).heap.size (some ⟨W.heap.size, 0, none⟩) [xs, ys] := fun k zs hz => by
  have hb : Below W.heap.size W (W.alloc (.cells #[.slice A xs.length c, .slice B ys.length d] t)) := (Below.refl _ _).alloc (Nat.le_refl _) _
  have hn := heap_alloc_new W (.cells #[.slice A xs.length c, .slice B ys.length d] t)
  have hlt : W.heap.size < (W.alloc (.cells #[.slice A xs.length c, .slice B ys.length d] t)).heap.size := (Array.getElem?_eq_some_iff.1 hn).1
  match k, hz with
  | 0, hz =>
    obtain rfl : xs = zs := by simpa using hz
    exact ⟨_, 0, A, c, rfl, hlt, by rw [cell_of_row _ _ _ _ t (0, 0) hn]; rfl, ra.on hb⟩
  | 1, hz =>
    obtain rfl : ys = zs := by simpa using hz
    exact ⟨_, 0, B, d, rfl, hlt, by rw [cell_of_row _ _ _ _ t (0, 0) hn]; rfl, rb.on hb⟩
  | k + 2, hz => simp at hz
theorem row8_four {A1 A2 A3 A4 : Option Addr} {c1 c2 c3 c4 : Nat} (x1 x2 x3 x4 : List Int) (W : World) (r1 : Rd (Value.int .u8) W W.heap.size A1 x1) (r2 : Rd (Value.int .u8) W W.heap.size A2 x2) (r3 : Rd (Value.int .u8) W W.heap.size A3 x3) (r4 : Rd (Value.int .u8) W W.heap.size A4 x4) (t : TypeId) :
    RdRow8 (W.alloc (.cells #[.slice A1 x1.length c1, .slice A2 x2.length c2, .slice A3 x3.length c3, .slice A4 x4.length c4] t)) (W.alloc (.cells #[.slice A1 x1.length c1, .slice A2 x2.length c2, .slice A3 x3.length c3, .slice A4 x4.length c4] t)).heap.size (some ⟨W.heap.size, 0, none⟩) [x1, x2, x3, x4] := fun k zs hz => by
  have hb : Below W.heap.size W (W.alloc (.cells #[.slice A1 x1.length c1, .slice A2 x2.length c2, .slice A3 x3.length c3, .slice A4 x4.length c4] t)) := (Below.refl _ _).alloc (Nat.le_refl _) _
  have hn := heap_alloc_new W (.cells #[.slice A1 x1.length c1, .slice A2 x2.length c2, .slice A3 x3.length c3, .slice A4 x4.length c4] t)
  have hlt : W.heap.size < (W.alloc (.cells #[.slice A1 x1.length c1, .slice A2 x2.length c2, .slice A3 x3.length c3, .slice A4 x4.length c4] t)).heap.size := (Array.getElem?_eq_some_iff.1 hn).1
  match k, hz with
  | 0, hz =>
    obtain rfl : x1 = zs := by simpa using hz
    exact ⟨_, 0, A1, c1, rfl, hlt, by rw [cell_of_row _ _ _ _ t (0, 0) hn]; rfl, r1.on hb⟩
  | 1, hz =>
    obtain rfl : x2 = zs := by simpa using hz
    exact ⟨_, 0, A2, c2, rfl, hlt, by rw [cell_of_row _ _ _ _ t (0, 0) hn]; rfl, r2.on hb⟩
  | 2, hz =>
    obtain rfl : x3 = zs := by simpa using hz
    exact ⟨_, 0, A3, c3, rfl, hlt, by rw [cell_of_row _ _ _ _ t (0, 0) hn]; rfl, r3.on hb⟩
  | 3, hz =>
    obtain rfl : x4 = zs := by simpa using hz
    exact ⟨_, 0, A4, c4, rfl, hlt, by rw [cell_of_row _ _ _ _ t (0, 0) hn]; rfl, r4.on hb⟩
  | k + 4, hz => simp at hz
theorem cat8_step {ls : List (List Int)} {k : Nat} {x : List Int} (h : ls[k]? = some x) : (ls.take (k + 1)).flatten = (ls.take k).flatten ++ x := by
  rw [List.take_add_one, h, List.flatten_append]
  simp
theorem cat8_take (ls : List (List Int)) (k : Nat) : (ls.take k).flatten.length ≤ ls.flatten.length := by
  have h := congrArg List.length (congrArg List.flatten (List.take_append_drop k ls))
  rw [List.flatten_append, List.length_append] at h
  omega
theorem by_concat {A : Option Addr} {c : Nat} (ls : List (List Int)) (hl : ls.length ≤ 100000) (hf : ls.flatten.length ≤ 100000) (w : World) (ra : RdRow8 w w.heap.size A ls) :
    Calls Tryz.prog 42 #[.slice A ls.length c] w (OwnOf 5 .u8 w.heap.size ls.flatten w) := by
  have CG := hid (fun n hn => grow_nil n hn)
  have HA := hid ra
  have HF : Hid (∀ k x, ls[k]? = some x → (ls.take (k + 1)).flatten = (ls.take k).flatten ++ x) := hid (fun k x h => cat8_step h)
  have HL : Hid (∀ k, (ls.take k).flatten.length ≤ 100000) := hid (fun k => by have := cat8_take ls k; omega)
  have HF0 : Hid ((ls.take 0).flatten = []) := hid rfl
  have HFe : Hid (∀ k, ls.length ≤ k → (ls.take k).flatten = ls.flatten) := hid (fun k hk => by rw [List.take_of_length_le hk])
  obtain ⟨F, hF⟩ : ∃ F : Nat → List Int, (fun k => (ls.take k).flatten) = F := ⟨_, rfl⟩
  have hF' : ∀ k, (ls.take k).flatten = F k := fun k => by rw [← hF]
  simp only [hF'] at HF HL HF0 HFe
  obtain ⟨R, hR⟩ : ∃ R, ls.flatten = R := ⟨_, rfl⟩
  rw [hR] at HFe ⊢
  obtain ⟨N, hN⟩ : ∃ N, ls.length = N := ⟨_, rfl⟩
  have HN := hid hN
  rw [hN] at HFe hl ⊢
  clear ra hR hf hF hF' hN
  go_enter Tryz.func42, Tryz.ntmps42
  go_wp2_with fail
  go_loop [3, 5, 11] (fun s x i => ∃ (k T : Nat), k ≤ N ∧ i = .int .i64 k ∧ s = .int .i64 T ∧ T = (F k).length) (fun _ _ i => N - (intOf i).toNat)
  case atStart => exact ⟨0, 0, by omega, rfl, rfl, by rw [HF0.out]; rfl⟩
  case round =>
    obtain ⟨k, T, hk, rfl, rfl, hT⟩ := hrel
    have hTb : T ≤ 100000 := by rw [hT]; exact HL.out k
    have HT := hid hT
    clear hT
    by_cases hlt : k < N
    · obtain ⟨b1, o1, Ax, cx, rfl, l1, c1, rx⟩ := HA.out k _ (List.getElem?_eq_getElem (by rw [HN.out]; exact hlt))
      have hx0 : ls[k]? = some (ls[k]'(by rw [HN.out]; exact hlt)) := List.getElem?_eq_getElem (by rw [HN.out]; exact hlt)
      have HS := hid (HF.out k _ hx0)
      have hb := HL.out (k + 1)
      obtain ⟨x, hx⟩ : ∃ x, (ls[k]'(by rw [HN.out]; exact hlt)) = x := ⟨_, rfl⟩
      rw [hx] at HS c1
      rw [HS.out, List.length_append] at hb
      obtain ⟨X, hX⟩ : ∃ X, x.length = X := ⟨_, rfl⟩
      have HX := hid hX
      rw [hX] at c1 hb
      have hXb : X ≤ 100000 := by omega
      clear hX hb hx hx0 rx
      go_wp2_with fail
      go_round
      case rel => exact ⟨k + 1, T + X, by omega, by go_num, by go_num, by rw [HS.out, List.length_append, HT.out, HX.out]⟩
      case measure => simp [intOf]; omega
    · obtain rfl : k = N := by omega
      have CG1 := hid (CG.out T (by omega) w)
      clear CG HT
      go_wp2_with fail
      refine CG1.out.mono ?_
      rintro _ w1 ⟨A1, c1, rfl, ho, hb1⟩
      have HO := hid ho
      clear ho CG1
      go_wp2_with fail
      go_loopw [6, 8, 27] (fun t x i wr => ∃ (j : Nat) (S : List Int) (A2 : Option Addr) (c2 : Nat), j ≤ k ∧ i = .int .i64 j ∧ t = .slice A2 S.length c2 ∧ S = F j ∧ wr.ownsRow w.heap.size 5 1 (.slice A2 S.length c2) S.length (S.map (Value.int .u8)) ∧ Below w.heap.size w wr) (fun _ _ i _ => k - (intOf i).toNat)
      case atStart => exact ⟨0, [], A1, c1, by omega, rfl, rfl, HF0.out.symm, HO.out, hb1⟩
      case round =>
        clear HO hb1
        obtain ⟨j, S, A2, c2, hj, rfl, rfl, hS, ho, hbel⟩ := hrel
        have hSl : S.length ≤ 100000 := by rw [hS]; exact HL.out j
        have HSj := hid hS
        have HO := hid ho
        clear hS ho
        by_cases hjl : j < k
        · obtain ⟨b1, o1, Ax, cx, rfl, l1, c1, rx⟩ := HA.out j _ (List.getElem?_eq_getElem (by rw [HN.out]; exact hjl))
          have hx0 : ls[j]? = some (ls[j]'(by rw [HN.out]; exact hjl)) := List.getElem?_eq_getElem (by rw [HN.out]; exact hjl)
          have HS := hid (HF.out j _ hx0)
          have hb := HL.out (j + 1)
          obtain ⟨x, hx⟩ : ∃ x, (ls[j]'(by rw [HN.out]; exact hjl)) = x := ⟨_, rfl⟩
          rw [hx] at HS c1 rx
          rw [HS.out, List.length_append, ← HSj.out] at hb
          have c1' := (hbel.cell (p := ⟨b1, o1 + j, none⟩) l1).trans c1
          have hrx := rx.below hbel
          have h0 := HO.out
          have hbs := hbel.size
          clear hx hx0 rx c1
          go_wp2_with (at_builtin; refine wpList_app (Value.int .u8) (fun _ => rfl) _ rfl _ _ 33 rfl w.heap.size 5 (.int .u8 0) 1 Tryz.underlying33 info_u8 rfl S _ _ rfl h0 x _ cx _ rfl hrx (by simp [maxLen]; omega) (by omega) hbs ?_)
          rintro S' A' c' w4 hS' ho hb4 _
          have HS' := hid hS'
          have HO' := hid ho
          clear hS' ho h0 hrx
          go_wp2_with fail
          go_roundw
          case rel => exact ⟨j + 1, S', A', c', by omega, by go_num, rfl, by rw [HS'.out, HS.out, HSj.out], HO'.out, hbel.trans hb4⟩
          case measure => simp [intOf]; omega
        · obtain rfl : j = k := by omega
          have HR := hid (HFe.out j (Nat.le_refl _))
          go_wp2_with fail
          go_ret
          have e : S = R := by rw [HSj.out, HR.out]
          rw [← e]
          exact ⟨A2, c2, rfl, HO.out, hbel⟩
end Go.Proofs.YtjkhdfncahhnoaaGreat
/- Numbers' codes, seven bits a byte: plain mathematics on lists of whole numbers. No program in sight. -/
namespace Go.Proofs.YtjkhdfncahhnoaaGreat
set_option maxRecDepth 100000
set_option linter.unusedVariables false
/-- A number's code. -/
def lebL (n : Nat) : List Int := if h : n < 128 then [(n : Int)] else ((n % 128 : Nat) + 128 : Int) :: lebL (n / 128)
termination_by n
decreasing_by omega
def lebI (n : Int) : List Int := lebL n.toNat
theorem lebI_last {n : Int} (h0 : 0 ≤ n) (h : n < 128) : lebI n = [n] := by
  unfold lebI
  rw [lebL, dif_pos (by omega)]
  congr 1
  omega
theorem lebI_more {n : Int} (h : 128 ≤ n) : lebI n = (n % 128 + 128) :: lebI (n / 128) := by
  unfold lebI
  rw [lebL, dif_neg (by omega)]
  congr 1
  · omega
  · congr 1; omega
/-- What holds of the small ones, and goes from a number's 128th to it, holds of all. -/
theorem leb_ind {p : Int → Prop} (h1 : ∀ n, 0 ≤ n → n < 128 → p n) (h2 : ∀ n, 128 ≤ n → p (n / 128) → p n) (n : Int) (h0 : 0 ≤ n) : p n := by
  obtain ⟨m, rfl⟩ := Int.eq_ofNat_of_zero_le h0
  clear h0
  induction m using Nat.strongRecOn with
  | _ m ih =>
    by_cases h : (m : Int) < 128
    · exact h1 _ (by omega) h
    · refine h2 _ (by omega) ?_
      have := ih (m / 128) (by omega)
      rwa [show ((m / 128 : Nat) : Int) = (m : Int) / 128 by omega] at this
theorem lebI_u8 (n : Int) (h : 0 ≤ n) : U8s (lebI n) := by
  refine leb_ind (p := fun n => U8s (lebI n)) ?_ ?_ n h
  · intro n h0 h1
    rw [lebI_last h0 h1]
    intro x hx
    simp only [List.mem_singleton] at hx
    omega
  · intro n h1 ih
    rw [lebI_more h1]
    intro x hx
    rcases List.mem_cons.1 hx with rfl | hx
    · omega
    · exact ih x hx
theorem lebI_pos (n : Int) (h : 0 ≤ n) : 0 < (lebI n).length := by
  by_cases h1 : n < 128
  · rw [lebI_last h h1]; simp
  · rw [lebI_more (by omega)]; simp
theorem lebI_mono (a : Int) (ha : 0 ≤ a) : ∀ b, a ≤ b → (lebI a).length ≤ (lebI b).length := by
  refine leb_ind (p := fun a => ∀ b, a ≤ b → (lebI a).length ≤ (lebI b).length) ?_ ?_ a ha
  · intro n h0 h1 b hb
    rw [lebI_last h0 h1]
    exact lebI_pos b (by omega)
  · intro n h1 ih b hb
    rw [lebI_more h1, lebI_more (n := b) (by omega)]
    have := ih (b / 128) (by omega)
    simp only [List.length_cons]
    omega
theorem lebI_le (k : Nat) : ∀ n : Int, 0 ≤ n → n < 128 ^ (k + 1) → (lebI n).length ≤ k + 1 := by
  induction k with
  | zero =>
    intro n h0 h
    rw [lebI_last h0 (by simpa using h)]; simp
  | succ k ih =>
    intro n h0 h
    by_cases h1 : n < 128
    · rw [lebI_last h0 h1]; simp
    · rw [lebI_more (by omega)]
      have := ih (n / 128) (by omega) (by rw [Int.pow_succ] at h; omega)
      simp only [List.length_cons]
      omega
theorem lebI_ten {n : Int} (h : U64 n) : (lebI n).length ≤ 10 := lebI_le 9 n h.1 (by have := h.2; omega)
/-- How long a code is, by its bits. -/
theorem lebI_bits {n : Int} (h : U64 n) : (lebI n).length = (Lib.bitLen (max n 1).toNat + 6) / 7 := by
  have key : ∀ n : Int, 0 ≤ n → n ≤ 18446744073709551615 → (lebI n).length = (Lib.bitLen (max n 1).toNat + 6) / 7 := by
    intro n h0
    refine leb_ind (p := fun n => n ≤ 18446744073709551615 → (lebI n).length = (Lib.bitLen (max n 1).toNat + 6) / 7) ?_ ?_ n h0
    · intro n h0 h1 _
      rw [lebI_last h0 h1]
      have hd : ∀ m : Fin 128, (Lib.bitLen (max m.val 1) + 6) / 7 = 1 := by decide +kernel
      have := hd ⟨n.toNat, by omega⟩
      rw [show (max n 1).toNat = max n.toNat 1 by omega, this]
      rfl
    · intro n h1 ih h2
      rw [lebI_more h1, List.length_cons, ih (by omega)]
      have hs := Lib.bitLen_shift 7 (max n 1).toNat (by omega) (by omega)
      rw [show (max n 1).toNat / 2 ^ 7 = (max (n / 128) 1).toNat by omega] at hs
      omega
  exact key n h.1 h.2
/-- All codes, one behind the other. -/
def encs (l : List Int) : List Int := l.flatMap lebI
theorem encs_nil : encs [] = [] := rfl
theorem encs_app (l m : List Int) : encs (l ++ m) = encs l ++ encs m := List.flatMap_append
theorem encs_one (n : Int) : encs [n] = lebI n := by simp [encs]
theorem encs_cons (n : Int) (l : List Int) : encs (n :: l) = lebI n ++ encs l := by simp [encs]
theorem encs_u8 {l : List Int} (h : U64s l) : U8s (encs l) := by
  intro x hx
  obtain ⟨n, hn, hx⟩ := List.mem_flatMap.1 hx
  exact lebI_u8 n (h n hn).1 x hx
theorem encs_len {l : List Int} (h : U64s l) : (encs l).length ≤ 10 * l.length := by
  induction l with
  | nil => simp [encs]
  | cons n l ih =>
    rw [encs_cons, List.length_append, List.length_cons]
    have h1 := lebI_ten (h n (by simp))
    have h2 := ih (fun x hx => h x (by simp [hx]))
    omega
/-- What stands at a text's beginning, k bytes behind a code's, of which n is there: the number, the code's size, the error. -/
def gL : List Int → Nat → Int → Int × Int × Int
  | [], _, _ => (0, 0, 5)
  | c :: cs, k, n => if k = 9 ∧ 1 < c then (0, 0, 6) else if c < 128 then (if 0 < k ∧ c = 0 then (0, 0, 6) else (n + c % 128 * 2 ^ (7 * k), ((k + 1 : Nat) : Int), 0)) else gL cs (k + 1) (n + c % 128 * 2 ^ (7 * k))
/-- What Get is to answer. -/
def getN (b : List Int) (a : Int) : Int := if a < 0 then 0 else (gL (b.drop a.toNat) 0 0).1
def getE (b : List Int) (a : Int) : Int := if a < 0 then 1 else (gL (b.drop a.toNat) 0 0).2.2
def getA (b : List Int) (a : Int) : Int := if getE b a = 0 then a + (gL (b.drop a.toNat) 0 0).2.1 else 0
theorem pow7 (k : Nat) : (2 : Int) ^ (7 * (k + 1)) = 128 * 2 ^ (7 * k) := by
  rw [show 7 * (k + 1) = 7 * k + 7 by omega, Int.pow_add]; omega
theorem pow7_pos (k : Nat) : (0 : Int) < 2 ^ (7 * k) := Int.pow_pos (by decide)
/-- What was put is got. -/
theorem gL_put (n : Int) (h0 : 0 ≤ n) : ∀ (rest : List Int) (k : Nat) (m : Int), 0 < k ∧ n = 0 ∨ (lebI n).length + k ≤ 10 ∧ (0 < k → 0 < n) ∧ (n * 2 ^ (7 * k) ≤ 18446744073709551615) →
    ¬ (0 < k ∧ n = 0) → gL (lebI n ++ rest) k m = (m + n * 2 ^ (7 * k), ((k + (lebI n).length : Nat) : Int), 0) := by
  refine leb_ind (p := fun n => ∀ (rest : List Int) (k : Nat) (m : Int), 0 < k ∧ n = 0 ∨ (lebI n).length + k ≤ 10 ∧ (0 < k → 0 < n) ∧ (n * 2 ^ (7 * k) ≤ 18446744073709551615) →
    ¬ (0 < k ∧ n = 0) → gL (lebI n ++ rest) k m = (m + n * 2 ^ (7 * k), ((k + (lebI n).length : Nat) : Int), 0)) ?_ ?_ n h0
  · intro n h0 h1 rest k m hk hz
    rcases hk with hk | ⟨hk, hp, hm⟩
    · exact absurd hk hz
    rw [lebI_last h0 h1] at *
    simp only [List.length_singleton] at hk
    rw [List.singleton_append, gL, if_neg ?_, if_pos h1, if_neg hz, show n % 128 = n by omega]
    · simp
    · rintro ⟨rfl, h⟩
      have : (2 : Int) ^ (7 * 9) = 9223372036854775808 := by decide
      rw [this] at hm
      omega
  · intro n h1 ih rest k m hk hz
    rcases hk with hk | ⟨hk, hp, hm⟩
    · omega
    rw [lebI_more h1] at *
    simp only [List.length_cons] at hk
    have hl := lebI_pos (n / 128) (by omega)
    have hp := pow7_pos k
    have he : n = n % 128 + 128 * (n / 128) := by omega
    rw [List.cons_append, gL, if_neg (by omega), if_neg (by omega), ih rest (k + 1) _ (.inr ⟨by omega, by omega, ?_⟩) (by omega), pow7]
    · simp only [Prod.mk.injEq, List.length_cons, and_true]
      refine ⟨?_, by omega⟩
      rw [show (n % 128 + 128) % 128 = n % 128 by omega, Int.add_assoc]
      congr 1
      rw [show n / 128 * (128 * 2 ^ (7 * k)) = (128 * (n / 128)) * 2 ^ (7 * k) by rw [← Int.mul_assoc, Int.mul_comm 128], ← Int.add_mul, ← he]
    · rw [pow7]
      have h2 : n / 128 * (128 * 2 ^ (7 * k)) = (128 * (n / 128)) * 2 ^ (7 * k) := by rw [← Int.mul_assoc, Int.mul_comm 128]
      rw [h2]
      have := Int.mul_le_mul_of_nonneg_right (show 128 * (n / 128) ≤ n by omega) (Int.le_of_lt hp)
      omega
theorem gL_code {n : Int} (h : U64 n) (rest : List Int) : gL (lebI n ++ rest) 0 0 = (n, ((lebI n).length : Int), 0) := by
  have := gL_put n h.1 rest 0 0 (.inr ⟨by have := lebI_ten h; omega, by omega, by simpa using h.2⟩) (by omega)
  simpa using this
/-- What was got was put. -/
theorem gL_back : ∀ (b : List Int) (k : Nat) (m v : Int) (s : Int), U8s b → gL b k m = (v, s, 0) →
    ∃ (q : Int) (j : Nat), 0 ≤ q ∧ v = m + q * 2 ^ (7 * k) ∧ s = ((k + j : Nat) : Int) ∧ j ≤ b.length ∧ b.take j = lebI q ∧ (0 < k → 0 < q)
  | [], k, m, v, s, _, h => by simp [gL] at h
  | c :: cs, k, m, v, s, hu, h => by
    have hc := hu c (by simp)
    rw [gL] at h
    split at h
    · simp at h
    · split at h
      · split at h
        · simp at h
        · rename_i h1 h2 h3
          simp only [Prod.mk.injEq, and_true] at h
          obtain ⟨rfl, rfl⟩ := h
          refine ⟨c, 1, hc.1, by rw [show c % 128 = c by omega], by simp, by simp, by simp [lebI_last hc.1 h2], by omega⟩
      · rename_i h1 h2
        obtain ⟨q, j, hq, rfl, rfl, hj, ht, hp⟩ := gL_back cs (k + 1) _ v s (fun x hx => hu x (by simp [hx])) h
        have hq1 := hp (by omega)
        refine ⟨c % 128 + 128 * q, j + 1, by omega, ?_, by omega, by simp; omega, ?_, by omega⟩
        · rw [pow7, Int.add_mul, Int.add_assoc]
          congr 2
          rw [← Int.mul_assoc, Int.mul_comm q]
        · rw [lebI_more (by omega), List.take_succ_cons, ht]
          congr 1
          · omega
          · congr 1; omega
/-- A code that ends too soon. -/
theorem gL_cut (n : Int) (h0 : 0 ≤ n) : ∀ (k : Nat) (m : Int), (lebI n).length + k ≤ 10 → gL ((lebI n).take ((lebI n).length - 1)) k m = (0, 0, 5) := by
  refine leb_ind (p := fun n => ∀ (k : Nat) (m : Int), (lebI n).length + k ≤ 10 → gL ((lebI n).take ((lebI n).length - 1)) k m = (0, 0, 5)) ?_ ?_ n h0
  · intro n h0 h1 k m hk
    rw [lebI_last h0 h1]; simp [gL]
  · intro n h1 ih k m hk
    have hl := lebI_pos (n / 128) (by omega)
    rw [lebI_more h1] at *
    simp only [List.length_cons] at hk
    obtain ⟨j, hj⟩ : ∃ j, (lebI (n / 128)).length = j + 1 := ⟨(lebI (n / 128)).length - 1, by omega⟩
    have := ih (k + 1) (m + (n % 128 + 128) % 128 * 2 ^ (7 * k)) (by omega)
    rw [hj] at this
    simp only [List.length_cons, hj, Nat.add_sub_cancel, List.take_succ_cons]
    rw [gL, if_neg (by omega), if_neg (by omega)]
    exact this
theorem get_at {b : List Int} {n : Int} (h : U64 n) (ahead behind : List Int) (hb : b = ahead ++ (lebI n ++ behind)) :
    getN b ahead.length = n ∧ getE b ahead.length = 0 ∧ getA b ahead.length = ahead.length + (lebI n).length := by
  subst hb
  have e : gL ((ahead ++ (lebI n ++ behind)).drop (ahead.length : Int).toNat) 0 0 = (n, ((lebI n).length : Int), 0) := by
    rw [show (ahead.length : Int).toNat = ahead.length by omega, List.drop_left, gL_code h]
  have h1 : ¬ (ahead.length : Int) < 0 := by omega
  unfold getA getN getE
  rw [e]
  simp [h1]
theorem get_off {b : List Int} : getE b b.length = 5 := by
  have h1 : ¬ (b.length : Int) < 0 := by omega
  unfold getE
  rw [if_neg h1, show (b.length : Int).toNat = b.length by omega, List.drop_length]
  rfl
/-- So many numbers, one behind the other: those that there are, the place, the error. -/
def mny (b : List Int) : Nat → Int → List Int → List Int × Int × Int
  | 0, a, S => (S, a, 0)
  | k + 1, a, S => if getE b a = 0 then mny b k (getA b a) (S ++ [getN b a]) else ([], 0, getE b a)
theorem mny_put {b behind : List Int} : ∀ (l : List Int) (ahead S : List Int), U64s l → b = ahead ++ (encs l ++ behind) → mny b l.length ahead.length S = (S ++ l, (((ahead ++ encs l).length : Nat) : Int), 0)
  | [], ahead, S, _, hb => by simp [mny, encs]
  | n :: l, ahead, S, hu, hb => by
    have hb' : b = (ahead ++ lebI n) ++ (encs l ++ behind) := by rw [hb, encs_cons]; simp
    obtain ⟨e1, e2, e3⟩ := get_at (b := b) (hu n (by simp)) ahead (encs l ++ behind) (by rw [hb']; simp)
    have := mny_put l (ahead ++ lebI n) (S ++ [n]) (fun x hx => hu x (by simp [hx])) hb'
    rw [List.length_cons, mny, if_pos e2, e1, e3]
    rw [show ((ahead.length : Int) + ((lebI n).length : Int)) = (((ahead ++ lebI n).length : Nat) : Int) by simp, this, encs_cons]
    simp
/-- One more than there are. -/
theorem mny_more {b : List Int} : ∀ (l : List Int) (ahead S : List Int), U64s l → b = ahead ++ encs l → mny b (l.length + 1) ahead.length S = ([], 0, 5)
  | [], ahead, S, _, hb => by
    have : b.length = ahead.length := by rw [hb]; simp [encs]
    have e := get_off (b := b)
    rw [this] at e
    simp [mny, e]
  | n :: l, ahead, S, hu, hb => by
    have hb' : b = (ahead ++ lebI n) ++ encs l := by rw [hb, encs_cons]; simp
    obtain ⟨e1, e2, e3⟩ := get_at (b := b) (hu n (by simp)) ahead (encs l) (by rw [hb']; simp)
    have := mny_more l (ahead ++ lebI n) (S ++ [n]) (fun x hx => hu x (by simp [hx])) hb'
    rw [List.length_cons, mny, if_pos e2, e1, e3]
    rw [show ((ahead.length : Int) + ((lebI n).length : Int)) = (((ahead ++ lebI n).length : Nat) : Int) by simp, this]
/-- Signed numbers and others. -/
def zigI (n : Int) : Int := if n < 0 then -2 * n - 1 else 2 * n
def zagI (n : Int) : Int := if n % 2 = 1 then -(n / 2) - 1 else n / 2
theorem zag_zig (n : Int) : zagI (zigI n) = n := by unfold zagI zigI; split <;> split <;> omega
theorem zig_zag {n : Int} (h : 0 ≤ n) : zigI (zagI n) = n := by unfold zagI zigI; split <;> split <;> omega
theorem zig_u64 {n : Int} (h : I64 n) : U64 (zigI n) := by unfold I64 at h; unfold U64 zigI; split <;> omega
theorem zag_i64 {n : Int} (h : U64 n) : I64 (zagI n) := by unfold U64 at h; unfold I64 zagI; split <;> omega
theorem zigs_u64 {l : List Int} (h : ∀ x ∈ l, I64 x) : U64s (l.map zigI) := by
  intro x hx
  obtain ⟨y, hy, rfl⟩ := List.mem_map.1 hx
  exact zig_u64 (h y hy)
/-- No code is another one's beginning. -/
theorem code_apart {a b : Int} (ha : U64 a) (hb : U64 b) (h : (lebI b).take (lebI a).length = lebI a) : a = b := by
  have h1 := gL_code hb []
  rw [List.append_nil] at h1
  have h2 := gL_code ha ((lebI b).drop (lebI a).length)
  have e := List.take_append_drop (lebI a).length (lebI b)
  rw [h] at e
  rw [e, h1] at h2
  simp only [Prod.mk.injEq] at h2
  exact h2.1.symm
end Go.Proofs.YtjkhdfncahhnoaaGreat
/- What a number got is, and where it ends: plain mathematics. -/
namespace Go.Proofs.YtjkhdfncahhnoaaGreat
set_option maxRecDepth 100000
set_option linter.unusedVariables false
theorem shl_in {x : Int} {k : Nat} (h0 : 0 ≤ x) (h1 : x ≤ 127) (hk : k ≤ 9) (h9 : k = 9 → x ≤ 1) : 0 ≤ x * 2 ^ (7 * k) ∧ x * 2 ^ (7 * k) ≤ 18446744073709551615 := by
  have hp := pow7_pos k
  refine ⟨Int.mul_nonneg h0 (Int.le_of_lt hp), ?_⟩
  rcases Nat.lt_or_ge k 9 with h | h
  · have h2 : (2 : Int) ^ (7 * k) ≤ 2 ^ (7 * 8) := by
      have := Nat.pow_le_pow_right (show 0 < 2 by decide) (show 7 * k ≤ 7 * 8 by omega)
      exact_mod_cast this
    have h3 : (2 : Int) ^ (7 * 8) = 72057594037927936 := by decide
    have := Int.mul_le_mul h1 h2 (Int.le_of_lt hp) (by decide)
    omega
  · obtain rfl : k = 9 := by omega
    have h3 : (2 : Int) ^ (7 * 9) = 9223372036854775808 := by decide
    have := h9 rfl
    rw [h3]
    omega
theorem get_out {b : List Int} {a v s e : Int} (ha : 0 ≤ a) (h : gL (b.drop a.toNat) 0 0 = (v, s, e)) : getN b a = v ∧ getE b a = e ∧ getA b a = if e = 0 then a + s else 0 := by
  have h1 : ¬ a < 0 := by omega
  unfold getA getN getE
  rw [h]
  simp [h1]
theorem part_lt {n x : Int} {k : Nat} (hn0 : 0 ≤ n) (hn : n < 2 ^ (7 * k)) : 0 ≤ n + x % 128 * 2 ^ (7 * k) ∧ n + x % 128 * 2 ^ (7 * k) < 2 ^ (7 * (k + 1)) := by
  have hp := pow7_pos k
  have h1 := Int.mul_nonneg (show 0 ≤ x % 128 by omega) (Int.le_of_lt hp)
  have h2 := Int.mul_le_mul_of_nonneg_right (show x % 128 ≤ 127 by omega) (Int.le_of_lt hp)
  rw [pow7]
  omega
theorem gL_u64 : ∀ (b : List Int) (k : Nat) (m v s : Int), U8s b → k ≤ 9 → 0 ≤ m → m < 2 ^ (7 * k) → gL b k m = (v, s, 0) → U64 v
  | [], k, m, v, s, _, _, _, _, h => by simp [gL] at h
  | c :: cs, k, m, v, s, hu, hk, h0, h1, h => by
    have hc := hu c (by simp)
    rw [gL] at h
    split at h
    · simp at h
    · rename_i h9
      have hpl := part_lt (x := c) h0 h1
      split at h
      · split at h
        · simp at h
        · rename_i h2 h3
          simp only [Prod.mk.injEq, and_true] at h
          obtain ⟨rfl, rfl⟩ := h
          refine ⟨hpl.1, ?_⟩
          have hs := shl_in (x := c % 128) (k := k) (by omega) (by omega) hk (by omega)
          rcases Nat.lt_or_ge k 9 with h | h
          · have h2 : (2 : Int) ^ (7 * (k + 1)) ≤ 2 ^ (7 * 9) := by
              have := Nat.pow_le_pow_right (show 0 < 2 by decide) (show 7 * (k + 1) ≤ 7 * 9 by omega)
              exact_mod_cast this
            have h3 : (2 : Int) ^ (7 * 9) = 9223372036854775808 := by decide
            omega
          · obtain rfl : k = 9 := by omega
            have h3 : (2 : Int) ^ (7 * 9) = 9223372036854775808 := by decide
            rw [h3] at h1 ⊢
            omega
      · rename_i h2
        exact gL_u64 cs (k + 1) _ v s (fun x hx => hu x (by simp [hx])) (by omega) hpl.1 hpl.2 h
/-- What a number got is, and where it ends. -/
theorem get_ok {b : List Int} {a : Int} (ub : U8s b) (h : getE b a = 0) : 0 ≤ a ∧ U64 (getN b a) ∧ ∃ j : Nat, a.toNat + j ≤ b.length ∧ getA b a = ((a.toNat + j : Nat) : Int) ∧ (b.drop a.toNat).take j = lebI (getN b a) := by
  by_cases h1 : a < 0
  · unfold getE at h; rw [if_pos h1] at h; simp at h
  · obtain ⟨v, s, e, hg⟩ : ∃ v s e, gL (b.drop a.toNat) 0 0 = (v, s, e) := ⟨_, _, _, rfl⟩
    obtain ⟨e1, e2, e3⟩ := get_out (b := b) (a := a) (by omega) hg
    rw [e2] at h
    subst h
    have ud : U8s (b.drop a.toNat) := fun x hx => ub x (List.mem_of_mem_drop hx)
    obtain ⟨q, j, hq, hv, rfl, hj, ht, _⟩ := gL_back _ 0 0 v s ud hg
    have hv' : v = q := by rw [hv]; simp
    have hj' : a.toNat + j ≤ b.length ∨ j = 0 := by rw [List.length_drop] at hj; omega
    have hu := gL_u64 _ 0 0 v _ ud (by omega) (by omega) (by decide) hg
    have hjp : 0 < j := by
      have := lebI_pos q hq
      rw [← ht, List.length_take] at this
      omega
    rw [e1, e3, hv']
    rw [hv'] at hu
    refine ⟨by omega, hu, j, by omega, ?_, ht⟩
    simp
    omega
theorem getA_i64 {b : List Int} {a : Int} {c : Nat} (ub : U8s b) (hb : b.length ≤ c) (hc : c ≤ 9223372036854775807) (h : getE b a = 0) : I64 (getA b a) := by
  obtain ⟨_, _, j, hj, e, _⟩ := get_ok ub h
  rw [e]
  unfold I64
  omega
end Go.Proofs.YtjkhdfncahhnoaaGreat
/- Places that rise, their code, numbers spread and gathered, lists together: plain mathematics. No program in sight. -/
namespace Go.Proofs.YtjkhdfncahhnoaaGreat
set_option maxRecDepth 100000
set_option linter.unusedVariables false
/-- A list that rises. -/
def risP (l : List Int) : Prop := l.Pairwise (· < ·)
instance (l : List Int) : Decidable (risP l) := by unfold risP; infer_instance
def risB (l : List Int) : Bool := decide (risP l)
theorem ris_iff {l : List Int} : risP l ↔ ∀ (i j : Nat) (x y : Int), l[i]? = some x → l[j]? = some y → i < j → x < y := by
  unfold risP
  rw [List.pairwise_iff_getElem]
  constructor
  · intro h i j x y hx hy hij
    obtain ⟨h1, rfl⟩ := List.getElem?_eq_some_iff.1 hx
    obtain ⟨h2, rfl⟩ := List.getElem?_eq_some_iff.1 hy
    exact h i j h1 h2 hij
  · intro h i j hi hj hij
    exact h i j _ _ (List.getElem?_eq_getElem hi) (List.getElem?_eq_getElem hj) hij
theorem ris_nil : risP [] := List.Pairwise.nil
theorem ris_one (x : Int) : risP [x] := List.pairwise_singleton _ _
theorem ris_take {l : List Int} (h : risP l) (k : Nat) : risP (l.take k) := List.Pairwise.sublist (List.take_sublist k l) h
theorem ris_snoc {l : List Int} {y : Int} : risP (l ++ [y]) ↔ risP l ∧ ∀ x ∈ l, x < y := by
  unfold risP
  rw [List.pairwise_append]
  simp
theorem take_snoc {l : List Int} {k : Nat} {y : Int} (h : l[k]? = some y) : l.take (k + 1) = l.take k ++ [y] := by
  rw [List.take_add_one, h]; rfl
theorem ris_step {l : List Int} {k : Nat} {x y : Int} (h : risP (l.take k)) (hy : l[k]? = some y) (hx : k = 0 ∨ l[k - 1]? = some x ∧ x < y) : risP (l.take (k + 1)) := by
  rw [take_snoc hy, ris_snoc]
  refine ⟨h, fun z hz => ?_⟩
  rcases hx with rfl | ⟨hx, hlt⟩
  · simp at hz
  · have hk : k ≠ 0 := by rintro rfl; simp at hz
    obtain ⟨j, rfl⟩ : ∃ j, k = j + 1 := ⟨k - 1, by omega⟩
    rw [Nat.add_sub_cancel] at hx
    rw [take_snoc hx] at h hz
    rcases List.mem_append.1 hz with hz | hz
    · have := (ris_snoc.1 h).2 z hz; omega
    · simp at hz; omega
theorem ris_no {l : List Int} {i j : Nat} {x y : Int} (hx : l[i]? = some x) (hy : l[j]? = some y) (hij : i < j) (h : y ≤ x) : ¬ risP l := fun hr => by
  have := ris_iff.1 hr i j x y hx hy hij
  omega
theorem ris_nodup {l : List Int} (h : risP l) : l.Nodup := List.Pairwise.imp (fun h => by omega) h
/-- Two lists that rise are one, if they have the same numbers. -/
theorem ris_eq {a b : List Int} (ha : risP a) (hb : risP b) (h : ∀ x, x ∈ a ↔ x ∈ b) : a = b := by
  have hp := (List.perm_ext_iff_of_nodup (ris_nodup ha) (ris_nodup hb)).2 h
  exact List.Perm.eq_of_pairwise (fun x y _ _ h1 h2 => by omega) ha hb hp
/-- Whether they are places of a dimension. -/
def plcP (dim : Int) (l : List Int) : Prop := 1 ≤ dim ∧ dim ≤ 4096 ∧ risP l ∧ ∀ n ∈ l, 0 ≤ n ∧ n < dim
instance (dim : Int) (l : List Int) : Decidable (plcP dim l) := by unfold plcP; infer_instance
def chkE (dim : Int) (l : List Int) : Int := if plcP dim l then 0 else 1
theorem chk_ok {dim : Int} {l : List Int} : chkE dim l = 0 ↔ plcP dim l := by
  unfold chkE
  split
  · simp_all
  · simp_all
theorem chk_no {dim : Int} {l : List Int} (h : ¬ plcP dim l) : chkE dim l = 1 := if_neg h
theorem chk_or (dim : Int) (l : List Int) : chkE dim l = 0 ∨ chkE dim l = 1 := by unfold chkE; split <;> simp
/-- All numbers from 0 on. -/
def upI (k : Nat) : List Int := (List.range k).map fun n : Nat => (n : Int)
theorem upI_succ (k : Nat) : upI (k + 1) = upI k ++ [(k : Int)] := by unfold upI; rw [List.range_succ, List.map_append]; rfl
theorem upI_len (k : Nat) : (upI k).length = k := by unfold upI; simp
theorem upI_mem {k : Nat} {x : Int} : x ∈ upI k ↔ 0 ≤ x ∧ x < k := by
  unfold upI
  rw [List.mem_map]
  constructor
  · rintro ⟨n, hn, rfl⟩
    have := List.mem_range.1 hn
    omega
  · intro h
    exact ⟨x.toNat, List.mem_range.2 (by omega), by omega⟩
theorem upI_ris : ∀ k, risP (upI k)
  | 0 => ris_nil
  | k + 1 => by
    rw [upI_succ, ris_snoc]
    exact ⟨upI_ris k, fun x hx => (upI_mem.1 hx).2⟩
theorem upI_at {k i : Nat} (h : i < k) : (upI k)[i]? = some (i : Int) := by unfold upI; simp [h]
theorem ris_filter {l : List Int} (h : risP l) (p : Int → Bool) : risP (l.filter p) := List.Pairwise.sublist List.filter_sublist h
theorem plc_sub {dim : Int} {l : List Int} (h : plcP dim l) : ∃ k : Nat, dim = k ∧ 1 ≤ k ∧ k ≤ 4096 ∧ l = (upI k).filter (fun x => decide (x ∈ l)) := by
  obtain ⟨h1, h2, h3, h4⟩ := h
  obtain ⟨k, rfl⟩ := Int.eq_ofNat_of_zero_le (show 0 ≤ dim by omega)
  refine ⟨k, rfl, by omega, by omega, ris_eq h3 (ris_filter (upI_ris k) _) fun x => ?_⟩
  rw [List.mem_filter, upI_mem]
  constructor
  · intro h; exact ⟨h4 x h, by simpa using h⟩
  · intro h; simpa using h.2
theorem filter_both (p : Int → Bool) (l : List Int) : (l.filter p).length + (l.filter fun x => !p x).length = l.length := by
  induction l with
  | nil => rfl
  | cons x l ih =>
    rw [List.filter_cons, List.filter_cons]
    cases p x <;> simp <;> omega
/-- The places that are not in a list. -/
def lfF (k : Nat) (l : List Int) : List Int := (upI k).filter fun x => !decide (x ∈ l)
def lfV (dim : Int) (l : List Int) : List Int := if chkE dim l = 0 then lfF dim.toNat l else []
theorem lfF_step (k : Nat) (l : List Int) : lfF (k + 1) l = lfF k l ++ if (k : Int) ∈ l then [] else [(k : Int)] := by
  unfold lfF
  rw [upI_succ, List.filter_append]
  congr 1
  by_cases h : (k : Int) ∈ l <;> simp [h]
theorem plc_len {k : Nat} {l : List Int} (h : plcP k l) : l.length + (lfF k l).length = k := by
  obtain ⟨k', e, _, _, hl⟩ := plc_sub h
  obtain rfl : k = k' := by omega
  have := filter_both (fun x => decide (x ∈ l)) (upI k)
  rw [upI_len] at this
  unfold lfF
  have e2 : ((upI k).filter fun x => decide (x ∈ l)).length = l.length := by rw [← hl]
  omega
theorem plc_le {dim : Int} {l : List Int} (h : plcP dim l) : (l.length : Int) ≤ dim := by
  obtain ⟨k, rfl, _, _, _⟩ := plc_sub h
  have := plc_len h
  omega
theorem lfF_mem {k : Nat} {l : List Int} {x : Int} : x ∈ lfF k l ↔ (0 ≤ x ∧ x < k) ∧ x ∉ l := by
  unfold lfF
  rw [List.mem_filter, upI_mem]
  simp
theorem lf_plc {dim : Int} {l : List Int} (h : plcP dim l) : plcP dim (lfV dim l) := by
  unfold lfV
  rw [if_pos (chk_ok.2 h)]
  obtain ⟨k, rfl, h1, h2, _⟩ := plc_sub h
  rw [Int.toNat_natCast]
  exact ⟨by omega, by omega, ris_filter (upI_ris k) _, fun n hn => (lfF_mem.1 hn).1⟩
theorem lf_lf {dim : Int} {l : List Int} (h : plcP dim l) : lfV dim (lfV dim l) = l := by
  have h2 := lf_plc h
  obtain ⟨k, rfl, _, _, _⟩ := plc_sub h
  have e : lfV k (lfV k l) = lfF k (lfF k l) := by
    unfold lfV
    rw [if_pos (chk_ok.2 h)]
    rw [if_pos]
    · rw [Int.toNat_natCast]
    · unfold lfV at h2
      rw [if_pos (chk_ok.2 h)] at h2
      exact chk_ok.2 h2
  rw [e]
  refine ris_eq (ris_filter (upI_ris k) _) h.2.2.1 fun x => ?_
  rw [lfF_mem, lfF_mem]
  constructor
  · intro h3
    by_cases hx : x ∈ l
    · exact hx
    · exact absurd ⟨h3.1, hx⟩ h3.2
  · intro hx
    exact ⟨h.2.2.2 x hx, fun h4 => h4.2 hx⟩
/-- Distances, less 1. -/
def gapsF : Int → List Int → List Int
  | _, [] => []
  | last, n :: l => (n - last - 1) :: gapsF n l
def lastI (a : Int) (l : List Int) : Int := l.getLastD a
theorem lastI_snoc (a : Int) (l : List Int) (x : Int) : lastI a (l ++ [x]) = x := by unfold lastI; simp
theorem gaps_snoc : ∀ (l : List Int) (a x : Int), gapsF a (l ++ [x]) = gapsF a l ++ [x - lastI a l - 1]
  | [], a, x => by simp [gapsF, lastI]
  | n :: l, a, x => by
    rw [List.cons_append, gapsF, gapsF, gaps_snoc l n x, List.cons_append]
    congr 3
    unfold lastI
    cases l with
    | nil => rfl
    | cons y l => rw [List.getLastD_cons, List.getLastD_cons, List.getLastD_cons]
theorem gaps_len : ∀ (l : List Int) (a : Int), (gapsF a l).length = l.length
  | [], _ => rfl
  | n :: l, a => by rw [gapsF, List.length_cons, gaps_len l n, List.length_cons]
theorem gaps_u64 : ∀ (l : List Int) (a : Int), risP (a :: l) → -1 ≤ a → (∀ n ∈ l, n < 4096) → U64s (gapsF a l)
  | [], _, _, _, _ => by intro x hx; simp [gapsF] at hx
  | n :: l, a, hr, ha, hb => by
    have h1 : a < n := (List.pairwise_cons.1 hr).1 n (by simp)
    have h2 := hb n (by simp)
    intro x hx
    rw [gapsF] at hx
    rcases List.mem_cons.1 hx with rfl | hx
    · unfold U64; omega
    · exact gaps_u64 l n (List.pairwise_cons.1 hr).2 (by omega) (fun m hm => hb m (by simp [hm])) x hx
def putL (l : List Int) : List Int := (l.length : Int) :: gapsF (-1) l
def pixV (dim : Int) (l : List Int) : List Int := if chkE dim l = 0 then encs (putL l) else []
theorem plc_cons {dim : Int} {l : List Int} (h : plcP dim l) : risP (-1 :: l) := List.pairwise_cons.2 ⟨fun n hn => by have := h.2.2.2 n hn; omega, h.2.2.1⟩
theorem putL_u64 {dim : Int} {l : List Int} (h : plcP dim l) : U64s (putL l) := by
  have h1 := plc_le h
  have h2 := h.2.1
  intro x hx
  unfold putL at hx
  rcases List.mem_cons.1 hx with rfl | hx
  · unfold U64; omega
  · exact gaps_u64 l (-1) (plc_cons h) (by omega) (fun n hn => by have := h.2.2.2 n hn; omega) x hx
theorem putL_step {l : List Int} {k : Nat} {x : Int} (h : l[k]? = some x) : gapsF (-1) (l.take (k + 1)) = gapsF (-1) (l.take k) ++ [x - lastI (-1) (l.take k) - 1] := by
  rw [take_snoc h, gaps_snoc]
theorem lastI_step {l : List Int} {k : Nat} {x : Int} (h : l[k]? = some x) : lastI (-1) (l.take (k + 1)) = x := by
  rw [take_snoc h, lastI_snoc]
theorem lastI_mem : ∀ (l : List Int) (a : Int), lastI a l = a ∧ l = [] ∨ lastI a l ∈ l
  | [], a => by simp [lastI]
  | n :: l, a => by right; unfold lastI; rw [List.getLastD_cons]; rcases lastI_mem l n with ⟨h, _⟩ | h
                    · unfold lastI at h; rw [h]; simp
                    · unfold lastI at h; exact List.mem_cons_of_mem _ h
theorem lastI_lt {dim : Int} {l : List Int} {k : Nat} {x : Int} (h : plcP dim l) (hx : l[k]? = some x) : -1 ≤ lastI (-1) (l.take k) ∧ lastI (-1) (l.take k) < x ∧ 0 ≤ x ∧ x < dim := by
  have hr := ris_take h.2.2.1 (k + 1)
  rw [take_snoc hx, ris_snoc] at hr
  have hxd := h.2.2.2 x (List.mem_of_getElem? hx)
  rcases lastI_mem (l.take k) (-1) with ⟨e, _⟩ | hm
  · rw [e]; omega
  · have h1 := hr.2 _ hm
    have h2 := h.2.2.2 _ (List.mem_of_mem_take hm)
    omega
/-- What is read: so many distances from a place on, the last place ahead of them. -/
def ixL (dim : Int) (b : List Int) : Nat → Int → Int → List Int × Int × Int
  | 0, _, a => ([], a, 0)
  | m + 1, last, a => if getE b a ≠ 0 then ([], 0, getE b a) else if dim - last - 1 ≤ getN b a then ([], 0, 6) else
      if (ixL dim b m (last + getN b a + 1) (getA b a)).2.2 = 0 then ((last + getN b a + 1) :: (ixL dim b m (last + getN b a + 1) (getA b a)).1, (ixL dim b m (last + getN b a + 1) (getA b a)).2.1, 0) else ([], 0, (ixL dim b m (last + getN b a + 1) (getA b a)).2.2)
def gixR (dim : Int) (b : List Int) (a : Int) : List Int × Int × Int :=
  if dim < 1 ∨ 4096 < dim then ([], 0, 1) else if getE b a ≠ 0 then ([], 0, getE b a) else if dim < getN b a then ([], 0, 6) else ixL dim b (getN b a).toNat (-1) (getA b a)
/-- A list ahead of what is read. -/
def withL (O : List Int) (r : List Int × Int × Int) : List Int × Int × Int := if r.2.2 = 0 then (O ++ r.1, r.2.1, 0) else ([], 0, r.2.2)
theorem withL_nil {r : List Int × Int × Int} (h : r.2.2 ≠ 0 → r = ([], 0, r.2.2)) : withL [] r = r := by
  unfold withL
  obtain ⟨x, y, z⟩ := r
  by_cases hz : z = 0
  · subst hz; rfl
  · rw [if_neg hz]; exact (h hz).symm
theorem ixL_bad (dim : Int) (b : List Int) : ∀ (m : Nat) (last a : Int), (ixL dim b m last a).2.2 ≠ 0 → ixL dim b m last a = ([], 0, (ixL dim b m last a).2.2)
  | 0, last, a, h => by simp [ixL] at h
  | m + 1, last, a, h => by
    rw [ixL] at h ⊢
    split
    · rfl
    · split
      · rfl
      · split
        · rename_i h1 h2 h3
          rw [if_neg h1, if_neg h2, if_pos h3] at h
          simp at h
        · rfl
theorem withL_end (dim : Int) (b : List Int) (O : List Int) (last a : Int) : withL O (ixL dim b 0 last a) = (O, a, 0) := by
  unfold withL ixL; simp
theorem withL_err {dim : Int} {b : List Int} {m : Nat} {O : List Int} {last a : Int} (h : getE b a ≠ 0) : withL O (ixL dim b (m + 1) last a) = ([], 0, getE b a) := by
  unfold withL
  rw [ixL, if_pos h, if_neg h]
theorem withL_form {dim : Int} {b : List Int} {m : Nat} {O : List Int} {last a : Int} (h : getE b a = 0) (h2 : dim - last - 1 ≤ getN b a) : withL O (ixL dim b (m + 1) last a) = ([], 0, 6) := by
  have h1 : ¬ getE b a ≠ 0 := fun hn => hn h
  rw [ixL, if_neg h1, if_pos h2]
  rfl
theorem withL_step {dim : Int} {b : List Int} {m : Nat} {O : List Int} {last a : Int} (h : getE b a = 0) (h2 : getN b a < dim - last - 1) :
    withL O (ixL dim b (m + 1) last a) = withL (O ++ [last + getN b a + 1]) (ixL dim b m (last + getN b a + 1) (getA b a)) := by
  rw [ixL, if_neg (by omega), if_neg (by omega)]
  by_cases h3 : (ixL dim b m (last + getN b a + 1) (getA b a)).2.2 = 0
  · rw [if_pos h3]
    unfold withL
    rw [if_pos h3]
    simp
  · rw [if_neg h3]
    unfold withL
    rw [if_neg h3, if_neg h3]
/-- Numbers at places. -/
def spF (l v : List Int) (j : Int) : Int := (l.zip v).foldl (fun acc p => if j = p.1 then p.2 else acc) 0
def spE (dim : Int) (l v : List Int) : Int := if chkE dim l = 0 then (if l.length = v.length then 0 else 4) else chkE dim l
def spV (dim : Int) (l v : List Int) : List Int := if spE dim l v = 0 then (upI dim.toNat).map (spF l v) else []
theorem spF_snoc {l v : List Int} (h : l.length = v.length) (n x j : Int) : spF (l ++ [n]) (v ++ [x]) j = if j = n then x else spF l v j := by
  unfold spF
  rw [List.zip_append h, List.foldl_append]
  rfl
theorem spF_step {l v : List Int} {k : Nat} {n x : Int} (hn : l[k]? = some n) (hx : v[k]? = some x) (j : Int) : spF (l.take (k + 1)) (v.take (k + 1)) j = if j = n then x else spF (l.take k) (v.take k) j := by
  have h1 := (List.getElem?_eq_some_iff.1 hn).1
  have h2 := (List.getElem?_eq_some_iff.1 hx).1
  rw [take_snoc hn, take_snoc hx]
  exact spF_snoc (by rw [List.length_take, List.length_take]; omega) n x j
theorem spF_out {l v : List Int} {j : Int} (h : j ∉ l) : spF l v j = 0 := by
  unfold spF
  have key : ∀ (ps : List (Int × Int)) (a : Int), (∀ p ∈ ps, j ≠ p.1) → ps.foldl (fun acc p => if j = p.1 then p.2 else acc) a = a := by
    intro ps
    induction ps with
    | nil => intro a _; rfl
    | cons p ps ih =>
      intro a hp
      rw [List.foldl_cons, if_neg (hp p (by simp)), ih a (fun q hq => hp q (by simp [hq]))]
  exact key _ 0 fun p hp e => h (by rw [e]; exact (List.of_mem_zip hp).1)
theorem spF_at {l v : List Int} (hr : risP l) : ∀ (k : Nat) (i : Nat) (n x : Int), i < k → l[i]? = some n → v[i]? = some x → k ≤ l.length → k ≤ v.length → spF (l.take k) (v.take k) n = x := by
  intro k
  induction k with
  | zero => intro i n x h; omega
  | succ k ih =>
    intro i n x h hn hx h1 h2
    have hk1 : l[k]? = some l[k] := List.getElem?_eq_getElem (by omega)
    have hk2 : v[k]? = some v[k] := List.getElem?_eq_getElem (by omega)
    rw [spF_step hk1 hk2]
    by_cases hik : i = k
    · subst hik
      rw [hn] at hk1
      rw [hx] at hk2
      injection hk1 with e1
      injection hk2 with e2
      rw [if_pos e1, ← e2]
    · have := ris_iff.1 hr i k n l[k] hn hk1 (by omega)
      rw [if_neg (by omega)]
      exact ih i n x (by omega) hn hx (by omega) (by omega)
theorem spF_in {l v : List Int} (hr : risP l) (hl : l.length = v.length) {i : Nat} {n x : Int} (hn : l[i]? = some n) (hx : v[i]? = some x) : spF l v n = x := by
  have h := spF_at hr l.length i n x (List.getElem?_eq_some_iff.1 hn).1 hn hx (Nat.le_refl _) (by omega)
  rwa [List.take_length, hl, List.take_length] at h
/-- Numbers from places. -/
def gatP (l v : List Int) : Prop := risP l ∧ ∀ n ∈ l, 0 ≤ n ∧ n < v.length
instance (l v : List Int) : Decidable (gatP l v) := by unfold gatP; infer_instance
def gatE (l v : List Int) : Int := if gatP l v then 0 else 1
def gatV (l v : List Int) : List Int := if gatE l v = 0 then l.map (fun n => v.getD n.toNat 0) else []
theorem gat_ok {l v : List Int} : gatE l v = 0 ↔ gatP l v := by unfold gatE; split <;> simp_all
theorem gat_no {l v : List Int} (h : ¬ gatP l v) : gatE l v = 1 := if_neg h
/-- Lists together. -/
def insI (out : List Int) (n : Int) : List Int := if n ∈ out then out else out.filter (fun m => decide (m < n)) ++ [n] ++ out.filter (fun m => decide (n < m))
def mrgF (out l : List Int) : List Int := l.foldl insI out
def mrgV (ls : List (List Int)) : List Int := mrgF [] ls.flatten
theorem ins_mem {out : List Int} {n x : Int} : x ∈ insI out n ↔ x = n ∨ x ∈ out := by
  unfold insI
  split
  · rename_i h
    constructor
    · intro h2; exact Or.inr h2
    · rintro (rfl | h2)
      · exact h
      · exact h2
  · rw [List.mem_append, List.mem_append, List.mem_filter, List.mem_filter, List.mem_singleton, decide_eq_true_eq, decide_eq_true_eq]
    constructor
    · rintro ((⟨h, _⟩ | h) | ⟨h, _⟩)
      · exact Or.inr h
      · exact Or.inl h
      · exact Or.inr h
    · rintro (h | h)
      · exact Or.inl (Or.inr h)
      · by_cases h1 : x < n
        · exact Or.inl (Or.inl ⟨h, h1⟩)
        · by_cases h2 : x = n
          · exact Or.inl (Or.inr h2)
          · exact Or.inr ⟨h, by omega⟩
theorem ins_ris {out : List Int} (h : risP out) (n : Int) : risP (insI out n) := by
  unfold insI
  split
  · exact h
  · unfold risP
    rw [List.pairwise_append, List.pairwise_append]
    refine ⟨⟨ris_filter h _, List.pairwise_singleton _ _, ?_⟩, ris_filter h _, ?_⟩
    · intro a ha b hb
      rw [List.mem_filter, decide_eq_true_eq] at ha
      rw [List.mem_singleton] at hb
      omega
    · intro a ha b hb
      rw [List.mem_filter, decide_eq_true_eq] at hb
      rw [List.mem_append, List.mem_filter, List.mem_singleton, decide_eq_true_eq] at ha
      rcases ha with ha | ha <;> omega
theorem mrg_ris : ∀ (l out : List Int), risP out → risP (mrgF out l)
  | [], out, h => h
  | n :: l, out, h => mrg_ris l (insI out n) (ins_ris h n)
theorem mrg_mem : ∀ (l out : List Int) (x : Int), x ∈ mrgF out l ↔ x ∈ out ∨ x ∈ l
  | [], out, x => by simp [mrgF]
  | n :: l, out, x => by
    have := mrg_mem l (insI out n) x
    show x ∈ mrgF (insI out n) l ↔ _
    rw [this, ins_mem, List.mem_cons]
    constructor
    · rintro ((h | h) | h)
      · exact Or.inr (Or.inl h)
      · exact Or.inl h
      · exact Or.inr (Or.inr h)
    · rintro (h | h | h)
      · exact Or.inl (Or.inr h)
      · exact Or.inl (Or.inl h)
      · exact Or.inr h
theorem mrgV_ris (ls : List (List Int)) : risP (mrgV ls) := mrg_ris _ _ ris_nil
theorem mrgV_mem {ls : List (List Int)} {x : Int} : x ∈ mrgV ls ↔ ∃ l ∈ ls, x ∈ l := by
  unfold mrgV
  rw [mrg_mem, List.mem_flatten]
  simp
theorem mrgV_eq {ls : List (List Int)} {m : List Int} (hr : risP m) (h : ∀ x, x ∈ m ↔ ∃ l ∈ ls, x ∈ l) : m = mrgV ls := ris_eq hr (mrgV_ris ls) fun x => by rw [h, mrgV_mem]
theorem mrg_snoc (out l : List Int) (n : Int) : mrgF out (l ++ [n]) = insI (mrgF out l) n := by unfold mrgF; rw [List.foldl_append]; rfl
/-- Where a number stands, or would. -/
def hasI (l : List Int) (n : Int) : Nat := l.findIdx fun x => decide (n ≤ x)
def hasB (l : List Int) (n : Int) : Bool := decide (n ∈ l)
theorem has_at {l : List Int} {i : Nat} {x n : Int} (hr : risP l) (hx : l[i]? = some x) (hn : n ≤ x) (h : ∀ y ∈ l.take i, y < n) : hasI l n = i ∧ hasB l n = (x == n) := by
  obtain ⟨hi, rfl⟩ := List.getElem?_eq_some_iff.1 hx
  constructor
  · unfold hasI
    rw [List.findIdx_eq hi]
    refine ⟨by simpa using hn, fun j hj => ?_⟩
    have := h l[j] (by rw [List.mem_take_iff_getElem]; exact ⟨j, by omega, rfl⟩)
    simpa using this
  · unfold hasB
    by_cases he : l[i] = n
    · rw [decide_eq_true (by rw [← he]; exact List.getElem_mem hi)]
      simp [he]
    · rw [decide_eq_false]
      · simp [he]
      · intro hm
        obtain ⟨j, hj, hjn⟩ := List.getElem_of_mem hm
        by_cases h1 : j < i
        · have := h l[j] (by rw [List.mem_take_iff_getElem]; exact ⟨j, by omega, rfl⟩)
          omega
        · by_cases h2 : j = i
          · subst h2; exact he hjn
          · have := ris_iff.1 hr i j _ _ (List.getElem?_eq_getElem hi) (List.getElem?_eq_getElem hj) (by omega)
            omega
theorem has_off {l : List Int} {n : Int} (h : ∀ y ∈ l, y < n) : hasI l n = l.length ∧ hasB l n = false := by
  constructor
  · unfold hasI
    rw [List.findIdx_eq_length]
    intro x hx
    have := h x hx
    simpa using this
  · unfold hasB
    rw [decide_eq_false]
    intro hm
    have := h n hm
    omega
end Go.Proofs.YtjkhdfncahhnoaaGreat
/- What was put is got, what was got was put; spread, gathered, left: plain mathematics. -/
namespace Go.Proofs.YtjkhdfncahhnoaaGreat
set_option maxRecDepth 100000
set_option linter.unusedVariables false
theorem pixV_u8 (dim : Int) (l : List Int) : U8s (pixV dim l) := by
  unfold pixV
  split
  · rename_i h; exact encs_u8 (putL_u64 (chk_ok.1 h))
  · intro x hx; simp at hx
theorem pixV_len (dim : Int) (l : List Int) : (pixV dim l).length ≤ 41000 := by
  unfold pixV
  split
  · rename_i h
    have hp := chk_ok.1 h
    have h1 := encs_len (putL_u64 hp)
    have h2 := plc_le hp
    have h3 := hp.2.1
    unfold putL at h1 ⊢
    rw [List.length_cons, gaps_len] at h1
    omega
  · simp
theorem ixL_put {dim : Int} {b behind : List Int} (hd : dim ≤ 4096) : ∀ (l : List Int) (last : Int) (ahead : List Int), risP (last :: l) → -1 ≤ last → (∀ n ∈ l, n < dim) → b = ahead ++ (encs (gapsF last l) ++ behind) →
    ixL dim b l.length last ahead.length = (l, (((ahead ++ encs (gapsF last l)).length : Nat) : Int), 0)
  | [], last, ahead, _, _, _, hb => by simp [ixL, gapsF, encs]
  | n :: l, last, ahead, hr, hl, hn, hb => by
    have hn1 := hn n (by simp)
    have hlt : last < n := (List.pairwise_cons.1 hr).1 n (by simp)
    rw [gapsF, encs_cons] at hb
    have hu : U64 (n - last - 1) := by unfold U64; omega
    have hb' : b = ahead ++ (lebI (n - last - 1) ++ (encs (gapsF n l) ++ behind)) := by rw [hb]; simp
    obtain ⟨e1, e2, e3⟩ := get_at hu ahead _ hb'
    have ih := ixL_put (b := b) (behind := behind) hd l n (ahead ++ lebI (n - last - 1)) (List.pairwise_cons.1 hr).2 (by omega) (fun m hm => hn m (by simp [hm])) (by rw [hb']; simp)
    rw [List.length_cons, ixL]
    have h1 : ¬ getE b (ahead.length : Int) ≠ 0 := fun h => h e2
    rw [if_neg h1, e1, if_neg (by omega), show last + (n - last - 1) + 1 = n by omega, e3]
    rw [List.length_append, Int.natCast_add] at ih
    rw [ih]
    simp [gapsF, encs_cons]
theorem gix_put {dim : Int} {l ahead behind b : List Int} (h : chkE dim l = 0) (hb : b = ahead ++ (pixV dim l ++ behind)) : gixR dim b ahead.length = (l, (((ahead ++ pixV dim l).length : Nat) : Int), 0) := by
  have hp := chk_ok.1 h
  have h1 := hp.1
  have h2 := hp.2.1
  have h3 := plc_le hp
  have e : pixV dim l = lebI (l.length : Int) ++ encs (gapsF (-1) l) := by unfold pixV; rw [if_pos h]; unfold putL; rw [encs_cons]
  rw [e] at hb ⊢
  have hu : U64 (l.length : Int) := by unfold U64; omega
  have hb' : b = ahead ++ (lebI (l.length : Int) ++ (encs (gapsF (-1) l) ++ behind)) := by rw [hb]; simp
  obtain ⟨e1, e2, e3⟩ := get_at hu ahead _ hb'
  have h4 := ixL_put (b := b) (behind := behind) h2 l (-1) (ahead ++ lebI (l.length : Int)) (plc_cons hp) (by omega) (fun n hn => (hp.2.2.2 n hn).2) (by rw [hb']; simp)
  unfold gixR
  have hne : ¬ getE b (ahead.length : Int) ≠ 0 := fun h => h e2
  rw [if_neg (by omega), if_neg hne, e1, if_neg (by omega), Int.toNat_natCast, e3]
  rw [List.length_append, Int.natCast_add] at h4
  rw [h4]
  simp
theorem ixL_back {dim : Int} {b : List Int} (ub : U8s b) : ∀ (m : Nat) (last : Int) (k : Nat) (l : List Int) (a' : Int), ixL dim b m last k = (l, a', 0) → k ≤ b.length → last < dim → l.length = m ∧ risP (last :: l) ∧ (∀ n ∈ l, n < dim) ∧
    ∃ j : Nat, k + j ≤ b.length ∧ a' = ((k + j : Nat) : Int) ∧ (b.drop k).take j = encs (gapsF last l)
  | 0, last, k, l, a', h, hk, hl => by
    rw [ixL] at h
    simp only [Prod.mk.injEq, and_true] at h
    obtain ⟨rfl, rfl⟩ := h
    exact ⟨rfl, ris_one _, by intro n hn; simp at hn, 0, by omega, by simp, by simp [gapsF, encs]⟩
  | m + 1, last, k, l, a', h, hk, hl => by
    rw [ixL] at h
    split at h
    · rename_i h1
      simp only [Prod.mk.injEq] at h
      exact absurd h.2.2 h1
    · rename_i h1
      have h1 : getE b k = 0 := by omega
      split at h
      · simp at h
      · rename_i h2
        obtain ⟨_, hu, j1, hj1, hA, ht⟩ := get_ok ub h1
        rw [Int.toNat_natCast] at hj1 hA ht
        rw [hA] at h
        unfold U64 at hu
        split at h
        · rename_i h3
          obtain ⟨l2, a2, e2, hr⟩ : ∃ l2 a2 e2, ixL dim b m (last + getN b k + 1) ((k + j1 : Nat) : Int) = (l2, a2, e2) := ⟨_, _, _, rfl⟩
          rw [hr] at h h3
          simp only at h3
          subst h3
          simp only [Prod.mk.injEq, and_true] at h
          obtain ⟨rfl, rfl⟩ := h
          obtain ⟨i1, i2, i3, j2, i4, i5, i6⟩ := ixL_back ub m _ _ l2 a2 hr hj1 (by omega)
          refine ⟨by rw [List.length_cons, i1], ?_, ?_, j1 + j2, by omega, by rw [i5]; congr 1; omega, ?_⟩
          · refine List.pairwise_cons.2 ⟨fun x hx => ?_, i2⟩
            rcases List.mem_cons.1 hx with rfl | hx
            · omega
            · have := (List.pairwise_cons.1 i2).1 x hx
              omega
          · intro n hn
            rcases List.mem_cons.1 hn with rfl | hn
            · omega
            · exact i3 n hn
          · rw [List.take_add, ht, List.drop_drop, i6, gapsF, encs_cons, show last + getN b k + 1 - last - 1 = getN b k by omega]
        · rename_i h3
          simp only [Prod.mk.injEq] at h
          exact absurd h.2.2 h3
theorem gix_back {dim : Int} {b m : List Int} {a : Int} (ub : U8s b) (h : gixR dim b 0 = (m, a, 0)) : chkE dim m = 0 ∧ ∃ j : Nat, a = j ∧ j ≤ b.length ∧ pixV dim m = b.take j := by
  unfold gixR at h
  split at h
  · simp at h
  · rename_i hd
    split at h
    · rename_i h1
      simp only [Prod.mk.injEq] at h
      exact absurd h.2.2 h1
    · rename_i h1
      have h1 : getE b 0 = 0 := by omega
      split at h
      · simp at h
      · rename_i h2
        obtain ⟨_, hu, j1, hj1, hA, ht⟩ := get_ok ub h1
        unfold U64 at hu
        rw [hA] at h
        rw [Int.toNat_zero] at hj1 ht
        rw [Int.toNat_zero] at h
        obtain ⟨i1, i2, i3, j2, i4, i5, i6⟩ := ixL_back ub _ _ _ m a h (by omega) (by omega)
        have hp : plcP dim m := ⟨by omega, by omega, (List.pairwise_cons.1 i2).2, fun n hn => ⟨by have := (List.pairwise_cons.1 i2).1 n hn; omega, i3 n hn⟩⟩
        refine ⟨chk_ok.2 hp, 0 + j1 + j2, i5, by omega, ?_⟩
        unfold pixV
        rw [if_pos (chk_ok.2 hp)]
        unfold putL
        rw [encs_cons, ← i6]
        rw [List.drop_zero] at ht
        rw [i1, show ((getN b 0).toNat : Int) = getN b 0 by omega, ← ht, Nat.zero_add, List.take_add]
theorem ixL_len (dim : Int) (b : List Int) : ∀ (m : Nat) (last a : Int), (ixL dim b m last a).1.length ≤ m
  | 0, _, _ => by simp [ixL]
  | m + 1, last, a => by
    have h := ixL_len dim b m (last + getN b a + 1) (getA b a)
    rw [ixL]
    split
    · simp
    · split
      · simp
      · split
        · simp; omega
        · simp
theorem gix_len (dim : Int) (b : List Int) (a : Int) : (gixR dim b a).1.length ≤ 4096 := by
  unfold gixR
  split
  · simp
  · split
    · simp
    · split
      · simp
      · have h := ixL_len dim b (getN b a).toNat (-1) (getA b a)
        omega
theorem gix_nil {dim : Int} {b m : List Int} {a a' e : Int} (h : gixR dim b a = (m, a', e)) (he : e ≠ 0) : m = [] := by
  unfold gixR at h
  split at h
  · simp at h; exact h.1
  · split at h
    · simp at h; exact h.1
    · split at h
      · simp at h; exact h.1
      · have hb := ixL_bad dim b (getN b a).toNat (-1) (getA b a) (by rw [h]; exact he)
        rw [h] at hb
        simp at hb
        exact hb.1
theorem mrg_left {K : Nat} {l : List Int} (h : plcP K l) : mrgV [lfF K l, l] = upI K := by
  refine (mrgV_eq (upI_ris K) fun x => ?_).symm
  rw [upI_mem]
  constructor
  · intro hx
    by_cases hm : x ∈ l
    · exact ⟨l, by simp, hm⟩
    · exact ⟨lfF K l, by simp, lfF_mem.2 ⟨hx, hm⟩⟩
  · rintro ⟨m, hm, hx⟩
    simp only [List.mem_cons, List.not_mem_nil, or_false] at hm
    rcases hm with rfl | rfl
    · exact (lfF_mem.1 hx).1
    · exact h.2.2.2 x hx
theorem left_all {dim : Int} {l : List Int} (h : chkE dim l = 0) : ∃ (K : Nat) (m : List Int), dim = K ∧ 1 ≤ K ∧ K ≤ 4096 ∧ lfV dim l = m ∧ chkE dim m = 0 ∧ lfV dim m = l ∧ mrgV [m, l] = upI K ∧ m.length + l.length = K := by
  have hp := chk_ok.1 h
  obtain ⟨K, rfl, h1, h2, _⟩ := plc_sub hp
  have e : lfV K l = lfF K l := by unfold lfV; rw [if_pos h, Int.toNat_natCast]
  have hl := lf_lf hp
  have hc := chk_ok.2 (lf_plc hp)
  have hn := plc_len hp
  rw [e] at hl hc
  exact ⟨K, lfF K l, rfl, h1, h2, e, hc, hl, mrg_left hp, by omega⟩
theorem getD_nat {v : List Int} {n : Nat} {z : Int} (h : v[n]? = some z) : v.getD ((n : Int)).toNat 0 = z := by rw [Int.toNat_natCast, List.getD_eq_getElem?_getD, h]; rfl
theorem gat_plc {l v : List Int} {K : Nat} (h : plcP K l) (hv : v.length = K) : gatP l v := ⟨h.2.2.1, fun n hn => by have := h.2.2.2 n hn; omega⟩
theorem gat_len {l v : List Int} (h : gatE l v = 0) : (gatV l v).length = l.length := by unfold gatV; rw [if_pos h, List.length_map]
theorem gat_at {l v : List Int} (h : gatE l v = 0) {i n : Nat} {z : Int} (hl : l[i]? = some (n : Int)) (hv : v[n]? = some z) : (gatV l v)[i]? = some z := by
  unfold gatV
  rw [if_pos h, List.getElem?_map, hl, Option.map_some, getD_nat hv]
theorem sp_ok {K : Nat} {l v : List Int} (h : chkE K l = 0) (hv : l.length = v.length) : spE K l v = 0 ∧ spV K l v = (upI K).map (spF l v) := by
  have e : spE K l v = 0 := by unfold spE; rw [if_pos h, if_pos hv]
  refine ⟨e, ?_⟩
  unfold spV
  rw [if_pos e, Int.toNat_natCast]
theorem sp_at {K : Nat} {l v : List Int} {n : Nat} (hn : n < K) : ((upI K).map (spF l v))[n]? = some (spF l v n) := by
  rw [List.getElem?_map, upI_at hn]; rfl
/-- What is gathered, and what is gathered elsewhere, spread. -/
theorem spreads {l v : List Int} (h : chkE v.length l = 0) : ∃ m a b x y, v.length ≤ 4096 ∧ lfV v.length l = m ∧ chkE v.length m = 0 ∧ gatV l v = a ∧ gatE l v = 0 ∧ gatV m v = b ∧ gatE m v = 0 ∧
    spV v.length l a = x ∧ spE v.length l a = 0 ∧ spV v.length m b = y ∧ spE v.length m b = 0 ∧ l.length + m.length = v.length ∧ a.length = l.length ∧ b.length = m.length ∧ x.length = v.length ∧ y.length = v.length ∧
    ∀ (n : Nat) (z : Int), v[n]? = some z → (x[n]? = some z ∧ y[n]? = some 0) ∨ (x[n]? = some 0 ∧ y[n]? = some z) := by
  have hp := chk_ok.1 h
  obtain ⟨K, m, hK, _, hK4, e1, e2, e3, _, e5⟩ := left_all h
  have hp2 := chk_ok.1 e2
  have g1 := gat_ok.2 (gat_plc hp rfl)
  have g2 := gat_ok.2 (gat_plc hp2 rfl)
  have l1 := gat_len g1
  have l2 := gat_len g2
  obtain ⟨s1, s2⟩ := sp_ok (v := gatV l v) h (by rw [l1])
  obtain ⟨s3, s4⟩ := sp_ok (v := gatV m v) e2 (by rw [l2])
  refine ⟨m, gatV l v, gatV m v, _, _, by omega, e1, e2, rfl, g1, rfl, g2, s2, s1, s4, s3, by omega, l1, l2, ?_, ?_, ?_⟩
  · rw [List.length_map, upI_len]
  · rw [List.length_map, upI_len]
  · intro n z hz
    have hn : n < v.length := (List.getElem?_eq_some_iff.1 hz).1
    rw [sp_at hn, sp_at hn]
    have hm : (n : Int) ∈ m ↔ (n : Int) ∉ l := by
      rw [← e1]
      unfold lfV
      rw [if_pos h, lfF_mem]
      constructor
      · exact fun h => h.2
      · intro h; exact ⟨⟨by omega, by rw [Int.toNat_natCast]; omega⟩, h⟩
    by_cases hl : (n : Int) ∈ l
    · left
      obtain ⟨i, hi, hin⟩ := List.getElem_of_mem hl
      have hli : l[i]? = some (n : Int) := by rw [List.getElem?_eq_getElem hi, hin]
      rw [spF_in hp.2.2.1 l1.symm hli (gat_at g1 hli hz), spF_out (fun h => hm.1 h hl)]
      exact ⟨rfl, rfl⟩
    · right
      obtain ⟨i, hi, hin⟩ := List.getElem_of_mem (hm.2 hl)
      have hli : m[i]? = some (n : Int) := by rw [List.getElem?_eq_getElem hi, hin]
      rw [spF_in hp2.2.2.1 l2.symm hli (gat_at g2 hli hz), spF_out hl]
      exact ⟨rfl, rfl⟩
/-- What was spread is gathered. -/
theorem spread_back {K : Nat} {l u : List Int} (h : chkE K l = 0) (hu : l.length = u.length) : spE K l u = 0 ∧ (spV K l u).length = K ∧ gatE l (spV K l u) = 0 ∧ gatV l (spV K l u) = u := by
  have hp := chk_ok.1 h
  obtain ⟨s1, s2⟩ := sp_ok (v := u) h hu
  have hl : (spV K l u).length = K := by rw [s2, List.length_map, upI_len]
  have g := gat_ok.2 (gat_plc hp hl)
  refine ⟨s1, hl, g, ?_⟩
  apply List.ext_getElem?
  intro i
  by_cases hi : i < l.length
  · have hli : l[i]? = some l[i] := List.getElem?_eq_getElem hi
    have hpl := hp.2.2.2 _ (List.getElem_mem hi)
    obtain ⟨n, hn⟩ := Int.eq_ofNat_of_zero_le hpl.1
    have hui : u[i]? = some u[i] := List.getElem?_eq_getElem (by omega)
    rw [hn] at hli
    have hnK : n < K := by omega
    rw [gat_at (z := u[i]) g hli (by rw [s2, sp_at hnK, spF_in hp.2.2.1 hu hli hui]), hui]
  · rw [List.getElem?_eq_none (by rw [gat_len g]; omega), List.getElem?_eq_none (by omega)]
theorem spV_len (dim : Int) (l v : List Int) : (spV dim l v).length ≤ 4096 := by
  unfold spV
  split
  · rename_i h
    unfold spE at h
    split at h
    · rename_i h1
      have hd := (chk_ok.1 h1).2.1
      rw [List.length_map, upI_len]
      omega
    · rename_i h1; exact absurd h h1
  · simp
theorem lfV_len (dim : Int) (l : List Int) : (lfV dim l).length ≤ 4096 := by
  unfold lfV
  split
  · rename_i h
    have hd := (chk_ok.1 h).2.1
    unfold lfF
    have := List.length_filter_le (fun x => !decide (x ∈ l)) (upI dim.toNat)
    rw [upI_len] at this
    omega
  · simp
end Go.Proofs.YtjkhdfncahhnoaaGreat
/- Bits in bytes, side by side and in planes: plain mathematics. No program in sight. -/
namespace Go.Proofs.YtjkhdfncahhnoaaGreat
set_option maxRecDepth 100000
set_option linter.unusedVariables false
/-- The first n of the bits that f tells. -/
def mkB (n : Nat) (f : Nat → Bool) : List Bool := (List.range n).map f
theorem mkB_len (n : Nat) (f : Nat → Bool) : (mkB n f).length = n := by unfold mkB; simp
theorem mkB_succ (n : Nat) (f : Nat → Bool) : mkB (n + 1) f = mkB n f ++ [f n] := by unfold mkB; simp [List.range_succ]
theorem mkB_at {n k : Nat} (f : Nat → Bool) (h : k < n) : (mkB n f)[k]? = some (f k) := by unfold mkB; simp [h]
theorem mkB_congr {n : Nat} {f g : Nat → Bool} (h : ∀ k, k < n → f k = g k) : mkB n f = mkB n g := by
  unfold mkB
  exact List.map_congr_left fun k hk => h k (List.mem_range.1 hk)
theorem mkB_take {n k : Nat} (f : Nat → Bool) (h : k ≤ n) : (mkB n f).take k = mkB k f := by
  unfold mkB
  rw [← List.map_take, List.take_range, Nat.min_eq_left h]
/-- What a bit at place p weighs, of the first n. -/
def bv (n : Nat) (f : Nat → Bool) (p : Nat) (w : Int) : Int := if p < n ∧ f p = true then w else 0
/-- A byte of the first n bits. -/
def byF (n : Nat) (f : Nat → Bool) (i : Nat) : Int :=
  bv n f (8 * i) 128 + bv n f (8 * i + 1) 64 + bv n f (8 * i + 2) 32 + bv n f (8 * i + 3) 16 + bv n f (8 * i + 4) 8 + bv n f (8 * i + 5) 4 + bv n f (8 * i + 6) 2 + bv n f (8 * i + 7) 1
def pkL (n : Nat) (f : Nat → Bool) : List Int := (List.range ((n + 7) / 8)).map (byF n f)
theorem pkL_len (n : Nat) (f : Nat → Bool) : (pkL n f).length = (n + 7) / 8 := by unfold pkL; simp
theorem pkL_at {n i : Nat} (f : Nat → Bool) (h : i < (n + 7) / 8) : (pkL n f)[i]? = some (byF n f i) := by unfold pkL; simp [h]
theorem bv_next {n p : Nat} {f : Nat → Bool} {w : Int} (h : p ≠ n) : bv (n + 1) f p w = bv n f p w := by
  unfold bv
  by_cases hp : p < n
  · simp [hp, show p < n + 1 by omega]
  · simp [hp, show ¬ p < n + 1 by omega]
theorem bv_here {n p : Nat} {f : Nat → Bool} {w : Int} (h : p = n) : bv (n + 1) f p w = if f n = true then w else 0 := by
  unfold bv
  subst h
  simp
theorem bv_not {n p : Nat} {f : Nat → Bool} {w : Int} (h : n ≤ p) : bv n f p w = 0 := by
  unfold bv
  rw [if_neg (by omega)]
theorem byF_other {n i : Nat} {f : Nat → Bool} (h : i ≠ n / 8) : byF (n + 1) f i = byF n f i := by
  unfold byF
  rw [bv_next (by omega), bv_next (by omega), bv_next (by omega), bv_next (by omega), bv_next (by omega), bv_next (by omega), bv_next (by omega), bv_next (by omega)]
theorem byF_off {n i : Nat} {f : Nat → Bool} (h : f n = false) : byF (n + 1) f i = byF n f i := by
  have e : ∀ p w, bv (n + 1) f p w = bv n f p w := fun p w => by
    by_cases hp : p = n
    · rw [bv_here hp, bv_not (by omega), h]; rfl
    · exact bv_next hp
  unfold byF
  simp only [e]
theorem byF_on {n : Nat} {f : Nat → Bool} (h : f n = true) : byF (n + 1) f (n / 8) = byF n f (n / 8) + 128 / 2 ^ (n % 8) := by
  have e : ∀ j w, bv (n + 1) f (8 * (n / 8) + j) w = bv n f (8 * (n / 8) + j) w + if j = n % 8 then w else 0 := fun j w => by
    by_cases hj : j = n % 8
    · rw [bv_here (by omega), bv_not (by omega), if_pos h, if_pos hj]; omega
    · rw [bv_next (by omega), if_neg hj]; omega
  have e0 : ∀ w, bv (n + 1) f (8 * (n / 8)) w = bv n f (8 * (n / 8)) w + if 0 = n % 8 then w else 0 := e 0
  unfold byF
  rw [e0, e, e, e, e, e, e, e]
  have h8 : n % 8 < 8 := Nat.mod_lt _ (by decide)
  obtain ⟨r, hr⟩ : ∃ r, n % 8 = r := ⟨_, rfl⟩
  rw [hr] at h8 ⊢
  match r, h8 with
  | 0, _ => simp; omega
  | 1, _ => simp; omega
  | 2, _ => simp; omega
  | 3, _ => simp; omega
  | 4, _ => simp; omega
  | 5, _ => simp; omega
  | 6, _ => simp; omega
  | 7, _ => simp; omega
theorem bv_cases (n : Nat) (f : Nat → Bool) (p : Nat) (w : Int) : bv n f p w = if (decide (p < n) && f p) then w else 0 := by
  unfold bv
  by_cases h : p < n <;> simp [h]
theorem byF_lt (n : Nat) (f : Nat → Bool) (i : Nat) : 0 ≤ byF n f i ∧ byF n f i ≤ 255 := by
  have h : ∀ p w, 0 ≤ w → 0 ≤ bv n f p w ∧ bv n f p w ≤ w := fun p w hw => by unfold bv; split <;> omega
  unfold byF
  have := h (8 * i) 128 (by decide)
  have := h (8 * i + 1) 64 (by decide)
  have := h (8 * i + 2) 32 (by decide)
  have := h (8 * i + 3) 16 (by decide)
  have := h (8 * i + 4) 8 (by decide)
  have := h (8 * i + 5) 4 (by decide)
  have := h (8 * i + 6) 2 (by decide)
  have := h (8 * i + 7) 1 (by decide)
  omega
theorem pkL_bytes (n : Nat) (f : Nat → Bool) : U8s (pkL n f) := by
  intro x hx
  unfold pkL at hx
  obtain ⟨i, _, rfl⟩ := List.mem_map.1 hx
  exact byF_lt n f i
theorem pkL_congr {n : Nat} {f g : Nat → Bool} (h : ∀ k, k < n → f k = g k) : pkL n f = pkL n g := by
  have e : ∀ p w, bv n f p w = bv n g p w := fun p w => by
    unfold bv
    by_cases hp : p < n
    · rw [h p hp]
    · rw [if_neg (by omega), if_neg (by omega)]
  unfold pkL
  refine List.map_congr_left fun i _ => ?_
  unfold byF
  simp only [e]
/-- A bit of a number, of bytes. -/
def bt (n : Int) (k : Nat) : Bool := decide (n / 2 ^ k % 2 = 1)
def fB (b : List Int) (p : Nat) : Bool := bt (b.getD (p / 8) 0) (7 - p % 8)
def sum8 (a b c d e f g h : Bool) : Int := (if a then 128 else 0) + (if b then 64 else 0) + (if c then 32 else 0) + (if d then 16 else 0) + (if e then 8 else 0) + (if f then 4 else 0) + (if g then 2 else 0) + (if h then 1 else 0)
theorem sum8_bits : ∀ a b c d e f g h : Bool, bt (sum8 a b c d e f g h) 7 = a ∧ bt (sum8 a b c d e f g h) 6 = b ∧ bt (sum8 a b c d e f g h) 5 = c ∧ bt (sum8 a b c d e f g h) 4 = d ∧
    bt (sum8 a b c d e f g h) 3 = e ∧ bt (sum8 a b c d e f g h) 2 = f ∧ bt (sum8 a b c d e f g h) 1 = g ∧ bt (sum8 a b c d e f g h) 0 = h := by decide +kernel
theorem sum8_of : ∀ x : Fin 256, sum8 (bt (x.val : Int) 7) (bt (x.val : Int) 6) (bt (x.val : Int) 5) (bt (x.val : Int) 4) (bt (x.val : Int) 3) (bt (x.val : Int) 2) (bt (x.val : Int) 1) (bt (x.val : Int) 0) = (x.val : Int) := by decide +kernel
theorem byF_sum (n : Nat) (f : Nat → Bool) (i : Nat) : byF n f i = sum8 (decide (8 * i < n) && f (8 * i)) (decide (8 * i + 1 < n) && f (8 * i + 1)) (decide (8 * i + 2 < n) && f (8 * i + 2)) (decide (8 * i + 3 < n) && f (8 * i + 3))
    (decide (8 * i + 4 < n) && f (8 * i + 4)) (decide (8 * i + 5 < n) && f (8 * i + 5)) (decide (8 * i + 6 < n) && f (8 * i + 6)) (decide (8 * i + 7 < n) && f (8 * i + 7)) := by
  unfold byF sum8
  simp only [bv_cases]
theorem byF_bit (n : Nat) (f : Nat → Bool) (i j : Nat) (hj : j < 8) : bt (byF n f i) (7 - j) = (decide (8 * i + j < n) && f (8 * i + j)) := by
  rw [byF_sum]
  obtain ⟨h0, h1, h2, h3, h4, h5, h6, h7⟩ := sum8_bits (decide (8 * i < n) && f (8 * i)) (decide (8 * i + 1 < n) && f (8 * i + 1)) (decide (8 * i + 2 < n) && f (8 * i + 2)) (decide (8 * i + 3 < n) && f (8 * i + 3))
    (decide (8 * i + 4 < n) && f (8 * i + 4)) (decide (8 * i + 5 < n) && f (8 * i + 5)) (decide (8 * i + 6 < n) && f (8 * i + 6)) (decide (8 * i + 7 < n) && f (8 * i + 7))
  match j, hj with
  | 0, _ => exact h0
  | 1, _ => exact h1
  | 2, _ => exact h2
  | 3, _ => exact h3
  | 4, _ => exact h4
  | 5, _ => exact h5
  | 6, _ => exact h6
  | 7, _ => exact h7
/-- What was packed, bit by bit. -/
theorem fB_pkL {n p : Nat} (f : Nat → Bool) (h : p / 8 < (n + 7) / 8) : fB (pkL n f) p = (decide (p < n) && f p) := by
  unfold fB
  rw [List.getD_eq_getElem?_getD, pkL_at f h, Option.getD_some, byF_bit n f (p / 8) (p % 8) (Nat.mod_lt _ (by decide)), show 8 * (p / 8) + p % 8 = p by omega]
/-- Bytes, packed from their own bits. -/
theorem pkL_fB {n : Nat} {b : List Int} (ub : U8s b) (hl : b.length = (n + 7) / 8) (ht : ∀ p, n ≤ p → p < 8 * b.length → fB b p = false) : pkL n (fB b) = b := by
  apply List.ext_getElem?
  intro i
  by_cases hi : i < b.length
  · rw [pkL_at _ (by omega), List.getElem?_eq_getElem hi]
    congr 1
    rw [byF_sum]
    have hb := ub _ (List.getElem_mem hi)
    have e : ∀ j, j < 8 → (decide (8 * i + j < n) && fB b (8 * i + j)) = bt b[i] (7 - j) := fun j hj => by
      have h1 : fB b (8 * i + j) = bt b[i] (7 - j) := by
        unfold fB
        rw [show (8 * i + j) / 8 = i by omega, show (8 * i + j) % 8 = j by omega, List.getD_eq_getElem?_getD, List.getElem?_eq_getElem hi, Option.getD_some]
      by_cases hn : 8 * i + j < n
      · simp [hn, h1]
      · rw [← h1, ht (8 * i + j) (by omega) (by omega)]; simp
    have e0 := e 0 (by omega)
    rw [Nat.add_zero] at e0
    rw [e0, e 1 (by omega), e 2 (by omega), e 3 (by omega), e 4 (by omega), e 5 (by omega), e 6 (by omega), e 7 (by omega)]
    have h := sum8_of ⟨b[i].toNat, by omega⟩
    rw [show (((⟨b[i].toNat, by omega⟩ : Fin 256).val : Nat) : Int) = b[i] by simp; omega] at h
    exact h
  · rw [List.getElem?_eq_none (by rw [pkL_len]; omega), List.getElem?_eq_none (by omega)]
/-- A number of w bits, the highest first. -/
def nmF : Nat → (Nat → Bool) → Int
  | 0, _ => 0
  | w + 1, g => 2 * nmF w g + if g w then 1 else 0
theorem nmF_congr : ∀ {w : Nat} {f g : Nat → Bool}, (∀ k, k < w → f k = g k) → nmF w f = nmF w g
  | 0, _, _, _ => by rfl
  | w + 1, f, g, h => by rw [nmF, nmF, nmF_congr (fun k hk => h k (by omega)), h w (by omega)]
theorem nmF_lt : ∀ (w : Nat) (g : Nat → Bool), 0 ≤ nmF w g ∧ nmF w g < 2 ^ w
  | 0, _ => by simp [nmF]
  | w + 1, g => by
    have h := nmF_lt w g
    rw [nmF, Int.pow_succ]
    split <;> omega
theorem nmF_half (w : Nat) (g : Nat → Bool) : nmF (w + 1) g / 2 = nmF w g := by
  rw [nmF]
  split <;> omega
theorem nmF_up : ∀ (m w : Nat) (g : Nat → Bool), nmF (w + m) g / 2 ^ m = nmF w g
  | 0, w, g => by simp
  | m + 1, w, g => by
    rw [show w + (m + 1) = (w + m) + 1 by omega, Int.pow_succ, Int.mul_comm, ← Int.ediv_ediv_of_nonneg (by decide), nmF_half, nmF_up m]
theorem nmF_bit {w k : Nat} (g : Nat → Bool) (h : k < w) : bt (nmF w g) (w - 1 - k) = g k := by
  unfold bt
  have e : w = (k + 1) + (w - 1 - k) := by omega
  have h1 := nmF_up (w - 1 - k) (k + 1) g
  rw [← e] at h1
  rw [h1, nmF]
  cases g k <;> simp <;> omega
theorem nmF_of {n : Int} {w : Nat} (h0 : 0 ≤ n) (h1 : n < 2 ^ w) : nmF w (fun k => bt n (w - 1 - k)) = n := by
  have key : ∀ j, j ≤ w → nmF j (fun k => bt n (w - 1 - k)) = n / 2 ^ (w - j) := by
    intro j
    induction j with
    | zero =>
      intro _
      rw [nmF, Nat.sub_zero, Int.ediv_eq_zero_of_lt h0 h1]
    | succ j ih =>
      intro hj
      rw [nmF, ih (by omega)]
      have e : w - j = (w - (j + 1)) + 1 := by omega
      have h2 : n / 2 ^ (w - j) = n / 2 ^ (w - (j + 1)) / 2 := by
        rw [e, Int.pow_succ, Int.ediv_ediv_of_nonneg (Int.pow_nonneg (by decide))]
      rw [h2]
      unfold bt
      rw [show w - 1 - j = w - (j + 1) by omega]
      by_cases hb : n / 2 ^ (w - (j + 1)) % 2 = 1
      · simp only [hb, decide_true, if_true]; omega
      · simp only [hb, decide_false, Bool.false_eq_true, if_false]; omega
  have := key w (Nat.le_refl _)
  rw [Nat.sub_self] at this
  simpa using this
/-- A number's width. -/
def wdt (n : Int) : Nat := Lib.bitLen n.toNat
theorem bitLen_lt (k : Nat) : ∀ x : Nat, k ≤ 64 → x < 2 ^ 64 → (Lib.bitLen x ≤ k ↔ x < 2 ^ k) := by
  induction k with
  | zero =>
    intro x _ hx
    constructor
    · intro h
      by_cases h0 : x = 0
      · simp [h0]
      · rw [Lib.bitLen_half x h0 hx] at h; omega
    · intro h
      exact Lib.bitLen_le x 0 (by omega) h
  | succ k ih =>
    intro x hk hx
    by_cases h0 : x = 0
    · subst h0
      exact ⟨fun _ => Nat.pow_pos (by decide), fun h => Lib.bitLen_le 0 _ (by omega) h⟩
    · rw [Lib.bitLen_half x h0 hx]
      have := ih (x / 2) (by omega) (by omega)
      rw [Nat.pow_succ]
      omega
theorem wdt_le {n : Int} (hn : U64 n) {w : Nat} (hw : w ≤ 64) : wdt n ≤ w ↔ n < 2 ^ w := by
  unfold U64 at hn
  unfold wdt
  rw [bitLen_lt w n.toNat hw (by omega)]
  have : ((2 ^ w : Nat) : Int) = (2 : Int) ^ w := by norm_cast
  omega
end Go.Proofs.YtjkhdfncahhnoaaGreat
/- What plane's calls tell, and what follows. Plain mathematics. No program in sight. -/
namespace Go.Proofs.YtjkhdfncahhnoaaGreat
set_option maxRecDepth 100000
set_option linter.unusedVariables false
/-- How many bytes, and the error. -/
def bysE (w m : Int) : Int := if w < 0 ∨ 32 < w ∨ m < 0 then 1 else if 4096 < m then 3 else 0
def bysV (w m : Int) : Int := if bysE w m = 0 then (w * m + 7) / 8 else 0
theorem bys_ok {w m : Int} (h : bysE w m = 0) : (0 ≤ w ∧ w ≤ 32) ∧ 0 ≤ m ∧ m ≤ 4096 := by
  unfold bysE at h
  split at h
  · simp at h
  · split at h
    · simp at h
    · omega
theorem bys_nat {w m : Nat} (h : bysE w m = 0) : bysV w m = (((w * m + 7) / 8 : Nat) : Int) := by
  unfold bysV
  rw [if_pos h]
  rw [Int.natCast_ediv, Int.natCast_add, Int.natCast_mul]
  rfl
theorem bysE_cases (w m : Int) : bysE w m = 0 ∨ bysE w m = 1 ∨ bysE w m = 3 := by
  unfold bysE
  split
  · exact Or.inr (Or.inl rfl)
  · split
    · exact Or.inr (Or.inr rfl)
    · exact Or.inl rfl
/-- Whether numbers may be packed. -/
def fitsB (w : Int) (l : List Int) : Bool := l.all fun n => decide ((wdt n : Int) ≤ w)
def mayE (w : Int) (l : List Int) : Int := if bysE w l.length = 0 then (if fitsB w l = true then 0 else 1) else bysE w l.length
theorem mayE_ok {w : Int} {l : List Int} (h : mayE w l = 0) : bysE w l.length = 0 ∧ fitsB w l = true := by
  unfold mayE at h
  split at h
  · rename_i h1
    split at h
    · rename_i h2; exact ⟨h1, h2⟩
    · simp at h
  · rename_i h1; exact absurd h h1
theorem fitsB_iff {w : Nat} (hw : w ≤ 32) {l : List Int} (ul : U64s l) : fitsB w l = true ↔ ∀ n ∈ l, n < 2 ^ w := by
  unfold fitsB
  rw [List.all_eq_true]
  constructor
  · intro h n hn
    have := of_decide_eq_true (h n hn)
    exact (wdt_le (ul n hn) (by omega)).1 (by omega)
  · intro h n hn
    have := (wdt_le (ul n hn) (w := w) (by omega)).2 (h n hn)
    exact decide_eq_true (by omega)
/-- Where each bit goes: side by side, and in planes. -/
def sdF (w : Nat) (l : List Int) (p : Nat) : Bool := bt (l.getD (p / w) 0) (w - 1 - p % w)
def plF (w : Nat) (l : List Int) (p : Nat) : Bool := bt (l.getD (p % l.length) 0) (w - 1 - p / l.length)
def pckV (w : Int) (l : List Int) : List Int := if mayE w l = 0 then pkL (w.toNat * l.length) (sdF w.toNat l) else []
def wevV (w : Int) (l : List Int) : List Int := if mayE w l = 0 then pkL (w.toNat * l.length) (plF w.toNat l) else []
/-- Is what is left of the last byte 0? -/
def tlB (n : Nat) (b : List Int) : Bool := (List.range (8 * b.length - n)).all fun j => !fB b (n + j)
def bitE (w m : Int) (b : List Int) : Int := if bysE w m = 0 then (if (b.length : Int) = bysV w m then (if tlB (w.toNat * m.toNat) b = true then 0 else 6) else 4) else bysE w m
def bitV (w m : Int) (b : List Int) : List Bool := if bitE w m b = 0 then mkB (w.toNat * m.toNat) (fB b) else []
def upkV (w m : Int) (b : List Int) : List Int := if bitE w m b = 0 then (List.range m.toNat).map (fun i => nmF w.toNat fun k => fB b (i * w.toNat + k)) else []
def uwvV (w m : Int) (b : List Int) : List Int := if bitE w m b = 0 then (List.range m.toNat).map (fun i => nmF w.toNat fun k => fB b (k * m.toNat + i)) else []
/-- Signs. -/
def sgnE (l : List Bool) : Int := if 4096 < l.length then 3 else 0
def sgnV (l : List Bool) : List Int := if 4096 < l.length then [] else pkL l.length fun p => l.getD p false
theorem tlB_iff (n : Nat) (b : List Int) : tlB n b = true ↔ ∀ p, n ≤ p → p < 8 * b.length → fB b p = false := by
  unfold tlB
  rw [List.all_eq_true]
  constructor
  · intro h p h1 h2
    have := h (p - n) (List.mem_range.2 (by omega))
    rw [show n + (p - n) = p by omega] at this
    simpa using this
  · intro h j hj
    have hj := List.mem_range.1 hj
    rw [h (n + j) (by omega) (by omega)]
    rfl
theorem bitE_ok {w m : Int} {b : List Int} (h : bitE w m b = 0) : bysE w m = 0 ∧ (b.length : Int) = bysV w m ∧ ∀ p, w.toNat * m.toNat ≤ p → p < 8 * b.length → fB b p = false := by
  unfold bitE at h
  split at h
  · rename_i h1
    split at h
    · rename_i h2
      split at h
      · rename_i h3; exact ⟨h1, h2, (tlB_iff _ _).1 h3⟩
      · simp at h
    · simp at h
  · rename_i h1; exact absurd h h1
/-- What was packed reads well. -/
theorem bitE_pkL {w m : Nat} (f : Nat → Bool) (h : bysE w m = 0) : bitE w m (pkL (w * m) f) = 0 := by
  unfold bitE
  rw [if_pos h, if_pos (by rw [pkL_len, bys_nat h]), if_pos]
  rw [tlB_iff, pkL_len]
  intro p h1 h2
  rw [Int.toNat_natCast, Int.toNat_natCast] at h1
  rw [fB_pkL f (by omega)]
  simp
  omega
theorem sd_at {w : Nat} {l : List Int} {i k : Nat} (hk : k < w) : sdF w l (i * w + k) = bt (l.getD i 0) (w - 1 - k) := by
  unfold sdF
  have h1 : (i * w + k) / w = i := by rw [Nat.mul_comm, Nat.mul_add_div (by omega), Nat.div_eq_of_lt hk, Nat.add_zero]
  have h2 : (i * w + k) % w = k := by rw [Nat.mul_comm, Nat.mul_add_mod, Nat.mod_eq_of_lt hk]
  rw [h1, h2]
theorem pl_at {w : Nat} {l : List Int} {i k : Nat} (hi : i < l.length) : plF w l (k * l.length + i) = bt (l.getD i 0) (w - 1 - k) := by
  unfold plF
  have h1 : (k * l.length + i) / l.length = k := by rw [Nat.mul_comm, Nat.mul_add_div (by omega), Nat.div_eq_of_lt hi, Nat.add_zero]
  have h2 : (k * l.length + i) % l.length = i := by rw [Nat.mul_comm, Nat.mul_add_mod, Nat.mod_eq_of_lt hi]
  rw [h1, h2]
theorem place_lt {w m i k : Nat} (hi : i < m) (hk : k < w) : i * w + k < w * m := by
  have : (i + 1) * w ≤ m * w := Nat.mul_le_mul_right w (by omega)
  rw [Nat.add_mul, Nat.one_mul] at this
  rw [Nat.mul_comm w m]
  omega
theorem fB_in {n p : Nat} (f : Nat → Bool) (h : p < n) : fB (pkL n f) p = f p := by
  rw [fB_pkL f (by omega)]
  simp [h]
theorem numbers_back {w : Nat} {l : List Int} (h0 : ∀ n ∈ l, 0 ≤ n ∧ n < 2 ^ w) {g : Nat → Nat → Bool} (hg : ∀ i k, i < l.length → k < w → g i k = bt (l.getD i 0) (w - 1 - k)) :
    (List.range l.length).map (fun i => nmF w fun k => g i k) = l := by
  apply List.ext_getElem?
  intro i
  by_cases hi : i < l.length
  · rw [List.getElem?_map, List.getElem?_range hi, Option.map_some, List.getElem?_eq_getElem hi]
    congr 1
    have h := h0 _ (List.getElem_mem hi)
    rw [nmF_congr (fun k hk => hg i k hi hk), List.getD_eq_getElem?_getD, List.getElem?_eq_getElem hi, Option.getD_some]
    exact nmF_of h.1 h.2
  · rw [List.getElem?_eq_none (by simp; omega), List.getElem?_eq_none (by omega)]
theorem may_nat {w : Int} {l : List Int} (h : mayE w l = 0) (ul : U64s l) : ∃ k : Nat, w = k ∧ k ≤ 32 ∧ bysE (k : Int) (l.length : Int) = 0 ∧ (∀ n ∈ l, 0 ≤ n ∧ n < 2 ^ k) := by
  obtain ⟨h1, h2⟩ := mayE_ok h
  have hb := bys_ok h1
  obtain ⟨k, rfl⟩ := Int.eq_ofNat_of_zero_le hb.1.1
  have hk : k ≤ 32 := by omega
  exact ⟨k, rfl, hk, h1, fun n hn => ⟨(ul n hn).1, (fitsB_iff hk ul).1 h2 n hn⟩⟩
theorem upk_pck {w : Int} {l : List Int} (h : mayE w l = 0) (ul : U64s l) : bitE w l.length (pckV w l) = 0 ∧ upkV w l.length (pckV w l) = l := by
  obtain ⟨k, rfl, hk, h1, h2⟩ := may_nat h ul
  unfold pckV upkV
  rw [if_pos h, Int.toNat_natCast, if_pos (bitE_pkL _ h1)]
  refine ⟨bitE_pkL _ h1, ?_⟩
  rw [Int.toNat_natCast]
  exact numbers_back h2 fun i j hi hj => by rw [fB_in _ (place_lt hi hj), sd_at hj]
theorem uwv_wev {w : Int} {l : List Int} (h : mayE w l = 0) (ul : U64s l) : bitE w l.length (wevV w l) = 0 ∧ uwvV w l.length (wevV w l) = l := by
  obtain ⟨k, rfl, hk, h1, h2⟩ := may_nat h ul
  unfold wevV uwvV
  rw [if_pos h, Int.toNat_natCast, if_pos (bitE_pkL _ h1)]
  refine ⟨bitE_pkL _ h1, ?_⟩
  rw [Int.toNat_natCast]
  exact numbers_back h2 fun i j hi hj => by
    have := place_lt (w := l.length) (m := k) hj hi
    rw [Nat.mul_comm l.length k] at this
    rw [fB_in _ this, pl_at hi]
theorem read_sgn {l : List Bool} (h : l.length ≤ 4096) : bitE 1 l.length (sgnV l) = 0 ∧ bitV 1 l.length (sgnV l) = l := by
  have h1 : bysE (1 : Nat) (l.length : Nat) = 0 := by unfold bysE; rw [if_neg (by omega), if_neg (by omega)]
  have h2 := bitE_pkL (w := 1) (m := l.length) (fun p => l.getD p false) h1
  rw [Nat.one_mul] at h2
  have h2 : bitE 1 l.length (pkL l.length fun p => l.getD p false) = 0 := h2
  unfold sgnV bitV
  rw [if_neg (by omega), if_pos h2]
  refine ⟨h2, ?_⟩
  rw [show (1 : Int).toNat = 1 from rfl, Int.toNat_natCast, Nat.one_mul]
  apply List.ext_getElem?
  intro i
  by_cases hi : i < l.length
  · rw [mkB_at _ hi, fB_in _ hi, List.getD_eq_getElem?_getD, List.getElem?_eq_getElem hi, Option.getD_some]
  · rw [List.getElem?_eq_none (by rw [mkB_len]; omega), List.getElem?_eq_none (by omega)]
theorem upk_len {w m : Int} {b : List Int} (h : bitE w m b = 0) : ((upkV w m b).length : Int) = m := by
  have := bys_ok (bitE_ok h).1
  unfold upkV
  rw [if_pos h]
  simp
  omega
theorem uwv_len {w m : Int} {b : List Int} (h : bitE w m b = 0) : ((uwvV w m b).length : Int) = m := by
  have := bys_ok (bitE_ok h).1
  unfold uwvV
  rw [if_pos h]
  simp
  omega
theorem range_getD {m i : Nat} (g : Nat → Int) (h : i < m) : ((List.range m).map g).getD i 0 = g i := by
  rw [List.getD_eq_getElem?_getD, List.getElem?_map, List.getElem?_range h]; rfl
theorem numbers_u64 {k m : Nat} (hk : k ≤ 32) (g : Nat → Nat → Bool) : (∀ n ∈ (List.range m).map (fun i => nmF k (g i)), 0 ≤ n ∧ n < 2 ^ k) ∧ U64s ((List.range m).map (fun i => nmF k (g i))) := by
  have key : ∀ n ∈ (List.range m).map (fun i => nmF k (g i)), 0 ≤ n ∧ n < 2 ^ k := fun n hn => by
    obtain ⟨i, _, rfl⟩ := List.mem_map.1 hn
    exact nmF_lt k _
  refine ⟨key, fun n hn => ?_⟩
  have h := key n hn
  have h2 : (2 : Int) ^ k ≤ 2 ^ 32 := by
    have := Nat.pow_le_pow_right (show 0 < 2 by decide) hk
    exact_mod_cast this
  unfold U64
  have h3 : (2 : Int) ^ 32 = 4294967296 := by decide
  omega
theorem may_numbers {k m : Nat} (hk : k ≤ 32) (h : bysE k m = 0) (g : Nat → Nat → Bool) : mayE k ((List.range m).map (fun i => nmF k (g i))) = 0 := by
  unfold mayE
  have hl : ((List.range m).map (fun i => nmF k (g i))).length = m := by simp
  rw [hl, if_pos h, if_pos]
  rw [fitsB_iff hk (numbers_u64 hk g).2]
  exact fun n hn => ((numbers_u64 hk g).1 n hn).2
theorem pck_upk {w m : Int} {b : List Int} (ub : U8s b) (h : bitE w m b = 0) : mayE w (upkV w m b) = 0 ∧ pckV w (upkV w m b) = b := by
  obtain ⟨h1, h2, h3⟩ := bitE_ok h
  have hb := bys_ok h1
  obtain ⟨k, rfl⟩ := Int.eq_ofNat_of_zero_le hb.1.1
  obtain ⟨m, rfl⟩ := Int.eq_ofNat_of_zero_le hb.2.1
  have hm : mayE (k : Int) (upkV k m b) = 0 := by
    unfold upkV
    rw [if_pos h, Int.toNat_natCast, Int.toNat_natCast]
    exact may_numbers (by omega) h1 _
  refine ⟨hm, ?_⟩
  unfold pckV
  rw [if_pos hm]
  unfold upkV
  rw [if_pos h]
  simp only [Int.toNat_natCast, List.length_map, List.length_range] at h3 ⊢
  rw [bys_nat h1] at h2
  have e : pkL (k * m) (sdF k ((List.range m).map fun i => nmF k fun j => fB b (i * k + j))) = pkL (k * m) (fB b) := pkL_congr fun p hp => by
    have hk0 : 0 < k := Nat.pos_of_ne_zero (by rintro rfl; simp at hp)
    have hi : p / k < m := Nat.div_lt_of_lt_mul hp
    have hj := Nat.mod_lt p hk0
    unfold sdF
    rw [range_getD _ hi, nmF_bit _ hj]
    congr 1
    rw [Nat.mul_comm]; exact Nat.div_add_mod p k
  rw [e]
  exact pkL_fB ub (by omega) h3
theorem wev_uwv {w m : Int} {b : List Int} (ub : U8s b) (h : bitE w m b = 0) : mayE w (uwvV w m b) = 0 ∧ wevV w (uwvV w m b) = b := by
  obtain ⟨h1, h2, h3⟩ := bitE_ok h
  have hb := bys_ok h1
  obtain ⟨k, rfl⟩ := Int.eq_ofNat_of_zero_le hb.1.1
  obtain ⟨m, rfl⟩ := Int.eq_ofNat_of_zero_le hb.2.1
  have hm : mayE (k : Int) (uwvV k m b) = 0 := by
    unfold uwvV
    rw [if_pos h, Int.toNat_natCast, Int.toNat_natCast]
    exact may_numbers (by omega) h1 _
  refine ⟨hm, ?_⟩
  unfold wevV
  rw [if_pos hm]
  unfold uwvV
  rw [if_pos h]
  simp only [Int.toNat_natCast, List.length_map, List.length_range] at h3 ⊢
  rw [bys_nat h1] at h2
  have e : pkL (k * m) (plF k ((List.range m).map fun i => nmF k fun j => fB b (j * m + i))) = pkL (k * m) (fB b) := pkL_congr fun p hp => by
    have hm0 : 0 < m := Nat.pos_of_ne_zero (by rintro rfl; simp at hp)
    have hj : p / m < k := Nat.div_lt_of_lt_mul (by rw [Nat.mul_comm]; exact hp)
    have hi := Nat.mod_lt p hm0
    unfold plF
    simp only [List.length_map, List.length_range]
    rw [range_getD _ hi, nmF_bit _ hj]
    congr 1
    rw [Nat.mul_comm]; exact Nat.div_add_mod p m
  rw [e]
  exact pkL_fB ub (by omega) h3
/-- Of width 1, and of width 0, both ways are the same. -/
theorem upk_uwv {w m : Int} {b : List Int} (h : bitE w m b = 0) (hw : w ≤ 1) : upkV w m b = uwvV w m b := by
  have hb := bys_ok (bitE_ok h).1
  unfold upkV uwvV
  rw [if_pos h, if_pos h]
  refine List.map_congr_left fun i _ => nmF_congr fun k hk => ?_
  have h1 : w.toNat = 1 := by omega
  have h2 : k = 0 := by omega
  rw [h1, h2]
  simp
theorem may_same (w : Int) (l : List Int) : (mayE w l ≠ 0 → pckV w l = [] ∧ wevV w l = []) ∧ (mayE w l = 0 → (pckV w l).length = (w.toNat * l.length + 7) / 8 ∧ (wevV w l).length = (w.toNat * l.length + 7) / 8) := by
  unfold pckV wevV
  constructor
  · intro h; rw [if_neg h, if_neg h]; exact ⟨rfl, rfl⟩
  · intro h; rw [if_pos h, if_pos h, pkL_len, pkL_len]; exact ⟨rfl, rfl⟩
theorem pckV_bytes (w : Int) (l : List Int) : U8s (pckV w l) := by
  unfold pckV
  split
  · exact pkL_bytes _ _
  · intro x hx; simp at hx
theorem wevV_bytes (w : Int) (l : List Int) : U8s (wevV w l) := by
  unfold wevV
  split
  · exact pkL_bytes _ _
  · intro x hx; simp at hx
theorem sgnV_bytes (l : List Bool) : U8s (sgnV l) := by
  unfold sgnV
  split
  · intro x hx; simp at hx
  · exact pkL_bytes _ _
theorem upkV_u64 {w m : Int} (b : List Int) : U64s (upkV w m b) := by
  unfold upkV
  split
  · rename_i h
    have hb := bys_ok (bitE_ok h).1
    exact (numbers_u64 (by omega) _).2
  · intro x hx; simp at hx
theorem uwvV_u64 {w m : Int} (b : List Int) : U64s (uwvV w m b) := by
  unfold uwvV
  split
  · rename_i h
    have hb := bys_ok (bitE_ok h).1
    exact (numbers_u64 (by omega) _).2
  · intro x hx; simp at hx
end Go.Proofs.YtjkhdfncahhnoaaGreat
