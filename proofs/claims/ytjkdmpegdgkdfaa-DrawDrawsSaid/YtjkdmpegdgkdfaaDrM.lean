
/- Draws: 64 bits that are blended and finished; orders by changes of places. Plain mathematics on numbers. No program in sight. -/
import Derived.Test.YtjkdmpegdgkdfaaMath
namespace Go.Proofs.Ytjkdmpegdgkdfaa
set_option maxRecDepth 100000
set_option linter.unusedVariables false
/-- A product that goes around in 64 bits. -/
def mulK (a m : Nat) : Nat := a * m % 18446744073709551616
/-- Turned by itself halved so many times. -/
def tsf (s y : Nat) : Nat := y ^^^ y / 2 ^ s
/-- A number as 64 bits. -/
def uN (k : Int) : Nat := (k % 18446744073709551616).toNat
theorem uN_lt (k : Int) : uN k < 2 ^ 64 := by unfold uN; omega
theorem uN_int (k : Int) : (uN k : Int) = k % 18446744073709551616 := by unfold uN; omega
theorem mulK_lt (a m : Nat) : mulK a m < 2 ^ 64 := by unfold mulK; omega
theorem tsf_lt {s y : Nat} (h : y < 2 ^ 64) : tsf s y < 2 ^ 64 := Nat.xor_lt_two_pow h (Nat.lt_of_le_of_lt (Nat.div_le_self _ _) h)
/-- What one number makes of what there is; what several do; the end. -/
def stp (x : Nat) (k : Int) : Nat := tsf 29 (mulK (x ^^^ uN k) 11400714819323198485)
def blN : Nat → List Int → Nat
  | x, [] => x
  | x, k :: n => blN (stp x k) n
def finN (x : Nat) : Nat := tsf 32 (mulK x 13787848793156543929)
/-- The draw. -/
def atN (s : Nat) (n : List Int) : Nat := finN (blN s n)
theorem stp_lt (x : Nat) (k : Int) : stp x k < 2 ^ 64 := tsf_lt (mulK_lt _ _)
theorem blN_lt : ∀ (n : List Int) {x : Nat}, x < 2 ^ 64 → blN x n < 2 ^ 64
  | [], _, h => h
  | k :: n, _, _ => blN_lt n (stp_lt _ _)
theorem finN_lt (x : Nat) : finN x < 2 ^ 64 := tsf_lt (mulK_lt _ _)
theorem atN_lt (s : Nat) (n : List Int) : atN s n < 2 ^ 64 := finN_lt _
theorem blN_nil (s : Nat) : blN s [] = s := by rfl
theorem blN_app : ∀ (a : List Int) (s : Nat) (b : List Int), blN s (a ++ b) = blN (blN s a) b
  | [], _, _ => rfl
  | k :: a, s, b => by rw [List.cons_append]; exact blN_app a (stp s k) b
theorem blN_one (s : Nat) (k : Int) : blN s [k] = stp s k := by rfl
theorem blN_step {l : List Int} {k : Nat} {x : Int} (s : Nat) (h : l[k]? = some x) : blN s (l.take (k + 1)) = stp (blN s (l.take k)) x := by
  rw [List.take_add_one, h, blN_app]
  exact blN_one _ x
theorem atN_one (s : Nat) (n : List Int) (k : Int) : atN (blN s n) [k] = atN s (n ++ [k]) := by
  unfold atN
  rw [blN_app]
theorem dr_xor0 {a b : Nat} (h : a ^^^ b = 0) : a = b := by
  have := congrArg (· ^^^ b) h
  simpa [Nat.xor_assoc] using this
theorem tsf_inj {s y z : Nat} (hs : 0 < s) (h : tsf s y = tsf s z) : y = z := by
  unfold tsf at h
  have e : (y ^^^ z) ^^^ (y ^^^ z) / 2 ^ s = 0 := by
    rw [Nat.xor_div_two_pow (n := s)]
    have h2 : (y ^^^ z) ^^^ (y / 2 ^ s ^^^ z / 2 ^ s) = (y ^^^ y / 2 ^ s) ^^^ (z ^^^ z / 2 ^ s) := by
      rw [Nat.xor_assoc, Nat.xor_assoc]
      congr 1
      rw [← Nat.xor_assoc, ← Nat.xor_assoc, Nat.xor_comm z]
    rw [h2, h, Nat.xor_self]
  have e2 := dr_xor0 e
  refine dr_xor0 ?_
  rcases Nat.eq_zero_or_pos (y ^^^ z) with h0 | h0
  · exact h0
  · have hp : 1 < 2 ^ s := Nat.one_lt_two_pow (by omega)
    have := Nat.div_lt_self h0 hp
    omega
theorem mulK_inj {a b m i : Nat} (hm : m * i % 18446744073709551616 = 1) (ha : a < 2 ^ 64) (hb : b < 2 ^ 64) (h : mulK a m = mulK b m) : a = b := by
  have key : ∀ x, x < 2 ^ 64 → mulK x m * i % 18446744073709551616 = x := fun x hx => by
    unfold mulK
    rw [Nat.mod_mul_mod, Nat.mul_assoc, Nat.mul_mod, hm, Nat.mul_one, Nat.mod_mod]
    omega
  rw [← key a ha, ← key b hb, h]
theorem uN_inj {i k : Int} (hi : I64 i) (hk : I64 k) (h : uN i = uN k) : i = k := by
  unfold I64 at hi hk
  have h1 := uN_int i
  have h2 := uN_int k
  omega
theorem xor_cancel {a b t : Nat} (h : a ^^^ t = b ^^^ t) : a = b := by
  have := congrArg (· ^^^ t) h
  simpa [Nat.xor_assoc] using this
theorem xor_cancel' {a b t : Nat} (h : t ^^^ a = t ^^^ b) : a = b := by
  rw [Nat.xor_comm t, Nat.xor_comm t] at h
  exact xor_cancel h
theorem inv1 : 11400714819323198485 * 17428512612931826493 % 18446744073709551616 = 1 := by decide
theorem inv2 : 13787848793156543929 * 10871156337175269513 % 18446744073709551616 = 1 := by decide
theorem stp_inj {x y : Nat} {k : Int} (hx : x < 2 ^ 64) (hy : y < 2 ^ 64) (h : stp x k = stp y k) : x = y :=
  xor_cancel (mulK_inj inv1 (Nat.xor_lt_two_pow hx (uN_lt k)) (Nat.xor_lt_two_pow hy (uN_lt k)) (tsf_inj (by decide) h))
theorem stp_inj2 {x : Nat} {i k : Int} (hx : x < 2 ^ 64) (hi : I64 i) (hk : I64 k) (h : stp x i = stp x k) : i = k :=
  uN_inj hi hk (xor_cancel' (mulK_inj inv1 (Nat.xor_lt_two_pow hx (uN_lt i)) (Nat.xor_lt_two_pow hx (uN_lt k)) (tsf_inj (by decide) h)))
theorem finN_inj {x y : Nat} (hx : x < 2 ^ 64) (hy : y < 2 ^ 64) (h : finN x = finN y) : x = y := mulK_inj inv2 hx hy (tsf_inj (by decide) h)
theorem blN_inj : ∀ (n : List Int) {x y : Nat}, x < 2 ^ 64 → y < 2 ^ 64 → blN x n = blN y n → x = y
  | [], _, _, _, _, h => h
  | k :: n, _, _, hx, hy, h => stp_inj hx hy (blN_inj n (stp_lt _ _) (stp_lt _ _) h)
theorem atN_apart {a b : Nat} (n : List Int) (ha : a < 2 ^ 64) (hb : b < 2 ^ 64) (h : atN a n = atN b n) : a = b :=
  blN_inj n ha hb (finN_inj (blN_lt n ha) (blN_lt n hb) h)
theorem atN_last {a : Nat} (n : List Int) {i k : Int} (ha : a < 2 ^ 64) (hi : I64 i) (hk : I64 k) : atN a (n ++ [i]) = atN a (n ++ [k]) ↔ i = k := by
  constructor
  · intro h
    have h2 := finN_inj (blN_lt _ ha) (blN_lt _ ha) h
    rw [blN_app, blN_app, blN_one, blN_one] at h2
    exact stp_inj2 (blN_lt n ha) hi hk h2
  · rintro rfl; rfl
/-- Below, and whether it comes to be. -/
def belE (most : Nat) : Int := if most = 0 then 1 else 0
def belV (most s : Nat) (n : List Int) : Nat := if most = 0 then 0 else atN s n % most
def chaE (part whole : Nat) : Int := if whole = 0 ∨ whole < part then 1 else 0
def chaB (part whole s : Nat) (n : List Int) : Bool := if whole = 0 ∨ whole < part then false else decide (atN s n % whole < part)
/-- Two places changed. -/
def swF (g : Nat → Nat) (i j : Nat) : Nat → Nat := fun x => if x = j then g i else if x = i then g j else g x
/-- The changes of places, from i on down. -/
def shF (d : Nat → Nat) : Nat → (Nat → Nat) → Nat → Nat
  | 0, g => g
  | i + 1, g => shF d i (swF g (i + 1) (d (i + 1)))
/-- Each number below n once. -/
def PermN (n : Nat) (g : Nat → Nat) : Prop := (∀ x, x < n → g x < n) ∧ ∀ x y, x < n → y < n → g x = g y → x = y
theorem perm_id (n : Nat) : PermN n (fun x => x) := ⟨fun _ h => h, fun _ _ _ _ h => h⟩
theorem perm_swap {n i j : Nat} {g : Nat → Nat} (h : PermN n g) (hi : i < n) (hj : j < n) : PermN n (swF g i j) := by
  refine ⟨fun x hx => ?_, fun x y hx hy e => ?_⟩
  · unfold swF
    split
    · exact h.1 _ hi
    · split
      · exact h.1 _ hj
      · exact h.1 _ hx
  · unfold swF at e
    have key := h.2
    have key2 : ∀ x y, x < n → y < n → (g x = g y ↔ x = y) := fun x y hx hy => ⟨key x y hx hy, fun h => by rw [h]⟩
    have k1 := key2 _ _ hi hj
    have k2 := key2 _ _ hi hx
    have k3 := key2 _ _ hi hy
    have k4 := key2 _ _ hj hx
    have k5 := key2 _ _ hj hy
    have k6 := key2 _ _ hx hy
    split at e <;> split at e <;> (try split at e) <;> (try split at e) <;> omega
theorem perm_shF {n : Nat} {d : Nat → Nat} (hd : ∀ i, d i ≤ i) : ∀ (i : Nat) {g : Nat → Nat}, i < n → PermN n g → PermN n (shF d i g)
  | 0, _, _, h => h
  | i + 1, _, hi, h => perm_shF hd i (by omega) (perm_swap h hi (by have := hd (i + 1); omega))
/-- Where the i-th goes. -/
def plN (s : Nat) (n : List Int) (i : Nat) : Nat := atN s (n ++ [(i : Int)]) % (i + 1)
theorem plN_le (s : Nat) (n : List Int) (i : Nat) : plN s n i ≤ i := by
  have := Nat.mod_lt (atN s (n ++ [(i : Int)])) (show 0 < i + 1 by omega)
  unfold plN
  omega
/-- The order, as a function; as a list; its error. -/
def orF (many : Nat) (s : Nat) (n : List Int) : Nat → Nat := shF (plN s n) (many - 1) fun x => x
def ordE (many : Int) : Int := if many < 0 then 1 else if 4096 < many then 3 else 0
def ordV (many : Int) (s : Nat) (n : List Int) : List Int := if ordE many = 0 then (List.range many.toNat).map fun j => (orF many.toNat s n j : Int) else []
theorem orF_perm (many s : Nat) (n : List Int) : PermN many (orF many s n) := by
  rcases Nat.eq_zero_or_pos many with h | h
  · subst h
    exact ⟨fun x hx => by omega, fun x y hx => by omega⟩
  · exact perm_shF (plN_le s n) (many - 1) (by omega) (perm_id many)
theorem ordE_ok {many : Int} : ordE many = 0 ↔ 0 ≤ many ∧ many ≤ 4096 := by unfold ordE; (split; omega); (split <;> omega)
theorem ordV_len {many : Int} (h : ordE many = 0) (s : Nat) (n : List Int) : (ordV many s n).length = many.toNat := by unfold ordV; rw [if_pos h]; simp
theorem ordV_at {many : Int} (h : ordE many = 0) (s : Nat) (n : List Int) {k : Nat} (hk : k < many.toNat) : (ordV many s n)[k]? = some (orF many.toNat s n k : Int) := by
  unfold ordV
  rw [if_pos h]
  simp [hk]
/-- So many of them. -/
def picE (many of : Int) : Int := if many < 0 ∨ of < many then 1 else ordE of
def picV (many of : Int) (s : Nat) (n : List Int) : List Int := if picE many of = 0 then (ordV of s n).take many.toNat else []
theorem picE_ok {many of : Int} : picE many of = 0 ↔ 0 ≤ many ∧ many ≤ of ∧ ordE of = 0 := by unfold picE; split <;> omega
theorem picV_len {many of : Int} (h : picE many of = 0) (s : Nat) (n : List Int) : (picV many of s n).length = many.toNat := by
  have h2 := picE_ok.1 h
  unfold picV
  rw [if_pos h, List.length_take, ordV_len h2.2.2]
  omega
end Go.Proofs.Ytjkdmpegdgkdfaa
