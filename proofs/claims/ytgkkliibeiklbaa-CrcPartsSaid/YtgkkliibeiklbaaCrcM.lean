
/- A text's sum: a register of 32 bits, halved and turned; bursts. Plain mathematics on numbers. No program in sight. -/
import Derived.Test.YtgkkliibeiklbaaMath
namespace Go.Proofs.Ytgkkliibeiklbaa
set_option linter.unusedVariables false
/-- What a register is turned by whose bit that fell out was 1. -/
def tnr : Nat := 3988292384
/-- A register halved. -/
def hs (r : Nat) : Nat := if r % 2 = 1 then r / 2 ^^^ tnr else r / 2
/-- .. so many times. -/
def hn : Nat → Nat → Nat
  | 0, r => r
  | n + 1, r => hn n (hs r)
theorem hs_lt {r : Nat} (h : r < 2 ^ 32) : hs r < 2 ^ 32 := by
  unfold hs
  split
  · exact Nat.xor_lt_two_pow (by omega) (by decide)
  · omega
theorem hn_lt : ∀ (n : Nat) {r : Nat}, r < 2 ^ 32 → hn n r < 2 ^ 32
  | 0, _, h => h
  | n + 1, _, h => hn_lt n (hs_lt h)
theorem hs_zero : hs 0 = 0 := by rfl
theorem hn_zero : ∀ n, hn n 0 = 0
  | 0 => rfl
  | n + 1 => by rw [hn, hs_zero, hn_zero]
theorem xor4 (a b t : Nat) : (a ^^^ t) ^^^ (b ^^^ t) = a ^^^ b := by
  rw [Nat.xor_assoc, Nat.xor_comm b t, ← Nat.xor_assoc t, Nat.xor_self, Nat.zero_xor]
theorem hs_xor (a b : Nat) : hs (a ^^^ b) = hs a ^^^ hs b := by
  have hm : (a ^^^ b) % 2 = 1 ↔ ¬ ((a % 2 = 1) ↔ (b % 2 = 1)) := Nat.xor_mod_two_eq_one
  unfold hs
  rw [Nat.xor_div_two]
  by_cases ha : a % 2 = 1 <;> by_cases hb : b % 2 = 1
  · rw [if_neg (by rw [hm]; simp [ha, hb]), if_pos ha, if_pos hb, xor4]
  · rw [if_pos (by rw [hm]; simp [ha, hb]), if_pos ha, if_neg hb, Nat.xor_assoc, Nat.xor_comm _ tnr, ← Nat.xor_assoc]
  · rw [if_pos (by rw [hm]; simp [ha, hb]), if_neg ha, if_pos hb, Nat.xor_assoc]
  · rw [if_neg (by rw [hm]; simp [ha, hb]), if_neg ha, if_neg hb]
theorem hn_xor : ∀ (n a b : Nat), hn n (a ^^^ b) = hn n a ^^^ hn n b
  | 0, _, _ => rfl
  | n + 1, a, b => by rw [hn, hs_xor, hn_xor n, hn, hn]
theorem hn_add : ∀ (m n r : Nat), hn (m + n) r = hn n (hn m r)
  | 0, n, r => by rw [Nat.zero_add]; rfl
  | m + 1, n, r => by rw [show m + 1 + n = (m + n) + 1 by omega, hn, hn_add m n, hn]
theorem eq_of_xor {a b : Nat} (h : a ^^^ b = 0) : a = b := by
  have := congrArg (· ^^^ b) h
  simpa [Nat.xor_assoc] using this
theorem hs_inj {r : Nat} (h : r < 2 ^ 32) (h0 : hs r = 0) : r = 0 := by
  unfold hs at h0
  split at h0
  · have := eq_of_xor h0
    unfold tnr at this
    omega
  · omega
theorem hn_inj : ∀ (n : Nat) {r : Nat}, r < 2 ^ 32 → hn n r = 0 → r = 0
  | 0, _, _, h0 => h0
  | n + 1, _, h, h0 => hs_inj h (hn_inj n (hs_lt h) h0)
theorem hn_pow : ∀ (i : Nat), hn i (2 ^ i) = 1
  | 0 => rfl
  | i + 1 => by
    rw [hn]
    have : hs (2 ^ (i + 1)) = 2 ^ i := by
      unfold hs
      rw [Nat.pow_succ, if_neg (by omega)]
      omega
    rw [this, hn_pow i]
/-- The lowest bits alone are turned. -/
theorem hn_split (k c : Nat) : hn k c = hn k (c % 2 ^ k) ^^^ c / 2 ^ k := by
  induction k generalizing c with
  | zero => simp [hn, Nat.mod_one]
  | succ k ih =>
    have hdiv : c / 2 / 2 ^ k = c / 2 ^ (k + 1) := by rw [Nat.div_div_eq_div_mul, Nat.pow_succ, Nat.mul_comm]
    have hmod : c % 2 ^ (k + 1) / 2 = c / 2 % 2 ^ k := by
      rw [Nat.pow_succ, Nat.mul_comm (2 ^ k) 2, Nat.mod_mul]
      omega
    have hm2 : c % 2 ^ (k + 1) % 2 = c % 2 := by
      rw [Nat.pow_succ, Nat.mul_comm (2 ^ k) 2, Nat.mod_mul]
      omega
    rw [hn, hn, ← hdiv]
    unfold hs
    rw [hm2, hmod]
    split
    · rw [hn_xor, hn_xor, ih (c / 2), Nat.xor_assoc, Nat.xor_assoc, Nat.xor_comm _ (hn k tnr)]
    · rw [ih (c / 2)]
/-- One byte taken in, and texts. -/
def crcB (c x : Nat) : Nat := hn 8 (c ^^^ x)
def crcL : Nat → List Int → Nat
  | c, [] => c
  | c, x :: xs => crcL (crcB c x.toNat) xs
theorem crcL_nil (c : Nat) : crcL c [] = c := by rfl
theorem crcL_cons (c : Nat) (x : Int) (xs : List Int) : crcL c (x :: xs) = crcL (crcB c x.toNat) xs := by rfl
theorem crcB_lt {c x : Nat} (hc : c < 2 ^ 32) (hx : x < 256) : crcB c x < 2 ^ 32 := hn_lt 8 (Nat.xor_lt_two_pow hc (by omega))
theorem crcL_app : ∀ (a b : List Int) (c : Nat), crcL c (a ++ b) = crcL (crcL c a) b
  | [], _, _ => rfl
  | x :: xs, b, c => by rw [List.cons_append, crcL_cons, crcL_app xs b, crcL_cons]
theorem crcL_one (c : Nat) (x : Int) : crcL c [x] = crcB c x.toNat := by rfl
theorem crcL_step {l : List Int} {k : Nat} {x : Int} (c : Nat) (h : l[k]? = some x) : crcL c (l.take (k + 1)) = crcB (crcL c (l.take k)) x.toNat := by
  rw [List.take_add_one, h, crcL_app]
  exact crcL_one _ x
theorem crcL_lt : ∀ (l : List Int) {c : Nat}, U8s l → c < 2 ^ 32 → crcL c l < 2 ^ 32
  | [], _, _, h => h
  | x :: xs, c, hl, h => by
    have hx := hl x (by simp)
    exact crcL_lt xs (fun y hy => hl y (by simp [hy])) (crcB_lt h (by omega))
/-- A register turned, behind a text. -/
theorem crcL_xor : ∀ (l : List Int) (c d : Nat), crcL (c ^^^ d) l = crcL c l ^^^ hn (8 * l.length) d
  | [], c, d => rfl
  | x :: xs, c, d => by
    rw [crcL_cons, crcL_cons, List.length_cons, show 8 * (xs.length + 1) = 8 + 8 * xs.length by omega, hn_add, ← crcL_xor xs]
    congr 1
    unfold crcB
    rw [← hn_xor, Nat.xor_assoc, Nat.xor_comm d, ← Nat.xor_assoc]
/-- All bits of a register turned. -/
def inv (s : Nat) : Nat := 4294967295 - s
theorem inv_lt (s : Nat) : inv s < 2 ^ 32 := by unfold inv; omega
theorem inv_inv {s : Nat} (h : s < 2 ^ 32) : inv (inv s) = s := by unfold inv; omega
theorem inv_xor {s : Nat} (h : s < 2 ^ 32) : inv s = s ^^^ 4294967295 := by
  have e : inv s = (~~~ (BitVec.ofNat 32 s)).toNat := by
    rw [BitVec.toNat_not, BitVec.toNat_ofNat, Nat.mod_eq_of_lt h]; rfl
  have e2 : s ^^^ 4294967295 = (BitVec.ofNat 32 s ^^^ BitVec.allOnes 32).toNat := by
    rw [BitVec.toNat_xor, BitVec.toNat_ofNat, Nat.mod_eq_of_lt h, BitVec.toNat_allOnes]
  rw [e, e2, BitVec.xor_allOnes]
/-- The sum that goes on from s, and a text's. -/
def moreN (s : Nat) (l : List Int) : Nat := inv (crcL (inv s) l)
def sumN (l : List Int) : Nat := moreN 0 l
theorem moreN_lt (s : Nat) (l : List Int) : moreN s l < 2 ^ 32 := inv_lt _
theorem sumN_lt (l : List Int) : sumN l < 2 ^ 32 := inv_lt _
theorem sumN_nil : sumN [] = 0 := by unfold sumN moreN inv; rfl
theorem moreN_app {a b : List Int} (ha : U8s a) : moreN (sumN a) b = sumN (a ++ b) := by
  unfold sumN moreN
  rw [inv_inv (crcL_lt a ha (inv_lt _)), crcL_app]
/-- The lowest bytes of a number, the lowest first. -/
def le4 (s : Nat) : List Int := [((s % 256 : Nat) : Int), ((s / 256 % 256 : Nat) : Int), ((s / 65536 % 256 : Nat) : Int), ((s / 16777216 % 256 : Nat) : Int)]
theorem le4_bytes (s : Nat) : U8s (le4 s) := by
  intro x hx
  simp only [le4, List.mem_cons, List.not_mem_nil, or_false] at hx
  omega
theorem le4_len (s : Nat) : (le4 s).length = 4 := by rfl
theorem le4_inj {s t : Nat} (hs : s < 2 ^ 32) (ht : t < 2 ^ 32) (h : le4 s = le4 t) : s = t := by
  unfold le4 at h
  simp only [List.cons.injEq, and_true] at h
  omega
theorem le4_of {a b c d : Int} (h : U8s [a, b, c, d]) : ∃ s, s < 2 ^ 32 ∧ [a, b, c, d] = le4 s := by
  have h0 := h a (by simp)
  have h1 := h b (by simp)
  have h2 := h c (by simp)
  have h3 := h d (by simp)
  refine ⟨(a + 256 * b + 65536 * c + 16777216 * d).toNat, by omega, ?_⟩
  unfold le4
  simp only [List.cons.injEq, and_true]
  omega
theorem xor_byte (a x : Nat) : (a ^^^ x) / 256 = a / 256 ^^^ x / 256 := Nat.xor_div_two_pow (n := 8)
/-- Eight bits of a number, put ahead of what is above them. -/
theorem join_byte (n : Nat) : n = n % 256 ^^^ (n / 256) * 256 := by
  have h1 : n = (n / 256) * 2 ^ 8 + n % 256 := by omega
  apply Nat.eq_of_testBit_eq
  intro i
  rw [Nat.testBit_xor, show (n / 256 * 256) = n / 256 * 2 ^ 8 from rfl, Nat.testBit_mul_two_pow, show n % 256 = n % 2 ^ 8 from rfl, Nat.testBit_mod_two_pow, show n / 256 = n / 2 ^ 8 from rfl, Nat.testBit_div_two_pow]
  by_cases h : i < 8
  · simp [h, show ¬ 8 ≤ i by omega]
  · simp [h, show 8 ≤ i by omega, show i - 8 + 8 = i by omega]
theorem hn_up : ∀ (k m : Nat), hn k (m * 2 ^ k) = m
  | 0, m => by simp [hn]
  | k + 1, m => by
    rw [hn]
    have : hs (m * 2 ^ (k + 1)) = m * 2 ^ k := by
      unfold hs
      rw [Nat.pow_succ, ← Nat.mul_assoc, if_neg (by omega)]
      omega
    rw [this, hn_up k]
/-- A number's bytes taken in, one behind the other, are the number taken in. -/
theorem crcL_le4 {c s : Nat} (hs : s < 2 ^ 32) : crcL c (le4 s) = hn 32 (c ^^^ s) := by
  have step : ∀ (c n : Nat), crcB c (n % 256) ^^^ n / 256 = hn 8 (c ^^^ n) := fun c n => by
    unfold crcB
    conv => rhs; rw [join_byte n, ← Nat.xor_assoc, hn_xor, show n / 256 * 256 = n / 256 * 2 ^ 8 from rfl, hn_up]
  have e : ∀ (c n : Nat), crcB c (n % 256) = hn 8 (c ^^^ n) ^^^ n / 256 := fun c n => by
    rw [← step, Nat.xor_assoc, Nat.xor_self, Nat.xor_zero]
  have e2 : ∀ a n : Nat, crcB (a ^^^ n) (n % 256) = hn 8 a ^^^ n / 256 := fun a n => by
    rw [e, Nat.xor_assoc, Nat.xor_self, Nat.xor_zero]
  have cast : ∀ k : Nat, ((k : Int)).toNat = k := fun k => by omega
  unfold le4
  rw [crcL_cons, crcL_cons, crcL_cons, crcL_cons, crcL_nil, cast, cast, cast, cast, show s / 65536 = s / 256 / 256 by omega, show s / 16777216 = s / 256 / 256 / 256 by omega]
  have h0 : s / 256 / 256 / 256 / 256 = 0 := by omega
  obtain ⟨a, ha⟩ : ∃ a, s / 256 = a := ⟨_, rfl⟩
  obtain ⟨b, hb⟩ : ∃ b, a / 256 = b := ⟨_, rfl⟩
  obtain ⟨d, hd⟩ : ∃ d, b / 256 = d := ⟨_, rfl⟩
  rw [ha, hb, hd] at h0
  have h1 := e c s
  have h2 := e2 (hn 8 (c ^^^ s)) a
  have h3 := e2 (hn 8 (hn 8 (c ^^^ s))) b
  have h4 := e2 (hn 8 (hn 8 (hn 8 (c ^^^ s)))) d
  rw [ha] at h1
  rw [hb] at h2
  rw [hd] at h3
  rw [h0, Nat.xor_zero] at h4
  rw [ha, hb, hd, h1, h2, h3, h4, show (32 : Nat) = 8 + (8 + (8 + 8)) from rfl, hn_add 8, hn_add 8, hn_add 8]
/-- How far a sealed text is off. -/
def off (l : List Int) : Nat := crcL 4294967295 l ^^^ hn 32 4294967295
theorem off_sum {a : List Int} (ha : U8s a) {s : Nat} (hs : s < 2 ^ 32) : off (a ++ le4 s) = hn 32 (sumN a ^^^ s) := by
  have hc := crcL_lt a ha (c := 4294967295) (by decide)
  have e : sumN a = crcL 4294967295 a ^^^ 4294967295 := by
    unfold sumN moreN
    rw [show inv 0 = 4294967295 from rfl, inv_xor hc]
  unfold off
  rw [crcL_app, crcL_le4 hs, e, ← hn_xor]
  congr 1
  rw [Nat.xor_assoc, Nat.xor_assoc, Nat.xor_comm s]
/-- A sealed text's sum is its own just if it isn't off. -/
theorem off_iff {a : List Int} (ha : U8s a) {s : Nat} (hs : s < 2 ^ 32) : off (a ++ le4 s) = 0 ↔ s = sumN a := by
  rw [off_sum ha hs]
  constructor
  · intro h
    exact (eq_of_xor (hn_inj 32 (Nat.xor_lt_two_pow (sumN_lt a) hs) h)).symm
  · rintro rfl
    rw [Nat.xor_self, hn_zero]
theorem cut4 {l : List Int} (hl : U8s l) (h4 : 4 ≤ l.length) : ∃ s, s < 2 ^ 32 ∧ l.drop (l.length - 4) = le4 s := by
  have hb := hl.drop (l.length - 4)
  have hlen : (l.drop (l.length - 4)).length = 4 := by rw [List.length_drop]; omega
  match hd : l.drop (l.length - 4), hlen, hb with
  | [a, b, c, d], _, hb => exact le4_of hb
/-- Is it sealed? -/
def sealedB (l : List Int) : Bool := eqL (l.drop (l.length - 4)) (le4 (sumN (l.take (l.length - 4))))
where eqL (a b : List Int) : Bool := decide (a = b)
theorem sealed_iff {l : List Int} (hl : U8s l) (h4 : 4 ≤ l.length) : sealedB l = true ↔ off l = 0 := by
  obtain ⟨s, hs, e⟩ := cut4 hl h4
  unfold sealedB sealedB.eqL
  rw [decide_eq_true_iff, e]
  have h := off_iff (hl.take (l.length - 4)) hs
  rw [← e, List.take_append_drop] at h
  rw [h]
  constructor
  · intro h'; exact le4_inj hs (sumN_lt _) h'
  · rintro rfl; rfl
/-- A text with one bit turned. -/
def trn (l : List Int) (p : Nat) : List Int := l.set (p / 8) (((l.getD (p / 8) 0).toNat ^^^ 2 ^ (p % 8) : Nat) : Int)
theorem trn_len (l : List Int) (p : Nat) : (trn l p).length = l.length := by unfold trn; simp
theorem trn_bytes {l : List Int} (hl : U8s l) {p : Nat} (hp : p / 8 < l.length) : U8s (trn l p) := by
  intro x hx
  unfold trn at hx
  rcases List.mem_or_eq_of_mem_set hx with hx | rfl
  · exact hl x hx
  · have h0 := hl.at_ (List.getElem?_eq_getElem hp)
    rw [List.getD_eq_getElem?_getD, List.getElem?_eq_getElem hp, Option.getD_some]
    have : (l[p / 8]).toNat ^^^ 2 ^ (p % 8) < 2 ^ 8 := Nat.xor_lt_two_pow (by omega) (by
      have : p % 8 < 8 := by omega
      exact Nat.pow_lt_pow_right (by decide) this)
    omega
theorem set_split (l : List Int) (q : Nat) (v : Int) (h : q < l.length) : l.set q v = l.take q ++ v :: l.drop (q + 1) := by
  rw [List.set_eq_take_append_cons_drop, if_pos h]
theorem crcL_trn {l : List Int} {p : Nat} (hl : U8s l) (hp : p / 8 < l.length) (c : Nat) : crcL c (trn l p) = crcL c l ^^^ hn (8 * l.length - p) 1 := by
  have e1 : l = l.take (p / 8) ++ l[p / 8] :: l.drop (p / 8 + 1) := by
    rw [← List.drop_eq_getElem_cons hp, List.take_append_drop]
  have ex : l.getD (p / 8) 0 = l[p / 8] := by rw [List.getD_eq_getElem?_getD, List.getElem?_eq_getElem hp, Option.getD_some]
  unfold trn
  rw [ex, set_split _ _ _ hp]
  conv => rhs; rw [e1]
  rw [crcL_app, crcL_app, crcL_cons, crcL_cons]
  have hcast : (((l[p / 8].toNat ^^^ 2 ^ (p % 8) : Nat) : Int)).toNat = l[p / 8].toNat ^^^ 2 ^ (p % 8) := by omega
  rw [hcast]
  have e2 : ∀ c x : Nat, crcB c (x ^^^ 2 ^ (p % 8)) = crcB c x ^^^ hn (8 - p % 8) 1 := fun c x => by
    unfold crcB
    rw [← Nat.xor_assoc, hn_xor]
    congr 1
    obtain ⟨q, hq⟩ : ∃ q, p % 8 = q := ⟨_, rfl⟩
    rw [hq]
    have hq8 : q < 8 := by omega
    have h8 : hn 8 (2 ^ q) = hn (q + (8 - q)) (2 ^ q) := by rw [show q + (8 - q) = 8 by omega]
    rw [h8, hn_add, hn_pow]
  rw [e2, crcL_xor, ← hn_add]
  congr 2
  rw [List.length_drop, ← e1]
  omega
theorem off_trn {l : List Int} {p : Nat} (hl : U8s l) (hp : p / 8 < l.length) : off (trn l p) = off l ^^^ hn (8 * l.length - p) 1 := by
  unfold off
  rw [crcL_trn hl hp, Nat.xor_assoc, Nat.xor_assoc, Nat.xor_comm (hn 32 4294967295)]
theorem trn_trn {l : List Int} {p : Nat} (hl : U8s l) (hp : p / 8 < l.length) : trn (trn l p) p = l := by
  have ex : l.getD (p / 8) 0 = l[p / 8] := by rw [List.getD_eq_getElem?_getD, List.getElem?_eq_getElem hp, Option.getD_some]
  have hb := hl.at_ (List.getElem?_eq_getElem hp)
  unfold trn
  rw [ex]
  have e2 : (l.set (p / 8) (((l[p / 8]).toNat ^^^ 2 ^ (p % 8) : Nat) : Int)).getD (p / 8) 0 = (((l[p / 8]).toNat ^^^ 2 ^ (p % 8) : Nat) : Int) := by
    rw [List.getD_eq_getElem?_getD, List.getElem?_set, if_pos rfl, if_pos hp, Option.getD_some]
  rw [e2, List.set_set, show ((((l[p / 8]).toNat ^^^ 2 ^ (p % 8) : Nat) : Int)).toNat = (l[p / 8]).toNat ^^^ 2 ^ (p % 8) by omega, Nat.xor_assoc, Nat.xor_self, Nat.xor_zero, show (((l[p / 8]).toNat : Nat) : Int) = l[p / 8] by omega]
  exact List.set_getElem_self hp
/-- The lowest k bits of a pattern, as far as there is room for n. -/
def pk (p n k : Nat) : Nat := p % 2 ^ min k n
theorem pk_zero (p n : Nat) : pk p n 0 = 0 := by unfold pk; rw [Nat.zero_min, Nat.pow_zero, Nat.mod_one]
theorem pk_lt (p n k : Nat) (hk : k ≤ 32) : pk p n k < 2 ^ 32 := by
  unfold pk
  have h1 := Nat.mod_lt p (show 0 < 2 ^ min k n from Nat.pow_pos (by decide))
  have h2 : 2 ^ min k n ≤ 2 ^ 32 := Nat.pow_le_pow_right (by decide) (by omega)
  omega
theorem pk_out {p n k : Nat} (h : n ≤ k) : pk p n (k + 1) = pk p n k := by
  unfold pk; rw [show min (k + 1) n = min k n by omega]
theorem pk_next {p n k : Nat} (h : k < n) : pk p n (k + 1) = pk p n k + 2 ^ k * (p / 2 ^ k % 2) := by
  unfold pk
  rw [show min (k + 1) n = k + 1 by omega, show min k n = k by omega, Nat.mod_pow_succ]
theorem pk_skip {p n k : Nat} (h : p / 2 ^ k % 2 ≠ 1) : pk p n (k + 1) = pk p n k := by
  by_cases hk : k < n
  · rw [pk_next hk, show p / 2 ^ k % 2 = 0 by omega, Nat.mul_zero, Nat.add_zero]
  · exact pk_out (by omega)
theorem pk_turn {p n k : Nat} (hk : k < n) (h : p / 2 ^ k % 2 = 1) : pk p n (k + 1) = pk p n k ^^^ 2 ^ k := by
  rw [pk_next hk, h, Nat.mul_one]
  have hlt : pk p n k < 2 ^ k := by
    unfold pk
    rw [show min k n = k by omega]
    exact Nat.mod_lt p (Nat.pow_pos (by decide))
  obtain ⟨a, ha⟩ : ∃ a, pk p n k = a := ⟨_, rfl⟩
  rw [ha] at hlt ⊢
  have h2 := Nat.two_pow_add_eq_or_of_lt hlt 1
  rw [Nat.mul_one] at h2
  rw [Nat.add_comm, h2]
  apply Nat.eq_of_testBit_eq
  intro i
  rw [Nat.testBit_or, Nat.testBit_xor, Nat.testBit_two_pow]
  by_cases e : k = i
  · subst e
    rw [Nat.testBit_lt_two_pow hlt]
    simp
  · simp [e]
theorem pk_pos {p n k : Nat} (hk : k < n) (h : p / 2 ^ k % 2 = 1) : pk p n (k + 1) ≠ 0 := by
  rw [pk_next hk, h]
  have := Nat.pow_pos (n := k) (show 0 < 2 by decide)
  omega
theorem hn_bit {n k : Nat} (h : k ≤ n) : hn n (2 ^ k) = hn (n - k) 1 := by
  rw [show n = k + (n - k) by omega, hn_add, hn_pow, show k + (n - k) - k = n - k by omega]
/-- A burst, bit by bit. -/
theorem burst_step {l : List Int} {p f k n : Nat} (hl : U8s l) (hn' : f + n = 8 * l.length) (hk : k < n) (hb : p / 2 ^ k % 2 = 1) (h : off l = hn n (pk p n k)) :
    off (trn l (f + k)) = hn n (pk p n (k + 1)) := by
  rw [off_trn hl (by omega), h, pk_turn hk hb, hn_xor, hn_bit (by omega), show 8 * l.length - (f + k) = n - k by omega]
/-- Texts turned by one another. -/
def xorL : List Int → List Int → List Int
  | x :: xs, y :: ys => ((x.toNat ^^^ y.toNat : Nat) : Int) :: xorL xs ys
  | _, _ => []
theorem xorL_len : ∀ {a b : List Int}, a.length = b.length → (xorL a b).length = a.length
  | [], [], _ => rfl
  | x :: xs, y :: ys, h => by
    simp only [List.length_cons] at h
    rw [xorL, List.length_cons, List.length_cons, xorL_len (by omega)]
theorem crcL_xorL : ∀ (a b : List Int) (c d : Nat), a.length = b.length → crcL (c ^^^ d) (xorL a b) = crcL c a ^^^ crcL d b
  | [], [], c, d, _ => by rfl
  | x :: xs, y :: ys, c, d, h => by
    simp only [List.length_cons] at h
    rw [xorL, crcL_cons, crcL_cons, crcL_cons, show (((x.toNat ^^^ y.toNat : Nat) : Int)).toNat = x.toNat ^^^ y.toNat by omega, ← crcL_xorL xs ys _ _ (by omega)]
    congr 1
    unfold crcB
    rw [← hn_xor]
    congr 1
    rw [Nat.xor_assoc, Nat.xor_assoc, ← Nat.xor_assoc d, Nat.xor_comm d, Nat.xor_assoc]
theorem xorL_bytes : ∀ {a b : List Int}, U8s a → U8s b → U8s (xorL a b)
  | [], _, _, _ => by intro x hx; simp [xorL] at hx
  | _ :: _, [], _, _ => by intro x hx; simp [xorL] at hx
  | x :: xs, y :: ys, ha, hb => by
    intro z hz
    rw [xorL] at hz
    rcases List.mem_cons.1 hz with rfl | hz
    · have h1 := ha x (by simp)
      have h2 := hb y (by simp)
      have : x.toNat ^^^ y.toNat < 2 ^ 8 := Nat.xor_lt_two_pow (by omega) (by omega)
      omega
    · exact xorL_bytes (fun w hw => ha w (by simp [hw])) (fun w hw => hb w (by simp [hw])) z hz
theorem xorL_at : ∀ {a b : List Int} {k : Nat} {x y : Int}, a[k]? = some x → b[k]? = some y → (xorL a b)[k]? = some ((x.toNat ^^^ y.toNat : Nat) : Int)
  | [], _, _, _, _, h, _ => by simp at h
  | _ :: _, [], _, _, _, _, h => by simp at h
  | x :: xs, y :: ys, 0, _, _, h1, h2 => by
    simp only [List.getElem?_cons_zero, Option.some.injEq] at h1 h2
    subst h1 h2
    simp [xorL]
  | x :: xs, y :: ys, k + 1, _, _, h1, h2 => by
    simp only [List.getElem?_cons_succ] at h1 h2
    rw [xorL, List.getElem?_cons_succ]
    exact xorL_at h1 h2
theorem sum_lin {a b c : List Int} (ha : U8s a) (hb : U8s b) (hc : U8s c) (h1 : a.length = b.length) (h2 : a.length = c.length) :
    sumN (xorL (xorL a b) c) = (sumN a ^^^ sumN b) ^^^ sumN c := by
  have e : ∀ {l : List Int}, U8s l → sumN l = crcL 4294967295 l ^^^ 4294967295 := fun {l} hl => by
    unfold sumN moreN
    rw [show inv 0 = 4294967295 from rfl, inv_xor (crcL_lt l hl (by decide))]
  rw [e ha, e hb, e hc, e (xorL_bytes (xorL_bytes ha hb) hc)]
  have h3 := crcL_xorL (xorL a b) c (4294967295 ^^^ 4294967295) 4294967295 (by rw [xorL_len h1]; exact h2)
  rw [crcL_xorL a b _ _ h1, show (4294967295 ^^^ 4294967295 ^^^ 4294967295 : Nat) = 4294967295 from by decide] at h3
  rw [h3, xor4, Nat.xor_assoc]
/-- The register's lowest bits turned alone: how the program takes a byte in. -/
theorem crcB_low {c x : Nat} (hx : x < 256) : crcB c x = c / 256 ^^^ hn 8 (c % 256 ^^^ x) := by
  unfold crcB
  have h1 : (c ^^^ x) % 2 ^ 8 = c % 256 ^^^ x := by
    rw [Nat.xor_mod_two_pow, Nat.mod_eq_of_lt (a := x) (by omega)]
  have h2 : (c ^^^ x) / 2 ^ 8 = c / 256 := by
    rw [Nat.xor_div_two_pow, Nat.div_eq_of_lt (a := x) (by omega), Nat.xor_zero]
  rw [hn_split 8 (c ^^^ x), h1, h2, Nat.xor_comm]
/-- What the calls tell, and their errors. -/
def trnV (l : List Int) (bit : Int) : List Int := if bit < 0 ∨ (l.length : Int) ≤ bit / 8 then [] else trn l bit.toNat
def trnE (l : List Int) (bit : Int) : Int := if bit < 0 ∨ (l.length : Int) ≤ bit / 8 then 1 else 0
def sealV (l : List Int) : List Int := if 65532 < l.length then [] else l ++ le4 (sumN l)
def sealE (l : List Int) : Int := if 65532 < l.length then 3 else 0
def openV (l : List Int) : List Int := if 65536 < l.length ∨ l.length < 4 ∨ sealedB l = false then [] else l.take (l.length - 4)
def openE (l : List Int) : Int := if 65536 < l.length then 3 else if l.length < 4 then 5 else if sealedB l = false then 7 else 0
end Go.Proofs.Ytgkkliibeiklbaa
