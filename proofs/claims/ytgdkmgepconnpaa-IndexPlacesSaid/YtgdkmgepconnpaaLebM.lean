
/- Numbers' codes, seven bits a byte: plain mathematics on lists of whole numbers. No program in sight. -/
import Derived.Test.YtgdkmgepconnpaaMath
import Derived.Lib.BitFns
namespace Go.Proofs.Ytgdkmgepconnpaa
set_option linter.unusedVariables false
/-- A number's code. -/
def lebL (n : Nat) : List Int := if h : n < 128 then [(n : Int)] else ((n % 128 : Nat) + 128 : Int) :: lebL (n / 128)
termination_by n
decreasing_by omega
def lebI (n : Int) : List Int := lebL n.toNat
theorem lebI_last {n : Int} (h0 : 0 ≤ n) (h : n < 128) : lebI n = [n] := by
  unfold lebI
  rw [lebL, dif_pos (by omega)]
  congr 1
  omega
theorem lebI_more {n : Int} (h : 128 ≤ n) : lebI n = (n % 128 + 128) :: lebI (n / 128) := by
  unfold lebI
  rw [lebL, dif_neg (by omega)]
  congr 1
  · omega
  · congr 1; omega
/-- What holds of the small ones, and goes from a number's 128th to it, holds of all. -/
theorem leb_ind {p : Int → Prop} (h1 : ∀ n, 0 ≤ n → n < 128 → p n) (h2 : ∀ n, 128 ≤ n → p (n / 128) → p n) (n : Int) (h0 : 0 ≤ n) : p n := by
  obtain ⟨m, rfl⟩ := Int.eq_ofNat_of_zero_le h0
  clear h0
  induction m using Nat.strongRecOn with
  | _ m ih =>
    by_cases h : (m : Int) < 128
    · exact h1 _ (by omega) h
    · refine h2 _ (by omega) ?_
      have := ih (m / 128) (by omega)
      rwa [show ((m / 128 : Nat) : Int) = (m : Int) / 128 by omega] at this
theorem lebI_u8 (n : Int) (h : 0 ≤ n) : U8s (lebI n) := by
  refine leb_ind (p := fun n => U8s (lebI n)) ?_ ?_ n h
  · intro n h0 h1
    rw [lebI_last h0 h1]
    intro x hx
    simp only [List.mem_singleton] at hx
    omega
  · intro n h1 ih
    rw [lebI_more h1]
    intro x hx
    rcases List.mem_cons.1 hx with rfl | hx
    · omega
    · exact ih x hx
theorem lebI_pos (n : Int) (h : 0 ≤ n) : 0 < (lebI n).length := by
  by_cases h1 : n < 128
  · rw [lebI_last h h1]; simp
  · rw [lebI_more (by omega)]; simp
theorem lebI_mono (a : Int) (ha : 0 ≤ a) : ∀ b, a ≤ b → (lebI a).length ≤ (lebI b).length := by
  refine leb_ind (p := fun a => ∀ b, a ≤ b → (lebI a).length ≤ (lebI b).length) ?_ ?_ a ha
  · intro n h0 h1 b hb
    rw [lebI_last h0 h1]
    exact lebI_pos b (by omega)
  · intro n h1 ih b hb
    rw [lebI_more h1, lebI_more (n := b) (by omega)]
    have := ih (b / 128) (by omega)
    simp only [List.length_cons]
    omega
theorem lebI_le (k : Nat) : ∀ n : Int, 0 ≤ n → n < 128 ^ (k + 1) → (lebI n).length ≤ k + 1 := by
  induction k with
  | zero =>
    intro n h0 h
    rw [lebI_last h0 (by simpa using h)]; simp
  | succ k ih =>
    intro n h0 h
    by_cases h1 : n < 128
    · rw [lebI_last h0 h1]; simp
    · rw [lebI_more (by omega)]
      have := ih (n / 128) (by omega) (by rw [Int.pow_succ] at h; omega)
      simp only [List.length_cons]
      omega
theorem lebI_ten {n : Int} (h : U64 n) : (lebI n).length ≤ 10 := lebI_le 9 n h.1 (by have := h.2; omega)
/-- How long a code is, by its bits. -/
theorem lebI_bits {n : Int} (h : U64 n) : (lebI n).length = (Lib.bitLen (max n 1).toNat + 6) / 7 := by
  have key : ∀ n : Int, 0 ≤ n → n ≤ 18446744073709551615 → (lebI n).length = (Lib.bitLen (max n 1).toNat + 6) / 7 := by
    intro n h0
    refine leb_ind (p := fun n => n ≤ 18446744073709551615 → (lebI n).length = (Lib.bitLen (max n 1).toNat + 6) / 7) ?_ ?_ n h0
    · intro n h0 h1 _
      rw [lebI_last h0 h1]
      have hd : ∀ m : Fin 128, (Lib.bitLen (max m.val 1) + 6) / 7 = 1 := by decide +kernel
      have := hd ⟨n.toNat, by omega⟩
      rw [show (max n 1).toNat = max n.toNat 1 by omega, this]
      rfl
    · intro n h1 ih h2
      rw [lebI_more h1, List.length_cons, ih (by omega)]
      have hs := Lib.bitLen_shift 7 (max n 1).toNat (by omega) (by omega)
      rw [show (max n 1).toNat / 2 ^ 7 = (max (n / 128) 1).toNat by omega] at hs
      omega
  exact key n h.1 h.2
/-- All codes, one behind the other. -/
def encs (l : List Int) : List Int := l.flatMap lebI
theorem encs_nil : encs [] = [] := rfl
theorem encs_app (l m : List Int) : encs (l ++ m) = encs l ++ encs m := List.flatMap_append
theorem encs_one (n : Int) : encs [n] = lebI n := by simp [encs]
theorem encs_cons (n : Int) (l : List Int) : encs (n :: l) = lebI n ++ encs l := by simp [encs]
theorem encs_u8 {l : List Int} (h : U64s l) : U8s (encs l) := by
  intro x hx
  obtain ⟨n, hn, hx⟩ := List.mem_flatMap.1 hx
  exact lebI_u8 n (h n hn).1 x hx
theorem encs_len {l : List Int} (h : U64s l) : (encs l).length ≤ 10 * l.length := by
  induction l with
  | nil => simp [encs]
  | cons n l ih =>
    rw [encs_cons, List.length_append, List.length_cons]
    have h1 := lebI_ten (h n (by simp))
    have h2 := ih (fun x hx => h x (by simp [hx]))
    omega
/-- What stands at a text's beginning, k bytes behind a code's, of which n is there: the number, the code's size, the error. -/
def gL : List Int → Nat → Int → Int × Int × Int
  | [], _, _ => (0, 0, 5)
  | c :: cs, k, n => if k = 9 ∧ 1 < c then (0, 0, 6) else if c < 128 then (if 0 < k ∧ c = 0 then (0, 0, 6) else (n + c % 128 * 2 ^ (7 * k), ((k + 1 : Nat) : Int), 0)) else gL cs (k + 1) (n + c % 128 * 2 ^ (7 * k))
/-- What Get is to answer. -/
def getN (b : List Int) (a : Int) : Int := if a < 0 then 0 else (gL (b.drop a.toNat) 0 0).1
def getE (b : List Int) (a : Int) : Int := if a < 0 then 1 else (gL (b.drop a.toNat) 0 0).2.2
def getA (b : List Int) (a : Int) : Int := if getE b a = 0 then a + (gL (b.drop a.toNat) 0 0).2.1 else 0
theorem pow7 (k : Nat) : (2 : Int) ^ (7 * (k + 1)) = 128 * 2 ^ (7 * k) := by
  rw [show 7 * (k + 1) = 7 * k + 7 by omega, Int.pow_add]; omega
theorem pow7_pos (k : Nat) : (0 : Int) < 2 ^ (7 * k) := Int.pow_pos (by decide)
/-- What was put is got. -/
theorem gL_put (n : Int) (h0 : 0 ≤ n) : ∀ (rest : List Int) (k : Nat) (m : Int), 0 < k ∧ n = 0 ∨ (lebI n).length + k ≤ 10 ∧ (0 < k → 0 < n) ∧ (n * 2 ^ (7 * k) ≤ 18446744073709551615) →
    ¬ (0 < k ∧ n = 0) → gL (lebI n ++ rest) k m = (m + n * 2 ^ (7 * k), ((k + (lebI n).length : Nat) : Int), 0) := by
  refine leb_ind (p := fun n => ∀ (rest : List Int) (k : Nat) (m : Int), 0 < k ∧ n = 0 ∨ (lebI n).length + k ≤ 10 ∧ (0 < k → 0 < n) ∧ (n * 2 ^ (7 * k) ≤ 18446744073709551615) →
    ¬ (0 < k ∧ n = 0) → gL (lebI n ++ rest) k m = (m + n * 2 ^ (7 * k), ((k + (lebI n).length : Nat) : Int), 0)) ?_ ?_ n h0
  · intro n h0 h1 rest k m hk hz
    rcases hk with hk | ⟨hk, hp, hm⟩
    · exact absurd hk hz
    rw [lebI_last h0 h1] at *
    simp only [List.length_singleton] at hk
    rw [List.singleton_append, gL, if_neg ?_, if_pos h1, if_neg hz, show n % 128 = n by omega]
    · simp
    · rintro ⟨rfl, h⟩
      have : (2 : Int) ^ (7 * 9) = 9223372036854775808 := by decide
      rw [this] at hm
      omega
  · intro n h1 ih rest k m hk hz
    rcases hk with hk | ⟨hk, hp, hm⟩
    · omega
    rw [lebI_more h1] at *
    simp only [List.length_cons] at hk
    have hl := lebI_pos (n / 128) (by omega)
    have hp := pow7_pos k
    have he : n = n % 128 + 128 * (n / 128) := by omega
    rw [List.cons_append, gL, if_neg (by omega), if_neg (by omega), ih rest (k + 1) _ (.inr ⟨by omega, by omega, ?_⟩) (by omega), pow7]
    · simp only [Prod.mk.injEq, List.length_cons, and_true]
      refine ⟨?_, by omega⟩
      rw [show (n % 128 + 128) % 128 = n % 128 by omega, Int.add_assoc]
      congr 1
      rw [show n / 128 * (128 * 2 ^ (7 * k)) = (128 * (n / 128)) * 2 ^ (7 * k) by rw [← Int.mul_assoc, Int.mul_comm 128], ← Int.add_mul, ← he]
    · rw [pow7]
      have h2 : n / 128 * (128 * 2 ^ (7 * k)) = (128 * (n / 128)) * 2 ^ (7 * k) := by rw [← Int.mul_assoc, Int.mul_comm 128]
      rw [h2]
      have := Int.mul_le_mul_of_nonneg_right (show 128 * (n / 128) ≤ n by omega) (Int.le_of_lt hp)
      omega
theorem gL_code {n : Int} (h : U64 n) (rest : List Int) : gL (lebI n ++ rest) 0 0 = (n, ((lebI n).length : Int), 0) := by
  have := gL_put n h.1 rest 0 0 (.inr ⟨by have := lebI_ten h; omega, by omega, by simpa using h.2⟩) (by omega)
  simpa using this
/-- What was got was put. -/
theorem gL_back : ∀ (b : List Int) (k : Nat) (m v : Int) (s : Int), U8s b → gL b k m = (v, s, 0) →
    ∃ (q : Int) (j : Nat), 0 ≤ q ∧ v = m + q * 2 ^ (7 * k) ∧ s = ((k + j : Nat) : Int) ∧ j ≤ b.length ∧ b.take j = lebI q ∧ (0 < k → 0 < q)
  | [], k, m, v, s, _, h => by simp [gL] at h
  | c :: cs, k, m, v, s, hu, h => by
    have hc := hu c (by simp)
    rw [gL] at h
    split at h
    · simp at h
    · split at h
      · split at h
        · simp at h
        · rename_i h1 h2 h3
          simp only [Prod.mk.injEq, and_true] at h
          obtain ⟨rfl, rfl⟩ := h
          refine ⟨c, 1, hc.1, by rw [show c % 128 = c by omega], by simp, by simp, by simp [lebI_last hc.1 h2], by omega⟩
      · rename_i h1 h2
        obtain ⟨q, j, hq, rfl, rfl, hj, ht, hp⟩ := gL_back cs (k + 1) _ v s (fun x hx => hu x (by simp [hx])) h
        have hq1 := hp (by omega)
        refine ⟨c % 128 + 128 * q, j + 1, by omega, ?_, by omega, by simp; omega, ?_, by omega⟩
        · rw [pow7, Int.add_mul, Int.add_assoc]
          congr 2
          rw [← Int.mul_assoc, Int.mul_comm q]
        · rw [lebI_more (by omega), List.take_succ_cons, ht]
          congr 1
          · omega
          · congr 1; omega
/-- A code that ends too soon. -/
theorem gL_cut (n : Int) (h0 : 0 ≤ n) : ∀ (k : Nat) (m : Int), (lebI n).length + k ≤ 10 → gL ((lebI n).take ((lebI n).length - 1)) k m = (0, 0, 5) := by
  refine leb_ind (p := fun n => ∀ (k : Nat) (m : Int), (lebI n).length + k ≤ 10 → gL ((lebI n).take ((lebI n).length - 1)) k m = (0, 0, 5)) ?_ ?_ n h0
  · intro n h0 h1 k m hk
    rw [lebI_last h0 h1]; simp [gL]
  · intro n h1 ih k m hk
    have hl := lebI_pos (n / 128) (by omega)
    rw [lebI_more h1] at *
    simp only [List.length_cons] at hk
    obtain ⟨j, hj⟩ : ∃ j, (lebI (n / 128)).length = j + 1 := ⟨(lebI (n / 128)).length - 1, by omega⟩
    have := ih (k + 1) (m + (n % 128 + 128) % 128 * 2 ^ (7 * k)) (by omega)
    rw [hj] at this
    simp only [List.length_cons, hj, Nat.add_sub_cancel, List.take_succ_cons]
    rw [gL, if_neg (by omega), if_neg (by omega)]
    exact this
theorem get_at {b : List Int} {n : Int} (h : U64 n) (ahead behind : List Int) (hb : b = ahead ++ (lebI n ++ behind)) :
    getN b ahead.length = n ∧ getE b ahead.length = 0 ∧ getA b ahead.length = ahead.length + (lebI n).length := by
  subst hb
  have e : gL ((ahead ++ (lebI n ++ behind)).drop (ahead.length : Int).toNat) 0 0 = (n, ((lebI n).length : Int), 0) := by
    rw [show (ahead.length : Int).toNat = ahead.length by omega, List.drop_left, gL_code h]
  have h1 : ¬ (ahead.length : Int) < 0 := by omega
  unfold getA getN getE
  rw [e]
  simp [h1]
theorem get_off {b : List Int} : getE b b.length = 5 := by
  have h1 : ¬ (b.length : Int) < 0 := by omega
  unfold getE
  rw [if_neg h1, show (b.length : Int).toNat = b.length by omega, List.drop_length]
  rfl
/-- So many numbers, one behind the other: those that there are, the place, the error. -/
def mny (b : List Int) : Nat → Int → List Int → List Int × Int × Int
  | 0, a, S => (S, a, 0)
  | k + 1, a, S => if getE b a = 0 then mny b k (getA b a) (S ++ [getN b a]) else ([], 0, getE b a)
theorem mny_put {b behind : List Int} : ∀ (l : List Int) (ahead S : List Int), U64s l → b = ahead ++ (encs l ++ behind) → mny b l.length ahead.length S = (S ++ l, (((ahead ++ encs l).length : Nat) : Int), 0)
  | [], ahead, S, _, hb => by simp [mny, encs]
  | n :: l, ahead, S, hu, hb => by
    have hb' : b = (ahead ++ lebI n) ++ (encs l ++ behind) := by rw [hb, encs_cons]; simp
    obtain ⟨e1, e2, e3⟩ := get_at (b := b) (hu n (by simp)) ahead (encs l ++ behind) (by rw [hb']; simp)
    have := mny_put l (ahead ++ lebI n) (S ++ [n]) (fun x hx => hu x (by simp [hx])) hb'
    rw [List.length_cons, mny, if_pos e2, e1, e3]
    rw [show ((ahead.length : Int) + ((lebI n).length : Int)) = (((ahead ++ lebI n).length : Nat) : Int) by simp, this, encs_cons]
    simp
/-- One more than there are. -/
theorem mny_more {b : List Int} : ∀ (l : List Int) (ahead S : List Int), U64s l → b = ahead ++ encs l → mny b (l.length + 1) ahead.length S = ([], 0, 5)
  | [], ahead, S, _, hb => by
    have : b.length = ahead.length := by rw [hb]; simp [encs]
    have e := get_off (b := b)
    rw [this] at e
    simp [mny, e]
  | n :: l, ahead, S, hu, hb => by
    have hb' : b = (ahead ++ lebI n) ++ encs l := by rw [hb, encs_cons]; simp
    obtain ⟨e1, e2, e3⟩ := get_at (b := b) (hu n (by simp)) ahead (encs l) (by rw [hb']; simp)
    have := mny_more l (ahead ++ lebI n) (S ++ [n]) (fun x hx => hu x (by simp [hx])) hb'
    rw [List.length_cons, mny, if_pos e2, e1, e3]
    rw [show ((ahead.length : Int) + ((lebI n).length : Int)) = (((ahead ++ lebI n).length : Nat) : Int) by simp, this]
/-- Signed numbers and others. -/
def zigI (n : Int) : Int := if n < 0 then -2 * n - 1 else 2 * n
def zagI (n : Int) : Int := if n % 2 = 1 then -(n / 2) - 1 else n / 2
theorem zag_zig (n : Int) : zagI (zigI n) = n := by unfold zagI zigI; split <;> split <;> omega
theorem zig_zag {n : Int} (h : 0 ≤ n) : zigI (zagI n) = n := by unfold zagI zigI; split <;> split <;> omega
theorem zig_u64 {n : Int} (h : I64 n) : U64 (zigI n) := by unfold I64 at h; unfold U64 zigI; split <;> omega
theorem zag_i64 {n : Int} (h : U64 n) : I64 (zagI n) := by unfold U64 at h; unfold I64 zagI; split <;> omega
theorem zigs_u64 {l : List Int} (h : ∀ x ∈ l, I64 x) : U64s (l.map zigI) := by
  intro x hx
  obtain ⟨y, hy, rfl⟩ := List.mem_map.1 hx
  exact zig_u64 (h y hy)
/-- No code is another one's beginning. -/
theorem code_apart {a b : Int} (ha : U64 a) (hb : U64 b) (h : (lebI b).take (lebI a).length = lebI a) : a = b := by
  have h1 := gL_code hb []
  rw [List.append_nil] at h1
  have h2 := gL_code ha ((lebI b).drop (lebI a).length)
  have e := List.take_append_drop (lebI a).length (lebI b)
  rw [h] at e
  rw [e, h1] at h2
  simp only [Prod.mk.injEq] at h2
  exact h2.1.symm
end Go.Proofs.Ytgdkmgepconnpaa
