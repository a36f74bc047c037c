
/- What plane's calls tell, and what follows. Plain mathematics. No program in sight. -/
import Derived.Test.YtgkkliibeiklbaaPlM
namespace Go.Proofs.Ytgkkliibeiklbaa
set_option linter.unusedVariables false
/-- How many bytes, and the error. -/
def bysE (w m : Int) : Int := if w < 0 ∨ 32 < w ∨ m < 0 then 1 else if 4096 < m then 3 else 0
def bysV (w m : Int) : Int := if bysE w m = 0 then (w * m + 7) / 8 else 0
theorem bys_ok {w m : Int} (h : bysE w m = 0) : (0 ≤ w ∧ w ≤ 32) ∧ 0 ≤ m ∧ m ≤ 4096 := by
  unfold bysE at h
  split at h
  · simp at h
  · split at h
    · simp at h
    · omega
theorem bys_nat {w m : Nat} (h : bysE w m = 0) : bysV w m = (((w * m + 7) / 8 : Nat) : Int) := by
  unfold bysV
  rw [if_pos h]
  rw [Int.natCast_ediv, Int.natCast_add, Int.natCast_mul]
  rfl
theorem bysE_cases (w m : Int) : bysE w m = 0 ∨ bysE w m = 1 ∨ bysE w m = 3 := by
  unfold bysE
  split
  · exact Or.inr (Or.inl rfl)
  · split
    · exact Or.inr (Or.inr rfl)
    · exact Or.inl rfl
/-- Whether numbers may be packed. -/
def fitsB (w : Int) (l : List Int) : Bool := l.all fun n => decide ((wdt n : Int) ≤ w)
def mayE (w : Int) (l : List Int) : Int := if bysE w l.length = 0 then (if fitsB w l = true then 0 else 1) else bysE w l.length
theorem mayE_ok {w : Int} {l : List Int} (h : mayE w l = 0) : bysE w l.length = 0 ∧ fitsB w l = true := by
  unfold mayE at h
  split at h
  · rename_i h1
    split at h
    · rename_i h2; exact ⟨h1, h2⟩
    · simp at h
  · rename_i h1; exact absurd h h1
theorem fitsB_iff {w : Nat} (hw : w ≤ 32) {l : List Int} (ul : U64s l) : fitsB w l = true ↔ ∀ n ∈ l, n < 2 ^ w := by
  unfold fitsB
  rw [List.all_eq_true]
  constructor
  · intro h n hn
    have := of_decide_eq_true (h n hn)
    exact (wdt_le (ul n hn) (by omega)).1 (by omega)
  · intro h n hn
    have := (wdt_le (ul n hn) (w := w) (by omega)).2 (h n hn)
    exact decide_eq_true (by omega)
/-- Where each bit goes: side by side, and in planes. -/
def sdF (w : Nat) (l : List Int) (p : Nat) : Bool := bt (l.getD (p / w) 0) (w - 1 - p % w)
def plF (w : Nat) (l : List Int) (p : Nat) : Bool := bt (l.getD (p % l.length) 0) (w - 1 - p / l.length)
def pckV (w : Int) (l : List Int) : List Int := if mayE w l = 0 then pkL (w.toNat * l.length) (sdF w.toNat l) else []
def wevV (w : Int) (l : List Int) : List Int := if mayE w l = 0 then pkL (w.toNat * l.length) (plF w.toNat l) else []
/-- Is what is left of the last byte 0? -/
def tlB (n : Nat) (b : List Int) : Bool := (List.range (8 * b.length - n)).all fun j => !fB b (n + j)
def bitE (w m : Int) (b : List Int) : Int := if bysE w m = 0 then (if (b.length : Int) = bysV w m then (if tlB (w.toNat * m.toNat) b = true then 0 else 6) else 4) else bysE w m
def bitV (w m : Int) (b : List Int) : List Bool := if bitE w m b = 0 then mkB (w.toNat * m.toNat) (fB b) else []
def upkV (w m : Int) (b : List Int) : List Int := if bitE w m b = 0 then (List.range m.toNat).map (fun i => nmF w.toNat fun k => fB b (i * w.toNat + k)) else []
def uwvV (w m : Int) (b : List Int) : List Int := if bitE w m b = 0 then (List.range m.toNat).map (fun i => nmF w.toNat fun k => fB b (k * m.toNat + i)) else []
/-- Signs. -/
def sgnE (l : List Bool) : Int := if 4096 < l.length then 3 else 0
def sgnV (l : List Bool) : List Int := if 4096 < l.length then [] else pkL l.length fun p => l.getD p false
theorem tlB_iff (n : Nat) (b : List Int) : tlB n b = true ↔ ∀ p, n ≤ p → p < 8 * b.length → fB b p = false := by
  unfold tlB
  rw [List.all_eq_true]
  constructor
  · intro h p h1 h2
    have := h (p - n) (List.mem_range.2 (by omega))
    rw [show n + (p - n) = p by omega] at this
    simpa using this
  · intro h j hj
    have hj := List.mem_range.1 hj
    rw [h (n + j) (by omega) (by omega)]
    rfl
theorem bitE_ok {w m : Int} {b : List Int} (h : bitE w m b = 0) : bysE w m = 0 ∧ (b.length : Int) = bysV w m ∧ ∀ p, w.toNat * m.toNat ≤ p → p < 8 * b.length → fB b p = false := by
  unfold bitE at h
  split at h
  · rename_i h1
    split at h
    · rename_i h2
      split at h
      · rename_i h3; exact ⟨h1, h2, (tlB_iff _ _).1 h3⟩
      · simp at h
    · simp at h
  · rename_i h1; exact absurd h h1
/-- What was packed reads well. -/
theorem bitE_pkL {w m : Nat} (f : Nat → Bool) (h : bysE w m = 0) : bitE w m (pkL (w * m) f) = 0 := by
  unfold bitE
  rw [if_pos h, if_pos (by rw [pkL_len, bys_nat h]), if_pos]
  rw [tlB_iff, pkL_len]
  intro p h1 h2
  rw [Int.toNat_natCast, Int.toNat_natCast] at h1
  rw [fB_pkL f (by omega)]
  simp
  omega
theorem sd_at {w : Nat} {l : List Int} {i k : Nat} (hk : k < w) : sdF w l (i * w + k) = bt (l.getD i 0) (w - 1 - k) := by
  unfold sdF
  have h1 : (i * w + k) / w = i := by rw [Nat.mul_comm, Nat.mul_add_div (by omega), Nat.div_eq_of_lt hk, Nat.add_zero]
  have h2 : (i * w + k) % w = k := by rw [Nat.mul_comm, Nat.mul_add_mod, Nat.mod_eq_of_lt hk]
  rw [h1, h2]
theorem pl_at {w : Nat} {l : List Int} {i k : Nat} (hi : i < l.length) : plF w l (k * l.length + i) = bt (l.getD i 0) (w - 1 - k) := by
  unfold plF
  have h1 : (k * l.length + i) / l.length = k := by rw [Nat.mul_comm, Nat.mul_add_div (by omega), Nat.div_eq_of_lt hi, Nat.add_zero]
  have h2 : (k * l.length + i) % l.length = i := by rw [Nat.mul_comm, Nat.mul_add_mod, Nat.mod_eq_of_lt hi]
  rw [h1, h2]
theorem place_lt {w m i k : Nat} (hi : i < m) (hk : k < w) : i * w + k < w * m := by
  have : (i + 1) * w ≤ m * w := Nat.mul_le_mul_right w (by omega)
  rw [Nat.add_mul, Nat.one_mul] at this
  rw [Nat.mul_comm w m]
  omega
theorem fB_in {n p : Nat} (f : Nat → Bool) (h : p < n) : fB (pkL n f) p = f p := by
  rw [fB_pkL f (by omega)]
  simp [h]
theorem numbers_back {w : Nat} {l : List Int} (h0 : ∀ n ∈ l, 0 ≤ n ∧ n < 2 ^ w) {g : Nat → Nat → Bool} (hg : ∀ i k, i < l.length → k < w → g i k = bt (l.getD i 0) (w - 1 - k)) :
    (List.range l.length).map (fun i => nmF w fun k => g i k) = l := by
  apply List.ext_getElem?
  intro i
  by_cases hi : i < l.length
  · rw [List.getElem?_map, List.getElem?_range hi, Option.map_some, List.getElem?_eq_getElem hi]
    congr 1
    have h := h0 _ (List.getElem_mem hi)
    rw [nmF_congr (fun k hk => hg i k hi hk), List.getD_eq_getElem?_getD, List.getElem?_eq_getElem hi, Option.getD_some]
    exact nmF_of h.1 h.2
  · rw [List.getElem?_eq_none (by simp; omega), List.getElem?_eq_none (by omega)]
theorem may_nat {w : Int} {l : List Int} (h : mayE w l = 0) (ul : U64s l) : ∃ k : Nat, w = k ∧ k ≤ 32 ∧ bysE (k : Int) (l.length : Int) = 0 ∧ (∀ n ∈ l, 0 ≤ n ∧ n < 2 ^ k) := by
  obtain ⟨h1, h2⟩ := mayE_ok h
  have hb := bys_ok h1
  obtain ⟨k, rfl⟩ := Int.eq_ofNat_of_zero_le hb.1.1
  have hk : k ≤ 32 := by omega
  exact ⟨k, rfl, hk, h1, fun n hn => ⟨(ul n hn).1, (fitsB_iff hk ul).1 h2 n hn⟩⟩
theorem upk_pck {w : Int} {l : List Int} (h : mayE w l = 0) (ul : U64s l) : bitE w l.length (pckV w l) = 0 ∧ upkV w l.length (pckV w l) = l := by
  obtain ⟨k, rfl, hk, h1, h2⟩ := may_nat h ul
  unfold pckV upkV
  rw [if_pos h, Int.toNat_natCast, if_pos (bitE_pkL _ h1)]
  refine ⟨bitE_pkL _ h1, ?_⟩
  rw [Int.toNat_natCast]
  exact numbers_back h2 fun i j hi hj => by rw [fB_in _ (place_lt hi hj), sd_at hj]
theorem uwv_wev {w : Int} {l : List Int} (h : mayE w l = 0) (ul : U64s l) : bitE w l.length (wevV w l) = 0 ∧ uwvV w l.length (wevV w l) = l := by
  obtain ⟨k, rfl, hk, h1, h2⟩ := may_nat h ul
  unfold wevV uwvV
  rw [if_pos h, Int.toNat_natCast, if_pos (bitE_pkL _ h1)]
  refine ⟨bitE_pkL _ h1, ?_⟩
  rw [Int.toNat_natCast]
  exact numbers_back h2 fun i j hi hj => by
    have := place_lt (w := l.length) (m := k) hj hi
    rw [Nat.mul_comm l.length k] at this
    rw [fB_in _ this, pl_at hi]
theorem read_sgn {l : List Bool} (h : l.length ≤ 4096) : bitE 1 l.length (sgnV l) = 0 ∧ bitV 1 l.length (sgnV l) = l := by
  have h1 : bysE (1 : Nat) (l.length : Nat) = 0 := by unfold bysE; rw [if_neg (by omega), if_neg (by omega)]
  have h2 := bitE_pkL (w := 1) (m := l.length) (fun p => l.getD p false) h1
  rw [Nat.one_mul] at h2
  have h2 : bitE 1 l.length (pkL l.length fun p => l.getD p false) = 0 := h2
  unfold sgnV bitV
  rw [if_neg (by omega), if_pos h2]
  refine ⟨h2, ?_⟩
  rw [show (1 : Int).toNat = 1 from rfl, Int.toNat_natCast, Nat.one_mul]
  apply List.ext_getElem?
  intro i
  by_cases hi : i < l.length
  · rw [mkB_at _ hi, fB_in _ hi, List.getD_eq_getElem?_getD, List.getElem?_eq_getElem hi, Option.getD_some]
  · rw [List.getElem?_eq_none (by rw [mkB_len]; omega), List.getElem?_eq_none (by omega)]
theorem upk_len {w m : Int} {b : List Int} (h : bitE w m b = 0) : ((upkV w m b).length : Int) = m := by
  have := bys_ok (bitE_ok h).1
  unfold upkV
  rw [if_pos h]
  simp
  omega
theorem uwv_len {w m : Int} {b : List Int} (h : bitE w m b = 0) : ((uwvV w m b).length : Int) = m := by
  have := bys_ok (bitE_ok h).1
  unfold uwvV
  rw [if_pos h]
  simp
  omega
theorem range_getD {m i : Nat} (g : Nat → Int) (h : i < m) : ((List.range m).map g).getD i 0 = g i := by
  rw [List.getD_eq_getElem?_getD, List.getElem?_map, List.getElem?_range h]; rfl
theorem numbers_u64 {k m : Nat} (hk : k ≤ 32) (g : Nat → Nat → Bool) : (∀ n ∈ (List.range m).map (fun i => nmF k (g i)), 0 ≤ n ∧ n < 2 ^ k) ∧ U64s ((List.range m).map (fun i => nmF k (g i))) := by
  have key : ∀ n ∈ (List.range m).map (fun i => nmF k (g i)), 0 ≤ n ∧ n < 2 ^ k := fun n hn => by
    obtain ⟨i, _, rfl⟩ := List.mem_map.1 hn
    exact nmF_lt k _
  refine ⟨key, fun n hn => ?_⟩
  have h := key n hn
  have h2 : (2 : Int) ^ k ≤ 2 ^ 32 := by
    have := Nat.pow_le_pow_right (show 0 < 2 by decide) hk
    exact_mod_cast this
  unfold U64
  have h3 : (2 : Int) ^ 32 = 4294967296 := by decide
  omega
theorem may_numbers {k m : Nat} (hk : k ≤ 32) (h : bysE k m = 0) (g : Nat → Nat → Bool) : mayE k ((List.range m).map (fun i => nmF k (g i))) = 0 := by
  unfold mayE
  have hl : ((List.range m).map (fun i => nmF k (g i))).length = m := by simp
  rw [hl, if_pos h, if_pos]
  rw [fitsB_iff hk (numbers_u64 hk g).2]
  exact fun n hn => ((numbers_u64 hk g).1 n hn).2
theorem pck_upk {w m : Int} {b : List Int} (ub : U8s b) (h : bitE w m b = 0) : mayE w (upkV w m b) = 0 ∧ pckV w (upkV w m b) = b := by
  obtain ⟨h1, h2, h3⟩ := bitE_ok h
  have hb := bys_ok h1
  obtain ⟨k, rfl⟩ := Int.eq_ofNat_of_zero_le hb.1.1
  obtain ⟨m, rfl⟩ := Int.eq_ofNat_of_zero_le hb.2.1
  have hm : mayE (k : Int) (upkV k m b) = 0 := by
    unfold upkV
    rw [if_pos h, Int.toNat_natCast, Int.toNat_natCast]
    exact may_numbers (by omega) h1 _
  refine ⟨hm, ?_⟩
  unfold pckV
  rw [if_pos hm]
  unfold upkV
  rw [if_pos h]
  simp only [Int.toNat_natCast, List.length_map, List.length_range] at h3 ⊢
  rw [bys_nat h1] at h2
  have e : pkL (k * m) (sdF k ((List.range m).map fun i => nmF k fun j => fB b (i * k + j))) = pkL (k * m) (fB b) := pkL_congr fun p hp => by
    have hk0 : 0 < k := Nat.pos_of_ne_zero (by rintro rfl; simp at hp)
    have hi : p / k < m := Nat.div_lt_of_lt_mul hp
    have hj := Nat.mod_lt p hk0
    unfold sdF
    rw [range_getD _ hi, nmF_bit _ hj]
    congr 1
    rw [Nat.mul_comm]; exact Nat.div_add_mod p k
  rw [e]
  exact pkL_fB ub (by omega) h3
theorem wev_uwv {w m : Int} {b : List Int} (ub : U8s b) (h : bitE w m b = 0) : mayE w (uwvV w m b) = 0 ∧ wevV w (uwvV w m b) = b := by
  obtain ⟨h1, h2, h3⟩ := bitE_ok h
  have hb := bys_ok h1
  obtain ⟨k, rfl⟩ := Int.eq_ofNat_of_zero_le hb.1.1
  obtain ⟨m, rfl⟩ := Int.eq_ofNat_of_zero_le hb.2.1
  have hm : mayE (k : Int) (uwvV k m b) = 0 := by
    unfold uwvV
    rw [if_pos h, Int.toNat_natCast, Int.toNat_natCast]
    exact may_numbers (by omega) h1 _
  refine ⟨hm, ?_⟩
  unfold wevV
  rw [if_pos hm]
  unfold uwvV
  rw [if_pos h]
  simp only [Int.toNat_natCast, List.length_map, List.length_range] at h3 ⊢
  rw [bys_nat h1] at h2
  have e : pkL (k * m) (plF k ((List.range m).map fun i => nmF k fun j => fB b (j * m + i))) = pkL (k * m) (fB b) := pkL_congr fun p hp => by
    have hm0 : 0 < m := Nat.pos_of_ne_zero (by rintro rfl; simp at hp)
    have hj : p / m < k := Nat.div_lt_of_lt_mul (by rw [Nat.mul_comm]; exact hp)
    have hi := Nat.mod_lt p hm0
    unfold plF
    simp only [List.length_map, List.length_range]
    rw [range_getD _ hi, nmF_bit _ hj]
    congr 1
    rw [Nat.mul_comm]; exact Nat.div_add_mod p m
  rw [e]
  exact pkL_fB ub (by omega) h3
/-- Of width 1, and of width 0, both ways are the same. -/
theorem upk_uwv {w m : Int} {b : List Int} (h : bitE w m b = 0) (hw : w ≤ 1) : upkV w m b = uwvV w m b := by
  have hb := bys_ok (bitE_ok h).1
  unfold upkV uwvV
  rw [if_pos h, if_pos h]
  refine List.map_congr_left fun i _ => nmF_congr fun k hk => ?_
  have h1 : w.toNat = 1 := by omega
  have h2 : k = 0 := by omega
  rw [h1, h2]
  simp
theorem may_same (w : Int) (l : List Int) : (mayE w l ≠ 0 → pckV w l = [] ∧ wevV w l = []) ∧ (mayE w l = 0 → (pckV w l).length = (w.toNat * l.length + 7) / 8 ∧ (wevV w l).length = (w.toNat * l.length + 7) / 8) := by
  unfold pckV wevV
  constructor
  · intro h; rw [if_neg h, if_neg h]; exact ⟨rfl, rfl⟩
  · intro h; rw [if_pos h, if_pos h, pkL_len, pkL_len]; exact ⟨rfl, rfl⟩
theorem pckV_bytes (w : Int) (l : List Int) : U8s (pckV w l) := by
  unfold pckV
  split
  · exact pkL_bytes _ _
  · intro x hx; simp at hx
theorem wevV_bytes (w : Int) (l : List Int) : U8s (wevV w l) := by
  unfold wevV
  split
  · exact pkL_bytes _ _
  · intro x hx; simp at hx
theorem sgnV_bytes (l : List Bool) : U8s (sgnV l) := by
  unfold sgnV
  split
  · intro x hx; simp at hx
  · exact pkL_bytes _ _
theorem upkV_u64 {w m : Int} (b : List Int) : U64s (upkV w m b) := by
  unfold upkV
  split
  · rename_i h
    have hb := bys_ok (bitE_ok h).1
    exact (numbers_u64 (by omega) _).2
  · intro x hx; simp at hx
theorem uwvV_u64 {w m : Int} (b : List Int) : U64s (uwvV w m b) := by
  unfold uwvV
  split
  · rename_i h
    have hb := bys_ok (bitE_ok h).1
    exact (numbers_u64 (by omega) _).2
  · intro x hx; simp at hx
end Go.Proofs.Ytgkkliibeiklbaa
