
/- Nd: texts joined: QuB QuK QuN TkB TkO QuO SgM SgA SgN Rwb SgC FsA IxQ PlO PlQ PlR Law Arg ArgB ArgU. -/
import Derived.Test.YtkcckncglbjjdaaNc
import Derived.Test.YtkcckncglbjjdaaNb
import Derived.Deep.Cut
import Derived.Test.YtkcckncglbjjdaaNa
import Derived.Test.YtkcckncglbjjdaaShelf
import Derived.Shelf.Slices.Empties
import Derived.RegionTactic
import Derived.Deep.RegionHeld3
import Derived.ChangeAlike
import Derived.Deep.QuietTactic
import Derived.BigQuiet
import Derived.StillTailTactics
import Derived.Test.YtkcckncglbjjdaaRows
import Derived.WalkKit
import Derived.ProofKit
import Derived.OpenShut
import Derived.Carry
import Derived.Deep.Grids
/- What is pressed to levels: by the document. -/
namespace Go.Proofs.Ytkcckncglbjjdaa
open Go.RowKit
set_option maxHeartbeats 1000000
set_option maxRecDepth 100000
set_option linter.unusedVariables false
theorem mostq_ok {v : List Int} (he : mostE v = 0) : v.length ≤ 4096 ∧ 0 ≤ mostV v ∧ mostV v ≤ 9223372036854775807 ∧ (∀ x ∈ v, (szN x : Int) ≤ mostV v) ∧ (mostV v = 0 ∨ ∃ x ∈ v, (szN x : Int) = mostV v) := by
  have hn : ¬ 4096 < v.length := fun h => by unfold mostE at he; rw [(un_long h 0 (numA v)).1] at he; cases he
  have hs : seqE (numA v) v.length = 0 := by unfold mostE at he; rw [(un_ok hn (numA v)).1] at he; exact he
  have h0 := seqE_zero.1 hs
  have hk : ∀ k, k < v.length → (numA v k).1 = absI (v.getD k 0) := fun k hk => ckV_in (ckE_zero.1 (h0 k hk))
  have em : unV 0 (numA v) v.length = (List.range v.length).map fun k => absI (v.getD k 0) := by
    rw [(un_ok hn (numA v)).2]
    unfold seqV
    rw [if_pos hs]
    exact map_range_ext hk
  have ea : ∀ x : Int, absI x = (szN x : Int) := fun x => by unfold absI szN; split <;> omega
  have im : I64 (mostV v) := mx_i64 (unV_i64 fun k _ => ckV_i64 _) 0 (by decide)
  have hmem := mx_mem (unV 0 (numA v) v.length)
  rw [em] at hmem
  have hmv : mostV v = mx ((List.range v.length).map fun k => absI (v.getD k 0)) := by unfold mostV; rw [em]
  rw [← hmv] at hmem
  refine ⟨by omega, mx_nonneg _, i64_le im, fun x hx => ?_, ?_⟩
  · obtain ⟨k, hk⟩ := List.mem_iff_getElem?.1 hx
    have hlt := (List.getElem?_eq_some_iff.1 hk).1
    unfold mostV
    rw [em]
    refine Int.le_trans ?_ (le_mx (List.mem_map.2 ⟨k, by simpa using hlt, rfl⟩))
    rw [ea, getD_of hk]
    exact Int.le_refl _
  · rcases hmem with h | h
    · exact .inl h
    · right
      obtain ⟨k, hk, e⟩ := List.mem_map.1 h
      have hlt : k < v.length := by simpa using hk
      refine ⟨v[k], List.getElem_mem hlt, ?_⟩
      rw [← e, ea, getD_of (List.getElem?_eq_getElem hlt)]
theorem most_i64 (v : List Int) : I64 (mostV v) := mx_i64 (unV_i64 fun k _ => ckV_i64 _) 0 (by decide)
theorem lvlE_most {v : List Int} {wide x : Int} (he : mostE v = 0) (hw : stsE wide = 0) (hx : x ∈ v) : lvlE x (mostV v) wide = 0 := by
  obtain ⟨_, h1, _, h2, _⟩ := mostq_ok he
  exact lvlE_ok.2 ⟨hw, h1, h2 x hx⟩
/-- A vector that a call tells, its levels and signs the call's own. -/
def OwnSl (base : Nat) (s : SentV) (er : Int) (w : World) (e : Ending) (w' : World) : Prop :=
  ∃ A c A' c', e = .returned (.tuple #[encT s ⟨none, 0, none, 0, A, c, A', c'⟩, .int .i64 er]) ∧ s.L = [] ∧ s.V = [] ∧
    w'.ownsRow base 68 1 (.slice A s.lev.length c) s.lev.length (s.lev.map (Value.int .u64)) ∧ w'.ownsRow base 4 1 (.slice A' s.neg.length c') s.neg.length (s.neg.map Value.bool) ∧ apt A A' ∧ Below base w w'
theorem own_nilb (w : World) (B : Nat) (e : TypeId) : w.ownsRow B e 1 (.slice none 0 0) 0 [] := World.ownsRow_nil w B e 1
theorem plQ_le {x scale wide : Int} {seed : Nat} {n : List Int} {i : Nat} (h : lvlE x scale wide = 0) : lvlL x scale wide ≤ 255 := by
  obtain ⟨h1, h2, h3⟩ := lvlE_ok.1 h
  unfold lvlL
  rw [if_pos h]
  exact Nat.le_trans (lvQ_le (by omega) _) (topQ_bd h1).2
end Go.Proofs.Ytkcckncglbjjdaa
/- Levels and what they are worth, in whole numbers alone: how far off one is, what is sure, what is gone there and back. Plain mathematics. No program in sight. -/
namespace Go.Proofs.Ytkcckncglbjjdaa
set_option maxRecDepth 100000
set_option linter.unusedVariables false
/-- z of a scale s, by t levels: the level below is worth no more than z, and less by no more than s / t + 1. -/
theorem qk_down {z s t : Nat} (hs : 0 < s) (ht : 0 < t) : z * t / s * s / t ≤ z ∧ z ≤ z * t / s * s / t + (s / t + 1) := by
  obtain ⟨L, hL⟩ : ∃ L, z * t / s = L := ⟨_, rfl⟩
  have h1 := Nat.div_add_mod (z * t) s
  have h2 := Nat.mod_lt (z * t) hs
  rw [hL] at h1 ⊢
  obtain ⟨r, hr⟩ : ∃ r, z * t % s = r := ⟨_, rfl⟩
  rw [hr] at h1 h2
  have h3 := Nat.div_add_mod (L * s) t
  have h4 := Nat.mod_lt (L * s) ht
  obtain ⟨V, hV⟩ : ∃ V, L * s / t = V := ⟨_, rfl⟩
  obtain ⟨q, hq⟩ : ∃ q, L * s % t = q := ⟨_, rfl⟩
  rw [hV, hq] at h3
  rw [hq] at h4
  rw [hV]
  have h5 := Nat.div_add_mod s t
  have h6 := Nat.mod_lt s ht
  obtain ⟨a, ha⟩ : ∃ a, s / t = a := ⟨_, rfl⟩
  obtain ⟨b, hb⟩ : ∃ b, s % t = b := ⟨_, rfl⟩
  rw [ha, hb] at h5
  rw [hb] at h6
  rw [ha]
  have e1 : s * L = L * s := Nat.mul_comm s L
  rw [e1] at h1
  -- z * t = t * V + q + r, with q < t and r < s = t * a + b
  have h7 : z * t = t * V + (q + r) := by omega
  constructor
  · refine Nat.le_of_mul_le_mul_left (c := t) ?_ ht
    rw [Nat.mul_comm t z, h7]
    omega
  · refine Nat.le_of_lt_succ (Nat.lt_of_mul_lt_mul_left (a := t) ?_)
    have e2 : t * (V + (a + 1)).succ = t * V + (t * a + (t + t)) := by rw [Nat.mul_succ, Nat.mul_add, Nat.mul_add, Nat.mul_one]; omega
    rw [Nat.mul_comm t z, h7, e2]
    omega
/-- The level above is worth no less than z, and more by no more than s / t + 1. -/
theorem qk_up {z s t : Nat} (hs : 0 < s) (ht : 0 < t) : z ≤ (z * t / s + 1) * s / t ∧ (z * t / s + 1) * s / t ≤ z + (s / t + 1) := by
  obtain ⟨L, hL⟩ : ∃ L, z * t / s = L := ⟨_, rfl⟩
  have h1 := Nat.div_add_mod (z * t) s
  have h2 := Nat.mod_lt (z * t) hs
  rw [hL] at h1 ⊢
  obtain ⟨r, hr⟩ : ∃ r, z * t % s = r := ⟨_, rfl⟩
  rw [hr] at h1 h2
  have e0 : (L + 1) * s = s * L + s := by rw [Nat.add_mul, Nat.one_mul, Nat.mul_comm]
  have h3 := Nat.div_add_mod ((L + 1) * s) t
  have h4 := Nat.mod_lt ((L + 1) * s) ht
  obtain ⟨V, hV⟩ : ∃ V, (L + 1) * s / t = V := ⟨_, rfl⟩
  obtain ⟨q, hq⟩ : ∃ q, (L + 1) * s % t = q := ⟨_, rfl⟩
  rw [hV, hq, e0] at h3
  rw [hq] at h4
  rw [hV]
  have h5 := Nat.div_add_mod s t
  have h6 := Nat.mod_lt s ht
  obtain ⟨a, ha⟩ : ∃ a, s / t = a := ⟨_, rfl⟩
  obtain ⟨b, hb⟩ : ∃ b, s % t = b := ⟨_, rfl⟩
  rw [ha, hb] at h5
  rw [hb] at h6
  rw [ha]
  -- t * V + q = z * t - r + s
  have h7 : t * V + q + r = z * t + s := by omega
  constructor
  · refine Nat.le_of_lt_succ (Nat.lt_of_mul_lt_mul_left (a := t) ?_)
    rw [Nat.mul_succ, Nat.mul_comm t z]
    omega
  · refine Nat.le_of_lt_succ (Nat.lt_of_mul_lt_mul_left (a := t) ?_)
    have e2 : t * (z + (a + 1)).succ = z * t + (t * a + (t + t)) := by rw [Nat.mul_succ, Nat.mul_add, Nat.mul_add, Nat.mul_one, Nat.mul_comm t z]; omega
    rw [e2]
    omega
/-- Where something is left the level above is one, too. -/
theorem qk_room {z s t : Nat} (hz : z ≤ s) (hs : 0 < s) (hr : z * t % s ≠ 0) : z * t / s + 1 ≤ t := by
  have h1 := Nat.div_add_mod (z * t) s
  have h3 : z * t ≤ s * t := Nat.mul_le_mul_right t hz
  rcases Nat.lt_or_ge (z * t / s) t with h | h
  · exact h
  · exfalso
    have h4 : s * t ≤ s * (z * t / s) := Nat.mul_le_mul_left s h
    omega
/-- The greatest one is at the greatest level, and nothing is left; so it is with none. -/
theorem qk_all {s t : Nat} (hs : 0 < s) (ht : 0 < t) : s * t / s = t ∧ s * t % s = 0 ∧ t * s / t = s := by
  refine ⟨Nat.mul_div_cancel_left t hs, Nat.mul_mod_right s t, Nat.mul_div_cancel_left s ht⟩
theorem qk_none (s t : Nat) : 0 * t / s = 0 ∧ 0 * t % s = 0 ∧ 0 * s / t = 0 := by simp
/-- What a level is worth has no greater level; and no less by more than one, where there are fewer levels than the scale. -/
theorem qk_again {l s t : Nat} (hs : 0 < s) (ht : 0 < t) : l * s / t * t / s ≤ l ∧ (t < s → l ≤ l * s / t * t / s + 1) := by
  have h3 := Nat.div_add_mod (l * s) t
  have h4 := Nat.mod_lt (l * s) ht
  obtain ⟨V, hV⟩ : ∃ V, l * s / t = V := ⟨_, rfl⟩
  obtain ⟨q, hq⟩ : ∃ q, l * s % t = q := ⟨_, rfl⟩
  rw [hV, hq] at h3
  rw [hq] at h4
  rw [hV]
  have e1 : V * t = t * V := Nat.mul_comm V t
  constructor
  · refine Nat.le_of_lt_succ (Nat.div_lt_of_lt_mul ?_)
    rw [Nat.mul_succ, e1, Nat.mul_comm s l]
    omega
  · intro hts
    rcases Nat.eq_zero_or_pos l with h | h
    · rw [h]; exact Nat.zero_le _
    · obtain ⟨k, rfl⟩ : ∃ k, l = k + 1 := ⟨l - 1, by omega⟩
      refine Nat.succ_le_succ ?_
      rw [Nat.le_div_iff_mul_le hs, e1]
      have e2 : (k + 1) * s = k * s + s := by rw [Nat.add_mul, Nat.one_mul]
      omega
end Go.Proofs.Ytkcckncglbjjdaa
/- What is pressed to levels may be, is near, and is loosened to what is not far; what is sure; what is turned. Plain mathematics. No program in sight. -/
namespace Go.Proofs.Ytkcckncglbjjdaa
open Go.RowKit
set_option maxRecDepth 100000
set_option linter.unusedVariables false
theorem prqE_ok {v : List Int} {wide : Int} : prqE v wide = 0 ↔ stsE wide = 0 ∧ v ≠ [] ∧ mostE v = 0 := by
  unfold prqE
  by_cases h : stsE wide ≠ 0 ∨ v = []
  · rw [if_pos h]
    refine ⟨fun h2 => by omega, fun ⟨a, b, _⟩ => ?_⟩
    rcases h with h | h
    · exact absurd a h
    · exact absurd h b
  · rw [if_neg h]
    refine ⟨fun h2 => ⟨Classical.byContradiction fun h3 => h (.inl h3), fun h3 => h (.inr h3), h2⟩, fun ⟨_, _, c⟩ => c⟩
/-- What stands below a number, and whether anything is left, where nothing is wrong. -/
theorem lvl_is {x scale wide : Int} (h : lvlE x scale wide = 0) : lvlL x scale wide = szN x * topQ wide / scale.toNat ∧ lvlR x scale wide = szN x * topQ wide % scale.toNat ∧ szN x ≤ scale.toNat ∧ 1 ≤ topQ wide := by
  have h2 := lvlE_ok.1 h
  refine ⟨?_, ?_, by omega, (topQ_bd h2.1).1⟩
  · unfold lvlL lvQ; rw [if_pos h]
  · unfold lvlR rsQ; rw [if_pos h]
/-- A level that is pressed is the one below, or the one above where something is left; there is such a level. -/
theorem plQ_is {x scale wide : Int} {seed : Nat} {n : List Int} {i : Nat} (h : lvlE x scale wide = 0) :
    (plQ scale wide seed n i x = lvlL x scale wide ∨ (lvlR x scale wide ≠ 0 ∧ plQ scale wide seed n i x = lvlL x scale wide + 1)) ∧ plQ scale wide seed n i x ≤ topQ wide := by
  obtain ⟨a, b, c, d⟩ := lvl_is h
  have hle : lvlL x scale wide ≤ topQ wide := by
    have := lvQ_le c (topQ wide)
    unfold lvQ at this
    rw [a]
    exact this
  unfold plQ
  by_cases hc : 0 < lvlR x scale wide ∧ belV scale.toNat seed (n ++ [(i : Int)]) < lvlR x scale wide
  · rw [if_pos hc]
    refine ⟨.inr ⟨by omega, rfl⟩, ?_⟩
    have h0 : szN x * topQ wide % scale.toNat ≠ 0 := by rw [← b]; omega
    have hs : 0 < scale.toNat := by
      rcases Nat.eq_zero_or_pos scale.toNat with h1 | h1
      · exfalso
        rw [h1, Nat.mod_zero] at h0
        have : szN x = 0 := by omega
        rw [this] at h0
        simp at h0
      · exact h1
    have := qk_room c hs h0
    rw [a]
    exact this
  · rw [if_neg hc]
    exact ⟨.inl rfl, hle⟩
theorem wdt_top {l : Nat} {wide : Int} (hw : stsE wide = 0) (h : l ≤ topQ wide) : (wdt (l : Int) : Int) ≤ wide := by
  have hw2 := stsE_ok.1 hw
  have hb := topQ_bd hw
  have h2 := (bitLen_lt wide.toNat l (by omega) (by omega)).2 (by unfold topQ at h hb; omega)
  unfold wdt
  rw [Int.toNat_natCast]
  omega
theorem prq_parts {v : List Int} {wide : Int} {seed : Nat} {n : List Int} (h : prqE v wide = 0) : prqS v wide seed n = ⟨2, v.length, [], [], mostV v, wide, levQ v wide seed n v.length, negQ v v.length⟩ := if_pos h
theorem prq_lvl {v : List Int} {wide : Int} (h : prqE v wide = 0) {i : Nat} (hi : i < v.length) : lvlE (v.getD i 0) (mostV v) wide = 0 := by
  obtain ⟨h1, h2, h3⟩ := prqE_ok.1 h
  refine lvlE_most h3 h1 ?_
  rw [List.getD_eq_getElem?_getD, List.getElem?_eq_getElem hi, Option.getD_some]
  exact List.getElem_mem hi
theorem prq_may {v : List Int} {wide : Int} {seed : Nat} {n : List Int} (h : prqE v wide = 0) : mayB (prqS v wide seed n) = true := by
  obtain ⟨h1, h2, h3⟩ := prqE_ok.1 h
  obtain ⟨m1, m2, m3, m4, _⟩ := mostq_ok h3
  have hw := stsE_ok.1 h1
  have hl : 1 ≤ v.length := by
    rcases Nat.eq_zero_or_pos v.length with e | e
    · exact absurd (List.length_eq_zero_iff.1 e) h2
    · exact e
  rw [prq_parts h]
  refine mayB_iff.2 ⟨by show (1 : Int) ≤ v.length; omega, by show (v.length : Int) ≤ 4096; omega, .inr (.inr (.inl ⟨rfl, hw.1, hw.2, ?_, ?_, rfl, rfl, m2, ?_⟩))⟩
  · show ((levQ v wide seed n v.length).length : Int) = v.length
    rw [levQ_len]
  · show fitsB wide (levQ v wide seed n v.length) = true
    unfold fitsB levQ
    rw [List.all_map, List.all_eq_true]
    intro i hi
    have hi' := List.mem_range.1 hi
    exact decide_eq_true (wdt_top h1 (plQ_is (prq_lvl h hi')).2)
  · show ((negQ v v.length).length : Int) = v.length
    rw [negQ_len]
theorem levq_getD (v : List Int) (wide : Int) (seed : Nat) (n : List Int) {m i : Nat} (h : i < m) : (levQ v wide seed n m).getD i 0 = (plQ (mostV v) wide seed n i (v.getD i 0) : Int) := by
  rw [List.getD_eq_getElem?_getD, levQ_at v wide seed n h, Option.getD_some]
theorem negq_getD (v : List Int) {m i : Nat} (h : i < m) : (negQ v m).getD i false = decide (v.getD i 0 < 0) := by
  rw [List.getD_eq_getElem?_getD, negQ_at v h, Option.getD_some]
/-- What is pressed is near. -/
theorem prq_near {v : List Int} {wide : Int} {seed : Nat} {n : List Int} (h : prqE v wide = 0) : nearB v (prqS v wide seed n) = true := by
  have hm := prq_may (seed := seed) (n := n) h
  have hp := prq_parts (seed := seed) (n := n) h
  unfold nearB
  rw [Bool.and_eq_true]
  constructor
  · unfold nrHead
    rw [decide_eq_true_iff]
    refine ⟨(prqE_ok.1 h).2.2, hm, ?_, ?_, ?_⟩ <;> rw [hp]
  · unfold nrAll
    rw [List.all_eq_true]
    intro i hi
    have hi' := List.mem_range.1 hi
    rw [hp]
    show nrOne (v.getD i 0) (mostV v) wide ((levQ v wide seed n v.length).getD i 0) ((negQ v v.length).getD i false) = true
    rw [levq_getD v wide seed n hi', negq_getD v hi']
    unfold nrOne
    rw [Bool.and_eq_true]
    refine ⟨by simp, ?_⟩
    rcases (plQ_is (seed := seed) (n := n) (i := i) (prq_lvl h hi')).1 with e | ⟨e0, e⟩
    · rw [e]; simp
    · rw [e]
      have : (lvlR (v.getD i 0) (mostV v) wide != 0) = true := by simpa using e0
      rw [this]
      simp
/-- What it is loosened to. -/
theorem prq_loose {v : List Int} {wide : Int} {seed : Nat} {n : List Int} (h : prqE v wide = 0) :
    loqE (prqS v wide seed n) = 0 ∧ loqV (prqS v wide seed n) = loqL (prqS v wide seed n) v.length ∧
    ∀ i, i < v.length → loQ (prqS v wide seed n) i = if v.getD i 0 < 0 then -(vlQ (plQ (mostV v) wide seed n i (v.getD i 0)) (mostV v).toNat (topQ wide) : Int) else (vlQ (plQ (mostV v) wide seed n i (v.getD i 0)) (mostV v).toNat (topQ wide) : Int) := by
  have hm := prq_may (seed := seed) (n := n) h
  have hp := prq_parts (seed := seed) (n := n) h
  obtain ⟨h1, h2, h3⟩ := prqE_ok.1 h
  obtain ⟨m1, m2, m3, m4, _⟩ := mostq_ok h3
  have hE : loqE (prqS v wide seed n) = 0 := by
    unfold loqE
    rw [if_pos ⟨hm, by rw [hp]⟩]
  refine ⟨hE, ?_, fun i hi => ?_⟩
  · unfold loqV
    rw [if_pos hE, hp]
    show loqL _ (levQ v wide seed n v.length).length = _
    rw [levQ_len]
  · rw [hp]
    unfold loQ
    show (if (negQ v v.length).getD i false = true then -(valV ((levQ v wide seed n v.length).getD i 0).toNat (mostV v) wide : Int) else (valV ((levQ v wide seed n v.length).getD i 0).toNat (mostV v) wide : Int)) = _
    rw [negq_getD v hi, levq_getD v wide seed n hi, Int.toNat_natCast]
    have hv : valE (plQ (mostV v) wide seed n i (v.getD i 0)) (mostV v) wide = 0 := valE_ok.2 ⟨h1, m2, (plQ_is (prq_lvl h hi)).2⟩
    unfold valV
    rw [if_pos hv]
    by_cases hc : v.getD i 0 < 0
    · rw [if_pos (decide_eq_true hc), if_pos hc]
    · rw [if_neg (by simpa using hc), if_neg hc]
/-- It is not far: a number, its level's worth, and how far off this is. -/
theorem prq_off {v : List Int} {wide : Int} {seed : Nat} {n : List Int} (h : prqE v wide = 0) {i : Nat} (hi : i < v.length) {x : Int} (hx : loQ (prqS v wide seed n) i = x) :
    (v.getD i 0 - x).natAbs ≤ (mostV v).toNat / topQ wide + 1 ∧ ¬ (0 < x ∧ v.getD i 0 < 0) ∧ ¬ (x < 0 ∧ 0 < v.getD i 0) ∧ szN x ≤ (mostV v).toNat := by
  obtain ⟨a, b, c, d⟩ := lvl_is (prq_lvl h hi)
  obtain ⟨e, f⟩ := plQ_is (seed := seed) (n := n) (i := i) (prq_lvl h hi)
  have hl := (prq_loose (seed := seed) (n := n) h).2.2 i hi
  rw [hx] at hl
  obtain ⟨p, hp⟩ : ∃ p, plQ (mostV v) wide seed n i (v.getD i 0) = p := ⟨_, rfl⟩
  obtain ⟨y, hy⟩ : ∃ y, v.getD i 0 = y := ⟨_, rfl⟩
  rw [hy] at hp a b c e f hl ⊢
  rw [hp] at e f hl
  obtain ⟨s, hs⟩ : ∃ s, (mostV v).toNat = s := ⟨_, rfl⟩
  obtain ⟨t, ht⟩ : ∃ t, topQ wide = t := ⟨_, rfl⟩
  rw [hs, ht] at a b
  rw [hs] at c
  rw [ht] at d f
  rw [hs, ht] at hl ⊢
  have hV : vlQ p s t ≤ s := vlQ_le f
  have hz : szN y = y.natAbs := rfl
  have hO : vlQ p s t ≤ szN y + (s / t + 1) ∧ szN y ≤ vlQ p s t + (s / t + 1) := by
    rcases Nat.eq_zero_or_pos s with h0 | h0
    · have e0 : szN y = 0 := by omega
      have e1 : vlQ p s t = 0 := by omega
      rw [e0, e1]
      exact ⟨Nat.zero_le _, Nat.zero_le _⟩
    · unfold vlQ
      rcases e with e | ⟨_, e⟩
      · rw [e, a]
        have := qk_down (z := szN y) h0 (show 0 < t by omega)
        omega
      · rw [e, a]
        have := qk_up (z := szN y) h0 (show 0 < t by omega)
        omega
  obtain ⟨V, hVV⟩ : ∃ V, vlQ p s t = V := ⟨_, rfl⟩
  obtain ⟨D, hD⟩ : ∃ D, s / t = D := ⟨_, rfl⟩
  rw [hVV] at hl hV hO
  rw [hD] at hO ⊢
  have hzx : szN x = x.natAbs := rfl
  rw [hzx]
  rw [hz] at hO
  split at hl <;> subst hl <;> omega
end Go.Proofs.Ytkcckncglbjjdaa
/- What is picked, the least size of some: by the document. -/
namespace Go.Proofs.Ytkcckncglbjjdaa
open Go.RowKit
set_option maxHeartbeats 400000
set_option maxRecDepth 100000
set_option linter.unusedVariables false
/-- The first k, rising; its error. -/
def pikE (v : List Int) (k : Int) : Int := if orkE v ≠ 0 then orkE v else if k < 0 ∨ (v.length : Int) < k then 1 else 0
def pikV (v : List Int) (k : Int) : List Int := if pikE v k = 0 then pkI v k.toNat else []
theorem pikE_ok {v : List Int} {k : Int} : pikE v k = 0 ↔ v.length ≤ 4096 ∧ 0 ≤ k ∧ k ≤ v.length := by
  unfold pikE
  by_cases h : orkE v = 0
  · have := orkE_ok.1 h
    rw [if_neg (by omega)]
    split <;> omega
  · have : ¬ v.length ≤ 4096 := fun h2 => h (orkE_ok.2 h2)
    rw [if_pos h]
    omega
theorem pikV_len {v : List Int} {k : Int} (h : pikE v k = 0) : ((pikV v k).length : Int) = k := by
  have h2 := pikE_ok.1 h
  unfold pikV
  rw [if_pos h, pkI_len (by omega)]
  omega
theorem pikV_le (v : List Int) (k : Int) : (pikV v k).length ≤ v.length := by
  by_cases h : pikE v k = 0
  · have h2 := pikE_ok.1 h
    have := pikV_len h
    omega
  · unfold pikV
    rw [if_neg h]
    simp
theorem mrg_pick {v : List Int} {k : Nat} (h : orkE v = 0) (hk : k ≤ v.length) : mrgV [(orkV v).take k] = pkI v k := by
  refine (mrgV_eq (pkI_ris v k) fun x => ?_).symm
  unfold orkV pkI
  rw [if_pos h, ← List.map_take]
  simp only [List.mem_singleton, exists_eq_left, List.mem_map]
  constructor
  · rintro ⟨i, hi, rfl⟩
    exact ⟨i, (pkF_ord hk).1 hi, rfl⟩
  · rintro ⟨i, hi, rfl⟩
    exact ⟨i, (pkF_ord hk).2 hi, rfl⟩
/-- The least size at some places, and whether there is one. -/
def lsS (v : List Int) (a : Nat × Bool) (n : Int) : Nat × Bool :=
  if n < 0 ∨ (v.length : Int) ≤ n then a else if a.2 = false ∨ szN (v.getD n.toNat 0) < a.1 then (szN (v.getD n.toNat 0), true) else a
def lstR (l v : List Int) : Nat × Bool := l.foldl (lsS v) (0, false)
theorem lst_snoc {l : List Int} {k : Nat} {n : Int} (v : List Int) (h : l[k]? = some n) : lstR (l.take (k + 1)) v = lsS v (lstR (l.take k) v) n := by
  unfold lstR
  rw [take_snoc h, List.foldl_append]
  rfl
theorem lst_bound {v : List Int} (uv : ∀ x ∈ v, I64 x) : ∀ (l : List Int) (a : Nat × Bool), a.1 ≤ 9223372036854775808 → (l.foldl (lsS v) a).1 ≤ 9223372036854775808
  | [], a, h => h
  | n :: l, a, h => by
    refine lst_bound uv l _ ?_
    unfold lsS
    split
    · exact h
    · rename_i h1
      split
      · have hn : n.toNat < v.length := by omega
        refine szN_le (uv _ ?_)
        rw [List.getD_eq_getElem?_getD, List.getElem?_eq_getElem hn, Option.getD_some]
        exact List.getElem_mem hn
      · exact h
end Go.Proofs.Ytkcckncglbjjdaa
/- Orders, who is picked, who is left, the least size, scaled and turned: what the laws ask. Plain mathematics. No program in sight. -/
namespace Go.Proofs.Ytkcckncglbjjdaa
open Go.RowKit
set_option maxRecDepth 100000
set_option linter.unusedVariables false
theorem ork_at {v : List Int} (h : orkE v = 0) {r : Nat} {n : Int} (hn : (orkV v)[r]? = some n) : ∃ m : Nat, n = m ∧ m < v.length ∧ rkN v m = r := by
  have hr : r < v.length := by
    have := (List.getElem?_eq_some_iff.1 hn).1
    rwa [orkV_len h] at this
  unfold orkV at hn
  rw [if_pos h, List.getElem?_map, ordT_at hr] at hn
  simp at hn
  exact ⟨atR v r, hn.symm, (atR_is hr).1, (atR_is hr).2⟩
theorem ork_next {v : List Int} (h : orkE v = 0) {r a b : Nat} (ha : (orkV v)[r]? = some (a : Int)) (hb : (orkV v)[r + 1]? = some (b : Int)) : ahB v a b = true := by
  obtain ⟨m, e, h1, h2⟩ := ork_at h ha
  obtain ⟨m', e', h1', h2'⟩ := ork_at h hb
  obtain rfl : a = m := by omega
  obtain rfl : b = m' := by omega
  exact (rk_iff h1 h1').1 (by omega)
theorem pik_at {v : List Int} {k : Int} (h : pikE v k = 0) {n : Int} (hn : n ∈ pikV v k) : ∃ m : Nat, n = m ∧ m < v.length ∧ m ∈ pkF v k.toNat := by
  unfold pikV at hn
  rw [if_pos h] at hn
  obtain ⟨i, e, hi, hr⟩ := pkI_mem.1 hn
  exact ⟨i, e, hi, pkF_mem.2 ⟨hi, hr⟩⟩
theorem pik_in {v : List Int} {k : Int} (h : pikE v k = 0) {m : Nat} : (m : Int) ∈ pikV v k ↔ m ∈ pkF v k.toNat := by
  unfold pikV pkI
  rw [if_pos h, List.mem_map]
  constructor
  · rintro ⟨i, hi, e⟩
    obtain rfl : i = m := by omega
    exact hi
  · intro hm
    exact ⟨m, hm, rfl⟩
theorem pik_ris (v : List Int) (k : Int) : risP (pikV v k) := by
  unfold pikV
  split
  · exact pkI_ris _ _
  · exact ris_nil
theorem pik_plc {v : List Int} {k : Int} (h : pikE v k = 0) (h0 : v ≠ []) : chkE v.length (pikV v k) = 0 := by
  refine chk_ok.2 ⟨?_, ?_, pik_ris v k, fun n hn => ?_⟩
  · have : v.length ≠ 0 := fun e => h0 (List.length_eq_zero_iff.1 e)
    omega
  · have := (pikE_ok.1 h).1
    omega
  · obtain ⟨m, rfl, hm, _⟩ := pik_at h hn
    omega
theorem pik_left {v : List Int} {k : Int} (h : pikE v k = 0) (h0 : v ≠ []) {n : Int} (hn : n ∈ lfV v.length (pikV v k)) : ∃ m : Nat, n = m ∧ m < v.length ∧ m ∉ pkF v k.toNat := by
  unfold lfV at hn
  rw [if_pos (pik_plc h h0), Int.toNat_natCast] at hn
  obtain ⟨⟨h1, h2⟩, h3⟩ := lfF_mem.1 hn
  obtain ⟨m, rfl⟩ := Int.eq_ofNat_of_zero_le h1
  exact ⟨m, rfl, by omega, fun hm => h3 ((pik_in h).2 hm)⟩
/-- The least of some sizes, all of them of places. -/
theorem lst_is {v : List Int} : ∀ (l : List Int) (a : Nat × Bool), (∀ n ∈ l, 0 ≤ n ∧ n < (v.length : Int)) →
    (l = [] ∧ l.foldl (lsS v) a = a) ∨ ((l.foldl (lsS v) a).2 = true ∧ ((∃ n ∈ l, (l.foldl (lsS v) a).1 = szN (v.getD n.toNat 0)) ∨ (a.2 = true ∧ (l.foldl (lsS v) a).1 = a.1)))
  | [], a, _ => .inl ⟨rfl, rfl⟩
  | n :: l, a, h => by
    right
    have hn := h n (by simp)
    have hs : lsS v a n = if a.2 = false ∨ szN (v.getD n.toNat 0) < a.1 then (szN (v.getD n.toNat 0), true) else a := by
      unfold lsS
      rw [if_neg (by omega)]
    rw [List.foldl_cons]
    have ih := lst_is l (lsS v a n) (fun m hm => h m (by simp [hm]))
    by_cases hc : a.2 = false ∨ szN (v.getD n.toNat 0) < a.1
    · rw [if_pos hc] at hs
      rw [hs] at ih ⊢
      rcases ih with ⟨e1, e2⟩ | ⟨e1, ⟨m, hm, e2⟩ | ⟨e2, e3⟩⟩
      · rw [e2]
        exact ⟨rfl, .inl ⟨n, by simp, rfl⟩⟩
      · exact ⟨e1, .inl ⟨m, by simp [hm], e2⟩⟩
      · exact ⟨e1, .inl ⟨n, by simp, e3⟩⟩
    · rw [if_neg hc] at hs
      have ha : a.2 = true := by
        cases h2 : a.2
        · exact absurd (.inl h2) hc
        · rfl
      rw [hs] at ih ⊢
      rcases ih with ⟨e1, e2⟩ | ⟨e1, ⟨m, hm, e2⟩ | ⟨e2, e3⟩⟩
      · rw [e2]
        exact ⟨ha, .inr ⟨ha, rfl⟩⟩
      · exact ⟨e1, .inl ⟨m, by simp [hm], e2⟩⟩
      · exact ⟨e1, .inr ⟨e2, e3⟩⟩
/-- Of who is picked the least size is no less than any size of who is left; there is one just if some are picked. -/
theorem pik_least {v : List Int} {k : Int} (h : pikE v k = 0) (h0 : v ≠ []) : (lstR (pikV v k) v).2 = decide (0 < k) ∧
    ∀ n m : Nat, n < v.length → n ∉ pkF v k.toNat → v[n]? = some (v.getD n 0) ∧ ((lstR (pikV v k) v).2 = true → szN (v.getD n 0) ≤ (lstR (pikV v k) v).1) := by
  have hb : ∀ n ∈ pikV v k, 0 ≤ n ∧ n < (v.length : Int) := fun n hn => by
    obtain ⟨m, rfl, hm, _⟩ := pik_at h hn
    omega
  have hl := pikV_len h
  have hk := pikE_ok.1 h
  rcases lst_is (pikV v k) (0, false) hb with ⟨e1, e2⟩ | ⟨e1, ⟨m, hm, e2⟩ | ⟨e2, _⟩⟩
  · have hk0 : k = 0 := by rw [e1] at hl; simpa using hl.symm
    have e3 : lstR (pikV v k) v = (0, false) := e2
    rw [e3, hk0]
    exact ⟨by decide, fun n m hn _ => ⟨by rw [List.getElem?_eq_getElem hn, List.getD_eq_getElem?_getD, List.getElem?_eq_getElem hn, Option.getD_some], fun hf => by cases hf⟩⟩
  · have e3 : (lstR (pikV v k) v).2 = true := e1
    have hk0 : 0 < k := by
      have : 0 < (pikV v k).length := List.length_pos_of_mem hm
      omega
    refine ⟨by rw [e3, decide_eq_true hk0], fun n _ hn ho => ⟨by rw [List.getElem?_eq_getElem hn, List.getD_eq_getElem?_getD, List.getElem?_eq_getElem hn, Option.getD_some], fun _ => ?_⟩⟩
    obtain ⟨i, rfl, hi, hp⟩ := pik_at h hm
    have ha := ahB_iff.1 (pk_ahead hp hn ho)
    have e4 : (lstR (pikV v k) v).1 = szN (v.getD i 0) := e2
    rw [e4]
    omega
  · cases e2
/-- A number's opposite, as 64 bits have it. -/
def ngW (n : Int) : Int := wrap64 (-n)
def ngL (v : List Int) : List Int := v.map ngW
theorem ngW_i64 (n : Int) : I64 (ngW n) := by unfold ngW I64 wrap64; omega
theorem ngW_sz {n : Int} (h : I64 n) : szN (ngW n) = szN n := by unfold szN ngW wrap64; unfold I64 at h; omega
theorem ngL_i64 (v : List Int) : ∀ x ∈ ngL v, I64 x := fun x hx => by
  unfold ngL at hx
  obtain ⟨y, _, rfl⟩ := List.mem_map.1 hx
  exact ngW_i64 y
theorem getD_i64 {v : List Int} (uv : ∀ x ∈ v, I64 x) (i : Nat) : I64 (v.getD i 0) := by
  rw [List.getD_eq_getElem?_getD]
  cases h : v[i]? with
  | none => show I64 0; decide
  | some x => exact uv x (List.mem_of_getElem? h)
theorem ngL_ah {v : List Int} (uv : ∀ x ∈ v, I64 x) (i k : Nat) : ahB (ngL v) i k = ahB v i k := by
  unfold ahB ngL
  have h0 : ngW 0 = 0 := by unfold ngW wrap64; omega
  rw [getD_map h0, getD_map h0, ngW_sz (getD_i64 uv i), ngW_sz (getD_i64 uv k)]
theorem pik_alike {v u : List Int} (hl : u.length = v.length) (h : ∀ i k, ahB u i k = ahB v i k) (k : Int) : pikE u k = pikE v k ∧ pikV u k = pikV v k := by
  have e1 : pikE u k = pikE v k := by unfold pikE orkE; rw [hl]
  refine ⟨e1, ?_⟩
  unfold pikV pkI
  rw [e1, pk_alike hl h]
theorem pik_zero {v : List Int} (h : v.length ≤ 4096) : pikE v 0 = 0 ∧ pikV v 0 = [] := by
  have h1 : pikE v 0 = 0 := pikE_ok.2 ⟨h, by omega, by omega⟩
  refine ⟨h1, ?_⟩
  have := pikV_len h1
  exact List.length_eq_zero_iff.1 (by omega)
theorem pik_more {v : List Int} {k m : Int} (h1 : pikE v k = 0) (h2 : pikE v m = 0) (h : k ≤ m) {n : Int} (hn : n ∈ pikV v k) : hasB (pikV v m) n = true := by
  obtain ⟨i, rfl, _, hi⟩ := pik_at h1 hn
  refine decide_eq_true ((pik_in h2).2 ?_)
  have h3 := (pikE_ok.1 h1).2.1
  exact pk_more (by omega) hi
end Go.Proofs.Ytkcckncglbjjdaa
/- What is sure of a vector that is pressed; vectors turned, and laid behind one another; steps of a scale. Plain mathematics. No program in sight. -/
namespace Go.Proofs.Ytkcckncglbjjdaa
open Go.RowKit
set_option maxRecDepth 100000
set_option linter.unusedVariables false
/-- Where nothing is left chance tells nothing. -/
theorem plQ_sure {x scale wide : Int} {seed : Nat} {n : List Int} {i : Nat} (h : lvlR x scale wide = 0) : plQ scale wide seed n i x = lvlL x scale wide := by
  unfold plQ
  rw [if_neg (by omega)]
/-- The greatest numbers, and 0, are themselves. -/
theorem prq_ends {v : List Int} {wide : Int} {seed : Nat} {n : List Int} (h : prqE v wide = 0) {i : Nat} (hi : i < v.length) (hy : v.getD i 0 = mostV v ∨ v.getD i 0 = -mostV v ∨ v.getD i 0 = 0) : loQ (prqS v wide seed n) i = v.getD i 0 := by
  obtain ⟨a, b, c, d⟩ := lvl_is (prq_lvl h hi)
  obtain ⟨h1, h2, h3⟩ := prqE_ok.1 h
  obtain ⟨m1, m2, m3, m4, _⟩ := mostq_ok h3
  rw [(prq_loose h).2.2 i hi]
  obtain ⟨y, hyy⟩ : ∃ y, v.getD i 0 = y := ⟨_, rfl⟩
  rw [hyy] at a b c hy ⊢
  obtain ⟨t, ht⟩ : ∃ t, topQ wide = t := ⟨_, rfl⟩
  rw [ht] at a b d ⊢
  have hsi : ((mostV v).toNat : Int) = mostV v := by omega
  obtain ⟨s, hs⟩ : ∃ s, (mostV v).toNat = s := ⟨_, rfl⟩
  rw [hs] at a b c hsi ⊢
  have hz : szN y = y.natAbs := rfl
  rcases Nat.eq_zero_or_pos s with h0 | h0
  · have e0 : y = 0 := by omega
    rw [e0, h0]
    unfold vlQ
    simp
  · by_cases hy0 : y = 0
    · have e0 : szN y = 0 := by omega
      rw [e0] at a b
      have e1 := qk_none s t
      rw [e1.1] at a
      rw [e1.2.1] at b
      rw [plQ_sure b, a, hy0]
      unfold vlQ
      simp
    · have e0 : szN y = s := by omega
      rw [e0] at a b
      have e1 := qk_all (s := s) (t := t) h0 (by omega)
      rw [e1.1] at a
      rw [e1.2.1] at b
      rw [plQ_sure b, a]
      unfold vlQ
      rw [e1.2.2]
      split <;> omega
/-- Whether sizes may be told: an error just where a number has none. -/
theorem mostE_is {v : List Int} (hl : v.length ≤ 4096) (uv : ∀ x ∈ v, I64 x) : mostE v = if ∀ x ∈ v, x ≠ -9223372036854775808 then 0 else 2 := by
  have e1 : mostE v = seqE (numA v) v.length := by unfold mostE; exact (un_ok (by omega) (numA v)).1
  have hk : ∀ k, (numA v k).2 = 0 ∨ (numA v k).2 = 2 := fun k => by
    show ckE (absI (v.getD k 0)) = 0 ∨ ckE (absI (v.getD k 0)) = 2
    unfold ckE
    split
    · exact .inl rfl
    · exact .inr rfl
  have h2 : ∀ n, seqE (numA v) n = 0 ∨ seqE (numA v) n = 2 := fun n => by
    induction n with
    | zero => exact .inl rfl
    | succ n ih =>
      show (if seqE (numA v) n = 0 then (numA v n).2 else seqE (numA v) n) = 0 ∨ (if seqE (numA v) n = 0 then (numA v n).2 else seqE (numA v) n) = 2
      split
      · exact hk n
      · exact ih
  rw [e1]
  have hone : ∀ x, I64 x → (I64 (absI x) ↔ x ≠ -9223372036854775808) := fun x hx => by
    unfold I64 at *
    unfold absI
    constructor
    · intro h e
      subst e
      rw [if_pos (by decide)] at h
      omega
    · intro h
      split <;> omega
  by_cases hc : ∀ x ∈ v, x ≠ -9223372036854775808
  · rw [if_pos hc]
    refine seqE_zero.2 fun k hk2 => ?_
    have hm : v.getD k 0 ∈ v := by
      rw [List.getD_eq_getElem?_getD, List.getElem?_eq_getElem hk2, Option.getD_some]
      exact List.getElem_mem hk2
    exact ckE_zero.2 ((hone _ (uv _ hm)).2 (hc _ hm))
  · rw [if_neg hc]
    rcases h2 v.length with h | h
    · exfalso
      refine hc fun x hx => ?_
      obtain ⟨k, hk2⟩ := List.mem_iff_getElem?.1 hx
      have hlt := (List.getElem?_eq_some_iff.1 hk2).1
      have h3 := ckE_zero.1 (seqE_zero.1 h k hlt)
      rw [getD_of hk2] at h3
      exact (hone x (uv x hx)).1 h3
    · exact h
/-- Vectors with the same sizes have the same greatest one. -/
theorem most_alike {v u : List Int} (hv : mostE v = 0) (hu : mostE u = 0) (h1 : ∀ x ∈ v, ∃ y ∈ u, szN y = szN x) (h2 : ∀ y ∈ u, ∃ x ∈ v, szN x = szN y) : mostV u = mostV v := by
  obtain ⟨_, a2, _, a4, a5⟩ := mostq_ok hv
  obtain ⟨_, b2, _, b4, b5⟩ := mostq_ok hu
  have c1 : mostV v ≤ mostV u := by
    rcases a5 with e | ⟨x, hx, e⟩
    · omega
    · obtain ⟨y, hy, e2⟩ := h1 x hx
      have := b4 y hy
      omega
  have c2 : mostV u ≤ mostV v := by
    rcases b5 with e | ⟨y, hy, e⟩
    · omega
    · obtain ⟨x, hx, e2⟩ := h2 y hy
      have := a4 x hx
      omega
  omega
theorem ngL_len (v : List Int) : (ngL v).length = v.length := by unfold ngL; simp
theorem ngL_mem {v : List Int} {y : Int} : y ∈ ngL v ↔ ∃ x ∈ v, ngW x = y := by unfold ngL; rw [List.mem_map]
theorem ngW_low {x : Int} (h : I64 x) : ngW x = -9223372036854775808 ↔ x = -9223372036854775808 := by
  unfold ngW wrap64
  unfold I64 at h
  constructor <;> intro e <;> omega
theorem ngL_getD {v : List Int} (i : Nat) : (ngL v).getD i 0 = ngW (v.getD i 0) := by
  unfold ngL
  exact getD_map (by unfold ngW wrap64; omega) v i
/-- Turned, and both together: the same error, the same scale. -/
theorem turn_most {v : List Int} (hl : v.length ≤ 200) (uv : ∀ x ∈ v, I64 x) :
    mostE (ngL v) = mostE v ∧ mostE (v ++ ngL v) = mostE v ∧ (mostE v = 0 → mostV (ngL v) = mostV v ∧ mostV (v ++ ngL v) = mostV v) := by
  have l1 := ngL_len v
  have u1 := ngL_i64 v
  have u2 : ∀ x ∈ v ++ ngL v, I64 x := fun x hx => by
    rcases List.mem_append.1 hx with h | h
    · exact uv x h
    · exact u1 x h
  have c1 : (∀ x ∈ ngL v, x ≠ -9223372036854775808) ↔ ∀ x ∈ v, x ≠ -9223372036854775808 := by
    constructor
    · intro h x hx e
      exact h (ngW x) (ngL_mem.2 ⟨x, hx, rfl⟩) ((ngW_low (uv x hx)).2 e)
    · intro h y hy e
      obtain ⟨x, hx, rfl⟩ := ngL_mem.1 hy
      exact h x hx ((ngW_low (uv x hx)).1 e)
  have c2 : (∀ x ∈ v ++ ngL v, x ≠ -9223372036854775808) ↔ ∀ x ∈ v, x ≠ -9223372036854775808 := by
    constructor
    · intro h x hx
      exact h x (List.mem_append_left _ hx)
    · intro h x hx
      rcases List.mem_append.1 hx with h3 | h3
      · exact h x h3
      · exact c1.2 h x h3
  have e0 := mostE_is (v := v) (by omega) uv
  have e1 := mostE_is (v := ngL v) (by omega) u1
  have e2 := mostE_is (v := v ++ ngL v) (by rw [List.length_append]; omega) u2
  have f1 : mostE (ngL v) = mostE v := by
    rw [e0, e1]
    by_cases h : ∀ x ∈ v, x ≠ -9223372036854775808
    · rw [if_pos h, if_pos (c1.2 h)]
    · rw [if_neg h, if_neg (fun h2 => h (c1.1 h2))]
  have f2 : mostE (v ++ ngL v) = mostE v := by
    rw [e0, e2]
    by_cases h : ∀ x ∈ v, x ≠ -9223372036854775808
    · rw [if_pos h, if_pos (c2.2 h)]
    · rw [if_neg h, if_neg (fun h2 => h (c2.1 h2))]
  refine ⟨f1, f2, fun h => ⟨?_, ?_⟩⟩
  · refine most_alike h (by rw [f1]; exact h) (fun x hx => ⟨ngW x, ngL_mem.2 ⟨x, hx, rfl⟩, ngW_sz (uv x hx)⟩) fun y hy => ?_
    obtain ⟨x, hx, rfl⟩ := ngL_mem.1 hy
    exact ⟨x, hx, (ngW_sz (uv x hx)).symm⟩
  · refine most_alike h (by rw [f2]; exact h) (fun x hx => ⟨x, List.mem_append_left _ hx, rfl⟩) fun y hy => ?_
    rcases List.mem_append.1 hy with h3 | h3
    · exact ⟨y, h3, rfl⟩
    · obtain ⟨x, hx, rfl⟩ := ngL_mem.1 h3
      exact ⟨x, hx, (ngW_sz (uv x hx)).symm⟩
/-- A level hangs on the size alone. -/
theorem lvl_size {x y scale wide : Int} (h : szN x = szN y) : lvlE x scale wide = lvlE y scale wide ∧ lvlL x scale wide = lvlL y scale wide ∧ lvlR x scale wide = lvlR y scale wide := by
  have e : lvlE x scale wide = lvlE y scale wide := by unfold lvlE; rw [h]
  refine ⟨e, ?_, ?_⟩
  · unfold lvlL; rw [e, h]
  · unfold lvlR; rw [e, h]
theorem plQ_size {x y scale wide : Int} {seed : Nat} {n : List Int} {i : Nat} (h : szN x = szN y) : plQ scale wide seed n i x = plQ scale wide seed n i y := by
  obtain ⟨_, a, b⟩ := lvl_size (scale := scale) (wide := wide) h
  unfold plQ
  rw [a, b]
/-- The three vectors pressed by the same seed: errors, scales, levels and signs. -/
theorem turn_all {v : List Int} (hl : v.length ≤ 200) (uv : ∀ x ∈ v, I64 x) (wide : Int) (seed : Nat) (n : List Int) :
    prqE (ngL v) wide = prqE v wide ∧ prqE (v ++ ngL v) wide = prqE v wide ∧ (prqE v wide = 0 →
      (prqS (ngL v) wide seed n).scale = (prqS v wide seed n).scale ∧ (prqS (v ++ ngL v) wide seed n).scale = (prqS v wide seed n).scale ∧
      (prqS v wide seed n).lev.length = v.length ∧ (prqS (ngL v) wide seed n).lev.length = v.length ∧ (prqS (v ++ ngL v) wide seed n).lev.length = 2 * v.length ∧
      (prqS v wide seed n).neg.length = v.length ∧ (prqS (ngL v) wide seed n).neg.length = v.length ∧ (prqS (v ++ ngL v) wide seed n).neg.length = 2 * v.length ∧
      ∀ i, i < v.length → (prqS (ngL v) wide seed n).lev.getD i 0 = (prqS v wide seed n).lev.getD i 0 ∧ (prqS (v ++ ngL v) wide seed n).lev.getD i 0 = (prqS v wide seed n).lev.getD i 0 ∧
        (prqS (v ++ ngL v) wide seed n).neg.getD i false = (prqS v wide seed n).neg.getD i false ∧ (v.getD i 0 ≠ 0 → (prqS (ngL v) wide seed n).neg.getD i false ≠ (prqS v wide seed n).neg.getD i false)) := by
  obtain ⟨f1, f2, f3⟩ := turn_most hl uv
  have l1 := ngL_len v
  have l2 : (v ++ ngL v).length = 2 * v.length := by rw [List.length_append, l1]; omega
  have n1 : ngL v = [] ↔ v = [] := by unfold ngL; exact List.map_eq_nil_iff
  have n2 : v ++ ngL v = [] ↔ v = [] := by rw [List.append_eq_nil_iff, n1]; exact and_self_iff
  have g1 : prqE (ngL v) wide = prqE v wide := by
    unfold prqE
    rw [f1]
    by_cases h : v = []
    · rw [if_pos (.inr (n1.2 h)), if_pos (.inr h)]
    · by_cases h4 : stsE wide ≠ 0
      · rw [if_pos (.inl h4), if_pos (.inl h4)]
      · rw [if_neg (by rintro (h5 | h5); exact h4 h5; exact h (n1.1 h5)), if_neg (by rintro (h5 | h5); exact h4 h5; exact h h5)]
  have g2 : prqE (v ++ ngL v) wide = prqE v wide := by
    unfold prqE
    rw [f2]
    by_cases h : v = []
    · rw [if_pos (.inr (n2.2 h)), if_pos (.inr h)]
    · by_cases h4 : stsE wide ≠ 0
      · rw [if_pos (.inl h4), if_pos (.inl h4)]
      · rw [if_neg (by rintro (h5 | h5); exact h4 h5; exact h (n2.1 h5)), if_neg (by rintro (h5 | h5); exact h4 h5; exact h h5)]
  refine ⟨g1, g2, fun h => ?_⟩
  have hE := (prqE_ok.1 h).2.2
  obtain ⟨s1, s2⟩ := f3 hE
  have p0 := prq_parts (seed := seed) (n := n) h
  have p1 := prq_parts (v := ngL v) (seed := seed) (n := n) (by rw [g1]; exact h)
  have p2 := prq_parts (v := v ++ ngL v) (seed := seed) (n := n) (by rw [g2]; exact h)
  rw [p0, p1, p2]
  refine ⟨s1, s2, levQ_len _ _ _ _ _, by show (levQ (ngL v) wide seed n (ngL v).length).length = _; rw [levQ_len, l1], by show (levQ (v ++ ngL v) wide seed n (v ++ ngL v).length).length = _; rw [levQ_len, l2], negQ_len _ _, by show (negQ (ngL v) (ngL v).length).length = _; rw [negQ_len, l1], by show (negQ (v ++ ngL v) (v ++ ngL v).length).length = _; rw [negQ_len, l2], fun i hi => ?_⟩
  show (levQ (ngL v) wide seed n (ngL v).length).getD i 0 = (levQ v wide seed n v.length).getD i 0 ∧ (levQ (v ++ ngL v) wide seed n (v ++ ngL v).length).getD i 0 = (levQ v wide seed n v.length).getD i 0 ∧ (negQ (v ++ ngL v) (v ++ ngL v).length).getD i false = (negQ v v.length).getD i false ∧ (v.getD i 0 ≠ 0 → (negQ (ngL v) (ngL v).length).getD i false ≠ (negQ v v.length).getD i false)
  have hap : (v ++ ngL v).getD i 0 = v.getD i 0 := by rw [List.getD_eq_getElem?_getD, List.getElem?_append_left hi, ← List.getD_eq_getElem?_getD]
  have hm : v.getD i 0 ∈ v := by
    rw [List.getD_eq_getElem?_getD, List.getElem?_eq_getElem hi, Option.getD_some]
    exact List.getElem_mem hi
  rw [levq_getD v wide seed n hi, levq_getD (ngL v) wide seed n (by omega), levq_getD (v ++ ngL v) wide seed n (by omega), negq_getD v hi, negq_getD (ngL v) (by omega), negq_getD (v ++ ngL v) (by omega), s1, s2, hap, ngL_getD]
  have hx := uv _ hm
  have hne : v.getD i 0 ≠ -9223372036854775808 := by
    have := mostE_is (v := v) (by omega) uv
    rw [hE] at this
    by_cases hc : ∀ x ∈ v, x ≠ -9223372036854775808
    · exact hc _ hm
    · rw [if_neg hc] at this
      cases this
  obtain ⟨y, hy⟩ : ∃ y, v.getD i 0 = y := ⟨_, rfl⟩
  rw [hy] at hx hne ⊢
  refine ⟨by rw [plQ_size (ngW_sz hx)], rfl, rfl, fun h0 e => ?_⟩
  have e2 : (ngW y < 0) ↔ y < 0 := decide_eq_decide.1 e
  unfold ngW wrap64 at e2
  unfold I64 at hx
  omega
end Go.Proofs.Ytkcckncglbjjdaa
/- Signs with a mean: sums of sizes, what is pressed, loosened, turned, scaled; votes, and how many signs turn. Plain mathematics. No program in sight. -/
namespace Go.Proofs.Ytkcckncglbjjdaa
open Go.RowKit
set_option maxRecDepth 100000
set_option linter.unusedVariables false
/-- All sizes together. -/
def sumS (v : List Int) : Nat := (v.map szN).sum
theorem sumS_nil : sumS [] = 0 := rfl
theorem sumS_cons (x : Int) (v : List Int) : sumS (x :: v) = szN x + sumS v := by unfold sumS; simp
theorem sumS_snoc (v : List Int) (x : Int) : sumS (v ++ [x]) = sumS v + szN x := by unfold sumS; simp
theorem sumS_app (v u : List Int) : sumS (v ++ u) = sumS v + sumS u := by unfold sumS; simp
theorem absI_sz (x : Int) : absI x = (szN x : Int) := by unfold absI szN; split <;> omega
/-- Added up one by one: as far as they go. -/
theorem tot_sum (v : List Int) : ∀ k, k ≤ v.length → ((tot (numA v) k).2 = 0 ↔ sumS (v.take k) ≤ 9223372036854775807) ∧ ((tot (numA v) k).2 = 0 → (tot (numA v) k).1 = (sumS (v.take k) : Int)) ∧ ((tot (numA v) k).2 = 0 ∨ (tot (numA v) k).2 = 2)
  | 0, _ => by
    refine ⟨⟨fun _ => by simp [sumS], fun _ => rfl⟩, fun _ => by simp [tot, sumS], .inl rfl⟩
  | k + 1, h => by
    obtain ⟨i1, i2, i3⟩ := tot_sum v k (by omega)
    have hx : v[k]? = some (v.getD k 0) := by rw [List.getD_eq_getElem?_getD, List.getElem?_eq_getElem (by omega), Option.getD_some]
    have hs : sumS (v.take (k + 1)) = sumS (v.take k) + szN (v.getD k 0) := by rw [take_snoc hx, sumS_snoc]
    obtain ⟨x, hxx⟩ : ∃ x, v.getD k 0 = x := ⟨_, rfl⟩
    have hn : numA v k = (ckV (szN x : Int), ckE (szN x : Int)) := by unfold numA; rw [hxx, absI_sz]
    rw [hs, hxx]
    rw [tot]
    by_cases h0 : (tot (numA v) k).2 = 0
    · rw [if_pos h0, hn]
      have e1 := i2 h0
      have e2 := i1.1 h0
      by_cases h1 : szN x ≤ 9223372036854775807
      · have c1 : I64 (szN x : Int) := by unfold I64; omega
        rw [if_pos (ckE_in c1)]
        show (ckE ((tot (numA v) k).1 + ckV (szN x : Int)) = 0 ↔ _) ∧ (ckE ((tot (numA v) k).1 + ckV (szN x : Int)) = 0 → ckV ((tot (numA v) k).1 + ckV (szN x : Int)) = _) ∧ _
        rw [ckV_in c1, e1]
        by_cases h2 : sumS (v.take k) + szN x ≤ 9223372036854775807
        · have c2 : I64 ((sumS (v.take k) : Int) + (szN x : Int)) := by unfold I64; omega
          refine ⟨⟨fun _ => h2, fun _ => ckE_in c2⟩, fun _ => ?_, .inl (ckE_in c2)⟩
          rw [ckV_in c2]
          omega
        · have c2 : ¬ I64 ((sumS (v.take k) : Int) + (szN x : Int)) := by unfold I64; omega
          have c3 : ckE ((sumS (v.take k) : Int) + (szN x : Int)) = 2 := if_neg c2
          rw [c3]
          exact ⟨⟨fun h => absurd h (by decide), fun h => absurd h h2⟩, fun h => absurd h (by decide), .inr rfl⟩
      · have c1 : ¬ I64 (szN x : Int) := by unfold I64; omega
        have c3 : ckE (szN x : Int) = 2 := if_neg c1
        rw [c3]
        show ((if (2 : Int) = 0 then _ else (_ : Int × Int)).2 = 0 ↔ _) ∧ _
        rw [if_neg (by decide)]
        exact ⟨⟨fun h => absurd (show (2 : Int) = 0 from h) (by decide), fun h => by omega⟩, fun h => absurd (show (2 : Int) = 0 from h) (by decide), .inr rfl⟩
    · rw [if_neg h0]
      refine ⟨⟨fun h => absurd h h0, fun h => absurd (i1.2 (by omega)) h0⟩, fun h => absurd h h0, i3⟩
theorem sizeE_is {v : List Int} (hl : v.length ≤ 4096) : sizeE v = if sumS v ≤ 9223372036854775807 then 0 else 2 := by
  obtain ⟨a, _, c⟩ := tot_sum v v.length (Nat.le_refl _)
  rw [List.take_length] at a
  have e : sizeE v = (tot (numA v) v.length).2 := if_neg (by omega)
  rw [e]
  by_cases h : sumS v ≤ 9223372036854775807
  · rw [if_pos h, a.2 h]
  · rw [if_neg h]
    rcases c with c | c
    · exact absurd (a.1 c) h
    · exact c
theorem sizeV_is {v : List Int} (h : sizeE v = 0) : v.length ≤ 4096 ∧ sumS v ≤ 9223372036854775807 ∧ sizeV v = (sumS v : Int) := by
  have hl : v.length ≤ 4096 := by
    unfold sizeE at h
    by_cases hn : 4096 < v.length
    · rw [if_pos hn] at h; cases h
    · omega
  obtain ⟨a, b, _⟩ := tot_sum v v.length (Nat.le_refl _)
  rw [List.take_length] at a b
  have e : sizeE v = (tot (numA v) v.length).2 := if_neg (by omega)
  rw [e] at h
  refine ⟨hl, a.1 h, ?_⟩
  rw [← b h]
  exact if_neg (by omega)
/-- The mean of sizes, and what is pressed. -/
def mnE (v : List Int) : Int := if v = [] then 1 else sizeE v
def mnN (v : List Int) : Nat := sumS v / v.length
def mnV (v : List Int) : Int := if mnE v = 0 then (mnN v : Int) else 0
def sgN (v : List Int) : List Bool := v.map fun n => decide (n < 0)
def sgS (v : List Int) : SentV := if mnE v = 0 then ⟨3, v.length, [], [], mnV v, 0, [], sgN v⟩ else zeroS
theorem mnE_ok {v : List Int} : mnE v = 0 ↔ v ≠ [] ∧ sizeE v = 0 := by
  unfold mnE
  by_cases h : v = []
  · rw [if_pos h]
    exact ⟨fun h2 => absurd h2 (by decide), fun h2 => absurd h h2.1⟩
  · rw [if_neg h]
    exact ⟨fun h2 => ⟨h, h2⟩, fun h2 => h2.2⟩
theorem sgN_len (v : List Int) : (sgN v).length = v.length := by unfold sgN; simp
theorem sgN_at {v : List Int} {i : Nat} {x : Int} (h : v[i]? = some x) : (sgN v)[i]? = some (decide (x < 0)) := by unfold sgN; rw [List.getElem?_map, h]; rfl
theorem sg_may {v : List Int} (h : mnE v = 0) : mayB (sgS v) = true := by
  obtain ⟨h0, h1⟩ := mnE_ok.1 h
  have hl := (sizeV_is h1).1
  have h2 : 1 ≤ v.length := by
    rcases Nat.eq_zero_or_pos v.length with e | e
    · exact absurd (List.length_eq_zero_iff.1 e) h0
    · exact e
  unfold sgS
  rw [if_pos h]
  refine mayB_iff.2 ⟨by show (1 : Int) ≤ v.length; omega, by show (v.length : Int) ≤ 4096; omega, .inr (.inr (.inr ⟨rfl, rfl, rfl, rfl, rfl, ?_, ?_⟩))⟩
  · show 0 ≤ mnV v
    unfold mnV
    rw [if_pos h]
    omega
  · show ((sgN v).length : Int) = v.length
    rw [sgN_len]
/-- Loosened. -/
def lsgE (s : SentV) : Int := if mayB s = true ∧ s.sch = 3 then 0 else 1
def lsgL (scale : Int) (l : List Bool) : List Int := l.map fun b => if b = true then -scale else scale
def lsgV (s : SentV) : List Int := if lsgE s = 0 then lsgL s.scale s.neg else []
theorem lsgL_snoc {scale : Int} {l : List Bool} {k : Nat} {b : Bool} (h : l[k]? = some b) : lsgL scale (l.take (k + 1)) = lsgL scale (l.take k) ++ [if b = true then -scale else scale] := by
  unfold lsgL
  rw [List.take_add_one, h, List.map_append]
  rfl
theorem sumS_same {m : Nat} : ∀ (l : List Bool), sumS (lsgL (m : Int) l) = l.length * m
  | [] => by simp [lsgL, sumS]
  | b :: l => by
    have e : lsgL (m : Int) (b :: l) = (if b = true then -(m : Int) else (m : Int)) :: lsgL (m : Int) l := rfl
    rw [e, sumS_cons, sumS_same l, List.length_cons, Nat.add_mul, Nat.one_mul]
    have : szN (if b = true then -(m : Int) else (m : Int)) = m := by unfold szN; split <;> omega
    omega
/-- What is loosened has the same signs, and all sizes the same, together no more, and less by fewer than there are. -/
theorem sg_loose {v : List Int} (h : mnE v = 0) : lsgE (sgS v) = 0 ∧ lsgV (sgS v) = lsgL (mnV v) (sgN v) ∧ mnV v = (mnN v : Int) ∧ sumS (lsgL (mnV v) (sgN v)) = v.length * mnN v ∧ v.length * mnN v ≤ sumS v ∧ sumS v - v.length * mnN v < v.length := by
  obtain ⟨h0, h1⟩ := mnE_ok.1 h
  have h2 : 0 < v.length := by
    rcases Nat.eq_zero_or_pos v.length with e | e
    · exact absurd (List.length_eq_zero_iff.1 e) h0
    · exact e
  have hm : mnV v = (mnN v : Int) := by unfold mnV; rw [if_pos h]
  have hE : lsgE (sgS v) = 0 := by
    unfold lsgE
    rw [if_pos ⟨sg_may h, by unfold sgS; rw [if_pos h]⟩]
  have hd := Nat.div_add_mod (sumS v) v.length
  have hr := Nat.mod_lt (sumS v) h2
  refine ⟨hE, ?_, hm, ?_, ?_, ?_⟩
  · unfold lsgV
    rw [if_pos hE]
    unfold sgS
    rw [if_pos h]
  · rw [hm, sumS_same, sgN_len]
  · unfold mnN
    omega
  · unfold mnN
    omega
/-- Sizes alone tell whether, and what, the mean is. -/
theorem mn_alike {v u : List Int} (hl : u.length = v.length) (h : sumS u = sumS v) : mnE u = mnE v ∧ mnV u = mnV v := by
  have e1 : sizeE u = sizeE v := by
    by_cases hn : v.length ≤ 4096
    · rw [sizeE_is hn, sizeE_is (by omega), h]
    · unfold sizeE
      rw [if_pos (by omega), if_pos (by omega)]
  have e2 : u = [] ↔ v = [] := by rw [← List.length_eq_zero_iff, ← List.length_eq_zero_iff, hl]
  have e3 : mnE u = mnE v := by
    unfold mnE
    by_cases h0 : v = []
    · rw [if_pos (e2.2 h0), if_pos h0]
    · rw [if_neg (fun h => h0 (e2.1 h)), if_neg h0, e1]
  refine ⟨e3, ?_⟩
  unfold mnV mnN
  rw [e3, h, hl]
theorem sumS_ng {v : List Int} (uv : ∀ x ∈ v, I64 x) : sumS (ngL v) = sumS v := by
  unfold sumS ngL
  rw [List.map_map]
  congr 1
  refine List.map_congr_left fun x hx => ?_
  exact ngW_sz (uv x hx)
theorem sumS_tm {c : Int} (hc : 0 ≤ c) : ∀ (v : List Int), sumS (v.map fun n => c * n) = c.toNat * sumS v
  | [] => by simp [sumS]
  | x :: v => by
    rw [List.map_cons, sumS_cons, sumS_cons, sumS_tm hc v, Nat.mul_add]
    have : szN (c * x) = c.toNat * szN x := by unfold szN; rw [Int.natAbs_mul]; congr 1; omega
    omega
/-- So many times greater, the mean is so many times greater, and less than one more time. -/
theorem mn_scale {v : List Int} {c : Int} (h0 : v ≠ []) (h1 : 1 ≤ c) (h2 : sumS (v.map fun n => c * n) ≤ 9223372036854775807) (hl : v.length ≤ 4096) :
    mnE v = 0 ∧ mnE (v.map fun n => c * n) = 0 ∧ c * mnV v ≤ mnV (v.map fun n => c * n) ∧ mnV (v.map fun n => c * n) < c * mnV v + c ∧ sgN (v.map fun n => c * n) = sgN v := by
  obtain ⟨w, hw⟩ : ∃ w, (v.map fun n => c * n) = w := ⟨_, rfl⟩
  have hs := sumS_tm (c := c) (by omega) v
  have hwl : w.length = v.length := by rw [← hw, List.length_map]
  have hsg : sgN w = sgN v := by
    rw [← hw]
    unfold sgN
    rw [List.map_map]
    refine List.map_congr_left fun x _ => ?_
    refine decide_eq_decide.2 ?_
    show c * x < 0 ↔ x < 0
    constructor
    · intro h
      rcases Int.lt_or_le x 0 with h3 | h3
      · exact h3
      · have := Int.mul_nonneg (show 0 ≤ c by omega) h3
        omega
    · intro h
      exact Int.mul_neg_of_pos_of_neg (by omega) h
  rw [hw] at hs h2 ⊢
  obtain ⟨C, rfl⟩ := Int.eq_ofNat_of_zero_le (show 0 ≤ c by omega)
  rw [Int.toNat_natCast] at hs
  have hC : 1 ≤ C := by omega
  have hle : sumS v ≤ sumS w := by rw [hs]; exact Nat.le_mul_of_pos_left _ (by omega)
  have hw0 : w ≠ [] := fun e => h0 (List.length_eq_zero_iff.1 (by rw [← hwl, e]; rfl))
  have e1 : mnE v = 0 := mnE_ok.2 ⟨h0, by rw [sizeE_is hl, if_pos (by omega)]⟩
  have e2 : mnE w = 0 := mnE_ok.2 ⟨hw0, by rw [sizeE_is (by omega), if_pos h2]⟩
  have hn : 0 < v.length := by
    rcases Nat.eq_zero_or_pos v.length with e | e
    · exact absurd (List.length_eq_zero_iff.1 e) h0
    · exact e
  refine ⟨e1, e2, ?_, ?_, hsg⟩
  all_goals
    unfold mnV mnN
    rw [if_pos e1, if_pos e2, hs, hwl]
    have a := Nat.div_add_mod (sumS v) v.length
    have b := Nat.mod_lt (sumS v) hn
    obtain ⟨q, hq⟩ : ∃ q, sumS v / v.length = q := ⟨_, rfl⟩
    obtain ⟨r, hr⟩ : ∃ r, sumS v % v.length = r := ⟨_, rfl⟩
    rw [hq, hr] at a
    rw [hr] at b
    rw [hq, ← a]
    have e : C * (v.length * q + r) = v.length * (C * q) + C * r := by rw [Nat.mul_add, Nat.mul_left_comm]
    rw [e, Nat.mul_add_div hn]
  · rw [← Int.natCast_mul]
    obtain ⟨d, hd⟩ : ∃ d, C * r / v.length = d := ⟨_, rfl⟩
    rw [hd]
    omega
  · have h5 : C * r / v.length < C := by
      rw [Nat.div_lt_iff_lt_mul hn]
      exact Nat.mul_lt_mul_of_pos_left b (by omega)
    rw [← Int.natCast_mul]
    obtain ⟨d, hd⟩ : ∃ d, C * r / v.length = d := ⟨_, rfl⟩
    rw [hd] at h5 ⊢
    omega
end Go.Proofs.Ytkcckncglbjjdaa
/- The mean size; pressed to signs: by the document. -/
namespace Go.Proofs.Ytkcckncglbjjdaa
open Go.RowKit
set_option maxHeartbeats 400000
set_option maxRecDepth 100000
set_option linter.unusedVariables false
theorem mnN_le (v : List Int) : mnN v ≤ sumS v := Nat.div_le_self _ _
theorem ref_Mean11 {A : Option Addr} {c : Nat} (v : List Int) (uv : ∀ x ∈ v, I64 x) (hl : v.length ≤ 9223372036854775807) (w : World) (ra : Rd (Value.int .i64) w w.heap.size A v) :
    Calls Try.prog 13 #[.slice A v.length c] w fun e w' => e = .returned (.tuple #[.int .i64 (mnV v), .int .i64 (mnE v)]) ∧ Below w.heap.size w w' := by
  by_cases h0 : v = []
  · have he : mnE v = 1 := if_pos h0
    have hv : mnV v = 0 := if_neg (by rw [he]; decide)
    rw [he, hv]
    subst h0
    clear he hv ra uv hl
    go_enter Try.func13, Try.ntmps13
    go_wp2_with fail
    go_ret2
    exact ⟨rfl, Below.refl _ _⟩
  · have h0' : ¬ v.length = 0 := fun h => h0 (List.length_eq_zero_iff.1 h)
    have t1 : ((v.length : Int) == 0) = false := beq_eq_false_iff_ne.2 (by omega)
    have t2 : (v.length == 0) = false := beq_eq_false_iff_ne.2 h0'
    have CS := hid (rSize_any (A := A) (c := c) v hl uv w ra)
    have hE : mnE v = sizeE v := if_neg h0
    by_cases he : sizeE v = 0
    · obtain ⟨z1, z2, z3⟩ := sizeV_is he
      have hV : mnV v = ((sumS v / v.length : Nat) : Int) := if_pos (hE.trans he)
      rw [hE, he, hV]
      rw [he, z3] at CS
      obtain ⟨S, hS⟩ : ∃ S, sumS v = S := ⟨_, rfl⟩
      rw [hS] at CS z2 ⊢
      obtain ⟨q, hq⟩ : ∃ q, S / v.length = q := ⟨_, rfl⟩
      have i1 : (S : Int) / (v.length : Int) = (q : Int) := by rw [← hq]; simp
      have i2 : (S : Int).tdiv (v.length : Int) = (q : Int) := by rw [Int.tdiv_eq_ediv_of_nonneg (by omega)]; exact i1
      have hq2 : q ≤ S := by rw [← hq]; exact Nat.div_le_self _ _
      have i3 : (v.length : Int) ≠ 0 := by omega
      rw [hq]
      clear hS hq hE he hV z3 ra uv h0 h0'
      go_enter Try.func13, Try.ntmps13
      go_wp2_with fail
      refine CS.out.mono ?_
      rintro _ w1 ⟨rfl, hb⟩
      go_wp2_with fail
      go_ret2
      exact ⟨by go_num, hb⟩
    · have hV : mnV v = 0 := if_neg (by rw [hE]; exact he)
      rw [hV, hE]
      obtain ⟨E, hEE⟩ : ∃ E, sizeE v = E := ⟨_, rfl⟩
      rw [hEE] at CS he ⊢
      have hne : (E != 0) = true := by simpa using he
      clear hV hE hEE he ra uv h0 h0'
      go_enter Try.func13, Try.ntmps13
      go_wp2_with fail
      refine CS.out.mono ?_
      rintro _ w1 ⟨rfl, hb⟩
      go_wp2_with fail
      go_ret2
      exact ⟨rfl, hb⟩
/-- A vector that a call tells, its signs the call's own. -/
def OwnSg (base : Nat) (s : SentV) (er : Int) (w : World) (e : Ending) (w' : World) : Prop :=
  ∃ A c, e = .returned (.tuple #[encT s ⟨none, 0, none, 0, none, 0, A, c⟩, .int .i64 er]) ∧ s.L = [] ∧ s.V = [] ∧ s.lev = [] ∧
    w'.ownsRow base 4 1 (.slice A s.neg.length c) s.neg.length (s.neg.map Value.bool) ∧ Below base w w'
theorem OwnSg.rd {base : Nat} {s : SentV} {w' : World} {A : Option Addr} {c : Nat} (h1 : s.L = []) (h2 : s.V = []) (h3 : s.lev = []) (o : w'.ownsRow base 4 1 (.slice A s.neg.length c) s.neg.length (s.neg.map Value.bool)) :
    RdS w' w'.heap.size s ⟨none, 0, none, 0, none, 0, A, c⟩ := ⟨by rw [h1]; exact Rd.none_, by rw [h2]; exact Rd.none_, by rw [h3]; exact Rd.none_, own_rd o⟩
theorem sgN_snoc {v : List Int} {k : Nat} {x : Int} (hx : v[k]? = some x) : sgN (v.take (k + 1)) = sgN (v.take k) ++ [decide (x < 0)] := by
  rw [List.take_add_one, hx]
  unfold sgN
  rw [List.map_append]
  rfl
set_option maxHeartbeats 4000000 in
theorem ref_Press11 {A : Option Addr} {c : Nat} (v : List Int) (uv : ∀ x ∈ v, I64 x) (hl : v.length ≤ 9223372036854775807) (w : World) (ra : Rd (Value.int .i64) w w.heap.size A v) :
    Calls Try.prog 15 #[.slice A v.length c] w (OwnSg w.heap.size (sgS v) (mnE v) w) := by
  have CM := hid (fun W (h : Below w.heap.size w W) => ref_Mean11 (A := A) (c := c) v uv hl W (ra.on h))
  by_cases he : mnE v = 0
  · have hS : sgS v = ⟨3, v.length, [], [], mnV v, 0, [], sgN v⟩ := if_pos he
    obtain ⟨z1, z2, z3⟩ := sizeV_is (mnE_ok.1 he).2
    rw [hS, he]
    rw [he] at CM
    have hm : mnV v = (mnN v : Int) := if_pos he
    have hle := mnN_le v
    rw [hm] at CM ⊢
    obtain ⟨M, hM⟩ : ∃ M, mnN v = M := ⟨_, rfl⟩
    rw [hM] at CM hle ⊢
    have HSN := hid (fun (k : Nat) (x : Int) (hx : v[k]? = some x) => sgN_snoc hx)
    have H0 : Hid (sgN (v.take 0) = []) := rfl
    have HE := hid (show sgN (v.take v.length) = sgN v by rw [List.take_length])
    have HL := hid (fun k => show (sgN (v.take k)).length ≤ v.length by rw [sgN_len, List.length_take]; omega)
    have RA := hid ra
    clear hS he hm hM z3 ra uv
    go_enter Try.func15, Try.ntmps15
    go_wp2_with fail
    have B0 := BoxL.new w [.int .i64 0, .int .i64 0, .slice none 0 0, .slice none 0 0, .int .i64 0, .int .i64 0, .slice none 0 0, .slice none 0 0] 27
    refine (CM.out _ (by go_grown)).mono ?_
    rintro _ w1 ⟨rfl, hb⟩
    have HB1 := hid (B0.below hb (by simp))
    have k1 : Below w.heap.size w w1 := Below.trans (by go_grown) (hb.mono (by simp))
    have hg1 : w.heap.size < w1.heap.size := by have := hb.size; simp at this; omega
    clear B0 hb CM
    go_wp2_with fail
    have B2 := BoxL.new w1 [.int .i64 3, .int .i64 (v.length : Int), .slice none 0 0, .slice none 0 0, .int .i64 (M : Int), .int .i64 0, .slice none 0 0, .slice none 0 0] 27
    have hz2 : Below w1.heap.size w1 (w1.alloc (.cells #[.int .i64 3, .int .i64 (v.length : Int), .slice none 0 0, .slice none 0 0, .int .i64 (M : Int), .int .i64 0, .slice none 0 0, .slice none 0 0] 27)) := (Below.refl _ _).alloc (Nat.le_refl _) _
    have hsz2 : (w1.alloc (.cells #[.int .i64 3, .int .i64 (v.length : Int), .slice none 0 0, .slice none 0 0, .int .i64 (M : Int), .int .i64 0, .slice none 0 0, .slice none 0 0] 27)).heap.size = w1.heap.size + 1 := by simp
    obtain ⟨w2, hw2⟩ : ∃ w2, w1.alloc (.cells #[.int .i64 3, .int .i64 (v.length : Int), .slice none 0 0, .slice none 0 0, .int .i64 (M : Int), .int .i64 0, .slice none 0 0, .slice none 0 0] 27) = w2 := ⟨_, rfl⟩
    have B2' : BoxL w2 w1.heap.size [.int .i64 3, .int .i64 (v.length : Int), .slice none 0 0, .slice none 0 0, .int .i64 (M : Int), .int .i64 0, .slice none 0 0, .slice none 0 0] := by rw [← hw2]; exact B2
    rw [hw2] at hz2 hsz2 ⊢
    have HB2 := hid B2'
    have HB1' := hid (HB1.out.below hz2 hg1)
    clear hw2 B2 B2' HB1
    go_loopw [8, 24] (fun x8 i wr => ∃ (q : Nat) (N : List Bool) (A2 : Option Addr) (c2 : Nat), q ≤ v.length ∧ i = .int .i64 q ∧ N = sgN (v.take q) ∧ BoxL wr w.heap.size [.int .i64 0, .int .i64 0, .slice none 0 0, .slice none 0 0, .int .i64 0, .int .i64 0, .slice none 0 0, .slice none 0 0] ∧ BoxL wr w1.heap.size [.int .i64 3, .int .i64 (v.length : Int), .slice none 0 0, .slice none 0 0, .int .i64 (M : Int), .int .i64 0, .slice none 0 0, .slice A2 N.length c2] ∧ wr.ownsRow (w1.heap.size + 1) 4 1 (.slice A2 N.length c2) N.length (N.map Value.bool) ∧ Below w1.heap.size w1 wr ∧ w1.heap.size + 1 ≤ wr.heap.size) (fun _ i _ => v.length - (intOf i).toNat)
    case atStart => exact ⟨0, [], none, 0, by omega, rfl, H0.out.symm, HB1'.out, HB2.out, own_nil _ _ _, hz2, by omega⟩
    case round =>
      clear HB1' HB2 hz2 hsz2
      obtain ⟨q, N, A2, c2, hq, rfl, hN, hB1, hB2, hO, hbel, hsz⟩ := hrel
      have HNq := hid hN
      have HO := hid hO
      have HX1 := hid hB1
      have HX2 := hid hB2
      have hNl : N.length ≤ 4096 := by have := HL.out q; rw [hN]; omega
      clear hN hO hB1 hB2
      by_cases hlt : q < v.length
      · have kw := k1.trans (hbel.mono k1.size)
        obtain ⟨b1, o1, x, rfl, l1, ex, d1⟩ := (RA.out.on kw).at_ hlt
        have HS1 := hid (HSN.out q x ex)
        have g2 : Below wr.heap.size wr (wr.alloc (.cells #[.bool (decide (x < 0))] 4)) := (Below.refl _ _).alloc (Nat.le_refl _) _
        have r2 : Rd Value.bool (wr.alloc (.cells #[.bool (decide (x < 0))] 4)) _ (some ⟨wr.heap.size, 0, none⟩) [decide (x < 0)] := rd_one (one_cell wr (.bool (decide (x < 0))) 4).1
        have o2' := own_on HO.out g2
        have f7 := (HX2.out 7 _ rfl).1
        have hlw : w1.heap.size < wr.heap.size := by omega
        clear ex
        go_wp2_with (at_builtin; refine wpList_app Value.bool (fun _ => rfl) _ rfl _ _ 25 rfl (w1.heap.size + 1) 4 (.bool false) 1 Try.underlying25 info_bool rfl N A2 c2 rfl o2' [decide (x < 0)] _ 1 _ rfl r2 (by simp [maxLen]; omega) (by simp; omega) (by simp; omega) ?_)
        rintro N7 A7 c7 w7 hN7 hp7 hb7 _
        have HN7 := hid hN7
        have kk : Below (w1.heap.size + 1) wr w7 := (((Below.refl (w1.heap.size + 1) wr).alloc hsz _)).trans hb7
        have Y1 := hid (HX1.out.below kk (by omega))
        have Y2 := hid (HX2.out.below kk (by omega))
        have k7 := hbel.trans (kk.mono (by omega))
        have z7 : w1.heap.size + 1 ≤ w7.heap.size := Nat.le_trans hsz kk.size
        have HP7 := hid hp7
        have e7 := (Y2.out 7 _ rfl).1
        have n7 := (Y2.out 7 _ rfl).2
        clear hN7 hp7 hb7 o2' r2 g2 kk f7
        go_wp2_with fail
        go_roundw
        case rel => exact ⟨q + 1, N7, A7, c7, by omega, by go_num, by rw [HN7.out, HS1.out, HNq.out], Y1.out.other (by simp; omega) _, Y2.out.one (k := 7) rfl _, own_set HP7.out (by simp) _, k7.setCell (by simp) _, by simpa using z7⟩
        case measure => simp [intOf]; omega
      · obtain rfl : q = v.length := by omega
        have HNe : Hid (N = sgN v) := hid (by rw [HNq.out, HE.out])
        obtain ⟨⟨g0, g1, g2, g3, g4, g5, g6, g7⟩, n0, n1, n2, n3, n4, n5, n6, n7⟩ := HX1.out.eight
        obtain ⟨⟨h0, h1, h2, h3, h4, h5, h6, h7⟩, _⟩ := HX2.out.eight
        have kw := k1.trans (hbel.mono k1.size)
        have hz : w.heap.size < w1.heap.size + 1 := by omega
        clear hlt HNq
        go_wp2_with fail
        refine bodyPost_ret (v := .tuple #[encT ⟨3, v.length, [], [], (M : Int), 0, [], N⟩ ⟨none, 0, none, 0, none, 0, A2, c2⟩, .int .i64 0]) (by simp [results, Try.results15, go_sem, g0, g1, g2, g3, g4, g5, g6, g7]) rfl ?_
        rw [← HNe.out]
        refine ⟨A2, c2, rfl, rfl, rfl, rfl, ?_, ?_⟩
        · exact own_base (own_set (own_set (own_set (own_set (own_set (own_set (own_set (own_set HO.out hz _) hz _) hz _) hz _) hz _) hz _) hz _) hz _) (by omega)
        · exact (((((((kw.setCell (by simp) _).setCell (by simp) _).setCell (by simp) _).setCell (by simp) _).setCell (by simp) _).setCell (by simp) _).setCell (by simp) _).setCell (by simp) _
  · have hS : sgS v = zeroS := if_neg he
    rw [hS]
    obtain ⟨E, hE⟩ : ∃ E, mnE v = E := ⟨_, rfl⟩
    obtain ⟨V, hV⟩ : ∃ V, mnV v = V := ⟨_, rfl⟩
    rw [hE, hV] at CM
    rw [hE] at he ⊢
    have hne : (E != 0) = true := by simpa using he
    clear hS he hE hV ra uv
    go_enter Try.func15, Try.ntmps15
    go_wp2_with fail
    have B0 := BoxL.new w [.int .i64 0, .int .i64 0, .slice none 0 0, .slice none 0 0, .int .i64 0, .int .i64 0, .slice none 0 0, .slice none 0 0] 27
    refine (CM.out _ (by go_grown)).mono ?_
    rintro _ w1 ⟨rfl, hb⟩
    have B1 := B0.below hb (by simp)
    have k1 : Below w.heap.size w w1 := Below.trans (by go_grown) (hb.mono (by simp))
    obtain ⟨⟨g0, g1, g2, g3, g4, g5, g6, g7⟩, n0, n1, n2, n3, n4, n5, n6, n7⟩ := B1.eight
    clear B0 B1 hb CM
    go_wp2_with fail
    refine bodyPost_ret (v := .tuple #[encT zeroS zeroP, .int .i64 E]) (by simp [results, Try.results15, go_sem, zeroS, zeroP, g0, g1, g2, g3, g4, g5, g6, g7]) rfl ⟨none, 0, rfl, rfl, rfl, rfl, own_nil _ _ _, ?_⟩
    exact (((((((k1.setCell (by simp) _).setCell (by simp) _).setCell (by simp) _).setCell (by simp) _).setCell (by simp) _).setCell (by simp) _).setCell (by simp) _).setCell (by simp) _
end Go.Proofs.Ytkcckncglbjjdaa
/- Votes of signs, and how many turn. Plain mathematics. No program in sight. -/
namespace Go.Proofs.Ytkcckncglbjjdaa
set_option maxRecDepth 100000
set_option linter.unusedVariables false
/-- Whether lists of signs are not too long, and as long as one another. -/
def ftE (ls : List (List Bool)) : Int := if ∃ x ∈ ls, 4096 < x.length then 3 else if ∃ x ∈ ls, x.length ≠ (ls.headD []).length then 4 else 0
theorem ftE_ok {ls : List (List Bool)} : ftE ls = 0 ↔ ∀ x ∈ ls, x.length ≤ 4096 ∧ x.length = (ls.headD []).length := by
  unfold ftE
  by_cases h : ∃ x ∈ ls, 4096 < x.length
  · rw [if_pos h]
    obtain ⟨x, hx, hl⟩ := h
    exact ⟨fun h2 => absurd h2 (by decide), fun h2 => by have := (h2 x hx).1; omega⟩
  · rw [if_neg h]
    by_cases h3 : ∃ x ∈ ls, x.length ≠ (ls.headD []).length
    · rw [if_pos h3]
      obtain ⟨x, hx, hl⟩ := h3
      exact ⟨fun h2 => absurd h2 (by decide), fun h2 => absurd (h2 x hx).2 hl⟩
    · rw [if_neg h3]
      refine ⟨fun _ x hx => ⟨Nat.le_of_not_lt fun h4 => h ⟨x, hx, h4⟩, Classical.byContradiction fun h4 => h3 ⟨x, hx, h4⟩⟩, fun _ => rfl⟩
/-- How many of the first m have a sign at a place. -/
def cntB (ls : List (List Bool)) (i : Nat) : Nat := ls.countP fun x => x.getD i false
theorem cntB_snoc (ls : List (List Bool)) (x : List Bool) (i : Nat) : cntB (ls ++ [x]) i = cntB ls i + if x.getD i false = true then 1 else 0 := by
  unfold cntB
  rw [List.countP_append]
  congr 1
  rw [List.countP_cons, List.countP_nil]
  simp
theorem cntB_le (ls : List (List Bool)) (i : Nat) : cntB ls i ≤ ls.length := List.countP_le_length
def votB (ls : List (List Bool)) (i : Nat) : Bool := decide (ls.length < 2 * cntB ls i)
def votL (ls : List (List Bool)) (m : Nat) : List Bool := (List.range m).map (votB ls)
def vtV (ls : List (List Bool)) : List Bool := if ftE ls = 0 then votL ls (ls.headD []).length else []
theorem votL_snoc (ls : List (List Bool)) (m : Nat) : votL ls (m + 1) = votL ls m ++ [votB ls m] := by unfold votL; rw [List.range_succ, List.map_append]; rfl
theorem votL_len (ls : List (List Bool)) (m : Nat) : (votL ls m).length = m := by unfold votL; simp
theorem votL_at (ls : List (List Bool)) {m i : Nat} (h : i < m) : (votL ls m)[i]? = some (votB ls i) := by unfold votL; simp [h]
/-- How many of the first m places have other signs. -/
def trnM (a b : List Bool) : Nat → Nat
  | 0 => 0
  | m + 1 => trnM a b m + if a.getD m false = b.getD m false then 0 else 1
def trnN (a b : List Bool) : Nat := if ftE [a, b] = 0 then trnM a b a.length else 0
theorem trnM_le (a b : List Bool) : ∀ m, trnM a b m ≤ m
  | 0 => Nat.le_refl _
  | m + 1 => by
    have := trnM_le a b m
    rw [trnM]
    split <;> omega
theorem trnM_turn (a b : List Bool) : ∀ m, trnM a b m = trnM b a m
  | 0 => rfl
  | m + 1 => by
    rw [trnM, trnM, trnM_turn a b m]
    congr 1
    by_cases h : a.getD m false = b.getD m false
    · rw [if_pos h, if_pos h.symm]
    · rw [if_neg h, if_neg (fun h2 => h h2.symm)]
theorem trnM_three (a b c : List Bool) : ∀ m, trnM a c m ≤ trnM a b m + trnM b c m
  | 0 => Nat.le_refl _
  | m + 1 => by
    have ih := trnM_three a b c m
    rw [trnM, trnM, trnM]
    obtain ⟨x, hx⟩ : ∃ x, a.getD m false = x := ⟨_, rfl⟩
    obtain ⟨y, hy⟩ : ∃ y, b.getD m false = y := ⟨_, rfl⟩
    obtain ⟨z, hz⟩ : ∃ z, c.getD m false = z := ⟨_, rfl⟩
    rw [hx, hy, hz]
    cases x <;> cases y <;> cases z <;> simp <;> omega
theorem trnM_none {a b : List Bool} : ∀ m, trnM a b m = 0 ↔ ∀ i, i < m → a.getD i false = b.getD i false
  | 0 => ⟨fun _ i h => by omega, fun _ => rfl⟩
  | m + 1 => by
    rw [trnM]
    have ih := trnM_none (a := a) (b := b) m
    constructor
    · intro h i hi
      by_cases e : i = m
      · subst e
        by_cases h2 : a.getD i false = b.getD i false
        · exact h2
        · rw [if_neg h2] at h
          omega
      · exact ih.1 (by omega) i (by omega)
    · intro h
      rw [if_pos (h m (by omega)), ih.2 fun i hi => h i (by omega)]
theorem ext_getDb {a b : List Bool} (hl : a.length = b.length) (h : ∀ i, i < a.length → a.getD i false = b.getD i false) : a = b := by
  refine List.ext_getElem hl fun i h1 h2 => ?_
  have := h i h1
  rw [List.getD_eq_getElem?_getD, List.getD_eq_getElem?_getD, List.getElem?_eq_getElem h1, List.getElem?_eq_getElem h2] at this
  simpa using this
theorem ft_two {a b : List Bool} : ftE [a, b] = 0 ↔ a.length ≤ 4096 ∧ b.length = a.length := by
  rw [ftE_ok]
  simp only [List.mem_cons, List.not_mem_nil, or_false, List.headD_cons]
  constructor
  · intro h
    exact ⟨(h a (.inl rfl)).1, (h b (.inr rfl)).2⟩
  · rintro ⟨h1, h2⟩ x (rfl | rfl)
    · exact ⟨h1, rfl⟩
    · exact ⟨by omega, h2⟩
/-- The same lists, in whatever order, and one of them twice: the same error. -/
theorem ft_same (a b : List Bool) : ftE [b, a] = ftE [a, b] ∧ ftE [a, a, b] = ftE [a, b] := by
  have h1 : ftE [b, a] = ftE [a, b] := by
    by_cases hl : 4096 < a.length ∨ 4096 < b.length
    · have e1 : ∃ x ∈ [a, b], 4096 < x.length := by rcases hl with h | h; exact ⟨a, by simp, h⟩; exact ⟨b, by simp, h⟩
      have e2 : ∃ x ∈ [b, a], 4096 < x.length := by rcases hl with h | h; exact ⟨a, by simp, h⟩; exact ⟨b, by simp, h⟩
      unfold ftE
      rw [if_pos e1, if_pos e2]
    · have e1 : ¬ ∃ x ∈ [a, b], 4096 < x.length := by rintro ⟨x, hx, h⟩; simp at hx; rcases hx with rfl | rfl <;> omega
      have e2 : ¬ ∃ x ∈ [b, a], 4096 < x.length := by rintro ⟨x, hx, h⟩; simp at hx; rcases hx with rfl | rfl <;> omega
      unfold ftE
      rw [if_neg e1, if_neg e2]
      simp only [List.mem_cons, List.not_mem_nil, or_false, List.headD_cons, exists_eq_or_imp, exists_eq_left, ne_eq, not_true_eq_false, false_or]
      by_cases h : b.length = a.length
      · rw [if_neg (by omega), if_neg (by omega)]
      · rw [if_pos (by omega), if_pos (by omega)]
  refine ⟨h1, ?_⟩
  unfold ftE
  simp
theorem votes_two {a b : List Bool} (h : ftE [a, b] = 0) : vtV [a, a, b] = a := by
  obtain ⟨h1, h2⟩ := ft_two.1 h
  have h3 : ftE [a, a, b] = 0 := by rw [(ft_same a b).2]; exact h
  unfold vtV
  rw [if_pos h3]
  refine ext_getDb (by rw [votL_len]; rfl) fun i hi => ?_
  rw [votL_len] at hi
  rw [List.getD_eq_getElem?_getD, votL_at _ hi, Option.getD_some]
  unfold votB cntB
  simp only [List.countP_cons, List.countP_nil, List.length_cons, List.length_nil]
  cases a.getD i false <;> cases b.getD i false <;> decide
theorem votes_one {a : List Bool} (h : a.length ≤ 4096) : ftE [a] = 0 ∧ vtV [a] = a := by
  have h3 : ftE [a] = 0 := ftE_ok.2 fun x hx => by simp at hx; subst hx; exact ⟨h, rfl⟩
  refine ⟨h3, ?_⟩
  unfold vtV
  rw [if_pos h3]
  refine ext_getDb (by rw [votL_len]; rfl) fun i hi => ?_
  rw [votL_len] at hi
  rw [List.getD_eq_getElem?_getD, votL_at _ hi, Option.getD_some]
  unfold votB cntB
  simp only [List.countP_cons, List.countP_nil, List.length_cons, List.length_nil]
  cases a.getD i false <;> decide
/-- How many turn: the same either way round, none just for the same signs, no more by a third one. -/
theorem turns_all {a b : List Bool} (h : ftE [a, b] = 0) : trnN a b = trnN b a ∧ (trnN a b = 0 ↔ a = b) ∧ ∀ c : List Bool, ftE [a, c] = 0 → ftE [b, c] = 0 ∧ trnN a c ≤ trnN a b + trnN b c := by
  obtain ⟨h1, h2⟩ := ft_two.1 h
  have h3 : ftE [b, a] = 0 := by rw [(ft_same a b).1]; exact h
  unfold trnN
  rw [if_pos h, if_pos h3]
  refine ⟨by rw [h2]; exact trnM_turn a b _, ?_, fun c hc => ?_⟩
  · rw [trnM_none]
    constructor
    · intro h4
      exact ext_getDb h2.symm h4
    · intro h4 i _
      rw [h4]
  · obtain ⟨_, h5⟩ := ft_two.1 hc
    have h6 : ftE [b, c] = 0 := ft_two.2 ⟨by omega, by omega⟩
    refine ⟨h6, ?_⟩
    rw [if_pos hc, if_pos h6, h2]
    exact trnM_three a b c _
end Go.Proofs.Ytkcckncglbjjdaa
/- Lists of lists of bools in memory, by their slices. -/
namespace Go.Proofs.Ytkcckncglbjjdaa
open Go.RowKit
set_option maxRecDepth 100000
set_option linter.unusedVariables false
/-- A slice of slices at A reads as these lists of bools. -/
def RdBs (w : World) (B : Nat) (A : Option Addr) (rows : List (List Bool)) : Prop :=
  ∀ k xs, rows[k]? = some xs → ∃ b off A' c', A = some ⟨b, off, none⟩ ∧ b < B ∧ w.cell? ⟨b, off + k, none⟩ = some (.slice A' xs.length c') ∧ Rd Value.bool w B A' xs
theorem RdBs.below {w w' : World} {B : Nat} {A : Option Addr} {rows : List (List Bool)} (h : RdBs w B A rows) (hb : Below B w w') : RdBs w' B A rows := fun k xs hx => by
  obtain ⟨b, off, A', c', e, hl, hc, hr⟩ := h k xs hx
  exact ⟨b, off, A', c', e, hl, (hb.cell (p := ⟨b, off + k, none⟩) hl).trans hc, hr.below hb⟩
theorem RdBs.more {w : World} {B B' : Nat} {A : Option Addr} {rows : List (List Bool)} (h : RdBs w B A rows) (hB : B ≤ B') : RdBs w B' A rows := fun k xs hx => by
  obtain ⟨b, off, A', c', e, hl, hc, hr⟩ := h k xs hx
  exact ⟨b, off, A', c', e, by omega, hc, hr.more hB⟩
theorem RdBs.on {w w' : World} {A : Option Addr} {rows : List (List Bool)} (h : RdBs w w.heap.size A rows) (hb : Below w.heap.size w w') : RdBs w' w'.heap.size A rows := (h.below hb).more hb.size
theorem RdBs.nil (w : World) (B : Nat) (A : Option Addr) : RdBs w B A [] := fun k xs hx => by simp at hx
/-- One at hand, in a round. -/
theorem RdBs.at_ {w : World} {B : Nat} {A : Option Addr} {rows : List (List Bool)} (h : RdBs w B A rows) {k : Nat} (hk : k < rows.length) :
    ∃ b off A' c' xs, A = some ⟨b, off, none⟩ ∧ b < B ∧ rows[k]? = some xs ∧ w.cell? ⟨b, off + k, none⟩ = some (.slice A' xs.length c') ∧ Rd Value.bool w B A' xs := by
  have hx : rows[k]? = some rows[k] := List.getElem?_eq_getElem hk
  obtain ⟨b, off, A', c', e, hl, hc, hr⟩ := h k _ hx
  exact ⟨b, off, A', c', _, e, hl, hx, hc, hr⟩
/-- A list of lists just laid. -/
theorem rdbs_new (w : World) (t : TypeId) (rows : List (List Bool)) (vs : List Value) (h : ∀ (k : Nat) (xs : List Bool), rows[k]? = some xs → ∃ (A' : Option Addr) (c' : Nat), vs[k]? = some (Value.slice A' xs.length c') ∧ Rd Value.bool w w.heap.size A' xs) :
    RdBs (w.alloc (.cells vs.toArray t)) (w.alloc (.cells vs.toArray t)).heap.size (some ⟨w.heap.size, 0, none⟩) rows := fun k xs hx => by
  obtain ⟨A', c', hv, hr⟩ := h k xs hx
  have hb : Below w.heap.size w (w.alloc (.cells vs.toArray t)) := (Below.refl _ _).alloc (Nat.le_refl _) _
  refine ⟨w.heap.size, 0, A', c', rfl, by simp, ?_, (hr.below hb).more hb.size⟩
  rw [Nat.zero_add]
  exact (BoxL.new w vs t k _ hv).1
end Go.Proofs.Ytkcckncglbjjdaa
/- Whether lists of signs fit; what most say; at how many places two differ: by the document. -/
namespace Go.Proofs.Ytkcckncglbjjdaa
open Go.RowKit
set_option maxHeartbeats 1000000
set_option maxRecDepth 100000
set_option linter.unusedVariables false
theorem ftE_long {ls : List (List Bool)} {k : Nat} {x : List Bool} (hx : ls[k]? = some x) (h : 4096 < x.length) : ftE ls = 3 := if_pos ⟨x, List.mem_of_getElem? hx, h⟩
theorem ftE_odd {ls : List (List Bool)} (hs : ∀ x ∈ ls, x.length ≤ 4096) {k : Nat} {x : List Bool} (hx : ls[k]? = some x) (h : x.length ≠ (ls.headD []).length) : ftE ls = 4 := by
  unfold ftE
  rw [if_neg (fun ⟨y, hy, hl⟩ => by have := hs y hy; omega), if_pos ⟨x, List.mem_of_getElem? hx, h⟩]
theorem ftE_fine {ls : List (List Bool)} (hs : ∀ x ∈ ls, x.length ≤ 4096) (h : ∀ x ∈ ls, x.length = (ls.headD []).length) : ftE ls = 0 := ftE_ok.2 fun x hx => ⟨hs x hx, h x hx⟩
theorem mem_take_snoc {α : Type} {P : α → Prop} {l : List α} {k : Nat} {x : α} (hx : l[k]? = some x) (h : ∀ y ∈ l.take k, P y) (hp : P x) : ∀ y ∈ l.take (k + 1), P y := by
  intro y hy
  rw [List.take_add_one, hx] at hy
  rcases List.mem_append.1 hy with hy | hy
  · exact h y hy
  · simp at hy; subst hy; exact hp
theorem head_at {ls : List (List Bool)} {x : List Bool} (h : ls[0]? = some x) : ls.headD [] = x := by
  cases ls with
  | nil => simp at h
  | cons y t => simp at h; simp [h]
theorem ref_fit11 {A : Option Addr} {c : Nat} (ls : List (List Bool)) (hl : ls.length ≤ 9223372036854775807) (hL : ∀ u ∈ ls, u.length ≤ 9223372036854775807) (w : World) {B : Nat} (ra : RdBs w B A ls) :
    Calls Try.prog 42 #[.slice A ls.length c] w fun e w' => e = .returned (.int .i64 (ftE ls)) ∧ w = w' := by
  have RA := hid ra
  have HLN := hid hL
  have H3 := hid (fun (k : Nat) (x : List Bool) (hx : ls[k]? = some x) (h : 4096 < x.length) => ftE_long hx h)
  have H4 := hid (fun (hs : ∀ x ∈ ls, x.length ≤ 4096) (k : Nat) (x : List Bool) (hx : ls[k]? = some x) (h : x.length ≠ (ls.headD []).length) => ftE_odd hs hx h)
  have H0 := hid (fun (hs : ∀ x ∈ ls, x.length ≤ 4096) (h : ∀ x ∈ ls, x.length = (ls.headD []).length) => ftE_fine hs h)
  obtain ⟨R, hR⟩ : ∃ R, ftE ls = R := ⟨_, rfl⟩
  rw [hR] at H3 H4 H0 ⊢
  obtain ⟨m, hm⟩ : ∃ m, (ls.headD []).length = m := ⟨_, rfl⟩
  rw [hm] at H4 H0
  have HM := hid hm
  clear hR hm ra hL
  go_enter Try.func42, Try.ntmps42
  go_wp2_with fail
  go_loop [4, 9] (fun x4 i => ∃ k : Nat, k ≤ ls.length ∧ i = .int .i64 k ∧ ∀ x ∈ ls.take k, x.length ≤ 4096) (fun _ i => ls.length - (intOf i).toNat)
  case atStart => exact ⟨0, by omega, rfl, by simp⟩
  case round =>
    obtain ⟨k, hk, rfl, hs⟩ := hrel
    have HS := hid hs
    clear hs
    by_cases hlt : k < ls.length
    · obtain ⟨b1, o1, A1, c1, x, rfl, l1, ex, d1, r1⟩ := RA.out.at_ hlt
      by_cases hx : (x.length : Int) > 4096
      · have hF := H3.out k x ex (by omega)
        subst hF
        clear ex r1
        go_wp2_with fail
        go_ret
        exact ⟨rfl, rfl⟩
      · have HS2 := hid (mem_take_snoc ex HS.out (show x.length ≤ 4096 by omega))
        clear ex r1
        go_wp2_with fail
        go_round
        case rel => exact ⟨k + 1, by omega, by go_num, HS2.out⟩
        case measure => simp [intOf]; omega
    · have hke : k = ls.length := by omega
      have HA := hid (show ∀ x ∈ ls, x.length ≤ 4096 by have h := HS.out; rw [hke, List.take_length] at h; exact h)
      clear HS
      go_wp2_with fail
      go_loop [6, 19] (fun x6 i => ∃ j : Nat, j ≤ ls.length ∧ i = .int .i64 j ∧ ∀ x ∈ ls.take j, x.length = m) (fun _ i => ls.length - (intOf i).toNat)
      case atStart => exact ⟨0, by omega, rfl, by simp⟩
      case round =>
        obtain ⟨j, hj, rfl, hs⟩ := hrel
        have HS := hid hs
        clear hs
        by_cases hjl : j < ls.length
        · obtain ⟨b1, o1, A1, c1, x, e1, l1, ex, d1, r1⟩ := RA.out.at_ hjl
          obtain ⟨b2, o2, A2, c2, y, e2, l2, ey, d2, r2⟩ := RA.out.at_ (k := 0) (by omega)
          rw [e1] at e2
          injection e2 with e2
          injection e2 with e3 e4
          subst e3 e4
          have hy : y.length = m := by rw [← HM.out, head_at ey]
          rw [hy] at d2
          rw [Nat.add_zero] at d2
          have h0 : 0 < ls.length := by omega
          by_cases hx : x.length = m
          · have HS2 := hid (mem_take_snoc ex HS.out hx)
            rw [hx] at d1
            have t1 : ((m : Int) != (m : Int)) = false := by simp
            subst e1
            clear ex ey r1 r2 hy hx
            go_wp2_with fail
            go_round
            case rel => exact ⟨j + 1, by omega, by go_num, HS2.out⟩
            case measure => simp [intOf]; omega
          · have hF := H4.out HA.out j x ex hx
            have t1 : ((x.length : Int) != (m : Int)) = true := by simp; omega
            have t2 : (x.length != m) = true := by simpa using hx
            subst hF e1
            clear ex ey r1 r2 hy hx
            go_wp2_with fail
            go_ret
            exact ⟨rfl, rfl⟩
        · have hje : j = ls.length := by omega
          have hF := H0.out HA.out (by have h := HS.out; rw [hje, List.take_length] at h; exact h)
          subst hF
          clear HS hje hke
          go_wp2_with fail
          go_ret
          exact ⟨rfl, rfl⟩
/-- A call's answer: a list of signs, in memory of the call's own, and an error. -/
def OwnBl (base : Nat) (xs : List Bool) (er : Int) (w : World) (e : Ending) (w' : World) : Prop :=
  ∃ A c, e = .returned (.tuple #[.slice A xs.length c, .int .i64 er]) ∧ w'.ownsRow base 4 1 (.slice A xs.length c) xs.length (xs.map Value.bool) ∧ Below base w w'
theorem cntB_step {ls : List (List Bool)} {k i : Nat} {x : List Bool} (hx : ls[k]? = some x) {y : Bool} (hy : x[i]? = some y) : cntB (ls.take (k + 1)) i = cntB (ls.take k) i + if y = true then 1 else 0 := by
  rw [List.take_add_one, hx]
  show cntB (ls.take k ++ [x]) i = _
  rw [cntB_snoc, List.getD_eq_getElem?_getD, hy]
  rfl
set_option maxHeartbeats 4000000 in
theorem ref_Votes11 {A : Option Addr} {c : Nat} (ls : List (List Bool)) (hl : ls.length ≤ 1000) (hL : ∀ u ∈ ls, u.length ≤ 9223372036854775807) (w : World) (ra : RdBs w w.heap.size A ls) :
    Calls Try.prog 23 #[.slice A ls.length c] w (OwnBl w.heap.size (vtV ls) (ftE ls) w) := by
  have CF := hid (ref_fit11 (A := A) (c := c) ls (by omega) hL w ra)
  by_cases he : ftE ls = 0
  · have hv : vtV ls = votL ls (ls.headD []).length := if_pos he
    rw [hv, he]
    rw [he] at CF
    by_cases h0 : ls = []
    · subst h0
      clear he hv ra hL
      go_enter Try.func23, Try.ntmps23
      go_wp2_with fail
      refine CF.out.mono ?_
      rintro _ _ ⟨rfl, rfl⟩
      go_wp2_with fail
      go_ret2
      exact ⟨none, 0, rfl, own_nil _ _ _, Below.refl _ _⟩
    · have h0' : 0 < ls.length := List.length_pos_iff.2 h0
      have t1 : ((ls.length : Int) == 0) = false := beq_eq_false_iff_ne.2 (by omega)
      have t2 : (ls.length == 0) = false := beq_eq_false_iff_ne.2 (by omega)
      have hft := ftE_ok.1 he
      obtain ⟨b0, o0, A0, c0, x0, e0, l0, ex0, d0, r0⟩ := ra.at_ h0'
      have hm0 : (ls.headD []).length = x0.length := by rw [head_at ex0]
      have hm1 := (hft x0 (List.mem_of_getElem? ex0)).1
      obtain ⟨m, hm⟩ : ∃ m, (ls.headD []).length = m := ⟨_, rfl⟩
      rw [hm] at hm0 hft ⊢
      rw [← hm0] at d0 hm1
      have HFT := hid hft
      have HSN := hid (fun q => votL_snoc ls q)
      have HVL := hid (fun q => votL_len ls q)
      have HV0 : Hid (votL ls 0 = []) := rfl
      have HVB := hid (fun q => show votB ls q = decide (ls.length < 2 * cntB ls q) from rfl)
      have HCS := hid (fun (k i : Nat) (x : List Bool) (hx : ls[k]? = some x) (y : Bool) (hy : x[i]? = some y) => cntB_step hx hy)
      have HCL := hid (fun k i => show cntB (ls.take k) i ≤ 1000 by have := cntB_le (ls.take k) i; rw [List.length_take] at this; omega)
      have HCE := hid (fun i => show cntB (ls.take ls.length) i = cntB ls i by rw [List.take_length])
      have HC0 := hid (fun i => show cntB (ls.take 0) i = 0 from rfl)
      have RA := hid ra
      subst e0
      rw [Nat.add_zero] at d0
      clear hv he h0 hft ra hL hm hm0 ex0 r0
      go_enter Try.func23, Try.ntmps23
      go_wp2_with fail
      refine CF.out.mono ?_
      rintro _ _ ⟨rfl, rfl⟩
      clear CF
      go_wp2_with fail
      go_loopw [5, 6, 7, 9, 24] (fun x5 x6 x7 x9 i wr => ∃ (q : Nat) (S : List Bool) (A2 : Option Addr) (c2 : Nat), q ≤ m ∧ i = .int .i64 q ∧ x5 = .slice A2 S.length c2 ∧ S = votL ls q ∧ wr.ownsRow w.heap.size 4 1 (.slice A2 S.length c2) S.length (S.map Value.bool) ∧ Below w.heap.size w wr) (fun _ _ _ _ i _ => m - (intOf i).toNat)
      case atStart => exact ⟨0, [], none, 0, by omega, rfl, rfl, HV0.out.symm, own_nil _ _ _, Below.refl _ _⟩
      case round =>
        obtain ⟨q, S, A2, c2, hq, rfl, rfl, hS, ho, hbel⟩ := hrel
        have HS := hid hS
        have HO := hid ho
        have hSl : S.length ≤ 4096 := by rw [hS, HVL.out]; omega
        clear hS ho
        by_cases hlt : q < m
        · go_wp2_with fail
          go_loop [7, 9, 29] (fun x7 x9 i => ∃ k : Nat, k ≤ ls.length ∧ i = .int .i64 k ∧ x7 = .int .i64 (cntB (ls.take k) q : Int)) (fun _ _ i => ls.length - (intOf i).toNat)
          case atStart => exact ⟨0, by omega, rfl, by rw [HC0.out]; rfl⟩
          case round =>
            obtain ⟨k, hk, rfl, rfl⟩ := hrel
            by_cases hkl : k < ls.length
            · obtain ⟨b1, o1, A1, c1, x, e1, l1, ex, d1, r1⟩ := (RA.out.on hbel).at_ hkl
              have hxm : x.length = m := (HFT.out x (List.mem_of_getElem? ex)).2
              obtain ⟨b3, o3, y, e3, l3, ey, d3⟩ := r1.at_ (k := q) (by omega)
              have HST := hid (HCS.out k q x ex y ey)
              have hcl := HCL.out k q
              obtain ⟨n, hn⟩ : ∃ n, cntB (ls.take k) q = n := ⟨_, rfl⟩
              rw [hn] at HST hcl ⊢
              rw [hxm] at d1
              injection e1 with e1
              injection e1 with e5 e6
              subst e5 e6 e3
              clear ex ey r1 hxm hn
              cases y with
              | true =>
                go_wp2_with fail
                go_round
                case rel => exact ⟨k + 1, by omega, by go_num, by rw [HST.out]; rfl⟩
                case measure => simp [intOf]; omega
              | false =>
                go_wp2_with fail
                go_round
                case rel => exact ⟨k + 1, by omega, by go_num, by rw [HST.out]; rfl⟩
                case measure => simp [intOf]; omega
            · obtain rfl : k = ls.length := by omega
              rw [HCE.out]
              have hcl : cntB ls q ≤ 1000 := by have := HCL.out ls.length q; rw [HCE.out] at this; exact this
              have hvb := HVB.out q
              obtain ⟨n, hn⟩ : ∃ n, cntB ls q = n := ⟨_, rfl⟩
              rw [hn] at hvb hcl ⊢
              obtain ⟨n2, hn2⟩ : ∃ n2, 2 * n = n2 := ⟨_, rfl⟩
              have i2 : (2 : Int) * (n : Int) = (n2 : Int) := by omega
              rw [hn2] at hvb
              obtain ⟨D, hD⟩ : ∃ D, decide (ls.length < n2) = D := ⟨_, rfl⟩
              have HD := hid (show votB ls q = D by rw [hvb, hD])
              have hD2 : decide ((ls.length : Int) < (n2 : Int)) = D := by rw [← hD]; exact decide_eq_decide.2 (by omega)
              have HSQ := hid (HSN.out q)
              have g1 := own_on HO.out ((Below.refl wr.heap.size wr).alloc (Nat.le_refl _) (.cells #[.bool D] 4))
              have hr0 : Rd Value.bool (wr.alloc (.cells #[.bool D] 4)) _ (some ⟨wr.heap.size, 0, none⟩) [D] := rd_one (one_cell wr (.bool D) 4).1
              clear hvb hn hkl hn2
              go_wp2_with (at_builtin; refine wpList_app Value.bool (fun _ => rfl) _ rfl _ _ 25 rfl w.heap.size 4 (.bool false) 1 Try.underlying25 info_bool rfl S _ _ rfl g1 [D] _ 1 _ rfl hr0 (by simp [maxLen]; omega) (by simp; omega) (by have := hbel.size; simp; omega) ?_)
              rintro S' A' c' w5 hS' ho' hb1 _
              have HS' := hid hS'
              have HO' := hid ho'
              clear hS' ho'
              go_wp2_with fail
              go_roundw
              case rel => exact ⟨q + 1, S', A', c', by omega, by go_num, rfl, by rw [HS'.out, HSQ.out, HS.out, HD.out], HO'.out, (hbel.alloc hbel.size _).trans hb1⟩
              case measure => simp [intOf]; omega
        · obtain rfl : q = m := by omega
          have hfin : OwnBl w.heap.size (votL ls q) 0 w (.returned (.tuple #[.slice A2 S.length c2, .int .i64 0])) wr := by rw [← HS.out]; exact ⟨A2, c2, rfl, HO.out, hbel⟩
          clear HO
          go_wp2_with fail
          go_ret2
          exact hfin
  · have hv : vtV ls = [] := if_neg he
    rw [hv]
    obtain ⟨E, hE⟩ : ∃ E, ftE ls = E := ⟨_, rfl⟩
    rw [hE] at CF he ⊢
    have hne : (E != 0) = true := by simpa using he
    clear hv he hE ra hL
    go_enter Try.func23, Try.ntmps23
    go_wp2_with fail
    refine CF.out.mono ?_
    rintro _ _ ⟨rfl, rfl⟩
    go_wp2_with fail
    go_ret2
    exact ⟨none, 0, rfl, own_nil _ _ _, Below.refl _ _⟩
theorem trnN_ok {a b : List Bool} (h : ftE [a, b] = 0) : trnN a b = trnM a b a.length ∧ a.length ≤ 4096 ∧ b.length = a.length := by
  have h2 := ftE_ok.1 h
  exact ⟨if_pos h, (h2 a (by simp)).1, (h2 b (by simp)).2⟩
theorem ref_Turns11 {A B : Option Addr} {c d : Nat} (a b : List Bool) (ha : a.length ≤ 9223372036854775807) (hb : b.length ≤ 9223372036854775807) (w : World) (ra : Rd Value.bool w w.heap.size A a) (rb : Rd Value.bool w w.heap.size B b) :
    Calls Try.prog 25 #[.slice A a.length c, .slice B b.length d] w fun e w' => e = .returned (.tuple #[.int .i64 (trnN a b : Int), .int .i64 (ftE [a, b])]) ∧ Below w.heap.size w w' := by
  have g1 : Below w.heap.size w (w.alloc (.cells #[.slice A a.length c, .slice B b.length d] 25)) := (Below.refl _ _).alloc (Nat.le_refl _) _
  have rr : RdBs (w.alloc (.cells #[.slice A a.length c, .slice B b.length d] 25)) (w.alloc (.cells #[.slice A a.length c, .slice B b.length d] 25)).heap.size (some ⟨w.heap.size, 0, none⟩) [a, b] := rdbs_new w 25 [a, b] [.slice A a.length c, .slice B b.length d] (fun k xs hx => by
    match k, hx with
    | 0, hx => simp at hx; subst hx; exact ⟨A, c, rfl, ra⟩
    | 1, hx => simp at hx; subst hx; exact ⟨B, d, rfl, rb⟩
    | k + 2, hx => simp at hx)
  have CF := hid (ref_fit11 (A := some ⟨w.heap.size, 0, none⟩) (c := 2) [a, b] (by simp) (by intro u hu; simp at hu; rcases hu with rfl | rfl; exact ha; exact hb) _ rr)
  rw [show ([a, b] : List (List Bool)).length = 2 from rfl] at CF
  have RA := hid (ra.on g1)
  have RB := hid (rb.on g1)
  have G1 := hid g1
  by_cases he : ftE [a, b] = 0
  · obtain ⟨h1, h2, h3⟩ := trnN_ok he
    rw [he, h1]
    rw [he] at CF
    have HS := hid (fun m => show trnM a b (m + 1) = trnM a b m + if a.getD m false = b.getD m false then 0 else 1 from rfl)
    have HLE := hid (fun m => trnM_le a b m)
    have H0 : Hid (trnM a b 0 = 0) := rfl
    obtain ⟨F, hF⟩ : ∃ F, trnM a b = F := ⟨_, rfl⟩
    rw [hF] at HS HLE H0 ⊢
    have HBL := hid h3
    clear he h1 h3 ra rb rr g1 hF
    go_enter Try.func25, Try.ntmps25
    go_wp2_with fail
    refine CF.out.mono ?_
    rintro _ w1 ⟨rfl, hw1⟩
    rw [hw1] at RA RB G1
    clear CF hw1
    go_wp2_with fail
    go_loopw [7, 8, 18] (fun x7 x8 i wr => ∃ k : Nat, k ≤ a.length ∧ i = .int .i64 k ∧ x7 = .int .i64 (F k : Int) ∧ ∃ n, wr = w1.drewN n) (fun _ _ i _ => a.length - (intOf i).toNat)
    case atStart => exact ⟨0, by omega, rfl, by rw [H0.out]; rfl, 0, rfl⟩
    case round =>
      obtain ⟨k, hk, rfl, rfl, n, rfl⟩ := hrel
      by_cases hlt : k < a.length
      · obtain ⟨b1, o1, x, rfl, l1, ex, d1⟩ := RA.out.at_ hlt
        have hlb : k < b.length := by rw [HBL.out]; exact hlt
        obtain ⟨b2, o2, y, rfl, l2, ey, d2⟩ := RB.out.at_ hlb
        have hs := HS.out k
        have hle := HLE.out k
        rw [List.getD_eq_getElem?_getD, List.getD_eq_getElem?_getD, ex, ey] at hs
        obtain ⟨f, hf⟩ : ∃ f, F k = f := ⟨_, rfl⟩
        rw [hf] at hs hle ⊢
        clear ex ey hf
        by_cases hxy : x = y
        · have HSK := hid (show F (k + 1) = f by rw [hs]; simp [hxy])
          have t1 : (y != y) = false := by simp
          subst hxy
          clear hs
          go_wp2_with fail
          go_quiet (fail)
          go_wp2_with fail
          go_roundw
          case rel => exact ⟨k + 1, by omega, by go_num, by rw [HSK.out], _, rfl⟩
          case measure => simp [intOf]; omega
        · have HSK := hid (show F (k + 1) = f + 1 by rw [hs]; simp [hxy])
          have t1 : (x != y) = true := by simpa using hxy
          have t2 : (x == y) = false := by simpa using hxy
          have t3 : (!(x == y)) = true := by simpa using hxy
          clear hs hxy
          go_wp2_with fail
          go_quiet (fail)
          go_wp2_with fail
          go_roundw
          case rel => exact ⟨k + 1, by omega, by go_num, by rw [HSK.out]; rfl, _, rfl⟩
          case measure => simp [intOf]; omega
      · obtain rfl : k = a.length := by omega
        go_wp2_with fail
        go_ret2
        exact ⟨rfl, G1.out.trans (belowN _ _ _)⟩
  · have hv : trnN a b = 0 := if_neg he
    rw [hv]
    obtain ⟨E, hE⟩ : ∃ E, ftE [a, b] = E := ⟨_, rfl⟩
    rw [hE] at CF he ⊢
    have hne : (E != 0) = true := by simpa using he
    clear hv he hE ra rb rr g1
    go_enter Try.func25, Try.ntmps25
    go_wp2_with fail
    refine CF.out.mono ?_
    rintro _ w1 ⟨rfl, hw1⟩
    rw [hw1] at G1
    go_wp2_with fail
    go_ret2
    exact ⟨rfl, G1.out⟩
end Go.Proofs.Ytkcckncglbjjdaa
/- Lists and arrays that are compared, by package slices; the program's view of a vector and of a frame. -/
namespace Go.Proofs.Ytkcckncglbjjdaa
open Go.RowKit
set_option maxHeartbeats 400000
set_option maxRecDepth 100000
set_option linter.unusedVariables false
theorem eq_bools {A B : Option Addr} {c d : Nat} (xs ys : List Bool) (hx : xs.length ≤ 9223372036854775807) (hy : ys.length ≤ 9223372036854775807) (w : World) {L M : Nat}
    (ra : Rd Value.bool w L A xs) (rb : Rd Value.bool w M B ys) :
    Calls Try.prog 38 #[.slice A xs.length c, .slice B ys.length d] w fun e w' => e = .returned (.bool (eqN xs ys)) ∧ ∃ n, w' = w.drewN n := by
  by_cases hl : xs.length = ys.length
  · have HA := hid ra
    have HB := hid rb
    clear ra rb
    have h1 : ((xs.length : Int) != (ys.length : Int)) = false := by simp; omega
    have h2 : (xs.length != ys.length) = false := by simp; omega
    have HL := hid hl
    clear hl
    go_enter Try.func38, Try.ntmps38
    go_wp2_with fail
    clear h1 h2
    go_loopw [13] (fun i wr => ∃ k : Nat, k ≤ xs.length ∧ i = .int .i64 k ∧ xs.take k = ys.take k ∧ ∃ n, wr = w.drewN n) (fun i _ => xs.length - (intOf i).toNat)
    case atStart => exact ⟨0, by omega, rfl, rfl, 0, rfl⟩
    case round =>
      obtain ⟨k, hk, rfl, ht, n, rfl⟩ := hrel
      have HT := hid ht
      clear ht
      by_cases hlt : k < xs.length
      · have hlt2 : k < ys.length := by have := HL.out; omega
        obtain ⟨b1, o1, x, rfl, l1, ex, c1⟩ := HA.out.at_ hlt
        obtain ⟨b2, o2, y, rfl, l2, ey, c2⟩ := HB.out.at_ hlt2
        have EX := hid ex
        have EY := hid ey
        clear ex ey
        by_cases e : x = y
        · subst e
          have EE : Hid (xs.take (k + 1) = ys.take (k + 1)) := hid (takeN_step HT.out EX.out EY.out rfl)
          cases x
          · go_wp2_with fail
            go_quiet (fail)
            go_wp2_with fail
            go_roundw
            case rel => exact ⟨k + 1, by omega, by go_num, EE.out, _, rfl⟩
            case measure => simp [intOf]; omega
          · go_wp2_with fail
            go_quiet (fail)
            go_wp2_with fail
            go_roundw
            case rel => exact ⟨k + 1, by omega, by go_num, EE.out, _, rfl⟩
            case measure => simp [intOf]; omega
        · have hne := eqN_no EX.out EY.out e
          cases x <;> cases y
          · exact absurd rfl e
          · go_wp2_with fail
            go_quiet (fail)
            go_wp2_with fail
            go_ret
            rw [hne]
            exact ⟨rfl, drewN_two _ _ _⟩
          · go_wp2_with fail
            go_quiet (fail)
            go_wp2_with fail
            go_ret
            rw [hne]
            exact ⟨rfl, drewN_two _ _ _⟩
          · exact absurd rfl e
      · have hke : k = xs.length := by omega
        have HK := hid hke
        clear hke
        go_wp2_with fail
        go_ret
        rw [eqN_yes HT.out HK.out HL.out]
        exact ⟨rfl, _, rfl⟩
  · rw [eqN_len hl]
    have h1 : ((xs.length : Int) != (ys.length : Int)) = true := by simp; omega
    have h2 : (xs.length != ys.length) = true := by simp; omega
    clear hl ra rb
    go_enter Try.func38, Try.ntmps38
    go_wp2_with fail
    go_ret
    exact ⟨rfl, 0, rfl⟩
theorem equal_eight (a b c d e f g h a' b' c' d' e' f' g' h' : Int) (w : World) :
    (Op.equalIn 10000 70 (.agg #[.int .i64 a, .int .i64 b, .int .i64 c, .int .i64 d, .int .i64 e, .int .i64 f, .int .i64 g, .int .i64 h]) (.agg #[.int .i64 a', .int .i64 b', .int .i64 c', .int .i64 d', .int .i64 e', .int .i64 f', .int .i64 g', .int .i64 h'])).run Try.prog w = .ok (eqB [a, b, c, d, e, f, g, h] [a', b', c', d', e', f', g', h']) w := by
  have h0 : ∀ (x0 x1 x2 x3 x4 x5 x6 x7 : Int) (w : World), (part 2 #[.int .i64 x0, .int .i64 x1, .int .i64 x2, .int .i64 x3, .int .i64 x4, .int .i64 x5, .int .i64 x6, .int .i64 x7] 0).run Try.prog w = .ok (.int .i64 x0) w := fun _ _ _ _ _ _ _ _ _ => by kernel_rfl
  have h1 : ∀ (x0 x1 x2 x3 x4 x5 x6 x7 : Int) (w : World), (part 2 #[.int .i64 x0, .int .i64 x1, .int .i64 x2, .int .i64 x3, .int .i64 x4, .int .i64 x5, .int .i64 x6, .int .i64 x7] 1).run Try.prog w = .ok (.int .i64 x1) w := fun _ _ _ _ _ _ _ _ _ => by kernel_rfl
  have h2 : ∀ (x0 x1 x2 x3 x4 x5 x6 x7 : Int) (w : World), (part 2 #[.int .i64 x0, .int .i64 x1, .int .i64 x2, .int .i64 x3, .int .i64 x4, .int .i64 x5, .int .i64 x6, .int .i64 x7] 2).run Try.prog w = .ok (.int .i64 x2) w := fun _ _ _ _ _ _ _ _ _ => by kernel_rfl
  have h3 : ∀ (x0 x1 x2 x3 x4 x5 x6 x7 : Int) (w : World), (part 2 #[.int .i64 x0, .int .i64 x1, .int .i64 x2, .int .i64 x3, .int .i64 x4, .int .i64 x5, .int .i64 x6, .int .i64 x7] 3).run Try.prog w = .ok (.int .i64 x3) w := fun _ _ _ _ _ _ _ _ _ => by kernel_rfl
  have h4 : ∀ (x0 x1 x2 x3 x4 x5 x6 x7 : Int) (w : World), (part 2 #[.int .i64 x0, .int .i64 x1, .int .i64 x2, .int .i64 x3, .int .i64 x4, .int .i64 x5, .int .i64 x6, .int .i64 x7] 4).run Try.prog w = .ok (.int .i64 x4) w := fun _ _ _ _ _ _ _ _ _ => by kernel_rfl
  have h5 : ∀ (x0 x1 x2 x3 x4 x5 x6 x7 : Int) (w : World), (part 2 #[.int .i64 x0, .int .i64 x1, .int .i64 x2, .int .i64 x3, .int .i64 x4, .int .i64 x5, .int .i64 x6, .int .i64 x7] 5).run Try.prog w = .ok (.int .i64 x5) w := fun _ _ _ _ _ _ _ _ _ => by kernel_rfl
  have h6 : ∀ (x0 x1 x2 x3 x4 x5 x6 x7 : Int) (w : World), (part 2 #[.int .i64 x0, .int .i64 x1, .int .i64 x2, .int .i64 x3, .int .i64 x4, .int .i64 x5, .int .i64 x6, .int .i64 x7] 6).run Try.prog w = .ok (.int .i64 x6) w := fun _ _ _ _ _ _ _ _ _ => by kernel_rfl
  have h7 : ∀ (x0 x1 x2 x3 x4 x5 x6 x7 : Int) (w : World), (part 2 #[.int .i64 x0, .int .i64 x1, .int .i64 x2, .int .i64 x3, .int .i64 x4, .int .i64 x5, .int .i64 x6, .int .i64 x7] 7).run Try.prog w = .ok (.int .i64 x7) w := fun _ _ _ _ _ _ _ _ _ => by kernel_rfl
  have hs : (sizeOf 2).run Try.prog w = .ok 1 w := by kernel_rfl
  rw [show (10000 : Nat) = 9998 + 1 + 1 from rfl]
  unfold Op.equalIn
  simp only [Sem.run_bind, run_underlying Try.underlying70, Result.andThen_ok, hs]
  simp only [Std.Legacy.Range.forIn_eq_forIn_range', Std.Legacy.Range.size]
  simp only [Nat.sub_zero, Nat.reduceAdd, Nat.reduceSub, Nat.reduceDiv, List.range', List.forIn_cons, List.forIn_nil, Sem.run_bind]
  have hq : ∀ x y : Int, (Op.equalIn 9999 2 (.int .i64 x) (.int .i64 y)).run Try.prog w = .ok (x == y) w := fun x y => run_equalIn_int w 9998 _ _ _ _ _ Try.underlying2
  simp only [Nat.zero_mul, Nat.one_mul, h0, hq, Result.andThen_ok]
  unfold eqB
  by_cases e0 : a = a'
  · subst e0
    by_cases e1 : b = b'
    · subst e1
      by_cases e2 : c = c'
      · subst e2
        by_cases e3 : d = d'
        · subst e3
          by_cases e4 : e = e'
          · subst e4
            by_cases e5 : f = f'
            · subst e5
              by_cases e6 : g = g'
              · subst e6
                by_cases e7 : h = h' <;> simp [h1, h2, h3, h4, h5, h6, h7, hq, e7]
              · simp [h1, h2, h3, h4, h5, h6, hq, e6]
            · simp [h1, h2, h3, h4, h5, hq, e5]
          · simp [h1, h2, h3, h4, hq, e4]
        · simp [h1, h2, h3, hq, e3]
      · simp [h1, h2, hq, e2]
    · simp [h1, hq, e1]
  · simp [e0]
end Go.Proofs.Ytkcckncglbjjdaa
/- The program's places: whether they may be, by a closure that keeps the place ahead. -/
namespace Go.Proofs.Ytkcckncglbjjdaa
open Go.RowKit
set_option maxHeartbeats 400000
set_option maxRecDepth 100000
set_option linter.unusedVariables false
/-- Places that rise, below an end. -/
def gdP (E : Int) (l : List Int) : Prop := risP l ∧ ∀ n ∈ l, 0 ≤ n ∧ n < E
instance (E : Int) (l : List Int) : Decidable (gdP E l) := by unfold gdP; infer_instance
def gdB (E : Int) (l : List Int) : Bool := decide (gdP E l)
theorem gd_nil (E : Int) : gdP E [] := ⟨ris_nil, by simp⟩
theorem lastI_big : ∀ {l : List Int} {x : Int}, risP l → x ∈ l → x ≤ lastI (-1) l := by
  intro l x h hx
  rcases List.eq_nil_or_concat l with rfl | ⟨l', y, rfl⟩
  · simp at hx
  · rw [List.concat_eq_append] at *
    rw [lastI_snoc]
    rcases List.mem_append.1 hx with hx | hx
    · have := (ris_snoc.1 h).2 x hx; omega
    · simp at hx; omega
theorem lastI_from {l : List Int} {E : Int} (h : gdP E l) : -1 ≤ lastI (-1) l := by
  rcases lastI_mem l (-1) with ⟨e, _⟩ | hm
  · omega
  · have := h.2 _ hm; omega
theorem gd_step {E : Int} {l : List Int} {k : Nat} {x : Int} (h : gdP E (l.take k)) (hx : l[k]? = some x) : gdP E (l.take (k + 1)) ↔ lastI (-1) (l.take k) < x ∧ x < E := by
  rw [take_snoc hx]
  unfold gdP
  rw [ris_snoc]
  have hf := lastI_from h
  constructor
  · rintro ⟨⟨h1, h2⟩, h3⟩
    have hxE := h3 x (by simp)
    refine ⟨?_, hxE.2⟩
    rcases lastI_mem (l.take k) (-1) with ⟨e, _⟩ | hm
    · omega
    · exact h2 _ hm
  · rintro ⟨h1, h2⟩
    refine ⟨⟨h.1, fun y hy => ?_⟩, fun y hy => ?_⟩
    · have := lastI_big h.1 hy; omega
    · rcases List.mem_append.1 hy with hy | hy
      · exact h.2 y hy
      · simp at hy; omega
theorem gd_no {E : Int} {l : List Int} {k : Nat} {x : Int} (h : gdP E (l.take k)) (hx : l[k]? = some x) (hn : ¬ (lastI (-1) (l.take k) < x ∧ x < E)) : ¬ gdP E l := fun hg => by
  refine hn ((gd_step h hx).1 ⟨ris_take hg.1 _, fun n hm => hg.2 n (List.mem_of_mem_take hm)⟩)
/-- The closure's two cells. -/
def Kept (w : World) (p q : Nat) (a E : Int) : Prop := w.cell? ⟨p, 0, none⟩ = some (.int .i64 a) ∧ w.frozen? ⟨p, 0, none⟩ = false ∧ w.cell? ⟨q, 0, none⟩ = some (.int .i64 E)
theorem ix_may (dim : Int) (hd : I64 dim) (w : World) :
    Calls Try.prog 62 #[.int .i64 dim] w fun e w' => e = .returned (.bool (decide (1 ≤ dim ∧ dim ≤ 4096))) ∧ w = w' := by
  unfold I64 at hd
  by_cases h1 : 1 ≤ dim
  · by_cases h2 : dim ≤ 4096
    · rw [decide_eq_true ⟨h1, h2⟩]
      go_enter Try.func62, Try.ntmps62
      go_wp2_with fail
      go_ret
      exact ⟨rfl, rfl⟩
    · rw [decide_eq_false (fun h => h2 h.2)]
      go_enter Try.func62, Try.ntmps62
      go_wp2_with fail
      go_ret
      exact ⟨rfl, rfl⟩
  · rw [decide_eq_false (fun h => h1 h.1)]
    go_enter Try.func62, Try.ntmps62
    go_wp2_with fail
    go_ret
    exact ⟨rfl, rfl⟩
theorem ix_stray (E : Int) (w : World) :
    Calls Try.prog 64 #[.int .i64 E] w fun e w' => e = .returned (.func (.func 71) #[] #[.pointer (some ⟨w.heap.size + 1, 0, none⟩), .pointer (some ⟨w.heap.size, 0, none⟩)]) ∧ Kept w' (w.heap.size + 1) w.heap.size (-1) E ∧ Below w.heap.size w w' := by
  go_enter Try.func64, Try.ntmps64
  go_wp2_with fail
  go_ret
  refine ⟨rfl, ⟨?_, ?_, ?_⟩, ?_⟩
  · simp [go_sem]
  · simp [go_sem]
  · simp [go_sem]
  · go_grown
theorem Kept.below {w w' : World} {p q B : Nat} {a E : Int} (h : Kept w p q a E) (hb : Below B w w') (hp : p < B) (hq : q < B) : Kept w' p q a E :=
  ⟨(hb.cell (p := ⟨p, 0, none⟩) hp).trans h.1, (hb.frozen (p := ⟨p, 0, none⟩) hp).trans h.2.1, (hb.cell (p := ⟨q, 0, none⟩) hq).trans h.2.2⟩
/-- One place asked. -/
theorem stray_cl {p q B : Nat} (hpq : p ≠ q) (hB : B ≤ p) (a E x : Int) (w : World) (hk : Kept w p q a E) :
    Calls Try.prog 71 (#[.int .i64 x] ++ #[.pointer (some ⟨p, 0, none⟩), .pointer (some ⟨q, 0, none⟩)]) w fun e w' => e = .returned (.bool (!decide (a < x ∧ x < E))) ∧ Kept w' p q x E ∧ Below B w w' := by
  obtain ⟨c1, c2, c3⟩ := hk
  have key : ∀ n, Kept ((w.drewN n).setCell ⟨p, 0, none⟩ (.int .i64 x)) p q x E ∧ Below B w ((w.drewN n).setCell ⟨p, 0, none⟩ (.int .i64 x)) := fun n => by
    refine ⟨⟨World.cell?_setCell_same _ _ _ c1, ?_, ?_⟩, (belowN B w n).setCell hB _⟩
    · rw [World.frozen?_setCell]; exact c2
    · rw [World.cell?_setCell_other _ _ _ _ (by intro e; injection e with e1 e2; exact hpq e1)]; exact c3
  have HK := hid key
  clear key
  by_cases h1 : x ≤ a
  · rw [decide_eq_false (fun h => by omega)]
    go_enter Try.func71, Try.ntmps71
    go_wp2_with fail
    go_ret
    exact ⟨rfl, HK.out 0⟩
  · by_cases h2 : E ≤ x
    · rw [decide_eq_false (fun h => by omega)]
      go_enter Try.func71, Try.ntmps71
      go_wp2_with fail
      go_ret
      exact ⟨rfl, HK.out 0⟩
    · rw [decide_eq_true (show a < x ∧ x < E by omega)]
      go_enter Try.func71, Try.ntmps71
      go_wp2_with fail
      go_ret
      exact ⟨rfl, HK.out 0⟩
theorem stray_index {A : Option Addr} {c p q B : Nat} (hpq : p ≠ q) (hp : B ≤ p) (hq : B ≤ q) (E : Int) (l : List Int) (hl : l.length ≤ 9223372036854775807) (w : World) (ra : Rd (Value.int .i64) w B A l) (hk : Kept w p q (-1) E) :
    Calls Try.prog 70 #[.slice A l.length c, .func (.func 71) #[] #[.pointer (some ⟨p, 0, none⟩), .pointer (some ⟨q, 0, none⟩)]] w fun e w' => ∃ r : Int, e = .returned (.int .i64 r) ∧ decide (0 ≤ r) = !gdB E l ∧ Below B w w' := by
  have HC := hid (fun a x W h => stray_cl (p := p) (q := q) (B := B) hpq hp a E x W h)
  have hcl := cl_enter 71 (by kernel_rfl)
  have HA := hid ra
  have HY : Hid (gdP E l → gdB E l = true) := hid (fun h => decide_eq_true h)
  have HN : Hid (¬ gdP E l → gdB E l = false) := hid (fun h => decide_eq_false h)
  obtain ⟨R, hR⟩ : ∃ R, gdB E l = R := ⟨_, rfl⟩
  rw [hR] at HY HN ⊢
  clear ra hR
  have HK := hid hk
  clear hk
  go_enter Try.func70, Try.ntmps70
  go_wp2_with fail
  go_loopw [5, 8] (fun i0 i wr => ∃ k : Nat, k ≤ l.length ∧ i = .int .i64 k ∧ gdP E (l.take k) ∧ Kept wr p q (lastI (-1) (l.take k)) E ∧ Below B w wr) (fun _ i _ => l.length - (intOf i).toNat)
  case atStart => exact ⟨0, by omega, rfl, by rw [List.take_zero]; exact gd_nil E, HK.out, Below.refl _ _⟩
  case round =>
    obtain ⟨k, hk, rfl, hg, hkp, hb⟩ := hrel
    have HG := hid hg
    have HP := hid hkp
    clear hg hkp
    by_cases hlt : k < l.length
    · obtain ⟨b1, o1, x, rfl, l1, ex, c1⟩ := (HA.out.below hb).at_ hlt
      have C := hid (HC.out (lastI (-1) (l.take k)) x wr HP.out)
      have HL := hid (lastI_step ex)
      have HS := hid (gd_step HG.out ex)
      have HF := hid (gd_no HG.out ex)
      obtain ⟨t, ht⟩ : ∃ t, lastI (-1) (l.take k) = t := ⟨_, rfl⟩
      rw [ht] at C HS HF
      clear ex ht HP
      by_cases a : t < x ∧ x < E
      · rw [decide_eq_true a] at C
        have HG2 := hid (HS.out.2 a)
        clear a HS HF
        go_wp2_with fail
        refine C.out.mono ?_
        rintro _ w2 ⟨rfl, hk2, hb2⟩
        have HK2 := hid hk2
        clear hk2
        go_wp2_with fail
        go_roundw
        case rel => exact ⟨k + 1, by omega, by go_num, HG2.out, by rw [HL.out]; exact HK2.out, hb.trans hb2⟩
        case measure => simp [intOf]; omega
      · rw [decide_eq_false a] at C
        have hR := HN.out (HF.out a)
        subst hR
        clear a HS HF
        go_wp2_with fail
        refine C.out.mono ?_
        rintro _ w2 ⟨rfl, hk2, hb2⟩
        clear hk2
        go_wp2_with fail
        go_ret
        exact ⟨_, rfl, decide_eq_true (by omega), hb.trans hb2⟩
    · have hR := HY.out (by have h := HG.out; rw [List.take_of_length_le (by omega)] at h; exact h)
      subst hR
      go_wp2_with fail
      go_ret
      exact ⟨_, rfl, by decide, hb⟩
theorem stray_contains {A : Option Addr} {c p q B : Nat} (hpq : p ≠ q) (hp : B ≤ p) (hq : B ≤ q) (E : Int) (l : List Int) (hl : l.length ≤ 9223372036854775807) (w : World) (ra : Rd (Value.int .i64) w B A l) (hk : Kept w p q (-1) E) :
    Calls Try.prog 63 #[.slice A l.length c, .func (.func 71) #[] #[.pointer (some ⟨p, 0, none⟩), .pointer (some ⟨q, 0, none⟩)]] w fun e w' => e = .returned (.bool (!gdB E l)) ∧ Below B w w' := by
  have C := hid (stray_index (A := A) (c := c) hpq hp hq E l hl w ra hk)
  obtain ⟨R, hR⟩ : ∃ R, (!gdB E l) = R := ⟨_, rfl⟩
  rw [hR] at C ⊢
  clear hR ra hk
  go_enter Try.func63, Try.ntmps63
  go_wp2_with fail
  refine C.out.mono ?_
  rintro _ w2 ⟨r, rfl, hr, hb⟩
  go_wp2_with fail
  go_ret
  exact ⟨rfl, hb⟩
theorem ix_Check {A : Option Addr} {c : Nat} (dim : Int) (l : List Int) (hd : I64 dim) (hl : l.length ≤ 100000) (w : World) (ra : Rd (Value.int .i64) w w.heap.size A l) :
    Calls Try.prog 54 #[.int .i64 dim, .slice A l.length c] w fun e w' => e = .returned (.int .i64 (chkE dim l)) ∧ Below w.heap.size w w' := by
  have CM := hid (ix_may dim hd)
  have HA := hid ra
  by_cases h1 : 1 ≤ dim ∧ dim ≤ 4096
  · have e : chkE dim l = if gdB dim l = true then 0 else 1 := by
      by_cases g : gdP dim l
      · rw [chk_ok.2 ⟨h1.1, h1.2, g.1, g.2⟩, if_pos (show gdB dim l = true from decide_eq_true g)]
      · rw [chk_no (fun h => g ⟨h.2.2.1, h.2.2.2⟩), if_neg]
        unfold gdB
        simpa using g
    rw [decide_eq_true h1] at CM
    rw [e]
    have CS := hid (ix_stray dim w)
    have CC := hid (fun W h1 h2 => stray_contains (A := A) (c := c) (p := w.heap.size + 1) (q := w.heap.size) (B := w.heap.size) (by omega) (by omega) (by omega) dim l (by omega) W h1 h2)
    obtain ⟨R, hR⟩ : ∃ R, gdB dim l = R := ⟨_, rfl⟩
    rw [hR] at CC ⊢
    clear hR e ra h1
    go_enter Try.func54, Try.ntmps54
    go_wp2_with fail
    refine (CM.out w).mono ?_
    rintro _ _ ⟨rfl, rfl⟩
    go_wp2_with fail
    refine CS.out.mono ?_
    rintro _ w1 ⟨rfl, hk1, hb1⟩
    have C := hid (CC.out w1 (HA.out.below hb1) hk1)
    clear CC CS CM hk1
    cases R with
    | true =>
      go_wp2_with fail
      refine C.out.mono ?_
      rintro _ w2 ⟨rfl, hb2⟩
      go_wp2_with fail
      go_ret
      exact ⟨rfl, hb1.trans hb2⟩
    | false =>
      go_wp2_with fail
      refine C.out.mono ?_
      rintro _ w2 ⟨rfl, hb2⟩
      go_wp2_with fail
      go_ret
      exact ⟨rfl, hb1.trans hb2⟩
  · rw [decide_eq_false h1] at CM
    rw [chk_no (fun h => h1 ⟨h.1, h.2.1⟩)]
    clear ra h1
    go_enter Try.func54, Try.ntmps54
    go_wp2_with fail
    refine (CM.out w).mono ?_
    rintro _ _ ⟨rfl, rfl⟩
    go_wp2_with fail
    go_ret
    exact ⟨rfl, Below.refl _ _⟩
end Go.Proofs.Ytkcckncglbjjdaa
/- Bits set one by one, wherever they go: plain mathematics. -/
namespace Go.Proofs.Ytkcckncglbjjdaa
open Go.RowKit
set_option maxRecDepth 100000
set_option linter.unusedVariables false
theorem byF_congr {n : Nat} {f g : Nat → Bool} (h : ∀ k, k < n → f k = g k) (i : Nat) : byF n f i = byF n g i := by
  have e : ∀ p w, bv n f p w = bv n g p w := fun p w => by
    unfold bv
    by_cases hp : p < n
    · rw [h p hp]
    · rw [if_neg (by omega), if_neg (by omega)]
  unfold byF
  simp only [e]
theorem byF_same {n a i : Nat} {f g : Nat → Bool} (h : ∀ p, p < n → p ≠ a → g p = f p) (hi : i ≠ a / 8) : byF n g i = byF n f i := by
  have e : ∀ p w, p / 8 = i → bv n g p w = bv n f p w := fun p w hp => by
    unfold bv
    by_cases hn : p < n
    · rw [h p hn (by omega)]
    · rw [if_neg (by omega), if_neg (by omega)]
  unfold byF
  rw [e _ _ (by omega), e _ _ (by omega), e _ _ (by omega), e _ _ (by omega), e _ _ (by omega), e _ _ (by omega), e _ _ (by omega), e _ _ (by omega)]
theorem or8 : ∀ (r : Fin 8) (a b c d e f g h : Bool), [a, b, c, d, e, f, g, h].getD r.val false = false →
    bits BinOp.or IntKind.u8 (sum8 a b c d e f g h) (2 ^ (7 - r.val)) = sum8 (a || r.val == 0) (b || r.val == 1) (c || r.val == 2) (d || r.val == 3) (e || r.val == 4) (f || r.val == 5) (g || r.val == 6) (h || r.val == 7) := by decide +kernel
theorem byF_set {n a : Nat} {f g : Nat → Bool} (ha : a < n) (h0 : f a = false) (h1 : g a = true) (h : ∀ p, p < n → p ≠ a → g p = f p) :
    bits BinOp.or IntKind.u8 (byF n f (a / 8)) (2 ^ (7 - a % 8)) = byF n g (a / 8) := by
  have e : ∀ t, t < 8 → (decide (8 * (a / 8) + t < n) && g (8 * (a / 8) + t)) = ((decide (8 * (a / 8) + t < n) && f (8 * (a / 8) + t)) || a % 8 == t) := fun t ht => by
    by_cases he : a % 8 = t
    · rw [show 8 * (a / 8) + t = a by omega, h1]
      simp [ha, he]
    · by_cases hn : 8 * (a / 8) + t < n
      · rw [h _ hn (by omega)]
        simp [he]
      · simp [he, hn]
  have e0 := e 0 (by omega)
  rw [Nat.add_zero] at e0
  rw [byF_sum, byF_sum, e0, e 1 (by omega), e 2 (by omega), e 3 (by omega), e 4 (by omega), e 5 (by omega), e 6 (by omega), e 7 (by omega)]
  refine or8 ⟨a % 8, by omega⟩ _ _ _ _ _ _ _ _ ?_
  have ea : ∀ t, a % 8 = t → (decide (8 * (a / 8) + t < n) && f (8 * (a / 8) + t)) = false := fun t ht => by
    rw [show 8 * (a / 8) + t = a by omega, h0, Bool.and_false]
  have h8 : a % 8 < 8 := by omega
  show List.getD _ (a % 8) false = false
  obtain ⟨r, hr⟩ : ∃ r, a % 8 = r := ⟨_, rfl⟩
  rw [hr] at h8 ea ⊢
  match r, h8 with
  | 0, _ => exact ea 0 rfl
  | 1, _ => exact ea 1 rfl
  | 2, _ => exact ea 2 rfl
  | 3, _ => exact ea 3 rfl
  | 4, _ => exact ea 4 rfl
  | 5, _ => exact ea 5 rfl
  | 6, _ => exact ea 6 rfl
  | 7, _ => exact ea 7 rfl
/-- Where each bit of each number goes, and back. -/
def Places (k m : Nat) (pl : Nat → Nat → Nat) (nu bi : Nat → Nat) : Prop :=
  (∀ i j, i < m → j < k → nu (pl i j) = i ∧ bi (pl i j) = j ∧ pl i j < k * m) ∧ ∀ p, p < k * m → nu p < m ∧ bi p < k ∧ pl (nu p) (bi p) = p
theorem places_side (k m : Nat) : Places k m (fun i j => i * k + j) (fun p => p / k) (fun p => p % k) := by
  constructor
  · intro i j hi hj
    refine ⟨?_, ?_, place_lt hi hj⟩
    · show (i * k + j) / k = i
      rw [Nat.mul_comm, Nat.mul_add_div (by omega), Nat.div_eq_of_lt hj, Nat.add_zero]
    · show (i * k + j) % k = j
      rw [Nat.mul_comm, Nat.mul_add_mod, Nat.mod_eq_of_lt hj]
  · intro p hp
    have hk : 0 < k := Nat.pos_of_ne_zero (by rintro rfl; simp at hp)
    refine ⟨Nat.div_lt_of_lt_mul hp, Nat.mod_lt p hk, ?_⟩
    show p / k * k + p % k = p
    rw [Nat.mul_comm]; exact Nat.div_add_mod p k
theorem places_plane (k m : Nat) : Places k m (fun i j => j * m + i) (fun p => p % m) (fun p => p / m) := by
  constructor
  · intro i j hi hj
    refine ⟨?_, ?_, ?_⟩
    · show (j * m + i) % m = i
      rw [Nat.mul_comm, Nat.mul_add_mod, Nat.mod_eq_of_lt hi]
    · show (j * m + i) / m = j
      rw [Nat.mul_comm, Nat.mul_add_div (by omega), Nat.div_eq_of_lt hi, Nat.add_zero]
    · have := place_lt (w := m) (m := k) hj hi
      rw [Nat.mul_comm k m]; exact this
  · intro p hp
    have hm : 0 < m := Nat.pos_of_ne_zero (by rintro rfl; simp at hp)
    refine ⟨Nat.mod_lt p hm, Nat.div_lt_of_lt_mul (by rw [Nat.mul_comm]; exact hp), ?_⟩
    show p / m * m + p % m = p
    rw [Nat.mul_comm]; exact Nat.div_add_mod p m
/-- The bits that are set when all numbers ahead of i, and of i the bits ahead of j, are written. -/
def GB (f : Nat → Bool) (nu bi : Nat → Nat) (i j : Nat) : Nat → Bool := fun p => f p && decide (nu p < i ∨ nu p = i ∧ bi p < j)
section
variable {k m : Nat} {pl : Nat → Nat → Nat} {nu bi : Nat → Nat} {f : Nat → Bool}
theorem GB_zero (n x : Nat) : byF n (GB f nu bi 0 0) x = 0 := by
  rw [byF_congr (g := fun _ => false) (fun p _ => by unfold GB; simp)]
  unfold byF bv
  simp
theorem GB_next (h : Places k m pl nu bi) {i : Nat} (hi : i < m) (x : Nat) : byF (k * m) (GB f nu bi i k) x = byF (k * m) (GB f nu bi (i + 1) 0) x := byF_congr (fun p hp => by
  obtain ⟨h1, h2, h3⟩ := h.2 p hp
  unfold GB
  congr 1
  rw [decide_eq_decide]
  omega) x
theorem GB_end (h : Places k m pl nu bi) (x : Nat) : byF (k * m) (GB f nu bi m 0) x = byF (k * m) f x := byF_congr (fun p hp => by
  obtain ⟨h1, h2, h3⟩ := h.2 p hp
  unfold GB
  rw [decide_eq_true (Or.inl h1), Bool.and_true]) x
theorem GB_else (h : Places k m pl nu bi) {i j p : Nat} (hp : p < k * m) (he : p ≠ pl i j) : GB f nu bi i (j + 1) p = GB f nu bi i j p := by
  obtain ⟨h1, h2, h3⟩ := h.2 p hp
  unfold GB
  congr 1
  rw [decide_eq_decide]
  have : ¬ (nu p = i ∧ bi p = j) := by
    rintro ⟨rfl, rfl⟩
    exact he h3.symm
  omega
theorem GB_off (h : Places k m pl nu bi) {i j : Nat} (hf : f (pl i j) = false) (x : Nat) : byF (k * m) (GB f nu bi i (j + 1)) x = byF (k * m) (GB f nu bi i j) x := byF_congr (fun p hp => by
  by_cases he : p = pl i j
  · rw [he]; unfold GB; rw [hf]; rfl
  · exact GB_else h hp he) x
theorem GB_other (h : Places k m pl nu bi) {i j x : Nat} (hx : x ≠ pl i j / 8) : byF (k * m) (GB f nu bi i (j + 1)) x = byF (k * m) (GB f nu bi i j) x := byF_same (fun p hp he => GB_else h hp he) hx
theorem GB_on (h : Places k m pl nu bi) {i j : Nat} (hi : i < m) (hj : j < k) (hf : f (pl i j) = true) :
    bits BinOp.or IntKind.u8 (byF (k * m) (GB f nu bi i j) (pl i j / 8)) (2 ^ (7 - pl i j % 8)) = byF (k * m) (GB f nu bi i (j + 1)) (pl i j / 8) := by
  obtain ⟨h1, h2, h3⟩ := h.1 i j hi hj
  refine byF_set h3 ?_ ?_ (fun p hp he => GB_else h hp he)
  · unfold GB; rw [h1, h2]; simp
  · unfold GB; rw [h1, h2, hf]; simp
end
theorem or_none {x : Int} (h0 : 0 ≤ x) (h1 : x ≤ 255) : bits BinOp.or IntKind.u8 x 0 = x := by
  obtain ⟨n, rfl⟩ := Int.eq_ofNat_of_zero_le h0
  show IntKind.u8.wrap ((BitVec.ofInt 8 n ||| BitVec.ofInt 8 ((0 : Nat) : Int)).toNat : Int) = _
  rw [BitVec.toNat_or, BitVec.ofInt_natCast, BitVec.ofInt_natCast, BitVec.toNat_ofNat, BitVec.toNat_ofNat, Nat.mod_eq_of_lt (by omega), show 0 % 2 ^ 8 = 0 from rfl, Nat.or_zero]
  simp [IntKind.wrap, IntKind.bits, IntKind.signed]
  omega
/-- A bit as a number. -/
def b2 (v : Bool) : Int := if v then 1 else 0
theorem and_u8 {x : Int} (h0 : 0 ≤ x) (h1 : x ≤ 255) (s : Nat) : bits BinOp.and IntKind.u8 (x / 2 ^ s) 1 = b2 (bt x s) := by
  obtain ⟨n, hn⟩ := Int.eq_ofNat_of_zero_le (Int.ediv_nonneg h0 (show (0 : Int) ≤ 2 ^ s from Int.pow_nonneg (by decide)))
  have hle : x / 2 ^ s ≤ x := Int.ediv_le_self _ h0
  unfold bt b2
  rw [hn] at hle ⊢
  show IntKind.u8.wrap ((BitVec.ofInt 8 n &&& BitVec.ofInt 8 ((1 : Nat) : Int)).toNat : Int) = _
  rw [BitVec.toNat_and, BitVec.ofInt_natCast, BitVec.ofInt_natCast, BitVec.toNat_ofNat, BitVec.toNat_ofNat, Nat.mod_eq_of_lt (by omega), show 1 % 2 ^ 8 = 1 from rfl, Nat.and_one_is_mod]
  by_cases h : n % 2 = 1
  · rw [h, if_pos (by simp; omega)]; rfl
  · rw [show n % 2 = 0 by omega, if_neg (by simp; omega)]; rfl
theorem and_u64 {x : Int} (hx : U64 x) (s : Nat) : bits BinOp.and IntKind.u64 (x / 2 ^ s) 1 = b2 (bt x s) := by
  unfold U64 at hx
  have h0 := hx.1
  obtain ⟨n, hn⟩ := Int.eq_ofNat_of_zero_le (Int.ediv_nonneg h0 (show (0 : Int) ≤ 2 ^ s from Int.pow_nonneg (by decide)))
  have hle : x / 2 ^ s ≤ x := Int.ediv_le_self _ h0
  unfold bt b2
  rw [hn] at hle ⊢
  show IntKind.u64.wrap ((BitVec.ofInt 64 n &&& BitVec.ofInt 64 ((1 : Nat) : Int)).toNat : Int) = _
  rw [BitVec.toNat_and, BitVec.ofInt_natCast, BitVec.ofInt_natCast, BitVec.toNat_ofNat, BitVec.toNat_ofNat, Nat.mod_eq_of_lt (by omega), show 1 % 2 ^ 64 = 1 from rfl, Nat.and_one_is_mod]
  by_cases h : n % 2 = 1
  · rw [h, if_pos (by simp; omega)]; rfl
  · rw [show n % 2 = 0 by omega, if_neg (by simp; omega)]; rfl
theorem or_u64 {y : Int} (h0 : 0 ≤ y) (h1 : y ≤ 4294967296) (v : Bool) : bits BinOp.or IntKind.u64 (y * 2) (b2 v) = 2 * y + if v = true then 1 else 0 := by
  obtain ⟨n, rfl⟩ := Int.eq_ofNat_of_zero_le h0
  obtain ⟨t, ht, hv⟩ : ∃ t : Nat, t < 2 ∧ b2 v = t := by cases v; exact ⟨0, by decide, rfl⟩; exact ⟨1, by decide, rfl⟩
  have hv2 : (if v = true then 1 else 0 : Int) = t := hv
  rw [hv, hv2, show ((n : Int) * 2) = ((2 * n : Nat) : Int) by omega]
  show IntKind.u64.wrap ((BitVec.ofInt 64 _ ||| BitVec.ofInt 64 _).toNat : Int) = _
  rw [BitVec.toNat_or, BitVec.ofInt_natCast, BitVec.ofInt_natCast, BitVec.toNat_ofNat, BitVec.toNat_ofNat, Nat.mod_eq_of_lt (by omega), Nat.mod_eq_of_lt (by omega)]
  have e : 2 * n ||| t = 2 * n + t := by
    have := Nat.two_pow_add_eq_or_of_lt (i := 1) (b := t) ht n
    rw [Nat.pow_one] at this
    exact this.symm
  rw [e]
  simp [IntKind.wrap, IntKind.bits, IntKind.signed]
  omega
end Go.Proofs.Ytkcckncglbjjdaa
/- The program's widths, bytes, single bits, and places as function values. -/
namespace Go.Proofs.Ytkcckncglbjjdaa
open Go.RowKit
set_option maxHeartbeats 400000
set_option maxRecDepth 100000
set_option linter.unusedVariables false
theorem pl_Width (n : Int) (hn : U64 n) (w : World) :
    Calls Try.prog 67 #[.int .u64 n] w fun e w' => e = .returned (.int .i64 (wdt n : Int)) ∧ w = w' := by
  unfold U64 at hn
  have CL := hid (Try.bits_Len64 n w hn.1 hn.2)
  rw [show (Lib.bitLen n.toNat : Int) = (wdt n : Int) from rfl] at CL
  obtain ⟨R, hR⟩ : ∃ R, wdt n = R := ⟨_, rfl⟩
  rw [hR] at CL ⊢
  clear hR
  go_enter Try.func67, Try.ntmps67
  go_wp2_with fail
  refine CL.out.mono ?_
  rintro _ _ ⟨rfl, rfl⟩
  go_wp2_with fail
  go_ret
  exact ⟨rfl, rfl⟩
theorem tlB_no {n : Nat} {b : List Int} {p : Nat} (h : fB b p = true) (h1 : n ≤ p) (h2 : p < 8 * b.length) : tlB n b = false := by
  cases ht : tlB n b with
  | false => rfl
  | true =>
    have := (tlB_iff n b).1 ht p h1 h2
    rw [h] at this
    exact this
/-- The place of the first that is so, or -1. -/
def fidx (P : Int → Bool) (l : List Int) : Int := if l.any P = true then (l.findIdx P : Int) else -1
theorem fidx_at {P : Int → Bool} {l : List Int} {k : Nat} {x : Int} (hx : l[k]? = some x) (hp : P x = true) (h : ∀ y ∈ l.take k, P y = false) : fidx P l = k ∧ l.any P = true := by
  obtain ⟨hk, rfl⟩ := List.getElem?_eq_some_iff.1 hx
  have ha : l.any P = true := List.any_eq_true.2 ⟨l[k], List.getElem_mem hk, hp⟩
  refine ⟨?_, ha⟩
  unfold fidx
  rw [if_pos ha, (List.findIdx_eq hk).2 ⟨hp, fun j hj => h _ (by rw [List.mem_take_iff_getElem]; exact ⟨j, by omega, rfl⟩)⟩]
theorem fidx_no {P : Int → Bool} {l : List Int} (h : ∀ y ∈ l, P y = false) : fidx P l = -1 ∧ l.any P = false := by
  have ha : l.any P = false := by rw [List.any_eq_false]; intro y hy; rw [h y hy]; decide
  refine ⟨?_, ha⟩
  unfold fidx
  rw [ha]; rfl
theorem index_any {A : Option Addr} {c : Nat} (K : FuncId) (caps : Array Value) (l : List Int) (hl : l.length ≤ 100000) (P : Int → Bool) (w : World)
   (hK : ∀ (args : Array Value) (W : World), (callFunc K args).run Try.prog W = .ok (.enter K args) W) {B : Nat} (ra : Rd (Value.int .u64) w B A l)
   (H : ∀ x ∈ l, ∀ n, Calls Try.prog K (#[.int .u64 x] ++ caps) (w.drewN n) fun e w' => e = .returned (.bool (P x)) ∧ ∃ m, w' = (w.drewN n).drewN m) :
    Calls Try.prog 72 #[.slice A l.length c, .func (.func K) #[] caps] w fun e w' => e = .returned (.int .i64 (fidx P l)) ∧ ∃ n, w' = w.drewN n := by
  have HH := hid H
  have RA := hid ra
  have HF : Hid (∀ k x, l[k]? = some x → P x = true → (∀ y ∈ l.take k, P y = false) → fidx P l = k) := hid (fun k x h1 h2 h3 => (fidx_at h1 h2 h3).1)
  have HG : Hid ((∀ y ∈ l, P y = false) → fidx P l = -1) := hid (fun h => (fidx_no h).1)
  obtain ⟨R, hR⟩ : ∃ R, fidx P l = R := ⟨_, rfl⟩
  rw [hR] at HF HG ⊢
  obtain ⟨N, hN⟩ : ∃ N, l.length = N := ⟨_, rfl⟩
  have HN := hid hN
  rw [hN] at hl ⊢
  clear hR hN H ra
  go_enter Try.func72, Try.ntmps72
  go_wp2_with fail
  go_loopw [5, 8] (fun i0 i wr => ∃ k : Nat, k ≤ N ∧ i = .int .i64 k ∧ (∀ y ∈ l.take k, P y = false) ∧ ∃ m, wr = w.drewN m) (fun _ i _ => N - (intOf i).toNat)
  case atStart => exact ⟨0, by omega, rfl, by simp, 0, rfl⟩
  case round =>
    obtain ⟨k, hk, rfl, hs, m, rfl⟩ := hrel
    have HS := hid hs
    clear hs
    by_cases hlt : k < N
    · obtain ⟨b1, o1, x, rfl, l1, ex, c1⟩ := RA.out.at_ (k := k) (by rw [HN.out]; exact hlt)
      have C := hid (HH.out x (List.mem_of_getElem? ex) m)
      have hFk := HF.out k x ex
      obtain ⟨v, hv⟩ : ∃ v, P x = v := ⟨_, rfl⟩
      rw [hv] at C hFk
      have HV := hid hv
      have HE := hid ex
      clear hv ex
      cases v with
      | true =>
        have hR := hFk rfl HS.out
        subst hR
        go_wp2_with fail
        refine C.out.mono ?_
        rintro _ _ ⟨rfl, m2, rfl⟩
        go_wp2_with fail
        go_ret
        exact ⟨rfl, m + m2, by simp⟩
      | false =>
        clear hFk
        go_wp2_with fail
        refine C.out.mono ?_
        rintro _ _ ⟨rfl, m2, rfl⟩
        go_wp2_with fail
        go_roundw
        case rel =>
          refine ⟨k + 1, by omega, by go_num, ?_, m + m2, by simp⟩
          intro y hy
          rw [List.take_add_one, HE.out] at hy
          rcases List.mem_append.1 hy with h | h
          · exact HS.out y h
          · simp at h
            rw [h]; exact HV.out
        case measure => simp [intOf]; omega
    · have hR : R = -1 := HG.out (fun y hy => HS.out y (by rw [List.take_of_length_le (by rw [HN.out]; omega)]; exact hy))
      subst hR
      go_wp2_with fail
      go_ret
      exact ⟨rfl, _, rfl⟩
theorem contains_any {A : Option Addr} {c : Nat} (K : FuncId) (caps : Array Value) (l : List Int) (hl : l.length ≤ 100000) (P : Int → Bool) (w : World)
   (hK : ∀ (args : Array Value) (W : World), (callFunc K args).run Try.prog W = .ok (.enter K args) W) {B : Nat} (ra : Rd (Value.int .u64) w B A l)
   (H : ∀ x ∈ l, ∀ n, Calls Try.prog K (#[.int .u64 x] ++ caps) (w.drewN n) fun e w' => e = .returned (.bool (P x)) ∧ ∃ m, w' = (w.drewN n).drewN m) :
    Calls Try.prog 65 #[.slice A l.length c, .func (.func K) #[] caps] w fun e w' => e = .returned (.bool (l.any P)) ∧ ∃ n, w' = w.drewN n := by
  have C := hid (index_any (A := A) (c := c) K caps l hl P w hK ra H)
  have hge : decide (0 ≤ fidx P l) = l.any P := by
    unfold fidx
    by_cases h : l.any P = true
    · rw [if_pos h, h]; simp
    · rw [if_neg h]
      cases hb : l.any P with
      | true => exact absurd hb h
      | false => rfl
  obtain ⟨R, hR⟩ : ∃ R, fidx P l = R := ⟨_, rfl⟩
  obtain ⟨v, hv⟩ : ∃ v, l.any P = v := ⟨_, rfl⟩
  rw [hR, hv] at hge
  rw [hR] at C
  rw [hv]
  clear hR hv H ra
  go_enter Try.func65, Try.ntmps65
  go_wp2_with fail
  refine C.out.mono ?_
  rintro _ _ ⟨rfl, m, rfl⟩
  go_wp2_with fail
  go_ret
  exact ⟨rfl, _, rfl⟩
end Go.Proofs.Ytkcckncglbjjdaa
/- The program's numbers written, each bit where a function value tells. -/
namespace Go.Proofs.Ytkcckncglbjjdaa
open Go.RowKit
set_option maxHeartbeats 400000
set_option maxRecDepth 100000
set_option linter.unusedVariables false
theorem any_fits (wd : Int) (l : List Int) : (l.any fun x => decide (wd < (wdt x : Int))) = !fitsB wd l := by
  unfold fitsB
  induction l with
  | nil => rfl
  | cons x l ih =>
    rw [List.any_cons, List.all_cons, ih, Bool.not_and]
    congr 1
    by_cases h : wd < (wdt x : Int)
    · rw [decide_eq_true h, decide_eq_false (by omega)]; rfl
    · rw [decide_eq_false h, decide_eq_true (by omega)]; rfl
def pwrV (wd : Int) (l : List Int) (f : Nat → Bool) : List Int := if mayE wd l = 0 then pkL (wd.toNat * l.length) f else []
theorem shl_b {s : Nat} (hs : s ≤ 7) : (2 : Int) ^ s ≤ 128 := by
  have := Nat.pow_le_pow_right (show 0 < 2 by decide) hs
  have h2 : (2 : Int) ^ s = ((2 ^ s : Nat) : Int) := by norm_cast
  omega
end Go.Proofs.Ytkcckncglbjjdaa
/- A law's frame: where a call answers true and nothing that was there has turned, the given row's post holds, whatever the arguments are made of. -/
namespace Go.Proofs.Ytkcckncglbjjdaa
open Go.ChangeShapes Go.WideShapes Go.ChangeAt Go.RowKit
set_option maxRecDepth 100000
set_option linter.unusedVariables false

theorem own : ownKnob Try.prog.godebug = none := by kernel_rfl
theorem laid : laidOutB Try.prog = true := by kernel_rfl

section
variable {H : Type} {enc : TypeId × Value → H} {P : Program}

theorem all_stay (hl : laidOutB P = true) {W W' : World} (hb : Below W.heap.size W W') {sp : Nat → Bool} :
    ∀ (ts : List TypeId) (vs : List Value) (ds : List (DataW H)) (ps : List MemPlace), (∀ t ∈ ts, P.readableRec t = true ∧ t < P.types.size) →
      DataW.TrodAll enc P W 0 (fun _ => true) true ts vs ds ps → (∀ x ∈ ps, x.block < W.heap.size) → (∀ x ∈ ps, sp x.block = true) → DataW.TrodAll enc P W' 0 sp true ts vs ds ps
  | [], [], [], ps, _, h, _, _ => h
  | [], [], _ :: _, _, _, h, _, _ => h.elim
  | [], _ :: _, _, _, _, h, _, _ => h.elim
  | _ :: _, [], _, _, _, h, _, _ => h.elim
  | _ :: _, _ :: _, [], _, _, h, _, _ => h.elim
  | t :: ts, v :: vs, d :: ds, ps, hr, h, hlt, hsp => by
    obtain ⟨p, q, h1, h2, rfl⟩ := h
    have ht := hr t (by simp)
    refine ⟨p, q, WideElems.Trod_stays hl ht.1 ht.2 h1 (fun x hx => hb.same (hlt x (by simp [hx]))) (fun x hx => hsp x (by simp [hx])), ?_, rfl⟩
    exact all_stay hl hb ts vs ds q (fun t' ht' => hr t' (by simp [ht'])) h2 (fun x hx => hlt x (by simp [hx])) (fun x hx => hsp x (by simp [hx]))

theorem law_post {f : Func} {s : ChangeSpec} {apart fresh handsOn again : Bool} {W W' : World} {args : Array Value} {ds gs : List (DataW H)} {before : List MemPlace} {tb : TypeId}
    (hl : laidOutB P = true) (hts : ∀ t ∈ f.params.toList, P.readableRec t = true ∧ t < P.types.size) (hv : s.vars = [])
    (hW : DataW.Whole enc P f.params.toList s.vars apart W args.toList ds gs before)
    (hs : (s.fn H (ds ++ gs)).results = [.lit (.bool true)] ∧ (s.fn H (ds ++ gs)).args = ds ∧ (s.fn H (ds ++ gs)).vars = [])
    (hr : f.resultTypes = #[tb]) (htb : P.underlying tb = some .bool) (hb : Below W.heap.size W W') :
    s.post enc P f apart fresh handsOn again W args (.bool true) W' := by
  have hlt : ∀ p ∈ before, p.block < W.heap.size := fun p hp => hW.lt p hp
  have hW0 := hW
  obtain ⟨p, q, h1, h2, e, hz, hn⟩ := hW
  rw [hv] at h2
  cases gs with
  | cons _ _ => exact h2.elim
  | nil =>
    have hq : q = [] := h2
    subst hq
    simp only [List.append_nil] at e
    subst e
    have stay : ∀ sp : Nat → Bool, (∀ x ∈ before, sp x.block = true) → DataW.TrodAll enc P W' 0 sp true f.params.toList args.toList (s.fn H (ds ++ [])).args before :=
      fun sp hsp => by rw [hs.2.1]; exact all_stay hl hb _ _ _ _ hts h1 hlt hsp
    have vars : ∀ sp : Nat → Bool, DataW.TrodVars enc P W' sp s.vars (s.fn H (ds ++ [])).vars [] := fun sp => by rw [hs.2.2, hv]; rfl
    have res : ∀ (b : Nat) (sp : Nat → Bool) (hd : Bool), DataW.TrodAll enc P W' b sp hd f.resultTypes.toList ((Value.bool true).resultList f.resultTypes.size) (s.fn H (ds ++ [])).results [] := by
      intro b sp hd
      rw [hs.1, hr]
      exact trodAll_mk1 (shut_bool htb true)
    refine ⟨ds, [], before, [], before, [], hW0, res _ _ _, stay _ (fun x hx => by simpa using hlt x hx), vars _, ?_, fun _ => ?_⟩
    · exact World.keptBut_mono (fun x hx => ⟨hx, by simpa using hx⟩) (hb.frame (· ∈ before))
    · refine ⟨?_, _, _, ([] ++ before) ++ [], ⟨[] ++ before, [], trodAll_append (stay _ (fun _ _ => rfl)) (res _ _ _), vars _, rfl, ?_, ?_⟩, ?_⟩
      · exact ok_one hr rfl (okWide_bool_mk htb true)
      · intro b off hp
        have hin : MemPlace.cell b off ∈ before := by simpa using hp
        rw [hb.frozen (hlt _ hin)]
        exact hz b off hin
      · intro ha
        simpa using hn ha
      · intro x hx _
        simpa using hx
end
end Go.Proofs.Ytkcckncglbjjdaa
/- An argument that is a list of whole numbers of one kind, opened. -/
namespace Go.Proofs.Ytkcckncglbjjdaa
open Go.ChangeShapes Go.WideShapes Go.ChangeAt Go.RowKit
set_option maxRecDepth 100000
set_option linter.unusedVariables false
section
variable {H : Type} {enc : TypeId × Value → H} {P : Program} {W : World}
theorem nums_rd {k : IntKind} {a : Addr} {zs xs : List Int} {m : Nat} (hm : xs = zs.take m) (hc : ∀ i, i < m → W.cell? (a.add i) = some (.int k (zs.getD i 0))) : Rd (Value.int k) W W.heap.size (some a) xs := fun j x hx => by
  subst hm
  have hk : j < (zs.take m).length := (List.getElem?_eq_some_iff.1 hx).1
  have hkm : j < m := by rw [List.length_take] at hk; omega
  obtain ⟨b, off, spot⟩ := a
  have hs : spot = none := by simpa [Addr.add] using World.cell?_spot (hc 0 (by omega))
  subst hs
  have h := hc j hkm
  rw [Go.WideShapes.add_plain] at h
  have hz : zs.getD j 0 = x := by
    rw [List.getElem?_take_of_lt hkm] at hx
    simp [List.getD, hx]
  rw [hz] at h
  exact ⟨b, off, rfl, lt_of_cell h, h⟩
theorem open_nums {k : IntKind} {r : Reach} {t e : TypeId} {v : Value} {d : DataW H} {ps : List MemPlace} (ht : P.underlying t = some (.slice e)) (he : P.underlying e = some (.int k)) (hc : P.cellsOf e = 1) {b0 : Nat}
    (hval : Value.okWide P W r b0 t v) (hd : DataW.Trod enc P W 0 (fun _ => true) true t v d ps) :
    ∃ A xs c, v = .slice A xs.length c ∧ Rd (Value.int k) W W.heap.size A xs ∧ (∀ x ∈ xs, (Lit.int k x).wf = true) ∧ xs.length ≤ c ∧ c ≤ 9223372036854775807 := by
  obtain ⟨A, len, cap, rfl⟩ := okWide_slice ht hval
  obtain ⟨fuel, hf⟩ := hd
  rcases open_ints ht he hc hf with ⟨hcs, _⟩ | ⟨a, len', cap', zs, hcs, _, hl, hm, hz, _, hcell, hwz⟩
  · simp [Value.cells] at hcs
    obtain ⟨rfl, rfl, rfl⟩ := hcs
    exact ⟨none, [], 0, rfl, Rd.none_, by intro x hx; simp at hx, by simp, by omega⟩
  · simp [Value.cells] at hcs
    obtain ⟨rfl, rfl, rfl⟩ := hcs
    simp only [if_true] at hz
    have hlen : (zs.take len).length = len := by rw [List.length_take]; omega
    refine ⟨some a, zs.take len, cap, by rw [hlen], nums_rd rfl fun i hi => hcell i (by omega), fun x hx => hwz x (List.mem_of_mem_take hx), by omega, by unfold maxLen at hm; omega⟩
/-- .. and the datum that it reads as is as long. -/
theorem open_numsd {k : IntKind} {r : Reach} {t e : TypeId} {v : Value} {d : DataW H} {ps : List MemPlace} (ht : P.underlying t = some (.slice e)) (he : P.underlying e = some (.int k)) (hc : P.cellsOf e = 1) {b0 : Nat}
    (hval : Value.okWide P W r b0 t v) (hd : DataW.Trod enc P W 0 (fun _ => true) true t v d ps) :
    ∃ A xs c, v = .slice A xs.length c ∧ Rd (Value.int k) W W.heap.size A xs ∧ (∀ x ∈ xs, (Lit.int k x).wf = true) ∧ xs.length ≤ c ∧ c ≤ 9223372036854775807 ∧ (xs = [] ∨ ∃ es sp, d = .slice es sp ∧ es.length = xs.length) := by
  obtain ⟨A, xs, c, rfl, h1, h2, h3, h4⟩ := open_nums ht he hc hval hd
  refine ⟨A, xs, c, rfl, h1, h2, h3, h4, ?_⟩
  obtain ⟨fuel, hf⟩ := hd
  rcases open_ints ht he hc hf with ⟨hcs, _⟩ | ⟨a, len', cap', zs, hcs, _, hl, hm, hz, hx, _, _⟩
  · left
    simp [Value.cells] at hcs
    exact List.length_eq_zero_iff.1 (by rw [hcs.2.1]; rfl)
  · right
    simp [Value.cells] at hcs
    obtain ⟨rfl, e1, rfl⟩ := hcs
    simp only [if_true] at hz
    injection hx with hx _
    refine ⟨_, _, hx, ?_⟩
    rw [e1]
    simp [lits, List.length_take]
    omega
theorem U64.of_wf {a : Int} (h : (Lit.int .u64 a).wf = true) : U64 a := by
  simp [Lit.wf, IntKind.min, IntKind.max, IntKind.signed, IntKind.bits] at h
  unfold U64; omega
theorem U32.of_wf {a : Int} (h : (Lit.int .u32 a).wf = true) : 0 ≤ a ∧ a ≤ 4294967295 := by
  simp [Lit.wf, IntKind.min, IntKind.max, IntKind.signed, IntKind.bits] at h
  omega
end
end Go.Proofs.Ytkcckncglbjjdaa
/- An argument that is a list of bools, opened. -/
namespace Go.Proofs.Ytkcckncglbjjdaa
open Go.ChangeShapes Go.WideShapes Go.ChangeAt Go.RowKit
set_option maxRecDepth 100000
set_option linter.unusedVariables false
theorem cells_bool : Try.prog.cellsOf 4 = 1 := by kernel_rfl
section
variable {H : Type} {enc : TypeId × Value → H} {P : Program} {W : World}
theorem bools_rd {a : Addr} {B : Nat → Bool} {m : Nat} (hc : ∀ i, i < m → W.cell? (a.add i) = some (.bool (B i))) : Rd Value.bool W W.heap.size (some a) ((List.range m).map B) := fun j x hx => by
  have hk : j < ((List.range m).map B).length := (List.getElem?_eq_some_iff.1 hx).1
  have hkm : j < m := by simpa using hk
  obtain ⟨b, off, spot⟩ := a
  have hs : spot = none := by simpa [Addr.add] using World.cell?_spot (hc 0 (by omega))
  subst hs
  have h := hc j hkm
  rw [Go.WideShapes.add_plain] at h
  have hz : B j = x := by
    rw [List.getElem?_map, List.getElem?_range hkm] at hx
    exact Option.some.inj hx
  rw [hz] at h
  exact ⟨b, off, rfl, lt_of_cell h, h⟩
theorem open_bls {r : Reach} {t e : TypeId} {v : Value} {d : DataW H} {ps : List MemPlace} (ht : P.underlying t = some (.slice e)) (he : P.underlying e = some .bool) (hc : P.cellsOf e = 1) {b0 : Nat}
    (hval : Value.okWide P W r b0 t v) (hd : DataW.Trod enc P W 0 (fun _ => true) true t v d ps) :
    ∃ A xs c, v = .slice A xs.length c ∧ Rd Value.bool W W.heap.size A xs ∧ xs.length ≤ c ∧ c ≤ 9223372036854775807 := by
  obtain ⟨A, len, cap, rfl⟩ := okWide_slice ht hval
  obtain ⟨fuel, hf⟩ := hd
  rcases Deep.open_bools ht he hc hf with ⟨hcs, _⟩ | ⟨a, len', cap', B, hcs, _, hl, hm, _, hcell⟩
  · simp [Value.cells] at hcs
    obtain ⟨rfl, rfl, rfl⟩ := hcs
    exact ⟨none, [], 0, rfl, Rd.none_, by simp, by omega⟩
  · simp [Value.cells] at hcs
    obtain ⟨rfl, rfl, rfl⟩ := hcs
    have hlen : ((List.range len).map B).length = len := by simp
    exact ⟨some a, (List.range len).map B, cap, by rw [hlen], bools_rd fun i hi => hcell i (by omega), by omega, by unfold maxLen at hm; omega⟩
end
end Go.Proofs.Ytkcckncglbjjdaa
/- An argument that is a list of lists of bools, opened. -/
namespace Go.Proofs.Ytkcckncglbjjdaa
open Go.ChangeShapes Go.WideShapes Go.ChangeAt Go.RowKit
set_option maxRecDepth 100000
set_option linter.unusedVariables false
theorem cells_bools : Try.prog.cellsOf 25 = 1 := by kernel_rfl
section
variable {H : Type} {enc : TypeId × Value → H} {P : Program} {W : World}
theorem open_brows {r : Reach} {t e q : TypeId} {v : Value} {d : DataW H} {ps : List MemPlace} (ht : P.underlying t = some (.slice e)) (he : P.underlying e = some (.slice q)) (hq : P.underlying q = some .bool) (ce : P.cellsOf e = 1) (cq : P.cellsOf q = 1) {b0 : Nat}
    (hval : Value.okWide P W r b0 t v) (hd : DataW.Trod enc P W 0 (fun _ => true) true t v d ps) :
    ∃ A rows c, v = .slice A rows.length c ∧ RdBs W W.heap.size A rows ∧ (∀ u ∈ rows, u.length ≤ 9223372036854775807) ∧ rows.length ≤ c ∧ c ≤ 9223372036854775807 := by
  obtain ⟨A, len, cap, rfl⟩ := okWide_slice ht hval
  obtain ⟨fuel, hf⟩ := hd
  rcases Deep.open_bool_rows ht he hq ce cq hf with ⟨hcs, _⟩ | ⟨a, len', cap', AA, L, C, Z, hcs, _, hl, hm, _, hrows⟩
  · simp [Value.cells] at hcs
    obtain ⟨rfl, rfl, rfl⟩ := hcs
    exact ⟨none, [], 0, rfl, RdBs.nil _ _ _, by intro x hx; simp at hx, by simp, by omega⟩
  · simp [Value.cells] at hcs
    obtain ⟨rfl, rfl, rfl⟩ := hcs
    have hml : cap ≤ 9223372036854775807 := by unfold maxLen at hm; omega
    refine ⟨some a, (List.range len).map fun k => (List.range (L k)).map (Z k), cap, by simp, ?_, ?_, by simp; omega, hml⟩
    · intro k xs hx
      have hk : k < len := by have := (List.getElem?_eq_some_iff.1 hx).1; simpa using this
      have hxs : xs = (List.range (L k)).map (Z k) := by simpa [hk] using hx.symm
      have hxl : xs.length = L k := by rw [hxs]; simp
      obtain ⟨h0, h1, h2, h3, h4⟩ := hrows k (by omega)
      obtain ⟨b, off, spot⟩ := a
      have hs : spot = none := by simpa [Addr.add] using World.cell?_spot (hrows 0 (by omega)).1
      subst hs
      rw [add_plain] at h0
      refine ⟨b, off, AA k, C k, rfl, lt_of_cell h0, by rw [hxl]; exact h0, ?_⟩
      cases hA : AA k with
      | none =>
        have := h3 hA
        have hnil : xs = [] := List.eq_nil_of_length_eq_zero (by omega)
        subst hnil
        exact Rd.none_
      | some a' => rw [hxs]; exact bools_rd fun i hi => (h4 a' hA).2 i (by omega)
    · intro u hu
      obtain ⟨k, hk, rfl⟩ := List.mem_map.1 hu
      have hk' : k < len := by simpa using hk
      obtain ⟨_, h1, h2, _⟩ := hrows k (by omega)
      simp
      unfold maxLen at h2
      omega
end
end Go.Proofs.Ytkcckncglbjjdaa
