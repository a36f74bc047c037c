
/- Yc: texts joined: HpM HpA HpB HpC HpD HpN IxR IxP Div64 QpA DrB QpD SgN Rwb SgC Rin CrcA CrcB CrcC CrcD FsF Law Arg ArgB ArgR. -/
import Derived.Test.YtecgbelgoomneaaGreatYa
import Derived.Sort.LotA
import Derived.Shelf.SlSortCmp.QuietGrown
import Derived.StillTailTactics
import Derived.Shelf.SlSortCmp.InsertionK
import Derived.Test.YtecgbelgoomneaaGreatYb
import Derived.Sort.OwnSortedInts
import Derived.Lib.AppendZerosOnto
import Derived.Lib.Walk
import Derived.Lib.SlicesCompact
import Derived.Shelf.Slices.In.SortNone
import Derived.Deep.QuietTactic
import Derived.BigQuiet
import Derived.Deep.CutRange
import Derived.Deep.CutBlock
import Derived.Lib.BitFns
import Derived.Lib.ItoaNum
import Derived.Test.YtecgbelgoomneaaGreatShelf
import Derived.BigRegion
import Derived.RegionTactic
import Derived.ChangeAlike
import Derived.Test.YtecgbelgoomneaaGreatRows
import Derived.WalkKit
import Derived.ProofKit
import Derived.OpenShut
import Derived.Carry
import Derived.Deep.Grids
import Derived.Deep.Matrix
/- A heap of places with sizes: which one is behind, what one that rises or sinks leaves, who is on top. Plain mathematics. No program in sight. -/
namespace Go.Proofs.YtecgbelgoomneaaGreat
open Go.Sort
set_option maxRecDepth 100000
set_option linter.unusedVariables false
/-- A place with its size is behind another one. -/
def beh (x y : Nat × Nat) : Bool := decide (x.2 < y.2 ∨ (x.2 = y.2 ∧ y.1 < x.1))
theorem beh_iff {x y : Nat × Nat} : beh x y = true ↔ x.2 < y.2 ∨ (x.2 = y.2 ∧ y.1 < x.1) := by unfold beh; simp
theorem beh_not {x y : Nat × Nat} : beh x y = false ↔ ¬ (x.2 < y.2 ∨ (x.2 = y.2 ∧ y.1 < x.1)) := by rw [← beh_iff, Bool.not_eq_true]
theorem beh_irr (x : Nat × Nat) : beh x x = false := beh_not.2 (by omega)
theorem beh_nt {x y z : Nat × Nat} (h1 : beh x y = false) (h2 : beh y z = false) : beh x z = false := by
  rw [beh_not] at *; omega
theorem beh_asym {x y : Nat × Nat} (h : beh x y = true) : beh y x = false := by
  rw [beh_iff] at h; rw [beh_not]; omega
/-- None of the first n is behind who stands above it. -/
def HpOk (d : Array (Nat × Nat)) (n : Nat) : Prop := ∀ i, 0 < i → i < n → beh d[i]! d[(i - 1) / 2]! = false
/-- .. but for the one at j, which may rise. -/
def HpUp (d : Array (Nat × Nat)) (n j : Nat) : Prop :=
  (∀ i, 0 < i → i < n → i ≠ j → beh d[i]! d[(i - 1) / 2]! = false) ∧ (∀ i, 0 < i → i < n → (i - 1) / 2 = j → 0 < j → beh d[i]! d[(j - 1) / 2]! = false)
/-- .. but for those below j, which may sink. -/
def HpDn (d : Array (Nat × Nat)) (n j : Nat) : Prop :=
  (∀ i, 0 < i → i < n → (i - 1) / 2 ≠ j → beh d[i]! d[(i - 1) / 2]! = false) ∧ (∀ i, 0 < i → i < n → (i - 1) / 2 = j → 0 < j → beh d[i]! d[(j - 1) / 2]! = false)
theorem hp_up_stop {d : Array (Nat × Nat)} {n j : Nat} (h : HpUp d n j) (h2 : 0 < j → beh d[j]! d[(j - 1) / 2]! = false) : HpOk d n := fun i h0 hn => by
  by_cases e : i = j
  · subst e; exact h2 h0
  · exact h.1 i h0 hn e
theorem hp_up_step {d : Array (Nat × Nat)} {n j : Nat} (h : HpUp d n j) (h0 : 0 < j) (hj : j < n) (hn : n ≤ d.size) (hb : beh d[j]! d[(j - 1) / 2]! = true) : HpUp (swp d ((j - 1) / 2) j) n ((j - 1) / 2) := by
  obtain ⟨p, hp⟩ : ∃ p, (j - 1) / 2 = p := ⟨_, rfl⟩
  have hpj : p < j := by omega
  have hg := fun k => swp_get d (show p < d.size by omega) (show j < d.size by omega) k
  rw [hp] at hb ⊢
  refine ⟨fun i i0 hi e => ?_, fun i i0 hi e1 e2 => ?_⟩
  · rw [hg, hg]
    by_cases c : i = j
    · rw [if_pos c, c, hp, if_neg (by omega), if_pos rfl]
      exact beh_asym hb
    · rw [if_neg c, if_neg e]
      by_cases c2 : (i - 1) / 2 = j
      · rw [if_pos c2]
        have := h.2 i i0 hi c2 h0
        rwa [hp] at this
      · rw [if_neg c2]
        by_cases c3 : (i - 1) / 2 = p
        · rw [if_pos c3]
          have := h.1 i i0 hi c
          rw [c3] at this
          exact beh_nt this (beh_asym hb)
        · rw [if_neg c3]
          exact h.1 i i0 hi c
  · rw [hg, hg, if_neg (show ¬ (p - 1) / 2 = j by omega), if_neg (show ¬ (p - 1) / 2 = p by omega)]
    have hpp := h.1 p e2 (by omega) (by omega)
    by_cases c : i = j
    · rw [if_pos c]; exact hpp
    · rw [if_neg c, if_neg (show ¬ i = p by omega)]
      have := h.1 i i0 hi c
      rw [e1] at this
      exact beh_nt this hpp
theorem hp_dn_stop {d : Array (Nat × Nat)} {n j : Nat} (h : HpDn d n j) (h2 : ∀ c, 0 < c → c < n → (c - 1) / 2 = j → beh d[c]! d[j]! = false) : HpOk d n := fun i h0 hn => by
  by_cases e : (i - 1) / 2 = j
  · rw [e]; exact h2 i h0 hn e
  · exact h.1 i h0 hn e
theorem hp_dn_step {d : Array (Nat × Nat)} {n j c : Nat} (h : HpDn d n j) (hc : 0 < c) (hcn : c < n) (hcj : (c - 1) / 2 = j) (hn : n ≤ d.size) (hb : beh d[c]! d[j]! = true)
    (ho : ∀ k, 0 < k → k < n → (k - 1) / 2 = j → beh d[k]! d[c]! = false) : HpDn (swp d j c) n c := by
  have hjc : j < c := by omega
  have hg := fun k => swp_get d (show j < d.size by omega) (show c < d.size by omega) k
  refine ⟨fun i i0 hi e => ?_, fun i i0 hi e1 e2 => ?_⟩
  · rw [hg, hg]
    by_cases e1 : i = c
    · rw [if_pos e1, e1, hcj, if_neg (by omega), if_pos rfl]
      exact beh_asym hb
    · rw [if_neg e1, if_neg e]
      by_cases e2 : i = j
      · rw [if_pos e2]
        by_cases e3 : (i - 1) / 2 = j
        · omega
        · rw [if_neg e3, e2]
          exact h.2 c hc hcn hcj (by omega)
      · rw [if_neg e2]
        by_cases e3 : (i - 1) / 2 = j
        · rw [if_pos e3]; exact ho i i0 hi e3
        · rw [if_neg e3]; exact h.1 i i0 hi e3
  · rw [hg, hg, if_neg (show ¬ i = c by omega), if_neg (show ¬ i = j by omega), hcj, if_neg (show ¬ j = c by omega), if_pos rfl]
    have := h.1 i i0 hi (by omega)
    rwa [e1] at this
/-- Nobody is behind the one on top. -/
theorem hp_top {d : Array (Nat × Nat)} {n : Nat} (h : HpOk d n) : ∀ i, i < n → beh d[i]! d[0]! = false := fun i => by
  induction i using Nat.strongRecOn with
  | _ i ih =>
    intro hi
    by_cases h0 : i = 0
    · subst h0; exact beh_irr _
    · exact beh_nt (h i (by omega) hi) (ih ((i - 1) / 2) (by omega) (by omega))
theorem push_get {d : Array (Nat × Nat)} {x : Nat × Nat} {i : Nat} (h : i < d.size) : (d.push x)[i]! = d[i]! := by
  rw [getElem!_pos (d.push x) i (by simp; omega), getElem!_pos d i h, Array.getElem_push_lt]
theorem hp_push {d : Array (Nat × Nat)} (h : HpOk d d.size) (x : Nat × Nat) : HpUp (d.push x) (d.size + 1) d.size :=
  ⟨fun i i0 hi e => by rw [push_get (by omega), push_get (by omega)]; exact h i i0 (by omega), fun i i0 hi e1 e2 => by omega⟩
/-- The last one is put on top, and may sink. -/
theorem hp_lower {d : Array (Nat × Nat)} {n : Nat} (h : HpOk d (n + 1)) (hn : n < d.size) : HpDn (swp d 0 n) n 0 := by
  refine ⟨fun i i0 hi e => ?_, fun i i0 hi e1 e2 => by omega⟩
  rw [swp_other d 0 n i (by omega) (by omega), swp_other d 0 n _ (by omega) (by omega)]
  exact h i i0 (by omega)
theorem swp_perm {d : Array (Nat × Nat)} {i j : Nat} (hi : i < d.size) (hj : j < d.size) : (swp d i j).toList.Perm d.toList := by
  have h := (swp_permIn d 0 d.size i j (Nat.zero_le _) hi (Nat.zero_le _) hj (Nat.le_refl _)).2.2
  have e1 : (swp d i j).extract 0 d.size = swp d i j := by rw [← size_swp d i j]; simp
  rw [e1] at h
  simpa using h
end Go.Proofs.YtecgbelgoomneaaGreat
/- Entries held against each other; the library's Compare and Or. -/
namespace Go.Proofs.YtecgbelgoomneaaGreat
open Go.RowKit
set_option maxHeartbeats 400000
set_option maxRecDepth 100000
set_option linter.unusedVariables false
def cmpI (x y : Int) : Int := if x < y then -1 else if x > y then 1 else 0
def orI (a b : Int) : Int := if a ≠ 0 then a else b
/-- Below 0, if the first is ahead of the second. -/
def cfE (x y : Nat × Nat) : Int := orI (cmpI y.2 x.2) (cmpI x.1 y.1)
theorem cfE_pos {x y : Nat × Nat} : (cfE x y > 0) ↔ beh x y = true := by
  rw [beh_iff]
  unfold cfE orI cmpI
  constructor
  · intro h
    split at h <;> split at h <;> (try split at h) <;> (try split at h) <;> omega
  · intro h
    split <;> split <;> (try split) <;> (try split) <;> omega
theorem hp_CmpI (x y : Int) (w : World) : Calls Tryz.prog 281 #[.int .i64 x, .int .i64 y] w fun e w' => e = .returned (.int .i64 (cmpI x y)) ∧ w = w' := by
  by_cases h1 : x < y
  · have e : cmpI x y = -1 := if_pos h1
    rw [e]
    clear e
    go_enter Tryz.func281, Tryz.ntmps281
    go_wp2
    go_ret
    exact ⟨rfl, rfl⟩
  · by_cases h2 : x > y
    · have e : cmpI x y = 1 := by unfold cmpI; rw [if_neg h1, if_pos h2]
      rw [e]
      clear e
      go_enter Tryz.func281, Tryz.ntmps281
      go_wp2
      go_ret
      exact ⟨rfl, rfl⟩
    · have e : cmpI x y = 0 := by unfold cmpI; rw [if_neg h1, if_neg h2]
      rw [e]
      clear e
      go_enter Tryz.func281, Tryz.ntmps281
      go_wp2
      go_ret
      exact ⟨rfl, rfl⟩
theorem hp_CmpU (x y : Int) (w : World) : Calls Tryz.prog 280 #[.int .u64 x, .int .u64 y] w fun e w' => e = .returned (.int .i64 (cmpI x y)) ∧ w = w' := by
  by_cases h1 : x < y
  · have e : cmpI x y = -1 := if_pos h1
    rw [e]
    clear e
    go_enter Tryz.func280, Tryz.ntmps280
    go_wp2
    go_ret
    exact ⟨rfl, rfl⟩
  · by_cases h2 : x > y
    · have e : cmpI x y = 1 := by unfold cmpI; rw [if_neg h1, if_pos h2]
      rw [e]
      clear e
      go_enter Tryz.func280, Tryz.ntmps280
      go_wp2
      go_ret
      exact ⟨rfl, rfl⟩
    · have e : cmpI x y = 0 := by unfold cmpI; rw [if_neg h1, if_neg h2]
      rw [e]
      clear e
      go_enter Tryz.func280, Tryz.ntmps280
      go_wp2
      go_ret
      exact ⟨rfl, rfl⟩
theorem hp_Or (a b : Int) (g : Nat) (c : Nat) (w : World) (h0 : w.cell? ⟨g, 0, none⟩ = some (.int .i64 a)) (h1 : w.cell? ⟨g, 1, none⟩ = some (.int .i64 b)) :
    Calls Tryz.prog 279 #[.slice (some ⟨g, 0, none⟩) 2 c] w fun e w' => e = .returned (.int .i64 (orI a b)) ∧ w = w' := by
  have HR : Hid ((a ≠ 0 → orI a b = a) ∧ (a = 0 → orI a b = b)) := hid ⟨fun h => if_pos h, fun h => if_neg (by omega)⟩
  obtain ⟨R, hR⟩ : ∃ R, orI a b = R := ⟨_, rfl⟩
  rw [hR] at HR ⊢
  clear hR
  go_enter Tryz.func279, Tryz.ntmps279
  go_wp2_with fail
  go_loop [5, 8] (fun x5 i => ∃ q : Nat, q ≤ 2 ∧ i = .int .i64 q ∧ (1 ≤ q → a = 0) ∧ (q = 2 → b = 0)) (fun _ i => 2 - (intOf i).toNat)
  case atStart => exact ⟨0, by omega, rfl, by omega, by omega⟩
  case round =>
    obtain ⟨q, hq, rfl, ha, hb⟩ := hrel
    obtain hq | hq | hq : q = 0 ∨ q = 1 ∨ q = 2 := by omega
    · subst hq
      by_cases hz : a = 0
      · have e : (a != 0) = false := by simp [hz]
        go_wp2_with fail
        go_round
        case rel => exact ⟨1, by omega, by go_num, fun _ => hz, by omega⟩
        case measure => simp [intOf]
      · have e : (a != 0) = true := by simp [hz]
        go_wp2_with fail
        go_ret
        exact ⟨by rw [HR.out.1 hz]; (first | done | rfl), rfl⟩
    · subst hq
      have ha := ha (by omega)
      by_cases hz : b = 0
      · have e : (b != 0) = false := by simp [hz]
        go_wp2_with fail
        go_round
        case rel => exact ⟨2, by omega, by go_num, fun _ => ha, fun _ => hz⟩
        case measure => simp [intOf]
      · have e : (b != 0) = true := by simp [hz]
        have HA := hid ha
        clear ha
        go_wp2_with fail
        go_ret
        exact ⟨by rw [HR.out.2 HA.out]; (first | done | rfl), rfl⟩
    · subst hq
      have HA := hid (ha (by omega))
      have HB := hid (hb (by omega))
      clear ha hb
      go_wp2_with fail
      go_ret
      exact ⟨by rw [HR.out.2 HA.out, HB.out]; (first | done | rfl), rfl⟩
theorem tc_0 {W : World} {u v : Value} {t : TypeId} {n : Nat} (h : n = W.heap.size) : (W.alloc (.cells #[u, v] t)).cell? ⟨n, 0, none⟩ = some u := by
  subst h
  simp
theorem tc_1 {W : World} {u v : Value} {t : TypeId} {n : Nat} (h : n = W.heap.size) : (W.alloc (.cells #[u, v] t)).cell? ⟨n, 1, none⟩ = some v := by
  subst h
  simp
set_option maxHeartbeats 4000000 in
theorem hp_against (x y : Nat × Nat) (w : World) : Calls Tryz.prog 278 #[.agg #[.int .i64 (x.1 : Int), .int .u64 (x.2 : Int)], .agg #[.int .i64 (y.1 : Int), .int .u64 (y.2 : Int)]] w fun e w' => e = .returned (.int .i64 (cfE x y)) ∧ ∃ q os, w' = Go.Sort.grow (w.drewN q) os := by
  have C1 := hid (fun W => (hp_CmpU (y.2 : Int) (x.2 : Int) W).mono fun _ _ h => And.intro h.1 h.2.symm)
  have C2 := hid (fun W => (hp_CmpI (x.1 : Int) (y.1 : Int) W).mono fun _ _ h => And.intro h.1 h.2.symm)
  unfold cfE
  obtain ⟨a, ha⟩ : ∃ a, cmpI (y.2 : Int) (x.2 : Int) = a := ⟨_, rfl⟩
  obtain ⟨b, hb⟩ : ∃ b, cmpI (x.1 : Int) (y.1 : Int) = b := ⟨_, rfl⟩
  rw [ha] at C1 ⊢
  rw [hb] at C2 ⊢
  clear ha hb
  have C3 := hid (fun (W : World) (t : TypeId) (n c : Nat) (h : n = W.heap.size) => hp_Or a b n c _ (tc_0 (W := W) (u := .int .i64 a) (v := .int .i64 b) (t := t) h) (tc_1 (W := W) (u := .int .i64 a) (v := .int .i64 b) (t := t) h))
  obtain ⟨r, hr⟩ : ∃ r, orI a b = r := ⟨_, rfl⟩
  rw [hr] at C3 ⊢
  clear hr
  go_enter Tryz.func278, Tryz.ntmps278
  go_wp2_with fail
  obtain ⟨w2, hw2⟩ : ∃ w2, ((w.alloc (.cells #[.int .i64 (x.1 : Int), .int .u64 (x.2 : Int)] 205)).alloc (.cells #[.int .i64 (y.1 : Int), .int .u64 (y.2 : Int)] 205)) = w2 := ⟨_, rfl⟩
  have a0 : w2.cell? ⟨w.heap.size, 0, none⟩ = some (.int .i64 (x.1 : Int)) := by rw [← hw2]; simp
  have a1 : w2.cell? ⟨w.heap.size, 1, none⟩ = some (.int .u64 (x.2 : Int)) := by rw [← hw2]; simp
  have b0 : w2.cell? ⟨w.heap.size + 1, 0, none⟩ = some (.int .i64 (y.1 : Int)) := by rw [← hw2]; simp
  have b1 : w2.cell? ⟨w.heap.size + 1, 1, none⟩ = some (.int .u64 (y.2 : Int)) := by rw [← hw2]; simp
  rw [hw2]
  have HW := hid hw2
  clear hw2
  go_still_tail 10, (by kernel_rfl)
  repeat (first | still_call (C1.out _) | still_call (C2.out _) | still_step)
  refine wpStill_nil ?_
  change wpList _ _ _ _ _ w2.drew
  generalize hw3 : w2.drew = w3
  have HW3 := hid hw3
  clear hw3
  go_wp2_with fail
  refine (C3.out _ _ _ _ rfl).mono ?_
  rintro _ _ ⟨rfl, rfl⟩
  go_wp2_with fail
  go_ret
  exact ⟨rfl, 1, _, by rw [← HW3.out, ← HW.out, Go.Sort.alloc_eq_grow w, Go.Sort.alloc_eq_grow (Go.Sort.grow w _), Go.Sort.grow_grow, Go.Sort.drew_grow, Go.Sort.alloc_eq_grow, Go.Sort.grow_grow]; rfl⟩
end Go.Proofs.YtecgbelgoomneaaGreat
/- Entries in a row of memory: what is loaded, exchanged. -/
namespace Go.Proofs.YtecgbelgoomneaaGreat
open Go.RowKit
set_option maxHeartbeats 400000
set_option maxRecDepth 100000
set_option linter.unusedVariables false
/-- Entries as the cells of a row. -/
def flE (d : Array (Nat × Nat)) : List Value := (List.range (d.size * 2)).map fun t => if t % 2 = 0 then .int .i64 ((d[t / 2]!).1 : Int) else .int .u64 ((d[t / 2]!).2 : Int)
theorem flE_len (d : Array (Nat × Nat)) : (flE d).length = d.size * 2 := by unfold flE; simp
theorem flE_at {d : Array (Nat × Nat)} {t : Nat} (h : t < d.size * 2) : (flE d)[t]? = some (if t % 2 = 0 then .int .i64 ((d[t / 2]!).1 : Int) else .int .u64 ((d[t / 2]!).2 : Int)) := by unfold flE; simp [h]
theorem flE_0 {d : Array (Nat × Nat)} {i : Nat} (h : i < d.size) : (flE d)[i * 2]? = some (.int .i64 ((d[i]!).1 : Int)) := by
  rw [flE_at (by omega), if_pos (by omega), show i * 2 / 2 = i by omega]
theorem flE_1 {d : Array (Nat × Nat)} {i : Nat} (h : i < d.size) : (flE d)[i * 2 + 1]? = some (.int .u64 ((d[i]!).2 : Int)) := by
  rw [flE_at (by omega), if_neg (by omega), show (i * 2 + 1) / 2 = i by omega]
theorem flE_push (d : Array (Nat × Nat)) (x : Nat × Nat) : flE (d.push x) = flE d ++ [.int .i64 (x.1 : Int), .int .u64 (x.2 : Int)] := by
  refine List.ext_getElem? fun t => ?_
  by_cases h : t < d.size * 2
  · rw [List.getElem?_append_left (by rw [flE_len]; exact h), flE_at (by simp; omega), flE_at h, push_get (by omega)]
  · rw [List.getElem?_append_right (by rw [flE_len]; omega), flE_len]
    have e : (d.push x)[d.size]! = x := by rw [getElem!_pos _ _ (by simp)]; simp
    by_cases h0 : t = d.size * 2
    · subst h0
      rw [flE_0 (by simp), e]
      simp
    · by_cases h1 : t = d.size * 2 + 1
      · subst h1
        rw [flE_1 (by simp), e]
        simp
      · rw [List.getElem?_eq_none (by rw [flE_len]; simp; omega), List.getElem?_eq_none (by simp; omega)]
/-- A row of entries in memory of the call's own. -/
def RwE (w : World) (B g cap : Nat) (d : Array (Nat × Nat)) : Prop := w.ownsRow B 205 2 (.slice (some ⟨g, 0, none⟩) d.size cap) d.size (flE d)
theorem RwE.parts {w : World} {B g cap : Nat} {d : Array (Nat × Nat)} (h : RwE w B g cap d) : ∃ cur, B ≤ g ∧ w.heap[g]? = some (.cells cur 205 (0, 0)) ∧ d.size ≤ cap ∧ cap ≤ maxLen ∧ cur.size = cap * 2 ∧ cur.toList.take (d.size * 2) = flE d := by
  rcases h.2 with ⟨h', _⟩ | ⟨g', cap', cur, h', h1, h2, h3, h4, h5, h6⟩
  · simp at h'
  · simp only [Value.slice.injEq, Option.some.injEq, Addr.mk.injEq, and_true, true_and] at h'
    obtain ⟨rfl, rfl⟩ := h'
    exact ⟨cur, h1, h2, h3, h4, h5, h6⟩
theorem RwE.of {w : World} {B g cap : Nat} {d : Array (Nat × Nat)} {cur : Array Value} (h1 : B ≤ g) (h2 : w.heap[g]? = some (.cells cur 205 (0, 0))) (h3 : d.size ≤ cap) (h4 : cap ≤ maxLen) (h5 : cur.size = cap * 2) (h6 : ∀ t, t < d.size * 2 → cur[t]? = (flE d)[t]?) : RwE w B g cap d := by
  refine ⟨flE_len d, .inr ⟨g, cap, cur, rfl, h1, h2, h3, h4, h5, ?_⟩⟩
  refine List.ext_getElem? fun t => ?_
  by_cases h : t < d.size * 2
  · rw [List.getElem?_take_of_lt h, Array.getElem?_toList, h6 t h]
  · rw [List.getElem?_eq_none (by simp; omega), List.getElem?_eq_none (by rw [flE_len]; omega)]
theorem RwE.c0 {w : World} {B g cap : Nat} {d : Array (Nat × Nat)} (h : RwE w B g cap d) {i : Nat} (hi : i < d.size) : w.cell? ⟨g, i * 2, none⟩ = some (.int .i64 ((d[i]!).1 : Int)) := by
  rw [h.cellAt (i * 2) (by omega), flE_0 hi]
theorem RwE.c1 {w : World} {B g cap : Nat} {d : Array (Nat × Nat)} (h : RwE w B g cap d) {i : Nat} (hi : i < d.size) : w.cell? ⟨g, i * 2 + 1, none⟩ = some (.int .u64 ((d[i]!).2 : Int)) := by
  rw [h.cellAt (i * 2 + 1) (by omega), flE_1 hi]
theorem RwE.lt {w : World} {B g cap : Nat} {d : Array (Nat × Nat)} (h : RwE w B g cap d) : g < w.heap.size := by
  obtain ⟨cur, _, h2, _⟩ := h.parts
  exact (Array.getElem?_eq_some_iff.1 h2).1
theorem RwE.keep {w w' : World} {B g cap : Nat} {d : Array (Nat × Nat)} (h : RwE w B g cap d) (hk : w'.heap[g]? = w.heap[g]?) : RwE w' B g cap d := by
  obtain ⟨cur, h1, h2, h3, h4, h5, h6⟩ := h.parts
  exact ⟨h.1, .inr ⟨g, cap, cur, rfl, h1, hk.trans h2, h3, h4, h5, h6⟩⟩
theorem RwE.on {w w' : World} {B g cap : Nat} {d : Array (Nat × Nat)} (h : RwE w B g cap d) (hb : Below w.heap.size w w') : RwE w' B g cap d := h.keep (hb.block g h.lt)
theorem heap_set {w : World} {g off : Nat} {v : Value} {cur : Array Value} {e : TypeId} {fr : Nat × Nat} (h : w.heap[g]? = some (.cells cur e fr)) : (w.setCell ⟨g, off, none⟩ v).heap[g]? = some (.cells (cur.setIfInBounds off v) e fr) := by
  rw [Go.Sort.setCell_eq]
  simp [Go.Sort.mapBlock, Array.getElem?_modify, h, Go.Sort.onCells]
/-- Two entries change places. -/
theorem RwE.swap {w : World} {B g cap : Nat} {d : Array (Nat × Nat)} (h : RwE w B g cap d) {i j : Nat} (hi : i < d.size) (hj : j < d.size) {a b a' b' : Value} (ha : a = .int .i64 ((d[j]!).1 : Int)) (hb : b = .int .u64 ((d[j]!).2 : Int)) (ha' : a' = .int .i64 ((d[i]!).1 : Int)) (hb' : b' = .int .u64 ((d[i]!).2 : Int)) :
    RwE ((((w.setCell ⟨g, i * 2, none⟩ a).setCell ⟨g, i * 2 + 1, none⟩ b).setCell ⟨g, j * 2, none⟩ a').setCell ⟨g, j * 2 + 1, none⟩ b') B g cap (Go.Sort.swp d i j) := by
  obtain ⟨cur, h1, h2, h3, h4, h5, h6⟩ := h.parts
  refine RwE.of h1 (heap_set (heap_set (heap_set (heap_set h2)))) (by rw [Go.Sort.size_swp]; exact h3) h4 (by simpa using h5) fun t ht => ?_
  rw [Go.Sort.size_swp] at ht
  rw [flE_at (by rw [Go.Sort.size_swp]; exact ht), Go.Sort.swp_get d hi hj]
  have hc : cur[t]? = some (if t % 2 = 0 then .int .i64 ((d[t / 2]!).1 : Int) else .int .u64 ((d[t / 2]!).2 : Int)) := by
    have := congrArg (fun l => l[t]?) h6
    simp only [List.getElem?_take_of_lt ht, Array.getElem?_toList, flE_at ht] at this
    exact this
  have hs : t < cur.size := (Array.getElem?_eq_some_iff.1 hc).1
  subst ha hb ha' hb'
  simp only [Array.getElem?_setIfInBounds, Array.size_setIfInBounds]
  by_cases e1 : j * 2 + 1 = t
  · rw [if_pos e1, if_pos (by omega), if_neg (by omega), if_pos (by omega)]
  · rw [if_neg e1]
    by_cases e2 : j * 2 = t
    · rw [if_pos e2, if_pos (by omega), if_pos (by omega), if_pos (by omega)]
    · rw [if_neg e2, if_neg (show ¬ t / 2 = j by omega)]
      by_cases e3 : i * 2 + 1 = t
      · rw [if_pos e3, if_pos (by omega), if_neg (by omega), if_pos (by omega)]
      · rw [if_neg e3]
        by_cases e4 : i * 2 = t
        · rw [if_pos e4, if_pos (by omega), if_pos (by omega), if_pos (by omega)]
        · rw [if_neg e4, if_neg (show ¬ t / 2 = i by omega), hc]
/-- Of the blocks that were there these two alone may have turned. -/
structure Otr (x y : Nat) (w w' : World) : Prop where
  os : w'.os = w.os
  tape : w'.tape = w.tape
  output : w'.output = w.output
  size : w.heap.size ≤ w'.heap.size
  block : ∀ k, k < w.heap.size → k ≠ x → k ≠ y → w'.heap[k]? = w.heap[k]?
theorem Otr.refl (x y : Nat) (w : World) : Otr x y w w := ⟨rfl, rfl, rfl, Nat.le_refl _, fun _ _ _ _ => rfl⟩
theorem Otr.trans {x y : Nat} {a b c : World} (h : Otr x y a b) (k : Otr x y b c) : Otr x y a c :=
  ⟨k.os.trans h.os, k.tape.trans h.tape, k.output.trans h.output, Nat.le_trans h.size k.size, fun i hi h1 h2 => (k.block i (Nat.lt_of_lt_of_le hi h.size) h1 h2).trans (h.block i hi h1 h2)⟩
theorem Otr.wide {x y x' y' : Nat} {w w' : World} (h : Otr x y w w') (hx : x = x' ∨ x = y') (hy : y = x' ∨ y = y') : Otr x' y' w w' :=
  ⟨h.os, h.tape, h.output, h.size, fun k hk h1 h2 => h.block k hk (by rcases hx with e | e <;> omega) (by rcases hy with e | e <;> omega)⟩
theorem Otr.of_below {x y : Nat} {w w' : World} (h : Below w.heap.size w w') : Otr x y w w' := ⟨h.os, h.tape, h.output, h.size, fun k hk _ _ => h.block k hk⟩
theorem Otr.below {x y B : Nat} {w w' : World} (h : Otr x y w w') (hx : B ≤ x) (hy : B ≤ y) (hB : B ≤ w.heap.size) : Below B w w' := ⟨h.os, h.tape, h.output, h.size, fun k hk => h.block k (by omega) (by omega) (by omega)⟩
theorem Otr.drew {x y : Nat} {a w : World} (h : Otr x y a w) : Otr x y a w.drew := ⟨h.os, h.tape, h.output, h.size, h.block⟩
theorem Otr.set {x y : Nat} {a w : World} (h : Otr x y a w) {p : Addr} (hp : p.block = x ∨ p.block = y) (u : Value) : Otr x y a (w.setCell p u) :=
  ⟨h.os, h.tape, h.output, by simpa [World.setCell] using h.size, fun k hk h1 h2 => by rw [Below.heap_setCell _ _ _ _ (by rcases hp with e | e <;> omega)]; exact h.block k hk h1 h2⟩
theorem grow_below (w : World) (q : Nat) (os : Array Obj) : Below w.heap.size w (Go.Sort.grow (w.drewN q) os) := by
  refine ⟨rfl, rfl, rfl, ?_, fun k hk => ?_⟩
  · show w.heap.size ≤ (w.heap ++ os).size
    simp
  · show (w.heap ++ os)[k]? = _
    rw [Array.getElem?_append_left hk]
theorem hp_Len {A : Option Addr} {n c : Nat} (w : World) : Calls Tryz.prog 226 #[.slice A n c] w fun e w' => e = .returned (.int .i64 n) ∧ w = w' := by
  go_enter Tryz.func226, Tryz.ntmps226
  go_wp2
  go_ret
  exact ⟨rfl, rfl⟩
theorem cell_set {w : World} {p q : Addr} {x v : Value} (h : w.cell? q = some v) : ∃ v', (w.setCell p x).cell? q = some v' := by
  by_cases e : p = q
  · subst e; exact ⟨x, World.cell?_setCell_same w p x h⟩
  · exact ⟨v, (World.cell?_setCell_other w p q x e).trans h⟩
theorem hp_Swap {B g cap : Nat} (d : Array (Nat × Nat)) (i j : Nat) (hi : i < d.size) (hj : j < d.size) (w : World) (h : RwE w B g cap d) :
    Calls Tryz.prog 277 #[.slice (some ⟨g, 0, none⟩) d.size cap, .int .i64 i, .int .i64 j] w fun e w' => e = .returned (.tuple #[]) ∧ RwE w' B g cap (Go.Sort.swp d i j) ∧ Otr g g w w' := by
  have f := fun k => World.ownsRow.frozenAt h k
  have c0 := h.c0 hi
  have c1 := h.c1 hi
  have d0 := h.c0 hj
  have d1 := h.c1 hj
  have hl : i < d.size := hi
  have HX := hid (d0)
  have HY := hid (d1)
  obtain ⟨a, ha⟩ : ∃ a : Int, ((d[i]!).1 : Int) = a := ⟨_, rfl⟩
  obtain ⟨b, hb⟩ : ∃ b : Int, ((d[i]!).2 : Int) = b := ⟨_, rfl⟩
  obtain ⟨c, hc⟩ : ∃ c : Int, ((d[j]!).1 : Int) = c := ⟨_, rfl⟩
  obtain ⟨e, he⟩ : ∃ e : Int, ((d[j]!).2 : Int) = e := ⟨_, rfl⟩
  have HSW := hid (fun W (h : RwE W B g cap d) => h.swap (a := .int .i64 c) (b := .int .u64 e) (a' := .int .i64 a) (b' := .int .u64 b) hi hj (by rw [hc]) (by rw [he]) (by rw [ha]) (by rw [hb]))
  rw [ha] at c0
  rw [hb] at c1
  rw [hc] at d0
  rw [he] at d1
  clear ha hb hc he
  obtain ⟨v1, hv1⟩ := cell_set (p := ⟨g, i * 2, none⟩) (x := .int .i64 c) d0
  obtain ⟨v2, hv2⟩ := cell_set (p := ⟨g, i * 2 + 1, none⟩) (x := .int .u64 e) d1
  obtain ⟨v0, hv0⟩ := cell_set (p := ⟨g, i * 2, none⟩) (x := .int .i64 c) d1
  obtain ⟨v3, hv3⟩ := cell_set (p := ⟨g, i * 2 + 1, none⟩) (x := .int .u64 e) hv0
  have H := hid h
  clear h
  go_enter Tryz.func277, Tryz.ntmps277
  go_wp2_with fail
  go_region
  go_wp2_with fail
  go_end0
  refine ⟨rfl, HSW.out w H.out, ?_⟩
  exact ((((Otr.refl g g w).set (.inl rfl) _).set (.inl rfl) _).set (.inl rfl) _).set (.inl rfl) _ |>.drew
theorem hp_Less {B g cap : Nat} (d : Array (Nat × Nat)) (i j : Nat) (hi : i < d.size) (hj : j < d.size) (w : World) (h : RwE w B g cap d) :
    Calls Tryz.prog 276 #[.slice (some ⟨g, 0, none⟩) d.size cap, .int .i64 i, .int .i64 j] w fun e w' => e = .returned (.bool (beh d[i]! d[j]!)) ∧ Below w.heap.size w w' := by
  have c0 := fun n os => Go.cell_grown (a := ⟨g, i * 2, none⟩) h.lt (h.c0 hi) n os
  have c1 := fun n os => Go.cell_grown (a := ⟨g, i * 2 + 1, none⟩) h.lt (h.c1 hi) n os
  have d0 := fun n os => Go.cell_grown (a := ⟨g, j * 2, none⟩) h.lt (h.c0 hj) n os
  have d1 := fun n os => Go.cell_grown (a := ⟨g, j * 2 + 1, none⟩) h.lt (h.c1 hj) n os
  clear h
  obtain ⟨N, hN⟩ : ∃ N, d.size = N := ⟨_, rfl⟩
  rw [hN] at hi hj ⊢
  obtain ⟨⟨x1, x2⟩, hx⟩ : ∃ x, d[i]! = x := ⟨_, rfl⟩
  obtain ⟨⟨y1, y2⟩, hy⟩ : ∃ y, d[j]! = y := ⟨_, rfl⟩
  rw [hx] at c0 c1 ⊢
  rw [hy] at d0 d1 ⊢
  clear hx hy hN d
  have C := hid (fun W => hp_against (x1, x2) (y1, y2) W)
  have HR : Hid (beh (x1, x2) (y1, y2) = decide (cfE (x1, x2) (y1, y2) > 0)) := hid (by
    by_cases hb : beh (x1, x2) (y1, y2) = true
    · rw [hb, decide_eq_true (cfE_pos.2 hb)]
    · rw [Bool.eq_false_iff.2 hb, decide_eq_false (fun hc => hb (cfE_pos.1 hc))])
  obtain ⟨R, hR⟩ : ∃ R, beh (x1, x2) (y1, y2) = R := ⟨_, rfl⟩
  obtain ⟨r, hr⟩ : ∃ r, cfE (x1, x2) (y1, y2) = r := ⟨_, rfl⟩
  rw [hR, hr] at HR
  rw [hr] at C
  rw [hR]
  clear hR hr
  have mx : Tryz.prog.follows .mixedOrders = true := by kernel_rfl
  go_enter Tryz.func276, Tryz.ntmps276
  go_wp2_with fail
  go_quiet_grown (first | (go_at_call 278; (with_reducible refine Calls.grown_of (C.out _))))
  go_wp2_with fail
  go_ret
  refine ⟨by rw [HR.out]; rfl, grow_below _ _ _⟩
end Go.Proofs.YtecgbelgoomneaaGreat
/- One more entry is laid behind the others, the last one is taken off: the pile's own methods. -/
namespace Go.Proofs.YtecgbelgoomneaaGreat
open Go.RowKit
set_option maxHeartbeats 400000
set_option maxRecDepth 100000
set_option linter.unusedVariables false
theorem info_ent : (Tryz.prog.info? 205).map (fun i => (i.zero, i.size, i.bytes)) = some (some (.agg #[.int .i64 0, .int .u64 0]), 2, 16) := by kernel_rfl
theorem run_appE (w : World) (ty : TypeId) {B g cap : Nat} {d : Array (Nat × Nat)} (hr : RwE w B g cap d) (m c : Nat) (x : Nat × Nat) (h0 : w.cell? ⟨m, 0, none⟩ = some (.int .i64 (x.1 : Int))) (h1 : w.cell? ⟨m, 1, none⟩ = some (.int .u64 (x.2 : Int)))
    (hl : d.size < 100000) (hB : B ≤ w.heap.size) :
    ∃ g' cap' w', (Builtin.append_ #[181, 181] ty #[.slice (some ⟨g, 0, none⟩) d.size cap, .slice (some ⟨m, 0, none⟩) 1 c]).run Tryz.prog w = .ok (.slice (some ⟨g', 0, none⟩) (d.push x).size cap') w' ∧ RwE w' B g' cap' (d.push x) ∧ Otr g g w w' ∧ (g' = g ∨ g' = w.heap.size) := by
  obtain ⟨i, hi, hzz⟩ := Option.map_eq_some_iff.1 info_ent
  simp only [Prod.mk.injEq] at hzz
  obtain ⟨hz, hs, hb⟩ := hzz
  obtain ⟨v', w', hrun, h2, h3, _, h5⟩ := run_append_own_at (P := Tryz.prog) w B 181 ty 205 i _ 2 16 rfl hi hz hs hb rfl (by decide) _ d.size (flE d) hr ⟨m, 0, none⟩ 1 c [.int .i64 (x.1 : Int), .int .u64 (x.2 : Int)] rfl (by
    intro j u hu
    match j, hu with
    | 0, hu => simp only [List.getElem?_cons_zero, Option.some.injEq] at hu; subst hu; simpa [Addr.add] using h0
    | 1, hu => simp at hu; subst hu; simpa [Addr.add] using h1
    | j + 2, hu => simp at hu) (by
    intro u hu
    simp at hu
    rcases hu with rfl | rfl <;> rfl) (by simp [maxLen]; omega) (by omega) hB
  have hsz : (d.push x).size = d.size + 1 := by simp
  rw [← flE_push] at h2
  rcases h2.2 with ⟨_, h0⟩ | ⟨g', cap', cur, rfl, _⟩
  · omega
  · refine ⟨g', cap', w', by rw [hsz]; exact hrun, by unfold RwE; rw [hsz]; exact h2, ⟨h3.os, h3.tape, h3.output, h3.size, fun k hk h1 _ => h3.block k hk (by simp [Value.ownBlock]; exact h1)⟩, ?_⟩
    simpa [Value.ownBlock] using h5
theorem step_appE {w : World} {ops : Array Oper} {o : Oper} {a : Act} {K : Act → World → Prop} {Q : Exit → Act → World → Prop} {E : Prop} (hgd : o.guard = none) (s x : Operand)
    (ho : o.op = .call { callee := .builtin .append, args := #[s, x], argTypes := #[181, 181] })
    {B g cap : Nat} {d : Array (Nat × Nat)} (hs : a.eval s = .slice (some ⟨g, 0, none⟩) d.size cap) (hr : RwE w B g cap d) (m c : Nat) (hx : a.eval x = .slice (some ⟨m, 0, none⟩) 1 c) (y : Nat × Nat) (h0 : w.cell? ⟨m, 0, none⟩ = some (.int .i64 (y.1 : Int))) (h1 : w.cell? ⟨m, 1, none⟩ = some (.int .u64 (y.2 : Int)))
    (hl : d.size < 100000) (hB : B ≤ w.heap.size)
    (h : ∀ g' cap' w', RwE w' B g' cap' (d.push y) → Otr g g w w' → (g' = g ∨ g' = w.heap.size) → K (a.put o.dst (.slice (some ⟨g', 0, none⟩) (d.push y).size cap')) w') :
    if Region.wanted o (yielded ops a.tmps) = true then Oper.wp Tryz.prog o a w K Q else E := by
  have hw : Region.wanted o (yielded ops a.tmps) = true := by simp [Region.wanted, hgd]
  rw [if_pos hw]
  obtain ⟨g', cap', w', hrun, h2, h3, h4⟩ := run_appE w o.type hr m c y h0 h1 hl hB
  unfold Oper.wp execOp
  simp only [ho, resolve, invoke, builtin, Sem.run_bind, Sem.run_pure, Result.andThen_ok, List.map_toArray, List.map_cons, List.map_nil, hs, hx, hrun]
  exact h g' cap' w' h2 h3 h4
/-- A box that holds a row of entries. -/
def PileAt (w : World) (B bp g cap : Nat) (d : Array (Nat × Nat)) : Prop :=
  w.cell? ⟨bp, 0, none⟩ = some (.slice (some ⟨g, 0, none⟩) d.size cap) ∧ w.frozen? ⟨bp, 0, none⟩ = false ∧ RwE w B g cap d ∧ bp ≠ g
theorem PileAt.lt {w : World} {B bp g cap : Nat} {d : Array (Nat × Nat)} (h : PileAt w B bp g cap d) : bp < w.heap.size := lt_of_cell h.1
theorem cell_blk {w w' : World} {b o : Nat} (h : w'.heap[b]? = w.heap[b]?) : w'.cell? ⟨b, o, none⟩ = w.cell? ⟨b, o, none⟩ := World.cell?_of_block (a := ⟨b, o, none⟩) h
theorem froz_blk {w w' : World} {b o : Nat} (h : w'.heap[b]? = w.heap[b]?) : w'.frozen? ⟨b, o, none⟩ = w.frozen? ⟨b, o, none⟩ := World.frozen?_of_block (a := ⟨b, o, none⟩) h
theorem PileAt.keep {w w' : World} {B bp g cap : Nat} {d : Array (Nat × Nat)} (h : PileAt w B bp g cap d) (h1 : w'.heap[bp]? = w.heap[bp]?) (h2 : w'.heap[g]? = w.heap[g]?) : PileAt w' B bp g cap d :=
  ⟨(cell_blk h1).trans h.1, (froz_blk h1).trans h.2.1, h.2.2.1.keep h2, h.2.2.2⟩
theorem PileAt.on {w w' : World} {B bp g cap : Nat} {d : Array (Nat × Nat)} (h : PileAt w B bp g cap d) (hb : Below w.heap.size w w') : PileAt w' B bp g cap d := h.keep (hb.block bp h.lt) (hb.block g h.2.2.1.lt)
set_option maxHeartbeats 1000000 in
theorem hp_PushM {B bp g cap : Nat} (d : Array (Nat × Nat)) (x1 x2 : Nat) (hl : d.size < 100000) (w : World) (h : PileAt w B bp g cap d) (hB : B ≤ w.heap.size) :
    Calls Tryz.prog 284 #[.pointer (some ⟨bp, 0, none⟩), .iface 205 (.agg #[.int .i64 (x1 : Int), .int .u64 (x2 : Int)])] w fun e w' => e = .returned (.tuple #[]) ∧ ∃ g' cap', PileAt w' B bp g' cap' (d.push (x1, x2)) ∧ Otr bp g w w' ∧ (g' = g ∨ w.heap.size ≤ g') := by
  have hta : ∀ w : World, (Instr.typeAssert (.iface 205 (.agg #[.int .i64 (x1 : Int), .int .u64 (x2 : Int)])) 20 205 false).run Tryz.prog w = .ok (.agg #[.int .i64 (x1 : Int), .int .u64 (x2 : Int)]) w := fun _ => by kernel_rfl
  obtain ⟨b0, f0, hr, hne⟩ := h
  have HR := hid hr
  have hlt := lt_of_cell b0
  have hgt := hr.lt
  clear hr
  have ba : (w.alloc (.cells #[.int .i64 (x1 : Int), .int .u64 (x2 : Int)] 205)).cell? ⟨bp, 0, none⟩ = some (.slice (some ⟨g, 0, none⟩) d.size cap) := (((Below.refl _ w).alloc (Nat.le_refl _) _).cell (p := ⟨bp, 0, none⟩) hlt).trans b0
  have HB0 := hid b0
  have HF0 := hid f0
  go_enter Tryz.func284, Tryz.ntmps284
  go_wp2_with fail
  go_region_law (first | (refine step_appE rfl _ _ rfl rfl (HR.out.on (by first | exact ((Below.refl _ w).drew).alloc (Nat.le_refl _) _ | exact ((Below.refl _ w).alloc (Nat.le_refl _) _).drew | fail)) w.heap.size _ rfl (x1, x2) (by first | (simp; done) | (show (w.alloc _).cell? _ = _; simp; done) | fail) (by first | (simp; done) | (show (w.alloc _).cell? _ = _; simp; done) | fail) hl (by simp; omega) ?_; rintro g' cap' w4 hr4 ho4 hg4; have HR4 := hid hr4; have HO4 : Hid (Otr bp g w w4) := hid (by first | exact ((Otr.of_below ((((Below.refl _ w).drew).alloc (Nat.le_refl _) _))).trans (ho4.wide (.inr rfl) (.inr rfl))) | exact ((Otr.of_below ((((Below.refl _ w).alloc (Nat.le_refl _) _).drew))).trans (ho4.wide (.inr rfl) (.inr rfl))) | fail); have HG4 : Hid (g' = g ∨ w.heap.size ≤ g') := hid (by simp at hg4; omega); have HK : Hid (w4.heap[bp]? = w.heap[bp]?) := hid (by first | exact (ho4.block bp (by simp; omega) hne hne).trans (((Below.refl w.heap.size w).alloc (Nat.le_refl _) _).block bp hlt) | fail); have b4 := (cell_blk (o := 0) HK.out).trans HB0.out; have f4 := (froz_blk (o := 0) HK.out).trans HF0.out; clear hr4 ho4 hg4) | fail)
  all_goals (
    go_wp2_with fail
    go_end0
    have hne' : g' ≠ bp := by have := HG4.out; omega
    refine ⟨rfl, g', cap', ⟨?_, ?_, ?_, hne'.symm⟩, ?_, HG4.out⟩
    · rw [Array.size_push]; exact World.cell?_setCell_same' _ _ _ (by rw [b4]; rfl)
    · rw [World.frozen?_setCell]; exact f4
    · exact HR4.out.keep (Below.heap_setCell _ _ _ _ hne')
    · exact HO4.out.set (.inl rfl) _)
end Go.Proofs.YtecgbelgoomneaaGreat
/- The last entry is taken off; the methods behind an interface. -/
namespace Go.Proofs.YtecgbelgoomneaaGreat
open Go.RowKit
set_option maxHeartbeats 400000
set_option maxRecDepth 100000
set_option linter.unusedVariables false
theorem run_cutE {g n cap k : Nat} (hk : k ≤ cap) (h0 : 0 < cap) (w : World) : (Instr.slice 181 (.slice (some ⟨g, 0, none⟩) n cap) none (some (.int .i64 (k : Int))) none).run Tryz.prog w = .ok (.slice (some ⟨g, 0, none⟩) k cap) w := by
  have hs : ∀ w, (sizeOf (Tryz.prog.elem 181)).run Tryz.prog w = .ok 2 w := fun _ => by kernel_rfl
  rw [run_slice_h w 181 _ n cap (by kernel_rfl) .i64 (k : Int) (by omega) (by omega)]
  have : ¬ cap = 0 := by omega
  simp [hs, sliced, Result.andThen, this, Addr.add]
theorem pop_get {d : Array (Nat × Nat)} {i : Nat} (h : i < d.size - 1) : d.pop[i]! = d[i]! := by
  rw [getElem!_pos d.pop i (by simp; omega), getElem!_pos d i (by omega), Array.getElem_pop]
theorem RwE.pop {w : World} {B g cap : Nat} {d : Array (Nat × Nat)} (h : RwE w B g cap d) : RwE w B g cap d.pop := by
  obtain ⟨cur, h1, h2, h3, h4, h5, h6⟩ := h.parts
  refine RwE.of h1 h2 (by simp; omega) h4 h5 fun t ht => ?_
  have ht2 : t < d.size * 2 := by simp at ht; omega
  have hc := congrArg (fun l => l[t]?) h6
  simp only [List.getElem?_take_of_lt ht2, Array.getElem?_toList, flE_at ht2] at hc
  rw [hc, flE_at ht, pop_get (by simp at ht; omega)]
theorem RwE.cap {w : World} {B g cap : Nat} {d : Array (Nat × Nat)} (h : RwE w B g cap d) : d.size ≤ cap ∧ cap ≤ maxLen := by
  obtain ⟨cur, h1, h2, h3, h4, h5, h6⟩ := h.parts
  exact ⟨h3, h4⟩
set_option maxHeartbeats 1000000 in
theorem hp_PopM {B bp g cap n : Nat} (d : Array (Nat × Nat)) (hn : d.size = n + 1) (w : World) (h : PileAt w B bp g cap d) :
    Calls Tryz.prog 283 #[.pointer (some ⟨bp, 0, none⟩)] w fun e w' => e = .returned (.iface 205 (.agg #[.int .i64 ((d[n]!).1 : Int), .int .u64 ((d[n]!).2 : Int)])) ∧ PileAt w' B bp g cap d.pop ∧ Otr bp g w w' := by
  have hlt := h.lt
  obtain ⟨b0, f0, hr, hne⟩ := h
  have HR := hid hr
  have hgt := hr.lt
  have hcap := hr.cap.1
  have hcm := hr.cap.2
  have c0 := hr.c0 (i := n) (by omega)
  have c1 := hr.c1 (i := n) (by omega)
  have hpop : d.pop.size = n := by simp; omega
  obtain ⟨x1, hx1⟩ : ∃ x : Int, ((d[n]!).1 : Int) = x := ⟨_, rfl⟩
  obtain ⟨x2, hx2⟩ : ∃ x : Int, ((d[n]!).2 : Int) = x := ⟨_, rfl⟩
  rw [hx1] at c0 ⊢
  rw [hx2] at c1 ⊢
  rw [hn] at b0 hcap
  have hsl := fun W => run_cutE (g := g) (n := n + 1) (cap := cap) (k := n) (by omega) (by omega) W
  have hn5 : n + 1 ≤ 9223372036854775807 := by unfold maxLen at hcm; omega
  have HPOP := hid hpop
  clear hr hx1 hx2 hn hpop hcm
  have e1 : IntKind.i64.wrap (((n + 1 : Nat) : Int) - 1) = (n : Int) := by rw [IntKind.wrap_i64]; omega
  go_enter Tryz.func283, Tryz.ntmps283
  go_wp2_with fail
  go_ret
  have hs : (w.setCell ⟨bp, 0, none⟩ (.slice (some ⟨g, 0, none⟩) n cap)).heap.size = w.heap.size := by simp [World.setCell]
  have k1 : Below w.heap.size (w.setCell ⟨bp, 0, none⟩ (.slice (some ⟨g, 0, none⟩) n cap)) ((w.setCell ⟨bp, 0, none⟩ (.slice (some ⟨g, 0, none⟩) n cap)).alloc (.cells #[.int .i64 x1, .int .u64 x2] 205)) := (Below.refl _ _).alloc (by omega) _
  refine ⟨rfl, PileAt.keep ⟨?_, ?_, ?_, hne⟩ (k1.block bp hlt) (k1.block g hgt), ((Otr.refl bp g w).set (.inl rfl) _).trans (Otr.of_below (by rw [hs]; exact k1))⟩
  · rw [HPOP.out]; exact World.cell?_setCell_same' _ _ _ (by rw [b0]; rfl)
  · rw [World.frozen?_setCell]; exact f0
  · exact (HR.out.keep (Below.heap_setCell _ _ _ _ hne.symm)).pop
theorem run_loadP (w : World) {b : Nat} {A : Option Addr} {n c : Nat} (h : w.cell? ⟨b, 0, none⟩ = some (.slice A n c)) : (loadVar 181 ⟨b, 0, none⟩).run Tryz.prog w = .ok (.slice A n c) w := by
  simp [loadVar, h, go_sem]
theorem hp_meth {nm : String} {f : FuncId} (hf : ((Tryz.prog.info? 203).bind fun i => (i.methods.find? (·.name == nm)).map fun m => (m.path.toList, m.func)) = some ([], some (f, false))) (k : Nat) (w : World) {b : Nat} {A : Option Addr} {n c : Nat} (h : w.cell? ⟨b, 0, none⟩ = some (.slice A n c)) :
    (method (k + 1) 203 (.pointer (some ⟨b, 0, none⟩)) nm).run Tryz.prog w = .ok (f, .slice A n c) w := by
  obtain ⟨i, hi, hf⟩ := Option.bind_eq_some_iff.1 hf
  obtain ⟨m, hm, he⟩ := Option.map_eq_some_iff.1 hf
  simp only [Prod.mk.injEq] at he
  obtain ⟨hp, hfn⟩ := he
  have hL := run_loadP w h
  have hpe : m.path = #[] := by
    apply Array.ext'
    exact hp
  have hW : ∀ (t : Array TypeId) (u : TypeId) (s1 s2 : ByteArray), (Builtin.ssaWrapNilChk_ t u #[.pointer (some ⟨b, 0, none⟩), .string s1, .string s2]).run Tryz.prog w = .ok (.pointer (some ⟨b, 0, none⟩)) w := fun _ _ _ _ => rfl
  have hT : (typeInfo 203).run Tryz.prog w = .ok i w := by simp [typeInfo, hi]
  have hU : (underlying 203).run Tryz.prog w = .ok (.pointer 181) w := run_underlying Tryz.underlying203 w
  unfold method
  rw [Sem.run_bind, hT, Result.andThen_ok]
  simp only [hm, hfn]
  rw [hpe]
  simp only [follow, Sem.run_bind, Sem.run_pure, Result.andThen_ok, receiverAt, Place.get, hU, strVal, asAddr]
  simp only [show (#[] : Array FieldStep).isEmpty = true from rfl, if_true, Sem.run_bind, hW, Result.andThen_ok, Sem.run_pure, hL]
theorem hp_meth0 {nm : String} {f : FuncId} (hf : ((Tryz.prog.info? 203).bind fun i => (i.methods.find? (·.name == nm)).map fun m => (m.path.toList, m.func)) = some ([], some (f, false))) (w : World) {b : Nat} {A : Option Addr} {n c : Nat} (h : w.cell? ⟨b, 0, none⟩ = some (.slice A n c)) :
    (method 363 203 (.pointer (some ⟨b, 0, none⟩)) nm).run Tryz.prog w = .ok (f, .slice A n c) w := hp_meth hf _ w h
end Go.Proofs.YtecgbelgoomneaaGreat
/- A heap of the greatest numbers met so far: what it holds, one by one. Plain mathematics. No program in sight. -/
namespace Go.Proofs.YtecgbelgoomneaaGreat
open Go.Sort
set_option maxRecDepth 100000
set_option linter.unusedVariables false
/-- A place with its number's size. -/
def ent (v : List Int) (i : Nat) : Nat × Nat := (i, szN (v.getD i 0))
theorem beh_ent {v : List Int} {i k : Nat} : beh (ent v i) (ent v k) = ahB v k i := by
  unfold beh ahB ent
  rw [← Bool.decide_and, ← Bool.decide_or]
  exact decide_eq_decide.2 (by constructor <;> rintro (h | ⟨h1, h2⟩) <;> first | exact .inl h | exact .inr ⟨h1.symm, h2⟩)
theorem getD_take {v : List Int} {m i : Nat} (h : i < m) : (v.take m).getD i 0 = v.getD i 0 := by
  rw [List.getD_eq_getElem?_getD, List.getD_eq_getElem?_getD, List.getElem?_take_of_lt h]
theorem ah_take {v : List Int} {m i k : Nat} (hi : i < m) (hk : k < m) : ahB (v.take m) i k = ahB v i k := by
  unfold ahB
  rw [getD_take hi, getD_take hk]
theorem rk_take {v : List Int} {m i : Nat} (hi : i < m) : ∀ q, q ≤ m → rkM (v.take m) i q = rkM v i q
  | 0, _ => rfl
  | q + 1, h => by rw [rkM, rkM, rk_take hi q (by omega), ah_take (by omega) hi]
theorem rkN_take {v : List Int} {m i : Nat} (hm : m ≤ v.length) (hi : i < m) : rkN (v.take m) i = rkM v i m := by
  unfold rkN
  rw [List.length_take, Nat.min_eq_left hm, rk_take hi m (Nat.le_refl _)]
theorem pk_take_mem {v : List Int} {m k i : Nat} (hm : m ≤ v.length) : i ∈ pkF (v.take m) k ↔ i < m ∧ rkM v i m < k := by
  rw [pkF_mem, List.length_take, Nat.min_eq_left hm]
  constructor
  · rintro ⟨h1, h2⟩
    exact ⟨h1, by rwa [rkN_take hm h1] at h2⟩
  · rintro ⟨h1, h2⟩
    exact ⟨h1, by rwa [rkN_take hm h1]⟩
theorem take_len' {v : List Int} {m : Nat} (hm : m ≤ v.length) : (v.take m).length = m := by rw [List.length_take, Nat.min_eq_left hm]
theorem pk_few {v : List Int} {m k : Nat} (hm : m ≤ v.length) (hk : m ≤ k) : pkF (v.take m) k = List.range m := by
  unfold pkF
  rw [take_len' hm, List.filter_eq_self]
  intro i hi
  have hi := List.mem_range.1 hi
  rw [rkN_take hm hi]
  exact decide_eq_true (Nat.lt_of_lt_of_le (rkM_lt v i m hi) hk)
/-- What the heap holds when m numbers have been met, k of them kept. -/
def ctn (v : List Int) (m k : Nat) : List (Nat × Nat) := (pkF (v.take m) k).map (ent v)
theorem ctn_zero (v : List Int) (k : Nat) : ctn v 0 k = [] := by
  unfold ctn pkF
  simp
theorem ctn_len {v : List Int} {m k : Nat} (hm : m ≤ v.length) : (ctn v m k).length = min m k := by
  unfold ctn
  rw [List.length_map]
  by_cases h : m ≤ k
  · rw [pk_few hm h, List.length_range, Nat.min_eq_left h]
  · rw [pkF_len (by rw [take_len' hm]; omega), Nat.min_eq_right (by omega)]
theorem ctn_all (v : List Int) (k : Nat) : ctn v v.length k = (pkF v k).map (ent v) := by unfold ctn; rw [List.take_length]
/-- One more is met while there is room. -/
theorem ctn_more {v : List Int} {m k : Nat} (hm : m < v.length) (h : m < k) : ctn v (m + 1) k = ctn v m k ++ [ent v m] := by
  unfold ctn
  rw [pk_few (by omega) (by omega), pk_few (by omega) (by omega), List.range_succ, List.map_append]
  rfl
theorem ent_inj (v : List Int) {i j : Nat} (h : ent v i = ent v j) : i = j := congrArg Prod.fst h
/-- One more is met where there is none: the one that goes is the one of all these that is behind all others. -/
theorem ctn_full {v : List Int} {m k : Nat} (hm : m < v.length) (h : k ≤ m) {x : Nat × Nat} {l : List (Nat × Nat)} (hp : (x :: l).Perm (ctn v m k ++ [ent v m])) (hx : ∀ y ∈ l, beh y x = false) : l.Perm (ctn v (m + 1) k) := by
  -- those that stay, as places
  have hT : ∀ i, i ∈ pkF (v.take (m + 1)) k → i ∈ pkF (v.take m) k ++ [m] := fun i hi => by
    obtain ⟨h1, h2⟩ := (pk_take_mem (by omega)).1 hi
    rw [List.mem_append, List.mem_singleton]
    by_cases e : i = m
    · exact .inr e
    · refine .inl ((pk_take_mem (by omega)).2 ⟨by omega, ?_⟩)
      have : rkM v i m ≤ rkM v i (m + 1) := by rw [rkM]; omega
      omega
  have hSn : (pkF (v.take m) k ++ [m]).Nodup := by
    rw [List.nodup_append]
    refine ⟨pkF_nodup _ _, by simp, fun a ha b hb e => ?_⟩
    rw [List.mem_singleton] at hb
    have := ((pk_take_mem (by omega)).1 ha).1
    omega
  have hSl : (pkF (v.take m) k ++ [m]).length = k + 1 := by
    rw [List.length_append, pkF_len (by rw [take_len' (by omega)]; omega)]
    rfl
  have hTl : (pkF (v.take (m + 1)) k).length = k := pkF_len (by rw [take_len' (by omega)]; omega)
  have hTn := pkF_nodup (v.take (m + 1)) k
  have hmap : ctn v m k ++ [ent v m] = (pkF (v.take m) k ++ [m]).map (ent v) := by unfold ctn; rw [List.map_append]; rfl
  rw [hmap] at hp
  -- the one that goes is a place, too
  obtain ⟨y, hy, rfl⟩ := List.mem_map.1 (hp.mem_iff.1 List.mem_cons_self)
  have hyT : y ∉ pkF (v.take (m + 1)) k := by
    intro hyT
    -- somebody is not among those that stay, and this one is ahead of y
    have hex : ∃ z, z ∈ pkF (v.take m) k ++ [m] ∧ z ∉ pkF (v.take (m + 1)) k := Classical.byContradiction fun hno => by
      have hsub : ∀ z, z ∈ pkF (v.take m) k ++ [m] → z ∈ pkF (v.take (m + 1)) k := fun z hz => Classical.byContradiction fun hn => hno ⟨z, hz, hn⟩
      have hperm := (List.perm_ext_iff_of_nodup hSn hTn).2 fun z => ⟨hsub z, hT z⟩
      have := hperm.length_eq
      omega
    obtain ⟨z, hz, hzT⟩ := hex
    have hzm : z < m + 1 := by
      rw [List.mem_append, List.mem_singleton] at hz
      rcases hz with hz | hz
      · have := ((pk_take_mem (by omega)).1 hz).1
        omega
      · omega
    have hym := (pk_take_mem (show m + 1 ≤ v.length by omega)).1 hyT
    have hzr : ¬ rkM v z (m + 1) < k := fun hlt => hzT ((pk_take_mem (by omega)).2 ⟨hzm, hlt⟩)
    have hne : z ≠ y := fun e => by rw [e] at hzT; exact hzT hyT
    have hah : ahB v y z = true := by
      rcases ah_tot (v := v) hne with h1 | h1
      · have := rkM_mono h1 (m + 1)
        omega
      · exact h1
    have hzl : ent v z ∈ l := by
      have := hp.mem_iff.2 (List.mem_map.2 ⟨z, hz, rfl⟩)
      rcases List.mem_cons.1 this with e | e
      · exact absurd (ent_inj v e) hne
      · exact e
    have := hx _ hzl
    rw [beh_ent, hah] at this
    cases this
  have hfin : (y :: pkF (v.take (m + 1)) k).Perm (pkF (v.take m) k ++ [m]) := by
    have hn1 : (y :: pkF (v.take (m + 1)) k).Nodup := List.nodup_cons.2 ⟨hyT, hTn⟩
    have hsub : (y :: pkF (v.take (m + 1)) k) ⊆ pkF (v.take m) k ++ [m] := fun z hz => by
      rcases List.mem_cons.1 hz with rfl | hz
      · exact hy
      · exact hT z hz
    refine (List.perm_ext_iff_of_nodup hn1 hSn).2 fun z => ⟨fun hz => hsub hz, fun hz => Classical.byContradiction fun hn => ?_⟩
    have hn2 : (z :: y :: pkF (v.take (m + 1)) k).Nodup := List.nodup_cons.2 ⟨hn, hn1⟩
    have := List.Nodup.length_le_of_subset hn2 (l₂ := pkF (v.take m) k ++ [m]) (fun q hq => by
      rcases List.mem_cons.1 hq with rfl | hq
      · exact hz
      · exact hsub hq)
    rw [hSl, List.length_cons, List.length_cons, hTl] at this
    omega
  have h2 := (hfin.map (ent v)).symm
  rw [List.map_cons] at h2
  exact (hp.trans h2).cons_inv
/-- The places of all that the heap holds, sorted. -/
theorem pk_sorted {v : List Int} {k : Nat} {l : List Int} (hp : l.Perm ((pkF v k).map fun (i : Nat) => (i : Int))) : l.mergeSort (fun x y => decide (x ≤ y)) = pkI v k := by
  have h1 := List.pairwise_mergeSort (le := fun x y : Int => decide (x ≤ y)) (fun a b c h1 h2 => by simp at *; omega) (fun a b => by simp; omega) l
  have h2 : (l.mergeSort (fun x y => decide (x ≤ y))).Perm (pkI v k) := (List.mergeSort_perm l _).trans hp
  refine List.Perm.eq_of_pairwise (le := fun x y : Int => x ≤ y) (fun a b _ _ h3 h4 => by omega) (h1.imp fun h => by simpa using h) ((pkI_ris v k).imp fun h => by omega) h2
end Go.Proofs.YtecgbelgoomneaaGreat
/- The program's places: their code put and got. -/
namespace Go.Proofs.YtecgbelgoomneaaGreat
open Go.RowKit
set_option maxHeartbeats 400000
set_option linter.unusedVariables false
theorem ix_numbers {A : Option Addr} {c : Nat} (dim : Int) (l : List Int) (hp : plcP dim l) (w : World) (ra : Rd (Value.int .i64) w w.heap.size A l) :
    Calls Tryz.prog 188 #[.slice A l.length c] w (OwnOf 25 .u64 w.heap.size (putL l) w) := by
  have hlen := plc_le hp
  have hd4 := hp.2.1
  have HL : Hid (∀ k x, l[k]? = some x → lastI (-1) (l.take (k + 1)) = x) := hid (fun k x h => lastI_step h)
  have HI : Hid (∀ k x, l[k]? = some x → -1 ≤ lastI (-1) (l.take k) ∧ lastI (-1) (l.take k) < x ∧ 0 ≤ x ∧ x < dim) := hid (fun k x h => lastI_lt hp h)
  have HG : Hid (∀ k x, l[k]? = some x → gapsF (-1) (l.take (k + 1)) = gapsF (-1) (l.take k) ++ [x - lastI (-1) (l.take k) - 1]) := hid (fun k x h => putL_step h)
  have HN0 : Hid (gapsF (-1) (l.take 0) = []) := hid rfl
  have HL0 : Hid (lastI (-1) (l.take 0) = -1) := hid rfl
  have HNl : Hid (∀ k, (gapsF (-1) (l.take k)).length ≤ l.length) := hid (fun k => by rw [gaps_len, List.length_take]; omega)
  have HE : Hid (∀ k, k = l.length → (l.length : Int) :: gapsF (-1) (l.take k) = putL l) := hid (fun k h => by rw [List.take_of_length_le (by omega)]; rfl)
  obtain ⟨R, hR⟩ : ∃ R, putL l = R := ⟨_, rfl⟩
  rw [hR] at HE ⊢
  obtain ⟨N, hN⟩ : ∃ N, l.length = N := ⟨_, rfl⟩
  have HN := hid hN
  rw [hN] at HE HNl hlen ⊢
  have RA := hid ra
  have hN4 : N ≤ 4096 := by omega
  have hmk := fun W => run_room (P := Tryz.prog) 29 25 (.int .u64 0) 8 Tryz.underlying29 info_u64 rfl (N + 1) (by omega) (by omega) W
  have h0 := own_room w 25 (.int .u64 0) (N + 1) (by simp [maxLen]; omega) (Nat.le_refl _)
  obtain ⟨w0, hw0⟩ : ∃ w0, w.alloc (.cells (madeCells #[.int .u64 0] (N + 1)) 25) = w0 := ⟨_, rfl⟩
  have hb0 : Below w.heap.size w w0 := by rw [← hw0]; exact (Below.refl _ _).alloc (Nat.le_refl _) _
  have hr0 : Rd (Value.int .u64) (w0.alloc (.cells #[.int .u64 (N : Int)] 25)) _ (some ⟨w0.heap.size, 0, none⟩) [(N : Int)] := rd_one (one_cell w0 (.int .u64 (N : Int)) 25).1
  have hrun := hmk w
  rw [hw0] at hrun h0
  rw [show ((N + 1 : Nat) : Int) = (N : Int) + 1 by omega] at hrun
  have h0' := own_on h0 ((Below.refl w0.heap.size w0).alloc (Nat.le_refl _) (.cells #[.int .u64 (N : Int)] 25))
  have hbw := hb0.alloc hb0.size (.cells #[.int .u64 (N : Int)] 25)
  clear hmk hw0 h0 hR hN ra hp hlen
  go_enter Tryz.func188, Tryz.ntmps188
  go_wp2_with (at_builtin; refine wpList_app (Value.int .u64) (fun _ => rfl) _ rfl _ _ 29 rfl w.heap.size 25 (.int .u64 0) 8 Tryz.underlying29 info_u64 rfl [] _ (N + 1) rfl h0' [(N : Int)] _ 1 _ rfl hr0 (by simp [maxLen]) (by simp) hbw.size ?_)
  rintro S A' c' w1 hS ho hb1 _
  have HS := hid hS
  have HO := hid ho
  have k1 := hbw.trans hb1
  clear hS ho hb1 hbw h0' hr0 hrun hb0
  go_wp2_with fail
  go_loopw [3, 4, 6, 18] (fun t p x0 i wr => ∃ (k : Nat) (S : List Int) (A2 : Option Addr) (c2 : Nat), k ≤ N ∧ i = .int .i64 k ∧ p = .int .i64 (lastI (-1) (l.take k) + 1) ∧ t = .slice A2 S.length c2 ∧ S = (N : Int) :: gapsF (-1) (l.take k) ∧ wr.ownsRow w.heap.size 25 1 (.slice A2 S.length c2) S.length (S.map (Value.int .u64)) ∧ Below w.heap.size w wr) (fun _ _ _ i _ => N - (intOf i).toNat)
  case atStart => exact ⟨0, S, A', c', by omega, rfl, by rw [HL0.out]; rfl, rfl, by rw [HS.out, HN0.out], HO.out, k1⟩
  case round =>
    clear HO k1 HS
    obtain ⟨k, S, A2, c2, hk, rfl, rfl, rfl, hS, ho, hbel⟩ := hrel
    have hSl : S.length ≤ 5000 := by have h1 := HNl.out k; rw [hS, List.length_cons]; omega
    have HS := hid hS
    have HO := hid ho
    clear hS ho
    by_cases hlt : k < N
    · obtain ⟨b1, o1, x, rfl, l1, ex, cx⟩ := (RA.out.below hbel).at_ (k := k) (by rw [HN.out]; exact hlt)
      have hi := HI.out k x ex
      have HGk := hid (HG.out k x ex)
      have HLk := hid (HL.out k x ex)
      obtain ⟨t, ht⟩ : ∃ t, lastI (-1) (l.take k) = t := ⟨_, rfl⟩
      obtain ⟨g, hg⟩ : ∃ g, x - t - 1 = g := ⟨_, rfl⟩
      rw [ht] at hi HGk
      rw [hg] at HGk
      have hg2 : x - (t + 1) = g := by omega
      have hgb : 0 ≤ g ∧ g ≤ 4096 := by omega
      have hr0 : Rd (Value.int .u64) (wr.alloc (.cells #[.int .u64 g] 25)) _ (some ⟨wr.heap.size, 0, none⟩) [g] := rd_one (one_cell wr (.int .u64 g) 25).1
      have h0' := own_on HO.out ((Below.refl wr.heap.size wr).alloc (Nat.le_refl _) (.cells #[.int .u64 g] 25))
      have hbs := hbel.size
      rw [ht]
      clear ex ht hg
      go_wp2_with (at_builtin; refine wpList_app (Value.int .u64) (fun _ => rfl) _ rfl _ _ 29 rfl w.heap.size 25 (.int .u64 0) 8 Tryz.underlying29 info_u64 rfl S _ _ rfl h0' [g] _ 1 _ rfl hr0 (by simp [maxLen]; omega) (by simp; omega) (by simp; omega) ?_)
      rintro S' A' c' w4 hS' ho hb4 _
      have HS' := hid hS'
      have HO' := hid ho
      clear hS' ho h0' hr0 hg2
      go_wp2_with fail
      go_roundw
      case rel => exact ⟨k + 1, S', A', c', by omega, by go_num, by rw [HLk.out], rfl, by rw [HS'.out, HS.out, HGk.out, List.cons_append], HO'.out, (hbel.alloc hbel.size _).trans hb4⟩
      case measure => simp [intOf]; omega
    · obtain rfl : k = N := by omega
      have HR : Hid (S = R) := hid (by rw [HS.out, HE.out k rfl])
      clear HS
      have h := HR.out
      subst h
      go_wp2_with fail
      go_ret
      exact ⟨A2, c2, rfl, HO.out, hbel⟩
theorem ix_Put {A : Option Addr} {c : Nat} (dim : Int) (l : List Int) (hd : I64 dim) (hl : l.length ≤ 100000) (w : World) (ra : Rd (Value.int .i64) w w.heap.size A l) :
    Calls Tryz.prog 147 #[.int .i64 dim, .slice A l.length c] w (OwnE 5 .u8 w.heap.size (pixV dim l) (chkE dim l) w) := by
  have C := hid (ix_Check (A := A) (c := c) dim l hd hl w ra)
  by_cases h : chkE dim l = 0
  · have hp := chk_ok.1 h
    have hlen := plc_le hp
    have hd4 := hp.2.1
    have e : pixV dim l = encs (putL l) := if_pos h
    rw [h] at C
    rw [h, e]
    have CN := hid (fun W h => ix_numbers (A := A) (c := c) dim l hp W h)
    have HPl : Hid ((putL l).length = l.length + 1) := hid (by unfold putL; rw [List.length_cons, gaps_len])
    have HPu := hid (putL_u64 hp)
    obtain ⟨P, hP⟩ : ∃ P, putL l = P := ⟨_, rfl⟩
    rw [hP] at CN HPl HPu ⊢
    have hPl : P.length ≤ 5000 := by rw [HPl.out]; omega
    have CP : Hid (∀ B d W, Rd (Value.int .u64) W W.heap.size B P → Calls Tryz.prog 58 #[.slice none 0 0, .slice B P.length d] W (OwnOf 5 .u8 W.heap.size (encs P) W)) := hid (fun B d W h => leb_Put (A := none) (B := B) (c := 0) (d := d) [] P (by decide) hPl HPu.out W Rd.none_ h)
    obtain ⟨R, hR⟩ : ∃ R, encs P = R := ⟨_, rfl⟩
    rw [hR] at CP ⊢
    have RA := hid ra
    clear h e hp hP hR ra hd HPl HPu hlen hd4
    go_enter Tryz.func147, Tryz.ntmps147
    go_wp2_with fail
    refine C.out.mono ?_
    rintro _ w1 ⟨rfl, hb1⟩
    have CN1 := hid (CN.out w1 (RA.out.on hb1))
    clear CN C
    go_wp2_with fail
    refine CN1.out.mono ?_
    rintro _ w2 ⟨A2, c2, rfl, ho2, hb2⟩
    have CP1 := hid (CP.out A2 c2 w2 (own_rd ho2))
    have k2 : Below w.heap.size w w2 := hb1.trans (hb2.mono hb1.size)
    clear CP CN1 ho2 hb2
    go_wp2_with fail
    refine CP1.out.mono ?_
    rintro _ w3 ⟨A3, c3, rfl, ho3, hb3⟩
    have HO := hid (own_base ho3 k2.size)
    clear ho3 CP1
    go_wp2_with fail
    go_ret2
    exact ⟨A3, c3, rfl, HO.out, k2.trans (hb3.mono k2.size)⟩
  · have e : pixV dim l = [] := if_neg h
    rw [e]
    obtain ⟨E, hE⟩ : ∃ E, chkE dim l = E := ⟨_, rfl⟩
    rw [hE] at C h ⊢
    have hne : (E != 0) = true := by simpa using h
    clear h e hE ra
    go_enter Tryz.func147, Tryz.ntmps147
    go_wp2_with fail
    refine C.out.mono ?_
    rintro _ _ ⟨rfl, hb1⟩
    go_wp2_with fail
    go_ret2
    exact .nil hb1
/-- A row that was made, filled place by place. -/
theorem own_fill {w' : World} {b B : Nat} {e : TypeId} {O : List Int} (h : w'.rowIs b e O.length (fun j => .int .i64 (O.getD j 0))) (hB : B ≤ b) (hn : O.length ≤ maxLen) :
    w'.ownsRow B e 1 (.slice (some ⟨b, 0, none⟩) O.length O.length) O.length (O.map (Value.int .i64)) := by
  have h2 := own_made (w' := w') h hB hn
  have e2 : (List.range O.length).map (fun j => Value.int .i64 (O.getD j 0)) = O.map (Value.int .i64) := by
    apply List.ext_getElem (by simp)
    intro i h1 h2
    simp at h1
    simp [List.getD, h1]
  rwa [e2] at h2
theorem getD_snoc (O : List Int) (z : Int) (j : Nat) : (O ++ [z]).getD j 0 = if j = O.length then z else O.getD j 0 := by
  unfold List.getD
  by_cases h : j < O.length
  · rw [List.getElem?_append_left h, if_neg (by omega)]
  · rw [List.getElem?_append_right (by omega)]
    by_cases e : j = O.length
    · rw [if_pos e, e]; simp
    · rw [if_neg e, List.getElem?_eq_none (by simp; omega), List.getElem?_eq_none (by omega)]
end Go.Proofs.YtecgbelgoomneaaGreat
/- The program's places: numbers spread and gathered, what is left, lists together. -/
namespace Go.Proofs.YtecgbelgoomneaaGreat
open Go.RowKit
set_option maxHeartbeats 400000
set_option maxRecDepth 100000
set_option linter.unusedVariables false
theorem ix_Gather {A B : Option Addr} {c d : Nat} (l v : List Int) (hl : l.length ≤ 100000) (hv : v.length ≤ 9223372036854775807) (w : World) (ra : Rd (Value.int .i64) w w.heap.size A l) (rv : Rd (Value.int .i64) w w.heap.size B v) :
    Calls Tryz.prog 161 #[.slice A l.length c, .slice B v.length d] w (OwnE 2 .i64 w.heap.size (gatV l v) (gatE l v) w) := by
  have CS := hid (ix_stray (v.length : Int) w)
  have CC := hid (fun W h1 h2 => stray_contains (A := A) (c := c) (p := w.heap.size + 1) (q := w.heap.size) (B := w.heap.size) (by omega) (by omega) (by omega) (v.length : Int) l (by omega) W h1 h2)
  have RA := hid ra
  have RV := hid rv
  by_cases h : gatP l v
  · have e1 : gdB (v.length : Int) l = true := decide_eq_true h
    have e2 : gatV l v = l.map fun n => v.getD n.toNat 0 := if_pos (gat_ok.2 h)
    rw [e1] at CC
    rw [gat_ok.2 h, e2]
    have HI : Hid (∀ (k : Nat) (n : Int), l[k]? = some n → 0 ≤ n ∧ n < v.length) := hid (fun k n hn => h.2 n (List.mem_of_getElem? hn))
    have HG : Hid (∀ (k : Nat) (n x : Int), l[k]? = some n → v[n.toNat]? = some x → (l.map fun n => v.getD n.toNat 0).take (k + 1) = (l.map fun n => v.getD n.toNat 0).take k ++ [x]) := hid (fun k n x hn hx => take_snoc (by rw [List.getElem?_map, hn, Option.map_some, getD_of hx]))
    have HGl : Hid ((l.map fun n => v.getD n.toNat 0).length = l.length) := hid (by simp)
    obtain ⟨G, hG⟩ : ∃ G, (l.map fun n => v.getD n.toNat 0) = G := ⟨_, rfl⟩
    rw [hG] at HG HGl ⊢
    obtain ⟨N, hN⟩ : ∃ N, l.length = N := ⟨_, rfl⟩
    have HN := hid hN
    rw [hN] at HGl CC hl ⊢
    have hmk := fun W => run_make_row' (P := Tryz.prog) 24 2 (.int .i64 0) 8 Tryz.underlying24 info_i64 rfl .i64 .i64 N (by omega) (by omega) W
    clear h e1 e2 hG hN ra rv
    go_enter Tryz.func161, Tryz.ntmps161
    go_wp2_with fail
    refine CS.out.mono ?_
    rintro _ w1 ⟨rfl, hk1, hb1⟩
    have C := hid (CC.out w1 (RA.out.below hb1) hk1)
    clear CC CS hk1
    go_wp2_with fail
    refine C.out.mono ?_
    rintro _ w2 ⟨rfl, hb2⟩
    have k2 := hb1.trans hb2
    have hrun := hmk w2
    clear C hb1 hb2 hmk
    go_wp2_with fail
    clear hrun
    have RA2 := hid (RA.out.on k2)
    have RV2 := hid (RV.out.on k2)
    have hks := k2.size
    clear RA RV
    go_loopw [7, 8, 19] (fun x7 x8 i wr => ∃ k : Nat, k ≤ N ∧ i = .int .i64 k ∧ wr.rowIs w2.heap.size 2 N (fun j => .int .i64 ((G.take k).getD j 0)) ∧ Below w2.heap.size w2 wr) (fun _ _ i _ => N - (intOf i).toNat)
    case atStart => exact ⟨0, by omega, rfl, (World.rowIs_made w2 (.int .i64 0) N _).congr (fun j hj => by simp [List.getD]), by go_grown⟩
    case round =>
      obtain ⟨k, hk, rfl, hrow, hbel⟩ := hrel
      have HR := hid hrow
      by_cases hlt : k < N
      · obtain ⟨b1, o1, n, rfl, l1, en, c1⟩ := (RA2.out.below hbel).at_ (k := k) (by rw [HN.out]; exact hlt)
        have hn := HI.out k n en
        obtain ⟨m, rfl⟩ := Int.eq_ofNat_of_zero_le hn.1
        have hmi := hn.2
        have hm : m < v.length := by omega
        obtain ⟨b2, o2, x, rfl, l2, ex, c2⟩ := (RV2.out.below hbel).at_ hm
        have HS := hid (HG.out k m x en (by rw [Int.toNat_natCast]; exact ex))
        have f1 := hrow.frozen k
        have c3 := hrow.cell hlt
        have hgl : (G.take k).length = k := by rw [List.length_take, HGl.out]; omega
        have HL := hid hgl
        clear en ex hrow hn hgl
        go_wp2_with fail
        go_roundw
        case rel =>
          refine ⟨k + 1, by omega, by go_num, ?_, by first | exact hbel.setCell (Nat.le_refl _) _ | exact (hbel.setCell (Nat.le_refl _) _).drew⟩
          refine World.rowIs.congr (HR.out.set k (.int .i64 x)) fun j hj => ?_
          rw [HS.out, getD_snoc, HL.out]
          by_cases e : j = k
          · rw [if_pos e, if_pos (by omega)]
          · rw [if_neg e, if_neg (by omega)]
        case measure => simp [intOf]; omega
      · obtain rfl : k = N := by omega
        clear hrow
        have HR2 : Hid (wr.rowIs w2.heap.size 2 G.length (fun j => .int .i64 (G.getD j 0))) := hid (by
          have h := HR.out
          rw [List.take_of_length_le (by rw [HGl.out]; omega)] at h
          rw [HGl.out]; exact h)
        clear HR
        go_wp2_with fail
        go_ret2
        refine ⟨some ⟨w2.heap.size, 0, none⟩, G.length, by rw [HGl.out]; rfl, own_fill HR2.out hks (by rw [HGl.out]; unfold maxLen; omega), k2.trans (hbel.mono hks)⟩
  · have e1 : gdB (v.length : Int) l = false := decide_eq_false h
    have e2 : gatV l v = [] := if_neg (by rw [gat_no h]; decide)
    rw [e1] at CC
    rw [gat_no h, e2]
    clear h e1 e2 ra rv
    go_enter Tryz.func161, Tryz.ntmps161
    go_wp2_with fail
    refine CS.out.mono ?_
    rintro _ w1 ⟨rfl, hk1, hb1⟩
    have C := hid (CC.out w1 (RA.out.below hb1) hk1)
    clear CC CS hk1
    go_wp2_with fail
    refine C.out.mono ?_
    rintro _ w2 ⟨rfl, hb2⟩
    go_wp2_with fail
    go_ret2
    exact .nil (hb1.trans hb2)
def srtI (zs : List Int) : List Int := zs.mergeSort fun x y => decide (x ≤ y)
theorem ix_sort {A : Option Addr} {c base : Nat} (zs : List Int) (hz : zs.length ≤ 100000) (w : World) (hB : base ≤ w.heap.size) (ho : w.ownsRow base 3 1 (.slice A zs.length c) zs.length (zs.map (Value.int .i64))) :
    Calls Tryz.prog 200 #[.slice A zs.length c] w fun e w' => e = .returned (.tuple #[]) ∧ w'.ownsRow base 3 1 (.slice A zs.length c) zs.length ((srtI zs).map (Value.int .i64)) ∧ Below base w w' := by
  have hlen : (srtI zs).length = zs.length := by unfold srtI; simp
  rcases ho.2 with ⟨he, h0⟩ | ⟨g, cap, cur, he, hg, hh, h1, h2, h3, h4⟩
  · simp only [Value.slice.injEq] at he
    obtain ⟨rfl, _, rfl⟩ := he
    obtain rfl : zs = [] := List.length_eq_zero_iff.1 h0
    refine (Any.slices_Sort_int_none Tryz.lays189 none 0 w).mono ?_
    rintro _ _ ⟨rfl, rfl⟩
    rw [show srtI [] = [] by unfold srtI; simp]
    exact ⟨rfl, own_nil _ _ _, Below.refl _ _⟩
  · simp only [Value.slice.injEq] at he
    obtain ⟨rfl, _, rfl⟩ := he
    rw [Nat.mul_one] at h4
    have hgl := (Array.getElem?_eq_some_iff.1 hh).1
    refine (Tryz.slices_Sort_int g 0 c zs w (holds_of_blockI hh h4) hgl (by omega)).mono ?_
    rintro _ _ ⟨rfl, n, os, rfl⟩
    refine ⟨rfl, ?_, (Below.refl base w).grown (grownBy_sortedI _) hB (fun k hk => by cases hk; exact hg)⟩
    exact ownsRow_sortedI hlen hg hh h1 h2 h3
end Go.Proofs.YtecgbelgoomneaaGreat

namespace Go.Proofs.YtecgbelgoomneaaGreat
open Go.RowKit
set_option maxHeartbeats 400000
set_option maxRecDepth 100000
set_option linter.unusedVariables false
theorem lead (y : Int) (h0 : 1 ≤ y) (h1 : y ≤ 18446744073709551615) (w : World) :
    Calls Tryz.prog 231 #[.int .u64 y] w fun e w' => ∃ s : Nat, e = .returned (.int .i64 s) ∧ s ≤ 63 ∧ 9223372036854775808 ≤ y * 2 ^ s ∧ y * 2 ^ s ≤ 18446744073709551615 ∧ w = w' := by
  refine (Tryz.bits_LeadingZeros64 y w (by omega) h1).mono ?_
  rintro e w' ⟨rfl, rfl⟩
  obtain ⟨n, rfl⟩ := Int.eq_ofNat_of_zero_le (show 0 ≤ y by omega)
  have hb := Lib.bitLenAux_bounds 64 n (by omega) (by omega)
  change 1 ≤ Lib.bitLen n ∧ 2 ^ (Lib.bitLen n - 1) ≤ n ∧ n < 2 ^ Lib.bitLen n at hb
  have hle : Lib.bitLen n ≤ 64 := by
    rcases Nat.lt_or_ge 64 (Lib.bitLen n) with h | h
    · have := Nat.pow_le_pow_right (show 0 < 2 by decide) (show 64 ≤ Lib.bitLen n - 1 by omega)
      omega
    · exact h
  have p1 : n * 2 ^ (64 - Lib.bitLen n) < 18446744073709551616 := by
    have e : 2 ^ Lib.bitLen n * 2 ^ (64 - Lib.bitLen n) = 18446744073709551616 := by rw [← Nat.pow_add, show Lib.bitLen n + (64 - Lib.bitLen n) = 64 by omega]
    rw [← e]
    exact Nat.mul_lt_mul_of_pos_right hb.2.2 (Nat.two_pow_pos _)
  have p2 : 9223372036854775808 ≤ n * 2 ^ (64 - Lib.bitLen n) := by
    have e : 2 ^ (Lib.bitLen n - 1) * 2 ^ (64 - Lib.bitLen n) = 9223372036854775808 := by rw [← Nat.pow_add, show Lib.bitLen n - 1 + (64 - Lib.bitLen n) = 63 by omega]
    rw [← e]
    exact Nat.mul_le_mul_right _ hb.2.1
  have c1 : ((n : Int) * 2 ^ (64 - Lib.bitLen n)) = ((n * 2 ^ (64 - Lib.bitLen n) : Nat) : Int) := by simp
  refine ⟨64 - Lib.bitLen n, ?_, by omega, by rw [c1]; omega, by rw [c1]; omega, rfl⟩
  congr 2
  simp only [Int.toNat_natCast]
  omega
theorem div64_low (l y : Int) (hl : U64 l) (hy : U64 y) (h0 : y ≠ 0) (w : World) :
    Calls Tryz.prog 209 #[.int .u64 0, .int .u64 l, .int .u64 y] w fun e w' => e = .returned (.tuple #[.int .u64 (l / y), .int .u64 (l % y)]) ∧ w.drew = w' := by
  unfold U64 at hl hy
  have hy1 : 1 ≤ y := by omega
  have k1 : (y == 0) = false := by simpa using h0
  have k2 : (decide (y ≤ 0)) = false := by simp; omega
  go_enter Tryz.func209, Tryz.ntmps209
  go_wp2
  go_region
  go_wp2
  go_ret2
  exact ⟨rfl, rfl⟩
theorem rem_of {u d1 d0 t1 Q1 D : Int} (n : Den u d1 d0 t1) (hQ : (u * 4294967296 + t1) / (d1 * 4294967296 + d0) = Q1) (hD : D = d1 * 4294967296 + d0) :
    IntKind.u64.wrap (IntKind.u64.wrap (IntKind.u64.wrap (u * 4294967296) + t1) - IntKind.u64.wrap (Q1 * D)) = u * 4294967296 + t1 - Q1 * D ∧ 0 ≤ u * 4294967296 + t1 - Q1 * D ∧ u * 4294967296 + t1 - Q1 * D < D := by
  obtain ⟨h1, h2, h3, h4, h5, h6, h7, h8⟩ := n
  rw [← hD] at hQ
  have e := Int.mul_ediv_add_emod (u * 4294967296 + t1) D
  have e1 := Int.emod_nonneg (u * 4294967296 + t1) (show D ≠ 0 by omega)
  have e2 := Int.emod_lt_of_pos (u * 4294967296 + t1) (show 0 < D by omega)
  rw [hQ, Int.mul_comm] at e
  generalize Q1 * D = p at *
  simp only [IntKind.wrap_u64]
  refine ⟨?_, by omega, by omega⟩
  omega
theorem high_end {h l y u t D d1 d0 t1 t0 Q1 Q0 r1 : Int} {s : Nat} (hs : s ≤ 63) (hy : 0 < y) (hD0 : 0 < D)
    (f : (h * 18446744073709551616 + l) * 2 ^ s = bits BinOp.or IntKind.u64 (IntKind.u64.wrap (h * 2 ^ s)) (l / 2 ^ (64 - s)) * 18446744073709551616 + IntKind.u64.wrap (l * 2 ^ s))
    (hu : bits BinOp.or IntKind.u64 (IntKind.u64.wrap (h * 2 ^ s)) (l / 2 ^ (64 - s)) = u) (ht : IntKind.u64.wrap (l * 2 ^ s) = t) (hD : y * 2 ^ s = D)
    (eD : D = d1 * 4294967296 + d0) (et : t = t1 * 4294967296 + t0) (hr1 : u * 4294967296 + t1 - Q1 * D = r1)
    (hr0 : IntKind.u64.wrap (IntKind.u64.wrap (IntKind.u64.wrap (r1 * 4294967296) + t0) - IntKind.u64.wrap (Q0 * D)) = r1 * 4294967296 + t0 - Q0 * D ∧ 0 ≤ r1 * 4294967296 + t0 - Q0 * D ∧ r1 * 4294967296 + t0 - Q0 * D < D) :
    Q1 * 4294967296 + Q0 = (h * 18446744073709551616 + l) / y ∧ IntKind.u64.wrap (IntKind.u64.wrap (IntKind.u64.wrap (r1 * 4294967296) + t0) - IntKind.u64.wrap (Q0 * D)) / 2 ^ s = (h * 18446744073709551616 + l) % y := by
  obtain ⟨a, b, c⟩ := hr0
  have two := two_digits (D := D) (t1 := u * 4294967296 + t1) (t0 := t0) (a1 := Q1) (a0 := Q0) (b := r1) (r := r1 * 4294967296 + t0 - Q0 * D) hD0 (by omega) (by omega) b c
  rw [hu, ht, et] at f
  have e : (u * 4294967296 + t1) * 4294967296 + t0 = (h * 18446744073709551616 + l) * 2 ^ s := by omega
  rw [e, ← hD] at two
  have q := quo_shift (U := h * 18446744073709551616 + l) (y := y) (p := 2 ^ s) (Int.pow_pos (by decide)) hy
  rw [q.1] at two
  refine ⟨two.1.symm, ?_⟩
  rw [a, ← hD, ← two.2]
  exact q.2
theorem div64_high (h l y : Int) (hl : U64 l) (hy : y ≤ 18446744073709551615) (h0 : 1 ≤ h) (h1 : h < y) (w : World) :
    Calls Tryz.prog 209 #[.int .u64 h, .int .u64 l, .int .u64 y] w fun e w' => e = .returned (.tuple #[.int .u64 ((h * 18446744073709551616 + l) / y), .int .u64 ((h * 18446744073709551616 + l) % y)]) ∧ w = w' := by
  have hy1 : 1 ≤ y := by omega
  have k1 : (y == 0) = false := by simp; omega
  have k2 : (decide (y ≤ h)) = false := by simp; omega
  have k3 : (h == 0) = false := by simp; omega
  go_enter Tryz.func209, Tryz.ntmps209
  go_wp2_with fail
  refine (lead y hy1 hy _).mono ?_
  rintro e w' ⟨s, rfl, hs1, hs2, hs3, rfl⟩
  have f1 := norm_u h l y s hs1 hl (by omega) h1 hs3
  have f2 := norm_sum h l s hs1
  have f3 := norm_lt h l y s hs1 hl h1
  have f4 : 0 ≤ h * 2 ^ s + l / 2 ^ (64 - s) := by rw [← f1, f1]; exact Int.add_nonneg (Int.mul_nonneg (by omega) (Int.le_of_lt (Int.pow_pos (by decide)))) (Int.ediv_nonneg hl.1 (Int.le_of_lt (Int.pow_pos (by decide))))
  rw [← f1] at f2 f3 f4
  have f5 := U64.wrap (l * 2 ^ s)
  obtain ⟨u, hu⟩ : ∃ u, bits BinOp.or IntKind.u64 (IntKind.u64.wrap (h * 2 ^ s)) (l / 2 ^ (64 - s)) = u := ⟨_, rfl⟩
  obtain ⟨t, ht⟩ : ∃ t, IntKind.u64.wrap (l * 2 ^ s) = t := ⟨_, rfl⟩
  have F := hid f2
  clear f1 f2
  rw [hu] at f3 f4
  rw [ht] at f5
  have P := hid (rfl : y * 2 ^ s = y * 2 ^ s)
  obtain ⟨D, hD⟩ : ∃ D, y * 2 ^ s = D := ⟨_, rfl⟩
  rw [hD] at hs2 hs3 f3
  have g1 := and_low D ⟨by omega, hs3⟩
  have g2 := and_low t f5
  obtain ⟨d1, hd1⟩ : ∃ d1, D / 4294967296 = d1 := ⟨_, rfl⟩
  obtain ⟨d0, hd0⟩ : ∃ d0, bits BinOp.and IntKind.u64 D 4294967295 = d0 := ⟨_, rfl⟩
  obtain ⟨t1, ht1⟩ : ∃ t1, t / 4294967296 = t1 := ⟨_, rfl⟩
  obtain ⟨t0, ht0⟩ : ∃ t0, bits BinOp.and IntKind.u64 t 4294967295 = t0 := ⟨_, rfl⟩
  have f6 := f5.1
  have f7 := f5.2
  rw [hd0] at g1
  rw [ht0] at g2
  have eD : D = d1 * 4294967296 + d0 := by omega
  have et : t = t1 * 4294967296 + t0 := by omega
  have b1 : 2147483648 ≤ d1 := by omega
  have b2 : d1 ≤ 4294967295 := by omega
  have b3 : 0 ≤ d0 := by omega
  have b4 : d0 ≤ 4294967295 := by omega
  have b5 : 0 ≤ t1 := by omega
  have b6 : t1 ≤ 4294967295 := by omega
  have b7 : 0 ≤ t0 := by omega
  have b8 : t0 ≤ 4294967295 := by omega
  have n : Den u d1 d0 t1 := ⟨b1, by omega, b3, by omega, f4, by omega, b5, by omega⟩
  have s0 := dig_start n
  have c1 : 0 ≤ u / d1 := s0.1.q0
  have c2 : u / d1 ≤ 4294967297 := s0.1.q1
  have c3 : 0 ≤ u / d1 * d1 := Int.mul_nonneg c1 (by omega)
  have c4 : u / d1 * d1 ≤ u := by have := s0.1.r0; omega
  have b9 : u ≤ 18446744073709551615 := by omega
  have S0 := hid s0
  have ED := hid eD
  have ET := hid et
  clear s0 eD et g1 g2 f3 f5
  go_upto_block 0 with (fail)
  have HU := hid hu
  have HT := hid ht
  have HD := hid hD
  clear hu ht hD hd1 hd0 ht1 ht0 k1 k2 k3 c1 c2 c3 c4
  obtain ⟨Q1, hQ1⟩ : ∃ Q1, (u * 4294967296 + t1) / (d1 * 4294967296 + d0) = Q1 := ⟨_, rfl⟩
  have q1a := dig_quo0 n
  have q1b := dig_quo1 n
  rw [hQ1] at q1a q1b
  have HQ1 := hid hQ1
  clear hQ1
  have QV : Hid (Value.int IntKind.u64 ((u * 4294967296 + t1) / (d1 * 4294967296 + d0)) = Value.int IntKind.u64 Q1) := by unfold Hid; rw [HQ1.out]
  go_cut [15, 16] from 67 to 85 (fun a _ wc => a = .int .u64 Q1 ∧ w = wc)
  case first =>
    go_wp2_with fail
    go_loop [15, 16] (fun a b => ∃ q r : Int, a = .int .u64 q ∧ b = .int .u64 r ∧ Dig u d1 d0 t1 q r ∧ r < 4294967296) (fun a b => (4294967296 - intOf b).toNat)
    case atStart => exact ⟨_, _, rfl, rfl, S0.out.1, S0.out.2⟩
    case round =>
      obtain ⟨q, r, rfl, rfl, hdig, hr⟩ := hrel
      have e1 := hdig.q0
      have e2 := hdig.q1
      have e3 := hdig.r0
      by_cases hc : 4294967296 ≤ q ∨ 4294967296 * r + t1 < q * d0
      · obtain ⟨x1, x2, x3⟩ := dig_step n hdig hc
        have y0 := x1.q0
        by_cases hq : 4294967296 ≤ q
        · clear hc
          by_cases hb : 4294967296 ≤ r + d1
          · go_wp2_with fail
            go_meet
            case rel => exact ⟨by rw [← dig_break n x1 x3 hb]; exact QV.out, rfl⟩
          · go_wp2_with fail
            go_round
            case rel => exact ⟨q - 1, r + d1, rfl, rfl, x1, by omega⟩
            case measure => simp [intOf]; omega
        · have hc' : 4294967296 * r + t1 < q * d0 := by omega
          have z0 : 0 ≤ q * d0 := Int.mul_nonneg e1 b3
          have z1 : q * d0 ≤ 18446744073709551615 := by
            have := Int.mul_le_mul (show q ≤ 4294967295 by omega) b4 b3 (by decide)
            omega
          clear hc
          by_cases hb : 4294967296 ≤ r + d1
          · go_wp2_with fail
            go_meet
            case rel => exact ⟨by rw [← dig_break n x1 x3 hb]; exact QV.out, rfl⟩
          · go_wp2_with fail
            go_round
            case rel => exact ⟨q - 1, r + d1, rfl, rfl, x1, by omega⟩
            case measure => simp [intOf]; omega
      · have hc1 : ¬ 4294967296 ≤ q := by omega
        have hc2 : ¬ 4294967296 * r + t1 < q * d0 := by omega
        have z0 : 0 ≤ q * d0 := Int.mul_nonneg e1 b3
        have z1 : q * d0 ≤ 18446744073709551615 := by
          have := Int.mul_le_mul (show q ≤ 4294967295 by omega) b4 b3 (by decide)
          omega
        have hz := dig_le n hdig (by omega)
        have HZ := hid hz
        clear hc hz
        go_wp2_with fail
        go_meet
        case rel => exact ⟨by rw [← HZ.out]; exact QV.out, rfl⟩
  case rest =>
    obtain ⟨rfl, rfl⟩ := hcut
    have r1e := rem_of n HQ1.out ED.out
    obtain ⟨r1, hr1⟩ : ∃ r1, u * 4294967296 + t1 - Q1 * D = r1 := ⟨_, rfl⟩
    rw [hr1] at r1e
    obtain ⟨r1w, r1a, r1b⟩ := r1e
    have R1 := hid hr1
    clear hr1
    have m : Den r1 d1 d0 t0 := ⟨b1, by omega, b3, by omega, r1a, by rw [← ED.out]; exact r1b, b7, by omega⟩
    have s1 := dig_start m
    have c1 : 0 ≤ r1 / d1 := s1.1.q0
    have c2 : r1 / d1 ≤ 4294967297 := s1.1.q1
    have c3 : 0 ≤ r1 / d1 * d1 := Int.mul_nonneg c1 (by omega)
    have c4 : r1 / d1 * d1 ≤ r1 := by have := s1.1.r0; omega
    have S1 := hid s1
    clear s1
    go_upto_block 2 with (fail)
    clear r1w c1 c2 c3 c4 QV
    obtain ⟨Q0, hQ0⟩ : ∃ Q0, (r1 * 4294967296 + t0) / (d1 * 4294967296 + d0) = Q0 := ⟨_, rfl⟩
    have q0a := dig_quo0 m
    have q0b := dig_quo1 m
    rw [hQ0] at q0a q0b
    have HQ0 := hid hQ0
    clear hQ0
    have QV : Hid (Value.int IntKind.u64 ((r1 * 4294967296 + t0) / (d1 * 4294967296 + d0)) = Value.int IntKind.u64 Q0) := by unfold Hid; rw [HQ0.out]
    go_cut [18, 16] from 102 to 120 (fun a _ wc => a = .int .u64 Q0 ∧ w = wc)
    case first =>
      go_wp2_with fail
      go_loop [18, 16] (fun a b => ∃ q r : Int, a = .int .u64 q ∧ b = .int .u64 r ∧ Dig r1 d1 d0 t0 q r ∧ r < 4294967296) (fun a b => (4294967296 - intOf b).toNat)
      case atStart => exact ⟨_, _, rfl, rfl, S1.out.1, S1.out.2⟩
      case round =>
        obtain ⟨q, r, rfl, rfl, hdig, hr⟩ := hrel
        have e1 := hdig.q0
        have e2 := hdig.q1
        have e3 := hdig.r0
        by_cases hc : 4294967296 ≤ q ∨ 4294967296 * r + t0 < q * d0
        · obtain ⟨x1, x2, x3⟩ := dig_step m hdig hc
          have y0 := x1.q0
          by_cases hq : 4294967296 ≤ q
          · clear hc
            by_cases hb : 4294967296 ≤ r + d1
            · go_wp2_with fail
              go_meet
              case rel => exact ⟨by rw [← dig_break m x1 x3 hb]; exact QV.out, rfl⟩
            · go_wp2_with fail
              go_round
              case rel => exact ⟨q - 1, r + d1, rfl, rfl, x1, by omega⟩
              case measure => simp [intOf]; omega
          · have hc' : 4294967296 * r + t0 < q * d0 := by omega
            have z0 : 0 ≤ q * d0 := Int.mul_nonneg e1 b3
            have z1 : q * d0 ≤ 18446744073709551615 := by
              have := Int.mul_le_mul (show q ≤ 4294967295 by omega) b4 b3 (by decide)
              omega
            clear hc
            by_cases hb : 4294967296 ≤ r + d1
            · go_wp2_with fail
              go_meet
              case rel => exact ⟨by rw [← dig_break m x1 x3 hb]; exact QV.out, rfl⟩
            · go_wp2_with fail
              go_round
              case rel => exact ⟨q - 1, r + d1, rfl, rfl, x1, by omega⟩
              case measure => simp [intOf]; omega
        · have hc1 : ¬ 4294967296 ≤ q := by omega
          have hc2 : ¬ 4294967296 * r + t0 < q * d0 := by omega
          have z0 : 0 ≤ q * d0 := Int.mul_nonneg e1 b3
          have z1 : q * d0 ≤ 18446744073709551615 := by
            have := Int.mul_le_mul (show q ≤ 4294967295 by omega) b4 b3 (by decide)
            omega
          have hz := dig_le m hdig (by omega)
          have HZ := hid hz
          clear hc hz
          go_wp2_with fail
          go_meet
          case rel => exact ⟨by rw [← HZ.out]; exact QV.out, rfl⟩
    case rest =>
      obtain ⟨rfl, rfl⟩ := hcut
      go_wp2_with fail
      have fin := high_end hs1 (show 0 < y by omega) (show 0 < D by omega) F.out HU.out HT.out HD.out ED.out ET.out R1.out (rem_of m HQ0.out ED.out)
      go_ret2
      exact ⟨ret2 fin.1 fin.2, rfl⟩
theorem div64 (h l y : Int) (hl : U64 l) (hy : y ≤ 18446744073709551615) (h0 : 0 ≤ h) (h1 : h < y) (w : World) :
    Calls Tryz.prog 209 #[.int .u64 h, .int .u64 l, .int .u64 y] w fun e w' => e = .returned (.tuple #[.int .u64 ((h * 18446744073709551616 + l) / y), .int .u64 ((h * 18446744073709551616 + l) % y)]) ∧ ∃ n, w.drewN n = w' := by
  by_cases hz : h = 0
  · subst hz
    refine (div64_low l y hl ⟨by omega, hy⟩ (by omega) w).mono ?_
    rintro e w' ⟨rfl, rfl⟩
    exact ⟨by simp only [Int.zero_mul, Int.zero_add], 1, rfl⟩
  · refine (div64_high h l y hl hy (by omega) h1 w).mono ?_
    rintro e w' ⟨rfl, rfl⟩
    exact ⟨rfl, 0, rfl⟩
end Go.Proofs.YtecgbelgoomneaaGreat
/- The greatest level, a number's level, a level's number: by the program. -/
namespace Go.Proofs.YtecgbelgoomneaaGreat
open Go.RowKit
set_option maxHeartbeats 400000
set_option maxRecDepth 100000
set_option linter.unusedVariables false
theorem qp_Steps (wide : Int) (hw : I64 wide) (w : World) :
    Calls Tryz.prog 165 #[.int .i64 wide] w fun e w' => e = .returned (.tuple #[.int .u64 (stsV wide : Int), .int .i64 (stsE wide)]) ∧ w = w' := by
  by_cases h : stsE wide = 0
  · have hv : stsV wide = topQ wide := if_pos h
    rw [h, hv]
    have h1 := stsE_ok.1 h
    rcases topQ_cases h with ⟨rfl, e⟩ | ⟨rfl, e⟩ | ⟨rfl, e⟩ | ⟨rfl, e⟩ | ⟨rfl, e⟩ | ⟨rfl, e⟩ | ⟨rfl, e⟩ | ⟨rfl, e⟩
    all_goals (
      rw [e]
      clear e h hv h1 hw
      go_enter Tryz.func165, Tryz.ntmps165
      go_wp2_with fail
      go_ret2
      exact ⟨rfl, rfl⟩)
  · have hv : stsV wide = 0 := if_neg h
    have he : stsE wide = 1 := by unfold stsE at h ⊢; split at h <;> simp_all
    rw [he, hv]
    have h1 : wide < 1 ∨ (¬ wide < 1 ∧ wide > 8) := by have : ¬ (1 ≤ wide ∧ wide ≤ 8) := fun h2 => h (stsE_ok.2 h2); omega
    clear he hv h
    rcases h1 with h1 | ⟨h1, h2⟩
    all_goals (
      go_enter Tryz.func165, Tryz.ntmps165
      go_wp2_with fail
      go_ret2
      exact ⟨rfl, rfl⟩)
/-- The greatest level, where there may be such a scale. -/
def tpE (scale wide : Int) : Int := if scale < 0 ∨ stsE wide ≠ 0 then 1 else 0
def tpV (scale wide : Int) : Nat := if tpE scale wide = 0 then topQ wide else 0
theorem tpE_ok {scale wide : Int} : tpE scale wide = 0 ↔ 0 ≤ scale ∧ stsE wide = 0 := by
  unfold tpE
  by_cases h : scale < 0 ∨ stsE wide ≠ 0
  · rw [if_pos h]; omega
  · rw [if_neg h]; omega
theorem tpE_no {scale wide : Int} (h : ¬ tpE scale wide = 0) : tpE scale wide = 1 ∧ tpV scale wide = 0 := by
  refine ⟨?_, if_neg h⟩
  unfold tpE at h ⊢
  split at h <;> simp_all
theorem stsE_no {wide : Int} (h : ¬ stsE wide = 0) : stsE wide = 1 ∧ stsV wide = 0 := by
  refine ⟨?_, if_neg h⟩
  unfold stsE at h ⊢
  split at h <;> simp_all
theorem qp_topBy (scale wide : Int) (hs : I64 scale) (hw : I64 wide) (w : World) :
    Calls Tryz.prog 170 #[.int .i64 scale, .int .i64 wide] w fun e w' => e = .returned (.tuple #[.int .u64 (tpV scale wide : Int), .int .i64 (tpE scale wide)]) ∧ w = w' := by
  have C1 := hid (qp_Steps wide hw w)
  unfold I64 at hs
  by_cases h0 : scale < 0
  · obtain ⟨e1, e2⟩ := tpE_no (scale := scale) (wide := wide) (fun h => by have := tpE_ok.1 h; omega)
    rw [e1, e2]
    clear e1 e2 C1
    go_enter Tryz.func170, Tryz.ntmps170
    go_wp2_with fail
    go_ret2
    exact ⟨rfl, rfl⟩
  · have e : (tpV scale wide : Int) = (stsV wide : Int) ∧ tpE scale wide = stsE wide := by
      by_cases h1 : stsE wide = 0
      · have h2 := tpE_ok.2 ⟨show 0 ≤ scale by omega, h1⟩
        rw [h2, h1]
        refine ⟨?_, rfl⟩
        rw [show tpV scale wide = topQ wide from if_pos h2, show stsV wide = topQ wide from if_pos h1]
      · obtain ⟨a, b⟩ := tpE_no (scale := scale) (wide := wide) (fun h => h1 (tpE_ok.1 h).2)
        obtain ⟨c, d⟩ := stsE_no h1
        rw [a, b, c, d]
        exact ⟨rfl, rfl⟩
    rw [e.1, e.2]
    obtain ⟨V, hV⟩ : ∃ V, stsV wide = V := ⟨_, rfl⟩
    obtain ⟨E, hE⟩ : ∃ E, stsE wide = E := ⟨_, rfl⟩
    rw [hV, hE] at C1 ⊢
    clear e hV hE
    go_enter Tryz.func170, Tryz.ntmps170
    go_wp2_with fail
    refine C1.out.mono ?_
    rintro _ _ ⟨rfl, rfl⟩
    go_wp2_with fail
    go_ret2
    exact ⟨rfl, rfl⟩
theorem qp_share (p b h : Nat) (hb : b < 18446744073709551616) (hp : p ≤ h) (h0 : 0 < h) (hh : h < 18446744073709551616) (w : World) :
    Calls Tryz.prog 171 #[.int .u64 (p : Int), .int .u64 (b : Int), .int .u64 (h : Int)] w fun e w' => e = .returned (.tuple #[.int .u64 ((p * b / h : Nat) : Int), .int .u64 ((p * b % h : Nat) : Int)]) ∧ ∃ n, w' = w.drewN n := by
  have CM := hid (mul64 (p : Int) (b : Int) ⟨by omega, by omega⟩ ⟨by omega, by omega⟩ w)
  obtain ⟨q, hq⟩ : ∃ q, p * b = q := ⟨_, rfl⟩
  have hqi : (p : Int) * (b : Int) = (q : Int) := by rw [← hq]; simp
  have hq2 : q < h * 18446744073709551616 := by
    rw [← hq]
    exact Nat.lt_of_le_of_lt (Nat.mul_le_mul_right b hp) (Nat.mul_lt_mul_of_pos_left hb h0)
  rw [hqi] at CM
  rw [hq]
  obtain ⟨H, hH⟩ : ∃ H, q / 18446744073709551616 = H := ⟨_, rfl⟩
  obtain ⟨L, hL⟩ : ∃ L, q % 18446744073709551616 = L := ⟨_, rfl⟩
  have e1 : (q : Int) / 18446744073709551616 = (H : Int) := by omega
  have e2 : (q : Int) % 18446744073709551616 = (L : Int) := by omega
  rw [e1, e2] at CM
  have hHh : H < h := by omega
  have CD := hid (div64 (H : Int) (L : Int) (h : Int) ⟨by omega, by omega⟩ (by omega) (by omega) (by omega) w)
  have e3 : (H : Int) * 18446744073709551616 + (L : Int) = (q : Int) := by omega
  obtain ⟨D, hD⟩ : ∃ D, q / h = D := ⟨_, rfl⟩
  obtain ⟨R, hR⟩ : ∃ R, q % h = R := ⟨_, rfl⟩
  have e4 : (q : Int) / (h : Int) = (D : Int) := by rw [← hD]; simp
  have e5 : (q : Int) % (h : Int) = (R : Int) := by rw [← hR]; simp
  rw [e3, e4, e5] at CD
  rw [hD, hR]
  clear e1 e2 e3 e4 e5 hD hR hH hL hq hqi hq2 hb hp
  go_enter Tryz.func171, Tryz.ntmps171
  go_wp2_with fail
  refine CM.out.mono ?_
  rintro _ _ ⟨rfl, rfl⟩
  go_wp2_with fail
  refine CD.out.mono ?_
  rintro _ _ ⟨rfl, n, rfl⟩
  go_wp2_with fail
  go_ret2
  exact ⟨rfl, n, rfl⟩
theorem size_one (n : Int) : sizeE [n] = ckE (absI n) ∧ sizeV [n] = ckV (absI n) := by
  have e : tot (numA [n]) 1 = (ckV (absI n), ckE (absI n)) := by
    show (if (tot (numA [n]) 0).2 = 0 then (if (numA [n] 0).2 = 0 then (ckV ((tot (numA [n]) 0).1 + (numA [n] 0).1), ckE ((tot (numA [n]) 0).1 + (numA [n] 0).1)) else (0, (numA [n] 0).2)) else tot (numA [n]) 0) = _
    have e0 : tot (numA [n]) 0 = (0, 0) := rfl
    have e1 : numA [n] 0 = (ckV (absI n), ckE (absI n)) := rfl
    rw [e0, e1]
    simp only [Int.zero_add, if_true]
    by_cases h : I64 (absI n)
    · rw [ckE_in h, ckV_in h, ckV_in h, ckE_in h]
      simp
    · rw [ckE_out h, ckV_out h]
      simp
  have h1 : ¬ 4096 < [n].length := by simp
  exact ⟨by unfold sizeE; rw [if_neg h1]; show (tot (numA [n]) 1).2 = _; rw [e], by unfold sizeV; rw [if_neg h1]; show (tot (numA [n]) 1).1 = _; rw [e]⟩
/-- vec.Size of one number. -/
theorem size_any1 (n : Int) (hn : I64 n) (w : World) :
    Calls Tryz.prog 32 #[.slice (some ⟨w.heap.size, 0, none⟩) 1 1] (w.alloc (.cells #[.int .i64 n] 2)) fun e w' => e = .returned (.tuple #[.int .i64 (ckV (absI n)), .int .i64 (ckE (absI n))]) ∧ Below w.heap.size w w' := by
  have h := Size_any (A := some ⟨w.heap.size, 0, none⟩) (c := 1) [n] (by simp) (by intro x hx; simp at hx; rw [hx]; exact hn) (w.alloc (.cells #[.int .i64 n] 2)) (rd_new (enc := Value.int .i64) w 2 [n])
  rw [(size_one n).1, (size_one n).2] at h
  refine h.mono ?_
  rintro _ w1 ⟨rfl, hb⟩
  exact ⟨rfl, Below.trans (by go_grown) (hb.mono (by simp))⟩
theorem abs_sz (n : Int) : absI n = (szN n : Int) := by unfold absI szN; split <;> omega
theorem lvlE_no {n scale wide : Int} (h : ¬ lvlE n scale wide = 0) : lvlE n scale wide = 1 ∧ lvlL n scale wide = 0 ∧ lvlR n scale wide = 0 := by
  refine ⟨?_, if_neg h, if_neg h⟩
  unfold lvlE at h ⊢
  split at h <;> simp_all
set_option maxHeartbeats 1000000 in
theorem qp_Level (n scale wide : Int) (hn : I64 n) (hs : I64 scale) (hw : I64 wide) (w : World) :
    Calls Tryz.prog 206 #[.int .i64 n, .int .i64 scale, .int .i64 wide] w fun e w' => e = .returned (.tuple #[.int .u64 (lvlL n scale wide : Int), .int .u64 (lvlR n scale wide : Int), .int .i64 (lvlE n scale wide)]) ∧ Below w.heap.size w w' := by
  have C1 := hid (qp_topBy scale wide hs hw w)
  by_cases ht : tpE scale wide = 0
  · have C2 := hid (size_any1 n hn w)
    obtain ⟨h1, h2⟩ := tpE_ok.1 ht
    rw [ht, show tpV scale wide = topQ wide from if_pos ht] at C1
    obtain ⟨t1, t2⟩ := topQ_bd h2
    unfold I64 at hs
    by_cases hl : I64 (absI n)
    · rw [ckE_in hl, ckV_in hl, abs_sz] at C2
      rw [abs_sz] at hl
      unfold I64 at hl
      by_cases h : lvlE n scale wide = 0
      · obtain ⟨_, _, h3⟩ := lvlE_ok.1 h
        have e1 : lvlL n scale wide = szN n * topQ wide / scale.toNat := if_pos h
        have e2 : lvlR n scale wide = szN n * topQ wide % scale.toNat := if_pos h
        rw [h, e1, e2]
        obtain ⟨s, rfl⟩ := Int.eq_ofNat_of_zero_le h1
        rw [Int.toNat_natCast]
        obtain ⟨z, hz⟩ : ∃ z, szN n = z := ⟨_, rfl⟩
        obtain ⟨t, htt⟩ : ∃ t, topQ wide = t := ⟨_, rfl⟩
        rw [hz] at C2 h3 hl ⊢
        rw [htt] at C1 t1 t2 ⊢
        clear e1 e2 h h2 hz htt ht
        by_cases h0 : s = 0
        · subst h0
          obtain rfl : z = 0 := by omega
          rw [show 0 * t / 0 = 0 by simp, show 0 * t % 0 = 0 by simp]
          go_enter Tryz.func206, Tryz.ntmps206
          go_wp2_with fail
          refine C1.out.mono ?_
          rintro _ _ ⟨rfl, rfl⟩
          go_wp2_with fail
          refine C2.out.mono ?_
          rintro _ w1 ⟨rfl, hb⟩
          go_wp2_with fail
          go_ret3
          exact ⟨rfl, hb⟩
        · have CS := hid (fun W => qp_share z t s (by omega) (by omega) (by omega) (by omega) W)
          obtain ⟨D, hD⟩ : ∃ D, z * t / s = D := ⟨_, rfl⟩
          obtain ⟨R, hR⟩ : ∃ R, z * t % s = R := ⟨_, rfl⟩
          rw [hD, hR] at CS ⊢
          have n1 : ((s : Int) == 0) = false := beq_eq_false_iff_ne.2 (by omega)
          have n2 : ¬ (z : Int) > (s : Int) := by omega
          clear hD hR
          go_enter Tryz.func206, Tryz.ntmps206
          go_wp2_with fail
          refine C1.out.mono ?_
          rintro _ _ ⟨rfl, rfl⟩
          go_wp2_with fail
          refine C2.out.mono ?_
          rintro _ w1 ⟨rfl, hb⟩
          go_wp2_with fail
          refine (CS.out _).mono ?_
          rintro _ _ ⟨rfl, k, rfl⟩
          go_wp2_with fail
          go_ret3
          exact ⟨rfl, hb.trans (belowN _ _ _)⟩
      · obtain ⟨e1, e2, e3⟩ := lvlE_no h
        have h3 : (szN n : Int) > scale := by
          have : ¬ (stsE wide = 0 ∧ 0 ≤ scale ∧ (szN n : Int) ≤ scale) := fun h5 => h (lvlE_ok.2 h5)
          omega
        rw [e1, e2, e3]
        obtain ⟨z, hz⟩ : ∃ z, szN n = z := ⟨_, rfl⟩
        obtain ⟨t, htt⟩ : ∃ t, topQ wide = t := ⟨_, rfl⟩
        rw [hz] at C2 h3 hl
        rw [htt] at C1 t1 t2
        clear e1 e2 e3 h h2 hz htt ht
        go_enter Tryz.func206, Tryz.ntmps206
        go_wp2_with fail
        refine C1.out.mono ?_
        rintro _ _ ⟨rfl, rfl⟩
        go_wp2_with fail
        refine C2.out.mono ?_
        rintro _ w1 ⟨rfl, hb⟩
        go_wp2_with fail
        go_ret3
        exact ⟨rfl, hb⟩
    · rw [ckE_out hl, ckV_out hl] at C2
      obtain ⟨e1, e2, e3⟩ := lvlE_no (n := n) (scale := scale) (wide := wide) (fun h => by
        have h5 := (lvlE_ok.1 h).2.2
        rw [abs_sz] at hl
        unfold I64 at hl
        omega)
      rw [e1, e2, e3]
      obtain ⟨t, htt⟩ : ∃ t, topQ wide = t := ⟨_, rfl⟩
      rw [htt] at C1 t1 t2
      clear e1 e2 e3 h2 htt ht hl
      go_enter Tryz.func206, Tryz.ntmps206
      go_wp2_with fail
      refine C1.out.mono ?_
      rintro _ _ ⟨rfl, rfl⟩
      go_wp2_with fail
      refine C2.out.mono ?_
      rintro _ w1 ⟨rfl, hb⟩
      go_wp2_with fail
      go_ret3
      exact ⟨rfl, hb⟩
  · obtain ⟨a, b⟩ := tpE_no ht
    rw [a, b] at C1
    obtain ⟨e1, e2, e3⟩ := lvlE_no (n := n) (scale := scale) (wide := wide) (fun h => by
      have h5 := lvlE_ok.1 h
      exact ht (tpE_ok.2 ⟨h5.2.1, h5.1⟩))
    rw [e1, e2, e3]
    clear e1 e2 e3 a b ht
    go_enter Tryz.func206, Tryz.ntmps206
    go_wp2_with fail
    refine C1.out.mono ?_
    rintro _ _ ⟨rfl, rfl⟩
    go_wp2_with fail
    go_ret3
    exact ⟨rfl, Below.refl _ _⟩
theorem qp_levelOf (n scale wide : Int) (hn : I64 n) (hs : I64 scale) (hw : I64 wide) (w : World) :
    Calls Tryz.prog 168 #[.int .i64 n, .int .i64 scale, .int .i64 wide] w fun e w' => e = .returned (.tuple #[.int .u64 (lvlL n scale wide : Int), .int .u64 (lvlR n scale wide : Int)]) ∧ Below w.heap.size w w' := by
  have C1 := hid (qp_Level n scale wide hn hs hw w)
  obtain ⟨l, hl⟩ : ∃ l, lvlL n scale wide = l := ⟨_, rfl⟩
  obtain ⟨r, hr⟩ : ∃ r, lvlR n scale wide = r := ⟨_, rfl⟩
  obtain ⟨e, he⟩ : ∃ e, lvlE n scale wide = e := ⟨_, rfl⟩
  rw [hl, hr, he] at C1
  rw [hl, hr]
  clear hl hr he
  go_enter Tryz.func168, Tryz.ntmps168
  go_wp2_with fail
  refine C1.out.mono ?_
  rintro _ w1 ⟨rfl, hb⟩
  go_wp2_with fail
  go_ret2
  exact ⟨rfl, hb⟩
theorem valE_no {level : Nat} {scale wide : Int} (h : ¬ valE level scale wide = 0) : valE level scale wide = 1 ∧ valV level scale wide = 0 := by
  refine ⟨?_, if_neg h⟩
  unfold valE at h ⊢
  split at h <;> simp_all
theorem qp_Value (level : Nat) (scale wide : Int) (hl : level < 18446744073709551616) (hs : I64 scale) (hw : I64 wide) (w : World) :
    Calls Tryz.prog 123 #[.int .u64 (level : Int), .int .i64 scale, .int .i64 wide] w fun e w' => e = .returned (.tuple #[.int .i64 (valV level scale wide : Int), .int .i64 (valE level scale wide)]) ∧ ∃ n, w' = w.drewN n := by
  have C1 := hid (qp_topBy scale wide hs hw w)
  by_cases ht : tpE scale wide = 0
  · obtain ⟨h1, h2⟩ := tpE_ok.1 ht
    rw [ht, show tpV scale wide = topQ wide from if_pos ht] at C1
    obtain ⟨t1, t2⟩ := topQ_bd h2
    unfold I64 at hs
    by_cases h : valE level scale wide = 0
    · obtain ⟨_, _, h3⟩ := valE_ok.1 h
      have e1 : valV level scale wide = level * scale.toNat / topQ wide := if_pos h
      rw [h, e1]
      obtain ⟨s, rfl⟩ := Int.eq_ofNat_of_zero_le h1
      rw [Int.toNat_natCast]
      have hle := vlQ_le (s := s) h3
      unfold vlQ at hle
      obtain ⟨t, htt⟩ : ∃ t, topQ wide = t := ⟨_, rfl⟩
      rw [htt] at C1 t1 t2 h3 hle ⊢
      clear e1 h h2 htt ht
      have CS := hid (fun W => qp_share level s t (by omega) (by omega) (by omega) (by omega) W)
      obtain ⟨D, hD⟩ : ∃ D, level * s / t = D := ⟨_, rfl⟩
      obtain ⟨R, hR⟩ : ∃ R, level * s % t = R := ⟨_, rfl⟩
      rw [hD, hR] at CS
      rw [hD] at hle ⊢
      have n2 : ¬ (level : Int) > (t : Int) := by omega
      clear hD hR
      go_enter Tryz.func123, Tryz.ntmps123
      go_wp2_with fail
      refine C1.out.mono ?_
      rintro _ _ ⟨rfl, rfl⟩
      go_wp2_with fail
      refine (CS.out _).mono ?_
      rintro _ _ ⟨rfl, k, rfl⟩
      go_wp2_with fail
      go_ret2
      exact ⟨by go_num, k, rfl⟩
    · obtain ⟨e1, e2⟩ := valE_no h
      have h3 : (level : Int) > (topQ wide : Int) := by
        have : ¬ (stsE wide = 0 ∧ 0 ≤ scale ∧ level ≤ topQ wide) := fun h5 => h (valE_ok.2 h5)
        omega
      rw [e1, e2]
      obtain ⟨t, htt⟩ : ∃ t, topQ wide = t := ⟨_, rfl⟩
      rw [htt] at C1 t1 t2 h3
      clear e1 e2 h h2 htt ht
      go_enter Tryz.func123, Tryz.ntmps123
      go_wp2_with fail
      refine C1.out.mono ?_
      rintro _ _ ⟨rfl, rfl⟩
      go_wp2_with fail
      go_ret2
      exact ⟨rfl, 0, rfl⟩
  · obtain ⟨a, b⟩ := tpE_no ht
    rw [a, b] at C1
    obtain ⟨e1, e2⟩ := valE_no (level := level) (scale := scale) (wide := wide) (fun h => by
      have h5 := valE_ok.1 h
      exact ht (tpE_ok.2 ⟨h5.2.1, h5.1⟩))
    rw [e1, e2]
    clear e1 e2 a b ht
    go_enter Tryz.func123, Tryz.ntmps123
    go_wp2_with fail
    refine C1.out.mono ?_
    rintro _ _ ⟨rfl, rfl⟩
    go_wp2_with fail
    go_ret2
    exact ⟨rfl, 0, rfl⟩
end Go.Proofs.YtecgbelgoomneaaGreat
/- Orders, by the program. -/
namespace Go.Proofs.YtecgbelgoomneaaGreat
open Go.RowKit
set_option maxHeartbeats 400000
set_option maxRecDepth 100000
set_option linter.unusedVariables false
theorem Clone_ints {A : Option Addr} {c : Nat} (xs : List Int) (hx : xs.length ≤ 4096) (w : World) {B : Nat} (ra : Rd (Value.int .i64) w B A xs) :
    Calls Tryz.prog 203 #[.slice A xs.length c] w (OwnOf 3 .i64 w.heap.size xs w) := by
  rcases A with _ | ad
  · have hxs : xs = [] := by
      cases xs with
      | nil => rfl
      | cons x xs =>
        obtain ⟨_, _, he, _⟩ := ra 0 x rfl
        cases he
    subst hxs
    refine (Tryz.slices_Clone_int_nil 0 c w).mono ?_
    rintro _ _ ⟨rfl, rfl⟩
    exact ⟨none, 0, rfl, own_nil _ _ _, Below.refl _ _⟩
  · cases xs with
    | nil =>
      refine (Tryz.slices_Clone_int_zero ad c w).mono ?_
      rintro _ _ ⟨v, rfl, ho, _, hb⟩
      obtain ⟨A', c', rfl⟩ := own_shape ho
      exact ⟨A', c', rfl, ho, hb⟩
    | cons x xs =>
      obtain ⟨b, off, ha, _, _⟩ := ra 0 x rfl
      injection ha with ha
      subst ha
      refine (Tryz.slices_Clone_int b off (x :: xs).length c (x :: xs) w (Nat.le_refl _) (by omega) (fun i hi => ?_)).mono ?_
      · obtain ⟨b', off', y, ha, _, hy, hc⟩ := ra.at_ hi
        injection ha with ha
        injection ha with h1 h2 h3
        subst h1 h2
        rw [hc]
        simp [List.getD, hy]
      · rintro _ _ ⟨v, rfl, ho, _, hb⟩
        obtain ⟨A', c', rfl⟩ := own_shape ho
        rw [List.take_of_length_le (Nat.le_refl _)] at ho
        exact ⟨A', c', rfl, ho, hb⟩
end Go.Proofs.YtecgbelgoomneaaGreat
/- Up or down by chance, by the program: the closure and what it keeps. -/
namespace Go.Proofs.YtecgbelgoomneaaGreat
open Go.RowKit
set_option maxHeartbeats 1000000
set_option maxRecDepth 100000
set_option linter.unusedVariables false
theorem row_below {w w' : World} {b B n : Nat} {t : TypeId} {f : Nat → Value} (h : w.rowIs b t n f) (hb : Below B w w') (hB : b < B) : w'.rowIs b t n f := h.of_block (hb.block b hB)
/-- What the closure keeps: the scale, the seed, the numbers, and a list of its own with room for a place behind them. -/
def ChK (w : World) (q g b c9 : Nat) (M s : Nat) (B : Option Addr) (d : Nat) (n : List Int) : Prop :=
  q + 3 ≤ g ∧ g < b ∧ b < w.heap.size ∧ w.cell? ⟨q, 0, none⟩ = some (.int .u64 (M : Int)) ∧ w.cell? ⟨q + 1, 0, none⟩ = some (.int .u64 (s : Int)) ∧
  w.cell? ⟨q + 2, 0, none⟩ = some (.slice B n.length d) ∧ w.cell? ⟨b, 0, none⟩ = some (.slice (some ⟨g, 0, none⟩) (n.length + 1) c9) ∧
  ∃ x : Int, w.ownsRow (q + 3) 3 1 (.slice (some ⟨g, 0, none⟩) (n.length + 1) c9) (n.length + 1) ((n ++ [x]).map (Value.int .i64))
theorem ChK.below {w w' : World} {q g b c9 M s d L : Nat} {B : Option Addr} {n : List Int} (h : ChK w q g b c9 M s B d n) (hb : Below L w w') (hL : b < L) (hLw : L ≤ w.heap.size) : ChK w' q g b c9 M s B d n := by
  obtain ⟨h1, h2, h3, e1, e2, e3, e4, x, ho⟩ := h
  refine ⟨h1, h2, Nat.lt_of_lt_of_le h3 hb.size, ?_, ?_, ?_, ?_, x, ?_⟩
  · rw [hb.cell (p := ⟨q, 0, none⟩) (by show q < L; omega)]; exact e1
  · rw [hb.cell (p := ⟨q + 1, 0, none⟩) (by show q + 1 < L; omega)]; exact e2
  · rw [hb.cell (p := ⟨q + 2, 0, none⟩) (by show q + 2 < L; omega)]; exact e3
  · rw [hb.cell (p := ⟨b, 0, none⟩) (by show b < L; omega)]; exact e4
  · refine ⟨ho.1, ?_⟩
    rcases ho.2 with ⟨h', _⟩ | ⟨g', cap', cur, h', hg, hc, r⟩
    · simp at h'
    · refine .inr ⟨g', cap', cur, h', hg, ?_, r⟩
      simp only [Value.slice.injEq, Option.some.injEq, Addr.mk.injEq, and_true, true_and] at h'
      rw [hb.block g' (by omega)]
      exact hc
theorem ChK.set {w : World} {q g b c9 M s d : Nat} {B : Option Addr} {n : List Int} (h : ChK w q g b c9 M s B d n) {p : Addr} (hp : p.block < q) (u : Value) : ChK (w.setCell p u) q g b c9 M s B d n := by
  obtain ⟨h1, h2, h3, e1, e2, e3, e4, x, ho⟩ := h
  have hc : ∀ a : Addr, p.block ≠ a.block → (w.setCell p u).cell? a = w.cell? a := fun a ha => by
    unfold World.cell?
    rw [heap_setCell_other _ _ _ _ (fun e => ha e.symm)]
  refine ⟨h1, h2, by simpa using h3, ?_, ?_, ?_, ?_, x, own_set ho (by omega) u⟩
  · rw [hc _ (by show p.block ≠ q; omega)]; exact e1
  · rw [hc _ (by show p.block ≠ q + 1; omega)]; exact e2
  · rw [hc _ (by show p.block ≠ q + 2; omega)]; exact e3
  · rw [hc _ (by show p.block ≠ b; omega)]; exact e4
theorem chance_cl {q g b c9 M s d : Nat} {B : Option Addr} {n : List Int} (i r : Nat) (hi : i ≤ 100000) (hr : r < 2 ^ 64) (hM : M < 2 ^ 64) (hs : s < 2 ^ 64) (un : ∀ x ∈ n, I64 x) (hn : n.length ≤ 1000) (w : World) (K : ChK w q g b c9 M s B d n) :
    Calls Tryz.prog 204 (#[.int .i64 (i : Int), .int .u64 (r : Int)] ++ #[.pointer (some ⟨b, 0, none⟩), .pointer (some ⟨q + 2, 0, none⟩), .pointer (some ⟨q, 0, none⟩), .pointer (some ⟨q + 1, 0, none⟩)]) w fun e w' => e = .returned (.bool (chaB r M s (n ++ [(i : Int)]))) ∧ ChK w' q g b c9 M s B d n ∧ Below q w w' := by
  obtain ⟨h1, h2, h3, e1, e2, e3, e4, x, ho⟩ := K
  have hlen : (n ++ [x]).length = n.length + 1 := by simp
  have c1 : ∃ v, w.cell? ⟨g, n.length, none⟩ = some v := ⟨.int .i64 x, by rw [ho.cellAt n.length (by omega)]; simp⟩
  obtain ⟨v0, c1⟩ := c1
  have f1 := ho.frozenAt n.length
  have hst := ho.stored n.length (.int .i64 (i : Int))
  rw [show ((n ++ [x]).map (Value.int .i64)).set n.length (.int .i64 (i : Int)) = (n ++ [(i : Int)]).map (Value.int .i64) by simp] at hst
  obtain ⟨W, hW⟩ : ∃ W, w.setCell ⟨g, n.length, none⟩ (.int .i64 (i : Int)) = W := ⟨_, rfl⟩
  have hc : ∀ a : Addr, g ≠ a.block → W.cell? a = w.cell? a := fun a ha => by
    rw [← hW]
    unfold World.cell?
    rw [heap_setCell_other _ _ _ _ (fun e => ha e.symm)]
  have hsz : W.heap.size = w.heap.size := by rw [← hW]; simp
  have E1 : W.cell? ⟨q, 0, none⟩ = some (.int .u64 (M : Int)) := by rw [hc _ (by show g ≠ q; omega)]; exact e1
  have E2 : W.cell? ⟨q + 1, 0, none⟩ = some (.int .u64 (s : Int)) := by rw [hc _ (by show g ≠ q + 1; omega)]; exact e2
  have E3 : W.cell? ⟨q + 2, 0, none⟩ = some (.slice B n.length d) := by rw [hc _ (by show g ≠ q + 2; omega)]; exact e3
  have E4 : W.cell? ⟨b, 0, none⟩ = some (.slice (some ⟨g, 0, none⟩) (n.length + 1) c9) := by rw [hc _ (by show g ≠ b; omega)]; exact e4
  rw [hW] at hst
  have KW : Hid (ChK W q g b c9 M s B d n) := hid ⟨h1, h2, by omega, E1, E2, E3, E4, (i : Int), hst.1⟩
  have HBW : Hid (Below q w W) := hid (by rw [← hW]; exact (Below.refl q w).setCell (by show q ≤ g; omega) _)
  have hl2 : (n ++ [(i : Int)]).length = n.length + 1 := by simp
  have hrd := own_rd (show W.ownsRow (q + 3) 3 1 (.slice (some ⟨g, 0, none⟩) (n ++ [(i : Int)]).length c9) (n ++ [(i : Int)]).length ((n ++ [(i : Int)]).map (Value.int .i64)) by rw [hl2]; exact hst.1)
  have CC := hid (dr_Chance (A := some ⟨g, 0, none⟩) (c := c9) r M s hr hM hs (n ++ [(i : Int)]) (by simp; omega) (by
    intro y hy
    rcases List.mem_append.1 hy with hy | hy
    · exact un y hy
    · simp at hy; subst hy; unfold I64; omega) W hrd)
  rw [show (n ++ [(i : Int)]).length = n.length + 1 by simp] at CC
  obtain ⟨X, hX⟩ : ∃ X, chaB r M s (n ++ [(i : Int)]) = X := ⟨_, rfl⟩
  obtain ⟨Y, hY⟩ : ∃ Y, chaE r M = Y := ⟨_, rfl⟩
  rw [hX, hY] at CC
  rw [hX]
  obtain ⟨m, hm⟩ : ∃ m, n.length = m := ⟨_, rfl⟩
  rw [hm] at e3 e4 E3 E4 CC c1 f1 hW hn
  clear ho hst hrd hc hlen hl2 hsz hX hY un hm
  go_enter Tryz.func204, Tryz.ntmps204
  go_wp2_with fail
  refine CC.out.mono ?_
  rintro _ _ ⟨rfl, rfl⟩
  go_wp2_with fail
  go_ret
  exact ⟨rfl, KW.out, HBW.out⟩
theorem qp_chance {B : Option Addr} {d : Nat} (M s : Nat) (n : List Int) (hn : n.length ≤ 1000) (w : World) (rb : Rd (Value.int .i64) w w.heap.size B n) :
    Calls Tryz.prog 167 #[.int .u64 (M : Int), .int .u64 (s : Int), .slice B n.length d] w fun e w' => ∃ g b c9, e = .returned (.func (.func 204) #[] #[.pointer (some ⟨b, 0, none⟩), .pointer (some ⟨w.heap.size + 2, 0, none⟩), .pointer (some ⟨w.heap.size, 0, none⟩), .pointer (some ⟨w.heap.size + 1, 0, none⟩)]) ∧ ChK w' w.heap.size g b c9 M s B d n ∧ Below w.heap.size w w' := by
  obtain ⟨w3, hw3⟩ : ∃ w3, ((w.alloc (.cells #[.int .u64 (M : Int)] 25)).alloc (.cells #[.int .u64 (s : Int)] 25)).alloc (.cells #[.slice B n.length d] 26) = w3 := ⟨_, rfl⟩
  have T := three_cells w (.int .u64 (M : Int)) (.int .u64 (s : Int)) (.slice B n.length d) 25 25 26
  rw [hw3] at T
  obtain ⟨t1, t2, t3, tb⟩ := T
  have hsz : w3.heap.size = w.heap.size + 3 := by rw [← hw3]; simp
  have CC := hid (Clone_ints (c := d) n (by omega) w3 (rb.below tb))
  have HT := hid (show w3.cell? ⟨w.heap.size, 0, none⟩ = some (.int .u64 (M : Int)) ∧ w3.cell? ⟨w.heap.size + 1, 0, none⟩ = some (.int .u64 (s : Int)) ∧ w3.cell? ⟨w.heap.size + 2, 0, none⟩ = some (.slice B n.length d) ∧ Below w.heap.size w w3 from ⟨t1, t2, t3, tb⟩)
  have HSZ := hid hsz
  clear t1 t2 tb rb hsz
  go_enter Tryz.func167, Tryz.ntmps167
  go_wp2_with fail
  refine CC.out.mono ?_
  rintro _ w4 ⟨A4, c4, rfl, ho4, hb4⟩
  have g5 : Below w4.heap.size w4 (w4.alloc (.cells #[.int .i64 0] 3)) := (Below.refl _ _).alloc (Nat.le_refl _) _
  have ho4a := own_on ho4 g5
  have rm : Rd (Value.int .i64) (w4.alloc (.cells #[.int .i64 0] 3)) _ (some ⟨w4.heap.size, 0, none⟩) [0] := rd_one (one_cell w4 (.int .i64 0) 3).1
  have hz4 := hb4.size
  have hz5 := g5.size
  have hb4a := hb4.trans (g5.mono hz4)
  clear ho4 g5 hb4 CC
  go_wp2_with (at_builtin; refine wpList_app (Value.int .i64) (fun _ => rfl) _ rfl _ _ 26 rfl w3.heap.size 3 (.int .i64 0) 8 Tryz.underlying26 info_int rfl n A4 c4 rfl ho4a [0] (some ⟨w4.heap.size, 0, none⟩) 1 _ rfl rm (by simp [maxLen]; omega) (by simp; omega) (by omega) ?_)
  rintro Q A9 c9 w5 hQ ho5 hb5 _
  have hl : Q.length = n.length + 1 := by rw [hQ]; simp
  have hk5 := hb4a.trans hb5
  obtain ⟨g, rfl, hg1, _, _⟩ := own_cellk ho5 (k := 0) (by omega)
  have hg2 := (ho5.lt g rfl).2
  rw [hl, hQ] at ho5
  rw [hl]
  have HK := hid hk5
  have HO := hid ho5
  have hs5 := hk5.size
  clear hQ hb5 hk5 ho5 rm ho4a hb4a
  go_wp2_with fail
  go_ret
  have hsz := HSZ.out
  have hk6 := HT.out.2.2.2.trans ((HK.out.mono (by omega)).alloc (show w.heap.size ≤ w5.heap.size by omega) (.cells #[.slice (some ⟨g, 0, none⟩) (n.length + 1) c9] 26))
  have hk7 := HK.out.trans ((Below.refl w3.heap.size w5).alloc hs5 (.cells #[.slice (some ⟨g, 0, none⟩) (n.length + 1) c9] 26))
  have e1 := HT.out.1
  have e2 := HT.out.2.1
  have e3 := HT.out.2.2.1
  refine ⟨g, w5.heap.size, c9, rfl, ⟨by omega, hg2, by simp, ?_, ?_, ?_, (one_cell w5 _ _).1, 0, ?_⟩, hk6⟩
  · rw [hk7.cell (p := ⟨w.heap.size, 0, none⟩) (by show w.heap.size < _; omega)]; exact e1
  · rw [hk7.cell (p := ⟨w.heap.size + 1, 0, none⟩) (by show w.heap.size + 1 < _; omega)]; exact e2
  · rw [hk7.cell (p := ⟨w.heap.size + 2, 0, none⟩) (by show w.heap.size + 2 < _; omega)]; exact e3
  · rw [hsz] at HO
    exact own_on HO.out ((Below.refl _ _).alloc (Nat.le_refl _) _)
end Go.Proofs.YtecgbelgoomneaaGreat
/- Votes of signs, and how many turn. Plain mathematics. No program in sight. -/
/- Lists of lists of bools in memory, by their slices. -/
namespace Go.Proofs.YtecgbelgoomneaaGreat
open Go.RowKit
set_option maxRecDepth 100000
set_option linter.unusedVariables false
/-- A slice of slices at A reads as these lists of bools. -/
def RdBs (w : World) (B : Nat) (A : Option Addr) (rows : List (List Bool)) : Prop :=
  ∀ k xs, rows[k]? = some xs → ∃ b off A' c', A = some ⟨b, off, none⟩ ∧ b < B ∧ w.cell? ⟨b, off + k, none⟩ = some (.slice A' xs.length c') ∧ Rd Value.bool w B A' xs
theorem RdBs.below {w w' : World} {B : Nat} {A : Option Addr} {rows : List (List Bool)} (h : RdBs w B A rows) (hb : Below B w w') : RdBs w' B A rows := fun k xs hx => by
  obtain ⟨b, off, A', c', e, hl, hc, hr⟩ := h k xs hx
  exact ⟨b, off, A', c', e, hl, (hb.cell (p := ⟨b, off + k, none⟩) hl).trans hc, hr.below hb⟩
theorem RdBs.more {w : World} {B B' : Nat} {A : Option Addr} {rows : List (List Bool)} (h : RdBs w B A rows) (hB : B ≤ B') : RdBs w B' A rows := fun k xs hx => by
  obtain ⟨b, off, A', c', e, hl, hc, hr⟩ := h k xs hx
  exact ⟨b, off, A', c', e, by omega, hc, hr.more hB⟩
theorem RdBs.on {w w' : World} {A : Option Addr} {rows : List (List Bool)} (h : RdBs w w.heap.size A rows) (hb : Below w.heap.size w w') : RdBs w' w'.heap.size A rows := (h.below hb).more hb.size
theorem RdBs.nil (w : World) (B : Nat) (A : Option Addr) : RdBs w B A [] := fun k xs hx => by simp at hx
/-- One at hand, in a round. -/
theorem RdBs.at_ {w : World} {B : Nat} {A : Option Addr} {rows : List (List Bool)} (h : RdBs w B A rows) {k : Nat} (hk : k < rows.length) :
    ∃ b off A' c' xs, A = some ⟨b, off, none⟩ ∧ b < B ∧ rows[k]? = some xs ∧ w.cell? ⟨b, off + k, none⟩ = some (.slice A' xs.length c') ∧ Rd Value.bool w B A' xs := by
  have hx : rows[k]? = some rows[k] := List.getElem?_eq_getElem hk
  obtain ⟨b, off, A', c', e, hl, hc, hr⟩ := h k _ hx
  exact ⟨b, off, A', c', _, e, hl, hx, hc, hr⟩
end Go.Proofs.YtecgbelgoomneaaGreat
/- Whether lists of signs fit; what most say; at how many places two differ: by the document. -/
/- A region that draws, walked once. -/
namespace Go.Proofs.YtecgbelgoomneaaGreat
open Go.RowKit
set_option maxRecDepth 100000
set_option linter.unusedVariables false
/-- A region that draws, walked once, in a class of worlds of one's own. -/
theorem region_in {P : Program} {C : World → Prop} {id : Nat} {Q : Exit → Act → World → Prop} {a : Act} {w : World} {l : List Oper} (hm : P.follows .mixedOrders = true) (hB : Region.lexB .any l.toArray = true) (hC : C w.drew)
    (h : wpQuiet P l.toArray C (fun a' => ∀ w', C w' → Q .normal a' w') l a) : (Code.region id l.toArray true).wp P Q a w :=
  wp_region_quiet hm hB hC (by simpa using h)
end Go.Proofs.YtecgbelgoomneaaGreat
/- Sums: a register halved, a byte taken in, by the program and by the document. -/
/- A text with one bit turned, by the program and by the document. -/
/- A text's sum in bytes; a text and its sum. -/
namespace Go.Proofs.YtecgbelgoomneaaGreat
open Go.RowKit
set_option maxHeartbeats 400000
set_option maxRecDepth 100000
set_option linter.unusedVariables false
/-- The first k bytes of a sum, the others 0. -/
def tl (s k j : Nat) : Int := if j < k then ((s / 2 ^ (8 * j) % 256 : Nat) : Int) else 0
theorem tl_old {s k j : Nat} (h : j ≠ k) : tl s (k + 1) j = tl s k j := by
  unfold tl
  by_cases h1 : j < k
  · rw [if_pos h1, if_pos (by omega)]
  · rw [if_neg h1, if_neg (by omega)]
/-- Four bytes in a block. -/
def Four (w : World) (g : Nat) (f : Nat → Int) : Prop := ∀ j, j < 4 → w.cell? ⟨g, j, none⟩ = some (.int .u8 (f j)) ∧ w.frozen? ⟨g, j, none⟩ = false
theorem Four.below {w w' : World} {g B : Nat} {f : Nat → Int} (h : Four w g f) (hb : Below B w w') (hg : g < B) : Four w' g f := fun j hj =>
  ⟨(hb.cell (p := ⟨g, j, none⟩) hg).trans (h j hj).1, (hb.frozen (p := ⟨g, j, none⟩) hg).trans (h j hj).2⟩
theorem Four.other {w : World} {g : Nat} {f : Nat → Int} (h : Four w g f) {p : Addr} (hp : p.block ≠ g) (v : Value) : Four (w.setCell p v) g f := fun j hj => by
  refine ⟨?_, ?_⟩
  · rw [World.cell?_setCell_other _ _ _ _ (by rintro rfl; exact hp rfl)]
    exact (h j hj).1
  · rw [World.frozen?_setCell]
    exact (h j hj).2
theorem Four.set {w : World} {g k s : Nat} (h : Four w g (tl s k)) (hk : k < 4) {u : Value} (hc : w.cell? ⟨g, k, none⟩ = some u) : Four (w.setCell ⟨g, k, none⟩ (.int .u8 (tl s (k + 1) k))) g (tl s (k + 1)) := fun j hj => by
  refine ⟨?_, ?_⟩
  · by_cases e : j = k
    · subst e
      exact World.cell?_setCell_same _ _ _ hc
    · rw [World.cell?_setCell_other _ _ _ _ (by intro e'; injection e' with e1 e2; exact e e2.symm), tl_old e]
      exact (h j hj).1
  · rw [World.frozen?_setCell]
    exact (h j hj).2
/-- Room made ahead for so many bytes. -/
theorem grow_nil (n : Nat) (hn : n ≤ 3000000) (w : World) :
    Calls Tryz.prog 152 #[.slice none 0 0, .int .i64 (n : Int)] w fun e w' => ∃ A c, e = .returned (.slice A 0 c) ∧ w'.ownsRow w.heap.size 5 1 (.slice A 0 c) 0 [] ∧ Below w.heap.size w w' := by
  by_cases h0 : n = 0
  · subst h0
    go_enter Tryz.func152, Tryz.ntmps152
    go_wp2_with fail
    go_ret
    exact ⟨none, 0, rfl, own_nil _ _ _, Below.refl _ _⟩
  · obtain ⟨i, hi, hzz⟩ := Option.map_eq_some_iff.1 info_u8
    simp only [Prod.mk.injEq] at hzz
    obtain ⟨hz, hs, hb⟩ := hzz
    have hold : (Builtin.firstCells i.size 0 (.slice none 0 0)).run Tryz.prog w.drew = .ok (#[] : Array Value) w.drew := run_firstCells_none w.drew i.size 0 0 0
    have hrz : ∀ ty, (Builtin.append_ #[50, 3] ty #[.slice none 0 0, .int .i64 (n : Int)]).run Tryz.prog w =
        .ok (.slice (some ⟨w.heap.size, 0, none⟩) n (grownCap w n 0 5)) (w.drew.alloc (.cells (#[] ++ Builtin.zeroCells #[.int .u8 0] n ++ Builtin.zeroCells #[.int .u8 0] (grownCap w n 0 5 - n)) 5)) := fun ty => by
      have h := Lib.run_append_grow_zeros w 50 3 ty 5 i (.int .u8 0) .i64 .i64 Tryz.underlying50 Tryz.underlying3 hi hz none 0 0 [] hold n (by omega) (by omega) (by omega) (by omega) (by rw [hb]; omega) (by rw [Nat.zero_add]; exact growslice_fits (by omega) (by rw [hb]; omega))
      rw [Nat.zero_add] at h
      exact h
    have hGn : n ≤ grownCap w n 0 5 := grownCap_ge w _ _ _
    have hGm := grownCap_le_maxLen w n 0 5 (by unfold maxLen; omega)
    obtain ⟨G, hG⟩ : ∃ G, G = grownCap w n 0 5 := ⟨_, rfl⟩
    rw [← hG] at hrz hGn hGm
    have hG63 : G ≤ 9223372036854775807 := by unfold maxLen at hGm; omega
    clear hold hG
    have hn0 : 0 < n := by omega
    have HM := hid hGm
    clear hGm h0
    go_enter Tryz.func152, Tryz.ntmps152
    go_wp2_with (at_builtin; refine Lib.wpList_append_run _ rfl _ _ _ _ rfl _ _ rfl rfl _ _ (hrz _) ?_)
    go_ret
    exact ⟨_, _, rfl, World.ownsRow_made _ _ G (Nat.le_refl _) HM.out (by simp [Builtin.zeroCells]; omega), ((Below.refl _ _).drew).alloc (Nat.le_refl _) _⟩
end Go.Proofs.YtecgbelgoomneaaGreat
/- Two texts put together; a text and its sum, by the program and by the document. -/
/- Texts put together, by package slices. -/
namespace Go.Proofs.YtecgbelgoomneaaGreat
open Go.RowKit
set_option maxHeartbeats 400000
set_option maxRecDepth 100000
set_option linter.unusedVariables false
/-- A slice of texts at A reads as these. -/
def RdRow8 (w : World) (B : Nat) (A : Option Addr) (rows : List (List Int)) : Prop :=
  ∀ k xs, rows[k]? = some xs → ∃ b off A' c', A = some ⟨b, off, none⟩ ∧ b < B ∧ w.cell? ⟨b, off + k, none⟩ = some (.slice A' xs.length c') ∧ Rd (Value.int .u8) w B A' xs
theorem RdRow8.below {w w' : World} {B : Nat} {A : Option Addr} {rows : List (List Int)} (h : RdRow8 w B A rows) (hb : Below B w w') : RdRow8 w' B A rows := fun k xs hx => by
  obtain ⟨b, off, A', c', e, hl, hc, hr⟩ := h k xs hx
  exact ⟨b, off, A', c', e, hl, (hb.cell (p := ⟨b, off + k, none⟩) hl).trans hc, hr.below hb⟩
theorem RdRow8.more {w : World} {B B' : Nat} {A : Option Addr} {rows : List (List Int)} (h : RdRow8 w B A rows) (hB : B ≤ B') : RdRow8 w B' A rows := fun k xs hx => by
  obtain ⟨b, off, A', c', e, hl, hc, hr⟩ := h k xs hx
  exact ⟨b, off, A', c', e, by omega, hc, hr.more hB⟩
theorem RdRow8.on {w w' : World} {A : Option Addr} {rows : List (List Int)} (h : RdRow8 w w.heap.size A rows) (hb : Below w.heap.size w w') : RdRow8 w' w'.heap.size A rows := (h.below hb).more hb.size
theorem row8_two {A B : Option Addr} {c d : Nat} (xs ys : List Int) (W : World) (ra : Rd (Value.int .u8) W W.heap.size A xs) (rb : Rd (Value.int .u8) W W.heap.size B ys) (t : TypeId) :
    RdRow8 (W.alloc (.cells #[.slice A xs.length c, .slice B ys.length d] t)) (W.alloc (.cells #[.slice A xs.length c, .slice B ys.length d] t)).heap.size (some ⟨W.heap.size, 0, none⟩) [xs, ys] := fun k zs hz => by
  have hb : Below W.heap.size W (W.alloc (.cells #[.slice A xs.length c, .slice B ys.length d] t)) := (Below.refl _ _).alloc (Nat.le_refl _) _
  have hn := heap_alloc_new W (.cells #[.slice A xs.length c, .slice B ys.length d] t)
  have hlt : W.heap.size < (W.alloc (.cells #[.slice A xs.length c, .slice B ys.length d] t)).heap.size := (Array.getElem?_eq_some_iff.1 hn).1
  match k, hz with
  | 0, hz =>
    obtain rfl : xs = zs := by simpa using hz
    exact ⟨_, 0, A, c, rfl, hlt, by rw [cell_of_row _ _ _ _ t (0, 0) hn]; rfl, ra.on hb⟩
  | 1, hz =>
    obtain rfl : ys = zs := by simpa using hz
    exact ⟨_, 0, B, d, rfl, hlt, by rw [cell_of_row _ _ _ _ t (0, 0) hn]; rfl, rb.on hb⟩
  | k + 2, hz => simp at hz
theorem row8_four {A1 A2 A3 A4 : Option Addr} {c1 c2 c3 c4 : Nat} (x1 x2 x3 x4 : List Int) (W : World) (r1 : Rd (Value.int .u8) W W.heap.size A1 x1) (r2 : Rd (Value.int .u8) W W.heap.size A2 x2) (r3 : Rd (Value.int .u8) W W.heap.size A3 x3) (r4 : Rd (Value.int .u8) W W.heap.size A4 x4) (t : TypeId) :
    RdRow8 (W.alloc (.cells #[.slice A1 x1.length c1, .slice A2 x2.length c2, .slice A3 x3.length c3, .slice A4 x4.length c4] t)) (W.alloc (.cells #[.slice A1 x1.length c1, .slice A2 x2.length c2, .slice A3 x3.length c3, .slice A4 x4.length c4] t)).heap.size (some ⟨W.heap.size, 0, none⟩) [x1, x2, x3, x4] := fun k zs hz => by
  have hb : Below W.heap.size W (W.alloc (.cells #[.slice A1 x1.length c1, .slice A2 x2.length c2, .slice A3 x3.length c3, .slice A4 x4.length c4] t)) := (Below.refl _ _).alloc (Nat.le_refl _) _
  have hn := heap_alloc_new W (.cells #[.slice A1 x1.length c1, .slice A2 x2.length c2, .slice A3 x3.length c3, .slice A4 x4.length c4] t)
  have hlt : W.heap.size < (W.alloc (.cells #[.slice A1 x1.length c1, .slice A2 x2.length c2, .slice A3 x3.length c3, .slice A4 x4.length c4] t)).heap.size := (Array.getElem?_eq_some_iff.1 hn).1
  match k, hz with
  | 0, hz =>
    obtain rfl : x1 = zs := by simpa using hz
    exact ⟨_, 0, A1, c1, rfl, hlt, by rw [cell_of_row _ _ _ _ t (0, 0) hn]; rfl, r1.on hb⟩
  | 1, hz =>
    obtain rfl : x2 = zs := by simpa using hz
    exact ⟨_, 0, A2, c2, rfl, hlt, by rw [cell_of_row _ _ _ _ t (0, 0) hn]; rfl, r2.on hb⟩
  | 2, hz =>
    obtain rfl : x3 = zs := by simpa using hz
    exact ⟨_, 0, A3, c3, rfl, hlt, by rw [cell_of_row _ _ _ _ t (0, 0) hn]; rfl, r3.on hb⟩
  | 3, hz =>
    obtain rfl : x4 = zs := by simpa using hz
    exact ⟨_, 0, A4, c4, rfl, hlt, by rw [cell_of_row _ _ _ _ t (0, 0) hn]; rfl, r4.on hb⟩
  | k + 4, hz => simp at hz
theorem cat8_step {ls : List (List Int)} {k : Nat} {x : List Int} (h : ls[k]? = some x) : (ls.take (k + 1)).flatten = (ls.take k).flatten ++ x := by
  rw [List.take_add_one, h, List.flatten_append]
  simp
theorem cat8_take (ls : List (List Int)) (k : Nat) : (ls.take k).flatten.length ≤ ls.flatten.length := by
  have h := congrArg List.length (congrArg List.flatten (List.take_append_drop k ls))
  rw [List.flatten_append, List.length_append] at h
  omega
theorem by_concat {A : Option Addr} {c : Nat} (ls : List (List Int)) (hl : ls.length ≤ 100000) (hf : ls.flatten.length ≤ 100000) (w : World) (ra : RdRow8 w w.heap.size A ls) :
    Calls Tryz.prog 112 #[.slice A ls.length c] w (OwnOf 5 .u8 w.heap.size ls.flatten w) := by
  have CG := hid (fun n hn => grow_nil n hn)
  have HA := hid ra
  have HF : Hid (∀ k x, ls[k]? = some x → (ls.take (k + 1)).flatten = (ls.take k).flatten ++ x) := hid (fun k x h => cat8_step h)
  have HL : Hid (∀ k, (ls.take k).flatten.length ≤ 100000) := hid (fun k => by have := cat8_take ls k; omega)
  have HF0 : Hid ((ls.take 0).flatten = []) := hid rfl
  have HFe : Hid (∀ k, ls.length ≤ k → (ls.take k).flatten = ls.flatten) := hid (fun k hk => by rw [List.take_of_length_le hk])
  obtain ⟨F, hF⟩ : ∃ F : Nat → List Int, (fun k => (ls.take k).flatten) = F := ⟨_, rfl⟩
  have hF' : ∀ k, (ls.take k).flatten = F k := fun k => by rw [← hF]
  simp only [hF'] at HF HL HF0 HFe
  obtain ⟨R, hR⟩ : ∃ R, ls.flatten = R := ⟨_, rfl⟩
  rw [hR] at HFe ⊢
  obtain ⟨N, hN⟩ : ∃ N, ls.length = N := ⟨_, rfl⟩
  have HN := hid hN
  rw [hN] at HFe hl ⊢
  clear ra hR hf hF hF' hN
  go_enter Tryz.func112, Tryz.ntmps112
  go_wp2_with fail
  go_loop [3, 5, 11] (fun s x i => ∃ (k T : Nat), k ≤ N ∧ i = .int .i64 k ∧ s = .int .i64 T ∧ T = (F k).length) (fun _ _ i => N - (intOf i).toNat)
  case atStart => exact ⟨0, 0, by omega, rfl, rfl, by rw [HF0.out]; rfl⟩
  case round =>
    obtain ⟨k, T, hk, rfl, rfl, hT⟩ := hrel
    have hTb : T ≤ 100000 := by rw [hT]; exact HL.out k
    have HT := hid hT
    clear hT
    by_cases hlt : k < N
    · obtain ⟨b1, o1, Ax, cx, rfl, l1, c1, rx⟩ := HA.out k _ (List.getElem?_eq_getElem (by rw [HN.out]; exact hlt))
      have hx0 : ls[k]? = some (ls[k]'(by rw [HN.out]; exact hlt)) := List.getElem?_eq_getElem (by rw [HN.out]; exact hlt)
      have HS := hid (HF.out k _ hx0)
      have hb := HL.out (k + 1)
      obtain ⟨x, hx⟩ : ∃ x, (ls[k]'(by rw [HN.out]; exact hlt)) = x := ⟨_, rfl⟩
      rw [hx] at HS c1
      rw [HS.out, List.length_append] at hb
      obtain ⟨X, hX⟩ : ∃ X, x.length = X := ⟨_, rfl⟩
      have HX := hid hX
      rw [hX] at c1 hb
      have hXb : X ≤ 100000 := by omega
      clear hX hb hx hx0 rx
      go_wp2_with fail
      go_round
      case rel => exact ⟨k + 1, T + X, by omega, by go_num, by go_num, by rw [HS.out, List.length_append, HT.out, HX.out]⟩
      case measure => simp [intOf]; omega
    · obtain rfl : k = N := by omega
      have CG1 := hid (CG.out T (by omega) w)
      clear CG HT
      go_wp2_with fail
      refine CG1.out.mono ?_
      rintro _ w1 ⟨A1, c1, rfl, ho, hb1⟩
      have HO := hid ho
      clear ho CG1
      go_wp2_with fail
      go_loopw [6, 8, 27] (fun t x i wr => ∃ (j : Nat) (S : List Int) (A2 : Option Addr) (c2 : Nat), j ≤ k ∧ i = .int .i64 j ∧ t = .slice A2 S.length c2 ∧ S = F j ∧ wr.ownsRow w.heap.size 5 1 (.slice A2 S.length c2) S.length (S.map (Value.int .u8)) ∧ Below w.heap.size w wr) (fun _ _ i _ => k - (intOf i).toNat)
      case atStart => exact ⟨0, [], A1, c1, by omega, rfl, rfl, HF0.out.symm, HO.out, hb1⟩
      case round =>
        clear HO hb1
        obtain ⟨j, S, A2, c2, hj, rfl, rfl, hS, ho, hbel⟩ := hrel
        have hSl : S.length ≤ 100000 := by rw [hS]; exact HL.out j
        have HSj := hid hS
        have HO := hid ho
        clear hS ho
        by_cases hjl : j < k
        · obtain ⟨b1, o1, Ax, cx, rfl, l1, c1, rx⟩ := HA.out j _ (List.getElem?_eq_getElem (by rw [HN.out]; exact hjl))
          have hx0 : ls[j]? = some (ls[j]'(by rw [HN.out]; exact hjl)) := List.getElem?_eq_getElem (by rw [HN.out]; exact hjl)
          have HS := hid (HF.out j _ hx0)
          have hb := HL.out (j + 1)
          obtain ⟨x, hx⟩ : ∃ x, (ls[j]'(by rw [HN.out]; exact hjl)) = x := ⟨_, rfl⟩
          rw [hx] at HS c1 rx
          rw [HS.out, List.length_append, ← HSj.out] at hb
          have c1' := (hbel.cell (p := ⟨b1, o1 + j, none⟩) l1).trans c1
          have hrx := rx.below hbel
          have h0 := HO.out
          have hbs := hbel.size
          clear hx hx0 rx c1
          go_wp2_with (at_builtin; refine wpList_app (Value.int .u8) (fun _ => rfl) _ rfl _ _ 50 rfl w.heap.size 5 (.int .u8 0) 1 Tryz.underlying50 info_u8 rfl S _ _ rfl h0 x _ cx _ rfl hrx (by simp [maxLen]; omega) (by omega) hbs ?_)
          rintro S' A' c' w4 hS' ho hb4 _
          have HS' := hid hS'
          have HO' := hid ho
          clear hS' ho h0 hrx
          go_wp2_with fail
          go_roundw
          case rel => exact ⟨j + 1, S', A', c', by omega, by go_num, rfl, by rw [HS'.out, HS.out, HSj.out], HO'.out, hbel.trans hb4⟩
          case measure => simp [intOf]; omega
        · obtain rfl : j = k := by omega
          have HR := hid (HFe.out j (Nat.le_refl _))
          go_wp2_with fail
          go_ret
          have e : S = R := by rw [HSj.out, HR.out]
          rw [← e]
          exact ⟨A2, c2, rfl, HO.out, hbel⟩
end Go.Proofs.YtecgbelgoomneaaGreat
/- A law's frame: where a call answers true and nothing that was there has turned, the given row's post holds, whatever the arguments are made of. -/
namespace Go.Proofs.YtecgbelgoomneaaGreat
open Go.ChangeShapes Go.WideShapes Go.ChangeAt Go.RowKit
set_option maxRecDepth 100000
set_option linter.unusedVariables false

theorem own : ownKnob Tryz.prog.godebug = none := by kernel_rfl
theorem laid : laidOutB Tryz.prog = true := by kernel_rfl

section
variable {H : Type} {enc : TypeId × Value → H} {P : Program}

theorem all_stay (hl : laidOutB P = true) {W W' : World} (hb : Below W.heap.size W W') {sp : Nat → Bool} :
    ∀ (ts : List TypeId) (vs : List Value) (ds : List (DataW H)) (ps : List MemPlace), (∀ t ∈ ts, P.readableRec t = true ∧ t < P.types.size) →
      DataW.TrodAll enc P W 0 (fun _ => true) true ts vs ds ps → (∀ x ∈ ps, x.block < W.heap.size) → (∀ x ∈ ps, sp x.block = true) → DataW.TrodAll enc P W' 0 sp true ts vs ds ps
  | [], [], [], ps, _, h, _, _ => h
  | [], [], _ :: _, _, _, h, _, _ => h.elim
  | [], _ :: _, _, _, _, h, _, _ => h.elim
  | _ :: _, [], _, _, _, h, _, _ => h.elim
  | _ :: _, _ :: _, [], _, _, h, _, _ => h.elim
  | t :: ts, v :: vs, d :: ds, ps, hr, h, hlt, hsp => by
    obtain ⟨p, q, h1, h2, rfl⟩ := h
    have ht := hr t (by simp)
    refine ⟨p, q, WideElems.Trod_stays hl ht.1 ht.2 h1 (fun x hx => hb.same (hlt x (by simp [hx]))) (fun x hx => hsp x (by simp [hx])), ?_, rfl⟩
    exact all_stay hl hb ts vs ds q (fun t' ht' => hr t' (by simp [ht'])) h2 (fun x hx => hlt x (by simp [hx])) (fun x hx => hsp x (by simp [hx]))

theorem law_post {f : Func} {s : ChangeSpec} {apart fresh handsOn again : Bool} {W W' : World} {args : Array Value} {ds gs : List (DataW H)} {before : List MemPlace} {tb : TypeId}
    (hl : laidOutB P = true) (hts : ∀ t ∈ f.params.toList, P.readableRec t = true ∧ t < P.types.size) (hv : s.vars = [])
    (hW : DataW.Whole enc P f.params.toList s.vars apart W args.toList ds gs before)
    (hs : (s.fn H (ds ++ gs)).results = [.lit (.bool true)] ∧ (s.fn H (ds ++ gs)).args = ds ∧ (s.fn H (ds ++ gs)).vars = [])
    (hr : f.resultTypes = #[tb]) (htb : P.underlying tb = some .bool) (hb : Below W.heap.size W W') :
    s.post enc P f apart fresh handsOn again W args (.bool true) W' := by
  have hlt : ∀ p ∈ before, p.block < W.heap.size := fun p hp => hW.lt p hp
  have hW0 := hW
  obtain ⟨p, q, h1, h2, e, hz, hn⟩ := hW
  rw [hv] at h2
  cases gs with
  | cons _ _ => exact h2.elim
  | nil =>
    have hq : q = [] := h2
    subst hq
    simp only [List.append_nil] at e
    subst e
    have stay : ∀ sp : Nat → Bool, (∀ x ∈ before, sp x.block = true) → DataW.TrodAll enc P W' 0 sp true f.params.toList args.toList (s.fn H (ds ++ [])).args before :=
      fun sp hsp => by rw [hs.2.1]; exact all_stay hl hb _ _ _ _ hts h1 hlt hsp
    have vars : ∀ sp : Nat → Bool, DataW.TrodVars enc P W' sp s.vars (s.fn H (ds ++ [])).vars [] := fun sp => by rw [hs.2.2, hv]; rfl
    have res : ∀ (b : Nat) (sp : Nat → Bool) (hd : Bool), DataW.TrodAll enc P W' b sp hd f.resultTypes.toList ((Value.bool true).resultList f.resultTypes.size) (s.fn H (ds ++ [])).results [] := by
      intro b sp hd
      rw [hs.1, hr]
      exact trodAll_mk1 (shut_bool htb true)
    refine ⟨ds, [], before, [], before, [], hW0, res _ _ _, stay _ (fun x hx => by simpa using hlt x hx), vars _, ?_, fun _ => ?_⟩
    · exact World.keptBut_mono (fun x hx => ⟨hx, by simpa using hx⟩) (hb.frame (· ∈ before))
    · refine ⟨?_, _, _, ([] ++ before) ++ [], ⟨[] ++ before, [], trodAll_append (stay _ (fun _ _ => rfl)) (res _ _ _), vars _, rfl, ?_, ?_⟩, ?_⟩
      · exact ok_one hr rfl (okWide_bool_mk htb true)
      · intro b off hp
        have hin : MemPlace.cell b off ∈ before := by simpa using hp
        rw [hb.frozen (hlt _ hin)]
        exact hz b off hin
      · intro ha
        simpa using hn ha
      · intro x hx _
        simpa using hx
end
end Go.Proofs.YtecgbelgoomneaaGreat
/- An argument that is a list of whole numbers of one kind, opened. -/
namespace Go.Proofs.YtecgbelgoomneaaGreat
open Go.ChangeShapes Go.WideShapes Go.ChangeAt Go.RowKit
set_option maxRecDepth 100000
set_option linter.unusedVariables false
section
variable {H : Type} {enc : TypeId × Value → H} {P : Program} {W : World}
theorem nums_rd {k : IntKind} {a : Addr} {zs xs : List Int} {m : Nat} (hm : xs = zs.take m) (hc : ∀ i, i < m → W.cell? (a.add i) = some (.int k (zs.getD i 0))) : Rd (Value.int k) W W.heap.size (some a) xs := fun j x hx => by
  subst hm
  have hk : j < (zs.take m).length := (List.getElem?_eq_some_iff.1 hx).1
  have hkm : j < m := by rw [List.length_take] at hk; omega
  obtain ⟨b, off, spot⟩ := a
  have hs : spot = none := by simpa [Addr.add] using World.cell?_spot (hc 0 (by omega))
  subst hs
  have h := hc j hkm
  rw [Go.WideShapes.add_plain] at h
  have hz : zs.getD j 0 = x := by
    rw [List.getElem?_take_of_lt hkm] at hx
    simp [List.getD, hx]
  rw [hz] at h
  exact ⟨b, off, rfl, lt_of_cell h, h⟩
theorem open_nums {k : IntKind} {r : Reach} {t e : TypeId} {v : Value} {d : DataW H} {ps : List MemPlace} (ht : P.underlying t = some (.slice e)) (he : P.underlying e = some (.int k)) (hc : P.cellsOf e = 1) {b0 : Nat}
    (hval : Value.okWide P W r b0 t v) (hd : DataW.Trod enc P W 0 (fun _ => true) true t v d ps) :
    ∃ A xs c, v = .slice A xs.length c ∧ Rd (Value.int k) W W.heap.size A xs ∧ (∀ x ∈ xs, (Lit.int k x).wf = true) ∧ xs.length ≤ c ∧ c ≤ 9223372036854775807 := by
  obtain ⟨A, len, cap, rfl⟩ := okWide_slice ht hval
  obtain ⟨fuel, hf⟩ := hd
  rcases open_ints ht he hc hf with ⟨hcs, _⟩ | ⟨a, len', cap', zs, hcs, _, hl, hm, hz, _, hcell, hwz⟩
  · simp [Value.cells] at hcs
    obtain ⟨rfl, rfl, rfl⟩ := hcs
    exact ⟨none, [], 0, rfl, Rd.none_, by intro x hx; simp at hx, by simp, by omega⟩
  · simp [Value.cells] at hcs
    obtain ⟨rfl, rfl, rfl⟩ := hcs
    simp only [if_true] at hz
    have hlen : (zs.take len).length = len := by rw [List.length_take]; omega
    refine ⟨some a, zs.take len, cap, by rw [hlen], nums_rd rfl fun i hi => hcell i (by omega), fun x hx => hwz x (List.mem_of_mem_take hx), by omega, by unfold maxLen at hm; omega⟩
theorem U64.of_wf {a : Int} (h : (Lit.int .u64 a).wf = true) : U64 a := by
  simp [Lit.wf, IntKind.min, IntKind.max, IntKind.signed, IntKind.bits] at h
  unfold U64; omega
theorem U32.of_wf {a : Int} (h : (Lit.int .u32 a).wf = true) : 0 ≤ a ∧ a ≤ 4294967295 := by
  simp [Lit.wf, IntKind.min, IntKind.max, IntKind.signed, IntKind.bits] at h
  omega
end
end Go.Proofs.YtecgbelgoomneaaGreat
/- An argument that is a list of bools, opened. -/
namespace Go.Proofs.YtecgbelgoomneaaGreat
open Go.ChangeShapes Go.WideShapes Go.ChangeAt Go.RowKit
set_option maxRecDepth 100000
set_option linter.unusedVariables false
theorem cells_bool : Tryz.prog.cellsOf 4 = 1 := by kernel_rfl
section
variable {H : Type} {enc : TypeId × Value → H} {P : Program} {W : World}
theorem bools_rd {a : Addr} {B : Nat → Bool} {m : Nat} (hc : ∀ i, i < m → W.cell? (a.add i) = some (.bool (B i))) : Rd Value.bool W W.heap.size (some a) ((List.range m).map B) := fun j x hx => by
  have hk : j < ((List.range m).map B).length := (List.getElem?_eq_some_iff.1 hx).1
  have hkm : j < m := by simpa using hk
  obtain ⟨b, off, spot⟩ := a
  have hs : spot = none := by simpa [Addr.add] using World.cell?_spot (hc 0 (by omega))
  subst hs
  have h := hc j hkm
  rw [Go.WideShapes.add_plain] at h
  have hz : B j = x := by
    rw [List.getElem?_map, List.getElem?_range hkm] at hx
    exact Option.some.inj hx
  rw [hz] at h
  exact ⟨b, off, rfl, lt_of_cell h, h⟩
end
end Go.Proofs.YtecgbelgoomneaaGreat
/- An argument that is a list of numbers, or a list of such lists, opened. -/
namespace Go.Proofs.YtecgbelgoomneaaGreat
open Go.ChangeShapes Go.WideShapes Go.ChangeAt Go.RowKit Go.Deep
set_option maxRecDepth 100000
set_option linter.unusedVariables false
theorem cells_i64 : Tryz.prog.cellsOf 2 = 1 := by kernel_rfl
theorem cells_i64s : Tryz.prog.cellsOf 24 = 1 := by kernel_rfl
section
variable {H : Type} {enc : TypeId × Value → H} {P : Program} {W : World}
theorem rd_cells {a : Addr} {zs xs : List Int} {m : Nat} (hm : xs = zs.take m) (hc : ∀ i, i < m → W.cell? (a.add i) = some (.int .i64 (zs.getD i 0))) : Rd (Value.int .i64) W W.heap.size (some a) xs := fun k x hx => by
  subst hm
  have hk : k < (zs.take m).length := (List.getElem?_eq_some_iff.1 hx).1
  have hkm : k < m := by rw [List.length_take] at hk; omega
  obtain ⟨b, off, spot⟩ := a
  have hs : spot = none := by simpa [Addr.add] using World.cell?_spot (hc 0 (by omega))
  subst hs
  have h := hc k hkm
  rw [add_plain] at h
  have hz : zs.getD k 0 = x := by
    rw [List.getElem?_take_of_lt hkm] at hx
    simp [List.getD, hx]
  rw [hz] at h
  exact ⟨b, off, rfl, lt_of_cell h, h⟩
theorem open_rows {r : Reach} {t e q : TypeId} {v : Value} {d : DataW H} {ps : List MemPlace} (ht : P.underlying t = some (.slice e)) (he : P.underlying e = some (.slice q)) (hq : P.underlying q = some (.int .i64)) (ce : P.cellsOf e = 1) (cq : P.cellsOf q = 1) {b0 : Nat}
    (hval : Value.okWide P W r b0 t v) (hd : DataW.Trod enc P W 0 (fun _ => true) true t v d ps) :
    ∃ A rows c, v = .slice A rows.length c ∧ RdRows W W.heap.size A rows ∧ (∀ u ∈ rows, I64s u ∧ u.length ≤ 9223372036854775807) ∧ rows.length ≤ c ∧ c ≤ 9223372036854775807 := by
  obtain ⟨A, len, cap, rfl⟩ := okWide_slice ht hval
  obtain ⟨fuel, hf⟩ := hd
  rcases open_int_rows ht he hq ce cq hf with ⟨hcs, _⟩ | ⟨a, len', cap', AA, L, C, Z, hcs, _, hl, hm, _, hrows⟩
  · simp [Value.cells] at hcs
    obtain ⟨rfl, rfl, rfl⟩ := hcs
    exact ⟨none, [], 0, rfl, fun k x hx => by simp at hx, by intro x hx; simp at hx, by simp, by omega⟩
  · simp [Value.cells] at hcs
    obtain ⟨rfl, rfl, rfl⟩ := hcs
    have hlr : ∀ k, k < len → ((Z k).take (L k)).length = L k := fun k hk => by
      obtain ⟨_, h1, _, h3, _⟩ := hrows k (by omega)
      rw [List.length_take]; omega
    have hml : cap ≤ 9223372036854775807 := by unfold maxLen at hm; omega
    refine ⟨some a, (List.range len).map fun k => (Z k).take (L k), cap, by simp, ?_, ?_, by simp; omega, hml⟩
    · intro k xs hx
      have hk : k < len := by have := (List.getElem?_eq_some_iff.1 hx).1; simpa using this
      have hxs : xs = (Z k).take (L k) := by simpa [hk] using hx.symm
      obtain ⟨h0, h1, h2, h3, h4, h5, h6⟩ := hrows k (by omega)
      obtain ⟨b, off, spot⟩ := a
      have hs : spot = none := by simpa [Addr.add] using World.cell?_spot (hrows 0 (by omega)).1
      subst hs
      rw [add_plain] at h0
      refine ⟨b, off, AA k, C k, rfl, lt_of_cell h0, by rw [hxs, hlr k hk]; exact h0, ?_⟩
      cases hA : AA k with
      | none =>
        have := h5 hA
        have hnil : xs = [] := by rw [hxs]; exact List.eq_nil_of_length_eq_zero (by rw [hlr k hk]; omega)
        subst hnil
        exact Rd.none_
      | some a' => exact rd_cells hxs fun i hi => (h6 a' hA).2 i (by omega)
    · intro u hu
      obtain ⟨k, hk, rfl⟩ := List.mem_map.1 hu
      have hk' : k < len := by simpa using hk
      obtain ⟨_, h1, h2, _, h4, _⟩ := hrows k (by omega)
      exact ⟨fun x hx => I64.of_wf (h4 x (List.mem_of_mem_take hx)), by rw [hlr k hk']; unfold maxLen at h2; omega⟩
end
end Go.Proofs.YtecgbelgoomneaaGreat
