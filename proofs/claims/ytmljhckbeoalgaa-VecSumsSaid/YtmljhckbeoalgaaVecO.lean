
/- Plain mathematics of vectors: sums of many; lists of lists in memory, part of them and turned round. -/
import Derived.Test.YtmljhckbeoalgaaVecN
namespace Go.Proofs.Ytmljhckbeoalgaa
open Go.RowKit
set_option linter.unusedVariables false
/-- What all rows have at one place, together. -/
def col (rows : List (List Int)) (k : Nat) : Int := rows.foldr (fun r s => r.getD k 0 + s) 0
theorem col_cons (v : List Int) (r : List (List Int)) (k : Nat) : col (v :: r) k = v.getD k 0 + col r k := rfl
theorem col_append (r s : List (List Int)) (k : Nat) : col (r ++ s) k = col r k + col s k := by
  induction r with
  | nil => simp [col]
  | cons v r ih => rw [List.cons_append, col_cons, col_cons, ih]; omega
theorem col_reverse (r : List (List Int)) (k : Nat) : col r.reverse k = col r k := by
  induction r with
  | nil => rfl
  | cons v r ih => rw [List.reverse_cons, col_append, ih, col_cons, col_cons]; simp [col]; omega
/-- Rows of one length, none great. -/
def Even (n : Nat) (rows : List (List Int)) : Prop := ∀ v ∈ rows, v.length = n ∧ ∀ x ∈ v, -1125899906842624 ≤ x ∧ x ≤ 1125899906842624
theorem even_at {n : Nat} {rows : List (List Int)} (h : Even n rows) {v : List Int} (hv : v ∈ rows) {k : Nat} (hk : k < n) : -1125899906842624 ≤ v.getD k 0 ∧ v.getD k 0 ≤ 1125899906842624 := by
  obtain ⟨hl, hx⟩ := h v hv
  have : v.getD k 0 = v[k]'(by omega) := by simp [List.getD, show k < v.length by omega]
  rw [this]
  exact hx _ (List.getElem_mem _)
theorem sumFrom_even {n : Nat} (hn : n ≤ 4096) : ∀ (r : List (List Int)) (S : List Int) (m0 : Nat), Even n r → S.length = n → (∀ k, k < n → -(1125899906842624 * (m0 : Int)) ≤ S.getD k 0 ∧ S.getD k 0 ≤ 1125899906842624 * (m0 : Int)) → m0 + r.length ≤ 100 →
    sumFrom S r = ((List.range n).map fun k => S.getD k 0 + col r k, 0)
  | [], S, m0, _, hl, _, _ => by
    show (S, (0 : Int)) = _
    rw [Prod.mk.injEq]
    refine ⟨?_, rfl⟩
    conv => lhs; rw [← range_getD S]
    rw [hl]
    exact map_range_ext fun k _ => by simp [col]
  | v :: r, S, m0, he, hl, hb, hm => by
    simp only [List.length_cons] at hm
    have hv := he v (by simp)
    have o := op_mk (f := (· + ·)) (xs := S) (ys := v) (by omega) (by omega) fun k hk => by
      have a := hb k (by omega)
      have b := even_at he (v := v) (by simp) (k := k) (by omega)
      show I64 (_ + _)
      unfold I64; omega
    unfold sumFrom
    rw [if_pos o.1, o.2, hl]
    have hT : ((List.range n).map fun k => S.getD k 0 + v.getD k 0).length = n := by simp
    have ih := sumFrom_even hn r ((List.range n).map fun k => S.getD k 0 + v.getD k 0) (m0 + 1) (fun u hu => he u (by simp [hu])) hT (fun k hk => by
      have a := hb k hk
      have b := even_at he (v := v) (by simp) hk
      rw [getD_range hk]
      rw [Int.natCast_add]; omega) (by omega)
    rw [ih, Prod.mk.injEq]
    refine ⟨map_range_ext fun k hk => ?_, rfl⟩
    rw [getD_range hk, col_cons]; omega
theorem sumAll_even {n : Nat} (hn : n ≤ 4096) {rows : List (List Int)} (he : Even n rows) (hl : rows.length ≤ 100) (h0 : rows ≠ []) : sumAll rows = ((List.range n).map (col rows), 0) := by
  cases rows with
  | nil => exact absurd rfl h0
  | cons v r =>
    have hv := he v (by simp)
    simp only [List.length_cons] at hl
    rw [show sumAll (v :: r) = sumFrom v r from if_neg (by omega)]
    rw [sumFrom_even hn r v 1 (fun u hu => he u (by simp [hu])) hv.1 (fun k hk => by have := even_at he (v := v) (by simp) hk; omega) (by omega)]
    rfl
theorem even_tail {n : Nat} {v : List Int} {r : List (List Int)} (h : Even n (v :: r)) : Even n r := fun u hu => h u (by simp [hu])
theorem even_reverse {n : Nat} {r : List (List Int)} (h : Even n r) : Even n r.reverse := fun u hu => h u (by simpa using hu)
theorem col_bound {n : Nat} {rows : List (List Int)} (h : Even n rows) {k : Nat} (hk : k < n) : -(1125899906842624 * (rows.length : Int)) ≤ col rows k ∧ col rows k ≤ 1125899906842624 * (rows.length : Int) := by
  induction rows with
  | nil => simp [col]
  | cons v r ih =>
    have := ih (even_tail h)
    have b := even_at h (v := v) (by simp) hk
    rw [col_cons, List.length_cons, Int.natCast_add]
    omega
/-- All together are the first one, and the others. -/
theorem sum_parts {n : Nat} (hn : n ≤ 4096) {v : List Int} {r : List (List Int)} (he : Even n (v :: r)) (hl : (v :: r).length ≤ 100) (h0 : r ≠ []) :
    opE (· + ·) v (sumAll r).1 = 0 ∧ opV (· + ·) v (sumAll r).1 = (sumAll (v :: r)).1 := by
  have hv := he v (by simp)
  simp only [List.length_cons] at hl
  have s1 := sumAll_even hn (even_tail he) (by omega) h0
  have s2 := sumAll_even hn he (by simp; omega) (by simp)
  rw [s1, s2]
  have o := op_mk (f := (· + ·)) (xs := v) (ys := (List.range n).map (col r)) (by omega) (by simp; omega) fun k hk => by
    show I64 (_ + _)
    rw [getD_range (show k < n by omega)]
    have := col_bound (even_tail he) (k := k) (by omega)
    have b := even_at he (v := v) (by simp) (k := k) (by omega)
    unfold I64; omega
  refine ⟨o.1, ?_⟩
  rw [o.2, hv.1]
  exact map_range_ext fun k hk => by rw [getD_range hk]; rfl
theorem sum_turned {n : Nat} (hn : n ≤ 4096) {rows : List (List Int)} (he : Even n rows) (hl : rows.length ≤ 100) (h0 : rows ≠ []) : sumAll rows.reverse = sumAll rows := by
  rw [sumAll_even hn he hl h0, sumAll_even hn (even_reverse he) (by simpa using hl) (by simpa using h0)]
  rw [Prod.mk.injEq]
  exact ⟨map_range_ext fun k _ => col_reverse rows k, rfl⟩
/-- A slice's three parts. -/
abbrev Sl := Option Addr × Nat × Nat
def encS (p : Sl) : Value := .slice p.1 p.2.1 p.2.2
theorem encS_one (p : Sl) : (encS p).oneCell' = true := rfl
/-- The slices by which lists lie in memory. -/
def Fits (w : World) (B : Nat) (ps : List Sl) (rows : List (List Int)) : Prop := ps.length = rows.length ∧ ∀ (k : Nat) (p : Sl) (xs : List Int), ps[k]? = some p → rows[k]? = some xs → p.2.1 = xs.length ∧ Rd (Value.int .i64) w B p.1 xs
theorem rows_split {w : World} {B : Nat} {A : Option Addr} : ∀ {rows : List (List Int)}, RdRows w B A rows → ∃ ps, Rd encS w B A ps ∧ Fits w B ps rows := by
  intro rows h
  have key : ∀ k, k ≤ rows.length → ∃ ps : List Sl, Rd encS w B A ps ∧ Fits w B ps (rows.take k) := by
    intro k
    induction k with
    | zero => exact fun _ => ⟨[], Rd.none_, by simp, fun k p xs hp => by simp at hp⟩
    | succ k ih =>
      intro hk
      obtain ⟨ps, h1, h2, h3⟩ := ih (by omega)
      have hu : rows[k]? = some rows[k] := List.getElem?_eq_getElem (by omega)
      obtain ⟨b, off, A', c', e, hl, hc, hr⟩ := h k _ hu
      have hlen : ps.length = k := by rw [h2, List.length_take]; omega
      refine ⟨ps ++ [(A', rows[k].length, c')], ?_, ?_, ?_⟩
      · intro j p hp
        by_cases hj : j < ps.length
        · rw [List.getElem?_append_left hj] at hp
          exact h1 j p hp
        · have hj2 : j = k := by
            have := (List.getElem?_eq_some_iff.1 hp).1
            simp at this; omega
          subst hj2
          rw [List.getElem?_append_right (by omega), hlen] at hp
          simp at hp
          subst hp
          exact ⟨b, off, e, hl, hc⟩
      · rw [List.length_append, hlen, List.length_take]; simp; omega
      · intro j p xs hp hx
        by_cases hj : j < ps.length
        · rw [List.getElem?_append_left hj] at hp
          refine h3 j p xs hp ?_
          rw [List.getElem?_take_of_lt (by omega)] at hx ⊢
          exact hx
        · have hj2 : j = k := by
            have := (List.getElem?_eq_some_iff.1 hp).1
            simp at this; omega
          subst hj2
          rw [List.getElem?_append_right (by omega), hlen] at hp
          rw [List.getElem?_take_of_lt (by omega), hu] at hx
          simp at hp hx
          subst hp
          subst hx
          exact ⟨rfl, hr⟩
  obtain ⟨ps, h1, h2⟩ := key rows.length (Nat.le_refl _)
  rw [List.take_of_length_le (Nat.le_refl _)] at h2
  exact ⟨ps, h1, h2⟩
theorem rows_join {w : World} {B : Nat} {A : Option Addr} {ps : List Sl} {rows : List (List Int)} (h : Rd encS w B A ps) (hf : Fits w B ps rows) : RdRows w B A rows := fun k xs hx => by
  have hk : k < ps.length := by rw [hf.1]; exact (List.getElem?_eq_some_iff.1 hx).1
  obtain ⟨b, off, e, hl, hc⟩ := h k ps[k] (List.getElem?_eq_getElem hk)
  obtain ⟨h1, h2⟩ := hf.2 k _ xs (List.getElem?_eq_getElem hk) hx
  refine ⟨b, off, ps[k].1, ps[k].2.2, e, hl, ?_, h2⟩
  rw [hc]
  unfold encS
  rw [h1]
theorem fits_on {w w' : World} {B : Nat} {ps : List Sl} {rows : List (List Int)} (h : Fits w B ps rows) (hb : Below B w w') : Fits w' B ps rows := ⟨h.1, fun k p xs hp hx => ⟨(h.2 k p xs hp hx).1, (h.2 k p xs hp hx).2.below hb⟩⟩
theorem fits_more {w : World} {B B' : Nat} {ps : List Sl} {rows : List (List Int)} (h : Fits w B ps rows) (hB : B ≤ B') : Fits w B' ps rows := ⟨h.1, fun k p xs hp hx => ⟨(h.2 k p xs hp hx).1, (h.2 k p xs hp hx).2.more hB⟩⟩
theorem fits_reverse {w : World} {B : Nat} {ps : List Sl} {rows : List (List Int)} (h : Fits w B ps rows) : Fits w B ps.reverse rows.reverse := by
  refine ⟨by simp [h.1], fun k p xs hp hx => ?_⟩
  have hk : k < ps.length := by have := (List.getElem?_eq_some_iff.1 hp).1; simpa using this
  rw [List.getElem?_reverse hk] at hp
  rw [List.getElem?_reverse (by rw [← h.1]; exact hk), ← h.1] at hx
  exact h.2 _ p xs hp hx
theorem rows_tail {w : World} {B b off : Nat} {v : List Int} {r : List (List Int)} (h : RdRows w B (some ⟨b, off, none⟩) (v :: r)) : RdRows w B (some ⟨b, off + 1, none⟩) r := fun k xs hx => by
  obtain ⟨b', off', A', c', e, hl, hc, hr⟩ := h (k + 1) xs (by rw [List.getElem?_cons_succ]; exact hx)
  have e2 := Option.some.inj e
  simp only [Addr.mk.injEq] at e2
  obtain ⟨rfl, rfl, _⟩ := e2
  exact ⟨b, off + 1, A', c', rfl, hl, by rw [show off + 1 + k = off + (k + 1) by omega]; exact hc, hr⟩
theorem own_cap {w : World} {base n c : Nat} {A : Option Addr} {e : TypeId} {vs : List Value} (h : w.ownsRow base e 1 (.slice A n c) n vs) : n ≤ c := by
  rcases h.2 with ⟨he, h0⟩ | ⟨g, cap, cur, he, _, _, hn, _⟩
  · omega
  · simp only [Value.slice.injEq] at he
    omega
theorem sumFrom_i64 : ∀ (r : List (List Int)) (S : List Int), I64s S → I64s (sumFrom S r).1
  | [], S, h => h
  | v :: r, S, h => by
    unfold sumFrom
    split
    · exact sumFrom_i64 r _ (opV_i64 _ _ _)
    · intro x hx; simp at hx
theorem sumAll_i64 {rows : List (List Int)} (h : RowsOk rows) : I64s (sumAll rows).1 := by
  unfold sumAll
  split
  · intro x hx; simp at hx
  · split
    · intro x hx; simp at hx
    · exact sumFrom_i64 _ _ (h _ (by simp)).1
end Go.Proofs.Ytmljhckbeoalgaa
