
/- Lists of lists in memory, by their slices; part of them and turned round. -/
import Derived.Test.YtnokomlekndgfaaWd
namespace Go.Proofs.Ytnokomlekndgfaa
open Go.RowKit
set_option maxRecDepth 100000
set_option linter.unusedVariables false
/-- A slice of slices at A reads as these lists. -/
def RdRows (w : World) (B : Nat) (A : Option Addr) (rows : List (List Int)) : Prop :=
  ∀ k xs, rows[k]? = some xs → ∃ b off A' c', A = some ⟨b, off, none⟩ ∧ b < B ∧ w.cell? ⟨b, off + k, none⟩ = some (.slice A' xs.length c') ∧ Rd (Value.int .i64) w B A' xs
theorem RdRows.below {w w' : World} {B : Nat} {A : Option Addr} {rows : List (List Int)} (h : RdRows w B A rows) (hb : Below B w w') : RdRows w' B A rows := fun k xs hx => by
  obtain ⟨b, off, A', c', e, hl, hc, hr⟩ := h k xs hx
  exact ⟨b, off, A', c', e, hl, (hb.cell (p := ⟨b, off + k, none⟩) hl).trans hc, hr.below hb⟩
theorem RdRows.more {w : World} {B B' : Nat} {A : Option Addr} {rows : List (List Int)} (h : RdRows w B A rows) (hB : B ≤ B') : RdRows w B' A rows := fun k xs hx => by
  obtain ⟨b, off, A', c', e, hl, hc, hr⟩ := h k xs hx
  exact ⟨b, off, A', c', e, by omega, hc, hr.more hB⟩
theorem RdRows.on {w w' : World} {A : Option Addr} {rows : List (List Int)} (h : RdRows w w.heap.size A rows) (hb : Below w.heap.size w w') : RdRows w' w'.heap.size A rows := (h.below hb).more hb.size
/-- A slice's three parts. -/
abbrev Sl := Option Addr × Nat × Nat
def encS (p : Sl) : Value := .slice p.1 p.2.1 p.2.2
theorem encS_one (p : Sl) : (encS p).oneCell' = true := rfl
/-- The slices by which lists lie in memory. -/
def Fits (w : World) (B : Nat) (ps : List Sl) (rows : List (List Int)) : Prop := ps.length = rows.length ∧ ∀ (k : Nat) (p : Sl) (xs : List Int), ps[k]? = some p → rows[k]? = some xs → p.2.1 = xs.length ∧ Rd (Value.int .i64) w B p.1 xs
theorem rows_split {w : World} {B : Nat} {A : Option Addr} : ∀ {rows : List (List Int)}, RdRows w B A rows → ∃ ps, Rd encS w B A ps ∧ Fits w B ps rows := by
  intro rows h
  have key : ∀ k, k ≤ rows.length → ∃ ps : List Sl, Rd encS w B A ps ∧ Fits w B ps (rows.take k) := by
    intro k
    induction k with
    | zero => exact fun _ => ⟨[], Rd.none_, by simp, fun k p xs hp => by simp at hp⟩
    | succ k ih =>
      intro hk
      obtain ⟨ps, h1, h2, h3⟩ := ih (by omega)
      have hu : rows[k]? = some rows[k] := List.getElem?_eq_getElem (by omega)
      obtain ⟨b, off, A', c', e, hl, hc, hr⟩ := h k _ hu
      have hlen : ps.length = k := by rw [h2, List.length_take]; omega
      refine ⟨ps ++ [(A', rows[k].length, c')], ?_, ?_, ?_⟩
      · intro j p hp
        by_cases hj : j < ps.length
        · rw [List.getElem?_append_left hj] at hp
          exact h1 j p hp
        · have hj2 : j = k := by
            have := (List.getElem?_eq_some_iff.1 hp).1
            simp at this; omega
          subst hj2
          rw [List.getElem?_append_right (by omega), hlen] at hp
          simp at hp
          subst hp
          exact ⟨b, off, e, hl, hc⟩
      · rw [List.length_append, hlen, List.length_take]; simp; omega
      · intro j p xs hp hx
        by_cases hj : j < ps.length
        · rw [List.getElem?_append_left hj] at hp
          refine h3 j p xs hp ?_
          rw [List.getElem?_take_of_lt (by omega)] at hx ⊢
          exact hx
        · have hj2 : j = k := by
            have := (List.getElem?_eq_some_iff.1 hp).1
            simp at this; omega
          subst hj2
          rw [List.getElem?_append_right (by omega), hlen] at hp
          rw [List.getElem?_take_of_lt (by omega), hu] at hx
          simp at hp hx
          subst hp
          subst hx
          exact ⟨rfl, hr⟩
  obtain ⟨ps, h1, h2⟩ := key rows.length (Nat.le_refl _)
  rw [List.take_of_length_le (Nat.le_refl _)] at h2
  exact ⟨ps, h1, h2⟩
theorem rows_join {w : World} {B : Nat} {A : Option Addr} {ps : List Sl} {rows : List (List Int)} (h : Rd encS w B A ps) (hf : Fits w B ps rows) : RdRows w B A rows := fun k xs hx => by
  have hk : k < ps.length := by rw [hf.1]; exact (List.getElem?_eq_some_iff.1 hx).1
  obtain ⟨b, off, e, hl, hc⟩ := h k ps[k] (List.getElem?_eq_getElem hk)
  obtain ⟨h1, h2⟩ := hf.2 k _ xs (List.getElem?_eq_getElem hk) hx
  refine ⟨b, off, ps[k].1, ps[k].2.2, e, hl, ?_, h2⟩
  rw [hc]
  unfold encS
  rw [h1]
theorem fits_on {w w' : World} {B : Nat} {ps : List Sl} {rows : List (List Int)} (h : Fits w B ps rows) (hb : Below B w w') : Fits w' B ps rows := ⟨h.1, fun k p xs hp hx => ⟨(h.2 k p xs hp hx).1, (h.2 k p xs hp hx).2.below hb⟩⟩
theorem fits_more {w : World} {B B' : Nat} {ps : List Sl} {rows : List (List Int)} (h : Fits w B ps rows) (hB : B ≤ B') : Fits w B' ps rows := ⟨h.1, fun k p xs hp hx => ⟨(h.2 k p xs hp hx).1, (h.2 k p xs hp hx).2.more hB⟩⟩
theorem fits_reverse {w : World} {B : Nat} {ps : List Sl} {rows : List (List Int)} (h : Fits w B ps rows) : Fits w B ps.reverse rows.reverse := by
  refine ⟨by simp [h.1], fun k p xs hp hx => ?_⟩
  have hk : k < ps.length := by have := (List.getElem?_eq_some_iff.1 hp).1; simpa using this
  rw [List.getElem?_reverse hk] at hp
  rw [List.getElem?_reverse (by rw [← h.1]; exact hk), ← h.1] at hx
  exact h.2 _ p xs hp hx
theorem rows_tail {w : World} {B b off : Nat} {v : List Int} {r : List (List Int)} (h : RdRows w B (some ⟨b, off, none⟩) (v :: r)) : RdRows w B (some ⟨b, off + 1, none⟩) r := fun k xs hx => by
  obtain ⟨b', off', A', c', e, hl, hc, hr⟩ := h (k + 1) xs (by rw [List.getElem?_cons_succ]; exact hx)
  have e2 := Option.some.inj e
  simp only [Addr.mk.injEq] at e2
  obtain ⟨rfl, rfl, _⟩ := e2
  exact ⟨b, off + 1, A', c', rfl, hl, by rw [show off + 1 + k = off + (k + 1) by omega]; exact hc, hr⟩
theorem rows_two {A B : Option Addr} {c d : Nat} (xs ys : List Int) (W : World) (ra : Rd (Value.int .i64) W W.heap.size A xs) (rb : Rd (Value.int .i64) W W.heap.size B ys) (t : TypeId) :
    RdRows (W.alloc (.cells #[.slice A xs.length c, .slice B ys.length d] t)) (W.alloc (.cells #[.slice A xs.length c, .slice B ys.length d] t)).heap.size (some ⟨W.heap.size, 0, none⟩) [xs, ys] := fun k zs hz => by
  have hb : Below W.heap.size W (W.alloc (.cells #[.slice A xs.length c, .slice B ys.length d] t)) := (Below.refl _ _).alloc (Nat.le_refl _) _
  have hn := heap_alloc_new W (.cells #[.slice A xs.length c, .slice B ys.length d] t)
  have hlt : W.heap.size < (W.alloc (.cells #[.slice A xs.length c, .slice B ys.length d] t)).heap.size := (Array.getElem?_eq_some_iff.1 hn).1
  match k, hz with
  | 0, hz =>
    obtain rfl : xs = zs := by simpa using hz
    exact ⟨_, 0, A, c, rfl, hlt, by rw [cell_of_row _ _ _ _ t (0, 0) hn]; rfl, ra.on hb⟩
  | 1, hz =>
    obtain rfl : ys = zs := by simpa using hz
    exact ⟨_, 0, B, d, rfl, hlt, by rw [cell_of_row _ _ _ _ t (0, 0) hn]; rfl, rb.on hb⟩
  | k + 2, hz => simp at hz
theorem rows_one {A : Option Addr} {c : Nat} (xs : List Int) (W : World) (ra : Rd (Value.int .i64) W W.heap.size A xs) (t : TypeId) :
    RdRows (W.alloc (.cells #[.slice A xs.length c] t)) (W.alloc (.cells #[.slice A xs.length c] t)).heap.size (some ⟨W.heap.size, 0, none⟩) [xs] := fun k zs hz => by
  have hb : Below W.heap.size W (W.alloc (.cells #[.slice A xs.length c] t)) := (Below.refl _ _).alloc (Nat.le_refl _) _
  have hn := heap_alloc_new W (.cells #[.slice A xs.length c] t)
  have hlt : W.heap.size < (W.alloc (.cells #[.slice A xs.length c] t)).heap.size := (Array.getElem?_eq_some_iff.1 hn).1
  match k, hz with
  | 0, hz =>
    obtain rfl : xs = zs := by simpa using hz
    exact ⟨_, 0, A, c, rfl, hlt, by rw [cell_of_row _ _ _ _ t (0, 0) hn]; rfl, ra.on hb⟩
  | k + 1, hz => simp at hz
end Go.Proofs.Ytnokomlekndgfaa
