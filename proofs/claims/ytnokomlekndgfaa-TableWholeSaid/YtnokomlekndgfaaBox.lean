
/- A block of the call's own that holds these values, cell by cell: structs in boxes; what stores and calls leave of them. -/
import Derived.Test.YtnokomlekndgfaaWd
namespace Go.Proofs.Ytnokomlekndgfaa
open Go.RowKit
set_option maxRecDepth 100000
set_option linter.unusedVariables false
/-- The cells of a block, none of them frozen. -/
def BoxL (w : World) (g : Nat) (vs : List Value) : Prop := ∀ (k : Nat) (v : Value), vs[k]? = some v → w.cell? ⟨g, k, none⟩ = some v ∧ w.frozen? ⟨g, k, none⟩ = false
section
variable {w w' : World} {g B : Nat} {vs : List Value}
theorem BoxL.below (h : BoxL w g vs) (hb : Below B w w') (hg : g < B) : BoxL w' g vs := fun k v hv =>
  ⟨(hb.cell (p := ⟨g, k, none⟩) hg).trans (h k v hv).1, (hb.frozen (p := ⟨g, k, none⟩) hg).trans (h k v hv).2⟩
theorem BoxL.new (w : World) (vs : List Value) (t : TypeId) : BoxL (w.alloc (.cells vs.toArray t)) w.heap.size vs := fun k v hv => by
  have hn := heap_alloc_new w (.cells vs.toArray t)
  refine ⟨?_, ?_⟩
  · rw [cell_of_row _ _ k _ t (0, 0) hn]
    simp [hv]
  · unfold World.frozen?
    simp only [hn]
    simp
theorem BoxL.one (h : BoxL w g vs) {k : Nat} {v : Value} (hv : vs[k]? = some v) (u : Value) : BoxL (w.setCell ⟨g, k, none⟩ u) g (vs.set k u) := fun j x hx => by
  refine ⟨?_, ?_⟩
  · by_cases e : j = k
    · subst e
      rw [List.getElem?_set_self (List.getElem?_eq_some_iff.1 hv).1] at hx
      obtain rfl : u = x := Option.some.inj hx
      exact World.cell?_setCell_same _ _ _ (h j v hv).1
    · rw [List.getElem?_set_ne (by omega)] at hx
      rw [World.cell?_setCell_other _ _ _ _ (by intro e'; injection e' with _ e2; exact e e2.symm)]
      exact (h j x hx).1
  · rw [World.frozen?_setCell]
    by_cases e : j = k
    · subst e; exact (h j v hv).2
    · rw [List.getElem?_set_ne (by omega)] at hx
      exact (h j x hx).2
theorem BoxL.other (h : BoxL w g vs) {p : Addr} (hp : p.block ≠ g) (u : Value) : BoxL (w.setCell p u) g vs := fun j x hx => by
  refine ⟨?_, ?_⟩
  · rw [World.cell?_setCell_other _ _ _ _ (by rintro rfl; exact hp rfl)]
    exact (h j x hx).1
  · rw [World.frozen?_setCell]; exact (h j x hx).2
theorem BoxL.drew (h : BoxL w g vs) : BoxL w.drew g vs := h
theorem BoxL.lt (h : BoxL w g vs) (h0 : 0 < vs.length) : g < w.heap.size := lt_of_cell (h 0 _ (List.getElem?_eq_getElem h0)).1
/-- The facts of two, eight, eleven cells. -/
theorem BoxL.two {a b : Value} (h : BoxL w g [a, b]) : w.cell? ⟨g, 0, none⟩ = some a ∧ w.cell? ⟨g, 1, none⟩ = some b ∧ w.frozen? ⟨g, 0, none⟩ = false ∧ w.frozen? ⟨g, 1, none⟩ = false :=
  ⟨(h 0 a rfl).1, (h 1 b rfl).1, (h 0 a rfl).2, (h 1 b rfl).2⟩
theorem BoxL.eight {a b c d e f i j : Value} (h : BoxL w g [a, b, c, d, e, f, i, j]) :
    (w.cell? ⟨g, 0, none⟩ = some a ∧ w.cell? ⟨g, 1, none⟩ = some b ∧ w.cell? ⟨g, 2, none⟩ = some c ∧ w.cell? ⟨g, 3, none⟩ = some d ∧ w.cell? ⟨g, 4, none⟩ = some e ∧ w.cell? ⟨g, 5, none⟩ = some f ∧ w.cell? ⟨g, 6, none⟩ = some i ∧ w.cell? ⟨g, 7, none⟩ = some j) ∧
    (w.frozen? ⟨g, 0, none⟩ = false ∧ w.frozen? ⟨g, 1, none⟩ = false ∧ w.frozen? ⟨g, 2, none⟩ = false ∧ w.frozen? ⟨g, 3, none⟩ = false ∧ w.frozen? ⟨g, 4, none⟩ = false ∧ w.frozen? ⟨g, 5, none⟩ = false ∧ w.frozen? ⟨g, 6, none⟩ = false ∧ w.frozen? ⟨g, 7, none⟩ = false) :=
  ⟨⟨(h 0 a rfl).1, (h 1 b rfl).1, (h 2 c rfl).1, (h 3 d rfl).1, (h 4 e rfl).1, (h 5 f rfl).1, (h 6 i rfl).1, (h 7 j rfl).1⟩, (h 0 a rfl).2, (h 1 b rfl).2, (h 2 c rfl).2, (h 3 d rfl).2, (h 4 e rfl).2, (h 5 f rfl).2, (h 6 i rfl).2, (h 7 j rfl).2⟩
theorem BoxL.cells11 {a b c d e f i j k l m : Value} (h : BoxL w g [a, b, c, d, e, f, i, j, k, l, m]) :
    w.cell? ⟨g, 0, none⟩ = some a ∧ w.cell? ⟨g, 1, none⟩ = some b ∧ w.cell? ⟨g, 2, none⟩ = some c ∧ w.cell? ⟨g, 3, none⟩ = some d ∧ w.cell? ⟨g, 4, none⟩ = some e ∧ w.cell? ⟨g, 5, none⟩ = some f ∧ w.cell? ⟨g, 6, none⟩ = some i ∧ w.cell? ⟨g, 7, none⟩ = some j ∧ w.cell? ⟨g, 8, none⟩ = some k ∧ w.cell? ⟨g, 9, none⟩ = some l ∧ w.cell? ⟨g, 10, none⟩ = some m :=
  ⟨(h 0 a rfl).1, (h 1 b rfl).1, (h 2 c rfl).1, (h 3 d rfl).1, (h 4 e rfl).1, (h 5 f rfl).1, (h 6 i rfl).1, (h 7 j rfl).1, (h 8 k rfl).1, (h 9 l rfl).1, (h 10 m rfl).1⟩
/-- Two cells laid at once; eight cells laid at once. -/
theorem BoxL.set2 {a b : Value} (h : BoxL w g [a, b]) (a' b' : Value) : BoxL ((w.setCell ⟨g, 0, none⟩ a').setCell ⟨g, 1, none⟩ b') g [a', b'] :=
  (h.one (k := 0) rfl a').one (k := 1) (v := b) rfl b'
theorem BoxL.other2 (h : BoxL w g vs) {g' : Nat} (hg : g' ≠ g) (a' b' : Value) : BoxL ((w.setCell ⟨g', 0, none⟩ a').setCell ⟨g', 1, none⟩ b') g vs :=
  (h.other (p := ⟨g', 0, none⟩) hg a').other (p := ⟨g', 1, none⟩) hg b'
end
theorem own_set {w : World} {base n : Nat} {e : TypeId} {v : Value} {vs : List Value} (h : w.ownsRow base e 1 v n vs) {p : Addr} (hp : p.block < base) (u : Value) : (w.setCell p u).ownsRow base e 1 v n vs := by
  refine ⟨h.1, ?_⟩
  rcases h.2 with hn | ⟨g, cap, cur, hv, hg, hh, r⟩
  · exact .inl hn
  · exact .inr ⟨g, cap, cur, hv, hg, (Below.heap_setCell w p u g (by omega)).trans hh, r⟩
end Go.Proofs.Ytnokomlekndgfaa
