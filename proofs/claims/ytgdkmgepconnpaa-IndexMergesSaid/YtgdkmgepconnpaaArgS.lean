
/- An argument that is a list of lists of numbers, opened, with the reach. -/
import Derived.Test.YtgdkmgepconnpaaArgR
import Derived.SizedLaws
namespace Go.Proofs.Ytgdkmgepconnpaa
open Go.ChangeShapes Go.WideShapes Go.ChangeAt Go.RowKit Go.Deep
set_option linter.unusedVariables false
section
variable {H : Type} {enc : TypeId × Value → H} {P : Program} {W : World}
theorem weights_all {e : TypeId} : ∀ {ds : List (DataW H)} {d : DataW H}, d ∈ ds → ∀ n ∈ d.weights P e, n ∈ DataW.weightsAll P e ds
  | x :: ds, d, hd, n, hn => by
    simp only [DataW.weightsAll, List.mem_append]
    rcases List.mem_cons.1 hd with rfl | hd
    · exact Or.inl hn
    · exact Or.inr (weights_all hd n hn)
  | [], d, hd, _, _ => by simp at hd
theorem reach_num : reachBytes ≤ 140737488355327 := by decide
theorem open_rowsd {r : Reach} {t e q : TypeId} {v : Value} {d : DataW H} {ps : List MemPlace} (ht : P.underlying t = some (.slice e)) (he : P.underlying e = some (.slice q)) (hq : P.underlying q = some (.int .i64)) (ce : P.cellsOf e = 1) (cq : P.cellsOf q = 1) {b0 : Nat}
    (be : 1 ≤ P.bytesOf e) (bq : 1 ≤ P.bytesOf q) (hval : Value.okWide P W r b0 t v) (hd : DataW.Trod enc P W 0 (fun _ => true) true t v d ps) (hw : ∀ n ∈ d.weights P t, n ≤ reachBytes) :
    ∃ A rows c, v = .slice A rows.length c ∧ RdRows W W.heap.size A rows ∧ (∀ u ∈ rows, I64s u ∧ u.length ≤ 140737488355327) ∧ rows.length ≤ c ∧ c ≤ 9223372036854775807 ∧ rows.length ≤ 140737488355327 := by
  obtain ⟨A, len, cap, rfl⟩ := okWide_slice ht hval
  obtain ⟨fuel, hf⟩ := hd
  have hr := reach_num
  rcases open_int_rows ht he hq ce cq hf with ⟨hcs, _⟩ | ⟨a, len', cap', AA, L, C, Z, hcs, _, hl, hm, hx, hrows⟩
  · simp [Value.cells] at hcs
    obtain ⟨rfl, rfl, rfl⟩ := hcs
    exact ⟨none, [], 0, rfl, fun k x hx => by simp at hx, by intro x hx; simp at hx, by simp, by omega, by simp⟩
  · simp [Value.cells] at hcs
    obtain ⟨rfl, rfl, rfl⟩ := hcs
    have hlr : ∀ k, k < len → ((Z k).take (L k)).length = L k := fun k hk => by
      obtain ⟨_, h1, _, h3, _⟩ := hrows k (by omega)
      rw [List.length_take]; omega
    have hml : cap ≤ 9223372036854775807 := by unfold maxLen at hm; omega
    simp only [Prod.mk.injEq] at hx
    obtain ⟨rfl, _⟩ := hx
    have hlen : len ≤ 140737488355327 := by
      have h1 := hw _ (by simp only [DataW.weights, ht]; exact List.mem_cons_self)
      rw [List.length_map, List.length_range] at h1
      have h2 := Nat.mul_le_mul_left len be
      have h3 := Nat.mul_le_mul_right (P.bytesOf e) (show len ≤ len + (List.map (fun j => intRow (H := H) IntKind.i64 (AA (len + j)) (L (len + j)) (Z (len + j))) (List.range (cap - len))).length by omega)
      omega
    have hinner : ∀ k, k < len → L k ≤ 140737488355327 := fun k hk => by
      obtain ⟨_, h1, _, h3, _, h5, _⟩ := hrows k (by omega)
      cases hA : AA k with
      | none => have := h5 hA; omega
      | some a' =>
        have hin : intRow (H := H) IntKind.i64 (AA k) (L k) (Z k) ∈ (List.range len).map fun r => intRow (H := H) IntKind.i64 (AA r) (L r) (Z r) := List.mem_map.2 ⟨k, List.mem_range.2 hk, rfl⟩
        have h6 : ∀ n ∈ (intRow (H := H) IntKind.i64 (AA k) (L k) (Z k)).weights P e, n ≤ reachBytes := fun n hn => hw n (by
          simp only [DataW.weights, ht]
          exact List.mem_cons_of_mem _ (List.mem_append_left _ (weights_all hin n hn)))
        have h7 := h6 (((Z k).take (L k)).length * P.bytesOf q + ((Z k).drop (L k)).length * P.bytesOf q) (by
          rw [hA]
          simp only [intRow, DataW.weights, he, lits, List.length_map, Nat.add_mul]
          exact List.mem_cons_self)
        rw [hlr k hk] at h7
        have h8 := Nat.mul_le_mul_left (L k) bq
        omega
    refine ⟨some a, (List.range len).map fun k => (Z k).take (L k), cap, by simp, ?_, ?_, by simp; omega, hml, by simpa using hlen⟩
    · intro k xs hx
      have hk : k < len := by have := (List.getElem?_eq_some_iff.1 hx).1; simpa using this
      have hxs : xs = (Z k).take (L k) := by simpa [hk] using hx.symm
      obtain ⟨h0, h1, h2, h3, h4, h5, h6⟩ := hrows k (by omega)
      obtain ⟨b, off, spot⟩ := a
      have hs : spot = none := by simpa [Addr.add] using World.cell?_spot (hrows 0 (by omega)).1
      subst hs
      rw [add_plain] at h0
      refine ⟨b, off, AA k, C k, rfl, lt_of_cell h0, by rw [hxs, hlr k hk]; exact h0, ?_⟩
      cases hA : AA k with
      | none =>
        have := h5 hA
        have hnil : xs = [] := by rw [hxs]; exact List.eq_nil_of_length_eq_zero (by rw [hlr k hk]; omega)
        subst hnil
        exact Rd.none_
      | some a' => exact rd_cells hxs fun i hi => (h6 a' hA).2 i (by omega)
    · intro u hu
      obtain ⟨k, hk, rfl⟩ := List.mem_map.1 hu
      have hk' : k < len := by simpa using hk
      obtain ⟨_, h1, h2, _, h4, _⟩ := hrows k (by omega)
      exact ⟨fun x hx => I64.of_wf (h4 x (List.mem_of_mem_take hx)), by rw [hlr k hk']; exact hinner k hk'⟩
end
end Go.Proofs.Ytgdkmgepconnpaa
