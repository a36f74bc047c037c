
/- An argument that is a list of numbers, or a list of such lists, opened. -/
import Derived.Test.YtgdkmgepconnpaaLaw
import Derived.Test.YtgdkmgepconnpaaRws
import Derived.Deep.Matrix
namespace Go.Proofs.Ytgdkmgepconnpaa
open Go.ChangeShapes Go.WideShapes Go.ChangeAt Go.RowKit Go.Deep
set_option linter.unusedVariables false
theorem cells_i64 : Try.prog.cellsOf 2 = 1 := by kernel_rfl
theorem cells_i64s : Try.prog.cellsOf 35 = 1 := by kernel_rfl
section
variable {H : Type} {enc : TypeId × Value → H} {P : Program} {W : World}
theorem add_at {a : Addr} {b off : Nat} (h : a = ⟨b, off, none⟩) (i : Nat) : a.add i = ⟨b, off + i, none⟩ := by rw [h, add_plain]
theorem rd_cells {a : Addr} {zs xs : List Int} {m : Nat} (hm : xs = zs.take m) (hc : ∀ i, i < m → W.cell? (a.add i) = some (.int .i64 (zs.getD i 0))) : Rd (Value.int .i64) W W.heap.size (some a) xs := fun k x hx => by
  subst hm
  have hk : k < (zs.take m).length := (List.getElem?_eq_some_iff.1 hx).1
  have hkm : k < m := by rw [List.length_take] at hk; omega
  obtain ⟨b, off, spot⟩ := a
  have hs : spot = none := by simpa [Addr.add] using World.cell?_spot (hc 0 (by omega))
  subst hs
  have h := hc k hkm
  rw [add_plain] at h
  have hz : zs.getD k 0 = x := by
    rw [List.getElem?_take_of_lt hkm] at hx
    simp [List.getD, hx]
  rw [hz] at h
  exact ⟨b, off, rfl, lt_of_cell h, h⟩
theorem open_i64s {r : Reach} {t e : TypeId} {v : Value} {d : DataW H} {ps : List MemPlace} (ht : P.underlying t = some (.slice e)) (he : P.underlying e = some (.int .i64)) (hc : P.cellsOf e = 1) {b0 : Nat}
    (hval : Value.okWide P W r b0 t v) (hd : DataW.Trod enc P W 0 (fun _ => true) true t v d ps) :
    ∃ A xs c, v = .slice A xs.length c ∧ Rd (Value.int .i64) W W.heap.size A xs ∧ I64s xs ∧ xs.length ≤ c ∧ c ≤ 9223372036854775807 := by
  obtain ⟨A, len, cap, rfl⟩ := okWide_slice ht hval
  obtain ⟨fuel, hf⟩ := hd
  rcases open_ints ht he hc hf with ⟨hcs, _⟩ | ⟨a, len', cap', zs, hcs, _, hl, hm, hz, _, hcell, hwz⟩
  · simp [Value.cells] at hcs
    obtain ⟨rfl, rfl, rfl⟩ := hcs
    exact ⟨none, [], 0, rfl, Rd.none_, by intro x hx; simp at hx, by simp, by omega⟩
  · simp [Value.cells] at hcs
    obtain ⟨rfl, rfl, rfl⟩ := hcs
    simp only [if_true] at hz
    have hlen : (zs.take len).length = len := by rw [List.length_take]; omega
    refine ⟨some a, zs.take len, cap, by rw [hlen], rd_cells rfl fun i hi => hcell i (by omega), fun x hx => I64.of_wf (hwz x (List.mem_of_mem_take hx)), by omega, by unfold maxLen at hm; omega⟩
theorem open_rows {r : Reach} {t e q : TypeId} {v : Value} {d : DataW H} {ps : List MemPlace} (ht : P.underlying t = some (.slice e)) (he : P.underlying e = some (.slice q)) (hq : P.underlying q = some (.int .i64)) (ce : P.cellsOf e = 1) (cq : P.cellsOf q = 1) {b0 : Nat}
    (hval : Value.okWide P W r b0 t v) (hd : DataW.Trod enc P W 0 (fun _ => true) true t v d ps) :
    ∃ A rows c, v = .slice A rows.length c ∧ RdRows W W.heap.size A rows ∧ (∀ u ∈ rows, I64s u ∧ u.length ≤ 9223372036854775807) ∧ rows.length ≤ c ∧ c ≤ 9223372036854775807 := by
  obtain ⟨A, len, cap, rfl⟩ := okWide_slice ht hval
  obtain ⟨fuel, hf⟩ := hd
  rcases open_int_rows ht he hq ce cq hf with ⟨hcs, _⟩ | ⟨a, len', cap', AA, L, C, Z, hcs, _, hl, hm, _, hrows⟩
  · simp [Value.cells] at hcs
    obtain ⟨rfl, rfl, rfl⟩ := hcs
    exact ⟨none, [], 0, rfl, fun k x hx => by simp at hx, by intro x hx; simp at hx, by simp, by omega⟩
  · simp [Value.cells] at hcs
    obtain ⟨rfl, rfl, rfl⟩ := hcs
    have hlr : ∀ k, k < len → ((Z k).take (L k)).length = L k := fun k hk => by
      obtain ⟨_, h1, _, h3, _⟩ := hrows k (by omega)
      rw [List.length_take]; omega
    have hml : cap ≤ 9223372036854775807 := by unfold maxLen at hm; omega
    refine ⟨some a, (List.range len).map fun k => (Z k).take (L k), cap, by simp, ?_, ?_, by simp; omega, hml⟩
    · intro k xs hx
      have hk : k < len := by have := (List.getElem?_eq_some_iff.1 hx).1; simpa using this
      have hxs : xs = (Z k).take (L k) := by simpa [hk] using hx.symm
      obtain ⟨h0, h1, h2, h3, h4, h5, h6⟩ := hrows k (by omega)
      obtain ⟨b, off, spot⟩ := a
      have hs : spot = none := by simpa [Addr.add] using World.cell?_spot (hrows 0 (by omega)).1
      subst hs
      rw [add_plain] at h0
      refine ⟨b, off, AA k, C k, rfl, lt_of_cell h0, by rw [hxs, hlr k hk]; exact h0, ?_⟩
      cases hA : AA k with
      | none =>
        have := h5 hA
        have hnil : xs = [] := by rw [hxs]; exact List.eq_nil_of_length_eq_zero (by rw [hlr k hk]; omega)
        subst hnil
        exact Rd.none_
      | some a' => exact rd_cells hxs fun i hi => (h6 a' hA).2 i (by omega)
    · intro u hu
      obtain ⟨k, hk, rfl⟩ := List.mem_map.1 hu
      have hk' : k < len := by simpa using hk
      obtain ⟨_, h1, h2, _, h4, _⟩ := hrows k (by omega)
      exact ⟨fun x hx => I64.of_wf (h4 x (List.mem_of_mem_take hx)), by rw [hlr k hk']; unfold maxLen at h2; omega⟩
end
end Go.Proofs.Ytgdkmgepconnpaa
