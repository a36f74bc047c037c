
/- The chapter's examples; how many are short enough. -/
import Derived.Test.YtmljhckbeoalgaaVecU
namespace Go.Proofs.Ytmljhckbeoalgaa
open Go.RowKit
set_option maxHeartbeats 400000
set_option linter.unusedVariables false
theorem rd_block {α : Type} {enc : α → Value} {w : World} {b : Nat} {t : TypeId} (xs : List α) (fr : Nat × Nat) (h : w.heap[b]? = some (.cells (xs.map enc).toArray t fr)) : Rd enc w w.heap.size (some ⟨b, 0, none⟩) xs := fun k x hx => by
  refine ⟨b, 0, rfl, (Array.getElem?_eq_some_iff.1 h).1, ?_⟩
  have hk := (List.getElem?_eq_some_iff.1 hx)
  rw [Nat.zero_add, cell_of_row w b k _ t fr h]
  simp [hx]
theorem rd_new {α : Type} {enc : α → Value} (w : World) (t : TypeId) (xs : List α) : Rd enc (w.alloc (.cells (xs.map enc).toArray t)) (w.alloc (.cells (xs.map enc).toArray t)).heap.size (some ⟨w.heap.size, 0, none⟩) xs := rd_block xs (0, 0) (heap_alloc_new w _)
theorem rd_two (w : World) (t : TypeId) (a b : Int) : Rd (Value.int .i64) (w.alloc (.cells #[.int .i64 a, .int .i64 b] t)) (w.alloc (.cells #[.int .i64 a, .int .i64 b] t)).heap.size (some ⟨w.heap.size, 0, none⟩) [a, b] := rd_new w t [a, b]
theorem rd_four (w : World) (t : TypeId) (a b c d : Int) : Rd (Value.int .i64) ((w.alloc (.cells #[.int .i64 a, .int .i64 b] t)).alloc (.cells #[.int .i64 c, .int .i64 d] t)) ((w.alloc (.cells #[.int .i64 a, .int .i64 b] t)).alloc (.cells #[.int .i64 c, .int .i64 d] t)).heap.size (some ⟨w.heap.size, 0, none⟩) [a, b] ∧
    Rd (Value.int .i64) ((w.alloc (.cells #[.int .i64 a, .int .i64 b] t)).alloc (.cells #[.int .i64 c, .int .i64 d] t)) ((w.alloc (.cells #[.int .i64 a, .int .i64 b] t)).alloc (.cells #[.int .i64 c, .int .i64 d] t)).heap.size (some ⟨w.heap.size + 1, 0, none⟩) [c, d] := by
  refine ⟨(rd_two w t a b).on ((Below.refl _ _).alloc (Nat.le_refl _) _), ?_⟩
  have h := rd_two (w.alloc (.cells #[.int .i64 a, .int .i64 b] t)) t c d
  rw [show (w.alloc (.cells #[.int .i64 a, .int .i64 b] t)).heap.size = w.heap.size + 1 by simp] at h
  exact h
theorem live_yes (w : World) :
    Calls Try.prog 10 #[] w fun e w' => e = .returned (.bool true) ∧ Below w.heap.size w w' := by
  have i2 : ∀ {a b : Int}, I64 a → I64 b → I64s [a, b] := fun ha hb x hx => by
    simp only [List.mem_cons, List.not_mem_nil, or_false] at hx
    rcases hx with rfl | rfl <;> assumption
  have C1 := hid (fun (A B : Option Addr) (c d : Nat) (W : World) r1 r2 => Dot_any (A := A) (B := B) (c := c) (d := d) [1, 2] [3, 4] (by decide) (by decide) (i2 (by decide) (by decide)) (i2 (by decide) (by decide)) 0 W r1 r2)
  rw [show dotV [1, 2] [3, 4] 0 = 11 by decide, show dotE [1, 2] [3, 4] 0 = 0 by decide, show ([1, 2] : List Int).length = 2 from rfl, show ([3, 4] : List Int).length = 2 from rfl] at C1
  have C2 := hid (fun (A : Option Addr) (c : Nat) (W : World) r1 => Size_any (A := A) (c := c) [-3, 4] (by decide) (i2 (by decide) (by decide)) W r1)
  rw [show sizeV [-3, 4] = 7 by decide, show sizeE [-3, 4] = 0 by decide, show ([-3, 4] : List Int).length = 2 from rfl] at C2
  have C3 := hid (Zero_any 2)
  rw [show zeroV 2 = [0, 0] by decide, show zeroE 2 = 0 by decide] at C3
  clear i2
  go_enter Try.func10, Try.ntmps10
  go_wp2_with fail
  refine (C1.out _ _ _ _ _ (rd_four w 2 1 2 3 4).1 (rd_four w 2 1 2 3 4).2).mono ?_
  rintro _ w1 ⟨rfl, hb1⟩
  go_wp2_with fail
  refine (C2.out _ _ _ (rd_two w1 2 (-3) 4)).mono ?_
  rintro _ w2 ⟨rfl, hb2⟩
  go_wp2_with fail
  refine (C3.out _).mono ?_
  rintro _ w3 ⟨A', c', rfl, ho, hb3⟩
  clear ho
  go_wp2_with fail
  go_ret
  have k0 : Below w.heap.size w ((w.alloc (.cells #[.int .i64 1, .int .i64 2] 2)).alloc (.cells #[.int .i64 3, .int .i64 4] 2)) := by go_grown
  have k1 := k0.trans (hb1.mono k0.size)
  have k2 := k1.trans (((Below.refl w1.heap.size w1).alloc (Nat.le_refl _) (.cells #[.int .i64 (-3), .int .i64 4] 2)).mono k1.size)
  have k3 := k2.trans (hb2.mono k2.size)
  exact ⟨rfl, k3.trans (hb3.mono k3.size)⟩
/-- Are lists short enough to be played? -/
def fewB (rows : List (List Int)) : Bool := rows.all (fun r => decide (r.length ≤ 5000)) && decide (rows.length ≤ 100)
theorem few_at {rows : List (List Int)} (h : fewB rows = true) {r : List Int} (hr : r ∈ rows) : r.length ≤ 5000 := by
  unfold fewB at h
  rw [Bool.and_eq_true, List.all_eq_true] at h
  simpa using h.1 r hr
theorem few_len {rows : List (List Int)} (h : fewB rows = true) : rows.length ≤ 100 := by
  unfold fewB at h
  rw [Bool.and_eq_true] at h
  simpa using h.2
theorem few_step {rows : List (List Int)} {k : Nat} {u : List Int} (hu : rows[k]? = some u) (hl : u.length ≤ 5000) (h : (rows.take k).all (fun r => decide (r.length ≤ 5000)) = true) : (rows.take (k + 1)).all (fun r => decide (r.length ≤ 5000)) = true := by
  rw [List.take_add_one, hu, List.all_append, h]
  simpa using hl
theorem few_no {rows : List (List Int)} {k : Nat} {u : List Int} (hu : rows[k]? = some u) (hl : ¬ u.length ≤ 5000) : fewB rows = false := by
  cases h : fewB rows with
  | false => rfl
  | true => exact absurd (few_at h (List.mem_of_getElem? hu)) hl
theorem few_any (A : Option Addr) (c : Nat) (rows : List (List Int)) (hr : rows.length ≤ 9223372036854775807) (hu : ∀ u ∈ rows, u.length ≤ 9223372036854775807) (w : World) (ra : RdRows w w.heap.size A rows) :
    Calls Try.prog 11 #[.slice A rows.length c] w fun e w' => e = .returned (.bool (fewB rows)) ∧ w = w' := by
  have RA := hid ra
  have HU := hid hu
  clear ra hu
  go_enter Try.func11, Try.ntmps11
  go_wp2_with fail
  go_loopw [7] (fun i wr => ∃ k : Nat, k ≤ rows.length ∧ i = .int .i64 k ∧ (rows.take k).all (fun r => decide (r.length ≤ 5000)) = true ∧ w = wr) (fun i _ => rows.length - (intOf i).toNat)
  case atStart => exact ⟨0, by omega, rfl, rfl, rfl⟩
  case round =>
    obtain ⟨k, hk, rfl, hs, rfl⟩ := hrel
    have HS := hid hs
    clear hs
    by_cases hlt : k < rows.length
    · obtain ⟨u, hu⟩ : ∃ u, rows[k]? = some u := ⟨_, List.getElem?_eq_getElem hlt⟩
      obtain ⟨b, off, A3, c3, rfl, l3, hc3, hr3⟩ := RA.out k u hu
      have lu := HU.out u (List.mem_of_getElem? hu)
      have HX := hid hu
      clear hr3 hu
      by_cases hl : u.length ≤ 5000
      · go_wp2_with fail
        go_roundw
        case rel => exact ⟨k + 1, by omega, by go_num, few_step HX.out hl HS.out, by trivial⟩
        case measure => simp [intOf]; omega
      · have hl2 : 5000 < u.length := by omega
        go_wp2_with fail
        go_ret
        rw [few_no HX.out hl]
        exact ⟨rfl, rfl⟩
    · obtain rfl : k = rows.length := by omega
      go_wp2_with fail
      go_ret
      have := HS.out
      rw [List.take_of_length_le (Nat.le_refl _)] at this
      refine ⟨?_, rfl⟩
      unfold fewB
      rw [this]
      simp
      omega
theorem rows_two {A B : Option Addr} {c d : Nat} (xs ys : List Int) (W : World) (ra : Rd (Value.int .i64) W W.heap.size A xs) (rb : Rd (Value.int .i64) W W.heap.size B ys) (t : TypeId) :
    RdRows (W.alloc (.cells #[.slice A xs.length c, .slice B ys.length d] t)) (W.alloc (.cells #[.slice A xs.length c, .slice B ys.length d] t)).heap.size (some ⟨W.heap.size, 0, none⟩) [xs, ys] := fun k zs hz => by
  have hb : Below W.heap.size W (W.alloc (.cells #[.slice A xs.length c, .slice B ys.length d] t)) := (Below.refl _ _).alloc (Nat.le_refl _) _
  have hn := heap_alloc_new W (.cells #[.slice A xs.length c, .slice B ys.length d] t)
  have hlt : W.heap.size < (W.alloc (.cells #[.slice A xs.length c, .slice B ys.length d] t)).heap.size := (Array.getElem?_eq_some_iff.1 hn).1
  match k, hz with
  | 0, hz =>
    obtain rfl : xs = zs := by simpa using hz
    exact ⟨_, 0, A, c, rfl, hlt, by rw [cell_of_row _ _ _ _ t (0, 0) hn]; rfl, ra.on hb⟩
  | 1, hz =>
    obtain rfl : ys = zs := by simpa using hz
    exact ⟨_, 0, B, d, rfl, hlt, by rw [cell_of_row _ _ _ _ t (0, 0) hn]; rfl, rb.on hb⟩
  | k + 2, hz => simp at hz
theorem rows_one {A : Option Addr} {c : Nat} (xs : List Int) (W : World) (ra : Rd (Value.int .i64) W W.heap.size A xs) (t : TypeId) :
    RdRows (W.alloc (.cells #[.slice A xs.length c] t)) (W.alloc (.cells #[.slice A xs.length c] t)).heap.size (some ⟨W.heap.size, 0, none⟩) [xs] := fun k zs hz => by
  have hb : Below W.heap.size W (W.alloc (.cells #[.slice A xs.length c] t)) := (Below.refl _ _).alloc (Nat.le_refl _) _
  have hn := heap_alloc_new W (.cells #[.slice A xs.length c] t)
  have hlt : W.heap.size < (W.alloc (.cells #[.slice A xs.length c] t)).heap.size := (Array.getElem?_eq_some_iff.1 hn).1
  match k, hz with
  | 0, hz =>
    obtain rfl : xs = zs := by simpa using hz
    exact ⟨_, 0, A, c, rfl, hlt, by rw [cell_of_row _ _ _ _ t (0, 0) hn]; rfl, ra.on hb⟩
  | k + 1, hz => simp at hz
theorem few_two {A B : Option Addr} {c d : Nat} (xs ys : List Int) (hx : xs.length ≤ 9223372036854775807) (hy : ys.length ≤ 9223372036854775807) (W : World) (ra : Rd (Value.int .i64) W W.heap.size A xs) (rb : Rd (Value.int .i64) W W.heap.size B ys) :
    Calls Try.prog 11 #[.slice (some ⟨W.heap.size, 0, none⟩) 2 2] (W.alloc (.cells #[.slice A xs.length c, .slice B ys.length d] 22)) fun e w' => e = .returned (.bool (fewB [xs, ys])) ∧ W.alloc (.cells #[.slice A xs.length c, .slice B ys.length d] 22) = w' :=
  few_any _ 2 [xs, ys] (by simp) (fun u hu => by
    simp only [List.mem_cons, List.not_mem_nil, or_false] at hu
    rcases hu with rfl | rfl <;> assumption) _ (rows_two xs ys W ra rb _)
theorem few_one {A : Option Addr} {c : Nat} (xs : List Int) (hx : xs.length ≤ 9223372036854775807) (W : World) (ra : Rd (Value.int .i64) W W.heap.size A xs) :
    Calls Try.prog 11 #[.slice (some ⟨W.heap.size, 0, none⟩) 1 1] (W.alloc (.cells #[.slice A xs.length c] 22)) fun e w' => e = .returned (.bool (fewB [xs])) ∧ W.alloc (.cells #[.slice A xs.length c] 22) = w' :=
  few_any _ 1 [xs] (by simp) (fun u hu => by
    simp only [List.mem_cons, List.not_mem_nil, or_false] at hu
    subst hu; assumption) _ (rows_one xs W ra _)
end Go.Proofs.Ytmljhckbeoalgaa
