
/- The chapter's example; how many numbers are few enough; what is told the same. -/
import Derived.Test.YtgdkmgepconnpaaIxP
import Derived.Test.YtgdkmgepconnpaaIxC
namespace Go.Proofs.Ytgdkmgepconnpaa
open Go.RowKit
set_option maxHeartbeats 400000
set_option linter.unusedVariables false
/-- Places told, where they end, an error, named one by one. -/
def OwnX (xs : List Int) (a er : Int) (w : World) (e : Ending) (w' : World) : Prop :=
  ∃ A c, e = .returned (.tuple #[.slice A xs.length c, .int .i64 a, .int .i64 er]) ∧ w'.ownsRow w.heap.size 3 1 (.slice A xs.length c) xs.length (xs.map (Value.int .i64)) ∧ Below w.heap.size w w'
theorem cells_int : Try.prog.cellsOf 3 = 1 := by kernel_rfl
theorem cells_ints : Try.prog.cellsOf 22 = 1 := by kernel_rfl
theorem put_live : pixV 9 [1, 2, 5] = [3, 1, 0, 2] ∧ chkE 9 [1, 2, 5] = 0 := by
  have h : chkE 9 [1, 2, 5] = 0 := by decide
  refine ⟨?_, h⟩
  unfold pixV
  rw [if_pos h]
  show encs [3, 1, 0, 2] = _
  simp [encs, lebI_last]
theorem get_live : gixR 9 [3, 1, 0, 2] 0 = ([1, 2, 5], 4, 0) := by decide
theorem rd_three (w : World) (t : TypeId) (a b c : Int) : Rd (Value.int .i64) (w.alloc (.cells #[.int .i64 a, .int .i64 b, .int .i64 c] t)) (w.alloc (.cells #[.int .i64 a, .int .i64 b, .int .i64 c] t)).heap.size (some ⟨w.heap.size, 0, none⟩) [a, b, c] := rd_new w t [a, b, c]
theorem rd_four8 (w : World) (t : TypeId) (a b c d : Int) : Rd (Value.int .u8) (w.alloc (.cells #[.int .u8 a, .int .u8 b, .int .u8 c, .int .u8 d] t)) (w.alloc (.cells #[.int .u8 a, .int .u8 b, .int .u8 c, .int .u8 d] t)).heap.size (some ⟨w.heap.size, 0, none⟩) [a, b, c, d] := rd_new w t [a, b, c, d]
/-- Equal lists are found so. -/
theorem equal_yes {X : List Int} (hx : X.length ≤ 9223372036854775807) {A B : Option Addr} {c d : Nat} (W : World) {L M : Nat} (h1 : Rd (Value.int .i64) W L A X) (h2 : Rd (Value.int .i64) W M B X) :
    Calls Try.prog 16 #[.slice A X.length c, .slice B X.length d] W fun e w' => e = .returned (.bool true) ∧ Below W.heap.size W w' := by
  have h := ref_Equal (A := A) (B := B) (c := c) (d := d) X X hx hx W h1 h2
  rw [eqB_self] at h
  exact h.mono fun _ _ ⟨h1, n, h2⟩ => ⟨h1, by rw [h2]; exact belowN _ _ _⟩
theorem ref_CheckB {A : Option Addr} {c : Nat} (dim : Int) (l : List Int) (hd : I64 dim) (hl : l.length ≤ 100000) (w : World) (ra : Rd (Value.int .i64) w w.heap.size A l) :
    Calls Try.prog 18 #[.int .i64 dim, .slice A l.length c] w fun e w' => e = .returned (.int .i64 (chkE dim l)) ∧ Below w.heap.size w w' :=
  (ref_Check dim l hd (by omega) w ra).mono fun _ _ ⟨h, n, e⟩ => ⟨h, by rw [e]; exact belowN _ _ _⟩
theorem grow (w : World) (o : Obj) : Below w.heap.size w (w.alloc o) := (Below.refl _ _).alloc (Nat.le_refl _) _
theorem ref_Same64 {A B : Option Addr} {c d : Nat} (xs ys : List Int) (hx : xs.length ≤ 9223372036854775807) (hy : ys.length ≤ 9223372036854775807) (w : World) {L M : Nat}
    (ra : Rd (Value.int .i64) w L A xs) (rb : Rd (Value.int .i64) w M B ys) :
    Calls Try.prog 25 #[.slice A xs.length c, .slice B ys.length d] w fun e w' => e = .returned (.bool (eqB xs ys)) ∧ ∃ n, w' = w.drewN n := by
  by_cases hl : xs.length = ys.length
  · have HA := hid ra
    have HB := hid rb
    clear ra rb
    have h1 : ((xs.length : Int) != (ys.length : Int)) = false := by simp; omega
    have h2 : (xs.length != ys.length) = false := by simp; omega
    have HL := hid hl
    clear hl
    go_enter Try.func25, Try.ntmps25
    go_wp2_with fail
    clear h1 h2
    go_loopw [13] (fun i wr => ∃ k : Nat, k ≤ xs.length ∧ i = .int .i64 k ∧ xs.take k = ys.take k ∧ ∃ n, wr = w.drewN n) (fun i _ => xs.length - (intOf i).toNat)
    case atStart => exact ⟨0, by omega, rfl, rfl, 0, rfl⟩
    case round =>
      obtain ⟨k, hk, rfl, ht, n, rfl⟩ := hrel
      have HT := hid ht
      clear ht
      by_cases hlt : k < xs.length
      · have hlt2 : k < ys.length := by have := HL.out; omega
        obtain ⟨b1, o1, x, rfl, l1, ex, c1⟩ := HA.out.at_ hlt
        obtain ⟨b2, o2, y, rfl, l2, ey, c2⟩ := HB.out.at_ hlt2
        have EX := hid ex
        have EY := hid ey
        clear ex ey
        by_cases e : x = y
        · have e' : (x != y) = false := by simpa using e
          have E := hid e
          clear e
          go_wp2_with fail
          go_quiet (fail)
          go_wp2_with fail
          go_roundw
          case rel => exact ⟨k + 1, by omega, by go_num, take_step HT.out EX.out EY.out E.out, _, rfl⟩
          case measure => simp [intOf]; omega
        · have e' : (x != y) = true := by simpa using e
          go_wp2_with fail
          go_quiet (fail)
          go_wp2_with fail
          go_ret
          rw [eqB_no EX.out EY.out e]
          exact ⟨rfl, drewN_two _ _ _⟩
      · have hke : k = xs.length := by omega
        have HK := hid hke
        clear hke
        go_wp2_with fail
        go_ret
        rw [eqB_yes HT.out HK.out HL.out]
        exact ⟨rfl, _, rfl⟩
  · rw [eqB_len hl]
    have h1 : ((xs.length : Int) != (ys.length : Int)) = true := by simp; omega
    have h2 : (xs.length != ys.length) = true := by simp; omega
    go_enter Try.func25, Try.ntmps25
    go_wp2_with fail
    go_ret
    exact ⟨rfl, 0, rfl⟩
theorem same64_yes {X : List Int} (hx : X.length ≤ 9223372036854775807) {A B : Option Addr} {c d : Nat} (W : World) (h1 : Rd (Value.int .i64) W W.heap.size A X) (h2 : Rd (Value.int .i64) W W.heap.size B X) :
    Calls Try.prog 25 #[.slice A X.length c, .slice B X.length d] W fun e w' => e = .returned (.bool true) ∧ Below W.heap.size W w' := by
  have h := ref_Same64 (A := A) (B := B) (c := c) (d := d) X X hx hx W h1 h2
  rw [eqB_self] at h
  exact h.mono fun _ _ ⟨h1, n, h2⟩ => ⟨h1, by rw [h2]; exact belowN _ _ _⟩
theorem live_yes (w : World) :
    Calls Try.prog 9 #[] w fun e w' => e = .returned (.bool true) ∧ Below w.heap.size w w' := by
  have C1 := hid (fun (A : Option Addr) (c : Nat) (W : World) r1 => ix_Put (A := A) (c := c) 9 [1, 2, 5] (by decide) (by decide) W r1)
  rw [put_live.1, put_live.2, show ([1, 2, 5] : List Int).length = 3 from rfl] at C1
  have u4 : U8s [3, 1, 0, 2] := by intro x hx; simp at hx; omega
  have C2 := hid (fun (A : Option Addr) (c : Nat) (W : World) q1 q2 r1 => ix_Get (A := A) (c := c) 9 [3, 1, 0, 2] (by decide) q1 q2 u4 0 (by decide) W r1)
  rw [get_live, show ([3, 1, 0, 2] : List Int).length = 4 from rfl] at C2
  have C3 := hid (fun (A B : Option Addr) (c d : Nat) (W : World) (L M : Nat) h1 h2 => same_yes u4 A B c d W L M h1 h2)
  rw [show ([3, 1, 0, 2] : List Int).length = 4 from rfl] at C3
  have C4 := hid (fun (A B : Option Addr) (c d : Nat) (W : World) (L M : Nat) h1 h2 => equal_yes (X := [1, 2, 5]) (by decide) (A := A) (B := B) (c := c) (d := d) W (L := L) (M := M) h1 h2)
  rw [show ([1, 2, 5] : List Int).length = 3 from rfl] at C4
  clear u4
  go_enter Try.func9, Try.ntmps9
  go_wp2_with fail
  refine (C1.out _ _ _ (rd_three w 3 1 2 5)).mono ?_
  rintro _ w1 ⟨A1, c1, rfl, ho1, hb1⟩
  have k0 : Below w.heap.size w (w.alloc (.cells #[.int .i64 1, .int .i64 2, .int .i64 5] 3)) := by go_grown
  have k1 := k0.trans (hb1.mono k0.size)
  obtain ⟨q1, q2⟩ := own_cap ho1
  have R1 := hid (own_rd ho1)
  clear ho1 hb1
  go_wp2_with fail
  refine (C2.out _ _ _ q1 q2 R1.out).mono ?_
  rintro _ w2 ⟨A2, c2, rfl, ho2, hb2⟩
  have k2 := k1.trans (hb2.mono k1.size)
  have R2 := hid (own_rd ho2)
  have R12 := hid (R1.out.on hb2)
  clear ho2 hb2 R1 k0 k1
  go_wp2_with fail
  refine (C3.out _ _ _ _ _ _ _ (R12.out.on (grow w2 _)) (rd_four8 w2 5 3 1 0 2)).mono ?_
  rintro _ _ ⟨rfl, rfl⟩
  have k3 := k2.trans ((grow w2 (.cells #[.int .u8 3, .int .u8 1, .int .u8 0, .int .u8 2] 5)).mono k2.size)
  have R3 := hid (R2.out.on (grow w2 (.cells #[.int .u8 3, .int .u8 1, .int .u8 0, .int .u8 2] 5)))
  obtain ⟨w3, hw3⟩ : ∃ w3, w2.alloc (.cells #[.int .u8 3, .int .u8 1, .int .u8 0, .int .u8 2] 5) = w3 := ⟨_, rfl⟩
  rw [hw3] at R3 k3 ⊢
  clear hw3 R2 R12 k2
  go_wp2_with fail
  refine (C4.out _ _ _ _ _ _ _ (R3.out.on (grow w3 _)) (rd_three w3 3 1 2 5)).mono ?_
  rintro _ w4 ⟨rfl, hb4⟩
  have k4 := k3.trans (((grow w3 _).trans (hb4.mono (grow w3 _).size)).mono k3.size)
  clear hb4
  go_wp2_with fail
  go_ret
  exact ⟨rfl, k4⟩
/-- Are lists short enough to be played? -/
def fewS (ls : List (List Int)) : Bool := decide (ls.flatten.length ≤ 600) && decide (ls.length ≤ 100)
theorem few_sum {ls : List (List Int)} (h : fewS ls = true) : ls.flatten.length ≤ 600 ∧ ls.length ≤ 100 := by
  unfold fewS at h
  rw [Bool.and_eq_true] at h
  exact ⟨of_decide_eq_true h.1, of_decide_eq_true h.2⟩
theorem flat_step {ls : List (List Int)} {k : Nat} {u : List Int} (h : ls[k]? = some u) : (ls.take (k + 1)).flatten.length = (ls.take k).flatten.length + u.length := by
  rw [List.take_add_one, h, List.flatten_append, List.length_append]
  simp
theorem flat_le {ls : List (List Int)} {n : Nat} (h : ∀ u ∈ ls, u.length ≤ n) : ls.flatten.length ≤ ls.length * n := by
  induction ls with
  | nil => simp
  | cons u ls ih =>
    rw [List.flatten_cons, List.length_append, List.length_cons, Nat.add_mul]
    have h1 := h u (by simp)
    have h2 := ih (fun v hv => h v (by simp [hv]))
    omega
theorem few_any (A : Option Addr) (c : Nat) (rows : List (List Int)) (hr : rows.length ≤ 140737488355327) (hu : ∀ u ∈ rows, u.length ≤ 140737488355327) (w : World) (ra : RdRows w w.heap.size A rows) :
    Calls Try.prog 10 #[.slice A rows.length c] w fun e w' => e = .returned (.bool (fewS rows)) ∧ w = w' := by
  have RA := hid ra
  have HU := hid hu
  clear ra
  by_cases h100 : rows.length ≤ 100
  · have HT : Hid (∀ k, (rows.take k).flatten.length ≤ 14073748835532700) := hid (fun k => by
      have h1 := flat_le (ls := rows.take k) (n := 140737488355327) (fun u hu' => hu u (List.mem_of_mem_take hu'))
      have h2 : (rows.take k).length ≤ 100 := by rw [List.length_take]; omega
      have h3 := Nat.mul_le_mul_right 140737488355327 h2
      omega)
    clear hu
    go_enter Try.func10, Try.ntmps10
    go_wp2_with fail
    go_loop [3, 5, 8] (fun s x i => ∃ (k T : Nat), k ≤ rows.length ∧ i = .int .i64 k ∧ s = .int .i64 T ∧ T = (rows.take k).flatten.length) (fun _ _ i => rows.length - (intOf i).toNat)
    case atStart => exact ⟨0, 0, by omega, rfl, rfl, rfl⟩
    case round =>
      obtain ⟨k, T, hk, rfl, rfl, hT⟩ := hrel
      have hTb : T ≤ 14073748835532700 := by rw [hT]; exact HT.out k
      have HTT := hid hT
      clear hT
      by_cases hlt : k < rows.length
      · obtain ⟨u, hu⟩ : ∃ u, rows[k]? = some u := ⟨_, List.getElem?_eq_getElem hlt⟩
        obtain ⟨b, off, A3, c3, rfl, l3, hc3, hr3⟩ := RA.out k u hu
        have lu := HU.out u (List.mem_of_getElem? hu)
        have HX := hid (flat_step hu)
        clear hr3 hu
        go_wp2_with fail
        go_round
        case rel => exact ⟨k + 1, T + u.length, by omega, by go_num, by go_num, by rw [HX.out, HTT.out]⟩
        case measure => simp [intOf]; omega
      · have HF : Hid (fewS rows = decide (T ≤ 600)) := hid (by
          have h := HTT.out
          rw [List.take_of_length_le (by omega)] at h
          unfold fewS
          rw [← h, decide_eq_true h100, Bool.and_true])
        have hd : decide ((rows.length : Int) ≤ 100) = true := decide_eq_true (by omega)
        by_cases h6 : T ≤ 600
        · go_wp2_with fail
          go_ret
          rw [HF.out, decide_eq_true h6]
          exact ⟨rfl, rfl⟩
        · go_wp2_with fail
          go_ret
          rw [HF.out, decide_eq_false h6]
          exact ⟨rfl, rfl⟩
  · have HF : Hid (fewS rows = false) := hid (by unfold fewS; rw [decide_eq_false h100, Bool.and_false])
    clear hu
    go_enter Try.func10, Try.ntmps10
    go_wp2_with fail
    go_loop [3, 5, 8] (fun s x i => ∃ (k : Nat) (T : Int), k ≤ rows.length ∧ i = .int .i64 k ∧ s = .int .i64 T) (fun _ _ i => rows.length - (intOf i).toNat)
    case atStart => exact ⟨0, 0, by omega, rfl, rfl⟩
    case round =>
      obtain ⟨k, T, hk, rfl, rfl⟩ := hrel
      by_cases hlt : k < rows.length
      · obtain ⟨u, hu⟩ : ∃ u, rows[k]? = some u := ⟨_, List.getElem?_eq_getElem hlt⟩
        obtain ⟨b, off, A3, c3, rfl, l3, hc3, hr3⟩ := RA.out k u hu
        have lu := HU.out u (List.mem_of_getElem? hu)
        clear hr3 hu
        go_wp2_with fail
        go_round
        case rel => exact ⟨k + 1, _, by omega, by go_num, rfl⟩
        case measure => simp [intOf]; omega
      · have hd : decide ((rows.length : Int) ≤ 100) = false := decide_eq_false (by omega)
        by_cases h6 : T ≤ 600
        · go_wp2_with fail
          go_ret
          rw [HF.out]
          exact ⟨rfl, rfl⟩
        · have h6' : 600 < T := by omega
          go_wp2_with fail
          go_ret
          rw [HF.out]
          exact ⟨rfl, rfl⟩
theorem few_one {A : Option Addr} {c : Nat} (xs : List Int) (hx : xs.length ≤ 140737488355327) (W : World) (ra : Rd (Value.int .i64) W W.heap.size A xs) :
    Calls Try.prog 10 #[.slice (some ⟨W.heap.size, 0, none⟩) 1 1] (W.alloc (.cells #[.slice A xs.length c] 22)) fun e w' => e = .returned (.bool (decide (xs.length ≤ 600))) ∧ W.alloc (.cells #[.slice A xs.length c] 22) = w' := by
  have h := few_any _ 1 [xs] (by simp) (fun u hu => by
    simp only [List.mem_cons, List.not_mem_nil, or_false] at hu
    rcases hu with rfl; assumption) _ (rows_one (c := c) xs W ra 22)
  rw [show fewS [xs] = decide (xs.length ≤ 600) by unfold fewS; simp] at h
  exact h
end Go.Proofs.Ytgdkmgepconnpaa
