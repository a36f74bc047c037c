
/- vec's functions, each by its contract: Same, Most, Zero, Sum, and what they take of package slices. -/
import Derived.Test.YtmljhckbeoalgaaVec2
import Derived.Outline
namespace Go.Proofs.Ytmljhckbeoalgaa
open Go.RowKit
set_option maxHeartbeats 400000
set_option linter.unusedVariables false
/-- Are they the same? -/
def eqB (xs ys : List Int) : Bool := decide (xs = ys)
theorem take_step {xs ys : List Int} {k : Nat} {x y : Int} (h : xs.take k = ys.take k) (hx : xs[k]? = some x) (hy : ys[k]? = some y) (e : x = y) : xs.take (k + 1) = ys.take (k + 1) := by
  rw [List.take_add_one, List.take_add_one, h, hx, hy, e]
theorem eqB_no {xs ys : List Int} {k : Nat} {x y : Int} (hx : xs[k]? = some x) (hy : ys[k]? = some y) (e : x ≠ y) : eqB xs ys = false := by
  unfold eqB
  rw [decide_eq_false_iff_not]
  rintro rfl
  rw [hx] at hy
  exact e (Option.some.inj hy)
theorem eqB_yes {xs ys : List Int} {k : Nat} (h : xs.take k = ys.take k) (hx : k = xs.length) (hl : xs.length = ys.length) : eqB xs ys = true := by
  unfold eqB
  rw [List.take_of_length_le (by omega), List.take_of_length_le (by omega)] at h
  simpa using h
theorem eqB_len {xs ys : List Int} (h : xs.length ≠ ys.length) : eqB xs ys = false := by
  unfold eqB
  rw [decide_eq_false_iff_not]
  rintro rfl
  exact h rfl
theorem Equal_any {A B : Option Addr} {c d : Nat} (xs ys : List Int) (hx : xs.length ≤ 9223372036854775807) (hy : ys.length ≤ 9223372036854775807) (w : World)
    (ra : Rd (Value.int .i64) w w.heap.size A xs) (rb : Rd (Value.int .i64) w w.heap.size B ys) :
    Calls Try.prog 52 #[.slice A xs.length c, .slice B ys.length d] w fun e w' => e = .returned (.bool (eqB xs ys)) ∧ Below w.heap.size w w' := by
  by_cases hl : xs.length = ys.length
  · have HA := hid ra
    have HB := hid rb
    clear ra rb
    have h1 : ((xs.length : Int) != (ys.length : Int)) = false := by simp; omega
    have h2 : (xs.length != ys.length) = false := by simp; omega
    have HL := hid hl
    clear hl
    go_enter Try.func52, Try.ntmps52
    go_wp2_with fail
    clear h1 h2
    go_loopw [13] (fun i wr => ∃ k : Nat, k ≤ xs.length ∧ i = .int .i64 k ∧ xs.take k = ys.take k ∧ Below w.heap.size w wr) (fun i _ => xs.length - (intOf i).toNat)
    case atStart => exact ⟨0, by omega, rfl, rfl, Below.refl _ _⟩
    case round =>
      obtain ⟨k, hk, rfl, ht, hb⟩ := hrel
      have HT := hid ht
      clear ht
      by_cases hlt : k < xs.length
      · have hlt2 : k < ys.length := by have := HL.out; omega
        obtain ⟨b1, o1, x, rfl, l1, ex, c1⟩ := (HA.out.below hb).at_ hlt
        obtain ⟨b2, o2, y, rfl, l2, ey, c2⟩ := (HB.out.below hb).at_ hlt2
        have EX := hid ex
        have EY := hid ey
        clear ex ey
        by_cases e : x = y
        · have e' : (x != y) = false := by simpa using e
          have E := hid e
          clear e
          go_wp2_with fail
          go_quiet (fail)
          go_wp2_with fail
          go_roundw
          case rel => exact ⟨k + 1, by omega, by go_num, take_step HT.out EX.out EY.out E.out, hb.trans (belowN _ _ _)⟩
          case measure => simp [intOf]; omega
        · have e' : (x != y) = true := by simpa using e
          go_wp2_with fail
          go_quiet (fail)
          go_wp2_with fail
          go_ret
          rw [eqB_no EX.out EY.out e]
          exact ⟨rfl, hb.trans (belowN _ _ _)⟩
      · have hke : k = xs.length := by omega
        have HK := hid hke
        clear hke
        go_wp2_with fail
        go_ret
        rw [eqB_yes HT.out HK.out HL.out]
        exact ⟨rfl, hb⟩
  · rw [eqB_len hl]
    have h1 : ((xs.length : Int) != (ys.length : Int)) = true := by simp; omega
    have h2 : (xs.length != ys.length) = true := by simp; omega
    go_enter Try.func52, Try.ntmps52
    go_wp2_with fail
    go_ret
    exact ⟨rfl, Below.refl _ _⟩
theorem Same_any {A B : Option Addr} {c d : Nat} (xs ys : List Int) (hx : xs.length ≤ 9223372036854775807) (hy : ys.length ≤ 9223372036854775807) (w : World)
    (ra : Rd (Value.int .i64) w w.heap.size A xs) (rb : Rd (Value.int .i64) w w.heap.size B ys) :
    Calls Try.prog 25 #[.slice A xs.length c, .slice B ys.length d] w fun e w' => e = .returned (.bool (eqB xs ys)) ∧ Below w.heap.size w w' := by
  have C := hid (Equal_any (c := c) (d := d) xs ys hx hy w ra rb)
  clear ra rb
  go_enter Try.func25, Try.ntmps25
  go_wp2_with fail
  refine C.out.mono ?_
  rintro _ w1 ⟨rfl, hb1⟩
  go_wp2_with fail
  go_ret
  exact ⟨rfl, hb1⟩
def zeroE (n : Int) : Int := if n < 0 ∨ 4096 < n then 1 else 0
def zeroV (n : Int) : List Int := if n < 0 ∨ 4096 < n then [] else List.replicate n.toNat 0
theorem Zero_any (n : Int) (w : World) :
    Calls Try.prog 23 #[.int .i64 n] w (OwnInts (zeroV n) (zeroE n) w) := by
  by_cases h : n < 0 ∨ 4096 < n
  · rw [show zeroE n = 1 from if_pos h, show zeroV n = [] from if_pos h]
    by_cases h1 : n < 0
    · clear h
      go_enter Try.func23, Try.ntmps23
      go_wp2_with fail
      go_ret2
      exact ⟨none, 0, rfl, own_nil _ _ _, Below.refl _ _⟩
    · have h2 : 4096 < n := by omega
      clear h
      go_enter Try.func23, Try.ntmps23
      go_wp2_with fail
      go_ret2
      exact ⟨none, 0, rfl, own_nil _ _ _, Below.refl _ _⟩
  · rw [show zeroE n = 0 from if_neg h, show zeroV n = List.replicate n.toNat 0 from if_neg h]
    obtain ⟨k, rfl⟩ := Int.eq_ofNat_of_zero_le (show 0 ≤ n by omega)
    have hmk := fun W => run_make_row' (P := Try.prog) 22 2 (.int .i64 0) 8 Try.underlying22 info_i64 rfl .i64 .i64 k (by omega) (by omega) W
    go_enter Try.func23, Try.ntmps23
    go_wp2_with fail
    go_ret2
    refine ⟨some ⟨w.heap.size, 0, none⟩, k, by simp, ?_, by go_grown⟩
    have := own_made (B := w.heap.size) (w' := w) (World.rowIs_made w (.int .i64 0) k 2) (Nat.le_refl _) (by unfold maxLen; omega)
    simpa [List.map_const'] using this
/-- The greatest of numbers that are not below 0 (0 of none). -/
def mx (xs : List Int) : Int := xs.foldl max 0
theorem mx_step {xs : List Int} {k : Nat} {x : Int} (hx : xs[k]? = some x) : mx (xs.take (k + 1)) = max (mx (xs.take k)) x := by
  unfold mx
  rw [List.take_add_one, hx]
  simp [List.foldl_append]
theorem mx_ge : ∀ (xs : List Int) (a : Int), a ≤ xs.foldl max a
  | [], a => Int.le_refl _
  | x :: xs, a => by
    have := mx_ge xs (max a x)
    simp only [List.foldl_cons]
    omega
theorem mx_i64 {xs : List Int} (h : I64s xs) : ∀ a, I64 a → I64 (xs.foldl max a) := by
  induction xs with
  | nil => exact fun a ha => ha
  | cons x xs ih =>
    intro a ha
    refine ih (fun y hy => h y (by simp [hy])) (max a x) ?_
    have := h x (by simp)
    unfold I64 at *
    omega
theorem Max_any {A : Option Addr} {c : Nat} (xs : List Int) (hx : xs.length ≤ 9223372036854775807) (hp : 0 < xs.length) (h0 : ∀ x ∈ xs, 0 ≤ x) (w : World) (ra : Rd (Value.int .i64) w w.heap.size A xs) :
    Calls Try.prog 59 #[.slice A xs.length c] w fun e w' => e = .returned (.int .i64 (mx xs)) ∧ Below w.heap.size w w' := by
  obtain ⟨b1, o1, x0, rfl, l1, ex, c1⟩ := ra.at_ hp
  have hx0 : 0 ≤ x0 := h0 x0 (List.mem_of_getElem? ex)
  have e1 : mx (xs.take 1) = x0 := by
    rw [show (1 : Nat) = 0 + 1 from rfl, mx_step ex]
    show max 0 x0 = x0
    omega
  have E1 := hid e1
  have HA := hid ra
  clear ra ex e1
  have hp2 : ¬ ((xs.length : Int) < 1) := by omega
  rw [Nat.add_zero] at c1
  go_enter Try.func59, Try.ntmps59
  go_wp2_with fail
  go_loopw [3, 4] (fun m i wr => ∃ (k : Nat) (z : Int), k ≤ xs.length ∧ 1 ≤ k ∧ i = .int .i64 k ∧ m = .int .i64 z ∧ mx (xs.take k) = z ∧ Below w.heap.size w wr) (fun _ i _ => xs.length - (intOf i).toNat)
  case atStart => exact ⟨1, x0, by omega, by omega, rfl, rfl, E1.out, Below.refl _ _⟩
  case round =>
    obtain ⟨k, z, hk, hk1, rfl, rfl, hz, hb⟩ := hrel
    have HZ := hid hz
    clear hz
    by_cases hlt : k < xs.length
    · obtain ⟨b2, o2, y, e3, l2, ey, c2⟩ := (HA.out.below hb).at_ hlt
      have e4 := Option.some.inj e3
      simp only [Addr.mk.injEq] at e4
      obtain ⟨rfl, rfl, _⟩ := e4
      have EY := hid (mx_step ey)
      clear e3 ey
      go_wp2_with fail
      go_roundw
      case rel =>
        refine ⟨k + 1, if z < y then y else z, by omega, by omega, by go_num, rfl, ?_, hb⟩
        rw [EY.out, HZ.out]
        split <;> omega
      case measure => simp [intOf]; omega
    · obtain rfl : k = xs.length := by omega
      go_wp2_with fail
      go_ret
      have := HZ.out
      rw [List.take_of_length_le (Nat.le_refl _)] at this
      rw [this]
      exact ⟨rfl, hb⟩
def mostE (xs : List Int) : Int := unE 0 (numA xs) xs.length
def mostV (xs : List Int) : Int := mx (unV 0 (numA xs) xs.length)
theorem numA_pos (xs : List Int) (k : Nat) : 0 ≤ (numA xs k).1 := by
  unfold numA ckV absI
  simp only
  split <;> split <;> omega
theorem abs_pos (xs : List Int) : ∀ x ∈ unV 0 (numA xs) xs.length, 0 ≤ x := by
  intro x hx
  unfold unV seqV at hx
  split at hx
  · split at hx
    · obtain ⟨k, _, rfl⟩ := List.mem_map.1 hx
      exact numA_pos xs k
    · simp at hx
  · simp at hx
theorem most_H {A : Option Addr} {c : Nat} (xs : List Int) (ix : I64s xs) (w : World) (ra : Rd (Value.int .i64) w w.heap.size A xs)
    (k : Nat) (hk : k < xs.length) (W : World) (hW : Below (w.alloc (.cells #[.slice A xs.length c] 22)).heap.size (w.alloc (.cells #[.slice A xs.length c] 22)) W) :
    Calls Try.prog 58 (#[.int .i64 k] ++ #[.pointer (some ⟨w.heap.size, 0, none⟩)]) W fun e w' => e = .returned (.tuple #[.int .i64 (numA xs k).1, .int .i64 (numA xs k).2]) ∧ Below W.heap.size W w' := by
  obtain ⟨_, _, x, _, _, hx, _⟩ := ra.at_ hk
  obtain ⟨ca, hb⟩ := one_cell w (.slice A xs.length c) 22
  have h := most_cl xs (cell_later hW ca) (ra.below (hb.trans (hW.mono hb.size))) hx (ix.at_ hx)
  unfold numA
  rw [getD_of hx]
  exact h
theorem mx_nil : mx [] = 0 := rfl
theorem Most_any {A : Option Addr} {c : Nat} (xs : List Int) (hx : xs.length ≤ 9223372036854775807) (ix : I64s xs) (w : World) (ra : Rd (Value.int .i64) w w.heap.size A xs) :
    Calls Try.prog 32 #[.slice A xs.length c] w fun e w' => e = .returned (.tuple #[.int .i64 (mostV xs), .int .i64 (mostE xs)]) ∧ Below w.heap.size w w' := by
  have CM := hid (Check_any A xs.length c hx)
  have HB := hid (one_cell w (.slice A xs.length c) 22).2
  unfold mostV mostE
  by_cases hn : 4096 < xs.length
  · have e := un_long hn 0 (numA xs)
    rw [e.1, e.2, mx_nil]
    rw [show oneE xs.length = 3 from if_pos hn] at CM
    clear ra ix e
    go_enter Try.func32, Try.ntmps32
    go_wp2_with fail
    refine (CM.out _).mono ?_
    rintro _ _ ⟨rfl, rfl⟩
    go_wp2_with fail
    go_ret2
    exact ⟨rfl, HB.out⟩
  · have e := un_ok hn (numA xs)
    have hp := abs_pos xs
    have hlen := unV_len 0 (numA xs) xs.length
    rw [show oneE xs.length = 0 from if_neg hn] at CM
    have hL := hid (list_any _ _ xs.length (by omega) _ (numA xs) most_ok (most_H (c := c) xs ix w ra))
    rw [e.2] at hp hlen
    rw [e.1, e.2]
    obtain ⟨er, he⟩ : ∃ s, seqE (numA xs) xs.length = s := ⟨_, rfl⟩
    have hne : er ≠ 0 → seqV (numA xs) xs.length = [] := fun h => by unfold seqV; rw [he, if_neg h]
    obtain ⟨v, hv⟩ : ∃ s, seqV (numA xs) xs.length = s := ⟨_, rfl⟩
    rw [he, hv] at hL
    rw [he, hv]
    rw [hv] at hp hne hlen
    clear ra ix he hv e
    by_cases h0 : er = 0
    · subst h0
      clear hne
      by_cases hvn : v = []
      · subst hvn
        rw [mx_nil]
        clear hp
        go_enter Try.func32, Try.ntmps32
        go_wp2_with fail
        refine (CM.out _).mono ?_
        rintro _ _ ⟨rfl, rfl⟩
        go_wp2_with fail
        refine hL.out.mono ?_
        rintro _ w2 ⟨A', c', rfl, ho, hb2⟩
        clear ho
        go_wp2_with fail
        go_ret2
        exact ⟨rfl, HB.out.trans (hb2.mono HB.out.size)⟩
      · have hvl : 0 < v.length := List.length_pos_iff.2 hvn
        have CX := hid (fun (A' : Option Addr) (c' : Nat) (W : World) hr => Max_any (A := A') (c := c') v (by omega) hvl hp W hr)
        have hv1 : ((v.length : Int) == 0) = false := by simp; omega
        have hv2 : (v.length == 0) = false := by simp; omega
        clear hp hvn
        go_enter Try.func32, Try.ntmps32
        go_wp2_with fail
        refine (CM.out _).mono ?_
        rintro _ _ ⟨rfl, rfl⟩
        go_wp2_with fail
        refine hL.out.mono ?_
        rintro _ w2 ⟨A', c', rfl, ho, hb2⟩
        have HO := hid (own_rd ho)
        clear ho
        go_wp2_with fail
        refine (CX.out _ _ _ HO.out).mono ?_
        rintro _ w3 ⟨rfl, hb3⟩
        go_wp2_with fail
        go_ret2
        exact ⟨rfl, HB.out.trans ((hb2.trans (hb3.mono hb2.size)).mono HB.out.size)⟩
    · obtain rfl := hne h0
      rw [mx_nil]
      have hq : (er != 0) = true := by simpa using h0
      clear hne h0 hp
      go_enter Try.func32, Try.ntmps32
      go_wp2_with fail
      refine (CM.out _).mono ?_
      rintro _ _ ⟨rfl, rfl⟩
      go_wp2_with fail
      refine hL.out.mono ?_
      rintro _ w2 ⟨A', c', rfl, ho, hb2⟩
      clear ho
      go_wp2_with fail
      go_ret2
      exact ⟨rfl, HB.out.trans (hb2.mono HB.out.size)⟩
end Go.Proofs.Ytmljhckbeoalgaa
