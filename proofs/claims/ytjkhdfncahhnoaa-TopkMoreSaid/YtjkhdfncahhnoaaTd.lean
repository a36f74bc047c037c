
/- Td: texts joined: IxR FsA FrB FrC FrD ArgF ArgT. -/
import Derived.Test.YtjkhdfncahhnoaaTIxQ
import Derived.Test.YtjkhdfncahhnoaaTa
import Derived.Test.YtjkhdfncahhnoaaTFrA
import Derived.Test.YtjkhdfncahhnoaaTb
import Derived.Deep.QuietTactic
import Derived.BigQuiet
import Derived.ChangeSame
/- The program's places: their code put and got. -/
namespace Go.Proofs.Ytjkhdfncahhnoaa
open Go.RowKit
set_option maxHeartbeats 400000
set_option linter.unusedVariables false
/-- A row that was made, filled place by place. -/
theorem own_fill {w' : World} {b B : Nat} {e : TypeId} {O : List Int} (h : w'.rowIs b e O.length (fun j => .int .i64 (O.getD j 0))) (hB : B ≤ b) (hn : O.length ≤ maxLen) :
    w'.ownsRow B e 1 (.slice (some ⟨b, 0, none⟩) O.length O.length) O.length (O.map (Value.int .i64)) := by
  have h2 := own_made (w' := w') h hB hn
  have e2 : (List.range O.length).map (fun j => Value.int .i64 (O.getD j 0)) = O.map (Value.int .i64) := by
    apply List.ext_getElem (by simp)
    intro i h1 h2
    simp at h1
    simp [List.getD, h1]
  rwa [e2] at h2
theorem getD_snoc (O : List Int) (z : Int) (j : Nat) : (O ++ [z]).getD j 0 = if j = O.length then z else O.getD j 0 := by
  unfold List.getD
  by_cases h : j < O.length
  · rw [List.getElem?_append_left h, if_neg (by omega)]
  · rw [List.getElem?_append_right (by omega)]
    by_cases e : j = O.length
    · rw [if_pos e, e]; simp
    · rw [if_neg e, List.getElem?_eq_none (by simp; omega), List.getElem?_eq_none (by omega)]
end Go.Proofs.Ytjkhdfncahhnoaa
/- Lists and arrays that are compared, by package slices; the program's view of a vector and of a frame. -/
namespace Go.Proofs.Ytjkhdfncahhnoaa
open Go.RowKit
set_option maxHeartbeats 400000
set_option maxRecDepth 100000
set_option linter.unusedVariables false
theorem eq_u64s {A B : Option Addr} {c d : Nat} (xs ys : List Int) (hx : xs.length ≤ 9223372036854775807) (hy : ys.length ≤ 9223372036854775807) (w : World) {L M : Nat}
    (ra : Rd (Value.int .u64) w L A xs) (rb : Rd (Value.int .u64) w M B ys) :
    Calls Try.prog 43 #[.slice A xs.length c, .slice B ys.length d] w fun e w' => e = .returned (.bool (eqB xs ys)) ∧ ∃ n, w' = w.drewN n := by
  by_cases hl : xs.length = ys.length
  · have HA := hid ra
    have HB := hid rb
    clear ra rb
    have h1 : ((xs.length : Int) != (ys.length : Int)) = false := by simp; omega
    have h2 : (xs.length != ys.length) = false := by simp; omega
    have HL := hid hl
    clear hl
    go_enter Try.func43, Try.ntmps43
    go_wp2_with fail
    clear h1 h2
    go_loopw [13] (fun i wr => ∃ k : Nat, k ≤ xs.length ∧ i = .int .i64 k ∧ xs.take k = ys.take k ∧ ∃ n, wr = w.drewN n) (fun i _ => xs.length - (intOf i).toNat)
    case atStart => exact ⟨0, by omega, rfl, rfl, 0, rfl⟩
    case round =>
      obtain ⟨k, hk, rfl, ht, n, rfl⟩ := hrel
      have HT := hid ht
      clear ht
      by_cases hlt : k < xs.length
      · have hlt2 : k < ys.length := by have := HL.out; omega
        obtain ⟨b1, o1, x, rfl, l1, ex, c1⟩ := HA.out.at_ hlt
        obtain ⟨b2, o2, y, rfl, l2, ey, c2⟩ := HB.out.at_ hlt2
        have EX := hid ex
        have EY := hid ey
        clear ex ey
        by_cases e : x = y
        · have e' : (x != y) = false := by simpa using e
          have E := hid e
          clear e
          go_wp2_with fail
          go_quiet (fail)
          go_wp2_with fail
          go_roundw
          case rel => exact ⟨k + 1, by omega, by go_num, take_step HT.out EX.out EY.out E.out, _, rfl⟩
          case measure => simp [intOf]; omega
        · have e' : (x != y) = true := by simpa using e
          go_wp2_with fail
          go_quiet (fail)
          go_wp2_with fail
          go_ret
          rw [eqB_no EX.out EY.out e]
          exact ⟨rfl, drewN_two _ _ _⟩
      · have hke : k = xs.length := by omega
        have HK := hid hke
        clear hke
        go_wp2_with fail
        go_ret
        rw [eqB_yes HT.out HK.out HL.out]
        exact ⟨rfl, _, rfl⟩
  · rw [eqB_len hl]
    have h1 : ((xs.length : Int) != (ys.length : Int)) = true := by simp; omega
    have h2 : (xs.length != ys.length) = true := by simp; omega
    go_enter Try.func43, Try.ntmps43
    go_wp2_with fail
    go_ret
    exact ⟨rfl, 0, rfl⟩
theorem eq_ints {A B : Option Addr} {c d : Nat} (xs ys : List Int) (hx : xs.length ≤ 9223372036854775807) (hy : ys.length ≤ 9223372036854775807) (w : World) {L M : Nat}
    (ra : Rd (Value.int .i64) w L A xs) (rb : Rd (Value.int .i64) w M B ys) :
    Calls Try.prog 41 #[.slice A xs.length c, .slice B ys.length d] w fun e w' => e = .returned (.bool (eqB xs ys)) ∧ ∃ n, w' = w.drewN n := by
  by_cases hl : xs.length = ys.length
  · have HA := hid ra
    have HB := hid rb
    clear ra rb
    have h1 : ((xs.length : Int) != (ys.length : Int)) = false := by simp; omega
    have h2 : (xs.length != ys.length) = false := by simp; omega
    have HL := hid hl
    clear hl
    go_enter Try.func41, Try.ntmps41
    go_wp2_with fail
    clear h1 h2
    go_loopw [13] (fun i wr => ∃ k : Nat, k ≤ xs.length ∧ i = .int .i64 k ∧ xs.take k = ys.take k ∧ ∃ n, wr = w.drewN n) (fun i _ => xs.length - (intOf i).toNat)
    case atStart => exact ⟨0, by omega, rfl, rfl, 0, rfl⟩
    case round =>
      obtain ⟨k, hk, rfl, ht, n, rfl⟩ := hrel
      have HT := hid ht
      clear ht
      by_cases hlt : k < xs.length
      · have hlt2 : k < ys.length := by have := HL.out; omega
        obtain ⟨b1, o1, x, rfl, l1, ex, c1⟩ := HA.out.at_ hlt
        obtain ⟨b2, o2, y, rfl, l2, ey, c2⟩ := HB.out.at_ hlt2
        have EX := hid ex
        have EY := hid ey
        clear ex ey
        by_cases e : x = y
        · have e' : (x != y) = false := by simpa using e
          have E := hid e
          clear e
          go_wp2_with fail
          go_quiet (fail)
          go_wp2_with fail
          go_roundw
          case rel => exact ⟨k + 1, by omega, by go_num, take_step HT.out EX.out EY.out E.out, _, rfl⟩
          case measure => simp [intOf]; omega
        · have e' : (x != y) = true := by simpa using e
          go_wp2_with fail
          go_quiet (fail)
          go_wp2_with fail
          go_ret
          rw [eqB_no EX.out EY.out e]
          exact ⟨rfl, drewN_two _ _ _⟩
      · have hke : k = xs.length := by omega
        have HK := hid hke
        clear hke
        go_wp2_with fail
        go_ret
        rw [eqB_yes HT.out HK.out HL.out]
        exact ⟨rfl, _, rfl⟩
  · rw [eqB_len hl]
    have h1 : ((xs.length : Int) != (ys.length : Int)) = true := by simp; omega
    have h2 : (xs.length != ys.length) = true := by simp; omega
    go_enter Try.func41, Try.ntmps41
    go_wp2_with fail
    go_ret
    exact ⟨rfl, 0, rfl⟩
theorem eq_i64s {A B : Option Addr} {c d : Nat} (xs ys : List Int) (hx : xs.length ≤ 9223372036854775807) (hy : ys.length ≤ 9223372036854775807) (w : World) {L M : Nat}
    (ra : Rd (Value.int .i64) w L A xs) (rb : Rd (Value.int .i64) w M B ys) :
    Calls Try.prog 42 #[.slice A xs.length c, .slice B ys.length d] w fun e w' => e = .returned (.bool (eqB xs ys)) ∧ ∃ n, w' = w.drewN n := by
  by_cases hl : xs.length = ys.length
  · have HA := hid ra
    have HB := hid rb
    clear ra rb
    have h1 : ((xs.length : Int) != (ys.length : Int)) = false := by simp; omega
    have h2 : (xs.length != ys.length) = false := by simp; omega
    have HL := hid hl
    clear hl
    go_enter Try.func42, Try.ntmps42
    go_wp2_with fail
    clear h1 h2
    go_loopw [13] (fun i wr => ∃ k : Nat, k ≤ xs.length ∧ i = .int .i64 k ∧ xs.take k = ys.take k ∧ ∃ n, wr = w.drewN n) (fun i _ => xs.length - (intOf i).toNat)
    case atStart => exact ⟨0, by omega, rfl, rfl, 0, rfl⟩
    case round =>
      obtain ⟨k, hk, rfl, ht, n, rfl⟩ := hrel
      have HT := hid ht
      clear ht
      by_cases hlt : k < xs.length
      · have hlt2 : k < ys.length := by have := HL.out; omega
        obtain ⟨b1, o1, x, rfl, l1, ex, c1⟩ := HA.out.at_ hlt
        obtain ⟨b2, o2, y, rfl, l2, ey, c2⟩ := HB.out.at_ hlt2
        have EX := hid ex
        have EY := hid ey
        clear ex ey
        by_cases e : x = y
        · have e' : (x != y) = false := by simpa using e
          have E := hid e
          clear e
          go_wp2_with fail
          go_quiet (fail)
          go_wp2_with fail
          go_roundw
          case rel => exact ⟨k + 1, by omega, by go_num, take_step HT.out EX.out EY.out E.out, _, rfl⟩
          case measure => simp [intOf]; omega
        · have e' : (x != y) = true := by simpa using e
          go_wp2_with fail
          go_quiet (fail)
          go_wp2_with fail
          go_ret
          rw [eqB_no EX.out EY.out e]
          exact ⟨rfl, drewN_two _ _ _⟩
      · have hke : k = xs.length := by omega
        have HK := hid hke
        clear hke
        go_wp2_with fail
        go_ret
        rw [eqB_yes HT.out HK.out HL.out]
        exact ⟨rfl, _, rfl⟩
  · rw [eqB_len hl]
    have h1 : ((xs.length : Int) != (ys.length : Int)) = true := by simp; omega
    have h2 : (xs.length != ys.length) = true := by simp; omega
    go_enter Try.func42, Try.ntmps42
    go_wp2_with fail
    go_ret
    exact ⟨rfl, 0, rfl⟩
theorem eq_bools {A B : Option Addr} {c d : Nat} (xs ys : List Bool) (hx : xs.length ≤ 9223372036854775807) (hy : ys.length ≤ 9223372036854775807) (w : World) {L M : Nat}
    (ra : Rd Value.bool w L A xs) (rb : Rd Value.bool w M B ys) :
    Calls Try.prog 44 #[.slice A xs.length c, .slice B ys.length d] w fun e w' => e = .returned (.bool (eqN xs ys)) ∧ ∃ n, w' = w.drewN n := by
  by_cases hl : xs.length = ys.length
  · have HA := hid ra
    have HB := hid rb
    clear ra rb
    have h1 : ((xs.length : Int) != (ys.length : Int)) = false := by simp; omega
    have h2 : (xs.length != ys.length) = false := by simp; omega
    have HL := hid hl
    clear hl
    go_enter Try.func44, Try.ntmps44
    go_wp2_with fail
    clear h1 h2
    go_loopw [13] (fun i wr => ∃ k : Nat, k ≤ xs.length ∧ i = .int .i64 k ∧ xs.take k = ys.take k ∧ ∃ n, wr = w.drewN n) (fun i _ => xs.length - (intOf i).toNat)
    case atStart => exact ⟨0, by omega, rfl, rfl, 0, rfl⟩
    case round =>
      obtain ⟨k, hk, rfl, ht, n, rfl⟩ := hrel
      have HT := hid ht
      clear ht
      by_cases hlt : k < xs.length
      · have hlt2 : k < ys.length := by have := HL.out; omega
        obtain ⟨b1, o1, x, rfl, l1, ex, c1⟩ := HA.out.at_ hlt
        obtain ⟨b2, o2, y, rfl, l2, ey, c2⟩ := HB.out.at_ hlt2
        have EX := hid ex
        have EY := hid ey
        clear ex ey
        by_cases e : x = y
        · subst e
          have EE : Hid (xs.take (k + 1) = ys.take (k + 1)) := hid (takeN_step HT.out EX.out EY.out rfl)
          cases x
          · go_wp2_with fail
            go_quiet (fail)
            go_wp2_with fail
            go_roundw
            case rel => exact ⟨k + 1, by omega, by go_num, EE.out, _, rfl⟩
            case measure => simp [intOf]; omega
          · go_wp2_with fail
            go_quiet (fail)
            go_wp2_with fail
            go_roundw
            case rel => exact ⟨k + 1, by omega, by go_num, EE.out, _, rfl⟩
            case measure => simp [intOf]; omega
        · have hne := eqN_no EX.out EY.out e
          cases x <;> cases y
          · exact absurd rfl e
          · go_wp2_with fail
            go_quiet (fail)
            go_wp2_with fail
            go_ret
            rw [hne]
            exact ⟨rfl, drewN_two _ _ _⟩
          · go_wp2_with fail
            go_quiet (fail)
            go_wp2_with fail
            go_ret
            rw [hne]
            exact ⟨rfl, drewN_two _ _ _⟩
          · exact absurd rfl e
      · have hke : k = xs.length := by omega
        have HK := hid hke
        clear hke
        go_wp2_with fail
        go_ret
        rw [eqN_yes HT.out HK.out HL.out]
        exact ⟨rfl, _, rfl⟩
  · rw [eqN_len hl]
    have h1 : ((xs.length : Int) != (ys.length : Int)) = true := by simp; omega
    have h2 : (xs.length != ys.length) = true := by simp; omega
    clear hl ra rb
    go_enter Try.func44, Try.ntmps44
    go_wp2_with fail
    go_ret
    exact ⟨rfl, 0, rfl⟩
end Go.Proofs.Ytjkhdfncahhnoaa
/- Whether a vector may be, a frame may be; an acknowledgement: by the document. -/
namespace Go.Proofs.Ytjkhdfncahhnoaa
open Go.RowKit
set_option maxHeartbeats 400000
set_option maxRecDepth 100000
set_option linter.unusedVariables false
def bigS (s : SentV) : Bool := decide (500 < s.L.length ∨ 500 < s.V.length ∨ 500 < s.lev.length ∨ 500 < s.neg.length)
theorem big_ln {s : SentV} (h : bigS s = false) : lnS 500 s := by
  unfold bigS at h
  rw [decide_eq_false_iff_not] at h
  exact ⟨by omega, by omega, by omega, by omega⟩
theorem ret_of {v R : Bool} (h : v = true ↔ R = true) : Ending.returned (Value.bool v) = Ending.returned (Value.bool R) := by
  cases v <;> cases R <;> simp_all
theorem ref_Big (s : SentV) (p : SentP) (w : World) :
    Calls Try.prog 10 #[encT s p] w fun e w' => e = .returned (.bool (bigS s)) ∧ Below w.heap.size w w' := by
  have HR : bigS s = true ↔ (500 < s.L.length ∨ 500 < s.V.length ∨ 500 < s.lev.length ∨ 500 < s.neg.length) := by
    unfold bigS; rw [decide_eq_true_eq]
  obtain ⟨R, hR⟩ : ∃ R, bigS s = R := ⟨_, rfl⟩
  rw [hR] at HR ⊢
  have HR2 := hid HR
  clear hR HR
  go_enter Try.func10, Try.ntmps10
  go_wp2_with fail
  all_goals (go_ret; refine ⟨ret_of ?_, by go_grown⟩; rw [HR2.out]; simp; omega)
end Go.Proofs.Ytjkhdfncahhnoaa
/- Whether levels may be; whether any vector may be, a frame may be, and is the same; an acknowledgement: by the document. -/
namespace Go.Proofs.Ytjkhdfncahhnoaa
open Go.RowKit
set_option maxHeartbeats 400000
set_option maxRecDepth 100000
set_option linter.unusedVariables false
theorem fitsT_step {wd : Int} {l : List Int} {k : Nat} {x : Int} (h : fitsB wd (l.take k) = true) (hx : l[k]? = some x) (hw : (wdt x : Int) ≤ wd) : fitsB wd (l.take (k + 1)) = true := by
  unfold fitsB at h ⊢
  rw [List.take_add_one, hx, List.all_append, h]
  simp [hw]
theorem fitsT_no {wd : Int} {l : List Int} {k : Nat} {x : Int} (hx : l[k]? = some x) (hw : wd < (wdt x : Int)) : fitsB wd l = false := by
  unfold fitsB
  rw [List.all_eq_false]
  exact ⟨x, List.mem_of_getElem? hx, by simp; omega⟩
/-- What the box of a vector still holds. -/
def Box4 (w : World) (b : Nat) (dim scale wide : Int) (AN : Option Addr) (n c : Nat) : Prop := w.cell? ⟨b, 1, none⟩ = some (.int .i64 dim) ∧ w.cell? ⟨b, 4, none⟩ = some (.int .i64 scale) ∧ w.cell? ⟨b, 5, none⟩ = some (.int .i64 wide) ∧ w.cell? ⟨b, 7, none⟩ = some (.slice AN n c)
end Go.Proofs.Ytjkhdfncahhnoaa
/- Whether a frame may be, and is the same; an acknowledgement: by the document. -/
namespace Go.Proofs.Ytjkhdfncahhnoaa
open Go.RowKit
set_option maxHeartbeats 400000
set_option maxRecDepth 100000
set_option linter.unusedVariables false
end Go.Proofs.Ytjkhdfncahhnoaa
/- An argument that is a frame, opened. -/
namespace Go.Proofs.Ytjkhdfncahhnoaa
open Go.ChangeShapes Go.WideShapes Go.ChangeAt Go.RowKit
set_option maxRecDepth 100000
set_option linter.unusedVariables false
theorem cellsOf_int : Try.prog.cellsOf 3 = 1 := by kernel_rfl
theorem cellsOf_i64 : Try.prog.cellsOf 2 = 1 := by kernel_rfl
theorem cellsOf_u64 : Try.prog.cellsOf 37 = 1 := by kernel_rfl
theorem cellsOf_ints : Try.prog.cellsOf 23 = 1 := by kernel_rfl
theorem cellsOf_i64s : Try.prog.cellsOf 22 = 1 := by kernel_rfl
theorem cellsOf_u64s : Try.prog.cellsOf 24 = 1 := by kernel_rfl
theorem cellsOf_bools : Try.prog.cellsOf 25 = 1 := by kernel_rfl
theorem cellsOf_sent : Try.prog.cellsOf 27 = 8 := by kernel_rfl
section
variable {H : Type} {enc : TypeId × Value → H} {P : Program} {W : World}
theorem cell_nums {k : IntKind} {t e : TypeId} {cs : List Value} {fuel : Nat} {x : DataW H × List MemPlace} (ht : P.underlying t = some (.slice e)) (he : P.underlying e = some (.int k)) (hc : P.cellsOf e = 1)
    (hf : DataW.trod enc P W 0 (fun _ => true) true fuel t cs = some x) :
    ∃ A xs c, cs = [.slice A xs.length c] ∧ Rd (Value.int k) W W.heap.size A xs ∧ (∀ x ∈ xs, (Lit.int k x).wf = true) ∧ xs.length ≤ c ∧ c ≤ 9223372036854775807 := by
  rcases open_ints ht he hc hf with ⟨rfl, _⟩ | ⟨a, len, cap, zs, rfl, _, hl, hm, hz, _, hcell, hwz⟩
  · exact ⟨none, [], 0, rfl, Rd.none_, by intro x hx; simp at hx, by simp, by omega⟩
  · simp only [if_true] at hz
    have hlen : (zs.take len).length = len := by rw [List.length_take]; omega
    refine ⟨some a, zs.take len, cap, by rw [hlen], nums_rd rfl fun i hi => hcell i (by omega), fun x hx => hwz x (List.mem_of_mem_take hx), by omega, by unfold maxLen at hm; omega⟩
theorem cell_bls {t e : TypeId} {cs : List Value} {fuel : Nat} {x : DataW H × List MemPlace} (ht : P.underlying t = some (.slice e)) (he : P.underlying e = some .bool) (hc : P.cellsOf e = 1)
    (hf : DataW.trod enc P W 0 (fun _ => true) true fuel t cs = some x) :
    ∃ A xs c, cs = [.slice A xs.length c] ∧ Rd Value.bool W W.heap.size A xs ∧ xs.length ≤ c ∧ c ≤ 9223372036854775807 := by
  rcases Deep.open_bools ht he hc hf with ⟨rfl, _⟩ | ⟨a, len, cap, B, rfl, _, hl, hm, _, hcell⟩
  · exact ⟨none, [], 0, rfl, Rd.none_, by simp, by omega⟩
  · have hlen : ((List.range len).map B).length = len := by simp
    exact ⟨some a, (List.range len).map B, cap, by rw [hlen], bools_rd fun i hi => hcell i (by omega), by omega, by unfold maxLen at hm; omega⟩
/-- What bounds a vector that came in. -/
def capS (s : SentV) (p : SentP) : Prop := (s.L.length ≤ p.cL ∧ p.cL ≤ 9223372036854775807) ∧ (s.V.length ≤ p.cV ∧ p.cV ≤ 9223372036854775807) ∧ (s.lev.length ≤ p.cE ∧ p.cE ≤ 9223372036854775807) ∧ (s.neg.length ≤ p.cN ∧ p.cN ≤ 9223372036854775807)
theorem cell_sent {c0 c1 c2 c3 c4 c5 c6 c7 : Value} {fuel : Nat} {x : DataW H × List MemPlace}
    (hf : DataW.trod enc Try.prog W 0 (fun _ => true) true fuel 27 [c0, c1, c2, c3, c4, c5, c6, c7] = some x) :
    ∃ s p, [c0, c1, c2, c3, c4, c5, c6, c7] = [.int .i64 s.sch, .int .i64 s.dim, .slice p.AL s.L.length p.cL, .slice p.AV s.V.length p.cV, .int .i64 s.scale, .int .i64 s.wide, .slice p.AE s.lev.length p.cE, .slice p.AN s.neg.length p.cN] ∧ RdS W W.heap.size s p ∧ wfS s ∧ capS s p := by
  obtain ⟨xs, n, _, _, _, hlen, hg⟩ := DataW.trod_struct Try.underlying27 hf
  have h0 := hg 0 _ rfl
  have h1 := hg 1 _ rfl
  have h2 := hg 2 _ rfl
  have h3 := hg 3 _ rfl
  have h4 := hg 4 _ rfl
  have h5 := hg 5 _ rfl
  have h6 := hg 6 _ rfl
  have h7 := hg 7 _ rfl
  have hlen8 : xs.length = 8 := hlen
  obtain ⟨x0, x1, x2, x3, x4, x5, x6, x7, rfl⟩ : ∃ x0 x1 x2 x3 x4 x5 x6 x7, xs = [x0, x1, x2, x3, x4, x5, x6, x7] := by
    match xs, hlen8 with
    | [x0, x1, x2, x3, x4, x5, x6, x7], _ => exact ⟨x0, x1, x2, x3, x4, x5, x6, x7, rfl⟩
  simp [cellsOf_int] at h0
  simp [cellsOf_int] at h1
  simp [cellsOf_ints] at h2
  simp [cellsOf_i64s] at h3
  simp [cellsOf_i64] at h4
  simp [cellsOf_int] at h5
  simp [cellsOf_u64s] at h6
  simp [cellsOf_bools] at h7
  obtain ⟨sch, e0, _, w0⟩ := DataW.trod_int Try.underlying3 h0
  obtain ⟨dim, e1, _, w1⟩ := DataW.trod_int Try.underlying3 h1
  obtain ⟨AL, L, cL, e2, r2, w2, l2, m2⟩ := cell_nums Try.underlying23 Try.underlying3 cellsOf_int h2
  obtain ⟨AV, V, cV, e3, r3, w3, l3, m3⟩ := cell_nums Try.underlying22 Try.underlying2 cellsOf_i64 h3
  obtain ⟨scale, e4, _, w4⟩ := DataW.trod_int Try.underlying2 h4
  obtain ⟨wide, e5, _, w5⟩ := DataW.trod_int Try.underlying3 h5
  obtain ⟨AE, lev, cE, e6, r6, w6, l6, m6⟩ := cell_nums Try.underlying24 Try.underlying37 cellsOf_u64 h6
  obtain ⟨AN, neg, cN, e7, r7, l7, m7⟩ := cell_bls Try.underlying25 Try.underlying4 cells_bool h7
  simp only [List.cons.injEq, and_true] at e0 e1 e2 e3 e4 e5 e6 e7
  subst e0 e1 e2 e3 e4 e5 e6 e7
  exact ⟨⟨sch, dim, L, V, scale, wide, lev, neg⟩, ⟨AL, cL, AV, cV, AE, cE, AN, cN⟩, rfl, ⟨r2, r3, r6, r7⟩,
    ⟨I64.of_wf w0, I64.of_wf w1, fun x hx => I64.of_wf (w2 x hx), fun x hx => I64.of_wf (w3 x hx), I64.of_wf w4, I64.of_wf w5, fun x hx => U64.of_wf (w6 x hx)⟩, ⟨l2, m2⟩, ⟨l3, m3⟩, ⟨l6, m6⟩, ⟨l7, m7⟩⟩
theorem list11 {cs : List Value} (h : cs.length = 11) : ∃ a b c d e f g i j k l, cs = [a, b, c, d, e, f, g, i, j, k, l] := by
  match cs, h with
  | [a, b, c, d, e, f, g, i, j, k, l], _ => exact ⟨a, b, c, d, e, f, g, i, j, k, l, rfl⟩
end
end Go.Proofs.Ytjkhdfncahhnoaa
/- An argument that is a pressed vector. -/
namespace Go.Proofs.Ytjkhdfncahhnoaa
open Go.RowKit Go.ChangeShapes Go.WideShapes
set_option maxRecDepth 100000
set_option linter.unusedVariables false
section
variable {H : Type} {enc : TypeId × Value → H} {W : World}
theorem list8 {cs : List Value} (h : cs.length = 8) : ∃ a b c d e f g i, cs = [a, b, c, d, e, f, g, i] := by
  match cs, h with
  | [a, b, c, d, e, f, g, i], _ => exact ⟨a, b, c, d, e, f, g, i, rfl⟩
theorem open_sent {r : Reach} {v : Value} {d : DataW H} {ps : List MemPlace} {b0 : Nat}
    (hval : Value.okWide Try.prog W r b0 27 v) (hd : DataW.Trod enc Try.prog W 0 (fun _ => true) true 27 v d ps) :
    ∃ s p, v = encT s p ∧ RdS W W.heap.size s p ∧ wfS s ∧ capS s p := by
  obtain ⟨cs, rfl, hs⟩ := okWide_struct Try.underlying27 hval
  obtain ⟨fuel, hf⟩ := hd
  rw [cellsOf_sent] at hs
  obtain ⟨cs⟩ := cs
  obtain ⟨c0, c1, c2, c3, c4, c5, c6, c7, rfl⟩ := list8 (by simpa using hs)
  have hf' : DataW.trod enc Try.prog W 0 (fun _ => true) true fuel 27 [c0, c1, c2, c3, c4, c5, c6, c7] = some (d, ps) := by simpa [Value.cells] using hf
  obtain ⟨s, p, e, hr, hw, hc⟩ := cell_sent hf'
  simp only [List.cons.injEq, and_true] at e
  obtain ⟨e0, e1, e2, e3, e4, e5, e6, e7⟩ := e
  subst e0 e1 e2 e3 e4 e5 e6 e7
  exact ⟨s, p, rfl, hr, hw, hc⟩
end
end Go.Proofs.Ytjkhdfncahhnoaa
