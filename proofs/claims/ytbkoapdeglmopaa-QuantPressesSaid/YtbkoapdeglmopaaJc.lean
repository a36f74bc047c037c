
/- Jc: texts joined: Same Eq IxA TkA QuA DrA LebA LebB LebC LebD IxB IxC IxE PlA PlB PlC PlD PlE PlF FrA. -/
import Derived.Test.YtbkoapdeglmopaaJb
import Derived.WalkSpells
import Derived.OwnWalk
import Derived.Outline
import Derived.RegionTactic
import Derived.ChangeAlike
import Derived.Test.YtbkoapdeglmopaaJa
import Derived.Test.YtbkoapdeglmopaaShelf
import Derived.WalkLawsBesides
import Derived.Laws.Bits64b
import Derived.Deep.RegionHeld3
/- Texts that are the same, lists of numbers that are, as the document tells them. -/
namespace Go.Proofs.Ytbkoapdeglmopaa
open Go.RowKit
set_option maxHeartbeats 400000
set_option maxRecDepth 100000
set_option linter.unusedVariables false
theorem ref_SameNumbers {A B : Option Addr} {c d : Nat} (xs ys : List Int) (hx : xs.length ≤ 9223372036854775807) (hy : ys.length ≤ 9223372036854775807) (w : World)
    (ra : Rd (Value.int .u64) w w.heap.size A xs) (rb : Rd (Value.int .u64) w w.heap.size B ys) :
    Calls Try.prog 39 #[.slice A xs.length c, .slice B ys.length d] w fun e w' => e = .returned (.bool (eqB xs ys)) ∧ Below w.heap.size w w' := by
  by_cases hl : xs.length = ys.length
  · have HA := hid ra
    have HB := hid rb
    clear ra rb
    have h1 : ((xs.length : Int) != (ys.length : Int)) = false := by simp; omega
    have h2 : (xs.length != ys.length) = false := by simp; omega
    have HL := hid hl
    clear hl
    go_enter Try.func39, Try.ntmps39
    go_wp2_with fail
    clear h1 h2
    go_loopw [13] (fun i wr => ∃ k : Nat, k ≤ xs.length ∧ i = .int .i64 k ∧ xs.take k = ys.take k ∧ Below w.heap.size w wr) (fun i _ => xs.length - (intOf i).toNat)
    case atStart => exact ⟨0, by omega, rfl, rfl, Below.refl _ _⟩
    case round =>
      obtain ⟨k, hk, rfl, ht, hb⟩ := hrel
      have HT := hid ht
      clear ht
      by_cases hlt : k < xs.length
      · have hlt2 : k < ys.length := by have := HL.out; omega
        obtain ⟨b1, o1, x, rfl, l1, ex, c1⟩ := (HA.out.below hb).at_ hlt
        obtain ⟨b2, o2, y, rfl, l2, ey, c2⟩ := (HB.out.below hb).at_ hlt2
        have EX := hid ex
        have EY := hid ey
        clear ex ey
        by_cases e : x = y
        · have e' : (x != y) = false := by simpa using e
          have E := hid e
          clear e
          go_wp2_with fail
          go_quiet (fail)
          go_wp2_with fail
          go_roundw
          case rel => exact ⟨k + 1, by omega, by go_num, take_step HT.out EX.out EY.out E.out, hb.trans (belowN _ _ _)⟩
          case measure => simp [intOf]; omega
        · have e' : (x != y) = true := by simpa using e
          go_wp2_with fail
          go_quiet (fail)
          go_wp2_with fail
          go_ret
          rw [eqB_no EX.out EY.out e]
          exact ⟨rfl, hb.trans (belowN _ _ _)⟩
      · have hke : k = xs.length := by omega
        have HK := hid hke
        clear hke
        go_wp2_with fail
        go_ret
        rw [eqB_yes HT.out HK.out HL.out]
        exact ⟨rfl, hb⟩
  · rw [eqB_len hl]
    have h1 : ((xs.length : Int) != (ys.length : Int)) = true := by simp; omega
    have h2 : (xs.length != ys.length) = true := by simp; omega
    go_enter Try.func39, Try.ntmps39
    go_wp2_with fail
    go_ret
    exact ⟨rfl, Below.refl _ _⟩
/-- What is told the same is found the same. -/
def SameB (P : Program) (f : FuncId) (X : List Int) : Prop := ∀ (A B : Option Addr) (c d : Nat) (W : World) (L M : Nat), Rd (Value.int .u8) W L A X → Rd (Value.int .u8) W M B X → Calls P f #[.slice A X.length c, .slice B X.length d] W fun e w' => e = .returned (.bool true) ∧ W = w'
/-- .. of numbers. -/
def SameN (P : Program) (f : FuncId) (X : List Int) : Prop := ∀ (A B : Option Addr) (c d : Nat) (W : World), Rd (Value.int .u64) W W.heap.size A X → Rd (Value.int .u64) W W.heap.size B X → Calls P f #[.slice A X.length c, .slice B X.length d] W fun e w' => e = .returned (.bool true) ∧ Below W.heap.size W w'
theorem samen_yes {X : List Int} (hx : X.length ≤ 9223372036854775807) : SameN Try.prog 39 X := fun A B c d W h1 h2 => by
  have := ref_SameNumbers (A := A) (B := B) (c := c) (d := d) X X hx hx W h1 h2
  rwa [eqB_self] at this
end Go.Proofs.Ytbkoapdeglmopaa
/- Lists that are the same, by the document (thrumref06). -/
namespace Go.Proofs.Ytbkoapdeglmopaa
open Go.RowKit
set_option maxHeartbeats 400000
set_option maxRecDepth 100000
set_option linter.unusedVariables false
theorem info_int : (Try.prog.info? 3).map (fun i => (i.zero, i.size, i.bytes)) = some (some (.int .i64 0), 1, 8) := by kernel_rfl
theorem cells_int : Try.prog.cellsOf 3 = 1 := by kernel_rfl
theorem cells_ints : Try.prog.cellsOf 33 = 1 := by kernel_rfl
theorem drewN_two (w : World) (n m : Nat) : ∃ k, (w.drewN n).drewN m = w.drewN k := ⟨n + m, by simp⟩
theorem ref_Equal {A B : Option Addr} {c d : Nat} (xs ys : List Int) (hx : xs.length ≤ 9223372036854775807) (hy : ys.length ≤ 9223372036854775807) (w : World) {L M : Nat}
    (ra : Rd (Value.int .i64) w L A xs) (rb : Rd (Value.int .i64) w M B ys) :
    Calls Try.prog 38 #[.slice A xs.length c, .slice B ys.length d] w fun e w' => e = .returned (.bool (eqB xs ys)) ∧ ∃ n, w' = w.drewN n := by
  by_cases hl : xs.length = ys.length
  · have HA := hid ra
    have HB := hid rb
    clear ra rb
    have h1 : ((xs.length : Int) != (ys.length : Int)) = false := by simp; omega
    have h2 : (xs.length != ys.length) = false := by simp; omega
    have HL := hid hl
    clear hl
    go_enter Try.func38, Try.ntmps38
    go_wp2_with fail
    clear h1 h2
    go_loopw [13] (fun i wr => ∃ k : Nat, k ≤ xs.length ∧ i = .int .i64 k ∧ xs.take k = ys.take k ∧ ∃ n, wr = w.drewN n) (fun i _ => xs.length - (intOf i).toNat)
    case atStart => exact ⟨0, by omega, rfl, rfl, 0, rfl⟩
    case round =>
      obtain ⟨k, hk, rfl, ht, n, rfl⟩ := hrel
      have HT := hid ht
      clear ht
      by_cases hlt : k < xs.length
      · have hlt2 : k < ys.length := by have := HL.out; omega
        obtain ⟨b1, o1, x, rfl, l1, ex, c1⟩ := HA.out.at_ hlt
        obtain ⟨b2, o2, y, rfl, l2, ey, c2⟩ := HB.out.at_ hlt2
        have EX := hid ex
        have EY := hid ey
        clear ex ey
        by_cases e : x = y
        · have e' : (x != y) = false := by simpa using e
          have E := hid e
          clear e
          go_wp2_with fail
          go_quiet (fail)
          go_wp2_with fail
          go_roundw
          case rel => exact ⟨k + 1, by omega, by go_num, take_step HT.out EX.out EY.out E.out, _, rfl⟩
          case measure => simp [intOf]; omega
        · have e' : (x != y) = true := by simpa using e
          go_wp2_with fail
          go_quiet (fail)
          go_wp2_with fail
          go_ret
          rw [eqB_no EX.out EY.out e]
          exact ⟨rfl, drewN_two _ _ _⟩
      · have hke : k = xs.length := by omega
        have HK := hid hke
        clear hke
        go_wp2_with fail
        go_ret
        rw [eqB_yes HT.out HK.out HL.out]
        exact ⟨rfl, _, rfl⟩
  · rw [eqB_len hl]
    have h1 : ((xs.length : Int) != (ys.length : Int)) = true := by simp; omega
    have h2 : (xs.length != ys.length) = true := by simp; omega
    go_enter Try.func38, Try.ntmps38
    go_wp2_with fail
    go_ret
    exact ⟨rfl, 0, rfl⟩
end Go.Proofs.Ytbkoapdeglmopaa
/- Lists that are the same, that rise, places of a dimension, where a number stands: by the document. -/
namespace Go.Proofs.Ytbkoapdeglmopaa
open Go.RowKit
set_option maxHeartbeats 400000
set_option maxRecDepth 100000
set_option linter.unusedVariables false
theorem ris_small {l : List Int} (h : l.length ≤ 1) : risP l := by
  cases l with
  | nil => exact ris_nil
  | cons x l => cases l with
    | nil => exact ris_one x
    | cons y l => simp at h
theorem ref_rises {A : Option Addr} {c : Nat} (l : List Int) (hl : l.length ≤ 9223372036854775807) (w : World) {B : Nat} (ra : Rd (Value.int .i64) w B A l) :
    Calls Try.prog 75 #[.slice A l.length c] w fun e w' => e = .returned (.bool (risB l)) ∧ ∃ n, w' = w.drewN n := by
  have HA := hid ra
  have HY : Hid (risP l → risB l = true) := hid (fun h => decide_eq_true h)
  have HN : Hid (¬ risP l → risB l = false) := hid (fun h => decide_eq_false h)
  obtain ⟨R, hR⟩ : ∃ R, risB l = R := ⟨_, rfl⟩
  rw [hR] at HY HN ⊢
  clear ra hR
  go_enter Try.func75, Try.ntmps75
  go_wp2_with fail
  go_loopw [3] (fun i wr => ∃ k : Nat, 1 ≤ k ∧ (k ≤ l.length ∨ k = 1) ∧ i = .int .i64 k ∧ risP (l.take k) ∧ ∃ n, wr = w.drewN n) (fun i _ => l.length - (intOf i).toNat)
  case atStart => exact ⟨1, by omega, by omega, rfl, ris_small (by rw [List.length_take]; omega), 0, rfl⟩
  case round =>
    obtain ⟨k, hk1, hk, rfl, ht, n, rfl⟩ := hrel
    have HT := hid ht
    clear ht
    by_cases hlt : k < l.length
    · obtain ⟨j, rfl⟩ : ∃ j, k = j + 1 := ⟨k - 1, by omega⟩
      have hj : j < l.length := by omega
      obtain ⟨b1, o1, y, rfl, l1, ey, c1⟩ := HA.out.at_ hlt
      obtain ⟨b2, o2, x, e2, l2, ex, c2⟩ := HA.out.at_ hj
      injection e2 with e2
      injection e2 with e2 e3
      subst e2 e3
      have hji : ((j + 1 : Nat) : Int) - 1 = (j : Int) := by omega
      have hjc : ((j + 1 : Nat) : Int) = (j : Int) + 1 := by omega
      have hi0 : (0 : Int) ≤ (j : Int) := by omega
      have hi1 : (j : Int) < (l.length : Int) := by omega
      have EX := hid ex
      have EY := hid ey
      clear ex ey hk1 hk
      by_cases e : y ≤ x
      · have hR := HN.out (ris_no EX.out EY.out (by omega) e)
        subst hR
        go_wp2_with fail
        go_quiet (fail)
        go_wp2_with fail
        go_ret
        exact ⟨rfl, drewN_two _ _ _⟩
      · have e' : x < y := by omega
        go_wp2_with fail
        go_quiet (fail)
        go_wp2_with fail
        go_roundw
        case rel => exact ⟨j + 1 + 1, by omega, by omega, by go_num, ris_step HT.out EY.out (Or.inr ⟨EX.out, e'⟩), _, rfl⟩
        case measure => simp [intOf]; omega
    · have hR := HY.out (by have h := HT.out; rw [List.take_of_length_le (by omega)] at h; exact h)
      subst hR
      go_wp2_with fail
      go_ret
      exact ⟨rfl, _, rfl⟩
theorem ref_Check {A : Option Addr} {c : Nat} (dim : Int) (l : List Int) (hd : I64 dim) (hl : l.length ≤ 9223372036854775807) (w : World) {B : Nat} (ra : Rd (Value.int .i64) w B A l) :
    Calls Try.prog 61 #[.int .i64 dim, .slice A l.length c] w fun e w' => e = .returned (.int .i64 (chkE dim l)) ∧ ∃ n, w' = w.drewN n := by
  have C := hid (ref_rises (c := c) l hl w ra)
  have HY : Hid (plcP dim l → chkE dim l = 0) := hid (fun h => chk_ok.2 h)
  have HN : Hid (¬ plcP dim l → chkE dim l = 1) := hid chk_no
  obtain ⟨R, hR⟩ : ∃ R, chkE dim l = R := ⟨_, rfl⟩
  rw [hR] at HY HN ⊢
  unfold I64 at hd
  clear hR
  by_cases h1 : dim < 1
  · have hR := HN.out (fun h => by have := h.1; omega)
    subst hR
    clear HY HN C ra
    go_enter Try.func61, Try.ntmps61
    go_wp2_with fail
    go_ret
    exact ⟨rfl, 0, rfl⟩
  · by_cases h2 : 4096 < dim
    · have hR := HN.out (fun h => by have := h.2.1; omega)
      subst hR
      clear HY HN C ra
      go_enter Try.func61, Try.ntmps61
      go_wp2_with fail
      go_ret
      exact ⟨rfl, 0, rfl⟩
    · by_cases h3 : risP l
      · rw [show risB l = true from decide_eq_true h3] at C
        have HA := hid ra
        have HR := hid h3
        clear ra h3
        go_enter Try.func61, Try.ntmps61
        go_wp2_with fail
        refine C.out.mono ?_
        rintro _ _ ⟨rfl, n0, rfl⟩
        go_wp2_with fail
        go_loopw [6, 20] (fun n0 i wr => ∃ k : Nat, k ≤ l.length ∧ i = .int .i64 k ∧ (∀ n ∈ l.take k, 0 ≤ n ∧ n < dim) ∧ ∃ n, wr = w.drewN n) (fun _ i _ => l.length - (intOf i).toNat)
        case atStart => exact ⟨0, by omega, rfl, by simp, n0, rfl⟩
        case round =>
          obtain ⟨k, hk, rfl, ht, n, rfl⟩ := hrel
          have HT := hid ht
          clear ht
          by_cases hlt : k < l.length
          · obtain ⟨b1, o1, y, rfl, l1, ey, c1⟩ := HA.out.at_ hlt
            have EY := hid ey
            clear ey
            by_cases a : y < 0
            · have hR := HN.out (fun h => by have := h.2.2.2 y (List.mem_of_getElem? EY.out); omega)
              subst hR
              go_wp2_with fail
              go_ret
              exact ⟨rfl, _, rfl⟩
            · by_cases b : dim ≤ y
              · have hR := HN.out (fun h => by have := h.2.2.2 y (List.mem_of_getElem? EY.out); omega)
                subst hR
                go_wp2_with fail
                go_ret
                exact ⟨rfl, _, rfl⟩
              · have a' : 0 ≤ y := by omega
                have b' : y < dim := by omega
                go_wp2_with fail
                go_roundw
                case rel =>
                  refine ⟨k + 1, by omega, by go_num, ?_, _, rfl⟩
                  intro z hz
                  rw [take_snoc EY.out] at hz
                  rcases List.mem_append.1 hz with hz | hz
                  · exact HT.out z hz
                  · simp at hz; omega
                case measure => simp [intOf]; omega
          · have hR := HY.out ⟨by omega, by omega, HR.out, by have h := HT.out; rw [List.take_of_length_le (by omega)] at h; exact h⟩
            subst hR
            go_wp2_with fail
            go_ret
            exact ⟨rfl, _, rfl⟩
      · rw [show risB l = false from decide_eq_false h3] at C
        have hR := HN.out (fun h => h3 h.2.2.1)
        subst hR
        clear HY HN ra h3
        go_enter Try.func61, Try.ntmps61
        go_wp2_with fail
        refine C.out.mono ?_
        rintro _ _ ⟨rfl, n0, rfl⟩
        go_wp2_with fail
        go_ret
        exact ⟨rfl, _, rfl⟩
end Go.Proofs.Ytbkoapdeglmopaa
/- Sizes, which place is ahead, an order of all: by the document. -/
namespace Go.Proofs.Ytbkoapdeglmopaa
open Go.RowKit
set_option maxHeartbeats 400000
set_option maxRecDepth 100000
set_option linter.unusedVariables false
/-- An order's error, and the order. -/
def orkE (v : List Int) : Int := if 4096 < v.length then 3 else 0
def orkV (v : List Int) : List Int := if orkE v = 0 then (ordT v).map fun (i : Nat) => (i : Int) else []
theorem orkE_ok {v : List Int} : orkE v = 0 ↔ v.length ≤ 4096 := by unfold orkE; split <;> omega
theorem orkV_len {v : List Int} (h : orkE v = 0) : (orkV v).length = v.length := by unfold orkV; rw [if_pos h, List.length_map, ordT_len]
theorem orkV_le (v : List Int) : (orkV v).length ≤ v.length := by
  unfold orkV
  split
  · rw [List.length_map, ordT_len]; exact Nat.le_refl _
  · simp
/-- The places found by those below m. -/
def oF (v : List Int) (m j : Nat) : Nat := if atR v j < m then atR v j else 0
theorem oF_step {v : List Int} {m j : Nat} (hm : m < v.length) (hj : j < v.length) : oF v (m + 1) j = if j = rkN v m then m else oF v m j := by
  obtain ⟨h1, h2⟩ := atR_is hj
  by_cases e : j = rkN v m
  · have e2 : atR v j = m := by rw [e, atR_of hm]
    unfold oF
    rw [if_pos e, e2, if_pos (by omega)]
  · have e2 : atR v j ≠ m := fun h => e (by rw [← h2, h])
    unfold oF
    rw [if_neg e]
    by_cases h3 : atR v j < m
    · rw [if_pos h3, if_pos (by omega)]
    · rw [if_neg h3, if_neg (by omega)]
theorem oF_all {v : List Int} {j : Nat} (hj : j < v.length) : oF v v.length j = atR v j := if_pos (atR_is hj).1
theorem szN_le {n : Int} (h : I64 n) : szN n ≤ 9223372036854775808 := by unfold szN; unfold I64 at h; omega
theorem ref_Size9 (n : Int) (hn : I64 n) (w : World) :
    Calls Try.prog 28 #[.int .i64 n] w fun e w' => e = .returned (.int .u64 (szN n : Int)) ∧ w = w' := by
  unfold I64 at hn
  have hs : Hid (n < 0 → (szN n : Int) = -n) := hid (fun h => by unfold szN; omega)
  have hp : Hid (¬ n < 0 → (szN n : Int) = n) := hid (fun h => by unfold szN; omega)
  obtain ⟨z, hz⟩ : ∃ z, (szN n : Int) = z := ⟨_, rfl⟩
  rw [hz] at hs hp ⊢
  clear hz
  by_cases h : n < 0
  · rw [hs.out h]
    have e1 : IntKind.i64.wrap (n + 1) = n + 1 := by rw [IntKind.wrap_i64]; omega
    have e2 : IntKind.i64.wrap (-(n + 1)) = -(n + 1) := by rw [IntKind.wrap_i64]; omega
    have e3 : IntKind.u64.wrap (-(n + 1)) = -(n + 1) := by rw [IntKind.wrap_u64]; omega
    have e4 : IntKind.u64.wrap (-(n + 1) + 1) = -n := by rw [IntKind.wrap_u64]; omega
    clear hs hp
    go_enter Try.func28, Try.ntmps28
    go_wp2_with fail
    go_ret
    exact ⟨by simp <;> omega, rfl⟩
  · rw [hp.out h]
    have e1 : IntKind.u64.wrap n = n := by rw [IntKind.wrap_u64]; omega
    clear hs hp
    go_enter Try.func28, Try.ntmps28
    go_wp2_with fail
    go_ret
    exact ⟨by simp <;> omega, rfl⟩
theorem ret_of9 {v R : Bool} (h : v = true ↔ R = true) : Ending.returned (Value.bool v) = Ending.returned (Value.bool R) := by
  have : v = R := by cases v <;> cases R <;> simp_all
  rw [this]
theorem own_ordT {w : World} {b M : Nat} {v : List Int} (h : w.rowIs b 3 M (fun j => .int .i64 (oF v M j : Int))) (hM : v.length = M) (hl : M ≤ 4096) {B : Nat} (hB : B ≤ b) :
    w.ownsRow B 3 1 (.slice (some ⟨b, 0, none⟩) M M) M (((ordT v).map fun (i : Nat) => (i : Int)).map (Value.int .i64)) := by
  have h2 := own_made (w' := w) h hB (by unfold maxLen; omega)
  have e : ((ordT v).map fun (i : Nat) => (i : Int)).map (Value.int .i64) = (List.range M).map fun j => .int .i64 (oF v M j : Int) := by
    unfold ordT
    rw [List.map_map, List.map_map, hM]
    refine List.map_congr_left fun j hj => ?_
    have hj' : j < v.length := by rw [hM]; exact List.mem_range.1 hj
    have := oF_all hj'
    rw [hM] at this
    rw [this]
    rfl
  rw [e]
  exact h2
end Go.Proofs.Ytbkoapdeglmopaa
/- The greatest level, a number's level, a level's number: by the document. -/
namespace Go.Proofs.Ytbkoapdeglmopaa
open Go.RowKit
set_option maxHeartbeats 400000
set_option maxRecDepth 100000
set_option linter.unusedVariables false
theorem ref_Steps (wide : Int) (hw : I64 wide) (w : World) :
    Calls Try.prog 15 #[.int .i64 wide] w fun e w' => e = .returned (.tuple #[.int .u64 (stsV wide : Int), .int .i64 (stsE wide)]) ∧ w = w' := by
  by_cases h : stsE wide = 0
  · have hv : stsV wide = topQ wide := if_pos h
    rw [h, hv]
    have h1 := stsE_ok.1 h
    rcases topQ_cases h with ⟨rfl, e⟩ | ⟨rfl, e⟩ | ⟨rfl, e⟩ | ⟨rfl, e⟩ | ⟨rfl, e⟩ | ⟨rfl, e⟩ | ⟨rfl, e⟩ | ⟨rfl, e⟩
    all_goals (
      rw [e]
      clear e h hv h1 hw
      go_enter Try.func15, Try.ntmps15
      go_wp2_with fail
      go_ret2
      exact ⟨rfl, rfl⟩)
  · have hv : stsV wide = 0 := if_neg h
    have he : stsE wide = 1 := by unfold stsE at h ⊢; split at h <;> simp_all
    rw [he, hv]
    have h1 : wide < 1 ∨ (¬ wide < 1 ∧ wide > 8) := by have : ¬ (1 ≤ wide ∧ wide ≤ 8) := fun h2 => h (stsE_ok.2 h2); omega
    clear he hv h
    rcases h1 with h1 | ⟨h1, h2⟩
    all_goals (
      go_enter Try.func15, Try.ntmps15
      go_wp2_with fail
      go_ret2
      exact ⟨rfl, rfl⟩)
set_option maxHeartbeats 1000000 in
theorem ref_Level (n scale wide : Int) (hn : I64 n) (hs : I64 scale) (hw : I64 wide) (w : World) :
    Calls Try.prog 11 #[.int .i64 n, .int .i64 scale, .int .i64 wide] w fun e w' => e = .returned (.tuple #[.int .u64 (lvlL n scale wide : Int), .int .u64 (lvlR n scale wide : Int), .int .i64 (lvlE n scale wide)]) ∧ w = w' := by
  have C1 := hid (ref_Steps wide hw w)
  have C2 := hid (fun W => ref_Size9 n hn W)
  have hz := szN_le hn
  unfold I64 at hs
  by_cases h : lvlE n scale wide = 0
  · obtain ⟨h1, h2, h3⟩ := lvlE_ok.1 h
    have e1 : lvlL n scale wide = lvQ scale.toNat (szN n) (topQ wide) := if_pos h
    have e2 : lvlR n scale wide = rsQ scale.toNat (szN n) (topQ wide) := if_pos h
    have ht := topQ_bd h1
    rw [h, e1, e2]
    rw [show stsV wide = topQ wide from if_pos h1, h1] at C1
    obtain ⟨s, rfl⟩ := Int.eq_ofNat_of_zero_le h2
    rw [Int.toNat_natCast]
    obtain ⟨z, hzz⟩ : ∃ z, szN n = z := ⟨_, rfl⟩
    rw [hzz] at C2 h3 hz ⊢
    obtain ⟨t, htt⟩ : ∃ t, topQ wide = t := ⟨_, rfl⟩
    rw [htt] at C1 ht ⊢
    have hzs : z ≤ s := by omega
    clear e1 e2 h h1 hzz htt
    by_cases h0 : s = 0
    · subst h0
      obtain rfl : z = 0 := by omega
      rw [(lvQ_none t).1, (lvQ_none t).2]
      go_enter Try.func11, Try.ntmps11
      go_wp2_with fail
      refine C1.out.mono ?_
      rintro _ _ ⟨rfl, rfl⟩
      go_wp2_with fail
      refine (C2.out _).mono ?_
      rintro _ _ ⟨rfl, rfl⟩
      go_wp2_with fail
      go_ret3
      exact ⟨rfl, rfl⟩
    · have hs0 : 0 < s := by omega
      have HS := hid (fun k => lvQ_step hzs hs0 k)
      have HL := hid (fun k => lvQ_le hzs k)
      have H0 := hid (lvQ_zero s z)
      have t1 : ((s : Int) == 0) = false := beq_eq_false_iff_ne.2 (by omega)
      have hzi : ¬ (s : Int) < (z : Int) := by omega
      have hzi2 : ¬ s < z := by omega
      clear h2 h3 hzs
      go_enter Try.func11, Try.ntmps11
      go_wp2_with fail
      refine C1.out.mono ?_
      rintro _ _ ⟨rfl, rfl⟩
      go_wp2_with fail
      refine (C2.out _).mono ?_
      rintro _ _ ⟨rfl, rfl⟩
      go_wp2_with fail
      go_loop [11, 12, 34] (fun x11 x12 i => ∃ k : Nat, k ≤ t ∧ i = .int .u64 k ∧ x11 = .int .u64 (lvQ s z k : Int) ∧ x12 = .int .u64 (rsQ s z k : Int)) (fun _ _ i => t - (intOf i).toNat)
      case atStart => exact ⟨0, by omega, rfl, by rw [H0.out.1]; rfl, by rw [H0.out.2]; rfl⟩
      case round =>
        obtain ⟨k, hk, rfl, rfl, rfl⟩ := hrel
        obtain ⟨r1, r2, r3⟩ := HS.out k
        have r4 := HL.out k
        obtain ⟨a, ha⟩ : ∃ a, lvQ s z k = a := ⟨_, rfl⟩
        obtain ⟨b, hb⟩ : ∃ b, rsQ s z k = b := ⟨_, rfl⟩
        rw [ha] at r2 r3 r4
        rw [hb] at r1 r2 r3
        have R2 := hid r2
        have R3 := hid r3
        clear r2 r3
        by_cases hlt : k < t
        · rw [ha, hb]
          clear ha hb
          by_cases hge : s ≤ b + z
          · obtain ⟨q1, q2⟩ := R2.out hge
            have hge' : ((b : Int) + (z : Int)) ≥ (s : Int) := by omega
            clear R2 R3 hge
            have Q1 := hid q1
            have Q2 := hid q2
            clear q1 q2
            go_wp2_with fail
            refine (C2.out _).mono ?_
            rintro _ _ ⟨rfl, rfl⟩
            go_wp2_with fail
            go_round
            case rel => exact ⟨k + 1, by omega, by go_num, by rw [Q1.out]; go_num, by rw [Q2.out]; go_num⟩
            case measure => simp [intOf]; omega
          · obtain ⟨q1, q2⟩ := R3.out hge
            have hge' : ¬ ((b : Int) + (z : Int)) ≥ (s : Int) := by omega
            clear R2 R3 hge
            have Q1 := hid q1
            have Q2 := hid q2
            clear q1 q2
            go_wp2_with fail
            refine (C2.out _).mono ?_
            rintro _ _ ⟨rfl, rfl⟩
            go_wp2_with fail
            go_round
            case rel => exact ⟨k + 1, by omega, by go_num, by rw [Q1.out], by rw [Q2.out]; go_num⟩
            case measure => simp [intOf]; omega
        · obtain rfl : k = t := by omega
          clear R2 R3
          go_wp2_with fail
          go_ret3
          exact ⟨rfl, rfl⟩
  · have e1 : lvlL n scale wide = 0 := if_neg h
    have e2 : lvlR n scale wide = 0 := if_neg h
    have e3 : lvlE n scale wide = 1 := by unfold lvlE at h ⊢; split at h <;> simp_all
    have h1 : ¬ stsE wide = 0 ∨ (stsE wide = 0 ∧ scale < 0) ∨ (stsE wide = 0 ∧ ¬ scale < 0 ∧ (szN n : Int) > scale) := by
      have h2 : ¬ (stsE wide = 0 ∧ 0 ≤ scale ∧ (szN n : Int) ≤ scale) := fun h3 => h (lvlE_ok.2 h3)
      omega
    rw [e1, e2, e3]
    clear e1 e2 e3 h
    rcases h1 with h1 | ⟨h1, h2⟩ | ⟨h1, h2, h3⟩
    · obtain ⟨E, hE⟩ : ∃ E, stsE wide = E := ⟨_, rfl⟩
      rw [hE] at C1 h1
      have hne : (E != 0) = true := by simpa using h1
      clear hE h1
      go_enter Try.func11, Try.ntmps11
      go_wp2_with fail
      refine C1.out.mono ?_
      rintro _ _ ⟨rfl, rfl⟩
      go_wp2_with fail
      go_ret3
      exact ⟨rfl, rfl⟩
    · rw [h1] at C1
      clear h1
      go_enter Try.func11, Try.ntmps11
      go_wp2_with fail
      refine C1.out.mono ?_
      rintro _ _ ⟨rfl, rfl⟩
      go_wp2_with fail
      go_ret3
      exact ⟨rfl, rfl⟩
    · rw [h1] at C1
      obtain ⟨s, rfl⟩ := Int.eq_ofNat_of_zero_le (show 0 ≤ scale by omega)
      obtain ⟨z, hzz⟩ : ∃ z, szN n = z := ⟨_, rfl⟩
      rw [hzz] at C2 h3 hz
      clear h1 hzz
      go_enter Try.func11, Try.ntmps11
      go_wp2_with fail
      refine C1.out.mono ?_
      rintro _ _ ⟨rfl, rfl⟩
      go_wp2_with fail
      refine (C2.out _).mono ?_
      rintro _ _ ⟨rfl, rfl⟩
      go_wp2_with fail
      go_ret3
      exact ⟨rfl, rfl⟩
theorem ref_Value (level : Nat) (scale wide : Int) (hl : level < 2 ^ 64) (hs : I64 scale) (hw : I64 wide) (w : World) :
    Calls Try.prog 13 #[.int .u64 (level : Int), .int .i64 scale, .int .i64 wide] w fun e w' => e = .returned (.tuple #[.int .i64 (valV level scale wide : Int), .int .i64 (valE level scale wide)]) ∧ w = w' := by
  have C1 := hid (ref_Steps wide hw w)
  unfold I64 at hs
  by_cases h : valE level scale wide = 0
  · obtain ⟨h1, h2, h3⟩ := valE_ok.1 h
    have e1 : valV level scale wide = vlQ level scale.toNat (topQ wide) := if_pos h
    have ht := topQ_bd h1
    rw [h, e1]
    rw [show stsV wide = topQ wide from if_pos h1, h1] at C1
    obtain ⟨s, rfl⟩ := Int.eq_ofNat_of_zero_le h2
    rw [Int.toNat_natCast]
    obtain ⟨t, htt⟩ : ∃ t, topQ wide = t := ⟨_, rfl⟩
    rw [htt] at C1 ht h3 ⊢
    clear e1 h h1 htt
    have ht0 : 0 < t := ht.1
    obtain ⟨b1, b2⟩ := vlQ_bits (s := s) h3 ht0 ht.2
    have hp := vlQ_parts (l := level) (s := s) ht0
    have hle := vlQ_le (s := s) h3
    obtain ⟨V, hV⟩ : ∃ V, vlQ level s t = V := ⟨_, rfl⟩
    rw [hV] at hp hle ⊢
    have hd : s / t ≤ s := Nat.div_le_self s t
    have hr : s % t < t := Nat.mod_lt s ht0
    obtain ⟨A, hA⟩ : ∃ A, s / t = A := ⟨_, rfl⟩
    obtain ⟨R, hR⟩ : ∃ R, s % t = R := ⟨_, rfl⟩
    rw [hA] at hp b1 hd
    rw [hR] at hp b2 hr
    obtain ⟨X, hX⟩ : ∃ X, A * level = X := ⟨_, rfl⟩
    obtain ⟨Y, hY⟩ : ∃ Y, R * level = Y := ⟨_, rfl⟩
    rw [hX] at hp b1
    rw [hY] at hp b2
    have hq : Y / t ≤ Y := Nat.div_le_self Y t
    obtain ⟨Z, hZ⟩ : ∃ Z, Y / t = Z := ⟨_, rfl⟩
    rw [hZ] at hp hq
    have i1 : (s : Int) / (t : Int) = (A : Int) := by rw [← hA]; simp
    have i2 : (s : Int) % (t : Int) = (R : Int) := by rw [← hR]; simp
    have i3 : (A : Int) * (level : Int) = (X : Int) := by rw [← hX]; simp
    have i4 : (R : Int) * (level : Int) = (Y : Int) := by rw [← hY]; simp
    have i5 : (Y : Int) / (t : Int) = (Z : Int) := by rw [← hZ]; simp
    have i6 : (X : Int) + (Z : Int) = (V : Int) := by omega
    have it : (t : Int) ≠ 0 := by omega
    have l3 : ¬ ((level : Int) > (t : Int)) := by omega
    clear hV hA hR hX hY hZ hp h2
    go_enter Try.func13, Try.ntmps13
    go_wp2_with fail
    refine C1.out.mono ?_
    rintro _ _ ⟨rfl, rfl⟩
    go_wp2_with fail
    go_ret2
    exact ⟨by go_num, rfl⟩
  · have e1 : valV level scale wide = 0 := if_neg h
    have e3 : valE level scale wide = 1 := by unfold valE at h ⊢; split at h <;> simp_all
    have h1 : ¬ stsE wide = 0 ∨ (stsE wide = 0 ∧ scale < 0) ∨ (stsE wide = 0 ∧ ¬ scale < 0 ∧ (level : Int) > (topQ wide : Int)) := by
      have h2 : ¬ (stsE wide = 0 ∧ 0 ≤ scale ∧ level ≤ topQ wide) := fun h3 => h (valE_ok.2 h3)
      omega
    rw [e1, e3]
    clear e1 e3 h
    rcases h1 with h1 | ⟨h1, h2⟩ | ⟨h1, h2, h3⟩
    · obtain ⟨E, hE⟩ : ∃ E, stsE wide = E := ⟨_, rfl⟩
      rw [hE] at C1 h1
      have hne : (E != 0) = true := by simpa using h1
      clear hE h1
      go_enter Try.func13, Try.ntmps13
      go_wp2_with fail
      refine C1.out.mono ?_
      rintro _ _ ⟨rfl, rfl⟩
      go_wp2_with fail
      go_ret2
      exact ⟨rfl, rfl⟩
    · rw [h1] at C1
      clear h1
      go_enter Try.func13, Try.ntmps13
      go_wp2_with fail
      refine C1.out.mono ?_
      rintro _ _ ⟨rfl, rfl⟩
      go_wp2_with fail
      go_ret2
      exact ⟨rfl, rfl⟩
    · rw [show stsV wide = topQ wide from if_pos h1, h1] at C1
      have ht := topQ_bd h1
      obtain ⟨t, htt⟩ : ∃ t, topQ wide = t := ⟨_, rfl⟩
      rw [htt] at C1 h3 ht
      clear h1 htt
      go_enter Try.func13, Try.ntmps13
      go_wp2_with fail
      refine C1.out.mono ?_
      rintro _ _ ⟨rfl, rfl⟩
      go_wp2_with fail
      go_ret2
      exact ⟨rfl, rfl⟩
end Go.Proofs.Ytbkoapdeglmopaa
/- Draws: blended, finished, below a number, chances: by the program and by the document. -/
namespace Go.Proofs.Ytbkoapdeglmopaa
open Go.RowKit
set_option maxHeartbeats 400000
set_option maxRecDepth 100000
set_option linter.unusedVariables false
theorem xor_dr {a b : Nat} (ha : a < 2 ^ 64) (hb : b < 2 ^ 64) : bits BinOp.xor IntKind.u64 (a : Int) (b : Int) = ((a ^^^ b : Nat) : Int) := by
  show IntKind.u64.wrap ((BitVec.ofInt 64 a ^^^ BitVec.ofInt 64 b).toNat : Int) = _
  rw [BitVec.toNat_xor, BitVec.ofInt_natCast, BitVec.ofInt_natCast, BitVec.toNat_ofNat, BitVec.toNat_ofNat, Nat.mod_eq_of_lt ha, Nat.mod_eq_of_lt hb]
  have := Nat.xor_lt_two_pow ha hb
  rw [IntKind.wrap_u64]
  omega
theorem mul_dr (x m : Nat) : IntKind.u64.wrap ((x : Int) * (m : Int)) = ((mulK x m : Nat) : Int) := by
  rw [IntKind.wrap_u64]
  unfold mulK
  omega
theorem mul_dr1 (x : Nat) : IntKind.u64.wrap ((x : Int) * 11400714819323198485) = ((mulK x 11400714819323198485 : Nat) : Int) := mul_dr x 11400714819323198485
theorem mul_dr2 (x : Nat) : IntKind.u64.wrap ((x : Int) * 13787848793156543929) = ((mulK x 13787848793156543929 : Nat) : Int) := mul_dr x 13787848793156543929
theorem tsf_dr29 {y : Nat} (hy : y < 2 ^ 64) : bits BinOp.xor IntKind.u64 (y : Int) ((y : Int) / 536870912) = ((tsf 29 y : Nat) : Int) := by
  rw [show (y : Int) / 536870912 = ((y / 2 ^ 29 : Nat) : Int) by omega, xor_dr hy (Nat.lt_of_le_of_lt (Nat.div_le_self _ _) hy)]
  rfl
theorem tsf_dr32 {y : Nat} (hy : y < 2 ^ 64) : bits BinOp.xor IntKind.u64 (y : Int) ((y : Int) / 4294967296) = ((tsf 32 y : Nat) : Int) := by
  rw [show (y : Int) / 4294967296 = ((y / 2 ^ 32 : Nat) : Int) by omega, xor_dr hy (Nat.lt_of_le_of_lt (Nat.div_le_self _ _) hy)]
  rfl
theorem uN_dr {k : Int} : IntKind.u64.wrap k = ((uN k : Nat) : Int) := by
  rw [IntKind.wrap_u64, uN_int]
theorem dr_finish (x : Nat) (hx : x < 2 ^ 64) (w : World) :
    Calls Try.prog 87 #[.int .u64 (x : Int)] w fun e w' => e = .returned (.int .u64 ((finN x : Nat) : Int)) ∧ w = w' := by
  have e1 := mul_dr2 x
  have hy := mulK_lt x 13787848793156543929
  obtain ⟨R, hR⟩ : ∃ R, finN x = R := ⟨_, rfl⟩
  unfold finN at hR
  rw [show finN x = R from hR]
  obtain ⟨y, hy'⟩ : ∃ y, mulK x 13787848793156543929 = y := ⟨_, rfl⟩
  rw [hy'] at e1 hy hR
  have e2 := tsf_dr32 hy
  rw [hR] at e2
  clear hy' hR
  go_enter Try.func87, Try.ntmps87
  go_wp2_with fail
  go_ret
  exact ⟨rfl, rfl⟩
theorem dr_blend {A : Option Addr} {c : Nat} (s : Nat) (hs : s < 2 ^ 64) (n : List Int) (hn : n.length ≤ 9223372036854775807) (un : ∀ x ∈ n, I64 x) (w : World) {B : Nat} (ra : Rd (Value.int .i64) w B A n) :
    Calls Try.prog 88 #[.int .u64 (s : Int), .slice A n.length c] w fun e w' => e = .returned (.int .u64 ((blN s n : Nat) : Int)) ∧ w = w' := by
  obtain ⟨R, hR⟩ : ∃ R, blN s n = R := ⟨_, rfl⟩
  rw [hR]
  have HR := hid hR
  have HA := hid ra
  have UN := hid un
  clear ra un hR
  go_enter Try.func88, Try.ntmps88
  go_wp2_with fail
  go_loop [5, 7, 11] (fun s' k0 i => ∃ (k x : Nat), k ≤ n.length ∧ x < 2 ^ 64 ∧ i = .int .i64 k ∧ s' = .int .u64 x ∧ blN s (n.take k) = x) (fun _ _ i => n.length - (intOf i).toNat)
  case atStart => exact ⟨0, s, by omega, hs, rfl, rfl, by rw [List.take_zero]; exact blN_nil s⟩
  case round =>
    obtain ⟨k, x, hk, hx, rfl, rfl, hs'⟩ := hrel
    have HS := hid hs'
    clear hs'
    by_cases hlt : k < n.length
    · obtain ⟨b1, o1, v, rfl, l1, ev, c1⟩ := HA.out.at_ hlt
      have HN := hid (blN_step s ev)
      rw [HS.out] at HN
      have e0 := uN_dr (k := v)
      have hu := uN_lt v
      have hst := stp_lt x v
      obtain ⟨u, hu'⟩ : ∃ u, uN v = u := ⟨_, rfl⟩
      obtain ⟨Z, hZ⟩ : ∃ Z, stp x v = Z := ⟨_, rfl⟩
      rw [hZ] at HN hst
      unfold stp at hZ
      rw [hu'] at e0 hu hZ
      have e1 := xor_dr hx hu
      obtain ⟨y, hy'⟩ : ∃ y, x ^^^ u = y := ⟨_, rfl⟩
      rw [hy'] at e1 hZ
      have e2 := mul_dr1 y
      have hz := mulK_lt y 11400714819323198485
      obtain ⟨z, hz'⟩ : ∃ z, mulK y 11400714819323198485 = z := ⟨_, rfl⟩
      rw [hz'] at e2 hz hZ
      have e3 := tsf_dr29 hz
      rw [hZ] at e3
      clear hu' hy' hz' hZ ev
      go_wp2_with fail
      go_round
      case rel => exact ⟨k + 1, Z, by omega, hst, by go_num, rfl, HN.out⟩
      case measure => simp [intOf]; omega
    · have h := HS.out
      rw [List.take_of_length_le (by omega), HR.out] at h
      subst h
      go_wp2_with fail
      go_ret
      exact ⟨rfl, rfl⟩
theorem ref_At {A : Option Addr} {c : Nat} (s : Nat) (hs : s < 2 ^ 64) (n : List Int) (hn : n.length ≤ 9223372036854775807) (un : ∀ x ∈ n, I64 x) (w : World) {B : Nat} (ra : Rd (Value.int .i64) w B A n) :
    Calls Try.prog 59 #[.int .u64 (s : Int), .slice A n.length c] w fun e w' => e = .returned (.int .u64 ((atN s n : Nat) : Int)) ∧ w = w' := by
  obtain ⟨R, hR⟩ : ∃ R, atN s n = R := ⟨_, rfl⟩
  rw [hR]
  have HR := hid hR
  have HA := hid ra
  have UN := hid un
  clear ra un hR
  go_enter Try.func59, Try.ntmps59
  go_wp2_with fail
  go_loop [5, 7, 11] (fun s' k0 i => ∃ (k x : Nat), k ≤ n.length ∧ x < 2 ^ 64 ∧ i = .int .i64 k ∧ s' = .int .u64 x ∧ blN s (n.take k) = x) (fun _ _ i => n.length - (intOf i).toNat)
  case atStart => exact ⟨0, s, by omega, hs, rfl, rfl, by rw [List.take_zero]; exact blN_nil s⟩
  case round =>
    obtain ⟨k, x, hk, hx, rfl, rfl, hs'⟩ := hrel
    have HS := hid hs'
    clear hs'
    by_cases hlt : k < n.length
    · obtain ⟨b1, o1, v, rfl, l1, ev, c1⟩ := HA.out.at_ hlt
      have HN := hid (blN_step s ev)
      rw [HS.out] at HN
      have e0 := uN_dr (k := v)
      have hu := uN_lt v
      have hst := stp_lt x v
      obtain ⟨u, hu'⟩ : ∃ u, uN v = u := ⟨_, rfl⟩
      obtain ⟨Z, hZ⟩ : ∃ Z, stp x v = Z := ⟨_, rfl⟩
      rw [hZ] at HN hst
      unfold stp at hZ
      rw [hu'] at e0 hu hZ
      have e1 := xor_dr hx hu
      obtain ⟨y, hy'⟩ : ∃ y, x ^^^ u = y := ⟨_, rfl⟩
      rw [hy'] at e1 hZ
      have e2 := mul_dr1 y
      have hz := mulK_lt y 11400714819323198485
      obtain ⟨z, hz'⟩ : ∃ z, mulK y 11400714819323198485 = z := ⟨_, rfl⟩
      rw [hz'] at e2 hz hZ
      have e3 := tsf_dr29 hz
      rw [hZ] at e3
      clear hu' hy' hz' hZ ev
      go_wp2_with fail
      go_round
      case rel => exact ⟨k + 1, Z, by omega, hst, by go_num, rfl, HN.out⟩
      case measure => simp [intOf]; omega
    · have h := HS.out
      rw [List.take_of_length_le (by omega)] at h
      have HR2 := HR.out
      unfold atN at HR2
      rw [h] at HR2
      have e1 := mul_dr2 x
      have hy := mulK_lt x 13787848793156543929
      unfold finN at HR2
      obtain ⟨y, hy'⟩ : ∃ y, mulK x 13787848793156543929 = y := ⟨_, rfl⟩
      rw [hy'] at e1 hy HR2
      have e2 := tsf_dr32 hy
      rw [HR2] at e2
      clear hy' h HR2
      go_wp2_with fail
      go_ret
      exact ⟨rfl, rfl⟩
theorem dr_At {A : Option Addr} {c : Nat} (s : Nat) (hs : s < 2 ^ 64) (n : List Int) (hn : n.length ≤ 9223372036854775807) (un : ∀ x ∈ n, I64 x) (w : World) {B : Nat} (ra : Rd (Value.int .i64) w B A n) :
    Calls Try.prog 82 #[.int .u64 (s : Int), .slice A n.length c] w fun e w' => e = .returned (.int .u64 ((atN s n : Nat) : Int)) ∧ w = w' := by
  have C1 := hid (dr_blend (c := c) s hs n hn un w ra)
  have C2 := hid (dr_finish (blN s n) (blN_lt n hs) w)
  rw [show finN (blN s n) = atN s n from rfl] at C2
  clear ra un
  go_enter Try.func82, Try.ntmps82
  go_wp2_with fail
  refine C1.out.mono ?_
  rintro _ _ ⟨rfl, rfl⟩
  go_wp2_with fail
  refine C2.out.mono ?_
  rintro _ _ ⟨rfl, rfl⟩
  go_wp2_with fail
  go_ret
  exact ⟨rfl, rfl⟩
theorem dr_Below {A : Option Addr} {c : Nat} (most s : Nat) (hm : most < 2 ^ 64) (hs : s < 2 ^ 64) (n : List Int) (hn : n.length ≤ 9223372036854775807) (un : ∀ x ∈ n, I64 x) (w : World) {B : Nat} (ra : Rd (Value.int .i64) w B A n) :
    Calls Try.prog 70 #[.int .u64 (most : Int), .int .u64 (s : Int), .slice A n.length c] w fun e w' => e = .returned (.tuple #[.int .u64 ((belV most s n : Nat) : Int), .int .i64 (belE most)]) ∧ w = w' := by
  have C1 := hid (dr_At (c := c) s hs n hn un w ra)
  clear ra un
  by_cases h : most = 0
  · have h1 : ((most : Int) == 0) = true := by simpa using h
    have hv : belV most s n = 0 := if_pos h
    have he : belE most = 1 := if_pos h
    rw [hv, he]
    clear h hv he C1
    go_enter Try.func70, Try.ntmps70
    go_wp2_with fail
    go_ret2
    exact ⟨rfl, rfl⟩
  · have h1 : ((most : Int) == 0) = false := by simpa using h
    have hv : belV most s n = atN s n % most := if_neg h
    have he : belE most = 0 := if_neg h
    have hp : 0 < most := by omega
    rw [hv, he]
    have ha := atN_lt s n
    obtain ⟨a, ha'⟩ : ∃ a, atN s n = a := ⟨_, rfl⟩
    rw [ha'] at C1 ha ⊢
    clear h hv he ha'
    go_enter Try.func70, Try.ntmps70
    go_wp2_with fail
    refine C1.out.mono ?_
    rintro _ _ ⟨rfl, rfl⟩
    go_wp2_with fail
    go_ret2
    exact ⟨rfl, rfl⟩
theorem ref_Below {A : Option Addr} {c : Nat} (most s : Nat) (hm : most < 2 ^ 64) (hs : s < 2 ^ 64) (n : List Int) (hn : n.length ≤ 9223372036854775807) (un : ∀ x ∈ n, I64 x) (w : World) {B : Nat} (ra : Rd (Value.int .i64) w B A n) :
    Calls Try.prog 35 #[.int .u64 (most : Int), .int .u64 (s : Int), .slice A n.length c] w fun e w' => e = .returned (.tuple #[.int .u64 ((belV most s n : Nat) : Int), .int .i64 (belE most)]) ∧ w = w' := by
  have C1 := hid (ref_At (c := c) s hs n hn un w ra)
  clear ra un
  by_cases h : most = 0
  · have h1 : ((most : Int) == 0) = true := by simpa using h
    have hv : belV most s n = 0 := if_pos h
    have he : belE most = 1 := if_pos h
    rw [hv, he]
    clear h hv he C1
    go_enter Try.func35, Try.ntmps35
    go_wp2_with fail
    go_ret2
    exact ⟨rfl, rfl⟩
  · have h1 : ((most : Int) == 0) = false := by simpa using h
    have hv : belV most s n = atN s n % most := if_neg h
    have he : belE most = 0 := if_neg h
    have hp : 0 < most := by omega
    rw [hv, he]
    have ha := atN_lt s n
    obtain ⟨a, ha'⟩ : ∃ a, atN s n = a := ⟨_, rfl⟩
    rw [ha'] at C1 ha ⊢
    clear h hv he ha'
    go_enter Try.func35, Try.ntmps35
    go_wp2_with fail
    refine C1.out.mono ?_
    rintro _ _ ⟨rfl, rfl⟩
    go_wp2_with fail
    go_ret2
    exact ⟨rfl, rfl⟩
/-- A part of a whole. -/
theorem cha_no {part whole s : Nat} {n : List Int} (h : whole = 0 ∨ whole < part) : chaB part whole s n = false ∧ chaE part whole = 1 := ⟨if_pos h, if_pos h⟩
theorem cha_yes {part whole s : Nat} {n : List Int} (h : ¬ (whole = 0 ∨ whole < part)) : chaB part whole s n = decide (belV whole s n < part) ∧ chaE part whole = 0 ∧ belE whole = 0 := by
  have h0 : ¬ whole = 0 := fun e => h (.inl e)
  refine ⟨?_, if_neg h, if_neg h0⟩
  unfold chaB belV
  rw [if_neg h, if_neg h0]
theorem dr_Chance {A : Option Addr} {c : Nat} (part whole s : Nat) (hp : part < 2 ^ 64) (hw : whole < 2 ^ 64) (hs : s < 2 ^ 64) (n : List Int) (hn : n.length ≤ 9223372036854775807) (un : ∀ x ∈ n, I64 x) (w : World) {B : Nat} (ra : Rd (Value.int .i64) w B A n) :
    Calls Try.prog 57 #[.int .u64 (part : Int), .int .u64 (whole : Int), .int .u64 (s : Int), .slice A n.length c] w fun e w' => e = .returned (.tuple #[.bool (chaB part whole s n), .int .i64 (chaE part whole)]) ∧ w = w' := by
  have C1 := hid (dr_Below (c := c) whole s hw hs n hn un w ra)
  clear ra un
  by_cases h1 : whole < part
  · obtain ⟨hv, he⟩ := cha_no (s := s) (n := n) (.inr h1 : whole = 0 ∨ whole < part)
    rw [hv, he]
    clear hv he C1
    go_enter Try.func57, Try.ntmps57
    go_wp2_with fail
    go_ret2
    exact ⟨rfl, rfl⟩
  · by_cases h0 : whole = 0
    · obtain ⟨hv, he⟩ := cha_no (s := s) (n := n) (.inl h0 : whole = 0 ∨ whole < part)
      rw [hv, he]
      rw [show belE whole = 1 from if_pos h0] at C1
      clear hv he h0
      go_enter Try.func57, Try.ntmps57
      go_wp2_with fail
      refine C1.out.mono ?_
      rintro _ _ ⟨rfl, rfl⟩
      go_wp2_with fail
      go_ret2
      exact ⟨rfl, rfl⟩
    · obtain ⟨hv, he, hb⟩ := cha_yes (s := s) (n := n) (fun h => h.elim h0 h1 : ¬ (whole = 0 ∨ whole < part))
      rw [hv, he]
      rw [hb] at C1
      obtain ⟨x, hx⟩ : ∃ x, belV whole s n = x := ⟨_, rfl⟩
      rw [hx] at C1 ⊢
      clear hv he hb h0 hx
      go_enter Try.func57, Try.ntmps57
      go_wp2_with fail
      refine C1.out.mono ?_
      rintro _ _ ⟨rfl, rfl⟩
      go_wp2_with fail
      go_ret2
      exact ⟨by simp, rfl⟩
end Go.Proofs.Ytbkoapdeglmopaa
/- leb's functions that tell numbers alone, and a code behind a text of the call's own. -/
namespace Go.Proofs.Ytbkoapdeglmopaa
open Go.RowKit
set_option maxHeartbeats 400000
set_option maxRecDepth 100000
set_option linter.unusedVariables false
theorem not_i64 {n : Int} (h : I64 n) : bits BinOp.xor IntKind.i64 (-1) n = -n - 1 := by
  unfold I64 at h
  show IntKind.i64.wrap ((BitVec.ofInt 64 (-1) ^^^ BitVec.ofInt 64 n).toNat : Int) = _
  rw [show BitVec.ofInt 64 (-1) = BitVec.allOnes 64 from rfl, BitVec.allOnes_xor, BitVec.toNat_not, BitVec.toNat_ofInt, IntKind.wrap_i64]
  omega
theorem or_one {m : Int} (h0 : 0 ≤ m) (h1 : m ≤ 9223372036854775807) : bits BinOp.or IntKind.u64 (m * 2) 1 = m * 2 + 1 :=
  bits_join .u64 64 (by decide) (fun n h0 h1 => by rw [IntKind.wrap_u64]; omega) 1 _ _ (by omega) (by omega) (by omega) (by omega) (by omega) (by omega)
theorem or_more (x : Int) : bits BinOp.or IntKind.u8 (x % 256) 128 = x % 128 + 128 := by
  have hd : ∀ b : Fin 256, bits BinOp.or IntKind.u8 (b.val : Int) 128 = (b.val : Int) % 128 + 128 := by decide +kernel
  have := hd ⟨(x % 256).toNat, by omega⟩
  simp only at this
  rw [show (((x % 256).toNat : Nat) : Int) = x % 256 by omega] at this
  rw [this]
  omega
end Go.Proofs.Ytbkoapdeglmopaa
/- Texts that are the same; a number got, signed and not, by the program and by the document. -/
namespace Go.Proofs.Ytbkoapdeglmopaa
open Go.RowKit
set_option maxHeartbeats 400000
set_option maxRecDepth 100000
set_option linter.unusedVariables false
theorem or_comm_u64 (x y : Int) : bits .or .u64 x y = bits .or .u64 y x := by
  show IntKind.u64.wrap ((BitVec.ofInt 64 x ||| BitVec.ofInt 64 y).toNat : Int) = IntKind.u64.wrap ((BitVec.ofInt 64 y ||| BitVec.ofInt 64 x).toNat : Int)
  rw [BitVec.or_comm]
theorem or_put {n x : Int} {k : Nat} (h0 : 0 ≤ x) (h1 : x ≤ 127) (hk : k ≤ 9) (h9 : k = 9 → x ≤ 1) (hn0 : 0 ≤ n) (hn : n < 2 ^ (7 * k)) : bits BinOp.or IntKind.u64 n (x * 2 ^ (7 * k)) = n + x * 2 ^ (7 * k) := by
  have hb := shl_in h0 h1 hk h9
  have hp := pow7_pos k
  have h3 : (2 : Int) ^ (7 * k) ≤ 2 ^ 63 := by
    have := Nat.pow_le_pow_right (show 0 < 2 by decide) (show 7 * k ≤ 63 by omega)
    exact_mod_cast this
  rw [or_comm_u64, bits_join .u64 64 (by decide) (fun n h0 h1 => by rw [IntKind.wrap_u64]; omega) (7 * k) _ _ hb.1 (Int.mul_emod_left _ _) (by omega) hn0 hn (by omega)]
  omega
theorem get_short {b : List Int} {a : Int} (ha : (b.length : Int) ≤ a) : getN b a = 0 ∧ getE b a = 5 ∧ getA b a = 0 :=
  get_out (v := 0) (s := 0) (e := 5) (by omega) (by rw [List.drop_eq_nil_of_le (by omega)]; rfl)
theorem get_arg {b : List Int} {a : Int} (ha : a < 0) : getN b a = 0 ∧ getE b a = 1 ∧ getA b a = 0 := by
  unfold getA getN getE
  simp [ha]
theorem drop_at {D : List Int} {k : Nat} {x : Int} (h : D[k]? = some x) : D.drop k = x :: D.drop (k + 1) := by
  obtain ⟨hk, rfl⟩ := List.getElem?_eq_some_iff.1 h
  exact List.drop_eq_getElem_cons hk
theorem gl_next {D : List Int} {k : Nat} {x n : Int} (h : D[k]? = some x) (hx : 128 ≤ x) (hk : k ≤ 8) : gL (D.drop k) k n = gL (D.drop (k + 1)) (k + 1) (n + x % 128 * 2 ^ (7 * k)) := by
  rw [drop_at h, gL, if_neg (by omega), if_neg (by omega)]
theorem gl_nine {D : List Int} {x n : Int} (h : D[9]? = some x) (hx : 1 < x) : gL (D.drop 9) 9 n = (0, 0, 6) := by
  rw [drop_at h, gL, if_pos ⟨rfl, hx⟩]
theorem gl_zero {D : List Int} {k : Nat} {n : Int} (h : D[k]? = some 0) (hk : 0 < k) : gL (D.drop k) k n = (0, 0, 6) := by
  rw [drop_at h, gL, if_neg (by omega), if_pos (by omega), if_pos ⟨hk, rfl⟩]
theorem gl_last {D : List Int} {k : Nat} {x n : Int} (h : D[k]? = some x) (hx : x < 128) (h9 : k = 9 → x ≤ 1) (h0 : k = 0 ∨ x ≠ 0) : gL (D.drop k) k n = (n + x % 128 * 2 ^ (7 * k), ((k + 1 : Nat) : Int), 0) := by
  rw [drop_at h, gL, if_neg (by omega), if_pos hx, if_neg (by omega)]
theorem gl_end {D : List Int} {k : Nat} {n : Int} (h : D.length ≤ k) : gL (D.drop k) k n = (0, 0, 5) := by
  rw [List.drop_eq_nil_of_le h, gL]
theorem or_part {n x : Int} {k : Nat} (hx : 0 ≤ x ∧ x ≤ 255) (hk : k ≤ 9) (h9 : k = 9 → x ≤ 1) (hn0 : 0 ≤ n) (hn : n < 2 ^ (7 * k)) :
    bits BinOp.or IntKind.u64 n (IntKind.u64.wrap (x % 128 * 2 ^ (7 * k))) = n + x % 128 * 2 ^ (7 * k) := by
  have h := shl_in (x := x % 128) (k := k) (by omega) (by omega) hk (fun e => by have := h9 e; omega)
  rw [show IntKind.u64.wrap (x % 128 * 2 ^ (7 * k)) = x % 128 * 2 ^ (7 * k) by rw [IntKind.wrap_u64]; omega]
  exact or_put (by omega) (by omega) hk (fun e => by have := h9 e; omega) hn0 hn
theorem ret3 {k k' k'' : IntKind} {x y z x' y' z' : Int} (h1 : x = x') (h2 : y = y') (h3 : z = z') : Ending.returned (Value.tuple #[.int k x, .int k' y, .int k'' z]) = Ending.returned (Value.tuple #[.int k x', .int k' y', .int k'' z']) := by rw [h1, h2, h3]
end Go.Proofs.Ytbkoapdeglmopaa
/- Numbers put and got, one behind the other, by the program and by the document. -/
namespace Go.Proofs.Ytbkoapdeglmopaa
open Go.RowKit
set_option maxHeartbeats 400000
set_option maxRecDepth 100000
set_option linter.unusedVariables false
theorem encs_step {l : List Int} {k : Nat} {x : Int} (h : l[k]? = some x) : encs (l.take (k + 1)) = encs (l.take k) ++ lebI x := by
  rw [List.take_add_one, h, encs_app]
  congr 1
  exact encs_one x
theorem encs_take {l : List Int} (h : U64s l) (k : Nat) : (encs (l.take k)).length ≤ 10 * l.length := by
  have h1 := encs_len (h.take k)
  have : (l.take k).length ≤ l.length := by rw [List.length_take]; omega
  omega
end Go.Proofs.Ytbkoapdeglmopaa
/- Signed numbers put; numbers put by the document; one got signed; many got; lists that are the same. -/
namespace Go.Proofs.Ytbkoapdeglmopaa
open Go.RowKit
set_option maxHeartbeats 400000
set_option maxRecDepth 100000
set_option linter.unusedVariables false
theorem encs_zig_step {l : List Int} {k : Nat} {x : Int} (h : l[k]? = some x) : encs ((l.take (k + 1)).map zigI) = encs ((l.take k).map zigI) ++ lebI (zigI x) := by
  rw [List.take_add_one, h, List.map_append, encs_app]
  congr 1
  exact encs_one _
end Go.Proofs.Ytbkoapdeglmopaa
/- Places written and read, by the document. -/
namespace Go.Proofs.Ytbkoapdeglmopaa
open Go.RowKit
set_option maxHeartbeats 400000
set_option maxRecDepth 100000
set_option linter.unusedVariables false
/-- A call's answer: places of the call's own, where it ends, an error. -/
def OwnG (r : List Int × Int × Int) (w : World) (e : Ending) (w' : World) : Prop :=
  ∃ A c, e = .returned (.tuple #[.slice A r.1.length c, .int .i64 r.2.1, .int .i64 r.2.2]) ∧ w'.ownsRow w.heap.size 3 1 (.slice A r.1.length c) r.1.length (r.1.map (Value.int .i64)) ∧ Below w.heap.size w w'
theorem OwnG.nil {er : Int} {w w' : World} (hb : Below w.heap.size w w') : OwnG ([], 0, er) w (.returned (.tuple #[.slice none 0 0, .int .i64 0, .int .i64 er])) w' := ⟨none, 0, rfl, own_nil _ _ _, hb⟩
theorem plc_take {dim : Int} {l : List Int} (h : plcP dim l) (k : Nat) : plcP dim (l.take k) := ⟨h.1, h.2.1, ris_take h.2.2.1 k, fun n hn => h.2.2.2 n (List.mem_of_mem_take hn)⟩
/-- The codes of how many there are, and of the first ones. -/
def putK (l : List Int) (k : Nat) : List Int := encs ((l.length : Int) :: gapsF (-1) (l.take k))
theorem putK_step {l : List Int} {k : Nat} {x : Int} (h : l[k]? = some x) : putK l (k + 1) = putK l k ++ encs [x - lastI (-1) (l.take k) - 1] := by
  unfold putK
  rw [putL_step h, ← List.cons_append, encs_app]
theorem putK_len {dim : Int} {l : List Int} (h : plcP dim l) (k : Nat) : (putK l k).length ≤ 41000 := by
  have h1 := plc_le h
  have h2 := plc_le (plc_take h k)
  have hd := h.2.1
  have hu : U64s ((l.length : Int) :: gapsF (-1) (l.take k)) := by
    have hp := plc_take h k
    intro x hx
    rcases List.mem_cons.1 hx with rfl | hx
    · unfold U64; omega
    · exact gaps_u64 _ (-1) (plc_cons hp) (by omega) (fun n hn => by have := hp.2.2.2 n hn; omega) x hx
  have := encs_len hu
  unfold putK
  rw [List.length_cons, gaps_len] at this
  omega
theorem putK_all (l : List Int) : putK l l.length = encs (putL l) := by unfold putK putL; rw [List.take_length]
theorem gix_cases {dim : Int} {b : List Int} {a : Int} (h1 : 1 ≤ dim) (h2 : dim ≤ 4096) : (getE b a ≠ 0 → gixR dim b a = ([], 0, getE b a)) ∧ (getE b a = 0 → dim < getN b a → gixR dim b a = ([], 0, 6)) ∧
    (getE b a = 0 → getN b a ≤ dim → withL [] (ixL dim b (getN b a).toNat (-1) (getA b a)) = gixR dim b a) := by
  unfold gixR
  rw [if_neg (by omega)]
  refine ⟨fun h => if_pos h, fun h h3 => ?_, fun h h3 => ?_⟩
  · have h' : ¬ getE b a ≠ 0 := fun hn => hn h
    rw [if_neg h', if_pos h3]
  · have h' : ¬ getE b a ≠ 0 := fun hn => hn h
    rw [if_neg h', if_neg (by omega)]
    exact withL_nil (ixL_bad dim b _ _ _)
end Go.Proofs.Ytbkoapdeglmopaa
/- Numbers spread and gathered, other places, lists together, by the document. -/
namespace Go.Proofs.Ytbkoapdeglmopaa
open Go.RowKit
set_option maxHeartbeats 400000
set_option maxRecDepth 100000
set_option linter.unusedVariables false
theorem sp_map {k : Nat} {l v : List Int} : (upI k).map (spF l v) = (List.range k).map fun j : Nat => spF l v (j : Int) := by
  unfold upI
  rw [List.map_map]
  rfl
/-- The numbers ahead of some place of lists. -/
def upto (ls : List (List Int)) (i j : Nat) : List Int := (ls.take i).flatten ++ (ls.getD i []).take j
theorem upto_next {ls : List (List Int)} {i : Nat} {x : List Int} (h : ls[i]? = some x) : upto ls i x.length = upto ls (i + 1) 0 := by
  unfold upto
  rw [List.take_add_one, h, List.getD_eq_getElem?_getD, h, Option.getD_some, List.take_length, List.flatten_append, List.take_zero, List.append_nil]
  simp
theorem upto_step {ls : List (List Int)} {i j : Nat} {x : List Int} {n : Int} (h : ls[i]? = some x) (hj : x[j]? = some n) : upto ls i (j + 1) = upto ls i j ++ [n] := by
  unfold upto
  rw [List.getD_eq_getElem?_getD, h, Option.getD_some, take_snoc hj, List.append_assoc]
theorem upto_end (ls : List (List Int)) {i : Nat} (h : ls.length ≤ i) : upto ls i 0 = ls.flatten := by
  unfold upto
  rw [List.take_of_length_le h, List.take_zero, List.append_nil]
theorem upto_len {ls : List (List Int)} {i j : Nat} : (upto ls i j).length ≤ ls.flatten.length := by
  unfold upto
  conv => rhs; rw [← List.take_append_drop i ls, List.flatten_append]
  rw [List.length_append, List.length_append]
  have : ((ls.getD i []).take j).length ≤ (ls.drop i).flatten.length := by
    by_cases hi : i < ls.length
    · rw [List.drop_eq_getElem_cons hi, List.flatten_cons, List.length_append, List.getD_eq_getElem?_getD, List.getElem?_eq_getElem hi, Option.getD_some, List.length_take]
      omega
    · rw [List.getD_eq_getElem?_getD, List.getElem?_eq_none (by omega)]
      simp
  omega
theorem ins_len (out : List Int) (n : Int) : (insI out n).length ≤ out.length + 1 := by
  unfold insI
  split
  · omega
  · rw [List.length_append, List.length_append]
    have h : (out.filter fun m => decide (m < n)).length + (out.filter fun m => decide (n < m)).length ≤ out.length := by
      have h1 := filter_both (fun m => decide (m < n)) out
      have h2 : (out.filter fun m => decide (n < m)).length ≤ (out.filter fun x => !decide (x < n)).length := by
        rw [← List.countP_eq_length_filter, ← List.countP_eq_length_filter]
        exact List.countP_mono_left fun x _ hx => by simp at hx ⊢; omega
      omega
    simp
    omega
theorem mrgF_len : ∀ (l out : List Int), (mrgF out l).length ≤ out.length + l.length
  | [], out => by simp [mrgF]
  | n :: l, out => by
    have h1 := mrgF_len l (insI out n)
    have h2 := ins_len out n
    show (mrgF (insI out n) l).length ≤ _
    rw [List.length_cons]
    omega
theorem filter_snoc {l : List Int} {k : Nat} {x : Int} (h : l[k]? = some x) (p : Int → Bool) : (l.take (k + 1)).filter p = (l.take k).filter p ++ if p x = true then [x] else [] := by
  rw [take_snoc h, List.filter_append]
  congr 1
  cases hp : p x <;> simp [hp]
end Go.Proofs.Ytbkoapdeglmopaa
/- What is told the same; lists just laid. -/
namespace Go.Proofs.Ytbkoapdeglmopaa
open Go.RowKit
set_option maxHeartbeats 400000
set_option maxRecDepth 100000
set_option linter.unusedVariables false
/-- Places told, where they end, an error, named one by one. -/
def OwnX (xs : List Int) (a er : Int) (w : World) (e : Ending) (w' : World) : Prop :=
  ∃ A c, e = .returned (.tuple #[.slice A xs.length c, .int .i64 a, .int .i64 er]) ∧ w'.ownsRow w.heap.size 3 1 (.slice A xs.length c) xs.length (xs.map (Value.int .i64)) ∧ Below w.heap.size w w'
theorem put_live : pixV 9 [1, 2, 5] = [3, 1, 0, 2] ∧ chkE 9 [1, 2, 5] = 0 := by
  have h : chkE 9 [1, 2, 5] = 0 := by decide
  refine ⟨?_, h⟩
  unfold pixV
  rw [if_pos h]
  show encs [3, 1, 0, 2] = _
  simp [encs, lebI_last]
theorem get_live : gixR 9 [3, 1, 0, 2] 0 = ([1, 2, 5], 4, 0) := by decide
theorem rd_three (w : World) (t : TypeId) (a b c : Int) : Rd (Value.int .i64) (w.alloc (.cells #[.int .i64 a, .int .i64 b, .int .i64 c] t)) (w.alloc (.cells #[.int .i64 a, .int .i64 b, .int .i64 c] t)).heap.size (some ⟨w.heap.size, 0, none⟩) [a, b, c] := rd_new w t [a, b, c]
theorem rd_four8 (w : World) (t : TypeId) (a b c d : Int) : Rd (Value.int .u8) (w.alloc (.cells #[.int .u8 a, .int .u8 b, .int .u8 c, .int .u8 d] t)) (w.alloc (.cells #[.int .u8 a, .int .u8 b, .int .u8 c, .int .u8 d] t)).heap.size (some ⟨w.heap.size, 0, none⟩) [a, b, c, d] := rd_new w t [a, b, c, d]
/-- Equal lists are found so. -/
theorem equal_yes {X : List Int} (hx : X.length ≤ 9223372036854775807) {A B : Option Addr} {c d : Nat} (W : World) {L M : Nat} (h1 : Rd (Value.int .i64) W L A X) (h2 : Rd (Value.int .i64) W M B X) :
    Calls Try.prog 38 #[.slice A X.length c, .slice B X.length d] W fun e w' => e = .returned (.bool true) ∧ Below W.heap.size W w' := by
  have h := ref_Equal (A := A) (B := B) (c := c) (d := d) X X hx hx W h1 h2
  rw [eqB_self] at h
  exact h.mono fun _ _ ⟨h1, n, h2⟩ => ⟨h1, by rw [h2]; exact belowN _ _ _⟩
theorem ref_CheckB {A : Option Addr} {c : Nat} (dim : Int) (l : List Int) (hd : I64 dim) (hl : l.length ≤ 100000) (w : World) (ra : Rd (Value.int .i64) w w.heap.size A l) :
    Calls Try.prog 61 #[.int .i64 dim, .slice A l.length c] w fun e w' => e = .returned (.int .i64 (chkE dim l)) ∧ Below w.heap.size w w' :=
  (ref_Check dim l hd (by omega) w ra).mono fun _ _ ⟨h, n, e⟩ => ⟨h, by rw [e]; exact belowN _ _ _⟩
theorem grow (w : World) (o : Obj) : Below w.heap.size w (w.alloc o) := (Below.refl _ _).alloc (Nat.le_refl _) _
theorem ref_Same64 {A B : Option Addr} {c d : Nat} (xs ys : List Int) (hx : xs.length ≤ 9223372036854775807) (hy : ys.length ≤ 9223372036854775807) (w : World) {L M : Nat}
    (ra : Rd (Value.int .i64) w L A xs) (rb : Rd (Value.int .i64) w M B ys) :
    Calls Try.prog 23 #[.slice A xs.length c, .slice B ys.length d] w fun e w' => e = .returned (.bool (eqB xs ys)) ∧ ∃ n, w' = w.drewN n := by
  by_cases hl : xs.length = ys.length
  · have HA := hid ra
    have HB := hid rb
    clear ra rb
    have h1 : ((xs.length : Int) != (ys.length : Int)) = false := by simp; omega
    have h2 : (xs.length != ys.length) = false := by simp; omega
    have HL := hid hl
    clear hl
    go_enter Try.func23, Try.ntmps23
    go_wp2_with fail
    clear h1 h2
    go_loopw [13] (fun i wr => ∃ k : Nat, k ≤ xs.length ∧ i = .int .i64 k ∧ xs.take k = ys.take k ∧ ∃ n, wr = w.drewN n) (fun i _ => xs.length - (intOf i).toNat)
    case atStart => exact ⟨0, by omega, rfl, rfl, 0, rfl⟩
    case round =>
      obtain ⟨k, hk, rfl, ht, n, rfl⟩ := hrel
      have HT := hid ht
      clear ht
      by_cases hlt : k < xs.length
      · have hlt2 : k < ys.length := by have := HL.out; omega
        obtain ⟨b1, o1, x, rfl, l1, ex, c1⟩ := HA.out.at_ hlt
        obtain ⟨b2, o2, y, rfl, l2, ey, c2⟩ := HB.out.at_ hlt2
        have EX := hid ex
        have EY := hid ey
        clear ex ey
        by_cases e : x = y
        · have e' : (x != y) = false := by simpa using e
          have E := hid e
          clear e
          go_wp2_with fail
          go_quiet (fail)
          go_wp2_with fail
          go_roundw
          case rel => exact ⟨k + 1, by omega, by go_num, take_step HT.out EX.out EY.out E.out, _, rfl⟩
          case measure => simp [intOf]; omega
        · have e' : (x != y) = true := by simpa using e
          go_wp2_with fail
          go_quiet (fail)
          go_wp2_with fail
          go_ret
          rw [eqB_no EX.out EY.out e]
          exact ⟨rfl, drewN_two _ _ _⟩
      · have hke : k = xs.length := by omega
        have HK := hid hke
        clear hke
        go_wp2_with fail
        go_ret
        rw [eqB_yes HT.out HK.out HL.out]
        exact ⟨rfl, _, rfl⟩
  · rw [eqB_len hl]
    have h1 : ((xs.length : Int) != (ys.length : Int)) = true := by simp; omega
    have h2 : (xs.length != ys.length) = true := by simp; omega
    go_enter Try.func23, Try.ntmps23
    go_wp2_with fail
    go_ret
    exact ⟨rfl, 0, rfl⟩
theorem same64_yes {X : List Int} (hx : X.length ≤ 9223372036854775807) {A B : Option Addr} {c d : Nat} (W : World) (h1 : Rd (Value.int .i64) W W.heap.size A X) (h2 : Rd (Value.int .i64) W W.heap.size B X) :
    Calls Try.prog 23 #[.slice A X.length c, .slice B X.length d] W fun e w' => e = .returned (.bool true) ∧ Below W.heap.size W w' := by
  have h := ref_Same64 (A := A) (B := B) (c := c) (d := d) X X hx hx W h1 h2
  rw [eqB_self] at h
  exact h.mono fun _ _ ⟨h1, n, h2⟩ => ⟨h1, by rw [h2]; exact belowN _ _ _⟩
end Go.Proofs.Ytbkoapdeglmopaa
/- Widths, bytes, whether numbers may be packed; bits put into bytes, by the document. -/
namespace Go.Proofs.Ytbkoapdeglmopaa
open Go.RowKit
set_option maxHeartbeats 400000
set_option maxRecDepth 100000
set_option linter.unusedVariables false
theorem info_bool : (Try.prog.info? 4).map (fun i => (i.zero, i.size, i.bytes)) = some (some (.bool false), 1, 1) := by kernel_rfl
theorem wdt_zero : wdt 0 = 0 := by decide
theorem wdt_half {n : Int} (h0 : 0 < n) (h : n ≤ 18446744073709551615) : wdt n = 1 + wdt (n / 2) := by
  unfold wdt
  rw [Lib.bitLen_half n.toNat (by omega) (by omega)]
  congr 2
  omega
theorem wdt_64 {n : Int} (hn : U64 n) : wdt n ≤ 64 := by
  rw [wdt_le hn (by omega)]
  unfold U64 at hn
  have : (2 : Int) ^ 64 = 18446744073709551616 := by decide
  omega
theorem ref_Width (n : Int) (hn : U64 n) (w : World) :
    Calls Try.prog 62 #[.int .u64 n] w fun e w' => e = .returned (.int .i64 (wdt n : Int)) ∧ w = w' := by
  have hle := wdt_64 hn
  obtain ⟨R, hR⟩ : ∃ R, wdt n = R := ⟨_, rfl⟩
  rw [hR] at hle ⊢
  have HR := hid hR
  unfold U64 at hn
  clear hR
  go_enter Try.func62, Try.ntmps62
  go_wp2_with fail
  go_loop [0, 3] (fun m s => ∃ (x : Int) (k : Nat), 0 ≤ x ∧ x ≤ 18446744073709551615 ∧ m = .int .u64 x ∧ s = .int .i64 k ∧ k + wdt x = R) (fun m _ => (intOf m).toNat)
  case atStart => exact ⟨n, 0, hn.1, hn.2, rfl, rfl, by rw [HR.out]; omega⟩
  case round =>
    obtain ⟨x, k, h0, h1, rfl, rfl, hs⟩ := hrel
    have hk : k ≤ 64 := by omega
    have HS := hid hs
    clear hs
    by_cases hlt : 0 < x
    · have HN : Hid (k + 1 + wdt (x / 2) = R) := hid (by have h := HS.out; rw [wdt_half hlt h1] at h; omega)
      go_wp2_with fail
      go_round
      case rel => exact ⟨x / 2, k + 1, by omega, by omega, rfl, by go_num, HN.out⟩
      case measure => simp [intOf]; omega
    · obtain rfl : x = 0 := by omega
      have HN : Hid (k = R) := hid (by have h := HS.out; rw [wdt_zero] at h; omega)
      go_wp2_with fail
      go_ret
      rw [HN.out]
      exact ⟨rfl, rfl⟩
theorem fits_take {wd : Int} {l : List Int} : fitsB wd l = true → ∀ k, fitsB wd (l.take k) = true := fun h k => by
  unfold fitsB at *
  rw [List.all_eq_true] at *
  exact fun n hn => h n (List.mem_of_mem_take hn)
theorem fits_no {wd : Int} {l : List Int} {k : Nat} {x : Int} (hx : l[k]? = some x) (h : wd < (wdt x : Int)) : fitsB wd l = false := by
  cases hb : fitsB wd l with
  | false => rfl
  | true =>
    unfold fitsB at hb
    rw [List.all_eq_true] at hb
    have := of_decide_eq_true (hb x (List.mem_of_getElem? hx))
    omega
theorem fits_step {wd : Int} {l : List Int} {k : Nat} {x : Int} (hx : l[k]? = some x) (h : (wdt x : Int) ≤ wd) (ht : fitsB wd (l.take k) = true) : fitsB wd (l.take (k + 1)) = true := by
  unfold fitsB at *
  rw [List.take_add_one, hx, List.all_append, ht]
  simpa using h
end Go.Proofs.Ytbkoapdeglmopaa
/- Bits put into bytes; numbers packed, woven, signs, by the document. -/
namespace Go.Proofs.Ytbkoapdeglmopaa
open Go.RowKit
set_option maxHeartbeats 400000
set_option maxRecDepth 100000
set_option linter.unusedVariables false
theorem byF_zero (f : Nat → Bool) (i : Nat) : byF 0 f i = 0 := by
  unfold byF
  simp [bv_not]
theorem beq_bt {x : Int} (h0 : 0 ≤ x) (q : Nat) : ((x / 2 ^ q).tmod 2 == 1) = bt x q := by
  rw [Int.tmod_eq_emod_of_nonneg (Int.ediv_nonneg h0 (Int.pow_nonneg (by decide)))]
  unfold bt
  by_cases h : x / 2 ^ q % 2 = 1 <;> simp [h]
end Go.Proofs.Ytbkoapdeglmopaa
/- Numbers woven, by the document. -/
namespace Go.Proofs.Ytbkoapdeglmopaa
open Go.RowKit
set_option maxHeartbeats 400000
set_option maxRecDepth 100000
set_option linter.unusedVariables false
end Go.Proofs.Ytbkoapdeglmopaa
/- Bytes read as bits, by the document. -/
namespace Go.Proofs.Ytbkoapdeglmopaa
open Go.RowKit
set_option maxHeartbeats 400000
set_option maxRecDepth 100000
set_option linter.unusedVariables false
/-- A call's answer: a list that reads so, and an error; nothing that was there has turned. -/
def RdE {α : Type} (enc : α → Value) (xs : List α) (er : Int) (w : World) (e : Ending) (w' : World) : Prop :=
  ∃ A c, e = .returned (.tuple #[.slice A xs.length c, .int .i64 er]) ∧ xs.length ≤ c ∧ c ≤ 9223372036854775807 ∧ Rd enc w' w'.heap.size A xs ∧ Below w.heap.size w w'
theorem RdE.nil {α : Type} {enc : α → Value} {er : Int} {w w' : World} (hb : Below w.heap.size w w') : RdE enc ([] : List α) er w (.returned (.tuple #[.slice none 0 0, .int .i64 er])) w' := ⟨none, 0, rfl, by simp, by omega, Rd.none_, hb⟩
theorem beq_bt8 {x : Int} (h0 : 0 ≤ x) (q : Nat) : ((x / 2 ^ q).tmod 2 == 1) = bt x q := beq_bt h0 q
theorem fB_at {b : List Int} {i j q : Nat} {x : Int} (hx : b[i]? = some x) (h : q + j + 1 = 8) : fB b (8 * i + j) = bt x q := by
  unfold fB
  rw [show (8 * i + j) / 8 = i by omega, show (8 * i + j) % 8 = j by omega, getD_of hx, show 7 - j = q by omega]
end Go.Proofs.Ytbkoapdeglmopaa
/- Numbers unpacked, unwoven; signs read, by the document; lists of signs that are the same. -/
namespace Go.Proofs.Ytbkoapdeglmopaa
open Go.RowKit
set_option maxHeartbeats 400000
set_option maxRecDepth 100000
set_option linter.unusedVariables false
theorem nmF_32 {t k : Nat} (h : t ≤ k) (hk : k ≤ 32) (g : Nat → Bool) : 0 ≤ nmF t g ∧ nmF t g ≤ 4294967296 := by
  have h1 := nmF_lt t g
  have h2 : (2 : Int) ^ t ≤ 2 ^ 32 := by
    have := Nat.pow_le_pow_right (show 0 < 2 by decide) (show t ≤ 32 by omega)
    exact_mod_cast this
  have h3 : (2 : Int) ^ 32 = 4294967296 := by decide
  omega
end Go.Proofs.Ytbkoapdeglmopaa
/- Numbers unwoven, signs read, by the document; lists of signs that are the same. -/
namespace Go.Proofs.Ytbkoapdeglmopaa
open Go.RowKit
set_option maxHeartbeats 400000
set_option maxRecDepth 100000
set_option linter.unusedVariables false
theorem ref_SameSigns {A B : Option Addr} {c d : Nat} (xs : List Bool) (hx : xs.length ≤ 9223372036854775807) (w : World) (ra : Rd Value.bool w w.heap.size A xs) (rb : Rd Value.bool w w.heap.size B xs) :
    Calls Try.prog 40 #[.slice A xs.length c, .slice B xs.length d] w fun e w' => e = .returned (.bool true) ∧ Below w.heap.size w w' := by
  have HA := hid ra
  have HB := hid rb
  clear ra rb
  go_enter Try.func40, Try.ntmps40
  go_wp2_with fail
  go_loopw [13] (fun i wr => ∃ k : Nat, k ≤ xs.length ∧ i = .int .i64 k ∧ Below w.heap.size w wr) (fun i _ => xs.length - (intOf i).toNat)
  case atStart => exact ⟨0, by omega, rfl, Below.refl _ _⟩
  case round =>
    obtain ⟨k, hk, rfl, hb⟩ := hrel
    by_cases hlt : k < xs.length
    · obtain ⟨b1, o1, x, rfl, l1, ex, c1⟩ := (HA.out.below hb).at_ hlt
      obtain ⟨b2, o2, y, rfl, l2, ey, c2⟩ := (HB.out.below hb).at_ hlt
      obtain rfl : x = y := Option.some.inj (ex.symm.trans ey)
      have e' : (x != x) = false := by simp
      clear ex ey
      go_wp2_with fail
      go_quiet (fail)
      go_wp2_with fail
      go_roundw
      case rel => exact ⟨k + 1, by omega, by go_num, hb.trans (belowN _ _ _)⟩
      case measure => simp [intOf]; omega
    · go_wp2_with fail
      go_ret
      exact ⟨rfl, hb⟩
end Go.Proofs.Ytbkoapdeglmopaa
/- Frames in memory; whether they are the same, by the document. -/
namespace Go.Proofs.Ytbkoapdeglmopaa
open Go.RowKit
set_option maxHeartbeats 400000
set_option maxRecDepth 100000
set_option linter.unusedVariables false
/-- Where a vector's lists lie. -/
structure SentP where
  AL : Option Addr
  cL : Nat
  AV : Option Addr
  cV : Nat
  AE : Option Addr
  cE : Nat
  AN : Option Addr
  cN : Nat
def zeroP : SentP := ⟨none, 0, none, 0, none, 0, none, 0⟩
@[reducible] def encT (s : SentV) (p : SentP) : Value := .agg #[.int .i64 s.sch, .int .i64 s.dim, .slice p.AL s.L.length p.cL, .slice p.AV s.V.length p.cV, .int .i64 s.scale, .int .i64 s.wide, .slice p.AE s.lev.length p.cE, .slice p.AN s.neg.length p.cN]
/-- Its lists read so. -/
def RdS (w : World) (B : Nat) (s : SentV) (p : SentP) : Prop := Rd (Value.int .i64) w B p.AL s.L ∧ Rd (Value.int .i64) w B p.AV s.V ∧ Rd (Value.int .u64) w B p.AE s.lev ∧ Rd Value.bool w B p.AN s.neg
theorem RdS.below {w w' : World} {B : Nat} {s : SentV} {p : SentP} (h : RdS w B s p) (hb : Below B w w') : RdS w' B s p := ⟨h.1.below hb, h.2.1.below hb, h.2.2.1.below hb, h.2.2.2.below hb⟩
theorem RdS.more {w : World} {B B' : Nat} {s : SentV} {p : SentP} (h : RdS w B s p) (hB : B ≤ B') : RdS w B' s p := ⟨h.1.more hB, h.2.1.more hB, h.2.2.1.more hB, h.2.2.2.more hB⟩
theorem RdS.on {w w' : World} {s : SentV} {p : SentP} (h : RdS w w.heap.size s p) (hb : Below w.heap.size w w') : RdS w' w'.heap.size s p := (h.below hb).more hb.size
theorem RdS.zero (w : World) (B : Nat) : RdS w B zeroS zeroP := ⟨Rd.none_, Rd.none_, Rd.none_, Rd.none_⟩
/-- How long its lists are at the most. -/
def lnS (n : Nat) (s : SentV) : Prop := s.L.length ≤ n ∧ s.V.length ≤ n ∧ s.lev.length ≤ n ∧ s.neg.length ≤ n
theorem lnS.more {n m : Nat} {s : SentV} (h : lnS n s) (hm : n ≤ m) : lnS m s := ⟨by have := h.1; omega, by have := h.2.1; omega, by have := h.2.2.1; omega, by have := h.2.2.2; omega⟩
theorem ln_zero (n : Nat) : lnS n zeroS := ⟨by simp [zeroS], by simp [zeroS], by simp [zeroS], by simp [zeroS]⟩
theorem takeN_step {xs ys : List Bool} {k : Nat} {x y : Bool} (h : xs.take k = ys.take k) (hx : xs[k]? = some x) (hy : ys[k]? = some y) (e : x = y) : xs.take (k + 1) = ys.take (k + 1) := by
  rw [List.take_add_one, List.take_add_one, h, hx, hy, e]
theorem eqN_no {xs ys : List Bool} {k : Nat} {x y : Bool} (hx : xs[k]? = some x) (hy : ys[k]? = some y) (e : x ≠ y) : eqN xs ys = false := by
  unfold eqN
  rw [decide_eq_false_iff_not]
  rintro rfl
  rw [hx] at hy
  exact e (Option.some.inj hy)
theorem eqN_yes {xs ys : List Bool} {k : Nat} (h : xs.take k = ys.take k) (hx : k = xs.length) (hl : xs.length = ys.length) : eqN xs ys = true := by
  unfold eqN
  rw [List.take_of_length_le (by omega), List.take_of_length_le (by omega)] at h
  simpa using h
theorem eqN_len {xs ys : List Bool} (h : xs.length ≠ ys.length) : eqN xs ys = false := by
  unfold eqN
  rw [decide_eq_false_iff_not]
  rintro rfl
  exact h rfl
theorem ref_SignsEq {A B : Option Addr} {c d : Nat} (xs ys : List Bool) (hx : xs.length ≤ 9223372036854775807) (hy : ys.length ≤ 9223372036854775807) (w : World) {L M : Nat}
    (ra : Rd Value.bool w L A xs) (rb : Rd Value.bool w M B ys) :
    Calls Try.prog 40 #[.slice A xs.length c, .slice B ys.length d] w fun e w' => e = .returned (.bool (eqN xs ys)) ∧ ∃ n, w' = w.drewN n := by
  by_cases hl : xs.length = ys.length
  · have HA := hid ra
    have HB := hid rb
    clear ra rb
    have h1 : ((xs.length : Int) != (ys.length : Int)) = false := by simp; omega
    have h2 : (xs.length != ys.length) = false := by simp; omega
    have HL := hid hl
    clear hl
    go_enter Try.func40, Try.ntmps40
    go_wp2_with fail
    clear h1 h2
    go_loopw [13] (fun i wr => ∃ k : Nat, k ≤ xs.length ∧ i = .int .i64 k ∧ xs.take k = ys.take k ∧ ∃ n, wr = w.drewN n) (fun i _ => xs.length - (intOf i).toNat)
    case atStart => exact ⟨0, by omega, rfl, rfl, 0, rfl⟩
    case round =>
      obtain ⟨k, hk, rfl, ht, n, rfl⟩ := hrel
      have HT := hid ht
      clear ht
      by_cases hlt : k < xs.length
      · have hlt2 : k < ys.length := by have := HL.out; omega
        obtain ⟨b1, o1, x, rfl, l1, ex, c1⟩ := HA.out.at_ hlt
        obtain ⟨b2, o2, y, rfl, l2, ey, c2⟩ := HB.out.at_ hlt2
        have EX := hid ex
        have EY := hid ey
        clear ex ey
        by_cases e : x = y
        · have e' : (x == y) = true := by simpa using e
          have E := hid e
          clear e
          go_wp2_with fail
          go_quiet (fail)
          go_wp2_with fail
          go_roundw
          case rel => exact ⟨k + 1, by omega, by go_num, takeN_step HT.out EX.out EY.out E.out, _, rfl⟩
          case measure => simp [intOf]; omega
        · have e' : (x == y) = false := by simpa using e
          go_wp2_with fail
          go_quiet (fail)
          go_wp2_with fail
          go_ret
          rw [eqN_no EX.out EY.out e]
          exact ⟨rfl, drewN_two _ _ _⟩
      · have hke : k = xs.length := by omega
        have HK := hid hke
        clear hke
        go_wp2_with fail
        go_ret
        rw [eqN_yes HT.out HK.out HL.out]
        exact ⟨rfl, _, rfl⟩
  · rw [eqN_len hl]
    have h1 : ((xs.length : Int) != (ys.length : Int)) = true := by simp; omega
    have h2 : (xs.length != ys.length) = true := by simp; omega
    clear hl ra rb
    go_enter Try.func40, Try.ntmps40
    go_wp2_with fail
    go_ret
    exact ⟨rfl, 0, rfl⟩
theorem ref_NumsEq {A B : Option Addr} {c d : Nat} (xs ys : List Int) (hx : xs.length ≤ 9223372036854775807) (hy : ys.length ≤ 9223372036854775807) (w : World) {L M : Nat}
    (ra : Rd (Value.int .u64) w L A xs) (rb : Rd (Value.int .u64) w M B ys) :
    Calls Try.prog 39 #[.slice A xs.length c, .slice B ys.length d] w fun e w' => e = .returned (.bool (eqB xs ys)) ∧ ∃ n, w' = w.drewN n := by
  by_cases hl : xs.length = ys.length
  · have HA := hid ra
    have HB := hid rb
    clear ra rb
    have h1 : ((xs.length : Int) != (ys.length : Int)) = false := by simp; omega
    have h2 : (xs.length != ys.length) = false := by simp; omega
    have HL := hid hl
    clear hl
    go_enter Try.func39, Try.ntmps39
    go_wp2_with fail
    clear h1 h2
    go_loopw [13] (fun i wr => ∃ k : Nat, k ≤ xs.length ∧ i = .int .i64 k ∧ xs.take k = ys.take k ∧ ∃ n, wr = w.drewN n) (fun i _ => xs.length - (intOf i).toNat)
    case atStart => exact ⟨0, by omega, rfl, rfl, 0, rfl⟩
    case round =>
      obtain ⟨k, hk, rfl, ht, n, rfl⟩ := hrel
      have HT := hid ht
      clear ht
      by_cases hlt : k < xs.length
      · have hlt2 : k < ys.length := by have := HL.out; omega
        obtain ⟨b1, o1, x, rfl, l1, ex, c1⟩ := HA.out.at_ hlt
        obtain ⟨b2, o2, y, rfl, l2, ey, c2⟩ := HB.out.at_ hlt2
        have EX := hid ex
        have EY := hid ey
        clear ex ey
        by_cases e : x = y
        · have e' : (x != y) = false := by simpa using e
          have E := hid e
          clear e
          go_wp2_with fail
          go_quiet (fail)
          go_wp2_with fail
          go_roundw
          case rel => exact ⟨k + 1, by omega, by go_num, take_step HT.out EX.out EY.out E.out, _, rfl⟩
          case measure => simp [intOf]; omega
        · have e' : (x != y) = true := by simpa using e
          go_wp2_with fail
          go_quiet (fail)
          go_wp2_with fail
          go_ret
          rw [eqB_no EX.out EY.out e]
          exact ⟨rfl, drewN_two _ _ _⟩
      · have hke : k = xs.length := by omega
        have HK := hid hke
        clear hke
        go_wp2_with fail
        go_ret
        rw [eqB_yes HT.out HK.out HL.out]
        exact ⟨rfl, _, rfl⟩
  · rw [eqB_len hl]
    have h1 : ((xs.length : Int) != (ys.length : Int)) = true := by simp; omega
    have h2 : (xs.length != ys.length) = true := by simp; omega
    go_enter Try.func39, Try.ntmps39
    go_wp2_with fail
    go_ret
    exact ⟨rfl, 0, rfl⟩
theorem ref_SameSent (a b : SentV) (p q : SentP) (ha : lnS 100000 a) (hb : lnS 100000 b) (w : World) {B D : Nat} (hB : B ≤ w.heap.size) (hD : D ≤ w.heap.size) (ra : RdS w B a p) (rb : RdS w D b q) :
    Calls Try.prog 22 #[encT a p, encT b q] w fun e w' => e = .returned (.bool (sameS a b)) ∧ Below w.heap.size w w' := by
  have C1 := hid (fun W (h : Below w.heap.size w W) => ref_Equal (A := p.AL) (B := q.AL) (c := p.cL) (d := q.cL) a.L b.L (by have := ha.1; omega) (by have := hb.1; omega) W (ra.1.below (h.mono hB)) (rb.1.below (h.mono hD)))
  have C2 := hid (fun W (h : Below w.heap.size w W) => ref_Same64 (A := p.AV) (B := q.AV) (c := p.cV) (d := q.cV) a.V b.V (by have := ha.2.1; omega) (by have := hb.2.1; omega) W (ra.2.1.below (h.mono hB)) (rb.2.1.below (h.mono hD)))
  have C3 := hid (fun W (h : Below w.heap.size w W) => ref_NumsEq (A := p.AE) (B := q.AE) (c := p.cE) (d := q.cE) a.lev b.lev (by have := ha.2.2.1; omega) (by have := hb.2.2.1; omega) W (ra.2.2.1.below (h.mono hB)) (rb.2.2.1.below (h.mono hD)))
  have C4 := hid (fun W (h : Below w.heap.size w W) => ref_SignsEq (A := p.AN) (B := q.AN) (c := p.cN) (d := q.cN) a.neg b.neg (by have := ha.2.2.2; omega) (by have := hb.2.2.2; omega) W (ra.2.2.2.below (h.mono hB)) (rb.2.2.2.below (h.mono hD)))
  unfold sameS
  obtain ⟨vL, eL⟩ : ∃ v, eqB a.L b.L = v := ⟨_, rfl⟩
  obtain ⟨vV, eV⟩ : ∃ v, eqB a.V b.V = v := ⟨_, rfl⟩
  obtain ⟨vlev, elev⟩ : ∃ v, eqB a.lev b.lev = v := ⟨_, rfl⟩
  obtain ⟨vneg, eneg⟩ : ∃ v, eqN a.neg b.neg = v := ⟨_, rfl⟩
  rw [eL] at C1 ⊢
  rw [eV] at C2 ⊢
  rw [elev] at C3 ⊢
  rw [eneg] at C4 ⊢
  obtain ⟨vsch, hsch⟩ : ∃ v, (a.sch == b.sch) = v := ⟨_, rfl⟩
  obtain ⟨vdim, hdim⟩ : ∃ v, (a.dim == b.dim) = v := ⟨_, rfl⟩
  obtain ⟨vscale, hscale⟩ : ∃ v, (a.scale == b.scale) = v := ⟨_, rfl⟩
  obtain ⟨vwide, hwide⟩ : ∃ v, (a.wide == b.wide) = v := ⟨_, rfl⟩
  rw [hsch, hdim, hscale, hwide]
  have K : Hid (∀ n, Below w.heap.size w (((w.alloc (.cells #[.int .i64 a.sch, .int .i64 a.dim, .slice p.AL a.L.length p.cL, .slice p.AV a.V.length p.cV, .int .i64 a.scale, .int .i64 a.wide, .slice p.AE a.lev.length p.cE, .slice p.AN a.neg.length p.cN] 37)).alloc (.cells #[.int .i64 b.sch, .int .i64 b.dim, .slice q.AL b.L.length q.cL, .slice q.AV b.V.length q.cV, .int .i64 b.scale, .int .i64 b.wide, .slice q.AE b.lev.length q.cE, .slice q.AN b.neg.length q.cN] 37)).drewN n)) := hid (fun n => Below.trans (by go_grown) (belowN _ _ n))
  clear eL eV elev eneg ra rb ha hb
  go_enter Try.func22, Try.ntmps22
  go_wp2_with fail
  any_goals (go_ret; exact ⟨by simp [*], by go_grown⟩)
  refine (C1.out _ (by go_grown)).mono ?_
  rintro _ _ ⟨rfl, n1, rfl⟩
  go_wp2_with fail
  any_goals (go_ret; exact ⟨by simp [*], K.out _⟩)
  refine (C2.out _ (K.out _)).mono ?_
  rintro _ _ ⟨rfl, n2, rfl⟩
  go_wp2_with fail
  any_goals (go_ret; exact ⟨by simp [*], K.out _⟩)
  refine (C3.out _ (K.out _)).mono ?_
  rintro _ _ ⟨rfl, n3, rfl⟩
  go_wp2_with fail
  any_goals (go_ret; exact ⟨by simp [*], K.out _⟩)
  refine (C4.out _ (K.out _)).mono ?_
  rintro _ _ ⟨rfl, n4, rfl⟩
  go_wp2_with fail
  go_ret
  exact ⟨by simp [*], K.out _⟩
end Go.Proofs.Ytbkoapdeglmopaa
