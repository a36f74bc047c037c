
/- Lists that are the same, that rise, places of a dimension, where a number stands: by the document. -/
import Derived.Test.YtgdkmgepconnpaaIxM
import Derived.Test.YtgdkmgepconnpaaSame
import Derived.Test.YtgdkmgepconnpaaApp
import Derived.RegionTactic
import Derived.ChangeAlike
namespace Go.Proofs.Ytgdkmgepconnpaa
open Go.RowKit
set_option maxHeartbeats 400000
set_option linter.unusedVariables false
theorem drewN_two (w : World) (n m : Nat) : ∃ k, (w.drewN n).drewN m = w.drewN k := ⟨n + m, by simp⟩
theorem ref_Equal {A B : Option Addr} {c d : Nat} (xs ys : List Int) (hx : xs.length ≤ 9223372036854775807) (hy : ys.length ≤ 9223372036854775807) (w : World) {L M : Nat}
    (ra : Rd (Value.int .i64) w L A xs) (rb : Rd (Value.int .i64) w M B ys) :
    Calls Try.prog 16 #[.slice A xs.length c, .slice B ys.length d] w fun e w' => e = .returned (.bool (eqB xs ys)) ∧ ∃ n, w' = w.drewN n := by
  by_cases hl : xs.length = ys.length
  · have HA := hid ra
    have HB := hid rb
    clear ra rb
    have h1 : ((xs.length : Int) != (ys.length : Int)) = false := by simp; omega
    have h2 : (xs.length != ys.length) = false := by simp; omega
    have HL := hid hl
    clear hl
    go_enter Try.func16, Try.ntmps16
    go_wp2_with fail
    clear h1 h2
    go_loopw [13] (fun i wr => ∃ k : Nat, k ≤ xs.length ∧ i = .int .i64 k ∧ xs.take k = ys.take k ∧ ∃ n, wr = w.drewN n) (fun i _ => xs.length - (intOf i).toNat)
    case atStart => exact ⟨0, by omega, rfl, rfl, 0, rfl⟩
    case round =>
      obtain ⟨k, hk, rfl, ht, n, rfl⟩ := hrel
      have HT := hid ht
      clear ht
      by_cases hlt : k < xs.length
      · have hlt2 : k < ys.length := by have := HL.out; omega
        obtain ⟨b1, o1, x, rfl, l1, ex, c1⟩ := HA.out.at_ hlt
        obtain ⟨b2, o2, y, rfl, l2, ey, c2⟩ := HB.out.at_ hlt2
        have EX := hid ex
        have EY := hid ey
        clear ex ey
        by_cases e : x = y
        · have e' : (x != y) = false := by simpa using e
          have E := hid e
          clear e
          go_wp2_with fail
          go_quiet (fail)
          go_wp2_with fail
          go_roundw
          case rel => exact ⟨k + 1, by omega, by go_num, take_step HT.out EX.out EY.out E.out, _, rfl⟩
          case measure => simp [intOf]; omega
        · have e' : (x != y) = true := by simpa using e
          go_wp2_with fail
          go_quiet (fail)
          go_wp2_with fail
          go_ret
          rw [eqB_no EX.out EY.out e]
          exact ⟨rfl, drewN_two _ _ _⟩
      · have hke : k = xs.length := by omega
        have HK := hid hke
        clear hke
        go_wp2_with fail
        go_ret
        rw [eqB_yes HT.out HK.out HL.out]
        exact ⟨rfl, _, rfl⟩
  · rw [eqB_len hl]
    have h1 : ((xs.length : Int) != (ys.length : Int)) = true := by simp; omega
    have h2 : (xs.length != ys.length) = true := by simp; omega
    go_enter Try.func16, Try.ntmps16
    go_wp2_with fail
    go_ret
    exact ⟨rfl, 0, rfl⟩
theorem ris_small {l : List Int} (h : l.length ≤ 1) : risP l := by
  cases l with
  | nil => exact ris_nil
  | cons x l => cases l with
    | nil => exact ris_one x
    | cons y l => simp at h
theorem ref_rises {A : Option Addr} {c : Nat} (l : List Int) (hl : l.length ≤ 9223372036854775807) (w : World) {B : Nat} (ra : Rd (Value.int .i64) w B A l) :
    Calls Try.prog 40 #[.slice A l.length c] w fun e w' => e = .returned (.bool (risB l)) ∧ ∃ n, w' = w.drewN n := by
  have HA := hid ra
  have HY : Hid (risP l → risB l = true) := hid (fun h => decide_eq_true h)
  have HN : Hid (¬ risP l → risB l = false) := hid (fun h => decide_eq_false h)
  obtain ⟨R, hR⟩ : ∃ R, risB l = R := ⟨_, rfl⟩
  rw [hR] at HY HN ⊢
  clear ra hR
  go_enter Try.func40, Try.ntmps40
  go_wp2_with fail
  go_loopw [3] (fun i wr => ∃ k : Nat, 1 ≤ k ∧ (k ≤ l.length ∨ k = 1) ∧ i = .int .i64 k ∧ risP (l.take k) ∧ ∃ n, wr = w.drewN n) (fun i _ => l.length - (intOf i).toNat)
  case atStart => exact ⟨1, by omega, by omega, rfl, ris_small (by rw [List.length_take]; omega), 0, rfl⟩
  case round =>
    obtain ⟨k, hk1, hk, rfl, ht, n, rfl⟩ := hrel
    have HT := hid ht
    clear ht
    by_cases hlt : k < l.length
    · obtain ⟨j, rfl⟩ : ∃ j, k = j + 1 := ⟨k - 1, by omega⟩
      have hj : j < l.length := by omega
      obtain ⟨b1, o1, y, rfl, l1, ey, c1⟩ := HA.out.at_ hlt
      obtain ⟨b2, o2, x, e2, l2, ex, c2⟩ := HA.out.at_ hj
      injection e2 with e2
      injection e2 with e2 e3
      subst e2 e3
      have hji : ((j + 1 : Nat) : Int) - 1 = (j : Int) := by omega
      have hjc : ((j + 1 : Nat) : Int) = (j : Int) + 1 := by omega
      have hi0 : (0 : Int) ≤ (j : Int) := by omega
      have hi1 : (j : Int) < (l.length : Int) := by omega
      have EX := hid ex
      have EY := hid ey
      clear ex ey hk1 hk
      by_cases e : y ≤ x
      · have hR := HN.out (ris_no EX.out EY.out (by omega) e)
        subst hR
        go_wp2_with fail
        go_quiet (fail)
        go_wp2_with fail
        go_ret
        exact ⟨rfl, drewN_two _ _ _⟩
      · have e' : x < y := by omega
        go_wp2_with fail
        go_quiet (fail)
        go_wp2_with fail
        go_roundw
        case rel => exact ⟨j + 1 + 1, by omega, by omega, by go_num, ris_step HT.out EY.out (Or.inr ⟨EX.out, e'⟩), _, rfl⟩
        case measure => simp [intOf]; omega
    · have hR := HY.out (by have h := HT.out; rw [List.take_of_length_le (by omega)] at h; exact h)
      subst hR
      go_wp2_with fail
      go_ret
      exact ⟨rfl, _, rfl⟩
theorem ref_Rises {A : Option Addr} {c : Nat} (l : List Int) (hl : l.length ≤ 9223372036854775807) (w : World) {B : Nat} (ra : Rd (Value.int .i64) w B A l) :
    Calls Try.prog 28 #[.slice A l.length c] w fun e w' => e = .returned (.bool (risB l)) ∧ ∃ n, w' = w.drewN n := by
  have C := hid (ref_rises (c := c) l hl w ra)
  clear ra
  go_enter Try.func28, Try.ntmps28
  go_wp2_with fail
  refine C.out.mono ?_
  rintro _ _ ⟨rfl, n, rfl⟩
  go_wp2_with fail
  go_ret
  exact ⟨rfl, _, rfl⟩
theorem ref_Check {A : Option Addr} {c : Nat} (dim : Int) (l : List Int) (hd : I64 dim) (hl : l.length ≤ 9223372036854775807) (w : World) {B : Nat} (ra : Rd (Value.int .i64) w B A l) :
    Calls Try.prog 18 #[.int .i64 dim, .slice A l.length c] w fun e w' => e = .returned (.int .i64 (chkE dim l)) ∧ ∃ n, w' = w.drewN n := by
  have C := hid (ref_rises (c := c) l hl w ra)
  have HY : Hid (plcP dim l → chkE dim l = 0) := hid (fun h => chk_ok.2 h)
  have HN : Hid (¬ plcP dim l → chkE dim l = 1) := hid chk_no
  obtain ⟨R, hR⟩ : ∃ R, chkE dim l = R := ⟨_, rfl⟩
  rw [hR] at HY HN ⊢
  unfold I64 at hd
  clear hR
  by_cases h1 : dim < 1
  · have hR := HN.out (fun h => by have := h.1; omega)
    subst hR
    clear HY HN C ra
    go_enter Try.func18, Try.ntmps18
    go_wp2_with fail
    go_ret
    exact ⟨rfl, 0, rfl⟩
  · by_cases h2 : 4096 < dim
    · have hR := HN.out (fun h => by have := h.2.1; omega)
      subst hR
      clear HY HN C ra
      go_enter Try.func18, Try.ntmps18
      go_wp2_with fail
      go_ret
      exact ⟨rfl, 0, rfl⟩
    · by_cases h3 : risP l
      · rw [show risB l = true from decide_eq_true h3] at C
        have HA := hid ra
        have HR := hid h3
        clear ra h3
        go_enter Try.func18, Try.ntmps18
        go_wp2_with fail
        refine C.out.mono ?_
        rintro _ _ ⟨rfl, n0, rfl⟩
        go_wp2_with fail
        go_loopw [6, 20] (fun n0 i wr => ∃ k : Nat, k ≤ l.length ∧ i = .int .i64 k ∧ (∀ n ∈ l.take k, 0 ≤ n ∧ n < dim) ∧ ∃ n, wr = w.drewN n) (fun _ i _ => l.length - (intOf i).toNat)
        case atStart => exact ⟨0, by omega, rfl, by simp, n0, rfl⟩
        case round =>
          obtain ⟨k, hk, rfl, ht, n, rfl⟩ := hrel
          have HT := hid ht
          clear ht
          by_cases hlt : k < l.length
          · obtain ⟨b1, o1, y, rfl, l1, ey, c1⟩ := HA.out.at_ hlt
            have EY := hid ey
            clear ey
            by_cases a : y < 0
            · have hR := HN.out (fun h => by have := h.2.2.2 y (List.mem_of_getElem? EY.out); omega)
              subst hR
              go_wp2_with fail
              go_ret
              exact ⟨rfl, _, rfl⟩
            · by_cases b : dim ≤ y
              · have hR := HN.out (fun h => by have := h.2.2.2 y (List.mem_of_getElem? EY.out); omega)
                subst hR
                go_wp2_with fail
                go_ret
                exact ⟨rfl, _, rfl⟩
              · have a' : 0 ≤ y := by omega
                have b' : y < dim := by omega
                go_wp2_with fail
                go_roundw
                case rel =>
                  refine ⟨k + 1, by omega, by go_num, ?_, _, rfl⟩
                  intro z hz
                  rw [take_snoc EY.out] at hz
                  rcases List.mem_append.1 hz with hz | hz
                  · exact HT.out z hz
                  · simp at hz; omega
                case measure => simp [intOf]; omega
          · have hR := HY.out ⟨by omega, by omega, HR.out, by have h := HT.out; rw [List.take_of_length_le (by omega)] at h; exact h⟩
            subst hR
            go_wp2_with fail
            go_ret
            exact ⟨rfl, _, rfl⟩
      · rw [show risB l = false from decide_eq_false h3] at C
        have hR := HN.out (fun h => h3 h.2.2.1)
        subst hR
        clear HY HN ra h3
        go_enter Try.func18, Try.ntmps18
        go_wp2_with fail
        refine C.out.mono ?_
        rintro _ _ ⟨rfl, n0, rfl⟩
        go_wp2_with fail
        go_ret
        exact ⟨rfl, _, rfl⟩
theorem ref_in {A : Option Addr} {c : Nat} (l : List Int) (n : Int) (hl : l.length ≤ 9223372036854775807) (w : World) {B : Nat} (ra : Rd (Value.int .i64) w B A l) :
    Calls Try.prog 41 #[.slice A l.length c, .int .i64 n] w fun e w' => e = .returned (.bool (hasB l n)) ∧ w = w' := by
  have HA := hid ra
  have HY : Hid (n ∈ l → hasB l n = true) := hid (fun h => decide_eq_true h)
  have HN : Hid (n ∉ l → hasB l n = false) := hid (fun h => decide_eq_false h)
  obtain ⟨R, hR⟩ : ∃ R, hasB l n = R := ⟨_, rfl⟩
  rw [hR] at HY HN ⊢
  clear ra hR
  go_enter Try.func41, Try.ntmps41
  go_wp2_with fail
  go_loop [6, 9] (fun x0 i => ∃ k : Nat, k ≤ l.length ∧ i = .int .i64 k ∧ n ∉ l.take k) (fun _ i => l.length - (intOf i).toNat)
  case atStart => exact ⟨0, by omega, rfl, by simp⟩
  case round =>
    obtain ⟨k, hk, rfl, ht⟩ := hrel
    have HT := hid ht
    clear ht
    by_cases hlt : k < l.length
    · obtain ⟨b1, o1, y, rfl, l1, ey, c1⟩ := HA.out.at_ hlt
      have EY := hid ey
      clear ey
      by_cases a : y = n
      · have hR := HY.out (by rw [← a]; exact List.mem_of_getElem? EY.out)
        subst hR
        have a' : (y == n) = true := by simpa using a
        clear a
        go_wp2_with fail
        go_ret
        exact ⟨rfl, rfl⟩
      · have a' : (y == n) = false := by simpa using a
        go_wp2_with fail
        go_round
        case rel =>
          refine ⟨k + 1, by omega, by go_num, ?_⟩
          rw [take_snoc EY.out]
          intro hz
          rcases List.mem_append.1 hz with hz | hz
          · exact HT.out hz
          · simp at hz; omega
        case measure => simp [intOf]; omega
    · have hR := HN.out (by have h := HT.out; rw [List.take_of_length_le (by omega)] at h; exact h)
      subst hR
      go_wp2_with fail
      go_ret
      exact ⟨rfl, rfl⟩
theorem ref_Has {A : Option Addr} {c : Nat} (l : List Int) (n : Int) (hr : risP l) (hl : l.length ≤ 9223372036854775807) (w : World) {B : Nat} (ra : Rd (Value.int .i64) w B A l) :
    Calls Try.prog 30 #[.slice A l.length c, .int .i64 n] w fun e w' => e = .returned (.tuple #[.int .i64 (hasI l n : Int), .bool (hasB l n)]) ∧ w = w' := by
  have HA := hid ra
  have HY : Hid (∀ i x, l[i]? = some x → n ≤ x → (∀ y ∈ l.take i, y < n) → hasI l n = i ∧ hasB l n = (x == n)) := hid (fun i x h1 h2 h3 => has_at hr h1 h2 h3)
  have HN : Hid ((∀ y ∈ l, y < n) → hasI l n = l.length ∧ hasB l n = false) := hid has_off
  obtain ⟨R, hR⟩ : ∃ R, hasB l n = R := ⟨_, rfl⟩
  obtain ⟨I, hI⟩ : ∃ I, hasI l n = I := ⟨_, rfl⟩
  rw [hR, hI] at HY HN ⊢
  clear ra hR hI hr
  go_enter Try.func30, Try.ntmps30
  go_wp2_with fail
  go_loop [6, 7, 10] (fun i0 x0 i => ∃ k : Nat, k ≤ l.length ∧ i = .int .i64 k ∧ ∀ y ∈ l.take k, y < n) (fun _ _ i => l.length - (intOf i).toNat)
  case atStart => exact ⟨0, by omega, rfl, by simp⟩
  case round =>
    obtain ⟨k, hk, rfl, ht⟩ := hrel
    have HT := hid ht
    clear ht
    by_cases hlt : k < l.length
    · obtain ⟨b1, o1, y, rfl, l1, ey, c1⟩ := HA.out.at_ hlt
      have EY := hid ey
      clear ey
      by_cases a : n ≤ y
      · obtain ⟨hI, hR⟩ := HY.out k y EY.out a HT.out
        subst hI
        subst hR
        go_wp2_with fail
        go_ret2
        exact ⟨rfl, rfl⟩
      · go_wp2_with fail
        go_round
        case rel =>
          refine ⟨k + 1, by omega, by go_num, ?_⟩
          intro z hz
          rw [take_snoc EY.out] at hz
          rcases List.mem_append.1 hz with hz | hz
          · exact HT.out z hz
          · simp at hz; omega
        case measure => simp [intOf]; omega
    · obtain ⟨hI, hR⟩ := HN.out (by have h := HT.out; rw [List.take_of_length_le (by omega)] at h; exact h)
      subst hI
      subst hR
      go_wp2_with fail
      go_ret2
      exact ⟨rfl, rfl⟩
end Go.Proofs.Ytgdkmgepconnpaa
