
/- The document's vec, each function by its contract. -/
import Derived.Test.YtnokomlekndgfaaVec4
import Derived.Test.YtnokomlekndgfaaRefB
namespace Go.Proofs.Ytnokomlekndgfaa
open Go.RowKit
set_option maxHeartbeats 400000
set_option maxRecDepth 100000
set_option linter.unusedVariables false
theorem rSame_any {A B : Option Addr} {c d : Nat} (xs ys : List Int) (hx : xs.length ≤ 9223372036854775807) (hy : ys.length ≤ 9223372036854775807) (w : World)
    (ra : Rd (Value.int .i64) w w.heap.size A xs) (rb : Rd (Value.int .i64) w w.heap.size B ys) :
    Calls Try.prog 23 #[.slice A xs.length c, .slice B ys.length d] w fun e w' => e = .returned (.bool (eqB xs ys)) ∧ Below w.heap.size w w' := by
  by_cases hl : xs.length = ys.length
  · have HA := hid ra
    have HB := hid rb
    clear ra rb
    have h1 : ((xs.length : Int) != (ys.length : Int)) = false := by simp; omega
    have h2 : (xs.length != ys.length) = false := by simp; omega
    have HL := hid hl
    clear hl
    go_enter Try.func23, Try.ntmps23
    go_wp2_with fail
    clear h1 h2
    go_loopw [13] (fun i wr => ∃ k : Nat, k ≤ xs.length ∧ i = .int .i64 k ∧ xs.take k = ys.take k ∧ Below w.heap.size w wr) (fun i _ => xs.length - (intOf i).toNat)
    case atStart => exact ⟨0, by omega, rfl, rfl, Below.refl _ _⟩
    case round =>
      obtain ⟨k, hk, rfl, ht, hb⟩ := hrel
      have HT := hid ht
      clear ht
      by_cases hlt : k < xs.length
      · have hlt2 : k < ys.length := by have := HL.out; omega
        obtain ⟨b1, o1, x, rfl, l1, ex, c1⟩ := (HA.out.below hb).at_ hlt
        obtain ⟨b2, o2, y, rfl, l2, ey, c2⟩ := (HB.out.below hb).at_ hlt2
        have EX := hid ex
        have EY := hid ey
        clear ex ey
        by_cases e : x = y
        · have e' : (x != y) = false := by simpa using e
          have E := hid e
          clear e
          go_wp2_with fail
          go_quiet (fail)
          go_wp2_with fail
          go_roundw
          case rel => exact ⟨k + 1, by omega, by go_num, take_step HT.out EX.out EY.out E.out, hb.trans (belowN _ _ _)⟩
          case measure => simp [intOf]; omega
        · have e' : (x != y) = true := by simpa using e
          go_wp2_with fail
          go_quiet (fail)
          go_wp2_with fail
          go_ret
          rw [eqB_no EX.out EY.out e]
          exact ⟨rfl, hb.trans (belowN _ _ _)⟩
      · have hke : k = xs.length := by omega
        have HK := hid hke
        clear hke
        go_wp2_with fail
        go_ret
        rw [eqB_yes HT.out HK.out HL.out]
        exact ⟨rfl, hb⟩
  · rw [eqB_len hl]
    have h1 : ((xs.length : Int) != (ys.length : Int)) = true := by simp; omega
    have h2 : (xs.length != ys.length) = true := by simp; omega
    go_enter Try.func23, Try.ntmps23
    go_wp2_with fail
    go_ret
    exact ⟨rfl, Below.refl _ _⟩
/-- The first k numbers. -/
def pre (num : Nat → Int × Int) (k : Nat) : List Int := (List.range k).map fun j => (num j).1
theorem pre_succ (num : Nat → Int × Int) (k : Nat) : pre num (k + 1) = pre num k ++ [(num k).1] := by
  unfold pre; rw [List.range_succ, List.map_append]; rfl
theorem pre_len (num : Nat → Int × Int) (k : Nat) : (pre num k).length = k := by unfold pre; simp
theorem seqV_pre {num : Nat → Int × Int} {n : Nat} (h : seqE num n = 0) : seqV num n = pre num n := if_pos h
theorem seqE_succ {num : Nat → Int × Int} {k : Nat} (h : seqE num k = 0) : seqE num (k + 1) = (num k).2 := by
  show (if seqE num k = 0 then (num k).2 else seqE num k) = _
  rw [if_pos h]
theorem seq_off {num : Nat → Int × Int} {k n : Nat} (h : seqE num k = 0) (hk : k < n) (he : (num k).2 ≠ 0) : seqE num n = (num k).2 ∧ seqV num n = [] := by
  have e1 := seqE_succ h
  have e2 : seqE num n = (num k).2 := by rw [seqE_stays (k := k + 1) (by rw [e1]; exact he) n hk, e1]
  refine ⟨e2, ?_⟩
  unfold seqV
  rw [if_neg (by rw [e2]; exact he)]
end Go.Proofs.Ytnokomlekndgfaa
