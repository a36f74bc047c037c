
/- Texts that are the same, lists of numbers that are, as the document tells them. -/
import Derived.Test.YtnokomlekndgfaaByte
import Derived.WalkSpells
import Derived.OwnWalk
import Derived.Outline
namespace Go.Proofs.Ytnokomlekndgfaa
open Go.RowKit
set_option maxHeartbeats 400000
set_option maxRecDepth 100000
set_option linter.unusedVariables false
theorem ref_SameNumbers {A B : Option Addr} {c d : Nat} (xs ys : List Int) (hx : xs.length ≤ 9223372036854775807) (hy : ys.length ≤ 9223372036854775807) (w : World)
    (ra : Rd (Value.int .u64) w w.heap.size A xs) (rb : Rd (Value.int .u64) w w.heap.size B ys) :
    Calls Try.prog 15 #[.slice A xs.length c, .slice B ys.length d] w fun e w' => e = .returned (.bool (eqB xs ys)) ∧ Below w.heap.size w w' := by
  by_cases hl : xs.length = ys.length
  · have HA := hid ra
    have HB := hid rb
    clear ra rb
    have h1 : ((xs.length : Int) != (ys.length : Int)) = false := by simp; omega
    have h2 : (xs.length != ys.length) = false := by simp; omega
    have HL := hid hl
    clear hl
    go_enter Try.func15, Try.ntmps15
    go_wp2_with fail
    clear h1 h2
    go_loopw [13] (fun i wr => ∃ k : Nat, k ≤ xs.length ∧ i = .int .i64 k ∧ xs.take k = ys.take k ∧ Below w.heap.size w wr) (fun i _ => xs.length - (intOf i).toNat)
    case atStart => exact ⟨0, by omega, rfl, rfl, Below.refl _ _⟩
    case round =>
      obtain ⟨k, hk, rfl, ht, hb⟩ := hrel
      have HT := hid ht
      clear ht
      by_cases hlt : k < xs.length
      · have hlt2 : k < ys.length := by have := HL.out; omega
        obtain ⟨b1, o1, x, rfl, l1, ex, c1⟩ := (HA.out.below hb).at_ hlt
        obtain ⟨b2, o2, y, rfl, l2, ey, c2⟩ := (HB.out.below hb).at_ hlt2
        have EX := hid ex
        have EY := hid ey
        clear ex ey
        by_cases e : x = y
        · have e' : (x != y) = false := by simpa using e
          have E := hid e
          clear e
          go_wp2_with fail
          go_quiet (fail)
          go_wp2_with fail
          go_roundw
          case rel => exact ⟨k + 1, by omega, by go_num, take_step HT.out EX.out EY.out E.out, hb.trans (belowN _ _ _)⟩
          case measure => simp [intOf]; omega
        · have e' : (x != y) = true := by simpa using e
          go_wp2_with fail
          go_quiet (fail)
          go_wp2_with fail
          go_ret
          rw [eqB_no EX.out EY.out e]
          exact ⟨rfl, hb.trans (belowN _ _ _)⟩
      · have hke : k = xs.length := by omega
        have HK := hid hke
        clear hke
        go_wp2_with fail
        go_ret
        rw [eqB_yes HT.out HK.out HL.out]
        exact ⟨rfl, hb⟩
  · rw [eqB_len hl]
    have h1 : ((xs.length : Int) != (ys.length : Int)) = true := by simp; omega
    have h2 : (xs.length != ys.length) = true := by simp; omega
    go_enter Try.func15, Try.ntmps15
    go_wp2_with fail
    go_ret
    exact ⟨rfl, Below.refl _ _⟩
/-- What is told the same is found the same. -/
def SameB (P : Program) (f : FuncId) (X : List Int) : Prop := ∀ (A B : Option Addr) (c d : Nat) (W : World) (L M : Nat), Rd (Value.int .u8) W L A X → Rd (Value.int .u8) W M B X → Calls P f #[.slice A X.length c, .slice B X.length d] W fun e w' => e = .returned (.bool true) ∧ W = w'
/-- .. of numbers. -/
def SameN (P : Program) (f : FuncId) (X : List Int) : Prop := ∀ (A B : Option Addr) (c d : Nat) (W : World), Rd (Value.int .u64) W W.heap.size A X → Rd (Value.int .u64) W W.heap.size B X → Calls P f #[.slice A X.length c, .slice B X.length d] W fun e w' => e = .returned (.bool true) ∧ Below W.heap.size W w'
theorem samen_yes {X : List Int} (hx : X.length ≤ 9223372036854775807) : SameN Try.prog 15 X := fun A B c d W h1 h2 => by
  have := ref_SameNumbers (A := A) (B := B) (c := c) (d := d) X X hx hx W h1 h2
  rwa [eqB_self] at this
end Go.Proofs.Ytnokomlekndgfaa
