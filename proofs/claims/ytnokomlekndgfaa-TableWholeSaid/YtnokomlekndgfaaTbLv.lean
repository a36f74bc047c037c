
/- The chapter's examples; how many numbers are few enough; what is told the same. -/
import Derived.Test.YtnokomlekndgfaaTbL
import Derived.Test.YtnokomlekndgfaaTbD
import Derived.Test.YtnokomlekndgfaaVecR
import Derived.Test.YtnokomlekndgfaaSame
namespace Go.Proofs.Ytnokomlekndgfaa
open Go.RowKit
set_option maxHeartbeats 1000000
set_option maxRecDepth 100000
set_option linter.unusedVariables false
theorem tb_rsame {A B : Option Addr} {c d : Nat} (xs : List Int) (hx : xs.length ≤ 9223372036854775807) (w : World) (ra : Rd (Value.int .i64) w w.heap.size A xs) (rb : Rd (Value.int .i64) w w.heap.size B xs) :
    Calls Try.prog 23 #[.slice A xs.length c, .slice B xs.length d] w fun e w' => e = .returned (.bool true) ∧ Below w.heap.size w w' := by
  have h := rSame_any (A := A) (B := B) (c := c) (d := d) xs xs hx hx w ra rb
  rw [eqB_self] at h
  exact h
theorem tb_rnums {A B : Option Addr} {c d : Nat} (xs : List Int) (hx : xs.length ≤ 9223372036854775807) (w : World) (ra : Rd (Value.int .u64) w w.heap.size A xs) (rb : Rd (Value.int .u64) w w.heap.size B xs) :
    Calls Try.prog 15 #[.slice A xs.length c, .slice B xs.length d] w fun e w' => e = .returned (.bool true) ∧ Below w.heap.size w w' := by
  have h := ref_SameNumbers (A := A) (B := B) (c := c) (d := d) xs xs hx hx w ra rb
  rw [eqB_self] at h
  exact h
theorem sof_live : sofV 4 [0, 0] = [8, 8] ∧ sofE 4 [0, 0] = 0 := by
  have h := sof_same (frac := 4) (n := 0) (m := 2) (by decide) (by decide) (by decide) (by decide)
  exact ⟨h.2, h.1⟩
theorem tb_live (w : World) :
    Calls Try.prog 10 #[] w fun e w' => e = .returned (.bool true) ∧ Below w.heap.size w w' := by
  have C1 : Hid (∀ W, Calls Try.prog 11 #[.int .i64 (-3), .int .i64 0] W fun e w' => e = .returned (.tuple #[.int .i64 0, .int .i64 0]) ∧ Below W.heap.size W w') := hid (fun W => by
    have h := tb_Exp 0 (-3) (by decide) W
    rw [show expV 0 (-3) = 0 by decide +kernel, show expE 0 (-3) = 0 by decide] at h
    exact h)
  have C2 : Hid (∀ W, Calls Try.prog 11 #[.int .i64 (-1), .int .i64 1] W fun e w' => e = .returned (.tuple #[.int .i64 1, .int .i64 0]) ∧ Below W.heap.size W w') := hid (fun W => by
    have h := tb_Exp 1 (-1) (by decide) W
    rw [show expV 1 (-1) = 1 by decide +kernel, show expE 1 (-1) = 0 by decide] at h
    exact h)
  have C3 : Hid (∀ (W : World) A, Rd (Value.int .i64) W W.heap.size A [0, 0] → Calls Try.prog 19 #[.int .i64 4, .slice A 2 2] W (OwnInts [8, 8] 0 W)) := hid (fun W A h0 => by
    have h := tb_Soft (A := A) (c := 2) 4 [0, 0] (by decide) (by intro x hx; simp at hx; subst hx; decide) W h0
    rw [sof_live.1, sof_live.2] at h
    exact h)
  have C4 : Hid (∀ (W : World) A B c d, Rd (Value.int .i64) W W.heap.size A [8, 8] → Rd (Value.int .i64) W W.heap.size B [8, 8] → Calls Try.prog 23 #[.slice A 2 c, .slice B 2 d] W fun e w' => e = .returned (.bool true) ∧ Below W.heap.size W w') := hid (fun W A B c d h1 h2 =>
    tb_rsame (A := A) (B := B) (c := c) (d := d) [8, 8] (by decide) W h1 h2)
  go_enter Try.func10, Try.ntmps10
  go_wp2_with fail
  refine (C1.out _).mono ?_
  rintro _ w1 ⟨rfl, k1⟩
  go_wp2_with fail
  refine (C2.out _).mono ?_
  rintro _ w2 ⟨rfl, h2⟩
  have k2 := k1.trans (h2.mono k1.size)
  have r2 := rd_new (enc := Value.int .i64) w2 2 [0, 0]
  have K2 := hid k2
  have R2 := hid r2
  clear h2 k1 k2 r2
  go_wp2_with fail
  refine (C3.out _ _ R2.out).mono ?_
  rintro _ w3 ⟨A3, c3, rfl, ho3, h3⟩
  have k3 : Below w.heap.size w w3 := (K2.out.alloc K2.out.size _).trans (h3.mono (by have := K2.out.size; simp; omega))
  have R3 := hid (own_rd (xs := [8, 8]) ho3)
  have K3 := hid k3
  clear h3 ho3 k3 R2
  have R4 := hid (rd_new (enc := Value.int .i64) w3 2 [8, 8])
  have R5 := hid (R3.out.on ((Below.refl _ w3).alloc (Nat.le_refl _) (.cells #[.int .i64 8, .int .i64 8] 2)))
  go_wp2_with fail
  refine (C4.out _ _ _ _ _ R5.out R4.out).mono ?_
  rintro _ w5 ⟨rfl, h5⟩
  have K5 : Hid (Below w.heap.size w w5) := hid ((K3.out.alloc K3.out.size _).trans (h5.mono (by have := K3.out.size; simp; omega)))
  clear h5
  go_wp2_with fail
  go_ret
  exact ⟨rfl, K5.out⟩
/-- Few enough to be played. -/
def fewB (z : List Int) : Bool := decide (z.length ≤ 100) || (decide (4096 < z.length) && decide (z.length ≤ 5000))
theorem tb_few {A : Option Addr} {c : Nat} (z : List Int) (hn : z.length ≤ 9223372036854775807) (w : World) :
    Calls Try.prog 18 #[.slice A z.length c] w fun e w' => e = .returned (.bool (fewB z)) ∧ w = w' := by
  obtain ⟨M, hM⟩ : ∃ M, z.length = M := ⟨_, rfl⟩
  unfold fewB
  rw [hM]
  clear hM hn
  by_cases h1 : M ≤ 100
  · have h1' : (M : Int) ≤ 100 := by omega
    rw [decide_eq_true h1, Bool.true_or]
    clear h1
    go_enter Try.func18, Try.ntmps18
    go_wp2_with fail
    go_ret
    exact ⟨rfl, rfl⟩
  · have h1' : ¬ (M : Int) ≤ 100 := by omega
    by_cases h2 : 4096 < M
    · have h2' : (M : Int) > 4096 := by omega
      by_cases h3 : M ≤ 5000
      · have h3' : (M : Int) ≤ 5000 := by omega
        rw [decide_eq_false h1, decide_eq_true h2, decide_eq_true h3]
        clear h1 h2 h3
        go_enter Try.func18, Try.ntmps18
        go_wp2_with fail
        go_ret
        exact ⟨rfl, rfl⟩
      · have h3' : ¬ (M : Int) ≤ 5000 := by omega
        rw [decide_eq_false h1, decide_eq_true h2, decide_eq_false h3]
        clear h1 h2 h3
        go_enter Try.func18, Try.ntmps18
        go_wp2_with fail
        go_ret
        exact ⟨rfl, rfl⟩
    · have h2' : ¬ (M : Int) > 4096 := by omega
      rw [decide_eq_false h1, decide_eq_false h2]
      clear h1 h2
      go_enter Try.func18, Try.ntmps18
      go_wp2_with fail
      go_ret
      exact ⟨rfl, rfl⟩
end Go.Proofs.Ytnokomlekndgfaa
