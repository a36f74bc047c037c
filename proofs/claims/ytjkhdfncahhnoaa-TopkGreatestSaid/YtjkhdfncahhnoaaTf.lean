
/- Tf: texts joined: TkLv. -/
import Derived.Test.YtjkhdfncahhnoaaTTkS
import Derived.Test.YtjkhdfncahhnoaaTa
/- The chapter's example; how many numbers are few enough. -/
namespace Go.Proofs.Ytjkhdfncahhnoaa
open Go.RowKit
set_option maxHeartbeats 400000
set_option maxRecDepth 100000
set_option linter.unusedVariables false
theorem tk_grow (w : World) (o : Obj) : Below w.heap.size w (w.alloc o) := (Below.refl _ _).alloc (Nat.le_refl _) o
/-- A list is found the same as itself. -/
theorem equal_me {X : List Int} (hX : X.length ≤ 9223372036854775807) {A B : Option Addr} {c d : Nat} (W : World) {L M : Nat} (ra : Rd (Value.int .i64) W L A X) (rb : Rd (Value.int .i64) W M B X) :
    Calls Try.prog 19 #[.slice A X.length c, .slice B X.length d] W fun e w' => e = .returned (.bool true) ∧ Below W.heap.size W w' := by
  have h := ref_Equal (A := A) (B := B) (c := c) (d := d) X X hX hX W ra rb
  rw [eqB_self] at h
  refine h.mono ?_
  rintro _ _ ⟨rfl, n, rfl⟩
  exact ⟨rfl, belowN _ _ _⟩
theorem tk_live (w : World) :
    Calls Try.prog 8 #[] w fun e w' => e = .returned (.bool true) ∧ Below w.heap.size w w' := by
  have C1 := hid (fun (A : Option Addr) (W : World) (h : Rd (Value.int .i64) W W.heap.size A [3, -5, 5, 1]) => tk_Pick (A := A) (c := 4) 2 (by decide) [3, -5, 5, 1] (by intro x hx; simp at hx; unfold I64; omega) (by decide) W h)
  rw [show pikE [3, -5, 5, 1] 2 = 0 by decide, show pikV [3, -5, 5, 1] 2 = [1, 2] by decide, show ([3, -5, 5, 1] : List Int).length = 4 from rfl] at C1
  have C2 := hid (fun (A B : Option Addr) (c : Nat) (W : World) (h1 : Rd (Value.int .i64) W W.heap.size A [1, 2]) (h2 : Rd (Value.int .i64) W W.heap.size B [3, -5, 5, 1]) => tk_Least (A := A) (B := B) (c := c) (d := 4) [1, 2] [3, -5, 5, 1] (by intro x hx; simp at hx; unfold I64; omega) (by decide) (by decide) W h1 h2)
  rw [show lstR [1, 2] [3, -5, 5, 1] = (5, true) by decide, show ([3, -5, 5, 1] : List Int).length = 4 from rfl, show ([1, 2] : List Int).length = 2 from rfl] at C2
  have C3 := hid (fun (A B : Option Addr) (c d : Nat) (W : World) (h1 : Rd (Value.int .i64) W W.heap.size A [1, 2]) (h2 : Rd (Value.int .i64) W W.heap.size B [1, 2]) => equal_me (X := [1, 2]) (by decide) (A := A) (B := B) (c := c) (d := d) W h1 h2)
  rw [show ([1, 2] : List Int).length = 2 from rfl] at C3
  go_enter Try.func8, Try.ntmps8
  go_wp2_with fail
  refine (C1.out _ _ (rd_new (enc := Value.int .i64) w 2 [3, -5, 5, 1])).mono ?_
  rintro _ w1 ⟨A1, c1, rfl, ho1, hb1⟩
  have k1 : Below w.heap.size w w1 := Below.trans (tk_grow w _) (hb1.mono (by simp))
  have R1 := hid (own_rd ho1)
  clear ho1 hb1 C1
  go_wp2_with fail
  have g1 := tk_grow w1 (.cells #[.int .i64 3, .int .i64 (-5), .int .i64 5, .int .i64 1] 2)
  refine (C2.out _ _ _ _ (R1.out.on g1) (rd_new (enc := Value.int .i64) w1 2 [3, -5, 5, 1])).mono ?_
  rintro _ w2 ⟨rfl, hb2⟩
  have k2 := k1.trans ((g1.trans (hb2.mono g1.size)).mono k1.size)
  have R2 := hid (R1.out.on (g1.trans (hb2.mono g1.size)))
  clear R1 g1 hb2 C2
  go_wp2_with fail
  have g2 := tk_grow w2 (.cells #[.int .i64 1, .int .i64 2] 3)
  refine (C3.out _ _ _ _ _ (R2.out.on g2) (rd_new (enc := Value.int .i64) w2 3 [1, 2])).mono ?_
  rintro _ w3 ⟨rfl, hb3⟩
  have k3 := k2.trans ((g2.trans (hb3.mono g2.size)).mono k2.size)
  clear g2 hb3
  go_wp2_with fail
  go_ret
  exact ⟨rfl, k3⟩
/-- Short enough to be played, or too long. -/
def fewT (v : List Int) : Bool := decide (v.length ≤ 200 ∨ (4096 < v.length ∧ v.length ≤ 5000))
theorem tk_few {A : Option Addr} {c : Nat} (n : List Int) (hn : n.length ≤ 9223372036854775807) (w : World) :
    Calls Try.prog 9 #[.slice A n.length c] w fun e w' => e = .returned (.bool (fewT n)) ∧ w = w' := by
  have HR : Hid (fewT n = true ↔ ((n.length : Int) ≤ 200 ∨ ((n.length : Int) > 4096 ∧ (n.length : Int) ≤ 5000))) := hid (by unfold fewT; rw [decide_eq_true_iff]; omega)
  obtain ⟨R, hR⟩ : ∃ R, fewT n = R := ⟨_, rfl⟩
  rw [hR] at HR ⊢
  clear hR
  go_enter Try.func9, Try.ntmps9
  go_wp2_with fail
  all_goals (go_ret; refine ⟨ret_of9 ?_, rfl⟩; rw [HR.out]; first | (simp [*]; done) | (simp [*]; omega))
end Go.Proofs.Ytjkhdfncahhnoaa
