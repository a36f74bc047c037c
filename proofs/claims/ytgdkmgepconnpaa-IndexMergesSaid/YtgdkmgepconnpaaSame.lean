
/- Texts that are the same, lists of numbers that are, as the document tells them. -/
import Derived.Test.YtgdkmgepconnpaaByte
import Derived.WalkSpells
import Derived.OwnWalk
import Derived.Outline
namespace Go.Proofs.Ytgdkmgepconnpaa
open Go.RowKit
set_option maxHeartbeats 400000
set_option linter.unusedVariables false
theorem ref_Same {A B : Option Addr} {c d : Nat} (xs ys : List Int) (ux : U8s xs) (uy : U8s ys) (w : World) {L M : Nat} (ra : Rd (Value.int .u8) w L A xs) (rb : Rd (Value.int .u8) w M B ys) :
    Calls Try.prog 15 #[.slice A xs.length c, .slice B ys.length d] w fun e w' => e = .returned (.bool (eqB xs ys)) ∧ w = w' := by
  have e1 := run_bytes (P := Try.prog) (c := c) Try.underlying23 Try.underlying5 Try.underlying9 ra
  have e2 := run_bytes (P := Try.prog) (c := d) Try.underlying23 Try.underlying5 Try.underlying9 rb
  have HS := hid (str_eq ux uy)
  obtain ⟨s, hs⟩ : ∃ s, strOfNums xs = s := ⟨_, rfl⟩
  obtain ⟨t, ht⟩ : ∃ s, strOfNums ys = s := ⟨_, rfl⟩
  rw [hs] at e1 HS
  rw [ht] at e2 HS
  clear hs ht ra rb
  go_enter Try.func15, Try.ntmps15
  go_wp2_with fail
  go_ret
  rw [← HS.out]
  exact ⟨rfl, rfl⟩
/-- What is told the same is found the same. -/
def SameB (P : Program) (f : FuncId) (X : List Int) : Prop := ∀ (A B : Option Addr) (c d : Nat) (W : World) (L M : Nat), Rd (Value.int .u8) W L A X → Rd (Value.int .u8) W M B X → Calls P f #[.slice A X.length c, .slice B X.length d] W fun e w' => e = .returned (.bool true) ∧ W = w'
theorem same_yes {X : List Int} (u : U8s X) : SameB Try.prog 15 X := fun A B c d W L M h1 h2 => by
  have := ref_Same (A := A) (B := B) (c := c) (d := d) X X u u W h1 h2
  rwa [eqB_self] at this
/-- .. of numbers. -/
def SameN (P : Program) (f : FuncId) (X : List Int) : Prop := ∀ (A B : Option Addr) (c d : Nat) (W : World), Rd (Value.int .u64) W W.heap.size A X → Rd (Value.int .u64) W W.heap.size B X → Calls P f #[.slice A X.length c, .slice B X.length d] W fun e w' => e = .returned (.bool true) ∧ Below W.heap.size W w'
end Go.Proofs.Ytgdkmgepconnpaa
