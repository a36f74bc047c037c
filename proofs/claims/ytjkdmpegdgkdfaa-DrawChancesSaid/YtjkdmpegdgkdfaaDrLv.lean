
/- The chapter's examples; how many numbers are few enough; what is told the same. -/
import Derived.Test.YtjkdmpegdgkdfaaDrC
namespace Go.Proofs.Ytjkdmpegdgkdfaa
open Go.RowKit
set_option maxHeartbeats 400000
set_option maxRecDepth 100000
set_option linter.unusedVariables false
theorem dr_grow (w : World) (o : Obj) : Below w.heap.size w (w.alloc o) := (Below.refl _ _).alloc (Nat.le_refl _) o
theorem dr_live (w : World) :
    Calls Try.prog 9 #[] w fun e w' => e = .returned (.bool true) ∧ Below w.heap.size w w' := by
  have C1 : Hid (Calls Try.prog 11 #[.int .u64 1, .int .u64 7, .slice (some ⟨w.heap.size, 0, none⟩) 1 1] (w.alloc (.cells #[.int .i64 3] 3)) fun e w' => e = .returned (.tuple #[.int .u64 0, .int .i64 0]) ∧ (w.alloc (.cells #[.int .i64 3] 3)) = w') := hid (by
    have h := dr_Below (A := some ⟨w.heap.size, 0, none⟩) (c := 1) 1 7 (by decide) (by decide) [3] (by decide) (by intro x hx; simp at hx; subst hx; decide) (w.alloc (.cells #[.int .i64 3] 3)) (rd_new (enc := Value.int .i64) w 3 [3])
    rw [show belV 1 7 [3] = 0 by unfold belV; rw [if_neg (by decide)]; exact Nat.mod_one _, show belE 1 = 0 from rfl] at h
    exact h)
  have C2 : Hid (∀ W, Calls Try.prog 17 #[.int .i64 2, .int .u64 5, .slice none 0 0] W (OwnE 3 .i64 W.heap.size (ordV 2 5 []) 0 W)) := hid (fun W =>
    dr_Order (A := none) (c := 0) 2 (by decide) 5 (by decide) [] (by decide) (by intro x hx; simp at hx) W .none_)
  have hl : (ordV 2 5 []).length = 2 := ordV_len rfl 5 []
  obtain ⟨V, hV⟩ : ∃ V, ordV 2 5 [] = V := ⟨_, rfl⟩
  rw [hV] at C2 hl
  have C3 : Hid (∀ W, Calls Try.prog 15 #[.int .u64 0, .slice none 0 0] W fun e w' => e = .returned (.int .u64 0) ∧ W = w') := hid (fun W =>
    dr_At (A := none) (c := 0) 0 (by decide) [] (by decide) (by intro x hx; simp at hx) W (B := 0) .none_)
  have C4 : Hid (∀ W, Calls Try.prog 15 #[.int .u64 1, .slice none 0 0] W fun e w' => e = .returned (.int .u64 ((atN 1 [] : Nat) : Int)) ∧ W = w') := hid (fun W =>
    dr_At (A := none) (c := 0) 1 (by decide) [] (by decide) (by intro x hx; simp at hx) W (B := 0) .none_)
  have hne : (((atN 1 [] : Nat) : Int) != 0) = true := by decide +kernel
  obtain ⟨a, ha⟩ : ∃ a, ((atN 1 [] : Nat) : Int) = a := ⟨_, rfl⟩
  rw [ha] at C4 hne
  have HL := hid hl
  clear hV ha hl
  go_enter Try.func9, Try.ntmps9
  go_wp2_with fail
  refine C1.out.mono ?_
  rintro _ w1 ⟨rfl, hw1⟩
  have k1 : Below w.heap.size w w1 := by rw [← hw1]; exact dr_grow w _
  clear hw1 C1
  go_wp2_with fail
  refine (C2.out _).mono ?_
  rintro _ w2 ⟨A2, c2, rfl, _, hb2⟩
  have k2 := k1.trans (hb2.mono k1.size)
  rw [HL.out]
  clear k1 hb2 C2
  go_wp2_with fail
  refine (C3.out _).mono ?_
  rintro _ _ ⟨rfl, rfl⟩
  go_wp2_with fail
  refine (C4.out _).mono ?_
  rintro _ _ ⟨rfl, rfl⟩
  go_wp2_with fail
  go_ret
  exact ⟨rfl, k2⟩
theorem dr_few {A : Option Addr} {c : Nat} (n : List Int) (hn : n.length ≤ 9223372036854775807) (w : World) :
    Calls Try.prog 10 #[.slice A n.length c] w fun e w' => e = .returned (.bool (decide (n.length ≤ 200))) ∧ w = w' := by
  go_enter Try.func10, Try.ntmps10
  go_wp2_with fail
  go_ret
  exact ⟨by simp; omega, rfl⟩
/-- A list is found the same as itself. -/
theorem equal_it {X : List Int} (hX : X.length ≤ 9223372036854775807) {A B : Option Addr} {c d : Nat} (W : World) {L M : Nat} (ra : Rd (Value.int .i64) W L A X) (rb : Rd (Value.int .i64) W M B X) :
    Calls Try.prog 21 #[.slice A X.length c, .slice B X.length d] W fun e w' => e = .returned (.bool true) ∧ Below W.heap.size W w' := by
  have h := ref_Equal (A := A) (B := B) (c := c) (d := d) X X hX hX W ra rb
  rw [eqB_self] at h
  refine h.mono ?_
  rintro _ _ ⟨rfl, n, rfl⟩
  exact ⟨rfl, belowN _ _ _⟩
end Go.Proofs.Ytjkdmpegdgkdfaa
