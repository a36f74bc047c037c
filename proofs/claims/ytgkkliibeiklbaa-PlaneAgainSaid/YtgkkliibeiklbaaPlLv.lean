
/- The chapter's examples; whether lists are short enough. -/
import Derived.Test.YtgkkliibeiklbaaPlP
import Derived.Test.YtgkkliibeiklbaaArgB
namespace Go.Proofs.Ytgkkliibeiklbaa
open Go.RowKit
set_option maxHeartbeats 400000
set_option linter.unusedVariables false
theorem few_yes (n : Nat) (hn : n ≤ 5000) (w : World) : Calls Try.prog 25 #[.int .i64 (n : Int)] w fun e w' => e = .returned (.bool true) ∧ w = w' := by
  go_enter Try.func25, Try.ntmps25
  go_wp2_with fail
  go_ret
  refine ⟨?_, rfl⟩
  simp
  omega
theorem few_no (n : Nat) (hn : ¬ n ≤ 5000) (w : World) : Calls Try.prog 25 #[.int .i64 (n : Int)] w fun e w' => e = .returned (.bool false) ∧ w = w' := by
  go_enter Try.func25, Try.ntmps25
  go_wp2_with fail
  go_ret
  refine ⟨?_, rfl⟩
  simp
  omega
theorem five_two : (pckV 3 [5, 2] = [168] ∧ mayE 3 [5, 2] = 0) ∧ wevV 3 [5, 2] = [152] := by decide +kernel
theorem five_two_u64 : U64s [5, 2] := by
  intro x hx
  simp only [List.mem_cons, List.not_mem_nil, or_false] at hx
  unfold U64
  omega
theorem live_yes (w : World) :
    Calls Try.prog 24 #[] w fun e w' => e = .returned (.bool true) ∧ Below w.heap.size w w' := by
  have C1 := hid (fun (W : World) => pl_Pack (c := 2) 3 [5, 2] (by decide) (by decide) five_two_u64 _ (rd_new (enc := Value.int .u64) W 43 [5, 2]))
  have C2 := hid (fun (W : World) => pl_Weave (c := 2) 3 [5, 2] (by decide) (by decide) five_two_u64 _ (rd_new (enc := Value.int .u64) W 43 [5, 2]))
  rw [five_two.1.1, five_two.1.2] at C1
  rw [five_two.2, five_two.1.2] at C2
  go_enter Try.func24, Try.ntmps24
  go_wp2_with fail
  refine (C1.out _).mono ?_
  rintro _ w1 ⟨A1, c1, rfl, ho1, hb1⟩
  have HO1 := hid ho1
  clear ho1
  go_wp2_with fail
  refine (C2.out _).mono ?_
  rintro _ w2 ⟨A2, c2, rfl, ho2, hb2⟩
  have hb12 : Below w1.heap.size w1 w2 := ((Below.refl w1.heap.size w1).alloc (Nat.le_refl _) _).trans (hb2.mono (by simp))
  have h1 := own_on HO1.out hb12
  obtain ⟨g1, rfl, _, e1, _⟩ := own_cellk h1 (show 0 < [168].length by decide)
  obtain ⟨g2, rfl, _, e2, _⟩ := own_cellk ho2 (show 0 < [152].length by decide)
  have e1 : w2.cell? ⟨g1, 0, none⟩ = some (.int .u8 168) := e1
  have e2 : w2.cell? ⟨g2, 0, none⟩ = some (.int .u8 152) := e2
  have hbw : Below w.heap.size w w2 := (((Below.refl w.heap.size w).alloc (Nat.le_refl _) _).trans (hb1.mono (by simp))).trans (hb12.mono (by have := hb1.size; simp at this; omega))
  clear h1 ho2 HO1 hb12 hb1 hb2
  go_wp2_with fail
  go_ret
  exact ⟨rfl, hbw⟩
end Go.Proofs.Ytgkkliibeiklbaa
