
/- The chapter's example; texts that are told the same. -/
import Derived.Test.YtgkkliibeiklbaaCrcE
import Derived.Test.YtgkkliibeiklbaaArg
import Derived.Lib.SlBytesConst
namespace Go.Proofs.Ytgkkliibeiklbaa
open Go.RowKit
set_option maxHeartbeats 400000
set_option linter.unusedVariables false
theorem sum_nine : sumN [49, 50, 51, 52, 53, 54, 55, 56, 57] = 3421780262 := by decide +kernel
theorem seal_a : (sealV [97]).length = 5 ∧ sealE [97] = 0 := ⟨by decide +kernel, by decide +kernel⟩
theorem nine_bytes : U8s [49, 50, 51, 52, 53, 54, 55, 56, 57] := by
  intro x hx
  simp only [List.mem_cons, List.not_mem_nil, or_false] at hx
  omega
theorem live_yes (w : World) :
    Calls Try.prog 12 #[] w fun e w' => e = .returned (.bool true) ∧ Below w.heap.size w w' := by
  have rm : ∀ (W : World) (xs : List Int) (fr : Nat × Nat), Rd (Value.int .u8) (W.alloc (.cells (xs.map (Value.int .u8)).toArray 5 fr)) (W.alloc (.cells (xs.map (Value.int .u8)).toArray 5 fr)).heap.size (some ⟨W.heap.size, 0, none⟩) xs := fun W xs fr => rd_block xs fr (heap_alloc_new W _)
  have kc := fun (w : World) (C : Array Value) (n c : Nat) => Lib.run_convert_bytes_const (P := Try.prog) w 22 5 C n c Try.underlying22 Try.underlying5
  have CP := hid (crc_Seal (c := 1) [97] (by decide) (by intro x hx; simp at hx; omega) _ (rm w [97] (1, 2)))
  have hl := seal_a.1
  rw [seal_a.2] at CP
  obtain ⟨S, hS⟩ : ∃ S, sealV [97] = S := ⟨_, rfl⟩
  rw [hS] at CP hl
  have CN := hid (fun W => crc_Sum (c := 9) [49, 50, 51, 52, 53, 54, 55, 56, 57] (by decide) nine_bytes _ (rm W [49, 50, 51, 52, 53, 54, 55, 56, 57] (9, 10)))
  rw [sum_nine] at CN
  have HL := hid hl
  clear rm hS hl
  go_enter Try.func12, Try.ntmps12
  go_wp2_with fail
  refine CP.out.mono ?_
  rintro _ w1 ⟨A, c, rfl, ho, hb⟩
  clear ho
  rw [HL.out]
  go_wp2_with fail
  refine (CN.out _).mono ?_
  rintro _ _ ⟨rfl, rfl⟩
  go_wp2_with fail
  go_ret
  refine ⟨rfl, ?_⟩
  have h1 : Below w.heap.size w w1 := ((Below.refl w.heap.size w).alloc (Nat.le_refl _) _).trans (hb.mono (by simp))
  exact h1.alloc h1.size _
theorem trnV_bytes {l : List Int} (hl : U8s l) (bit : Int) : U8s (trnV l bit) := by
  unfold trnV
  split
  · intro x hx; simp at hx
  · exact trn_bytes hl (by omega)
theorem sealV_bytes {l : List Int} (hl : U8s l) : U8s (sealV l) := by
  unfold sealV
  split
  · intro x hx; simp at hx
  · exact hl.app (le4_bytes _)
theorem openV_bytes {l : List Int} (hl : U8s l) : U8s (openV l) := by
  unfold openV
  split
  · intro x hx; simp at hx
  · exact hl.take _
end Go.Proofs.Ytgkkliibeiklbaa
