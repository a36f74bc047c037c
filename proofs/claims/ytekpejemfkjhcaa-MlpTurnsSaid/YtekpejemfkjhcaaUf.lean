
/- Uf: texts joined: MlP MlLv. -/
import Derived.Test.YtekpejemfkjhcaaUMqJ
import Derived.Test.YtekpejemfkjhcaaUb
import Derived.Test.YtekpejemfkjhcaaUc
/- Two layers, by the landed code: its contracts (ml_Dim, ml_Check, ml_Bend, ml_Split, ml_Hidden, ml_Tell, ml_Off, ml_Grad). -/
/- The chapter's example. -/
namespace Go.Proofs.Ytekpejemfkjhcaa
open Go.RowKit
set_option maxHeartbeats 1000000
set_option maxRecDepth 100000
set_option linter.unusedVariables false
theorem ml_grow (w : World) (o : Obj) : Below w.heap.size w (w.alloc o) := (Below.refl _ _).alloc (Nat.le_refl _) o
theorem ml_live (w : World) :
    Calls Try.prog 8 #[] w fun e w' => e = .returned (.bool true) ∧ Below w.heap.size w w' := by
  have i1 : I64s [2, -5, 10, 1] := by intro x hx; simp at hx; unfold I64; omega
  have i2 : I64s [3] := by intro x hx; simp at hx; unfold I64; omega
  have i3 : I64s [2] := by intro x hx; simp at hx; unfold I64; omega
  have C1 := hid (fun (A B : Option Addr) (W : World) (h1 : Rd (Value.int .i64) W W.heap.size A [2, -5, 10, 1]) (h2 : Rd (Value.int .i64) W W.heap.size B [3]) => ml_Tell (Au := A) (Ax := B) (cu := 4) (cx := 1) 1 (by decide) [2, -5, 10, 1] [3] (by decide) (by decide) i1 (by decide) i2 0 W h1 h2)
  rw [show mqV 1 [2, -5, 10, 1] [3] 0 = 11 by decide +kernel, show mqE 1 [2, -5, 10, 1] [3] 0 = 0 by decide +kernel, show ([2, -5, 10, 1] : List Int).length = 4 from rfl, show ([3] : List Int).length = 1 from rfl] at C1
  have C2 := hid (fun (A B : Option Addr) (W : World) (h1 : Rd (Value.int .i64) W W.heap.size A [2, -5, 10, 1]) (h2 : Rd (Value.int .i64) W W.heap.size B [2]) => ml_Tell (Au := A) (Ax := B) (cu := 4) (cx := 1) 1 (by decide) [2, -5, 10, 1] [2] (by decide) (by decide) i1 (by decide) i3 0 W h1 h2)
  rw [show mqV 1 [2, -5, 10, 1] [2] 0 = 1 by decide +kernel, show mqE 1 [2, -5, 10, 1] [2] 0 = 0 by decide +kernel, show ([2, -5, 10, 1] : List Int).length = 4 from rfl, show ([2] : List Int).length = 1 from rfl] at C2
  obtain ⟨v1, hv1⟩ : ∃ v, w.alloc (.cells #[.int .i64 2, .int .i64 (-5), .int .i64 10, .int .i64 1] 2) = v := ⟨_, rfl⟩
  have a1 : Rd (Value.int .i64) v1 v1.heap.size (some ⟨w.heap.size, 0, none⟩) [2, -5, 10, 1] := by rw [← hv1]; exact rd_new (enc := Value.int .i64) w 2 [2, -5, 10, 1]
  have g1 : Below w.heap.size w v1 := by rw [← hv1]; exact ml_grow _ _
  obtain ⟨v2, hv2⟩ : ∃ v, v1.alloc (.cells #[.int .i64 3] 2) = v := ⟨_, rfl⟩
  have a2 : Rd (Value.int .i64) v2 v2.heap.size (some ⟨v1.heap.size, 0, none⟩) [3] := by rw [← hv2]; exact rd_new (enc := Value.int .i64) v1 2 [3]
  have g0 : Below v1.heap.size v1 v2 := by rw [← hv2]; exact ml_grow _ _
  have C1' := hid (C1.out _ _ v2 (a1.on g0) a2)
  have K0 : Hid (Below w.heap.size w v2) := hid (g1.trans (g0.mono g1.size))
  clear a1 a2 g0 g1 C1 i1 i2 i3
  go_enter Try.func8, Try.ntmps8
  go_wp2_with fail
  refine C1'.out.mono ?_
  rintro _ w1 ⟨rfl, hb1⟩
  have K1 : Hid (Below w.heap.size w w1) := hid (K0.out.trans (hb1.mono K0.out.size))
  clear hb1 C1' hv1 hv2
  obtain ⟨w2, hw2⟩ : ∃ w2, w1.alloc (.cells #[.int .i64 2, .int .i64 (-5), .int .i64 10, .int .i64 1] 2) = w2 := ⟨_, rfl⟩
  have b1 : Rd (Value.int .i64) w2 w2.heap.size (some ⟨w1.heap.size, 0, none⟩) [2, -5, 10, 1] := by rw [← hw2]; exact rd_new (enc := Value.int .i64) w1 2 [2, -5, 10, 1]
  have g2 : Below w1.heap.size w1 w2 := by rw [← hw2]; exact ml_grow _ _
  obtain ⟨w3, hw3⟩ : ∃ w3, w2.alloc (.cells #[.int .i64 2] 2) = w3 := ⟨_, rfl⟩
  have b2 : Rd (Value.int .i64) w3 w3.heap.size (some ⟨w2.heap.size, 0, none⟩) [2] := by rw [← hw3]; exact rd_new (enc := Value.int .i64) w2 2 [2]
  have g3 : Below w2.heap.size w2 w3 := by rw [← hw3]; exact ml_grow _ _
  have C2' := hid (C2.out _ _ w3 (b1.on g3) b2)
  have J3 : Hid (Below w1.heap.size w1 w3) := hid (g2.trans (g3.mono g2.size))
  clear b1 b2 g2 g3 C2
  go_wp2_with fail
  refine C2'.out.mono ?_
  rintro _ w4 ⟨rfl, hb4⟩
  have K4 : Hid (Below w.heap.size w w4) := hid (K1.out.trans ((J3.out.trans (hb4.mono J3.out.size)).mono K1.out.size))
  clear hb4
  go_wp2_with fail
  go_ret
  exact ⟨rfl, K4.out⟩
end Go.Proofs.Ytekpejemfkjhcaa
