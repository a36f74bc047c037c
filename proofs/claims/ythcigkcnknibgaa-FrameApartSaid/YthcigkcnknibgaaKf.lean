
/- Kf: texts joined: FsK. -/
import Derived.Test.YthcigkcnknibgaaKFsN
import Derived.Test.YthcigkcnknibgaaKFsR
import Derived.Test.YthcigkcnknibgaaKc
import Derived.Test.YthcigkcnknibgaaKe
/- The chapter's example by the landed code's own contracts; words for walks of two frames. -/
namespace Go.Proofs.Ythcigkcnknibgaa
open Go.RowKit
set_option maxHeartbeats 400000
set_option maxRecDepth 100000
set_option linter.unusedVariables false
theorem growK (w : World) (o : Obj) : Below w.heap.size w (w.alloc o) := (Below.refl _ _).alloc (Nat.le_refl _) _
theorem fr_liveK (w : World) :
    Calls Try.prog 5 #[] w fun e w' => e = .returned (.bool true) ∧ Below w.heap.size w w' := by
  have C1 := hid (fun W => fs_Ack 3 300 W)
  have C2 := hid (fun W => wx_Write (ackF 3 300) zeroP (ln_zero _) (ack_wf (by decide) (by decide)) W (RdS.zero _ _))
  obtain ⟨s, e1, e2, e3⟩ := ack_wrt
  rw [e1, e3] at C2
  obtain ⟨X, hX⟩ : ∃ X, ([1, 2, 3, 172, 2] ++ s : List Int) = X := ⟨_, rfl⟩
  have hl : X.length = 9 := by rw [← hX]; simp [e2]
  have h5 : X.take 5 = [1, 2, 3, 172, 2] := by rw [← hX]; rfl
  rw [hX] at C2
  have u5 : U8s [1, 2, 3, 172, 2] := by intro x hx; simp at hx; omega
  have C3 := hid (fun (A B : Option Addr) (c d : Nat) (W : World) (L M : Nat) h1 h2 => same_yes u5 A B c d W L M h1 h2)
  rw [show ([1, 2, 3, 172, 2] : List Int).length = 5 from rfl] at C3
  have H5 := hid h5
  have HL := hid hl
  clear e1 e2 e3 hX h5 u5
  go_enter Try.func5, Try.ntmps5
  go_wp2_with fail
  refine (C1.out w).mono ?_
  rintro _ w1 ⟨rfl, hb1⟩
  go_wp2_with fail
  refine (C2.out w1).mono ?_
  rintro _ w2 ⟨A2, d2, rfl, ho2, hb2⟩
  have k2 := hb1.trans (hb2.mono hb1.size)
  have hcap := own_cap ho2
  have hR := (own_rd ho2).some_cut 5
  rw [H5.out] at hR
  have HRd := hid hR
  have hr5 : Rd (Value.int .u8) (w2.alloc (.cells #[.int .u8 1, .int .u8 2, .int .u8 3, .int .u8 172, .int .u8 2] 5)) (w2.alloc (.cells #[.int .u8 1, .int .u8 2, .int .u8 3, .int .u8 172, .int .u8 2] 5)).heap.size (some ⟨w2.heap.size, 0, none⟩) [1, 2, 3, 172, 2] := rd_new (enc := Value.int .u8) w2 5 [1, 2, 3, 172, 2]
  have hz := growK w2 (.cells #[.int .u8 1, .int .u8 2, .int .u8 3, .int .u8 172, .int .u8 2] 5)
  have C4 := hid (C3.out _ _ d2 5 _ _ _ (HRd.out.below hz) hr5)
  have k3 := k2.trans (hz.mono k2.size)
  have h9 : 9 ≤ d2 := by omega
  clear ho2 hR hr5 hz
  go_wp2_with fail
  refine C4.out.mono ?_
  rintro _ _ ⟨rfl, rfl⟩
  go_wp2_with fail
  go_ret
  exact ⟨rfl, k3⟩
end Go.Proofs.Ythcigkcnknibgaa
