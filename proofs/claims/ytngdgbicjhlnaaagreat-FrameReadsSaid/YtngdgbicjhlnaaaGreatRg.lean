
/- Rg: texts joined: FrQ. -/
import Derived.Test.YtngdgbicjhlnaaaGreatRFrP
/- The document's reader of a frame, whatever there is to be read. -/
namespace Go.Proofs.YtngdgbicjhlnaaaGreat
open Go.RowKit
set_option maxHeartbeats 1000000
set_option maxRecDepth 100000
set_option linter.unusedVariables false
theorem ref_ReadF {A : Option Addr} {c : Nat} (b : List Int) (hb : b.length ≤ 70000) (hcap : b.length ≤ c) (hc : c ≤ 9223372036854775807) (ub : U8s b) (w : World) (ra : Rd (Value.int .u8) w w.heap.size A b) :
    Calls Tryz.prog 6 #[.slice A b.length c] w (OwnFr (rdR b) w) := by
  unfold rdR
  by_cases he : openE b = 0
  · rw [if_neg (by rw [he]; decide)]
    have uo := openV_u8 ub
    have hol := openV_len b
    obtain ⟨ver, o1, v1, hv⟩ : ∃ x t z, by1 (openV b, false) = (x, t, z) := ⟨_, _, _, rfl⟩
    obtain ⟨uo1, l1, _, _⟩ := by1_all uo hv
    obtain ⟨knd, o2, v2, hk⟩ : ∃ x t z, by1 (o1, v1) = (x, t, z) := ⟨_, _, _, rfl⟩
    obtain ⟨uo2, l2, k0, k255⟩ := by1_all uo1 hk
    obtain ⟨frm, o3, v3, hf⟩ : ∃ x t z, num1 63 (o2, v2) = (x, t, z) := ⟨_, _, _, rfl⟩
    obtain ⟨uo3, l3, f0, f63⟩ := num1_all (by decide) uo2 hf
    obtain ⟨stp, o4, v4, hs⟩ : ∃ x t z, num1 1073741824 (o3, v3) = (x, t, z) := ⟨_, _, _, rfl⟩
    obtain ⟨uo4, l4, s0, s1⟩ := num1_all (by decide) uo3 hs
    have e : read1 (openV b) = endR ver (fram1 knd frm stp (o4, v4)) := by
      unfold read1
      rw [hv]
      simp only [hk, hf, hs]
    rw [e]
    unfold fram1
    have lo4 : o4.length ≤ 70000 := by omega
    by_cases hk1 : knd = 1
    · rw [if_pos hk1]
      obtain ⟨S, t, z, hS⟩ : ∃ S t z, sent1 (o4, v4) = (S, t, z) := ⟨_, _, _, rfl⟩
      have hln := sent1_ln v4 uo4
      rw [hS] at hln ⊢
      have hwf : z = false → wfF ⟨1, frm, stp, S⟩ := fun hz => by
        subst hz
        exact ⟨by show I64 1; decide, by show I64 frm; unfold I64; omega, by show I64 stp; unfold I64; omega, (sent1_back uo4 hS).1⟩
      have h := read_some b hb hcap hc ub w ra he hv uo1 hk uo2 hf uo3 hs uo4 lo4 hk1 hS hln hwf
      rw [hk1]
      exact h
    · rw [if_neg hk1]
      exact read_none b hb hcap hc ub w ra he hv uo1 hk uo2 hf uo3 hs uo4 lo4 hk1 ⟨by show I64 knd; unfold I64; omega, by show I64 frm; unfold I64; omega, by show I64 stp; unfold I64; omega, wf_zeroS⟩
  · rw [if_pos he]
    exact read_bad b hb hcap hc ub w ra he
end Go.Proofs.YtngdgbicjhlnaaaGreat
