
/- UOver: texts joined: Over. -/
import Derived.Test.YtekpejemfkjhcaaUc
import Derived.Test.YtekpejemfkjhcaaUa
import Derived.Handy
import Derived.RegionTactic
import Derived.Deep.QuietTactic
import Derived.BigQuiet
namespace Go.Proofs.Ytekpejemfkjhcaa
open Go.RowKit
set_option maxHeartbeats 400000
set_option maxRecDepth 100000
set_option linter.unusedVariables false
/-- A quotient, down, whatever the sign of what it is divided by. -/
def quoF (n d : Int) : Int := if d < 0 then (-n) / (-d) else n / d

theorem over_pos_end {s d : Int} (h0 : 0 ≤ s) (hs : I128 s) (hd : 1 ≤ d) :
    hiU s / d = hiU (s / d) ∧ (hiU s % d * 18446744073709551616 + loU s) / d = loU (s / d) := by
  have e : s = hiU s * 18446744073709551616 + loU s := by unfold I128 at hs; unfold hiU loU; omega
  have h1 := Int.mul_ediv_add_emod (hiU s) d
  have h2 := Int.emod_nonneg (hiU s) (show d ≠ 0 by omega)
  have h3 := Int.emod_lt_of_pos (hiU s) (show 0 < d by omega)
  have hh := U64.hi s
  have hl := U64.lo s
  have h4 : 0 ≤ hiU s / d := Int.ediv_nonneg hh.1 (by omega)
  have h5 : hiU s / d ≤ hiU s := Int.ediv_le_self _ hh.1
  have e2 : s / d = hiU s / d * 18446744073709551616 + (hiU s % d * 18446744073709551616 + loU s) / d := by
    have : s = (hiU s % d * 18446744073709551616 + loU s) + hiU s / d * 18446744073709551616 * d := by
      rw [Int.mul_right_comm]
      rw [Int.mul_comm] at h1
      omega
    conv => lhs; rw [this]
    rw [Int.add_mul_ediv_right _ _ (by omega)]
    omega
  have h6 : 0 ≤ (hiU s % d * 18446744073709551616 + loU s) / d := Int.ediv_nonneg (by have := hl.1; omega) (by omega)
  have h7 : (hiU s % d * 18446744073709551616 + loU s) / d < 18446744073709551616 := by
    refine Int.ediv_lt_of_lt_mul (by omega) ?_
    have := hl.2
    omega
  rw [e2]
  have b1 := hh.2
  generalize (hiU s % d * 18446744073709551616 + loU s) / d = x at *
  generalize hiU s / d = z at *
  unfold hiU loU
  omega
theorem flip_quo {s d : Int} (hd : 1 ≤ d) : -((-s - 1) / d) - 1 = s / d := by
  have h1 := Int.mul_ediv_add_emod (-s - 1) d
  have h2 := Int.emod_nonneg (-s - 1) (show d ≠ 0 by omega)
  have h3 := Int.emod_lt_of_pos (-s - 1) (show 0 < d by omega)
  have e : s = (d - 1 - (-s - 1) % d) + (-((-s - 1) / d) - 1) * d := by
    rw [Int.sub_mul, Int.neg_mul, Int.mul_comm _ d]
    omega
  have k : (d - 1 - (-s - 1) % d) / d = 0 := Int.ediv_eq_zero_of_lt (by omega) (by omega)
  conv => rhs; rw [e, Int.add_mul_ediv_right _ _ (show d ≠ 0 by omega), k]
  omega
theorem over_pos (s d : Int) (h0 : 0 ≤ s) (hs : I128 s) (hd : 1 ≤ d) (hd' : d ≤ 18446744073709551615) (w : World) :
    Calls Try.prog 84 #[.agg #[.int .u64 (hiU s), .int .u64 (loU s)], .int .u64 d] w fun e w' => e = .returned (.agg #[.int .u64 (hiU (s / d)), .int .u64 (loU (s / d))]) ∧ Below w.heap.size w w' := by
  have k := hi_signed hs
  obtain ⟨H, hH⟩ : ∃ H, s / 18446744073709551616 = H := ⟨_, rfl⟩
  rw [hH] at k
  have k0 : 0 ≤ H := by omega
  have hh := U64.hi s
  have hl := U64.lo s
  have a1 := hh.1
  have a2 := hh.2
  have b1 : 0 ≤ hiU s % d := Int.emod_nonneg _ (by omega)
  have b2 : hiU s % d < d := Int.emod_lt_of_pos _ (by omega)
  have K := hid (over_pos_end h0 hs hd)
  clear hH hh
  go_enter Try.func84, Try.ntmps84
  go_wp2_with fail
  go_region
  go_wp2_with fail
  refine (div64 _ _ _ hl hd' b1 b2 _).mono ?_
  rintro e w' ⟨rfl, n, rfl⟩
  go_wp2_with fail
  go_returns
  rw [K.out.1, K.out.2]
  exact ⟨rfl, by refine Below.setCell (Below.setCell (below_drewN ?_ _) ?_ _) ?_ _ <;> first | go_grown | simp⟩
theorem over_neg (s d : Int) (h0 : s < 0) (hs : I128 s) (hd : 1 ≤ d) (hd' : d ≤ 18446744073709551615) (w : World) :
    Calls Try.prog 84 #[.agg #[.int .u64 (hiU s), .int .u64 (loU s)], .int .u64 d] w fun e w' => e = .returned (.agg #[.int .u64 (hiU (s / d)), .int .u64 (loU (s / d))]) ∧ Below w.heap.size w w' := by
  have k := hi_signed hs
  obtain ⟨H, hH⟩ : ∃ H, s / 18446744073709551616 = H := ⟨_, rfl⟩
  rw [hH] at k
  have k0 : H < 0 := by omega
  have hf := hid (flip_quo (s := s) hd)
  clear hH
  go_enter Try.func84, Try.ntmps84
  go_wp2_with fail
  refine (fix_flip s _).mono ?_
  rintro e w' ⟨rfl, rfl⟩
  go_wp2_with fail
  refine (over_pos (-s - 1) d (by omega) (by unfold I128 at *; omega) hd hd' _).mono ?_
  rintro e w1 ⟨rfl, hb⟩
  have hz : w.heap.size + 1 < w1.heap.size := by have := hb.size; simp at this; omega
  have v0 : w1.cell? ⟨w.heap.size + 1, 0, none⟩ = some (.int .u64 0) := (hb.cell (p := ⟨w.heap.size + 1, 0, none⟩) (by simp)).trans (by go_cell)
  have v1 : w1.cell? ⟨w.heap.size + 1, 1, none⟩ = some (.int .u64 0) := (hb.cell (p := ⟨w.heap.size + 1, 1, none⟩) (by simp)).trans (by go_cell)
  have z0 : w1.frozen? ⟨w.heap.size + 1, 0, none⟩ = false := (hb.frozen (p := ⟨w.heap.size + 1, 0, none⟩) (by simp)).trans (by go_cell)
  have z1 : w1.frozen? ⟨w.heap.size + 1, 1, none⟩ = false := (hb.frozen (p := ⟨w.heap.size + 1, 1, none⟩) (by simp)).trans (by go_cell)
  have hb1 : Below w.heap.size w w1 := Below.trans (by go_grown) (hb.mono (by simp; omega))
  clear hb
  go_wp2_with fail
  refine (fix_flip ((-s - 1) / d) _).mono ?_
  rintro e w2 ⟨rfl, hw2⟩
  have hb2 : Below w1.heap.size w1 w2 := by rw [← hw2]; go_grown
  clear hw2
  have v0 : w2.cell? ⟨w.heap.size + 1, 0, none⟩ = some (.int .u64 0) := (hb2.cell (p := ⟨w.heap.size + 1, 0, none⟩) hz).trans v0
  have v1 : w2.cell? ⟨w.heap.size + 1, 1, none⟩ = some (.int .u64 0) := (hb2.cell (p := ⟨w.heap.size + 1, 1, none⟩) hz).trans v1
  have z0 : w2.frozen? ⟨w.heap.size + 1, 0, none⟩ = false := (hb2.frozen (p := ⟨w.heap.size + 1, 0, none⟩) hz).trans z0
  have z1 : w2.frozen? ⟨w.heap.size + 1, 1, none⟩ = false := (hb2.frozen (p := ⟨w.heap.size + 1, 1, none⟩) hz).trans z1
  have hb3 : Below w.heap.size w w2 := hb1.trans (hb2.mono (by omega))
  clear hb1 hb2 hz
  go_wp2_with fail
  refine bodyPost_ret (v := .agg #[.int .u64 (hiU (-((-s - 1) / d) - 1)), .int .u64 (loU (-((-s - 1) / d) - 1))]) (by simp [results, Try.results84, go_sem, v0, v1]) rfl ?_
  rw [hf.out]
  exact ⟨rfl, by refine Below.setCell (Below.setCell ?_ ?_ _) ?_ _ <;> first | assumption | simp⟩
theorem fix_over (s d : Int) (hs : I128 s) (hd : 1 ≤ d) (hd' : d ≤ 18446744073709551615) (w : World) :
    Calls Try.prog 84 #[.agg #[.int .u64 (hiU s), .int .u64 (loU s)], .int .u64 d] w fun e w' => e = .returned (.agg #[.int .u64 (hiU (s / d)), .int .u64 (loU (s / d))]) ∧ Below w.heap.size w w' := by
  by_cases h : 0 ≤ s
  · exact over_pos s d h hs hd hd' w
  · exact over_neg s d (by omega) hs hd hd' w
end Go.Proofs.Ytekpejemfkjhcaa
