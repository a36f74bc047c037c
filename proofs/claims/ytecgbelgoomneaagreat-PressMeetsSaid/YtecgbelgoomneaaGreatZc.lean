
/- Zc: texts joined: QpA DrB QpD SgN Rwb SgC Rin CrcA CrcB CrcC CrcD FsF LebE FsM CrcE BoxG Law Arg ArgB. -/
import Derived.Test.YtecgbelgoomneaaGreatZb
import Derived.Test.YtecgbelgoomneaaGreatShelf
import Derived.BigRegion
import Derived.Test.YtecgbelgoomneaaGreatZa
import Derived.RegionTactic
import Derived.Deep.QuietTactic
import Derived.BigQuiet
import Derived.ChangeAlike
import Derived.Lib.AppendZerosOnto
import Derived.Lib.Walk
import Derived.Deep.RegionHeld3
import Derived.Laws.Cover3
import Derived.Test.YtecgbelgoomneaaGreatRows
import Derived.WalkKit
import Derived.ProofKit
import Derived.OpenShut
import Derived.Carry
import Derived.Deep.Grids
/- The greatest level, a number's level, a level's number: by the program. -/
namespace Go.Proofs.YtecgbelgoomneaaGreat
open Go.RowKit
set_option maxHeartbeats 400000
set_option maxRecDepth 100000
set_option linter.unusedVariables false
theorem qp_Steps (wide : Int) (hw : I64 wide) (w : World) :
    Calls Tryz.prog 165 #[.int .i64 wide] w fun e w' => e = .returned (.tuple #[.int .u64 (stsV wide : Int), .int .i64 (stsE wide)]) ∧ w = w' := by
  by_cases h : stsE wide = 0
  · have hv : stsV wide = topQ wide := if_pos h
    rw [h, hv]
    have h1 := stsE_ok.1 h
    rcases topQ_cases h with ⟨rfl, e⟩ | ⟨rfl, e⟩ | ⟨rfl, e⟩ | ⟨rfl, e⟩ | ⟨rfl, e⟩ | ⟨rfl, e⟩ | ⟨rfl, e⟩ | ⟨rfl, e⟩
    all_goals (
      rw [e]
      clear e h hv h1 hw
      go_enter Tryz.func165, Tryz.ntmps165
      go_wp2_with fail
      go_ret2
      exact ⟨rfl, rfl⟩)
  · have hv : stsV wide = 0 := if_neg h
    have he : stsE wide = 1 := by unfold stsE at h ⊢; split at h <;> simp_all
    rw [he, hv]
    have h1 : wide < 1 ∨ (¬ wide < 1 ∧ wide > 8) := by have : ¬ (1 ≤ wide ∧ wide ≤ 8) := fun h2 => h (stsE_ok.2 h2); omega
    clear he hv h
    rcases h1 with h1 | ⟨h1, h2⟩
    all_goals (
      go_enter Tryz.func165, Tryz.ntmps165
      go_wp2_with fail
      go_ret2
      exact ⟨rfl, rfl⟩)
/-- The greatest level, where there may be such a scale. -/
def tpE (scale wide : Int) : Int := if scale < 0 ∨ stsE wide ≠ 0 then 1 else 0
def tpV (scale wide : Int) : Nat := if tpE scale wide = 0 then topQ wide else 0
theorem tpE_ok {scale wide : Int} : tpE scale wide = 0 ↔ 0 ≤ scale ∧ stsE wide = 0 := by
  unfold tpE
  by_cases h : scale < 0 ∨ stsE wide ≠ 0
  · rw [if_pos h]; omega
  · rw [if_neg h]; omega
theorem tpE_no {scale wide : Int} (h : ¬ tpE scale wide = 0) : tpE scale wide = 1 ∧ tpV scale wide = 0 := by
  refine ⟨?_, if_neg h⟩
  unfold tpE at h ⊢
  split at h <;> simp_all
theorem stsE_no {wide : Int} (h : ¬ stsE wide = 0) : stsE wide = 1 ∧ stsV wide = 0 := by
  refine ⟨?_, if_neg h⟩
  unfold stsE at h ⊢
  split at h <;> simp_all
theorem qp_topBy (scale wide : Int) (hs : I64 scale) (hw : I64 wide) (w : World) :
    Calls Tryz.prog 170 #[.int .i64 scale, .int .i64 wide] w fun e w' => e = .returned (.tuple #[.int .u64 (tpV scale wide : Int), .int .i64 (tpE scale wide)]) ∧ w = w' := by
  have C1 := hid (qp_Steps wide hw w)
  unfold I64 at hs
  by_cases h0 : scale < 0
  · obtain ⟨e1, e2⟩ := tpE_no (scale := scale) (wide := wide) (fun h => by have := tpE_ok.1 h; omega)
    rw [e1, e2]
    clear e1 e2 C1
    go_enter Tryz.func170, Tryz.ntmps170
    go_wp2_with fail
    go_ret2
    exact ⟨rfl, rfl⟩
  · have e : (tpV scale wide : Int) = (stsV wide : Int) ∧ tpE scale wide = stsE wide := by
      by_cases h1 : stsE wide = 0
      · have h2 := tpE_ok.2 ⟨show 0 ≤ scale by omega, h1⟩
        rw [h2, h1]
        refine ⟨?_, rfl⟩
        rw [show tpV scale wide = topQ wide from if_pos h2, show stsV wide = topQ wide from if_pos h1]
      · obtain ⟨a, b⟩ := tpE_no (scale := scale) (wide := wide) (fun h => h1 (tpE_ok.1 h).2)
        obtain ⟨c, d⟩ := stsE_no h1
        rw [a, b, c, d]
        exact ⟨rfl, rfl⟩
    rw [e.1, e.2]
    obtain ⟨V, hV⟩ : ∃ V, stsV wide = V := ⟨_, rfl⟩
    obtain ⟨E, hE⟩ : ∃ E, stsE wide = E := ⟨_, rfl⟩
    rw [hV, hE] at C1 ⊢
    clear e hV hE
    go_enter Tryz.func170, Tryz.ntmps170
    go_wp2_with fail
    refine C1.out.mono ?_
    rintro _ _ ⟨rfl, rfl⟩
    go_wp2_with fail
    go_ret2
    exact ⟨rfl, rfl⟩
theorem qp_share (p b h : Nat) (hb : b < 18446744073709551616) (hp : p ≤ h) (h0 : 0 < h) (hh : h < 18446744073709551616) (w : World) :
    Calls Tryz.prog 171 #[.int .u64 (p : Int), .int .u64 (b : Int), .int .u64 (h : Int)] w fun e w' => e = .returned (.tuple #[.int .u64 ((p * b / h : Nat) : Int), .int .u64 ((p * b % h : Nat) : Int)]) ∧ ∃ n, w' = w.drewN n := by
  have CM := hid (mul64 (p : Int) (b : Int) ⟨by omega, by omega⟩ ⟨by omega, by omega⟩ w)
  obtain ⟨q, hq⟩ : ∃ q, p * b = q := ⟨_, rfl⟩
  have hqi : (p : Int) * (b : Int) = (q : Int) := by rw [← hq]; simp
  have hq2 : q < h * 18446744073709551616 := by
    rw [← hq]
    exact Nat.lt_of_le_of_lt (Nat.mul_le_mul_right b hp) (Nat.mul_lt_mul_of_pos_left hb h0)
  rw [hqi] at CM
  rw [hq]
  obtain ⟨H, hH⟩ : ∃ H, q / 18446744073709551616 = H := ⟨_, rfl⟩
  obtain ⟨L, hL⟩ : ∃ L, q % 18446744073709551616 = L := ⟨_, rfl⟩
  have e1 : (q : Int) / 18446744073709551616 = (H : Int) := by omega
  have e2 : (q : Int) % 18446744073709551616 = (L : Int) := by omega
  rw [e1, e2] at CM
  have hHh : H < h := by omega
  have CD := hid (div64 (H : Int) (L : Int) (h : Int) ⟨by omega, by omega⟩ (by omega) (by omega) (by omega) w)
  have e3 : (H : Int) * 18446744073709551616 + (L : Int) = (q : Int) := by omega
  obtain ⟨D, hD⟩ : ∃ D, q / h = D := ⟨_, rfl⟩
  obtain ⟨R, hR⟩ : ∃ R, q % h = R := ⟨_, rfl⟩
  have e4 : (q : Int) / (h : Int) = (D : Int) := by rw [← hD]; simp
  have e5 : (q : Int) % (h : Int) = (R : Int) := by rw [← hR]; simp
  rw [e3, e4, e5] at CD
  rw [hD, hR]
  clear e1 e2 e3 e4 e5 hD hR hH hL hq hqi hq2 hb hp
  go_enter Tryz.func171, Tryz.ntmps171
  go_wp2_with fail
  refine CM.out.mono ?_
  rintro _ _ ⟨rfl, rfl⟩
  go_wp2_with fail
  refine CD.out.mono ?_
  rintro _ _ ⟨rfl, n, rfl⟩
  go_wp2_with fail
  go_ret2
  exact ⟨rfl, n, rfl⟩
theorem size_one (n : Int) : sizeE [n] = ckE (absI n) ∧ sizeV [n] = ckV (absI n) := by
  have e : tot (numA [n]) 1 = (ckV (absI n), ckE (absI n)) := by
    show (if (tot (numA [n]) 0).2 = 0 then (if (numA [n] 0).2 = 0 then (ckV ((tot (numA [n]) 0).1 + (numA [n] 0).1), ckE ((tot (numA [n]) 0).1 + (numA [n] 0).1)) else (0, (numA [n] 0).2)) else tot (numA [n]) 0) = _
    have e0 : tot (numA [n]) 0 = (0, 0) := rfl
    have e1 : numA [n] 0 = (ckV (absI n), ckE (absI n)) := rfl
    rw [e0, e1]
    simp only [Int.zero_add, if_true]
    by_cases h : I64 (absI n)
    · rw [ckE_in h, ckV_in h, ckV_in h, ckE_in h]
      simp
    · rw [ckE_out h, ckV_out h]
      simp
  have h1 : ¬ 4096 < [n].length := by simp
  exact ⟨by unfold sizeE; rw [if_neg h1]; show (tot (numA [n]) 1).2 = _; rw [e], by unfold sizeV; rw [if_neg h1]; show (tot (numA [n]) 1).1 = _; rw [e]⟩
/-- vec.Size of one number. -/
theorem size_any1 (n : Int) (hn : I64 n) (w : World) :
    Calls Tryz.prog 32 #[.slice (some ⟨w.heap.size, 0, none⟩) 1 1] (w.alloc (.cells #[.int .i64 n] 2)) fun e w' => e = .returned (.tuple #[.int .i64 (ckV (absI n)), .int .i64 (ckE (absI n))]) ∧ Below w.heap.size w w' := by
  have h := Size_any (A := some ⟨w.heap.size, 0, none⟩) (c := 1) [n] (by simp) (by intro x hx; simp at hx; rw [hx]; exact hn) (w.alloc (.cells #[.int .i64 n] 2)) (rd_new (enc := Value.int .i64) w 2 [n])
  rw [(size_one n).1, (size_one n).2] at h
  refine h.mono ?_
  rintro _ w1 ⟨rfl, hb⟩
  exact ⟨rfl, Below.trans (by go_grown) (hb.mono (by simp))⟩
theorem abs_sz (n : Int) : absI n = (szN n : Int) := by unfold absI szN; split <;> omega
theorem lvlE_no {n scale wide : Int} (h : ¬ lvlE n scale wide = 0) : lvlE n scale wide = 1 ∧ lvlL n scale wide = 0 ∧ lvlR n scale wide = 0 := by
  refine ⟨?_, if_neg h, if_neg h⟩
  unfold lvlE at h ⊢
  split at h <;> simp_all
set_option maxHeartbeats 1000000 in
theorem qp_Level (n scale wide : Int) (hn : I64 n) (hs : I64 scale) (hw : I64 wide) (w : World) :
    Calls Tryz.prog 206 #[.int .i64 n, .int .i64 scale, .int .i64 wide] w fun e w' => e = .returned (.tuple #[.int .u64 (lvlL n scale wide : Int), .int .u64 (lvlR n scale wide : Int), .int .i64 (lvlE n scale wide)]) ∧ Below w.heap.size w w' := by
  have C1 := hid (qp_topBy scale wide hs hw w)
  by_cases ht : tpE scale wide = 0
  · have C2 := hid (size_any1 n hn w)
    obtain ⟨h1, h2⟩ := tpE_ok.1 ht
    rw [ht, show tpV scale wide = topQ wide from if_pos ht] at C1
    obtain ⟨t1, t2⟩ := topQ_bd h2
    unfold I64 at hs
    by_cases hl : I64 (absI n)
    · rw [ckE_in hl, ckV_in hl, abs_sz] at C2
      rw [abs_sz] at hl
      unfold I64 at hl
      by_cases h : lvlE n scale wide = 0
      · obtain ⟨_, _, h3⟩ := lvlE_ok.1 h
        have e1 : lvlL n scale wide = szN n * topQ wide / scale.toNat := if_pos h
        have e2 : lvlR n scale wide = szN n * topQ wide % scale.toNat := if_pos h
        rw [h, e1, e2]
        obtain ⟨s, rfl⟩ := Int.eq_ofNat_of_zero_le h1
        rw [Int.toNat_natCast]
        obtain ⟨z, hz⟩ : ∃ z, szN n = z := ⟨_, rfl⟩
        obtain ⟨t, htt⟩ : ∃ t, topQ wide = t := ⟨_, rfl⟩
        rw [hz] at C2 h3 hl ⊢
        rw [htt] at C1 t1 t2 ⊢
        clear e1 e2 h h2 hz htt ht
        by_cases h0 : s = 0
        · subst h0
          obtain rfl : z = 0 := by omega
          rw [show 0 * t / 0 = 0 by simp, show 0 * t % 0 = 0 by simp]
          go_enter Tryz.func206, Tryz.ntmps206
          go_wp2_with fail
          refine C1.out.mono ?_
          rintro _ _ ⟨rfl, rfl⟩
          go_wp2_with fail
          refine C2.out.mono ?_
          rintro _ w1 ⟨rfl, hb⟩
          go_wp2_with fail
          go_ret3
          exact ⟨rfl, hb⟩
        · have CS := hid (fun W => qp_share z t s (by omega) (by omega) (by omega) (by omega) W)
          obtain ⟨D, hD⟩ : ∃ D, z * t / s = D := ⟨_, rfl⟩
          obtain ⟨R, hR⟩ : ∃ R, z * t % s = R := ⟨_, rfl⟩
          rw [hD, hR] at CS ⊢
          have n1 : ((s : Int) == 0) = false := beq_eq_false_iff_ne.2 (by omega)
          have n2 : ¬ (z : Int) > (s : Int) := by omega
          clear hD hR
          go_enter Tryz.func206, Tryz.ntmps206
          go_wp2_with fail
          refine C1.out.mono ?_
          rintro _ _ ⟨rfl, rfl⟩
          go_wp2_with fail
          refine C2.out.mono ?_
          rintro _ w1 ⟨rfl, hb⟩
          go_wp2_with fail
          refine (CS.out _).mono ?_
          rintro _ _ ⟨rfl, k, rfl⟩
          go_wp2_with fail
          go_ret3
          exact ⟨rfl, hb.trans (belowN _ _ _)⟩
      · obtain ⟨e1, e2, e3⟩ := lvlE_no h
        have h3 : (szN n : Int) > scale := by
          have : ¬ (stsE wide = 0 ∧ 0 ≤ scale ∧ (szN n : Int) ≤ scale) := fun h5 => h (lvlE_ok.2 h5)
          omega
        rw [e1, e2, e3]
        obtain ⟨z, hz⟩ : ∃ z, szN n = z := ⟨_, rfl⟩
        obtain ⟨t, htt⟩ : ∃ t, topQ wide = t := ⟨_, rfl⟩
        rw [hz] at C2 h3 hl
        rw [htt] at C1 t1 t2
        clear e1 e2 e3 h h2 hz htt ht
        go_enter Tryz.func206, Tryz.ntmps206
        go_wp2_with fail
        refine C1.out.mono ?_
        rintro _ _ ⟨rfl, rfl⟩
        go_wp2_with fail
        refine C2.out.mono ?_
        rintro _ w1 ⟨rfl, hb⟩
        go_wp2_with fail
        go_ret3
        exact ⟨rfl, hb⟩
    · rw [ckE_out hl, ckV_out hl] at C2
      obtain ⟨e1, e2, e3⟩ := lvlE_no (n := n) (scale := scale) (wide := wide) (fun h => by
        have h5 := (lvlE_ok.1 h).2.2
        rw [abs_sz] at hl
        unfold I64 at hl
        omega)
      rw [e1, e2, e3]
      obtain ⟨t, htt⟩ : ∃ t, topQ wide = t := ⟨_, rfl⟩
      rw [htt] at C1 t1 t2
      clear e1 e2 e3 h2 htt ht hl
      go_enter Tryz.func206, Tryz.ntmps206
      go_wp2_with fail
      refine C1.out.mono ?_
      rintro _ _ ⟨rfl, rfl⟩
      go_wp2_with fail
      refine C2.out.mono ?_
      rintro _ w1 ⟨rfl, hb⟩
      go_wp2_with fail
      go_ret3
      exact ⟨rfl, hb⟩
  · obtain ⟨a, b⟩ := tpE_no ht
    rw [a, b] at C1
    obtain ⟨e1, e2, e3⟩ := lvlE_no (n := n) (scale := scale) (wide := wide) (fun h => by
      have h5 := lvlE_ok.1 h
      exact ht (tpE_ok.2 ⟨h5.2.1, h5.1⟩))
    rw [e1, e2, e3]
    clear e1 e2 e3 a b ht
    go_enter Tryz.func206, Tryz.ntmps206
    go_wp2_with fail
    refine C1.out.mono ?_
    rintro _ _ ⟨rfl, rfl⟩
    go_wp2_with fail
    go_ret3
    exact ⟨rfl, Below.refl _ _⟩
theorem qp_levelOf (n scale wide : Int) (hn : I64 n) (hs : I64 scale) (hw : I64 wide) (w : World) :
    Calls Tryz.prog 168 #[.int .i64 n, .int .i64 scale, .int .i64 wide] w fun e w' => e = .returned (.tuple #[.int .u64 (lvlL n scale wide : Int), .int .u64 (lvlR n scale wide : Int)]) ∧ Below w.heap.size w w' := by
  have C1 := hid (qp_Level n scale wide hn hs hw w)
  obtain ⟨l, hl⟩ : ∃ l, lvlL n scale wide = l := ⟨_, rfl⟩
  obtain ⟨r, hr⟩ : ∃ r, lvlR n scale wide = r := ⟨_, rfl⟩
  obtain ⟨e, he⟩ : ∃ e, lvlE n scale wide = e := ⟨_, rfl⟩
  rw [hl, hr, he] at C1
  rw [hl, hr]
  clear hl hr he
  go_enter Tryz.func168, Tryz.ntmps168
  go_wp2_with fail
  refine C1.out.mono ?_
  rintro _ w1 ⟨rfl, hb⟩
  go_wp2_with fail
  go_ret2
  exact ⟨rfl, hb⟩
theorem valE_no {level : Nat} {scale wide : Int} (h : ¬ valE level scale wide = 0) : valE level scale wide = 1 ∧ valV level scale wide = 0 := by
  refine ⟨?_, if_neg h⟩
  unfold valE at h ⊢
  split at h <;> simp_all
theorem qp_Value (level : Nat) (scale wide : Int) (hl : level < 18446744073709551616) (hs : I64 scale) (hw : I64 wide) (w : World) :
    Calls Tryz.prog 123 #[.int .u64 (level : Int), .int .i64 scale, .int .i64 wide] w fun e w' => e = .returned (.tuple #[.int .i64 (valV level scale wide : Int), .int .i64 (valE level scale wide)]) ∧ ∃ n, w' = w.drewN n := by
  have C1 := hid (qp_topBy scale wide hs hw w)
  by_cases ht : tpE scale wide = 0
  · obtain ⟨h1, h2⟩ := tpE_ok.1 ht
    rw [ht, show tpV scale wide = topQ wide from if_pos ht] at C1
    obtain ⟨t1, t2⟩ := topQ_bd h2
    unfold I64 at hs
    by_cases h : valE level scale wide = 0
    · obtain ⟨_, _, h3⟩ := valE_ok.1 h
      have e1 : valV level scale wide = level * scale.toNat / topQ wide := if_pos h
      rw [h, e1]
      obtain ⟨s, rfl⟩ := Int.eq_ofNat_of_zero_le h1
      rw [Int.toNat_natCast]
      have hle := vlQ_le (s := s) h3
      unfold vlQ at hle
      obtain ⟨t, htt⟩ : ∃ t, topQ wide = t := ⟨_, rfl⟩
      rw [htt] at C1 t1 t2 h3 hle ⊢
      clear e1 h h2 htt ht
      have CS := hid (fun W => qp_share level s t (by omega) (by omega) (by omega) (by omega) W)
      obtain ⟨D, hD⟩ : ∃ D, level * s / t = D := ⟨_, rfl⟩
      obtain ⟨R, hR⟩ : ∃ R, level * s % t = R := ⟨_, rfl⟩
      rw [hD, hR] at CS
      rw [hD] at hle ⊢
      have n2 : ¬ (level : Int) > (t : Int) := by omega
      clear hD hR
      go_enter Tryz.func123, Tryz.ntmps123
      go_wp2_with fail
      refine C1.out.mono ?_
      rintro _ _ ⟨rfl, rfl⟩
      go_wp2_with fail
      refine (CS.out _).mono ?_
      rintro _ _ ⟨rfl, k, rfl⟩
      go_wp2_with fail
      go_ret2
      exact ⟨by go_num, k, rfl⟩
    · obtain ⟨e1, e2⟩ := valE_no h
      have h3 : (level : Int) > (topQ wide : Int) := by
        have : ¬ (stsE wide = 0 ∧ 0 ≤ scale ∧ level ≤ topQ wide) := fun h5 => h (valE_ok.2 h5)
        omega
      rw [e1, e2]
      obtain ⟨t, htt⟩ : ∃ t, topQ wide = t := ⟨_, rfl⟩
      rw [htt] at C1 t1 t2 h3
      clear e1 e2 h h2 htt ht
      go_enter Tryz.func123, Tryz.ntmps123
      go_wp2_with fail
      refine C1.out.mono ?_
      rintro _ _ ⟨rfl, rfl⟩
      go_wp2_with fail
      go_ret2
      exact ⟨rfl, 0, rfl⟩
  · obtain ⟨a, b⟩ := tpE_no ht
    rw [a, b] at C1
    obtain ⟨e1, e2⟩ := valE_no (level := level) (scale := scale) (wide := wide) (fun h => by
      have h5 := valE_ok.1 h
      exact ht (tpE_ok.2 ⟨h5.2.1, h5.1⟩))
    rw [e1, e2]
    clear e1 e2 a b ht
    go_enter Tryz.func123, Tryz.ntmps123
    go_wp2_with fail
    refine C1.out.mono ?_
    rintro _ _ ⟨rfl, rfl⟩
    go_wp2_with fail
    go_ret2
    exact ⟨rfl, 0, rfl⟩
end Go.Proofs.YtecgbelgoomneaaGreat
/- Orders, by the program. -/
namespace Go.Proofs.YtecgbelgoomneaaGreat
open Go.RowKit
set_option maxHeartbeats 400000
set_option maxRecDepth 100000
set_option linter.unusedVariables false
theorem Clone_ints {A : Option Addr} {c : Nat} (xs : List Int) (hx : xs.length ≤ 4096) (w : World) {B : Nat} (ra : Rd (Value.int .i64) w B A xs) :
    Calls Tryz.prog 203 #[.slice A xs.length c] w (OwnOf 3 .i64 w.heap.size xs w) := by
  rcases A with _ | ad
  · have hxs : xs = [] := by
      cases xs with
      | nil => rfl
      | cons x xs =>
        obtain ⟨_, _, he, _⟩ := ra 0 x rfl
        cases he
    subst hxs
    refine (Tryz.slices_Clone_int_nil 0 c w).mono ?_
    rintro _ _ ⟨rfl, rfl⟩
    exact ⟨none, 0, rfl, own_nil _ _ _, Below.refl _ _⟩
  · cases xs with
    | nil =>
      refine (Tryz.slices_Clone_int_zero ad c w).mono ?_
      rintro _ _ ⟨v, rfl, ho, _, hb⟩
      obtain ⟨A', c', rfl⟩ := own_shape ho
      exact ⟨A', c', rfl, ho, hb⟩
    | cons x xs =>
      obtain ⟨b, off, ha, _, _⟩ := ra 0 x rfl
      injection ha with ha
      subst ha
      refine (Tryz.slices_Clone_int b off (x :: xs).length c (x :: xs) w (Nat.le_refl _) (by omega) (fun i hi => ?_)).mono ?_
      · obtain ⟨b', off', y, ha, _, hy, hc⟩ := ra.at_ hi
        injection ha with ha
        injection ha with h1 h2 h3
        subst h1 h2
        rw [hc]
        simp [List.getD, hy]
      · rintro _ _ ⟨v, rfl, ho, _, hb⟩
        obtain ⟨A', c', rfl⟩ := own_shape ho
        rw [List.take_of_length_le (Nat.le_refl _)] at ho
        exact ⟨A', c', rfl, ho, hb⟩
end Go.Proofs.YtecgbelgoomneaaGreat
/- Up or down by chance, by the program: the closure and what it keeps. -/
namespace Go.Proofs.YtecgbelgoomneaaGreat
open Go.RowKit
set_option maxHeartbeats 1000000
set_option maxRecDepth 100000
set_option linter.unusedVariables false
theorem row_below {w w' : World} {b B n : Nat} {t : TypeId} {f : Nat → Value} (h : w.rowIs b t n f) (hb : Below B w w') (hB : b < B) : w'.rowIs b t n f := h.of_block (hb.block b hB)
/-- What the closure keeps: the scale, the seed, the numbers, and a list of its own with room for a place behind them. -/
def ChK (w : World) (q g b c9 : Nat) (M s : Nat) (B : Option Addr) (d : Nat) (n : List Int) : Prop :=
  q + 3 ≤ g ∧ g < b ∧ b < w.heap.size ∧ w.cell? ⟨q, 0, none⟩ = some (.int .u64 (M : Int)) ∧ w.cell? ⟨q + 1, 0, none⟩ = some (.int .u64 (s : Int)) ∧
  w.cell? ⟨q + 2, 0, none⟩ = some (.slice B n.length d) ∧ w.cell? ⟨b, 0, none⟩ = some (.slice (some ⟨g, 0, none⟩) (n.length + 1) c9) ∧
  ∃ x : Int, w.ownsRow (q + 3) 3 1 (.slice (some ⟨g, 0, none⟩) (n.length + 1) c9) (n.length + 1) ((n ++ [x]).map (Value.int .i64))
theorem ChK.below {w w' : World} {q g b c9 M s d L : Nat} {B : Option Addr} {n : List Int} (h : ChK w q g b c9 M s B d n) (hb : Below L w w') (hL : b < L) (hLw : L ≤ w.heap.size) : ChK w' q g b c9 M s B d n := by
  obtain ⟨h1, h2, h3, e1, e2, e3, e4, x, ho⟩ := h
  refine ⟨h1, h2, Nat.lt_of_lt_of_le h3 hb.size, ?_, ?_, ?_, ?_, x, ?_⟩
  · rw [hb.cell (p := ⟨q, 0, none⟩) (by show q < L; omega)]; exact e1
  · rw [hb.cell (p := ⟨q + 1, 0, none⟩) (by show q + 1 < L; omega)]; exact e2
  · rw [hb.cell (p := ⟨q + 2, 0, none⟩) (by show q + 2 < L; omega)]; exact e3
  · rw [hb.cell (p := ⟨b, 0, none⟩) (by show b < L; omega)]; exact e4
  · refine ⟨ho.1, ?_⟩
    rcases ho.2 with ⟨h', _⟩ | ⟨g', cap', cur, h', hg, hc, r⟩
    · simp at h'
    · refine .inr ⟨g', cap', cur, h', hg, ?_, r⟩
      simp only [Value.slice.injEq, Option.some.injEq, Addr.mk.injEq, and_true, true_and] at h'
      rw [hb.block g' (by omega)]
      exact hc
theorem ChK.set {w : World} {q g b c9 M s d : Nat} {B : Option Addr} {n : List Int} (h : ChK w q g b c9 M s B d n) {p : Addr} (hp : p.block < q) (u : Value) : ChK (w.setCell p u) q g b c9 M s B d n := by
  obtain ⟨h1, h2, h3, e1, e2, e3, e4, x, ho⟩ := h
  have hc : ∀ a : Addr, p.block ≠ a.block → (w.setCell p u).cell? a = w.cell? a := fun a ha => by
    unfold World.cell?
    rw [heap_setCell_other _ _ _ _ (fun e => ha e.symm)]
  refine ⟨h1, h2, by simpa using h3, ?_, ?_, ?_, ?_, x, own_set ho (by omega) u⟩
  · rw [hc _ (by show p.block ≠ q; omega)]; exact e1
  · rw [hc _ (by show p.block ≠ q + 1; omega)]; exact e2
  · rw [hc _ (by show p.block ≠ q + 2; omega)]; exact e3
  · rw [hc _ (by show p.block ≠ b; omega)]; exact e4
theorem chance_cl {q g b c9 M s d : Nat} {B : Option Addr} {n : List Int} (i r : Nat) (hi : i ≤ 100000) (hr : r < 2 ^ 64) (hM : M < 2 ^ 64) (hs : s < 2 ^ 64) (un : ∀ x ∈ n, I64 x) (hn : n.length ≤ 1000) (w : World) (K : ChK w q g b c9 M s B d n) :
    Calls Tryz.prog 204 (#[.int .i64 (i : Int), .int .u64 (r : Int)] ++ #[.pointer (some ⟨b, 0, none⟩), .pointer (some ⟨q + 2, 0, none⟩), .pointer (some ⟨q, 0, none⟩), .pointer (some ⟨q + 1, 0, none⟩)]) w fun e w' => e = .returned (.bool (chaB r M s (n ++ [(i : Int)]))) ∧ ChK w' q g b c9 M s B d n ∧ Below q w w' := by
  obtain ⟨h1, h2, h3, e1, e2, e3, e4, x, ho⟩ := K
  have hlen : (n ++ [x]).length = n.length + 1 := by simp
  have c1 : ∃ v, w.cell? ⟨g, n.length, none⟩ = some v := ⟨.int .i64 x, by rw [ho.cellAt n.length (by omega)]; simp⟩
  obtain ⟨v0, c1⟩ := c1
  have f1 := ho.frozenAt n.length
  have hst := ho.stored n.length (.int .i64 (i : Int))
  rw [show ((n ++ [x]).map (Value.int .i64)).set n.length (.int .i64 (i : Int)) = (n ++ [(i : Int)]).map (Value.int .i64) by simp] at hst
  obtain ⟨W, hW⟩ : ∃ W, w.setCell ⟨g, n.length, none⟩ (.int .i64 (i : Int)) = W := ⟨_, rfl⟩
  have hc : ∀ a : Addr, g ≠ a.block → W.cell? a = w.cell? a := fun a ha => by
    rw [← hW]
    unfold World.cell?
    rw [heap_setCell_other _ _ _ _ (fun e => ha e.symm)]
  have hsz : W.heap.size = w.heap.size := by rw [← hW]; simp
  have E1 : W.cell? ⟨q, 0, none⟩ = some (.int .u64 (M : Int)) := by rw [hc _ (by show g ≠ q; omega)]; exact e1
  have E2 : W.cell? ⟨q + 1, 0, none⟩ = some (.int .u64 (s : Int)) := by rw [hc _ (by show g ≠ q + 1; omega)]; exact e2
  have E3 : W.cell? ⟨q + 2, 0, none⟩ = some (.slice B n.length d) := by rw [hc _ (by show g ≠ q + 2; omega)]; exact e3
  have E4 : W.cell? ⟨b, 0, none⟩ = some (.slice (some ⟨g, 0, none⟩) (n.length + 1) c9) := by rw [hc _ (by show g ≠ b; omega)]; exact e4
  rw [hW] at hst
  have KW : Hid (ChK W q g b c9 M s B d n) := hid ⟨h1, h2, by omega, E1, E2, E3, E4, (i : Int), hst.1⟩
  have HBW : Hid (Below q w W) := hid (by rw [← hW]; exact (Below.refl q w).setCell (by show q ≤ g; omega) _)
  have hl2 : (n ++ [(i : Int)]).length = n.length + 1 := by simp
  have hrd := own_rd (show W.ownsRow (q + 3) 3 1 (.slice (some ⟨g, 0, none⟩) (n ++ [(i : Int)]).length c9) (n ++ [(i : Int)]).length ((n ++ [(i : Int)]).map (Value.int .i64)) by rw [hl2]; exact hst.1)
  have CC := hid (dr_Chance (A := some ⟨g, 0, none⟩) (c := c9) r M s hr hM hs (n ++ [(i : Int)]) (by simp; omega) (by
    intro y hy
    rcases List.mem_append.1 hy with hy | hy
    · exact un y hy
    · simp at hy; subst hy; unfold I64; omega) W hrd)
  rw [show (n ++ [(i : Int)]).length = n.length + 1 by simp] at CC
  obtain ⟨X, hX⟩ : ∃ X, chaB r M s (n ++ [(i : Int)]) = X := ⟨_, rfl⟩
  obtain ⟨Y, hY⟩ : ∃ Y, chaE r M = Y := ⟨_, rfl⟩
  rw [hX, hY] at CC
  rw [hX]
  obtain ⟨m, hm⟩ : ∃ m, n.length = m := ⟨_, rfl⟩
  rw [hm] at e3 e4 E3 E4 CC c1 f1 hW hn
  clear ho hst hrd hc hlen hl2 hsz hX hY un hm
  go_enter Tryz.func204, Tryz.ntmps204
  go_wp2_with fail
  refine CC.out.mono ?_
  rintro _ _ ⟨rfl, rfl⟩
  go_wp2_with fail
  go_ret
  exact ⟨rfl, KW.out, HBW.out⟩
theorem qp_chance {B : Option Addr} {d : Nat} (M s : Nat) (n : List Int) (hn : n.length ≤ 1000) (w : World) (rb : Rd (Value.int .i64) w w.heap.size B n) :
    Calls Tryz.prog 167 #[.int .u64 (M : Int), .int .u64 (s : Int), .slice B n.length d] w fun e w' => ∃ g b c9, e = .returned (.func (.func 204) #[] #[.pointer (some ⟨b, 0, none⟩), .pointer (some ⟨w.heap.size + 2, 0, none⟩), .pointer (some ⟨w.heap.size, 0, none⟩), .pointer (some ⟨w.heap.size + 1, 0, none⟩)]) ∧ ChK w' w.heap.size g b c9 M s B d n ∧ Below w.heap.size w w' := by
  obtain ⟨w3, hw3⟩ : ∃ w3, ((w.alloc (.cells #[.int .u64 (M : Int)] 25)).alloc (.cells #[.int .u64 (s : Int)] 25)).alloc (.cells #[.slice B n.length d] 26) = w3 := ⟨_, rfl⟩
  have T := three_cells w (.int .u64 (M : Int)) (.int .u64 (s : Int)) (.slice B n.length d) 25 25 26
  rw [hw3] at T
  obtain ⟨t1, t2, t3, tb⟩ := T
  have hsz : w3.heap.size = w.heap.size + 3 := by rw [← hw3]; simp
  have CC := hid (Clone_ints (c := d) n (by omega) w3 (rb.below tb))
  have HT := hid (show w3.cell? ⟨w.heap.size, 0, none⟩ = some (.int .u64 (M : Int)) ∧ w3.cell? ⟨w.heap.size + 1, 0, none⟩ = some (.int .u64 (s : Int)) ∧ w3.cell? ⟨w.heap.size + 2, 0, none⟩ = some (.slice B n.length d) ∧ Below w.heap.size w w3 from ⟨t1, t2, t3, tb⟩)
  have HSZ := hid hsz
  clear t1 t2 tb rb hsz
  go_enter Tryz.func167, Tryz.ntmps167
  go_wp2_with fail
  refine CC.out.mono ?_
  rintro _ w4 ⟨A4, c4, rfl, ho4, hb4⟩
  have g5 : Below w4.heap.size w4 (w4.alloc (.cells #[.int .i64 0] 3)) := (Below.refl _ _).alloc (Nat.le_refl _) _
  have ho4a := own_on ho4 g5
  have rm : Rd (Value.int .i64) (w4.alloc (.cells #[.int .i64 0] 3)) _ (some ⟨w4.heap.size, 0, none⟩) [0] := rd_one (one_cell w4 (.int .i64 0) 3).1
  have hz4 := hb4.size
  have hz5 := g5.size
  have hb4a := hb4.trans (g5.mono hz4)
  clear ho4 g5 hb4 CC
  go_wp2_with (at_builtin; refine wpList_app (Value.int .i64) (fun _ => rfl) _ rfl _ _ 26 rfl w3.heap.size 3 (.int .i64 0) 8 Tryz.underlying26 info_int rfl n A4 c4 rfl ho4a [0] (some ⟨w4.heap.size, 0, none⟩) 1 _ rfl rm (by simp [maxLen]; omega) (by simp; omega) (by omega) ?_)
  rintro Q A9 c9 w5 hQ ho5 hb5 _
  have hl : Q.length = n.length + 1 := by rw [hQ]; simp
  have hk5 := hb4a.trans hb5
  obtain ⟨g, rfl, hg1, _, _⟩ := own_cellk ho5 (k := 0) (by omega)
  have hg2 := (ho5.lt g rfl).2
  rw [hl, hQ] at ho5
  rw [hl]
  have HK := hid hk5
  have HO := hid ho5
  have hs5 := hk5.size
  clear hQ hb5 hk5 ho5 rm ho4a hb4a
  go_wp2_with fail
  go_ret
  have hsz := HSZ.out
  have hk6 := HT.out.2.2.2.trans ((HK.out.mono (by omega)).alloc (show w.heap.size ≤ w5.heap.size by omega) (.cells #[.slice (some ⟨g, 0, none⟩) (n.length + 1) c9] 26))
  have hk7 := HK.out.trans ((Below.refl w3.heap.size w5).alloc hs5 (.cells #[.slice (some ⟨g, 0, none⟩) (n.length + 1) c9] 26))
  have e1 := HT.out.1
  have e2 := HT.out.2.1
  have e3 := HT.out.2.2.1
  refine ⟨g, w5.heap.size, c9, rfl, ⟨by omega, hg2, by simp, ?_, ?_, ?_, (one_cell w5 _ _).1, 0, ?_⟩, hk6⟩
  · rw [hk7.cell (p := ⟨w.heap.size, 0, none⟩) (by show w.heap.size < _; omega)]; exact e1
  · rw [hk7.cell (p := ⟨w.heap.size + 1, 0, none⟩) (by show w.heap.size + 1 < _; omega)]; exact e2
  · rw [hk7.cell (p := ⟨w.heap.size + 2, 0, none⟩) (by show w.heap.size + 2 < _; omega)]; exact e3
  · rw [hsz] at HO
    exact own_on HO.out ((Below.refl _ _).alloc (Nat.le_refl _) _)
end Go.Proofs.YtecgbelgoomneaaGreat
/- Votes of signs, and how many turn. Plain mathematics. No program in sight. -/
/- Lists of lists of bools in memory, by their slices. -/
namespace Go.Proofs.YtecgbelgoomneaaGreat
open Go.RowKit
set_option maxRecDepth 100000
set_option linter.unusedVariables false
/-- A slice of slices at A reads as these lists of bools. -/
def RdBs (w : World) (B : Nat) (A : Option Addr) (rows : List (List Bool)) : Prop :=
  ∀ k xs, rows[k]? = some xs → ∃ b off A' c', A = some ⟨b, off, none⟩ ∧ b < B ∧ w.cell? ⟨b, off + k, none⟩ = some (.slice A' xs.length c') ∧ Rd Value.bool w B A' xs
theorem RdBs.below {w w' : World} {B : Nat} {A : Option Addr} {rows : List (List Bool)} (h : RdBs w B A rows) (hb : Below B w w') : RdBs w' B A rows := fun k xs hx => by
  obtain ⟨b, off, A', c', e, hl, hc, hr⟩ := h k xs hx
  exact ⟨b, off, A', c', e, hl, (hb.cell (p := ⟨b, off + k, none⟩) hl).trans hc, hr.below hb⟩
theorem RdBs.more {w : World} {B B' : Nat} {A : Option Addr} {rows : List (List Bool)} (h : RdBs w B A rows) (hB : B ≤ B') : RdBs w B' A rows := fun k xs hx => by
  obtain ⟨b, off, A', c', e, hl, hc, hr⟩ := h k xs hx
  exact ⟨b, off, A', c', e, by omega, hc, hr.more hB⟩
theorem RdBs.on {w w' : World} {A : Option Addr} {rows : List (List Bool)} (h : RdBs w w.heap.size A rows) (hb : Below w.heap.size w w') : RdBs w' w'.heap.size A rows := (h.below hb).more hb.size
theorem RdBs.nil (w : World) (B : Nat) (A : Option Addr) : RdBs w B A [] := fun k xs hx => by simp at hx
/-- One at hand, in a round. -/
theorem RdBs.at_ {w : World} {B : Nat} {A : Option Addr} {rows : List (List Bool)} (h : RdBs w B A rows) {k : Nat} (hk : k < rows.length) :
    ∃ b off A' c' xs, A = some ⟨b, off, none⟩ ∧ b < B ∧ rows[k]? = some xs ∧ w.cell? ⟨b, off + k, none⟩ = some (.slice A' xs.length c') ∧ Rd Value.bool w B A' xs := by
  have hx : rows[k]? = some rows[k] := List.getElem?_eq_getElem hk
  obtain ⟨b, off, A', c', e, hl, hc, hr⟩ := h k _ hx
  exact ⟨b, off, A', c', _, e, hl, hx, hc, hr⟩
end Go.Proofs.YtecgbelgoomneaaGreat
/- Whether lists of signs fit; what most say; at how many places two differ: by the document. -/
/- A region that draws, walked once. -/
namespace Go.Proofs.YtecgbelgoomneaaGreat
open Go.RowKit
set_option maxRecDepth 100000
set_option linter.unusedVariables false
/-- A region that draws, walked once, in a class of worlds of one's own. -/
theorem region_in {P : Program} {C : World → Prop} {id : Nat} {Q : Exit → Act → World → Prop} {a : Act} {w : World} {l : List Oper} (hm : P.follows .mixedOrders = true) (hB : Region.lexB .any l.toArray = true) (hC : C w.drew)
    (h : wpQuiet P l.toArray C (fun a' => ∀ w', C w' → Q .normal a' w') l a) : (Code.region id l.toArray true).wp P Q a w :=
  wp_region_quiet hm hB hC (by simpa using h)
end Go.Proofs.YtecgbelgoomneaaGreat
/- Sums: a register halved, a byte taken in, by the program and by the document. -/
namespace Go.Proofs.YtecgbelgoomneaaGreat
open Go.RowKit
set_option maxHeartbeats 400000
set_option maxRecDepth 100000
set_option linter.unusedVariables false
theorem xor_nat {k : IntKind} {n : Nat} (hn : k.bits = n) (hw : ∀ m : Nat, m < 2 ^ n → k.wrap (m : Int) = m) {a b : Nat} (ha : a < 2 ^ n) (hb : b < 2 ^ n) : bits BinOp.xor k (a : Int) (b : Int) = ((a ^^^ b : Nat) : Int) := by
  show k.wrap ((BitVec.ofInt k.bits a ^^^ BitVec.ofInt k.bits b).toNat : Int) = _
  rw [BitVec.toNat_xor, BitVec.ofInt_natCast, BitVec.ofInt_natCast, BitVec.toNat_ofNat, BitVec.toNat_ofNat, hn, Nat.mod_eq_of_lt ha, Nat.mod_eq_of_lt hb]
  exact hw _ (Nat.xor_lt_two_pow ha hb)
theorem xor_u32 {a b : Nat} (ha : a < 2 ^ 32) (hb : b < 2 ^ 32) : bits BinOp.xor IntKind.u32 (a : Int) (b : Int) = ((a ^^^ b : Nat) : Int) :=
  xor_nat (n := 32) rfl (fun m h => by simp [IntKind.wrap, IntKind.bits, IntKind.signed]; omega) ha hb
theorem hs_odd {x : Nat} (hx : x < 2 ^ 32) (h : x % 2 = 1) : bits BinOp.xor IntKind.u32 ((x : Int) / 2) 3988292384 = ((hs x : Nat) : Int) := by
  rw [show ((x : Int) / 2) = ((x / 2 : Nat) : Int) by omega, show (3988292384 : Int) = ((tnr : Nat) : Int) from rfl, xor_u32 (by omega) (by decide)]
  unfold hs
  rw [if_pos h]
theorem hs_even {x : Nat} (h : x % 2 ≠ 1) : ((x : Int) / 2) = ((hs x : Nat) : Int) := by
  unfold hs
  rw [if_neg h]
  omega
theorem crc_halved (r : Nat) (hr : r < 2 ^ 32) (w : World) :
    Calls Tryz.prog 218 #[.int .u32 (r : Int)] w fun e w' => e = .returned (.int .u32 ((hn 8 r : Nat) : Int)) ∧ w = w' := by
  obtain ⟨R, hR⟩ : ∃ R, hn 8 r = R := ⟨_, rfl⟩
  rw [hR]
  have HR := hid hR
  clear hR
  go_enter Tryz.func218, Tryz.ntmps218
  go_wp2_with fail
  go_loop [0, 4] (fun s i => ∃ (k x : Nat), k ≤ 8 ∧ x < 2 ^ 32 ∧ i = .int .i64 k ∧ s = .int .u32 x ∧ hn (8 - k) x = R) (fun _ i => 8 - (intOf i).toNat)
  case atStart => exact ⟨0, r, by omega, hr, rfl, rfl, HR.out⟩
  case round =>
    obtain ⟨k, x, hk, hx, rfl, rfl, hs'⟩ := hrel
    have HS := hid hs'
    clear hs'
    by_cases hlt : k < 8
    · have HN : Hid (hn (8 - (k + 1)) (hs x) = R) := by
        have h := HS.out
        rw [show 8 - k = (8 - (k + 1)) + 1 by omega, hn] at h
        exact h
      by_cases h1 : x % 2 = 1
      · have e1 := hs_odd hx h1
        go_wp2_with fail
        go_round
        case rel => exact ⟨k + 1, hs x, by omega, hs_lt hx, by go_num, rfl, HN.out⟩
        case measure => simp [intOf]; omega
      · have e1 := hs_even h1
        go_wp2_with fail
        go_round
        case rel => exact ⟨k + 1, hs x, by omega, hs_lt hx, by go_num, rfl, HN.out⟩
        case measure => simp [intOf]; omega
    · obtain rfl : k = 8 := by omega
      have HN : Hid (x = R) := HS.out
      go_wp2_with fail
      go_ret
      rw [HN.out]
      exact ⟨rfl, rfl⟩
theorem not_u32 {s : Nat} (h : s < 2 ^ 32) : bits BinOp.xor IntKind.u32 IntKind.u32.max (s : Int) = ((inv s : Nat) : Int) := by
  rw [show IntKind.u32.max = ((4294967295 : Nat) : Int) from rfl, xor_u32 (by decide) h, inv_xor h, Nat.xor_comm]
theorem crc_More {A : Option Addr} {c : Nat} (s : Nat) (hs' : s < 2 ^ 32) (b : List Int) (hb : b.length ≤ 9223372036854775807) (ub : U8s b) (w : World) {B : Nat} (ra : Rd (Value.int .u8) w B A b) :
    Calls Tryz.prog 192 #[.int .u32 (s : Int), .slice A b.length c] w fun e w' => e = .returned (.int .u32 ((moreN s b : Nat) : Int)) ∧ w = w' := by
  obtain ⟨R, hR⟩ : ∃ R, moreN s b = R := ⟨_, rfl⟩
  rw [hR]
  have HR : Hid (inv (crcL (inv s) b) = R) := hR
  have hi := inv_lt s
  obtain ⟨v, hv⟩ : ∃ v, inv s = v := ⟨_, rfl⟩
  have HA := hid ra
  have UB := hid ub
  have e0 := not_u32 hs'
  rw [hv] at hi e0 HR
  have hsg : IntKind.u32.signed = false := rfl
  clear ra ub hv hR
  go_enter Tryz.func192, Tryz.ntmps192
  go_wp2_with fail
  clear e0
  go_loop [5, 12] (fun s i => ∃ (k x : Nat), k ≤ b.length ∧ x < 2 ^ 32 ∧ i = .int .i64 k ∧ s = .int .u32 x ∧ crcL v (b.take k) = x) (fun _ i => b.length - (intOf i).toNat)
  case atStart => exact ⟨0, v, by omega, hi, rfl, rfl, by rw [List.take_zero]; exact crcL_nil v⟩
  case round =>
    obtain ⟨k, x, hk, hx, rfl, rfl, hs'⟩ := hrel
    have HS := hid hs'
    clear hs'
    by_cases hlt : k < b.length
    · obtain ⟨b1, o1, y, rfl, l1, ex, c1⟩ := HA.out.at_ hlt
      obtain ⟨y0, y1⟩ := UB.out.at_ ex
      obtain ⟨y, rfl⟩ := Int.eq_ofNat_of_zero_le y0
      have e1 := xor_u32 (a := x) (b := y) hx (by omega)
      have hz : x ^^^ y < 2 ^ 32 := Nat.xor_lt_two_pow hx (by omega)
      have CH := hid (crc_halved (x ^^^ y) hz)
      have HN : Hid (crcL v (b.take (k + 1)) = crcB x y) := by
        have h := crcL_step v ex
        rw [HS.out] at h
        exact h
      have hc := crcB_lt (c := x) (x := y) hx (by omega)
      rw [show hn 8 (x ^^^ y) = crcB x y from rfl] at CH
      obtain ⟨z, hz'⟩ : ∃ z, x ^^^ y = z := ⟨_, rfl⟩
      rw [hz'] at e1 hz CH
      obtain ⟨N, hN⟩ : ∃ N, crcB x y = N := ⟨_, rfl⟩
      rw [hN] at CH HN hc
      clear ex hz' hN y0
      go_wp2_with fail
      refine (CH.out _).mono ?_
      rintro _ _ ⟨rfl, rfl⟩
      go_wp2_with fail
      go_round
      case rel => exact ⟨k + 1, N, by omega, hc, by go_num, rfl, HN.out⟩
      case measure => simp [intOf]; omega
    · have e1 := not_u32 hx
      have HN : Hid (inv x = R) := by
        have h := HS.out
        rw [List.take_of_length_le (by omega)] at h
        rw [← h]
        exact HR.out
      obtain ⟨N, hN⟩ : ∃ N, inv x = N := ⟨_, rfl⟩
      rw [hN] at e1 HN
      clear hN
      obtain rfl : k = b.length := by omega
      go_wp2_with fail
      go_ret
      rw [HN.out]
      exact ⟨rfl, rfl⟩
theorem crc_Sum {A : Option Addr} {c : Nat} (b : List Int) (hb : b.length ≤ 9223372036854775807) (ub : U8s b) (w : World) {B : Nat} (ra : Rd (Value.int .u8) w B A b) :
    Calls Tryz.prog 151 #[.slice A b.length c] w fun e w' => e = .returned (.int .u32 ((sumN b : Nat) : Int)) ∧ w = w' := by
  have CM := hid (crc_More (A := A) (c := c) 0 (by decide) b hb ub w ra)
  rw [show moreN 0 b = sumN b from rfl] at CM
  obtain ⟨R, hR⟩ : ∃ R, sumN b = R := ⟨_, rfl⟩
  rw [hR] at CM ⊢
  clear hR ra ub
  go_enter Tryz.func151, Tryz.ntmps151
  go_wp2_with fail
  refine CM.out.mono ?_
  rintro _ _ ⟨rfl, rfl⟩
  go_wp2_with fail
  go_ret
  exact ⟨rfl, rfl⟩
end Go.Proofs.YtecgbelgoomneaaGreat
/- A text with one bit turned, by the program and by the document. -/
namespace Go.Proofs.YtecgbelgoomneaaGreat
open Go.RowKit
set_option maxHeartbeats 400000
set_option maxRecDepth 100000
set_option linter.unusedVariables false
/-- A copy of bytes. -/
theorem clone_any {A : Option Addr} {c : Nat} (b : List Int) (hb : b.length ≤ 1000000) (w : World) {B : Nat} (ra : Rd (Value.int .u8) w B A b) :
    Calls Tryz.prog 113 #[.slice A b.length c] w (OwnOf 5 .u8 w.heap.size b w) := by
  cases A with
  | none =>
    have hx : b = [] := by
      cases b with
      | nil => rfl
      | cons x xs =>
        obtain ⟨_, _, he, _⟩ := ra 0 x rfl
        cases he
    subst hx
    refine (Tryz.bytes_Clone_nil 0 c w).mono ?_
    rintro _ _ ⟨rfl, rfl⟩
    exact ⟨none, 0, rfl, own_nil _ _ _, Below.refl _ _⟩
  | some a =>
    refine (Tryz.bytes_Clone_at a b.length c b w rfl (by omega) ?_).mono ?_
    · intro i hi
      obtain ⟨b1, o1, x, e, _, ex, hc⟩ := ra.at_ hi
      injection e with e
      subst e
      rw [Go.WideShapes.add_plain, hc, getD_of ex]
    · rintro _ w1 ⟨v, rfl, ho, _, hb⟩
      obtain ⟨A', c', rfl⟩ := own_shape ho
      exact ⟨A', c', rfl, ho, hb⟩
end Go.Proofs.YtecgbelgoomneaaGreat
/- A text's sum in bytes; a text and its sum. -/
namespace Go.Proofs.YtecgbelgoomneaaGreat
open Go.RowKit
set_option maxHeartbeats 400000
set_option maxRecDepth 100000
set_option linter.unusedVariables false
/-- The first k bytes of a sum, the others 0. -/
def tl (s k j : Nat) : Int := if j < k then ((s / 2 ^ (8 * j) % 256 : Nat) : Int) else 0
theorem tl_new (s k : Nat) : tl s (k + 1) k = ((s / 2 ^ (8 * k) % 256 : Nat) : Int) := by unfold tl; rw [if_pos (by omega)]
theorem tl_old {s k j : Nat} (h : j ≠ k) : tl s (k + 1) j = tl s k j := by
  unfold tl
  by_cases h1 : j < k
  · rw [if_pos h1, if_pos (by omega)]
  · rw [if_neg h1, if_neg (by omega)]
/-- Four bytes in a block. -/
def Four (w : World) (g : Nat) (f : Nat → Int) : Prop := ∀ j, j < 4 → w.cell? ⟨g, j, none⟩ = some (.int .u8 (f j)) ∧ w.frozen? ⟨g, j, none⟩ = false
theorem four_new (w : World) (t : TypeId) : Four (w.alloc (.cells #[.int .u8 0, .int .u8 0, .int .u8 0, .int .u8 0] t)) w.heap.size (fun _ => 0) := fun j hj => by
  match j, hj with
  | 0, _ => exact ⟨by simp [go_sem], by simp [go_sem]⟩
  | 1, _ => exact ⟨by simp [go_sem], by simp [go_sem]⟩
  | 2, _ => exact ⟨by simp [go_sem], by simp [go_sem]⟩
  | 3, _ => exact ⟨by simp [go_sem], by simp [go_sem]⟩
theorem Four.below {w w' : World} {g B : Nat} {f : Nat → Int} (h : Four w g f) (hb : Below B w w') (hg : g < B) : Four w' g f := fun j hj =>
  ⟨(hb.cell (p := ⟨g, j, none⟩) hg).trans (h j hj).1, (hb.frozen (p := ⟨g, j, none⟩) hg).trans (h j hj).2⟩
theorem Four.other {w : World} {g : Nat} {f : Nat → Int} (h : Four w g f) {p : Addr} (hp : p.block ≠ g) (v : Value) : Four (w.setCell p v) g f := fun j hj => by
  refine ⟨?_, ?_⟩
  · rw [World.cell?_setCell_other _ _ _ _ (by rintro rfl; exact hp rfl)]
    exact (h j hj).1
  · rw [World.frozen?_setCell]
    exact (h j hj).2
theorem Four.set {w : World} {g k s : Nat} (h : Four w g (tl s k)) (hk : k < 4) {u : Value} (hc : w.cell? ⟨g, k, none⟩ = some u) : Four (w.setCell ⟨g, k, none⟩ (.int .u8 (tl s (k + 1) k))) g (tl s (k + 1)) := fun j hj => by
  refine ⟨?_, ?_⟩
  · by_cases e : j = k
    · subst e
      exact World.cell?_setCell_same _ _ _ hc
    · rw [World.cell?_setCell_other _ _ _ _ (by intro e'; injection e' with e1 e2; exact e e2.symm), tl_old e]
      exact (h j hj).1
  · rw [World.frozen?_setCell]
    exact (h j hj).2
/-- Four bytes laid at once. -/
def lay4 (w : World) (g : Nat) (a b c d : Value) : World := (((w.setCell ⟨g, 0, none⟩ a).setCell ⟨g, 1, none⟩ b).setCell ⟨g, 2, none⟩ c).setCell ⟨g, 3, none⟩ d
theorem lay4_below {w w' : World} {g B : Nat} (h : Below B w w') (hg : B ≤ g) (a b c d : Value) : Below B w (lay4 w' g a b c d) :=
  (((h.setCell (p := ⟨g, 0, none⟩) hg _).setCell (p := ⟨g, 1, none⟩) hg _).setCell (p := ⟨g, 2, none⟩) hg _).setCell (p := ⟨g, 3, none⟩) hg _
theorem lay4_cells {w : World} {g : Nat} {f : Nat → Int} (h : Four w g f) (a b c d : Value) :
    (lay4 w g a b c d).cell? ⟨g, 0, none⟩ = some a ∧ (lay4 w g a b c d).cell? ⟨g, 1, none⟩ = some b ∧ (lay4 w g a b c d).cell? ⟨g, 2, none⟩ = some c ∧ (lay4 w g a b c d).cell? ⟨g, 3, none⟩ = some d := by
  have ne : ∀ {i j : Nat}, i ≠ j → (⟨g, i, none⟩ : Addr) ≠ ⟨g, j, none⟩ := fun hij e => by injection e with _ e; exact hij e
  have h0 := (h 0 (by omega)).1
  have h1 := (h 1 (by omega)).1
  have h2 := (h 2 (by omega)).1
  have h3 := (h 3 (by omega)).1
  have oth : ∀ (w : World) (i j : Nat) (v : Value), i ≠ j → (w.setCell ⟨g, i, none⟩ v).cell? ⟨g, j, none⟩ = w.cell? ⟨g, j, none⟩ := fun w i j v hij => World.cell?_setCell_other _ _ _ _ (ne hij)
  unfold lay4
  refine ⟨?_, ?_, ?_, ?_⟩
  · rw [oth _ 3 0 _ (by omega), oth _ 2 0 _ (by omega), oth _ 1 0 _ (by omega), World.cell?_setCell_same _ _ _ h0]
  · rw [oth _ 3 1 _ (by omega), oth _ 2 1 _ (by omega)]
    exact World.cell?_setCell_same _ _ _ ((oth _ 0 1 _ (by omega)).trans h1)
  · rw [oth _ 3 2 _ (by omega)]
    exact World.cell?_setCell_same _ _ _ ((oth _ 1 2 _ (by omega)).trans ((oth _ 0 2 _ (by omega)).trans h2))
  · exact World.cell?_setCell_same _ _ _ ((oth _ 2 3 _ (by omega)).trans ((oth _ 1 3 _ (by omega)).trans ((oth _ 0 3 _ (by omega)).trans h3)))
theorem crc_tail {A : Option Addr} {c : Nat} (b : List Int) (hb : b.length ≤ 1000000) (ub : U8s b) (w : World) (ra : Rd (Value.int .u8) w w.heap.size A b) :
    Calls Tryz.prog 111 #[.slice A b.length c] w fun e w' => e = .returned (.agg #[.int .u8 (tl (sumN b) 4 0), .int .u8 (tl (sumN b) 4 1), .int .u8 (tl (sumN b) 4 2), .int .u8 (tl (sumN b) 4 3)]) ∧ Below w.heap.size w w' := by
  have hs := sumN_lt b
  obtain ⟨w2, hw2⟩ : ∃ w2, (w.alloc (.cells #[.int .u8 0, .int .u8 0, .int .u8 0, .int .u8 0] 115)).alloc (.cells #[.int .u8 0, .int .u8 0, .int .u8 0, .int .u8 0] 115) = w2 := ⟨_, rfl⟩
  have hb2 : Below w.heap.size w w2 := by rw [← hw2]; go_grown
  have f2 : Four w2 (w.heap.size + 1) (fun _ => 0) := by
    rw [← hw2]
    have := four_new (w.alloc (.cells #[.int .u8 0, .int .u8 0, .int .u8 0, .int .u8 0] 115)) 115
    rwa [World.size_alloc] at this
  have f1 : Four w2 w.heap.size (fun _ => 0) := by
    rw [← hw2]
    exact (four_new w 115).below ((Below.refl _ _).alloc (Nat.le_refl _) _) (by simp)
  have CS := hid (crc_Sum (A := A) (c := c) b (by omega) ub w2 (ra.below hb2))
  obtain ⟨s, hs'⟩ : ∃ s, sumN b = s := ⟨_, rfl⟩
  rw [hs'] at CS hs ⊢
  clear hs' ra ub
  go_enter Tryz.func111, Tryz.ntmps111
  go_wp2_with fail
  refine CS.out.mono ?_
  rintro _ _ ⟨rfl, rfl⟩
  have F1 := hid f1
  have F2 := hid f2
  clear f1 f2 hw2
  go_wp2_with fail
  go_loopw [5, 8] (fun q i wr => ∃ (k : Nat), k ≤ 4 ∧ i = .int .i64 k ∧ Four wr (w.heap.size + 1) (tl s k) ∧ Four wr w.heap.size (fun _ => 0) ∧ Below w.heap.size w wr) (fun _ i _ => 4 - (intOf i).toNat)
  case atStart => exact ⟨0, by omega, rfl, F2.out, F1.out, hb2⟩
  case round =>
    obtain ⟨k, hk, rfl, g2, g1, hbr⟩ := hrel
    have G1 := hid g1
    have G2 := hid g2
    clear F1 F2
    by_cases hlt : k < 4
    · obtain ⟨hc, hf⟩ := g2 k hlt
      clear g1 g2
      go_wp2_with fail
      go_roundw
      case rel =>
        refine ⟨k + 1, by omega, by go_num, ?_, ?_, hbr.setCell (by simp) _⟩
        · have e1 : (s : Int) / 2 ^ (8 * k) % 256 = tl s (k + 1) k := by rw [tl_new, Int.natCast_emod, Int.natCast_ediv, Int.natCast_pow]; rfl
          rw [e1]
          exact G2.out.set hlt hc
        · exact G1.out.other (by simp) _
      case measure => simp [intOf]; omega
    · obtain rfl : k = 4 := by omega
      clear G2
      obtain ⟨a0, b0⟩ := g2 0 (by omega)
      obtain ⟨a1, b1⟩ := g2 1 (by omega)
      obtain ⟨a2, b2⟩ := g2 2 (by omega)
      obtain ⟨a3, b3⟩ := g2 3 (by omega)
      obtain ⟨c0, d0⟩ := g1 0 (by omega)
      obtain ⟨c1, d1⟩ := g1 1 (by omega)
      obtain ⟨c2, d2⟩ := g1 2 (by omega)
      obtain ⟨c3, d3⟩ := g1 3 (by omega)
      clear g1 g2
      go_wp2_with fail
      have K := lay4_cells G1.out (.int .u8 (tl s 4 0)) (.int .u8 (tl s 4 1)) (.int .u8 (tl s 4 2)) (.int .u8 (tl s 4 3))
      have KB := lay4_below hbr (Nat.le_refl _) (.int .u8 (tl s 4 0)) (.int .u8 (tl s 4 1)) (.int .u8 (tl s 4 2)) (.int .u8 (tl s 4 3))
      have hw5 : lay4 wr w.heap.size (.int .u8 (tl s 4 0)) (.int .u8 (tl s 4 1)) (.int .u8 (tl s 4 2)) (.int .u8 (tl s 4 3)) = (((wr.setCell ⟨w.heap.size, 0, none⟩ (.int .u8 (tl s 4 0))).setCell ⟨w.heap.size, 1, none⟩ (.int .u8 (tl s 4 1))).setCell ⟨w.heap.size, 2, none⟩ (.int .u8 (tl s 4 2))).setCell ⟨w.heap.size, 3, none⟩ (.int .u8 (tl s 4 3)) := rfl
      obtain ⟨w5, h5⟩ : ∃ w5, lay4 wr w.heap.size (.int .u8 (tl s 4 0)) (.int .u8 (tl s 4 1)) (.int .u8 (tl s 4 2)) (.int .u8 (tl s 4 3)) = w5 := ⟨_, rfl⟩
      rw [← hw5]
      rw [h5] at K KB ⊢
      clear h5 hw5 a0 a1 a2 a3 b0 b1 b2 b3 c0 c1 c2 c3 d0 d1 d2 d3 G1
      obtain ⟨a0, a1, a2, a3⟩ := K
      refine bodyPost_ret (v := .agg #[.int .u8 (tl s 4 0), .int .u8 (tl s 4 1), .int .u8 (tl s 4 2), .int .u8 (tl s 4 3)]) (by simp [results, Tryz.results111, go_sem, a0, a1, a2, a3]) rfl ⟨rfl, KB⟩
/-- Room made ahead for so many bytes. -/
theorem grow_nil (n : Nat) (hn : n ≤ 3000000) (w : World) :
    Calls Tryz.prog 152 #[.slice none 0 0, .int .i64 (n : Int)] w fun e w' => ∃ A c, e = .returned (.slice A 0 c) ∧ w'.ownsRow w.heap.size 5 1 (.slice A 0 c) 0 [] ∧ Below w.heap.size w w' := by
  by_cases h0 : n = 0
  · subst h0
    go_enter Tryz.func152, Tryz.ntmps152
    go_wp2_with fail
    go_ret
    exact ⟨none, 0, rfl, own_nil _ _ _, Below.refl _ _⟩
  · obtain ⟨i, hi, hzz⟩ := Option.map_eq_some_iff.1 info_u8
    simp only [Prod.mk.injEq] at hzz
    obtain ⟨hz, hs, hb⟩ := hzz
    have hold : (Builtin.firstCells i.size 0 (.slice none 0 0)).run Tryz.prog w.drew = .ok (#[] : Array Value) w.drew := run_firstCells_none w.drew i.size 0 0 0
    have hrz : ∀ ty, (Builtin.append_ #[50, 3] ty #[.slice none 0 0, .int .i64 (n : Int)]).run Tryz.prog w =
        .ok (.slice (some ⟨w.heap.size, 0, none⟩) n (grownCap w n 0 5)) (w.drew.alloc (.cells (#[] ++ Builtin.zeroCells #[.int .u8 0] n ++ Builtin.zeroCells #[.int .u8 0] (grownCap w n 0 5 - n)) 5)) := fun ty => by
      have h := Lib.run_append_grow_zeros w 50 3 ty 5 i (.int .u8 0) .i64 .i64 Tryz.underlying50 Tryz.underlying3 hi hz none 0 0 [] hold n (by omega) (by omega) (by omega) (by omega) (by rw [hb]; omega) (by rw [Nat.zero_add]; exact growslice_fits (by omega) (by rw [hb]; omega))
      rw [Nat.zero_add] at h
      exact h
    have hGn : n ≤ grownCap w n 0 5 := grownCap_ge w _ _ _
    have hGm := grownCap_le_maxLen w n 0 5 (by unfold maxLen; omega)
    obtain ⟨G, hG⟩ : ∃ G, G = grownCap w n 0 5 := ⟨_, rfl⟩
    rw [← hG] at hrz hGn hGm
    have hG63 : G ≤ 9223372036854775807 := by unfold maxLen at hGm; omega
    clear hold hG
    have hn0 : 0 < n := by omega
    have HM := hid hGm
    clear hGm h0
    go_enter Tryz.func152, Tryz.ntmps152
    go_wp2_with (at_builtin; refine Lib.wpList_append_run _ rfl _ _ _ _ rfl _ _ rfl rfl _ _ (hrz _) ?_)
    go_ret
    exact ⟨_, _, rfl, World.ownsRow_made _ _ G (Nat.le_refl _) HM.out (by simp [Builtin.zeroCells]; omega), ((Below.refl _ _).drew).alloc (Nat.le_refl _) _⟩
end Go.Proofs.YtecgbelgoomneaaGreat
/- Two texts put together; a text and its sum, by the program and by the document. -/
namespace Go.Proofs.YtecgbelgoomneaaGreat
open Go.RowKit
set_option maxHeartbeats 400000
set_option maxRecDepth 100000
set_option linter.unusedVariables false
theorem tl4 (s : Nat) : [tl s 4 0, tl s 4 1, tl s 4 2, tl s 4 3] = le4 s := by
  unfold tl le4
  simp
theorem concat2 {A B : Option Addr} {c d : Nat} (xs ys : List Int) (hx : xs.length ≤ 1000000) (hy : ys.length ≤ 1000000) (w : World) (g : Nat) (cap : Nat) (h0 : w.cell? ⟨g, 0, none⟩ = some (.slice A xs.length c)) (h1 : w.cell? ⟨g, 1, none⟩ = some (.slice B ys.length d))
    (ra : Rd (Value.int .u8) w w.heap.size A xs) (rb : Rd (Value.int .u8) w w.heap.size B ys) :
    Calls Tryz.prog 112 #[.slice (some ⟨g, 0, none⟩) 2 cap] w (OwnOf 5 .u8 w.heap.size (xs ++ ys) w) := by
  have hg := lt_of_cell h0
  have CG := hid (grow_nil (xs.length + ys.length) (by omega))
  have HA := hid ra
  have HB := hid rb
  have H0 := hid h0
  have H1 := hid h1
  clear ra rb
  go_enter Tryz.func112, Tryz.ntmps112
  go_wp2_with fail
  go_loop [3, 5, 11] (fun s x i => ∃ (k T : Nat), k ≤ 2 ∧ i = .int .i64 k ∧ s = .int .i64 T ∧ (k = 0 → T = 0) ∧ (k = 1 → T = xs.length) ∧ (k = 2 → T = xs.length + ys.length)) (fun _ _ i => 2 - (intOf i).toNat)
  case atStart => exact ⟨0, 0, by omega, rfl, rfl, fun _ => rfl, fun h => by omega, fun h => by omega⟩
  case round =>
    obtain ⟨k, T, hk, rfl, rfl, t0, t1, t2⟩ := hrel
    by_cases hk0 : k = 0
    · obtain rfl := t0 hk0
      subst hk0
      clear t0 t1 t2
      go_wp2_with fail
      go_round
      case rel => exact ⟨1, xs.length, by omega, by go_num, by go_num, fun h => by omega, fun _ => rfl, fun h => by omega⟩
      case measure => simp [intOf]
    · by_cases hk1 : k = 1
      · obtain rfl := t1 hk1
        subst hk1
        clear t0 t1 t2 hk0
        go_wp2_with fail
        go_round
        case rel => exact ⟨2, xs.length + ys.length, by omega, by go_num, by go_num, fun h => by omega, fun h => by omega, fun _ => rfl⟩
        case measure => simp [intOf]
      · obtain rfl : k = 2 := by omega
        obtain rfl := t2 rfl
        clear t0 t1 t2 hk0 hk1
        go_wp2_with fail
        refine (CG.out _).mono ?_
        rintro _ w1 ⟨A1, c1, rfl, ho, hb1⟩
        have HO := hid ho
        have h0' : w1.cell? ⟨g, 0, none⟩ = some (.slice A xs.length c) := (hb1.cell (p := ⟨g, 0, none⟩) hg).trans H0.out
        have h1' : w1.cell? ⟨g, 1, none⟩ = some (.slice B ys.length d) := (hb1.cell (p := ⟨g, 1, none⟩) hg).trans H1.out
        clear ho
        go_wp2_with fail
        go_loopw [6, 8, 27] (fun t x i wr => ∃ (k : Nat) (S : List Int) (A2 : Option Addr) (c2 : Nat), k ≤ 2 ∧ i = .int .i64 k ∧ t = .slice A2 S.length c2 ∧ (k = 0 → S = []) ∧ (k = 1 → S = xs) ∧ (k = 2 → S = xs ++ ys) ∧ wr.ownsRow w.heap.size 5 1 (.slice A2 S.length c2) S.length (S.map (Value.int .u8)) ∧ Below w.heap.size w wr) (fun _ _ i _ => 2 - (intOf i).toNat)
        case atStart => exact ⟨0, [], A1, c1, by omega, rfl, rfl, fun _ => rfl, fun h => by omega, fun h => by omega, HO.out, hb1⟩
        case round =>
          obtain ⟨k, S, A2, c2, hk, rfl, rfl, t0, t1, t2, ho, hbr⟩ := hrel
          have HO2 := hid ho
          have c0 : wr.cell? ⟨g, 0, none⟩ = some (.slice A xs.length c) := (hbr.cell (p := ⟨g, 0, none⟩) hg).trans H0.out
          have c1 : wr.cell? ⟨g, 1, none⟩ = some (.slice B ys.length d) := (hbr.cell (p := ⟨g, 1, none⟩) hg).trans H1.out
          clear ho
          by_cases hk0 : k = 0
          · obtain rfl := t0 hk0
            subst hk0
            have r1 := HA.out.below hbr
            clear t0 t1 t2
            go_wp2_with (at_builtin; refine wpList_app (Value.int .u8) (fun _ => rfl) _ rfl _ _ 50 rfl w.heap.size 5 (.int .u8 0) 1 Tryz.underlying50 info_u8 rfl [] _ _ rfl HO2.out xs _ c _ rfl r1 (by simp [maxLen]; omega) (by simp; omega) hbr.size ?_)
            rintro S' A' c' w4 hS' ho hb4 _
            have HS' := hid hS'
            have HO' := hid ho
            clear hS' ho r1
            go_wp2_with fail
            go_roundw
            case rel => exact ⟨1, S', A', c', by omega, by go_num, rfl, fun h => by omega, fun _ => HS'.out, fun h => by omega, HO'.out, hbr.trans hb4⟩
            case measure => simp [intOf]
          · by_cases hk1 : k = 1
            · obtain rfl := t1 hk1
              subst hk1
              have r1 := HB.out.below hbr
              clear t0 t1 t2 hk0
              go_wp2_with (at_builtin; refine wpList_app (Value.int .u8) (fun _ => rfl) _ rfl _ _ 50 rfl w.heap.size 5 (.int .u8 0) 1 Tryz.underlying50 info_u8 rfl S _ _ rfl HO2.out ys _ d _ rfl r1 (by simp [maxLen]; omega) (by simp; omega) hbr.size ?_)
              rintro S' A' c' w4 hS' ho hb4 _
              have HS' := hid hS'
              have HO' := hid ho
              clear hS' ho r1
              go_wp2_with fail
              go_roundw
              case rel => exact ⟨2, S', A', c', by omega, by go_num, rfl, fun h => by omega, fun h => by omega, fun _ => HS'.out, HO'.out, hbr.trans hb4⟩
              case measure => simp [intOf]
            · obtain rfl : k = 2 := by omega
              have e := t2 rfl
              have E := hid e
              clear t0 t1 t2 hk0 hk1 e
              go_wp2_with fail
              go_ret
              rw [← E.out]
              exact ⟨A2, c2, rfl, HO2.out, hbr⟩
theorem four_rd {w : World} {g : Nat} {a b c d : Int} (h0 : w.cell? ⟨g, 0, none⟩ = some (.int .u8 a)) (h1 : w.cell? ⟨g, 1, none⟩ = some (.int .u8 b)) (h2 : w.cell? ⟨g, 2, none⟩ = some (.int .u8 c)) (h3 : w.cell? ⟨g, 3, none⟩ = some (.int .u8 d)) :
    Rd (Value.int .u8) w w.heap.size (some ⟨g, 0, none⟩) [a, b, c, d] := fun k x hx => by
  refine ⟨g, 0, rfl, lt_of_cell h0, ?_⟩
  rw [Nat.zero_add]
  match k with
  | 0 => simp at hx; subst hx; exact h0
  | 1 => simp at hx; subst hx; exact h1
  | 2 => simp at hx; subst hx; exact h2
  | 3 => simp at hx; subst hx; exact h3
  | k + 4 => simp at hx
theorem crc_Seal {A : Option Addr} {c : Nat} (b : List Int) (hb : b.length ≤ 1000000) (ub : U8s b) (w : World) (ra : Rd (Value.int .u8) w w.heap.size A b) :
    Calls Tryz.prog 60 #[.slice A b.length c] w (OwnE 5 .u8 w.heap.size (sealV b) (sealE b) w) := by
  unfold sealV sealE
  by_cases h : 65532 < b.length
  · rw [if_pos h, if_pos h]
    clear ra ub
    go_enter Tryz.func60, Tryz.ntmps60
    go_wp2_with fail
    go_ret2
    exact .nil (Below.refl _ _)
  · rw [if_neg h, if_neg h]
    have CT := hid (crc_tail (A := A) (c := c) b hb ub w ra)
    have RA := hid ra
    obtain ⟨R, hR⟩ : ∃ R, b ++ le4 (sumN b) = R := ⟨_, rfl⟩
    rw [hR]
    rw [← tl4] at hR
    obtain ⟨s, hs⟩ : ∃ s, sumN b = s := ⟨_, rfl⟩
    rw [hs] at CT hR
    have HR := hid hR
    clear ra ub hs hR
    obtain ⟨y0, e0⟩ : ∃ y, tl s 4 0 = y := ⟨_, rfl⟩
    obtain ⟨y1, e1⟩ : ∃ y, tl s 4 1 = y := ⟨_, rfl⟩
    obtain ⟨y2, e2⟩ : ∃ y, tl s 4 2 = y := ⟨_, rfl⟩
    obtain ⟨y3, e3⟩ : ∃ y, tl s 4 3 = y := ⟨_, rfl⟩
    rw [e0, e1, e2, e3] at CT HR
    clear e0 e1 e2 e3
    go_enter Tryz.func60, Tryz.ntmps60
    go_wp2_with fail
    refine CT.out.mono ?_
    rintro _ w1 ⟨rfl, hb1⟩
    go_wp2_with fail
    obtain ⟨w2, hw2⟩ : ∃ w2, (w1.alloc (.cells #[.int .u8 y0, .int .u8 y1, .int .u8 y2, .int .u8 y3] 115)).alloc (.cells #[.slice A b.length c, .slice (some ⟨w1.heap.size, 0, none⟩) 4 4] 50) = w2 := ⟨_, rfl⟩
    have hb2 : Below w1.heap.size w1 w2 := by rw [← hw2]; go_grown
    have g0 : w2.cell? ⟨w1.heap.size + 1, 0, none⟩ = some (.slice A b.length c) := by rw [← hw2]; simp [go_sem]
    have g1 : w2.cell? ⟨w1.heap.size + 1, 1, none⟩ = some (.slice (some ⟨w1.heap.size, 0, none⟩) [y0, y1, y2, y3].length 4) := by rw [← hw2]; simp [go_sem]
    have z0 : w2.cell? ⟨w1.heap.size, 0, none⟩ = some (.int .u8 y0) := by rw [← hw2]; simp [go_sem]
    have z1 : w2.cell? ⟨w1.heap.size, 1, none⟩ = some (.int .u8 y1) := by rw [← hw2]; simp [go_sem]
    have z2 : w2.cell? ⟨w1.heap.size, 2, none⟩ = some (.int .u8 y2) := by rw [← hw2]; simp [go_sem]
    have z3 : w2.cell? ⟨w1.heap.size, 3, none⟩ = some (.int .u8 y3) := by rw [← hw2]; simp [go_sem]
    have hb3 : Below w.heap.size w w2 := hb1.trans (hb2.mono hb1.size)
    have r1 := RA.out.on hb3
    rw [hw2]
    refine (concat2 (d := 4) b [y0, y1, y2, y3] hb (by simp) w2 (w1.heap.size + 1) 2 g0 g1 r1 (four_rd z0 z1 z2 z3)).mono ?_
    rw [HR.out]
    rintro _ w3 ⟨A3, c3, rfl, ho, hb4⟩
    have HO := hid (own_base ho hb3.size)
    clear ho g0 g1 z0 z1 z2 z3 hw2 r1
    go_wp2_with fail
    go_ret2
    exact ⟨A3, c3, rfl, HO.out, hb3.trans (hb4.mono hb3.size)⟩
end Go.Proofs.YtecgbelgoomneaaGreat
/- Texts put together, by package slices. -/
namespace Go.Proofs.YtecgbelgoomneaaGreat
open Go.RowKit
set_option maxHeartbeats 400000
set_option maxRecDepth 100000
set_option linter.unusedVariables false
/-- A slice of texts at A reads as these. -/
def RdRow8 (w : World) (B : Nat) (A : Option Addr) (rows : List (List Int)) : Prop :=
  ∀ k xs, rows[k]? = some xs → ∃ b off A' c', A = some ⟨b, off, none⟩ ∧ b < B ∧ w.cell? ⟨b, off + k, none⟩ = some (.slice A' xs.length c') ∧ Rd (Value.int .u8) w B A' xs
theorem RdRow8.below {w w' : World} {B : Nat} {A : Option Addr} {rows : List (List Int)} (h : RdRow8 w B A rows) (hb : Below B w w') : RdRow8 w' B A rows := fun k xs hx => by
  obtain ⟨b, off, A', c', e, hl, hc, hr⟩ := h k xs hx
  exact ⟨b, off, A', c', e, hl, (hb.cell (p := ⟨b, off + k, none⟩) hl).trans hc, hr.below hb⟩
theorem RdRow8.more {w : World} {B B' : Nat} {A : Option Addr} {rows : List (List Int)} (h : RdRow8 w B A rows) (hB : B ≤ B') : RdRow8 w B' A rows := fun k xs hx => by
  obtain ⟨b, off, A', c', e, hl, hc, hr⟩ := h k xs hx
  exact ⟨b, off, A', c', e, by omega, hc, hr.more hB⟩
theorem RdRow8.on {w w' : World} {A : Option Addr} {rows : List (List Int)} (h : RdRow8 w w.heap.size A rows) (hb : Below w.heap.size w w') : RdRow8 w' w'.heap.size A rows := (h.below hb).more hb.size
theorem row8_two {A B : Option Addr} {c d : Nat} (xs ys : List Int) (W : World) (ra : Rd (Value.int .u8) W W.heap.size A xs) (rb : Rd (Value.int .u8) W W.heap.size B ys) (t : TypeId) :
    RdRow8 (W.alloc (.cells #[.slice A xs.length c, .slice B ys.length d] t)) (W.alloc (.cells #[.slice A xs.length c, .slice B ys.length d] t)).heap.size (some ⟨W.heap.size, 0, none⟩) [xs, ys] := fun k zs hz => by
  have hb : Below W.heap.size W (W.alloc (.cells #[.slice A xs.length c, .slice B ys.length d] t)) := (Below.refl _ _).alloc (Nat.le_refl _) _
  have hn := heap_alloc_new W (.cells #[.slice A xs.length c, .slice B ys.length d] t)
  have hlt : W.heap.size < (W.alloc (.cells #[.slice A xs.length c, .slice B ys.length d] t)).heap.size := (Array.getElem?_eq_some_iff.1 hn).1
  match k, hz with
  | 0, hz =>
    obtain rfl : xs = zs := by simpa using hz
    exact ⟨_, 0, A, c, rfl, hlt, by rw [cell_of_row _ _ _ _ t (0, 0) hn]; rfl, ra.on hb⟩
  | 1, hz =>
    obtain rfl : ys = zs := by simpa using hz
    exact ⟨_, 0, B, d, rfl, hlt, by rw [cell_of_row _ _ _ _ t (0, 0) hn]; rfl, rb.on hb⟩
  | k + 2, hz => simp at hz
theorem row8_four {A1 A2 A3 A4 : Option Addr} {c1 c2 c3 c4 : Nat} (x1 x2 x3 x4 : List Int) (W : World) (r1 : Rd (Value.int .u8) W W.heap.size A1 x1) (r2 : Rd (Value.int .u8) W W.heap.size A2 x2) (r3 : Rd (Value.int .u8) W W.heap.size A3 x3) (r4 : Rd (Value.int .u8) W W.heap.size A4 x4) (t : TypeId) :
    RdRow8 (W.alloc (.cells #[.slice A1 x1.length c1, .slice A2 x2.length c2, .slice A3 x3.length c3, .slice A4 x4.length c4] t)) (W.alloc (.cells #[.slice A1 x1.length c1, .slice A2 x2.length c2, .slice A3 x3.length c3, .slice A4 x4.length c4] t)).heap.size (some ⟨W.heap.size, 0, none⟩) [x1, x2, x3, x4] := fun k zs hz => by
  have hb : Below W.heap.size W (W.alloc (.cells #[.slice A1 x1.length c1, .slice A2 x2.length c2, .slice A3 x3.length c3, .slice A4 x4.length c4] t)) := (Below.refl _ _).alloc (Nat.le_refl _) _
  have hn := heap_alloc_new W (.cells #[.slice A1 x1.length c1, .slice A2 x2.length c2, .slice A3 x3.length c3, .slice A4 x4.length c4] t)
  have hlt : W.heap.size < (W.alloc (.cells #[.slice A1 x1.length c1, .slice A2 x2.length c2, .slice A3 x3.length c3, .slice A4 x4.length c4] t)).heap.size := (Array.getElem?_eq_some_iff.1 hn).1
  match k, hz with
  | 0, hz =>
    obtain rfl : x1 = zs := by simpa using hz
    exact ⟨_, 0, A1, c1, rfl, hlt, by rw [cell_of_row _ _ _ _ t (0, 0) hn]; rfl, r1.on hb⟩
  | 1, hz =>
    obtain rfl : x2 = zs := by simpa using hz
    exact ⟨_, 0, A2, c2, rfl, hlt, by rw [cell_of_row _ _ _ _ t (0, 0) hn]; rfl, r2.on hb⟩
  | 2, hz =>
    obtain rfl : x3 = zs := by simpa using hz
    exact ⟨_, 0, A3, c3, rfl, hlt, by rw [cell_of_row _ _ _ _ t (0, 0) hn]; rfl, r3.on hb⟩
  | 3, hz =>
    obtain rfl : x4 = zs := by simpa using hz
    exact ⟨_, 0, A4, c4, rfl, hlt, by rw [cell_of_row _ _ _ _ t (0, 0) hn]; rfl, r4.on hb⟩
  | k + 4, hz => simp at hz
theorem cat8_step {ls : List (List Int)} {k : Nat} {x : List Int} (h : ls[k]? = some x) : (ls.take (k + 1)).flatten = (ls.take k).flatten ++ x := by
  rw [List.take_add_one, h, List.flatten_append]
  simp
theorem cat8_take (ls : List (List Int)) (k : Nat) : (ls.take k).flatten.length ≤ ls.flatten.length := by
  have h := congrArg List.length (congrArg List.flatten (List.take_append_drop k ls))
  rw [List.flatten_append, List.length_append] at h
  omega
theorem by_concat {A : Option Addr} {c : Nat} (ls : List (List Int)) (hl : ls.length ≤ 100000) (hf : ls.flatten.length ≤ 100000) (w : World) (ra : RdRow8 w w.heap.size A ls) :
    Calls Tryz.prog 112 #[.slice A ls.length c] w (OwnOf 5 .u8 w.heap.size ls.flatten w) := by
  have CG := hid (fun n hn => grow_nil n hn)
  have HA := hid ra
  have HF : Hid (∀ k x, ls[k]? = some x → (ls.take (k + 1)).flatten = (ls.take k).flatten ++ x) := hid (fun k x h => cat8_step h)
  have HL : Hid (∀ k, (ls.take k).flatten.length ≤ 100000) := hid (fun k => by have := cat8_take ls k; omega)
  have HF0 : Hid ((ls.take 0).flatten = []) := hid rfl
  have HFe : Hid (∀ k, ls.length ≤ k → (ls.take k).flatten = ls.flatten) := hid (fun k hk => by rw [List.take_of_length_le hk])
  obtain ⟨F, hF⟩ : ∃ F : Nat → List Int, (fun k => (ls.take k).flatten) = F := ⟨_, rfl⟩
  have hF' : ∀ k, (ls.take k).flatten = F k := fun k => by rw [← hF]
  simp only [hF'] at HF HL HF0 HFe
  obtain ⟨R, hR⟩ : ∃ R, ls.flatten = R := ⟨_, rfl⟩
  rw [hR] at HFe ⊢
  obtain ⟨N, hN⟩ : ∃ N, ls.length = N := ⟨_, rfl⟩
  have HN := hid hN
  rw [hN] at HFe hl ⊢
  clear ra hR hf hF hF' hN
  go_enter Tryz.func112, Tryz.ntmps112
  go_wp2_with fail
  go_loop [3, 5, 11] (fun s x i => ∃ (k T : Nat), k ≤ N ∧ i = .int .i64 k ∧ s = .int .i64 T ∧ T = (F k).length) (fun _ _ i => N - (intOf i).toNat)
  case atStart => exact ⟨0, 0, by omega, rfl, rfl, by rw [HF0.out]; rfl⟩
  case round =>
    obtain ⟨k, T, hk, rfl, rfl, hT⟩ := hrel
    have hTb : T ≤ 100000 := by rw [hT]; exact HL.out k
    have HT := hid hT
    clear hT
    by_cases hlt : k < N
    · obtain ⟨b1, o1, Ax, cx, rfl, l1, c1, rx⟩ := HA.out k _ (List.getElem?_eq_getElem (by rw [HN.out]; exact hlt))
      have hx0 : ls[k]? = some (ls[k]'(by rw [HN.out]; exact hlt)) := List.getElem?_eq_getElem (by rw [HN.out]; exact hlt)
      have HS := hid (HF.out k _ hx0)
      have hb := HL.out (k + 1)
      obtain ⟨x, hx⟩ : ∃ x, (ls[k]'(by rw [HN.out]; exact hlt)) = x := ⟨_, rfl⟩
      rw [hx] at HS c1
      rw [HS.out, List.length_append] at hb
      obtain ⟨X, hX⟩ : ∃ X, x.length = X := ⟨_, rfl⟩
      have HX := hid hX
      rw [hX] at c1 hb
      have hXb : X ≤ 100000 := by omega
      clear hX hb hx hx0 rx
      go_wp2_with fail
      go_round
      case rel => exact ⟨k + 1, T + X, by omega, by go_num, by go_num, by rw [HS.out, List.length_append, HT.out, HX.out]⟩
      case measure => simp [intOf]; omega
    · obtain rfl : k = N := by omega
      have CG1 := hid (CG.out T (by omega) w)
      clear CG HT
      go_wp2_with fail
      refine CG1.out.mono ?_
      rintro _ w1 ⟨A1, c1, rfl, ho, hb1⟩
      have HO := hid ho
      clear ho CG1
      go_wp2_with fail
      go_loopw [6, 8, 27] (fun t x i wr => ∃ (j : Nat) (S : List Int) (A2 : Option Addr) (c2 : Nat), j ≤ k ∧ i = .int .i64 j ∧ t = .slice A2 S.length c2 ∧ S = F j ∧ wr.ownsRow w.heap.size 5 1 (.slice A2 S.length c2) S.length (S.map (Value.int .u8)) ∧ Below w.heap.size w wr) (fun _ _ i _ => k - (intOf i).toNat)
      case atStart => exact ⟨0, [], A1, c1, by omega, rfl, rfl, HF0.out.symm, HO.out, hb1⟩
      case round =>
        clear HO hb1
        obtain ⟨j, S, A2, c2, hj, rfl, rfl, hS, ho, hbel⟩ := hrel
        have hSl : S.length ≤ 100000 := by rw [hS]; exact HL.out j
        have HSj := hid hS
        have HO := hid ho
        clear hS ho
        by_cases hjl : j < k
        · obtain ⟨b1, o1, Ax, cx, rfl, l1, c1, rx⟩ := HA.out j _ (List.getElem?_eq_getElem (by rw [HN.out]; exact hjl))
          have hx0 : ls[j]? = some (ls[j]'(by rw [HN.out]; exact hjl)) := List.getElem?_eq_getElem (by rw [HN.out]; exact hjl)
          have HS := hid (HF.out j _ hx0)
          have hb := HL.out (j + 1)
          obtain ⟨x, hx⟩ : ∃ x, (ls[j]'(by rw [HN.out]; exact hjl)) = x := ⟨_, rfl⟩
          rw [hx] at HS c1 rx
          rw [HS.out, List.length_append, ← HSj.out] at hb
          have c1' := (hbel.cell (p := ⟨b1, o1 + j, none⟩) l1).trans c1
          have hrx := rx.below hbel
          have h0 := HO.out
          have hbs := hbel.size
          clear hx hx0 rx c1
          go_wp2_with (at_builtin; refine wpList_app (Value.int .u8) (fun _ => rfl) _ rfl _ _ 50 rfl w.heap.size 5 (.int .u8 0) 1 Tryz.underlying50 info_u8 rfl S _ _ rfl h0 x _ cx _ rfl hrx (by simp [maxLen]; omega) (by omega) hbs ?_)
          rintro S' A' c' w4 hS' ho hb4 _
          have HS' := hid hS'
          have HO' := hid ho
          clear hS' ho h0 hrx
          go_wp2_with fail
          go_roundw
          case rel => exact ⟨j + 1, S', A', c', by omega, by go_num, rfl, by rw [HS'.out, HS.out, HSj.out], HO'.out, hbel.trans hb4⟩
          case measure => simp [intOf]; omega
        · obtain rfl : j = k := by omega
          have HR := hid (HFe.out j (Nat.le_refl _))
          go_wp2_with fail
          go_ret
          have e : S = R := by rw [HSj.out, HR.out]
          rw [← e]
          exact ⟨A2, c2, rfl, HO.out, hbel⟩
end Go.Proofs.YtecgbelgoomneaaGreat
/- One number got, signed; many got; lists of numbers that are the same. -/
namespace Go.Proofs.YtecgbelgoomneaaGreat
open Go.RowKit
set_option maxHeartbeats 400000
set_option maxRecDepth 100000
set_option linter.unusedVariables false
/-- A call's answer: numbers of the call's own, a place, an error. -/
def OwnNums (r : List Int × Int × Int) (w : World) (e : Ending) (w' : World) : Prop :=
  ∃ A c, e = .returned (.tuple #[.slice A r.1.length c, .int .i64 r.2.1, .int .i64 r.2.2]) ∧ w'.ownsRow w.heap.size 25 1 (.slice A r.1.length c) r.1.length (r.1.map (Value.int .u64)) ∧ Below w.heap.size w w'
def mnyV (b : List Int) (many a : Int) : List Int × Int × Int := if many < 0 then ([], 0, 1) else mny b many.toNat a []
end Go.Proofs.YtecgbelgoomneaaGreat
/- What the program's reader makes of a text, step by step; what it reads is what the document reads. Plain words. -/
namespace Go.Proofs.YtecgbelgoomneaaGreat
set_option maxRecDepth 100000
set_option linter.unusedVariables false
/-- A number of 64 bits without a sign, as one with a sign. -/
def w64 (n : Int) : Int := if n ≤ 9223372036854775807 then n else n - 18446744073709551616
/-- The place up to which is read, and whether it is none. -/
abbrev Rs := Nat × Bool
def pas (σ : Rs) (a e : Int) : Rs := if e = 0 then (a.toNat, σ.2) else (σ.1, true)
def tak (o : List Int) (σ : Rs) (m : Int) : List Int × Rs := if (o.length : Int) - (σ.1 : Int) < m then ([], (σ.1, true)) else ((o.drop σ.1).take m.toNat, (σ.1 + m.toNat, σ.2))
def one2 (o : List Int) (σ : Rs) : Int × Rs := ((tak o σ 1).1.headD 0, (tak o σ 1).2)
def num2 (o : List Int) (σ : Rs) : Int × Rs := (w64 (getN o σ.1), pas σ (getA o σ.1) (getE o σ.1))
def nms2 (o : List Int) (σ : Rs) (m : Int) : List Int × Rs := ((mnyV o m σ.1).1.map zagI, pas σ (mnyV o m σ.1).2.1 (mnyV o m σ.1).2.2)
def sgs2 (o : List Int) (σ : Rs) (m : Int) : List Bool × Rs := (bitV 1 m (tak o σ (bysV 1 m)).1, pas (tak o σ (bysV 1 m)).2 ((tak o σ (bysV 1 m)).2.1 : Int) (bitE 1 m (tak o σ (bysV 1 m)).1))
def pln2 (o : List Int) (σ : Rs) (wd m : Int) : List Int × Rs := (uwvV wd m (tak o σ (bysV wd m)).1, pas (tak o σ (bysV wd m)).2 ((tak o σ (bysV wd m)).2.1 : Int) (bitE wd m (tak o σ (bysV wd m)).1))
def gix2 (o : List Int) (σ : Rs) (dim : Int) : List Int × Rs := ((gixR dim o σ.1).1, pas σ (gixR dim o σ.1).2.1 (gixR dim o σ.1).2.2)
def dns2 (o : List Int) (dim : Int) (σ : Rs) : SentV × Rs := (⟨0, dim, [], (nms2 o σ dim).1, 0, 0, [], []⟩, (nms2 o σ dim).2)
def top2 (o : List Int) (dim : Int) (σ : Rs) : SentV × Rs :=
  (⟨1, dim, (gix2 o σ dim).1, (nms2 o (gix2 o σ dim).2 (gix2 o σ dim).1.length).1, 0, 0, [], []⟩, (nms2 o (gix2 o σ dim).2 (gix2 o σ dim).1.length).2)
def lev2 (o : List Int) (dim : Int) (σ : Rs) : SentV × Rs :=
  (⟨2, dim, [], [], (num2 o σ).1, (one2 o (num2 o σ).2).1, (pln2 o (one2 o (num2 o σ).2).2 (one2 o (num2 o σ).2).1 dim).1, (sgs2 o (pln2 o (one2 o (num2 o σ).2).2 (one2 o (num2 o σ).2).1 dim).2 dim).1⟩,
    (sgs2 o (pln2 o (one2 o (num2 o σ).2).2 (one2 o (num2 o σ).2).1 dim).2 dim).2)
def sgn2 (o : List Int) (dim : Int) (σ : Rs) : SentV × Rs := (⟨3, dim, [], [], (num2 o σ).1, 0, [], (sgs2 o (num2 o σ).2 dim).1⟩, (sgs2 o (num2 o σ).2 dim).2)
def rst2 (o : List Int) (sch dim : Int) (σ : Rs) : SentV × Rs :=
  if sch = 0 then dns2 o dim σ else if sch = 1 then top2 o dim σ else if sch = 2 then lev2 o dim σ else if sch = 3 then sgn2 o dim σ else (⟨sch, dim, [], [], 0, 0, [], []⟩, σ)
def vec2 (o : List Int) (σ : Rs) : SentV × Rs := rst2 o (one2 o σ).1 (num2 o (one2 o σ).2).1 (num2 o (one2 o σ).2).2
def bdy2 (o : List Int) (knd frm stp : Int) (σ : Rs) : FrameV × Rs := if knd = 1 then (⟨knd, frm, stp, (vec2 o σ).1⟩, (vec2 o σ).2) else (⟨knd, frm, stp, zeroS⟩, σ)
def hed2 (o : List Int) (σ : Rs) : FrameV × Rs :=
  bdy2 o (one2 o σ).1 (num2 o (one2 o σ).2).1 (num2 o (num2 o (one2 o σ).2).2).1 (num2 o (num2 o (one2 o σ).2).2).2
def frm2 (o : List Int) : FrameV × Rs := hed2 o ((one2 o (0, false)).2.1, (one2 o (0, false)).2.2 || ((one2 o (0, false)).1 != 1))
def fin2 (o : List Int) (r : FrameV × Rs) : FrameV × Int := if r.2.2 = true ∨ r.2.1 < o.length ∨ chkF r.1 ≠ 0 then (zeroF, 6) else (r.1, 0)
def prR (b : List Int) : FrameV × Int := if openE b ≠ 0 then (zeroF, openE b) else fin2 (openV b) (frm2 (openV b))
/-- What was read was written. -/
theorem pas_back {σ : Rs} {a e : Int} {a' : Nat} (h : pas σ a e = (a', false)) : e = 0 ∧ a.toNat = a' ∧ σ.2 = false := by
  unfold pas at h
  split at h
  · rename_i he
    simp only [Prod.mk.injEq] at h
    exact ⟨he, h.1, h.2⟩
  · simp at h
theorem tak_back {o : List Int} {a a' : Nat} {z : Bool} {m : Int} {p : List Int} (hm : 0 ≤ m) (ha : a ≤ o.length) (h : tak o (a, z) m = (p, (a', false))) : z = false ∧ a' ≤ o.length ∧ (p.length : Int) = m ∧ o.drop a = p ++ o.drop a' := by
  unfold tak at h
  split at h
  · simp at h
  · rename_i hn
    simp only [Prod.mk.injEq] at h
    obtain ⟨rfl, rfl, rfl⟩ := h
    simp only at hn
    refine ⟨rfl, by omega, ?_, ?_⟩
    · rw [List.length_take, List.length_drop]; omega
    · rw [← List.drop_drop, List.take_append_drop]
theorem one2_back {o : List Int} {a a' : Nat} {z : Bool} {v : Int} (ha : a ≤ o.length) (h : one2 o (a, z) = (v, (a', false))) : z = false ∧ a' ≤ o.length ∧ o.drop a = v :: o.drop a' := by
  unfold one2 at h
  obtain ⟨p, t, ht⟩ : ∃ p t, tak o (a, z) 1 = (p, t) := ⟨_, _, rfl⟩
  rw [ht] at h
  simp only [Prod.mk.injEq] at h
  obtain ⟨rfl, rfl⟩ := h
  obtain ⟨h1, h2, h3, h4⟩ := tak_back (by decide) ha ht
  refine ⟨h1, h2, ?_⟩
  match p, h3 with
  | [x], _ => simpa using h4
theorem num2_back {o : List Int} {a a' : Nat} {z : Bool} {v : Int} (uo : U8s o) (ha : a ≤ o.length) (h : num2 o (a, z) = (v, (a', false))) : z = false ∧ a' ≤ o.length ∧ ∃ n, U64 n ∧ v = w64 n ∧ o.drop a = lebI n ++ o.drop a' := by
  unfold num2 at h
  simp only [Prod.mk.injEq] at h
  obtain ⟨rfl, h⟩ := h
  obtain ⟨h1, h2, h3⟩ := pas_back h
  obtain ⟨_, hu, j, hj, hA, ht⟩ := get_ok uo h1
  rw [Int.toNat_natCast] at hj hA ht
  rw [hA, Int.toNat_natCast] at h2
  subst h2
  refine ⟨h3, hj, _, hu, rfl, ?_⟩
  rw [← ht, ← List.drop_drop, List.take_append_drop]
theorem mny_back {o : List Int} (uo : U8s o) : ∀ (k x : Nat) (S V : List Int) (y : Int), x ≤ o.length → mny o k x S = (V, y, 0) → ∃ (l : List Int) (y' : Nat), V = S ++ l ∧ l.length = k ∧ U64s l ∧ y = (y' : Int) ∧ y' ≤ o.length ∧ o.drop x = encs l ++ o.drop y'
  | 0, x, S, V, y, hx, h => by
    rw [mny] at h
    simp only [Prod.mk.injEq] at h
    obtain ⟨rfl, rfl, _⟩ := h
    exact ⟨[], x, by simp, rfl, by intro n hn; simp at hn, rfl, hx, by simp [encs]⟩
  | k + 1, x, S, V, y, hx, h => by
    rw [mny] at h
    split at h
    · rename_i h1
      obtain ⟨_, hu, j, hj, hA, ht⟩ := get_ok uo h1
      rw [Int.toNat_natCast] at hj hA ht
      rw [hA] at h
      obtain ⟨l, y', e1, e2, e3, e4, e5, e6⟩ := mny_back uo k (x + j) _ V y hj h
      refine ⟨getN o x :: l, y', by rw [e1, List.append_assoc]; rfl, by rw [List.length_cons, e2], ?_, e4, e5, ?_⟩
      · intro n hn
        rcases List.mem_cons.1 hn with rfl | hn
        · exact hu
        · exact e3 n hn
      · rw [encs_cons, List.append_assoc, ← e6, ← ht, ← List.drop_drop, List.take_append_drop]
    · rename_i h1
      simp only [Prod.mk.injEq] at h
      exact absurd h.2.2 h1
theorem zigs_back {l : List Int} (h : U64s l) : sgnd (l.map zagI) = encs l := by
  unfold sgnd
  rw [List.map_map]
  have e : l.map (zigI ∘ zagI) = l := by
    refine (List.map_congr_left fun x hx => ?_).trans (List.map_id l)
    exact zig_zag (h x hx).1
  rw [e]
theorem nms2_back {o : List Int} {a a' : Nat} {z : Bool} {m : Int} {V : List Int} (uo : U8s o) (ha : a ≤ o.length) (h : nms2 o (a, z) m = (V, (a', false))) : z = false ∧ a' ≤ o.length ∧ (V.length : Int) = m ∧ (∀ x ∈ V, I64 x) ∧ o.drop a = sgnd V ++ o.drop a' := by
  unfold nms2 at h
  obtain ⟨l, y, e, hm⟩ : ∃ l y e, mnyV o m a = (l, y, e) := ⟨_, _, _, rfl⟩
  simp only [hm, Prod.mk.injEq] at h
  obtain ⟨rfl, h⟩ := h
  obtain ⟨rfl, h2, h3⟩ := pas_back h
  unfold mnyV at hm
  split at hm
  · simp at hm
  · rename_i hm0
    obtain ⟨l2, y', e1, e2, e3, e4, e5, e6⟩ := mny_back uo _ _ _ _ _ ha hm
    rw [List.nil_append] at e1
    subst e1
    subst e4
    rw [Int.toNat_natCast] at h2
    subst h2
    refine ⟨h3, e5, by rw [List.length_map, e2]; omega, fun x hx => ?_, by rw [zigs_back e3]; exact e6⟩
    obtain ⟨n, hn, rfl⟩ := List.mem_map.1 hx
    exact zag_i64 (e3 n hn)
theorem bysV_pos (w m : Int) : 0 ≤ bysV w m := by
  unfold bysV
  split
  · rename_i h
    have := bys_ok h
    have := Int.mul_nonneg this.1.1 this.2.1
    omega
  · omega
theorem sgs2_back {o : List Int} {a a' : Nat} {z : Bool} {m : Int} {g : List Bool} (uo : U8s o) (ha : a ≤ o.length) (h : sgs2 o (a, z) m = (g, (a', false))) : z = false ∧ a' ≤ o.length ∧ (g.length : Int) = m ∧ o.drop a = sgnV g ++ o.drop a' := by
  unfold sgs2 at h
  obtain ⟨p, t, ht⟩ : ∃ p t, tak o (a, z) (bysV 1 m) = (p, t) := ⟨_, _, rfl⟩
  obtain ⟨t1, t2⟩ := t
  simp only [ht, Prod.mk.injEq] at h
  obtain ⟨rfl, h⟩ := h
  obtain ⟨h1, h2, h3⟩ := pas_back h
  rw [Int.toNat_natCast] at h2
  simp only at h3
  subst h2
  subst h3
  obtain ⟨q1, q2, q3, q4⟩ := tak_back (bysV_pos _ _) ha ht
  have up : U8s p := fun x hx => uo x (List.mem_of_mem_drop (i := a) (by rw [q4]; simp [hx]))
  obtain ⟨s1, s2⟩ := sgn_back up h1
  exact ⟨q1, q2, s2, by rw [s1]; exact q4⟩
theorem pln2_back {o : List Int} {a a' : Nat} {z : Bool} {wd m : Int} {l : List Int} (uo : U8s o) (ha : a ≤ o.length) (h : pln2 o (a, z) wd m = (l, (a', false))) : z = false ∧ a' ≤ o.length ∧ (l.length : Int) = m ∧ U64s l ∧ o.drop a = wevV wd l ++ o.drop a' := by
  unfold pln2 at h
  obtain ⟨p, t, ht⟩ : ∃ p t, tak o (a, z) (bysV wd m) = (p, t) := ⟨_, _, rfl⟩
  obtain ⟨t1, t2⟩ := t
  simp only [ht, Prod.mk.injEq] at h
  obtain ⟨rfl, h⟩ := h
  obtain ⟨h1, h2, h3⟩ := pas_back h
  rw [Int.toNat_natCast] at h2
  simp only at h3
  subst h2
  subst h3
  obtain ⟨q1, q2, q3, q4⟩ := tak_back (bysV_pos _ _) ha ht
  have up : U8s p := fun x hx => uo x (List.mem_of_mem_drop (i := a) (by rw [q4]; simp [hx]))
  exact ⟨q1, q2, uwv_len h1, uwvV_u64 _, by rw [(wev_uwv up h1).2]; exact q4⟩
theorem gix_backK {dim : Int} {b m : List Int} {a : Int} {k : Nat} (ub : U8s b) (h : gixR dim b k = (m, a, 0)) (hk : k ≤ b.length) : chkE dim m = 0 ∧ ∃ j : Nat, a = ((k + j : Nat) : Int) ∧ k + j ≤ b.length ∧ pixV dim m = (b.drop k).take j := by
  unfold gixR at h
  split at h
  · simp at h
  · rename_i hd
    split at h
    · rename_i h1
      simp only [Prod.mk.injEq] at h
      exact absurd h.2.2 h1
    · rename_i h1
      have h1 : getE b k = 0 := by omega
      split at h
      · simp at h
      · rename_i h2
        obtain ⟨_, hu, j1, hj1, hA, ht⟩ := get_ok ub h1
        unfold U64 at hu
        rw [Int.toNat_natCast] at hj1 ht hA
        rw [hA] at h
        obtain ⟨i1, i2, i3, j2, i4, i5, i6⟩ := ixL_back ub _ _ _ m a h hj1 (by omega)
        have hp : plcP dim m := ⟨by omega, by omega, (List.pairwise_cons.1 i2).2, fun n hn => ⟨by have := (List.pairwise_cons.1 i2).1 n hn; omega, i3 n hn⟩⟩
        refine ⟨chk_ok.2 hp, j1 + j2, by rw [i5]; congr 1; omega, by omega, ?_⟩
        unfold pixV
        rw [if_pos (chk_ok.2 hp)]
        unfold putL
        rw [encs_cons, ← i6]
        rw [i1, show ((getN b k).toNat : Int) = getN b k by omega, ← ht, List.take_add, List.drop_drop]
theorem gix2_back {o : List Int} {a a' : Nat} {z : Bool} {dim : Int} {L : List Int} (uo : U8s o) (ha : a ≤ o.length) (h : gix2 o (a, z) dim = (L, (a', false))) : z = false ∧ a' ≤ o.length ∧ chkE dim L = 0 ∧ o.drop a = pixV dim L ++ o.drop a' := by
  unfold gix2 at h
  obtain ⟨l, y, e, hm⟩ : ∃ l y e, gixR dim o a = (l, y, e) := ⟨_, _, _, rfl⟩
  simp only [hm, Prod.mk.injEq] at h
  obtain ⟨rfl, h⟩ := h
  obtain ⟨rfl, h2, h3⟩ := pas_back h
  obtain ⟨q1, j, rfl, q2, q3⟩ := gix_backK uo hm ha
  rw [Int.toNat_natCast] at h2
  subst h2
  exact ⟨h3, q2, q1, by rw [q3, ← List.drop_drop, List.take_append_drop]⟩
theorem w64_pos {n : Int} (hu : U64 n) (h : 0 ≤ w64 n) : w64 n = n := by
  unfold w64 at h ⊢
  unfold U64 at hu
  split at h
  · rw [if_pos (by assumption)]
  · omega
theorem w64_i64 {n : Int} (hu : U64 n) : I64 (w64 n) := by
  unfold w64 I64
  unfold U64 at hu
  split <;> omega
end Go.Proofs.YtecgbelgoomneaaGreat
/- A text opened, by the program and by the document. -/
namespace Go.Proofs.YtecgbelgoomneaaGreat
open Go.RowKit
set_option maxHeartbeats 400000
set_option maxRecDepth 100000
set_option linter.unusedVariables false
theorem equal_quad (a b c d a' b' c' d' : Int) (w : World) :
    (Op.equalIn 10000 115 (.agg #[.int .u8 a, .int .u8 b, .int .u8 c, .int .u8 d]) (.agg #[.int .u8 a', .int .u8 b', .int .u8 c', .int .u8 d'])).run Tryz.prog w = .ok (eqB [a, b, c, d] [a', b', c', d']) w := by
  have h0 : ∀ (x y z t : Int) (w : World), (part 5 #[.int .u8 x, .int .u8 y, .int .u8 z, .int .u8 t] 0).run Tryz.prog w = .ok (.int .u8 x) w := fun _ _ _ _ _ => by kernel_rfl
  have h1 : ∀ (x y z t : Int) (w : World), (part 5 #[.int .u8 x, .int .u8 y, .int .u8 z, .int .u8 t] 1).run Tryz.prog w = .ok (.int .u8 y) w := fun _ _ _ _ _ => by kernel_rfl
  have h2 : ∀ (x y z t : Int) (w : World), (part 5 #[.int .u8 x, .int .u8 y, .int .u8 z, .int .u8 t] 2).run Tryz.prog w = .ok (.int .u8 z) w := fun _ _ _ _ _ => by kernel_rfl
  have h3 : ∀ (x y z t : Int) (w : World), (part 5 #[.int .u8 x, .int .u8 y, .int .u8 z, .int .u8 t] 3).run Tryz.prog w = .ok (.int .u8 t) w := fun _ _ _ _ _ => by kernel_rfl
  have hs : (sizeOf 5).run Tryz.prog w = .ok 1 w := by kernel_rfl
  rw [show (10000 : Nat) = 9998 + 1 + 1 from rfl]
  unfold Op.equalIn
  simp only [Sem.run_bind, run_underlying Tryz.underlying115, Result.andThen_ok, hs]
  simp only [Std.Legacy.Range.forIn_eq_forIn_range', Std.Legacy.Range.size]
  simp only [Nat.sub_zero, Nat.reduceAdd, Nat.reduceSub, Nat.reduceDiv, List.range', List.forIn_cons, List.forIn_nil, Sem.run_bind]
  have h4 : ∀ x y : Int, (Op.equalIn 9999 5 (.int .u8 x) (.int .u8 y)).run Tryz.prog w = .ok (x == y) w := fun x y => run_equalIn_int w 9998 _ _ _ _ _ Tryz.underlying5
  simp only [Nat.zero_mul, Nat.one_mul, h0, h4, Result.andThen_ok]
  unfold eqB
  by_cases e0 : a = a'
  · subst e0
    by_cases e1 : b = b'
    · subst e1
      by_cases e2 : c = c'
      · subst e2
        by_cases e3 : d = d' <;> simp [h1, h2, h3, h4, e3]
      · simp [h1, h2, h4, e2]
    · simp [h1, h4, e1]
  · simp [e0]
attribute [local go_sem] equal_quad
theorem seen_four {b : List Int} {p : Nat} (hp : p + 4 = b.length) : ∃ x0 x1 x2 x3, b.drop p = [x0, x1, x2, x3] ∧ b[p]? = some x0 ∧ b[p + 1]? = some x1 ∧ b[p + 2]? = some x2 ∧ b[p + 3]? = some x3 := by
  have hl : (b.drop p).length = 4 := by rw [List.length_drop]; omega
  match hd : b.drop p, hl with
  | [x0, x1, x2, x3], _ =>
    have at_ : ∀ j, b[p + j]? = ([x0, x1, x2, x3] : List Int)[j]? := fun j => by rw [← hd, List.getElem?_drop]
    exact ⟨x0, x1, x2, x3, rfl, at_ 0, at_ 1, at_ 2, at_ 3⟩
theorem crc_Open {A : Option Addr} {c : Nat} (b : List Int) (hb : b.length ≤ 1000000) (hc : b.length ≤ c) (ub : U8s b) (w : World) (ra : Rd (Value.int .u8) w w.heap.size A b) :
    Calls Tryz.prog 61 #[.slice A b.length c] w (OwnE 5 .u8 w.heap.size (openV b) (openE b) w) := by
  unfold openV openE
  by_cases h : 65536 < b.length
  · rw [if_pos (Or.inl h), if_pos h]
    clear ra ub
    go_enter Tryz.func61, Tryz.ntmps61
    go_wp2_with fail
    go_ret2
    exact .nil (Below.refl _ _)
  by_cases h4 : b.length < 4
  · rw [if_pos (Or.inr (Or.inl h4)), if_neg h, if_pos h4]
    clear ra ub
    go_enter Tryz.func61, Tryz.ntmps61
    go_wp2_with fail
    go_ret2
    exact .nil (Below.refl _ _)
  obtain ⟨p, hp⟩ : ∃ p, p + 4 = b.length := ⟨b.length - 4, by omega⟩
  obtain ⟨x0, x1, x2, x3, hd, r0, r1, r2, r3⟩ := seen_four hp
  obtain ⟨b1, o1, _, rfl, l1, hr0, c0⟩ := ra.at_ (k := p) (by omega)
  obtain ⟨b2, o2, e2, _, c1⟩ := ra _ _ r1
  injection e2 with e2
  injection e2 with e2 e3
  subst e2 e3
  obtain ⟨b2, o2, e2, _, c2⟩ := ra _ _ r2
  injection e2 with e2
  injection e2 with e2 e3
  subst e2 e3
  obtain ⟨b2, o2, e2, _, c3⟩ := ra _ _ r3
  injection e2 with e2
  injection e2 with e2 e3
  subst e2 e3
  obtain rfl : x0 = _ := Option.some.inj (r0.symm.trans hr0)
  clear r0 r1 r2 r3 hr0
  have c1 : w.cell? ⟨b1, o1 + p + 1, none⟩ = some (.int .u8 x1) := c1
  have c2 : w.cell? ⟨b1, o1 + p + 2, none⟩ = some (.int .u8 x2) := c2
  have c3 : w.cell? ⟨b1, o1 + p + 3, none⟩ = some (.int .u8 x3) := c3
  have hpe : b.length - 4 = p := by omega
  have hcp : c ≠ p := by omega
  have hse : sealedB b = eqB [x0, x1, x2, x3] [tl (sumN (b.take p)) 4 0, tl (sumN (b.take p)) 4 1, tl (sumN (b.take p)) 4 2, tl (sumN (b.take p)) 4 3] := by
    unfold sealedB sealedB.eqL eqB
    rw [hpe, hd, tl4]
  rw [hpe, hse]
  clear hse hd hpe
  have hs1 := fun W => run_upto (P := Tryz.prog) 50 Tryz.underlying50 Tryz.sizeOf5 (some ⟨b1, o1, none⟩) b.length c p (by omega) W
  have hs2 := fun W => run_from (P := Tryz.prog) 50 Tryz.underlying50 Tryz.sizeOf5 (some ⟨b1, o1, none⟩) b.length c p (by omega) (by omega) W
  have e2 : cutA (some ⟨b1, o1, none⟩) p c = some ⟨b1, o1 + p, none⟩ := by unfold cutA; rw [if_neg hcp]; simp [Go.WideShapes.add_plain]
  rw [e2, show b.length - p = 4 by omega] at hs2
  have rT := ra.cut0 hc p
  have uT := ub.take p
  have lT : (b.take p).length = p := by rw [List.length_take]; omega
  obtain ⟨T, hT⟩ : ∃ T, b.take p = T := ⟨_, rfl⟩
  obtain ⟨A3, hA3⟩ : ∃ A3, cutA (some ⟨b1, o1, none⟩) 0 c = A3 := ⟨_, rfl⟩
  rw [hA3] at rT hs1
  rw [hT] at rT uT lT ⊢
  have CT := hid (fun W (hk : Below w.heap.size w W) => crc_tail (A := A3) (c := c) T (by omega) uT W ((rT.below hk).more hk.size))
  have CL := hid (fun W (hk : Below w.heap.size w W) => clone_any (A := A3) (c := c) T (by omega) W (rT.below hk))
  rw [lT] at CT CL
  obtain ⟨s, hs⟩ : ∃ s, sumN T = s := ⟨_, rfl⟩
  rw [hs] at CT ⊢
  obtain ⟨y0, e0⟩ : ∃ y, tl s 4 0 = y := ⟨_, rfl⟩
  obtain ⟨y1, e1⟩ : ∃ y, tl s 4 1 = y := ⟨_, rfl⟩
  obtain ⟨y2, e2⟩ : ∃ y, tl s 4 2 = y := ⟨_, rfl⟩
  obtain ⟨y3, e3⟩ : ∃ y, tl s 4 3 = y := ⟨_, rfl⟩
  rw [e0, e1, e2, e3] at CT ⊢
  have hm : (b.length : Int) - 4 = (p : Int) := by omega
  have LT := hid lT
  have HP := hid hp
  clear e0 e1 e2 e3 hs hT hA3 lT rT uT ra ub hp hcp
  obtain ⟨q, hq⟩ : ∃ q, eqB [y0, y1, y2, y3] [x0, x1, x2, x3] = q := ⟨_, rfl⟩
  have hq' : eqB [x0, x1, x2, x3] [y0, y1, y2, y3] = q := by rw [← hq]; unfold eqB; simp only [eq_comm]
  rw [hq']
  clear hq'
  have lx := l1
  have hat := fun W => run_arrayAt (P := Tryz.prog) W 115 _ 4 (some ⟨b1, o1 + p, none⟩) 4 (c - p) Tryz.underlying115 (by omega)
  cases q with
  | false =>
    rw [if_pos (Or.inr (Or.inr rfl)), if_neg h, if_neg h4, if_pos rfl]
    have h65 : ¬ 65536 < b.length := h
    go_enter Tryz.func61, Tryz.ntmps61
    go_wp2_with fail
    go_region_held3 (fun w' => w'.cell? ⟨b1, o1 + p, none⟩ = some (.int .u8 x0) ∧ w'.cell? ⟨b1, o1 + p + 1, none⟩ = some (.int .u8 x1) ∧ w'.cell? ⟨b1, o1 + p + 2, none⟩ = some (.int .u8 x2) ∧ w'.cell? ⟨b1, o1 + p + 3, none⟩ = some (.int .u8 x3) ∧ Below w.heap.size w w') (first | exact ⟨c0, c1, c2, c3, (Below.refl _ _).drew⟩ | (have hk := below_step ((Below.refl _ _).drew) hb1 (Nat.le_refl _); exact ⟨(hk.cell lx).trans c0, (hk.cell lx).trans c1, (hk.cell lx).trans c2, (hk.cell lx).trans c3, hk⟩) | go_keep)
      (first | (go_at_call 111; refine (CT.out _ (by go_grown)).mono ?_; rintro e w1 ⟨rfl, hb1⟩))
    all_goals
      have hk := below_step ((Below.refl _ _).drew) hb1 (Nat.le_refl _)
      clear c0 c1 c2 c3 hs1 hs2 hm hat hq e2
      go_wp2_with fail
      go_ret2
      exact .nil hk
  | true =>
    rw [if_neg (by simp only [Bool.true_eq_false, or_false]; omega), if_neg h, if_neg h4, if_neg (by simp)]
    go_enter Tryz.func61, Tryz.ntmps61
    go_wp2_with fail
    go_region_held3 (fun w' => w'.cell? ⟨b1, o1 + p, none⟩ = some (.int .u8 x0) ∧ w'.cell? ⟨b1, o1 + p + 1, none⟩ = some (.int .u8 x1) ∧ w'.cell? ⟨b1, o1 + p + 2, none⟩ = some (.int .u8 x2) ∧ w'.cell? ⟨b1, o1 + p + 3, none⟩ = some (.int .u8 x3) ∧ Below w.heap.size w w') (first | exact ⟨c0, c1, c2, c3, (Below.refl _ _).drew⟩ | (have hk := below_step ((Below.refl _ _).drew) hb1 (Nat.le_refl _); exact ⟨(hk.cell lx).trans c0, (hk.cell lx).trans c1, (hk.cell lx).trans c2, (hk.cell lx).trans c3, hk⟩) | go_keep)
      (first | (go_at_call 111; refine (CT.out _ (by go_grown)).mono ?_; rintro e w1 ⟨rfl, hb1⟩))
    all_goals
      have hk := below_step ((Below.refl _ _).drew) hb1 (Nat.le_refl _)
      clear c0 c1 c2 c3 hs1 hs2 hm hat hq e2
      go_wp2_with fail
      refine (CL.out _ hk).mono ?_
      rintro _ w3 ⟨A4, c4, rfl, ho, hb4⟩
      have HO := hid (own_base ho hk.size)
      clear ho
      go_wp2_with fail
      go_ret2
      exact ⟨A4, c4, rfl, HO.out, hk.trans (hb4.mono hk.size)⟩
end Go.Proofs.YtecgbelgoomneaaGreat
/- A frame's cells in a box. -/
namespace Go.Proofs.YtecgbelgoomneaaGreat
open Go.RowKit
set_option maxHeartbeats 4000000
set_option maxRecDepth 100000
set_option linter.unusedVariables false
def cellsG (f : FrameV) (p : SentP) : List Value := [.int .i64 f.knd, .int .i64 f.frm, .int .i64 f.stp, .int .i64 f.S.sch, .int .i64 f.S.dim, .slice p.AL f.S.L.length p.cL, .slice p.AV f.S.V.length p.cV, .int .i64 f.S.scale, .int .i64 f.S.wide, .slice p.AE f.S.lev.length p.cE, .slice p.AN f.S.neg.length p.cN]
theorem box_G {w : World} {h : Nat} {f : FrameV} {p : SentP} (hb : BoxL w h (cellsG f p)) : (w.cell? ⟨h, 0, none⟩ = some (.int .i64 f.knd) ∧ w.cell? ⟨h, 1, none⟩ = some (.int .i64 f.frm) ∧ w.cell? ⟨h, 2, none⟩ = some (.int .i64 f.stp) ∧ w.cell? ⟨h, 3, none⟩ = some (.int .i64 f.S.sch) ∧ w.cell? ⟨h, 4, none⟩ = some (.int .i64 f.S.dim) ∧ w.cell? ⟨h, 5, none⟩ = some (.slice p.AL f.S.L.length p.cL) ∧ w.cell? ⟨h, 6, none⟩ = some (.slice p.AV f.S.V.length p.cV) ∧ w.cell? ⟨h, 7, none⟩ = some (.int .i64 f.S.scale) ∧ w.cell? ⟨h, 8, none⟩ = some (.int .i64 f.S.wide) ∧ w.cell? ⟨h, 9, none⟩ = some (.slice p.AE f.S.lev.length p.cE) ∧ w.cell? ⟨h, 10, none⟩ = some (.slice p.AN f.S.neg.length p.cN)) ∧ (w.frozen? ⟨h, 0, none⟩ = false ∧ w.frozen? ⟨h, 1, none⟩ = false ∧ w.frozen? ⟨h, 2, none⟩ = false ∧ w.frozen? ⟨h, 3, none⟩ = false ∧ w.frozen? ⟨h, 4, none⟩ = false ∧ w.frozen? ⟨h, 5, none⟩ = false ∧ w.frozen? ⟨h, 6, none⟩ = false ∧ w.frozen? ⟨h, 7, none⟩ = false ∧ w.frozen? ⟨h, 8, none⟩ = false ∧ w.frozen? ⟨h, 9, none⟩ = false ∧ w.frozen? ⟨h, 10, none⟩ = false) :=
  ⟨⟨(hb 0 _ rfl).1, (hb 1 _ rfl).1, (hb 2 _ rfl).1, (hb 3 _ rfl).1, (hb 4 _ rfl).1, (hb 5 _ rfl).1, (hb 6 _ rfl).1, (hb 7 _ rfl).1, (hb 8 _ rfl).1, (hb 9 _ rfl).1, (hb 10 _ rfl).1⟩, (hb 0 _ rfl).2, (hb 1 _ rfl).2, (hb 2 _ rfl).2, (hb 3 _ rfl).2, (hb 4 _ rfl).2, (hb 5 _ rfl).2, (hb 6 _ rfl).2, (hb 7 _ rfl).2, (hb 8 _ rfl).2, (hb 9 _ rfl).2, (hb 10 _ rfl).2⟩
end Go.Proofs.YtecgbelgoomneaaGreat
/- A law's frame: where a call answers true and nothing that was there has turned, the given row's post holds, whatever the arguments are made of. -/
namespace Go.Proofs.YtecgbelgoomneaaGreat
open Go.ChangeShapes Go.WideShapes Go.ChangeAt Go.RowKit
set_option maxRecDepth 100000
set_option linter.unusedVariables false

theorem own : ownKnob Tryz.prog.godebug = none := by kernel_rfl
theorem laid : laidOutB Tryz.prog = true := by kernel_rfl

section
variable {H : Type} {enc : TypeId × Value → H} {P : Program}

theorem all_stay (hl : laidOutB P = true) {W W' : World} (hb : Below W.heap.size W W') {sp : Nat → Bool} :
    ∀ (ts : List TypeId) (vs : List Value) (ds : List (DataW H)) (ps : List MemPlace), (∀ t ∈ ts, P.readableRec t = true ∧ t < P.types.size) →
      DataW.TrodAll enc P W 0 (fun _ => true) true ts vs ds ps → (∀ x ∈ ps, x.block < W.heap.size) → (∀ x ∈ ps, sp x.block = true) → DataW.TrodAll enc P W' 0 sp true ts vs ds ps
  | [], [], [], ps, _, h, _, _ => h
  | [], [], _ :: _, _, _, h, _, _ => h.elim
  | [], _ :: _, _, _, _, h, _, _ => h.elim
  | _ :: _, [], _, _, _, h, _, _ => h.elim
  | _ :: _, _ :: _, [], _, _, h, _, _ => h.elim
  | t :: ts, v :: vs, d :: ds, ps, hr, h, hlt, hsp => by
    obtain ⟨p, q, h1, h2, rfl⟩ := h
    have ht := hr t (by simp)
    refine ⟨p, q, WideElems.Trod_stays hl ht.1 ht.2 h1 (fun x hx => hb.same (hlt x (by simp [hx]))) (fun x hx => hsp x (by simp [hx])), ?_, rfl⟩
    exact all_stay hl hb ts vs ds q (fun t' ht' => hr t' (by simp [ht'])) h2 (fun x hx => hlt x (by simp [hx])) (fun x hx => hsp x (by simp [hx]))

theorem law_post {f : Func} {s : ChangeSpec} {apart fresh handsOn again : Bool} {W W' : World} {args : Array Value} {ds gs : List (DataW H)} {before : List MemPlace} {tb : TypeId}
    (hl : laidOutB P = true) (hts : ∀ t ∈ f.params.toList, P.readableRec t = true ∧ t < P.types.size) (hv : s.vars = [])
    (hW : DataW.Whole enc P f.params.toList s.vars apart W args.toList ds gs before)
    (hs : (s.fn H (ds ++ gs)).results = [.lit (.bool true)] ∧ (s.fn H (ds ++ gs)).args = ds ∧ (s.fn H (ds ++ gs)).vars = [])
    (hr : f.resultTypes = #[tb]) (htb : P.underlying tb = some .bool) (hb : Below W.heap.size W W') :
    s.post enc P f apart fresh handsOn again W args (.bool true) W' := by
  have hlt : ∀ p ∈ before, p.block < W.heap.size := fun p hp => hW.lt p hp
  have hW0 := hW
  obtain ⟨p, q, h1, h2, e, hz, hn⟩ := hW
  rw [hv] at h2
  cases gs with
  | cons _ _ => exact h2.elim
  | nil =>
    have hq : q = [] := h2
    subst hq
    simp only [List.append_nil] at e
    subst e
    have stay : ∀ sp : Nat → Bool, (∀ x ∈ before, sp x.block = true) → DataW.TrodAll enc P W' 0 sp true f.params.toList args.toList (s.fn H (ds ++ [])).args before :=
      fun sp hsp => by rw [hs.2.1]; exact all_stay hl hb _ _ _ _ hts h1 hlt hsp
    have vars : ∀ sp : Nat → Bool, DataW.TrodVars enc P W' sp s.vars (s.fn H (ds ++ [])).vars [] := fun sp => by rw [hs.2.2, hv]; rfl
    have res : ∀ (b : Nat) (sp : Nat → Bool) (hd : Bool), DataW.TrodAll enc P W' b sp hd f.resultTypes.toList ((Value.bool true).resultList f.resultTypes.size) (s.fn H (ds ++ [])).results [] := by
      intro b sp hd
      rw [hs.1, hr]
      exact trodAll_mk1 (shut_bool htb true)
    refine ⟨ds, [], before, [], before, [], hW0, res _ _ _, stay _ (fun x hx => by simpa using hlt x hx), vars _, ?_, fun _ => ?_⟩
    · exact World.keptBut_mono (fun x hx => ⟨hx, by simpa using hx⟩) (hb.frame (· ∈ before))
    · refine ⟨?_, _, _, ([] ++ before) ++ [], ⟨[] ++ before, [], trodAll_append (stay _ (fun _ _ => rfl)) (res _ _ _), vars _, rfl, ?_, ?_⟩, ?_⟩
      · exact ok_one hr rfl (okWide_bool_mk htb true)
      · intro b off hp
        have hin : MemPlace.cell b off ∈ before := by simpa using hp
        rw [hb.frozen (hlt _ hin)]
        exact hz b off hin
      · intro ha
        simpa using hn ha
      · intro x hx _
        simpa using hx
end
end Go.Proofs.YtecgbelgoomneaaGreat
/- An argument that is a list of whole numbers of one kind, opened. -/
namespace Go.Proofs.YtecgbelgoomneaaGreat
open Go.ChangeShapes Go.WideShapes Go.ChangeAt Go.RowKit
set_option maxRecDepth 100000
set_option linter.unusedVariables false
section
variable {H : Type} {enc : TypeId × Value → H} {P : Program} {W : World}
theorem nums_rd {k : IntKind} {a : Addr} {zs xs : List Int} {m : Nat} (hm : xs = zs.take m) (hc : ∀ i, i < m → W.cell? (a.add i) = some (.int k (zs.getD i 0))) : Rd (Value.int k) W W.heap.size (some a) xs := fun j x hx => by
  subst hm
  have hk : j < (zs.take m).length := (List.getElem?_eq_some_iff.1 hx).1
  have hkm : j < m := by rw [List.length_take] at hk; omega
  obtain ⟨b, off, spot⟩ := a
  have hs : spot = none := by simpa [Addr.add] using World.cell?_spot (hc 0 (by omega))
  subst hs
  have h := hc j hkm
  rw [Go.WideShapes.add_plain] at h
  have hz : zs.getD j 0 = x := by
    rw [List.getElem?_take_of_lt hkm] at hx
    simp [List.getD, hx]
  rw [hz] at h
  exact ⟨b, off, rfl, lt_of_cell h, h⟩
theorem open_nums {k : IntKind} {r : Reach} {t e : TypeId} {v : Value} {d : DataW H} {ps : List MemPlace} (ht : P.underlying t = some (.slice e)) (he : P.underlying e = some (.int k)) (hc : P.cellsOf e = 1) {b0 : Nat}
    (hval : Value.okWide P W r b0 t v) (hd : DataW.Trod enc P W 0 (fun _ => true) true t v d ps) :
    ∃ A xs c, v = .slice A xs.length c ∧ Rd (Value.int k) W W.heap.size A xs ∧ (∀ x ∈ xs, (Lit.int k x).wf = true) ∧ xs.length ≤ c ∧ c ≤ 9223372036854775807 := by
  obtain ⟨A, len, cap, rfl⟩ := okWide_slice ht hval
  obtain ⟨fuel, hf⟩ := hd
  rcases open_ints ht he hc hf with ⟨hcs, _⟩ | ⟨a, len', cap', zs, hcs, _, hl, hm, hz, _, hcell, hwz⟩
  · simp [Value.cells] at hcs
    obtain ⟨rfl, rfl, rfl⟩ := hcs
    exact ⟨none, [], 0, rfl, Rd.none_, by intro x hx; simp at hx, by simp, by omega⟩
  · simp [Value.cells] at hcs
    obtain ⟨rfl, rfl, rfl⟩ := hcs
    simp only [if_true] at hz
    have hlen : (zs.take len).length = len := by rw [List.length_take]; omega
    refine ⟨some a, zs.take len, cap, by rw [hlen], nums_rd rfl fun i hi => hcell i (by omega), fun x hx => hwz x (List.mem_of_mem_take hx), by omega, by unfold maxLen at hm; omega⟩
theorem U64.of_wf {a : Int} (h : (Lit.int .u64 a).wf = true) : U64 a := by
  simp [Lit.wf, IntKind.min, IntKind.max, IntKind.signed, IntKind.bits] at h
  unfold U64; omega
theorem U32.of_wf {a : Int} (h : (Lit.int .u32 a).wf = true) : 0 ≤ a ∧ a ≤ 4294967295 := by
  simp [Lit.wf, IntKind.min, IntKind.max, IntKind.signed, IntKind.bits] at h
  omega
end
end Go.Proofs.YtecgbelgoomneaaGreat
/- An argument that is a list of bools, opened. -/
