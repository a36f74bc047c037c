
/- UMtT: texts joined: MtT. -/
import Derived.Test.YtekpejemfkjhcaaUc
import Derived.Test.YtekpejemfkjhcaaUa
import Derived.Test.YtekpejemfkjhcaaUb
/- Two lines in each other's places: the closure that the law turns numbers by. -/
namespace Go.Proofs.Ytekpejemfkjhcaa
open Go.RowKit
set_option maxHeartbeats 4000000
set_option maxRecDepth 100000
set_option linter.unusedVariables false
theorem turn_ok (args : Array Value) (W : World) : (callFunc 29 args).run Try.prog W = .ok (.enter 29 args) W := cl_enter 29 (by kernel_rfl) args W
theorem turn_ar (n : Nat) (hn : n ≤ 500) : ∃ d U d1 d2 : Nat, d + 1 = d1 ∧ d + 2 = d2 ∧ 2 * n = d ∧ 2 * n + 3 = U ∧ d + 3 = U ∧ n ≤ d ∧ d - n = n ∧ Hid (IntKind.i64.wrap ((U : Int) - 3) = (d : Int) ∧ (d : Int).tdiv 2 = (n : Int) ∧ IntKind.i64.wrap (n : Int) = (n : Int) ∧ IntKind.i64.wrap (2 * (n : Int)) = (d : Int) ∧ IntKind.i64.wrap ((d : Int) + 1) = (d1 : Int) ∧ IntKind.i64.wrap ((d : Int) + 2) = (d2 : Int)) := by
  refine ⟨2 * n, 2 * n + 3, 2 * n + 1, 2 * n + 2, rfl, rfl, rfl, rfl, rfl, by omega, by omega, hid ⟨?_, ?_, ?_, ?_, ?_, ?_⟩⟩
  · rw [show ((2 * n + 3 : Nat) : Int) - 3 = ((2 * n : Nat) : Int) by omega]; exact Go.IntWalk.i64_in _ (by omega)
  · rw [Int.tdiv_eq_ediv_of_nonneg (by omega)]; omega
  · exact Go.IntWalk.i64_in _ (by omega)
  · rw [show 2 * (n : Int) = ((2 * n : Nat) : Int) by omega]; exact Go.IntWalk.i64_in _ (by omega)
  · exact Go.IntWalk.i64_in _ (by omega)
  · exact Go.IntWalk.i64_in _ (by omega)
theorem mt_turn {A : Option Addr} {c : Nat} (v : List Int) (n : Nat) (hn : n ≤ 500) (hv : v.length = 2 * n + 3) (hc : v.length ≤ c) (hc2 : c ≤ 9223372036854775807) (w : World) (ra : Rd (Value.int .i64) w w.heap.size A v) :
    Calls Try.prog 29 #[.slice A v.length c] w (OwnList (turnW v) w) := by
  obtain ⟨d, U, d1, d2, hd1, hd2, hd, hU, hdU, hnd, hdn, hws⟩ := turn_ar n hn
  obtain ⟨q1, q2, q3, q4, q5, q6⟩ := hws.out
  have hvU : v.length = U := by rw [hv, hU]
  have hT : turnW v = ((v.drop n).take n ++ v.take n) ++ [v.getD d1 0, v.getD d 0, v.getD d2 0] := by
    unfold turnW
    rw [hvU, show (U - 3) / 2 = n by omega, hd, hd1, hd2]
  have hs1 := fun W => run_part (P := Try.prog) 22 Try.underlying22 Try.sizeOf2 A U c n d hnd (by omega) W
  have hs2 := fun W => run_upto (P := Try.prog) 22 Try.underlying22 Try.sizeOf2 A U c n (by omega) W
  rw [hdn] at hs1
  have R1 := hid ((ra.cut n (c := c) hc).some_cut n)
  have R2 := hid (ra.cut0 (c := c) hc n)
  obtain ⟨P1, hP1⟩ : ∃ P, (v.drop n).take n = P := ⟨_, rfl⟩
  obtain ⟨P2, hP2⟩ : ∃ P, v.take n = P := ⟨_, rfl⟩
  have l1 : P1.length = n := by rw [← hP1, List.length_take, List.length_drop, hvU]; omega
  have l2 : P2.length = n := by rw [← hP2, List.length_take, hvU]; omega
  rw [hP1] at R1 hT
  rw [hP2] at R2 hT
  have HL1 := hid l1
  have HL2 := hid l2
  have HTT := hid hT
  obtain ⟨b, o, y0, rfl, hb, e0, c0⟩ := ra.at_ (k := d) (by omega)
  obtain ⟨b', o', y1, eA, _, e1, c1⟩ := ra.at_ (k := d1) (by omega)
  cases eA
  obtain ⟨b', o', y2, eA, _, e2, c2⟩ := ra.at_ (k := d2) (by omega)
  cases eA
  have HY : Hid (v.getD d1 0 = y1 ∧ v.getD d 0 = y0 ∧ v.getD d2 0 = y2) := hid ⟨by rw [List.getD_eq_getElem?_getD, e1]; rfl, by rw [List.getD_eq_getElem?_getD, e0]; rfl, by rw [List.getD_eq_getElem?_getD, e2]; rfl⟩
  obtain ⟨Q1, hQ1⟩ : ∃ Q, cutA (some ⟨b, o, none⟩) n c = Q := ⟨_, rfl⟩
  obtain ⟨Q2, hQ2⟩ : ∃ Q, cutA (some ⟨b, o, none⟩) 0 c = Q := ⟨_, rfl⟩
  rw [hQ1] at hs1 R1
  rw [hQ2] at hs2 R2
  have hN5 := hid hn
  have hi1 : d1 < U := by omega
  have hi2 : d < U := by omega
  have hi0 : d2 < U := by omega
  rw [hvU]
  have h20 : (2 : Int) ≠ 0 := by decide
  clear hd1 hd2 hd hU hdU hnd hdn hws hvU hv hT hP1 hP2 l1 l2 e0 e1 e2 hQ1 hQ2 ra hc hc2 hn
  go_enter Try.func29, Try.ntmps29
  go_wp2_with fail
  go_region_law (first
    | (refine step_app (Value.int .i64) (fun _ => rfl) rfl _ _ 22 rfl w.heap.size 2 (.int .i64 0) 8 Try.underlying22 info_i64 rfl [] none 0 rfl (own_nil _ _ _) P1 Q1 (c - n) _ (by rw [HL1.out]; rfl) (R1.out.on ((Below.refl _ w).drew)) (by have := HL1.out; have := hN5.out; simp [maxLen]; omega) (by have := HL1.out; have := hN5.out; simp; omega) (Nat.le_refl _) ?_
       rintro S1 A5 c5 w5 hS1 ho5 hb5 _
       have HS1 : Hid (S1 = P1) := hid (by simpa using hS1)
       have HO5 := hid ho5
       have K5 : Hid (Below w.heap.size w w5) := hid (Below.trans ((Below.refl _ w).drew) hb5)
       clear hS1 ho5 hb5)
    | (refine step_app (Value.int .i64) (fun _ => rfl) rfl _ _ 22 rfl w.heap.size 2 (.int .i64 0) 8 Try.underlying22 info_i64 rfl S1 A5 c5 rfl HO5.out P2 Q2 c _ (by rw [HL2.out]; rfl) (R2.out.on K5.out) (by have := HL1.out; have := HL2.out; have := hN5.out; have := HS1.out; simp [maxLen, this]; omega) (by have := HL1.out; have := HL2.out; have := hN5.out; have := HS1.out; simp [this]; omega) K5.out.size ?_
       rintro S2 A6 c6 w6 hS2 ho6 hb6 _
       have HS2 := hid hS2
       have HO6 := hid ho6
       have K6 : Hid (Below w.heap.size w w6) := hid (K5.out.trans hb6)
       clear hS2 ho6 hb6))
  have k0 := (K6.out.cell (p := ⟨b, o + d, none⟩) hb).trans c0
  have k1 := (K6.out.cell (p := ⟨b, o + d1, none⟩) hb).trans c1
  have k2 := (K6.out.cell (p := ⟨b, o + d2, none⟩) hb).trans c2
  have HS : Hid (S2 = P1 ++ P2) := hid (by rw [HS2.out, HS1.out])
  have hz6 := K6.out.size
  clear c0 c1 c2 HO5 K5 HS1 HS2 R1 R2 hs1 hs2
  generalize w6 = wo at *
  have r3 : Rd (Value.int .i64) (wo.drew.alloc (.cells #[.int .i64 y1, .int .i64 y0, .int .i64 y2] 2)) _ (some ⟨wo.heap.size, 0, none⟩) [y1, y0, y2] := rd_new (enc := Value.int .i64) wo.drew 2 [y1, y0, y2]
  have HR3 := hid r3
  have HO6' := hid (own_on HO6.out (Below.trans ((Below.refl _ wo).drew) ((Below.refl _ wo.drew).alloc (Nat.le_refl _) (.cells #[.int .i64 y1, .int .i64 y0, .int .i64 y2] 2))))
  clear r3
  go_wp2_with fail
  go_region_law (refine step_app (Value.int .i64) (fun _ => rfl) rfl _ _ 22 rfl w.heap.size 2 (.int .i64 0) 8 Try.underlying22 info_i64 rfl S2 A6 c6 rfl HO6'.out [y1, y0, y2] (some ⟨wo.heap.size, 0, none⟩) 3 _ rfl HR3.out (by have := HL1.out; have := HL2.out; have := hN5.out; have h := HS.out; simp [maxLen, h]; omega) (by have := HL1.out; have := HL2.out; have := hN5.out; have h := HS.out; simp [h]; omega) (by simp; omega) ?_
                 rintro S3 A7 c7 w7 hS3 ho7 hb7 _
                 have HS3 := hid hS3
                 have HO7 := hid ho7
                 have K7 : Hid (Below w.heap.size w w7) := hid ((K6.out.drew.alloc (by simp; omega) _).trans hb7)
                 clear hS3 ho7 hb7)
  all_goals (
    have hTS : turnW v = S3 := by rw [HTT.out, HY.out.1, HY.out.2.1, HY.out.2.2, HS3.out, HS.out]
    have HTS := hid hTS
    clear hTS
    go_wp2_with fail
    refine bodyPost_ret (v := .slice A7 S3.length c7) (by simp [results, Try.f29, go_sem]) rfl ?_
    rw [HTS.out]
    exact ⟨A7, c7, rfl, HO7.out, K7.out⟩)
end Go.Proofs.Ytekpejemfkjhcaa
