
/-
  CrcSums answers true for every input. No condition.
-/
import Derived.Test.YtgkkliibeiklbaaCrcLv
import Derived.Test.YtgkkliibeiklbaaLaw
namespace Go.Proofs.Ytgkkliibeiklbaa.CrcSums
open Go.ChangeShapes Go.WideShapes Go.ChangeAt Go.RowKit
set_option maxHeartbeats 400000
set_option linter.unusedVariables false
open Go.Proofs.Ytgkkliibeiklbaa
set_option maxHeartbeats 4000000 in
set_option maxRecDepth 100000 in
theorem walk (Ab : Option Addr) (b : List Int) (cb : Nat) (s bit : Int) (w : World) (rb : Rd (Value.int .u8) w w.heap.size Ab b) (ub : U8s b) (lb : b.length ≤ cb) (mb : cb ≤ 9223372036854775807) (hs : 0 ≤ s ∧ s ≤ 4294967295) (hbit : I64 bit) :
    Calls Try.prog 3 #[.slice Ab b.length cb, .int .u32 s, .int .i64 bit] w fun e w' => e = .returned (.bool true) ∧ Below w.heap.size w w' := by
  obtain ⟨s, rfl⟩ := Int.eq_ofNat_of_zero_le hs.1
  have RB := hid rb
  clear rb
  by_cases hf : b.length ≤ 5000
  · have C1 := hid (fun W h => crc_Turn (A := Ab) (c := cb) b (by omega) ub bit hbit W (B := W.heap.size) h)
    have C2 := hid (fun W h => ref_Turn (A := Ab) (c := cb) b (by omega) ub bit hbit W (B := W.heap.size) h)
    have C3 := hid (fun W h => crc_Sum (A := Ab) (c := cb) b (by omega) ub W (B := W.heap.size) h)
    have C4 := hid (fun W h => ref_Sum (A := Ab) (c := cb) b (by omega) ub W (B := W.heap.size) h)
    have C5 := hid (fun W h => crc_More (A := Ab) (c := cb) s (by omega) b (by omega) ub W (B := W.heap.size) h)
    have C6 := hid (fun W h => ref_More (A := Ab) (c := cb) s (by omega) b (by omega) ub W (B := W.heap.size) h)
    have CX := hid (same_yes (trnV_bytes ub bit))
    have CB := hid (same_yes ub)
    obtain ⟨X, hX⟩ : ∃ X, trnV b bit = X := ⟨_, rfl⟩
    obtain ⟨E, hE⟩ : ∃ X, trnE b bit = X := ⟨_, rfl⟩
    obtain ⟨q1, hq1⟩ : ∃ X, sumN b = X := ⟨_, rfl⟩
    obtain ⟨q2, hq2⟩ : ∃ X, moreN s b = X := ⟨_, rfl⟩
    rw [hX, hE] at C1 C2
    rw [hX] at CX
    rw [hq1] at C3 C4
    rw [hq2] at C5 C6
    have hap := own_nil
    clear hX hE hq1 hq2 ub hbit hs
    go_enter Try.func3, Try.ntmps3
    go_wp2_with fail
    refine (live_yes _).mono ?_
    rintro _ w1 ⟨rfl, k1⟩
    go_wp2_with (at_builtin; refine wpList_app (Value.int .u8) (fun _ => rfl) _ rfl _ _ 22 rfl w1.heap.size 5 (.int .u8 0) 1 Try.underlying22 info_u8 rfl [] _ 0 rfl (own_nil _ _ _) b _ cb _ rfl (RB.out.on k1) (by simp [maxLen]; omega) (by simp; omega) (Nat.le_refl _) ?_)
    rintro S A2 c2 w2 hS ho hb2 _
    subst hS
    have HW2 := hid (own_rd ho)
    have k2 := k1.trans (hb2.mono k1.size)
    clear ho hb2 k1
    go_wp2_with fail
    refine (C1.out w2 (RB.out.on k2)).mono ?_
    rintro _ w101 ⟨A101, c101, rfl, ho101, hb101⟩
    have k101 := k2.trans (hb101.mono k2.size)
    have HL102 := hid (HW2.out.on hb101)
    clear HW2
    have HS101 := hid (own_rd ho101)
    have HO101 := hid ho101
    clear ho101
    clear hb101 k2
    go_wp2_with fail
    refine (C2.out w101 (RB.out.on k101)).mono ?_
    rintro _ w103 ⟨A103, c103, rfl, ho103, hb103⟩
    have k103 := k101.trans (hb103.mono k101.size)
    have HL104 := hid (HL102.out.on hb103)
    clear HL102
    have HL105 := hid (HS101.out.on hb103)
    clear HS101
    have HS103 := hid (own_rd ho103)
    have HO103 := hid ho103
    clear ho103
    clear hb103 k101
    go_wp2_with fail
    refine (C3.out w103 (RB.out.on k103)).mono ?_
    rintro _ _ ⟨rfl, rfl⟩
    go_wp2_with fail
    refine (C4.out w103 (RB.out.on k103)).mono ?_
    rintro _ _ ⟨rfl, rfl⟩
    go_wp2_with fail
    refine (C5.out w103 (RB.out.on k103)).mono ?_
    rintro _ _ ⟨rfl, rfl⟩
    go_wp2_with fail
    refine (C6.out w103 (RB.out.on k103)).mono ?_
    rintro _ _ ⟨rfl, rfl⟩
    go_wp2_with fail
    refine (CX.out _ _ _ _ w103 _ _ HL105.out HS103.out).mono ?_
    rintro _ _ ⟨rfl, rfl⟩
    go_wp2_with fail
    refine (CB.out _ _ _ _ w103 _ _ (RB.out.on k103) HL104.out).mono ?_
    rintro _ _ ⟨rfl, rfl⟩
    go_wp2_with fail
    go_ret
    exact ⟨rfl, k103⟩
  · have hf2 : 5000 < b.length := by omega
    clear hf ub hbit
    go_enter Try.func3, Try.ntmps3
    go_wp2_with fail
    refine (live_yes _).mono ?_
    rintro _ w1 ⟨rfl, k1⟩
    go_wp2_with fail
    go_ret
    exact ⟨rfl, k1⟩
theorem law_types : ∀ t ∈ Try.f3.params.toList, Try.prog.readableRec t = true ∧ t < Try.prog.types.size := by
  have h : (Try.f3.params.toList.all fun t => Try.prog.readableRec t && decide (t < Try.prog.types.size)) = true := by kernel_rfl
  intro t ht
  simpa using List.all_eq_true.1 h t ht
set_option maxRecDepth 100000 in
theorem lifted (os : Os) (started : os.Started) (H : Type) (enc : TypeId × Value → H) :
    ReturnsInHanded {} Try.checked os 3 .any (Rows.crcSumsSpec.pre6 enc Try.prog Try.f3 Rows.crcSumsRow.domain false) (Rows.crcSumsSpec.post enc Try.prog Try.f3 false true false false) := by
  refine returnsInHanded_of_change (C := Try.checked) own started (by kernel_rfl) Try.func3
    (ChangeSpec.witness6 (enc := enc) (C := Try.checked) false ⟨#[], #[.slice none 0 0, .int .u32 0, .int .i64 0], []⟩ 8 (by kernel_rfl) (by kernel_rfl) (by kernel_rfl) (by kernel_rfl)) ?_
  intro W base args ds gs before hval0 hW hcnd _
  have hval : ∀ (j : Nat) t v, Try.f3.params[j]? = some t → args[j]? = some v → Value.okWide Try.prog W .any base t v := hval0
  have hW' := hW
  obtain ⟨p, q, hA0, hV, rfl, hfz, hnd⟩ := hW
  have hA : DataW.TrodAll enc Try.prog W 0 (fun _ => true) true Try.f3.params.toList args.toList ds p := hA0
  rw [Try.params3] at hA hval
  obtain ⟨v0, vs0, d0, ds0, p0, q0, hargs, rfl, rfl, h0, r0⟩ := trodAll_cons hA
  obtain ⟨v1, vs1, d1, ds1, p1, q1, rfl, rfl, rfl, h1, r1⟩ := trodAll_cons r0
  obtain ⟨v2, vs2, d2, ds2, p2, q2, rfl, rfl, rfl, h2, r2⟩ := trodAll_cons r1
  obtain ⟨rfl, rfl, rfl⟩ := trodAll_nil r2
  obtain rfl : args = #[v0, v1, v2] := by cases args; simp_all
  obtain ⟨rfl, rfl⟩ := trodVars_none hV
  obtain ⟨Ab, b, cb, rfl, rdb, ib, lcb, lmb⟩ := open_nums Try.underlying22 Try.underlying5 cells_u8 (hval 0 22 v0 rfl rfl) h0
  obtain ⟨s, rfl, rfl, rfl, w1⟩ := open_int Try.underlying23 (hval 1 23 v1 rfl rfl) h1
  obtain ⟨bit, rfl, rfl, rfl, w2⟩ := open_int Try.underlying3 (hval 2 3 v2 rfl rfl) h2
  clear hA0 hval0
  refine (walk Ab b cb s bit W rdb (fun x hx => bounds_u8 (ib x hx)) lcb lmb (U32.of_wf w1) (I64.of_wf w2)).mono fun e W' ⟨he, hb⟩ => ?_
  subst he
  exact ⟨_, rfl, law_post laid (fun t ht => law_types t ht) rfl hW' ⟨rfl, rfl, rfl⟩ (by kernel_rfl) Try.underlying4 hb⟩

theorem over : Rows.crcSumsRow.holds Try.pinned (OpenSpec.ofChange Rows.crcSumsSpec) :=
  OpenClaim.holds_of_wide 3 Try.f3 rfl rfl rfl rfl rfl rfl rfl ⟨rfl, rfl, rfl, rfl, rfl⟩ rfl rfl rfl rfl rfl (by kernel_rfl) Try.func3 (by kernel_rfl)
    (of_decide_eq_true (by kernel_rfl)) (by unfold Func.isWrapper; first | (rw [if_pos (by decide +kernel)]; kernel_rfl) | (rw [if_neg (by decide +kernel)]; exact ⟨rfl, rfl⟩))
    (fun os started H enc _ => lifted os started H enc)

theorem proved : Rows.CrcSumsSaid := over
end Go.Proofs.Ytgkkliibeiklbaa.CrcSums
