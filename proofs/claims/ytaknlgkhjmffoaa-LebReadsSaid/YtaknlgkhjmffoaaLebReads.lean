
/-
  LebReads answers true for every input. No condition.
-/
import Derived.Test.YtaknlgkhjmffoaaLebLv
import Derived.Test.YtaknlgkhjmffoaaLaw
namespace Go.Proofs.Ytaknlgkhjmffoaa.LebReads
open Go.ChangeShapes Go.WideShapes Go.ChangeAt Go.RowKit
set_option maxHeartbeats 400000
set_option linter.unusedVariables false
open Go.Proofs.Ytaknlgkhjmffoaa
set_option maxHeartbeats 4000000 in
set_option maxRecDepth 100000 in
theorem walk (Ab : Option Addr) (b : List Int) (cb : Nat) (a many : Int) (w : World) (rb : Rd (Value.int .u8) w w.heap.size Ab b) (ub : U8s b) (lb : b.length ≤ cb) (mb : cb ≤ 9223372036854775807) (ha : I64 a) (hm : I64 many) :
    Calls Try.prog 4 #[.slice Ab b.length cb, .int .i64 a, .int .i64 many] w fun e w' => e = .returned (.bool true) ∧ Below w.heap.size w w' := by
  have RB := hid rb
  clear rb
  by_cases hf : b.length ≤ 2000 ∧ many ≤ 500
  · have CF := hid (few_yes Ab b.length cb many hf.1 hf.2)
    have C1 := hid (fun W h => leb_Get (A := Ab) (c := cb) b lb mb ub a ha W (B := W.heap.size) h)
    have C2 := hid (fun W h => ref_Get (A := Ab) (c := cb) b lb mb ub a ha W (B := W.heap.size) h)
    have C3 := hid (fun W h => leb_Take (A := Ab) (c := cb) b lb mb ub a ha W h)
    have C4 := hid (fun W h => ref_Take (A := Ab) (c := cb) b lb mb ub a ha W h)
    have hmI : many ≤ 1000000 := by omega
    have C5 := hid (fun W h => leb_Many (A := Ab) (c := cb) b lb mb ub a many ha hm.1 hmI W h)
    have C6 := hid (fun W h => ref_Many (A := Ab) (c := cb) b lb mb ub a many ha hm.1 hmI W h)
    obtain ⟨N, hN⟩ : ∃ N, getN b a = N := ⟨_, rfl⟩
    obtain ⟨E, hE⟩ : ∃ N, getE b a = N := ⟨_, rfl⟩
    obtain ⟨X, hX⟩ : ∃ N, getA b a = N := ⟨_, rfl⟩
    obtain ⟨T, hT⟩ : ∃ N, takN b a = N := ⟨_, rfl⟩
    obtain ⟨⟨L, y, er⟩, hr⟩ : ∃ r, mnyV b many a = r := ⟨_, rfl⟩
    rw [hN, hE, hX] at C1 C2
    rw [hT, hE, hX] at C3 C4
    rw [hr] at C5 C6
    clear hN hE hX hT hr ub hf hmI
    go_enter Try.func4, Try.ntmps4
    go_wp2_with fail
    refine (live_yes _).mono ?_
    rintro _ w1 ⟨rfl, k1⟩
    go_wp2_with fail
    refine (CF.out _).mono ?_
    rintro _ _ ⟨rfl, rfl⟩
    have h1 := RB.out.on k1
    have HB1 := hid h1
    clear h1
    go_wp2_with fail
    refine (C1.out _ HB1.out).mono ?_
    rintro _ _ ⟨rfl, rfl⟩
    go_wp2_with fail
    refine (C2.out _ HB1.out).mono ?_
    rintro _ _ ⟨rfl, rfl⟩
    go_wp2_with fail
    refine (C3.out _ HB1.out).mono ?_
    rintro _ _ ⟨rfl, rfl⟩
    go_wp2_with fail
    refine (C4.out _ HB1.out).mono ?_
    rintro _ _ ⟨rfl, rfl⟩
    go_wp2_with fail
    refine (C5.out _ HB1.out).mono ?_
    rintro _ w2 ⟨A2, c2, rfl, ho2, k2⟩
    simp only at ho2 ⊢
    have HR2 := hid (own_rd ho2)
    obtain ⟨_, hL⟩ := own_cap ho2
    have hL2 : L.length ≤ 9223372036854775807 := by omega
    have HB2 := hid (HB1.out.on k2)
    have k12 := k1.trans (k2.mono k1.size)
    clear ho2 k1 k2 HB1
    go_wp2_with fail
    refine (C6.out _ HB2.out).mono ?_
    rintro _ w3 ⟨A3, c3, rfl, ho3, k3⟩
    simp only at ho3 ⊢
    have HR3 := hid (own_rd ho3)
    have HR23 := hid (HR2.out.on k3)
    have k13 := k12.trans (k3.mono k12.size)
    have CS := hid (ref_SameNumbers (A := A2) (B := A3) (c := c2) (d := c3) L L hL2 hL2 w3 HR23.out HR3.out)
    rw [eqB_self] at CS
    clear ho3 k12 k3
    go_wp2_with fail
    refine CS.out.mono ?_
    rintro _ w4 ⟨rfl, k4⟩
    go_wp2_with fail
    go_ret
    exact ⟨by simp, k13.trans (k4.mono k13.size)⟩
  · have CF := hid (few_no Ab b.length cb many (by omega) hf)
    clear hf ub
    go_enter Try.func4, Try.ntmps4
    go_wp2_with fail
    refine (live_yes _).mono ?_
    rintro _ w1 ⟨rfl, k1⟩
    go_wp2_with fail
    refine (CF.out _).mono ?_
    rintro _ _ ⟨rfl, rfl⟩
    go_wp2_with fail
    go_ret
    exact ⟨rfl, k1⟩
theorem law_types : ∀ t ∈ Try.f4.params.toList, Try.prog.readableRec t = true ∧ t < Try.prog.types.size := by
  have h : (Try.f4.params.toList.all fun t => Try.prog.readableRec t && decide (t < Try.prog.types.size)) = true := by kernel_rfl
  intro t ht
  simpa using List.all_eq_true.1 h t ht
set_option maxRecDepth 100000 in
theorem lifted (os : Os) (started : os.Started) (H : Type) (enc : TypeId × Value → H) :
    ReturnsInHanded {} Try.checked os 4 .any (Rows.lebReadsSpec.pre6 enc Try.prog Try.f4 Rows.lebReadsRow.domain false) (Rows.lebReadsSpec.post enc Try.prog Try.f4 false true false false) := by
  refine returnsInHanded_of_change (C := Try.checked) own started (by kernel_rfl) Try.func4
    (ChangeSpec.witness6 (enc := enc) (C := Try.checked) false ⟨#[], #[.slice none 0 0, .int .i64 0, .int .i64 0], []⟩ 8 (by kernel_rfl) (by kernel_rfl) (by kernel_rfl) (by kernel_rfl)) ?_
  intro W base args ds gs before hval0 hW hcnd _
  have hval : ∀ (j : Nat) t v, Try.f4.params[j]? = some t → args[j]? = some v → Value.okWide Try.prog W .any base t v := hval0
  have hW' := hW
  obtain ⟨p, q, hA0, hV, rfl, hfz, hnd⟩ := hW
  have hA : DataW.TrodAll enc Try.prog W 0 (fun _ => true) true Try.f4.params.toList args.toList ds p := hA0
  rw [Try.params4] at hA hval
  obtain ⟨v0, vs0, d0, ds0, p0, q0, hargs, rfl, rfl, h0, r0⟩ := trodAll_cons hA
  obtain ⟨v1, vs1, d1, ds1, p1, q1, rfl, rfl, rfl, h1, r1⟩ := trodAll_cons r0
  obtain ⟨v2, vs2, d2, ds2, p2, q2, rfl, rfl, rfl, h2, r2⟩ := trodAll_cons r1
  obtain ⟨rfl, rfl, rfl⟩ := trodAll_nil r2
  obtain rfl : args = #[v0, v1, v2] := by cases args; simp_all
  obtain ⟨rfl, rfl⟩ := trodVars_none hV
  obtain ⟨Ab, b, cb, rfl, rdb, ib, lcb, lmb⟩ := open_nums Try.underlying22 Try.underlying5 cells_u8 (hval 0 22 v0 rfl rfl) h0
  obtain ⟨a, rfl, rfl, rfl, w1⟩ := open_int Try.underlying3 (hval 1 3 v1 rfl rfl) h1
  obtain ⟨many, rfl, rfl, rfl, w2⟩ := open_int Try.underlying3 (hval 2 3 v2 rfl rfl) h2
  clear hA0 hval0
  refine (walk Ab b cb a many W rdb (fun x hx => bounds_u8 (ib x hx)) lcb lmb (I64.of_wf w1) (I64.of_wf w2)).mono fun e W' ⟨he, hb⟩ => ?_
  subst he
  exact ⟨_, rfl, law_post laid (fun t ht => law_types t ht) rfl hW' ⟨rfl, rfl, rfl⟩ (by kernel_rfl) Try.underlying4 hb⟩

theorem over : Rows.lebReadsRow.holds Try.pinned (OpenSpec.ofChange Rows.lebReadsSpec) :=
  OpenClaim.holds_of_wide 4 Try.f4 rfl rfl rfl rfl rfl rfl rfl ⟨rfl, rfl, rfl, rfl, rfl⟩ rfl rfl rfl rfl rfl (by kernel_rfl) Try.func4 (by kernel_rfl)
    (of_decide_eq_true (by kernel_rfl)) (by unfold Func.isWrapper; first | (rw [if_pos (by decide +kernel)]; kernel_rfl) | (rw [if_neg (by decide +kernel)]; exact ⟨rfl, rfl⟩))
    (fun os started H enc _ => lifted os started H enc)

theorem proved : Rows.LebReadsSaid := over
end Go.Proofs.Ytaknlgkhjmffoaa.LebReads
