
/-
  VecTells answers true for every input. No condition.
-/
import Derived.Test.YtmljhckbeoalgaaVecM
import Derived.Test.YtmljhckbeoalgaaOpen
namespace Go.Proofs.Ytmljhckbeoalgaa.VecTells
open Go.ChangeShapes Go.WideShapes Go.ChangeAt Go.RowKit
set_option maxHeartbeats 400000
set_option linter.unusedVariables false
open Go.Proofs.Ytmljhckbeoalgaa
set_option maxRecDepth 100000 in
theorem walk (Aa : Option Addr) (a : List Int) (ca : Nat) (Ab : Option Addr) (b : List Int) (cb : Nat) (frac : Int) (Al : Option Addr) (l : List (List Int)) (cl : Nat) (w : World) (ra : Rd (Value.int .i64) w w.heap.size Aa a) (ia : I64s a) (la : a.length ≤ ca) (ma : ca ≤ 9223372036854775807) (rb : Rd (Value.int .i64) w w.heap.size Ab b) (ib : I64s b) (lb : b.length ≤ cb) (mb : cb ≤ 9223372036854775807) (ifr : I64 frac)
    (rl : RdRows w w.heap.size Al l) (il : ∀ u ∈ l, I64s u ∧ u.length ≤ 9223372036854775807) (ll : l.length ≤ cl) (ml : cl ≤ 9223372036854775807) :
    Calls Try.prog 4 #[.slice Aa a.length ca, .slice Ab b.length cb, .int .i64 frac, .slice Al l.length cl] w fun e w' => e = .returned (.bool true) ∧ Below w.heap.size w w' := by
  have RA := hid ra
  have RB := hid rb
  have RL := hid rl
  have IL := hid il
  have la' : a.length ≤ 9223372036854775807 := by omega
  have lb' : b.length ≤ 9223372036854775807 := by omega
  have ll' : l.length ≤ 9223372036854775807 := by omega
  have CF := hid (fun (W : World) h1 h2 => few_two (A := Aa) (B := Ab) (c := ca) (d := cb) a b la' lb' W h1 h2)
  have CF2 := hid (fun (W : World) h1 => few_any Al cl l ll' (fun u hu => (IL.out u hu).2) W h1)
  have C1 := hid (fun (W : World) r1 r2 => Dot_any (A := Aa) (B := Ab) (c := ca) (d := cb) a b la' lb' ia ib frac W r1 r2)
  have R1 := hid (fun (W : World) r1 r2 => rDot_any (A := Aa) (B := Ab) (c := ca) (d := cb) a b la' lb' ia ib frac W r1 r2)
  have C2 := hid (fun (W : World) r1 => Size_any (A := Aa) (c := ca) a la' ia W r1)
  have R2 := hid (fun (W : World) r1 => rSize_any (A := Aa) (c := ca) a la' ia W r1)
  have C3 := hid (fun (W : World) r1 => Most_any (A := Aa) (c := ca) a la' ia W r1)
  have R3 := hid (fun (W : World) r1 => rMost_any (A := Aa) (c := ca) a la' ia W r1)
  obtain ⟨v1, hv1⟩ : ∃ S, dotV a b frac = S := ⟨_, rfl⟩
  obtain ⟨e1, he1⟩ : ∃ e, dotE a b frac = e := ⟨_, rfl⟩
  rw [hv1, he1] at C1 R1
  clear hv1 he1
  have q1 : (e1 == e1) = true := by simp
  have p1 : (v1 == v1) = true := by simp
  obtain ⟨v2, hv2⟩ : ∃ S, sizeV a = S := ⟨_, rfl⟩
  obtain ⟨e2, he2⟩ : ∃ e, sizeE a = e := ⟨_, rfl⟩
  rw [hv2, he2] at C2 R2
  clear hv2 he2
  have q2 : (e2 == e2) = true := by simp
  have p2 : (v2 == v2) = true := by simp
  obtain ⟨v3, hv3⟩ : ∃ S, mostV a = S := ⟨_, rfl⟩
  obtain ⟨e3, he3⟩ : ∃ e, mostE a = e := ⟨_, rfl⟩
  rw [hv3, he3] at C3 R3
  clear hv3 he3
  have q3 : (e3 == e3) = true := by simp
  have p3 : (v3 == v3) = true := by simp
  clear ra rb rl ia ib il
  go_enter Try.func4, Try.ntmps4
  go_wp2_with fail
  refine (live_yes _).mono ?_
  rintro _ w1 ⟨rfl, hb1⟩
  go_wp2_with fail
  have k1 : Below w.heap.size w (w1.alloc (.cells #[.slice Aa a.length ca, .slice Ab b.length cb] 22)) := hb1.alloc hb1.size _
  refine (CF.out w1 (RA.out.on hb1) (RB.out.on hb1)).mono ?_
  rintro _ _ ⟨rfl, rfl⟩
  obtain ⟨w2, hw2⟩ : ∃ w2, w1.alloc (.cells #[.slice Aa a.length ca, .slice Ab b.length cb] 22) = w2 := ⟨_, rfl⟩
  rw [hw2] at k1 ⊢
  clear hw2 hb1
  cases hf : fewB [a, b] with
  | false =>
    clear hf
    go_wp2_with fail
    go_ret
    exact ⟨rfl, k1⟩
  | true =>
    clear hf
    go_wp2_with fail
    refine (CF2.out w2 (RL.out.on k1)).mono ?_
    rintro _ _ ⟨rfl, rfl⟩
    cases hf : fewB l with
    | false =>
      clear hf
      go_wp2_with fail
      go_ret
      exact ⟨rfl, k1⟩
    | true =>
      have ho : RowsOk l := fun u hu => ⟨(IL.out u hu).1, by have := few_at hf hu; omega⟩
      have hl1 : l.length ≤ 1099511627776 := by have := few_len hf; omega
      have C5 := hid (fun (W : World) h => Sum_any Al cl l ho hl1 ll W h)
      have R5 := hid (fun (W : World) h => rSum_any Al cl l ho hl1 W h)
      obtain ⟨S5, hS5⟩ : ∃ S, (sumAll l).1 = S := ⟨_, rfl⟩
      obtain ⟨e5, he5⟩ : ∃ S, (sumAll l).2 = S := ⟨_, rfl⟩
      have l5 : S5.length ≤ 4096 := by rw [← hS5]; exact sumAll_len ho
      rw [hS5, he5] at C5 R5
      clear hS5 he5 hf ho
      have Y5 := hid (fun (A B : Option Addr) (c d : Nat) (W : World) r1 r2 => rSame_any (A := A) (B := B) (c := c) (d := d) S5 S5 (by omega) (by omega) W r1 r2)
      rw [eqB_self] at Y5
      have q5 : (e5 != e5) = false := by simp
      have q5' : (e5 == e5) = true := by simp
      go_wp2_with fail
      refine (C1.out w2 (RA.out.on k1) (RB.out.on k1)).mono ?_
      rintro _ w3 ⟨rfl, hb3⟩
      have k3 := k1.trans (hb3.mono k1.size)
      clear hb3 k1
      go_wp2_with fail
      refine (R1.out w3 (RA.out.on k3) (RB.out.on k3)).mono ?_
      rintro _ w4 ⟨rfl, hb4⟩
      have k4 := k3.trans (hb4.mono k3.size)
      clear hb4 k3
      go_wp2_with fail
      refine (C2.out w4 (RA.out.on k4)).mono ?_
      rintro _ w5 ⟨rfl, hb5⟩
      have k5 := k4.trans (hb5.mono k4.size)
      clear hb5 k4
      go_wp2_with fail
      refine (R2.out w5 (RA.out.on k5)).mono ?_
      rintro _ w6 ⟨rfl, hb6⟩
      have k6 := k5.trans (hb6.mono k5.size)
      clear hb6 k5
      go_wp2_with fail
      refine (C3.out w6 (RA.out.on k6)).mono ?_
      rintro _ w7 ⟨rfl, hb7⟩
      have k7 := k6.trans (hb7.mono k6.size)
      clear hb7 k6
      go_wp2_with fail
      refine (R3.out w7 (RA.out.on k7)).mono ?_
      rintro _ w8 ⟨rfl, hb8⟩
      have k8 := k7.trans (hb8.mono k7.size)
      clear hb8 k7
      have lW := k8.size
      have MB := Below.refl w8.heap.size w8
      go_wp2_with fail
      refine (C5.out w8 (RL.out.on k8)).mono ?_
      rintro _ w9 ⟨A9, c9, rfl, ho9, hb9⟩
      have k9 := k8.trans (hb9.mono k8.size)
      have MK10 := MB.trans (hb9.mono MB.size)
      clear MB
      have HS9 := hid (own_rd ho9)
      have HO9 := hid ho9
      clear ho9
      clear hb9 k8
      have MX := Below.refl w9.heap.size w9
      go_wp2_with fail
      refine (R5.out w9 (RL.out.on k9)).mono ?_
      rintro _ w11 ⟨A11, c11, rfl, ho11, hb11⟩
      have k11 := k9.trans (hb11.mono k9.size)
      have HL12 := hid (HS9.out.on hb11)
      clear HS9
      have MK13 := MK10.trans (hb11.mono MK10.size)
      clear MK10
      have MK14 := MX.trans (hb11.mono MX.size)
      clear MX
      have HS11 := hid (own_rd ho11)
      have HO11 := hid ho11
      clear ho11
      clear hb11 k9
      have MY := Below.refl w11.heap.size w11
      go_wp2_with fail
      refine (Y5.out _ _ _ _ w11 HL12.out HS11.out).mono ?_
      rintro _ w15 ⟨rfl, hb15⟩
      have k15 := k11.trans (hb15.mono k11.size)
      have HL16 := hid (HL12.out.on hb15)
      clear HL12
      have HL17 := hid (HS11.out.on hb15)
      clear HS11
      have MK18 := MK13.trans (hb15.mono MK13.size)
      clear MK13
      have MK19 := MK14.trans (hb15.mono MK14.size)
      clear MK14
      have MK20 := MY.trans (hb15.mono MY.size)
      clear MY
      clear hb15 k11
      have HP := hid (fun (g : Nat) (hA : A9 = some ⟨g, 0, none⟩) => own_lt (hA ▸ HO9.out))
      have HX := hid (own_on HO9.out MK19)
      have HY := hid (own_on HO11.out MK20)
      clear HO9 HO11 MK19 MK20
      go_wp2_with fail
      go_loopw [98] (fun i wr => ∃ (k : Nat) (zs : List Int), k ≤ S5.length ∧ i = .int .i64 k ∧ zs.length = S5.length ∧ wr.ownsRow w8.heap.size 2 1 (.slice A9 S5.length c9) S5.length (zs.map (Value.int .i64)) ∧ wr.ownsRow w9.heap.size 2 1 (.slice A11 S5.length c11) S5.length (S5.map (Value.int .i64)) ∧ Below w8.heap.size w15 wr) (fun i _ => S5.length - (intOf i).toNat)
      case atStart => exact ⟨0, S5, by omega, rfl, rfl, HX.out, HY.out, Below.refl _ _⟩
      case round =>
        obtain ⟨k, zs, hk, rfl, hz, hown, hown2, hbr⟩ := hrel
        have HZ := hid hz
        have HO := hid hown
        have HO2 := hid hown2
        by_cases hlt : k < S5.length
        · obtain ⟨g, hg, hgb, hgc, hgf⟩ := own_cell hown (show k < zs.length by omega)
          have hgl := HP.out g hg
          clear HX HY HP
          subst hg
          clear hz hown hown2
          go_wp2_with fail
          go_roundw
          case rel =>
            refine ⟨k + 1, zs.set k (wrap64 (zs.getD k 0 + 1)), by omega, by go_num, by rw [List.length_set]; exact HZ.out, ?_, ownsRow_setCell_below HO2.out hgl _, hbr.setCell hgb _⟩
            have h := (HO.out.stored k (.int .i64 (wrap64 (zs.getD k 0 + 1)))).1
            rw [← List.map_set] at h
            exact h
          case measure => simp [intOf]; omega
        · obtain rfl : k = S5.length := by omega
          clear hz hown hown2 HZ HO HX HY
          have kr := k15.trans (hbr.mono lW)
          have HQ := hid (own_rd HO2.out)
          go_wp2_with fail
          refine (R5.out wr (RL.out.on kr)).mono ?_
          rintro _ w901 ⟨A901, c901, rfl, ho901, hb901⟩
          have k901 := kr.trans (hb901.mono kr.size)
          have HL902 := hid (HQ.out.on hb901)
          clear HQ
          have HS901 := hid (own_rd ho901)
          have HO901 := hid ho901
          clear ho901
          clear hb901 kr
          go_wp2_with fail
          refine (Y5.out _ _ _ _ w901 HS901.out HL902.out).mono ?_
          rintro _ w903 ⟨rfl, hb903⟩
          have k903 := k901.trans (hb903.mono k901.size)
          have HL904 := hid (HL902.out.on hb903)
          clear HL902
          have HL905 := hid (HS901.out.on hb903)
          clear HS901
          clear hb903 k901
          go_wp2_with fail
          go_ret
          exact ⟨rfl, k903⟩
theorem law_types : ∀ t ∈ Try.f4.params.toList, Try.prog.readableRec t = true ∧ t < Try.prog.types.size := by
  have h : (Try.f4.params.toList.all fun t => Try.prog.readableRec t && decide (t < Try.prog.types.size)) = true := by kernel_rfl
  intro t ht
  simpa using List.all_eq_true.1 h t ht
set_option maxRecDepth 100000 in
theorem lifted (os : Os) (started : os.Started) (H : Type) (enc : TypeId × Value → H) :
    ReturnsInHanded {} Try.checked os 4 .any (Rows.vecTellsSpec.pre6 enc Try.prog Try.f4 Rows.vecTellsRow.domain false) (Rows.vecTellsSpec.post enc Try.prog Try.f4 false true false false) := by
  refine returnsInHanded_of_change (C := Try.checked) own started (by kernel_rfl) Try.func4
    (ChangeSpec.witness6 (enc := enc) (C := Try.checked) false ⟨#[], #[.slice none 0 0, .slice none 0 0, .int .i64 0, .slice none 0 0], []⟩ 8 (by kernel_rfl) (by kernel_rfl) (by kernel_rfl) (by kernel_rfl)) ?_
  intro W base args ds gs before hval0 hW hcnd _
  have hval : ∀ (j : Nat) t v, Try.f4.params[j]? = some t → args[j]? = some v → Value.okWide Try.prog W .any base t v := hval0
  have hW' := hW
  obtain ⟨p, q, hA0, hV, rfl, hfz, hnd⟩ := hW
  have hA : DataW.TrodAll enc Try.prog W 0 (fun _ => true) true Try.f4.params.toList args.toList ds p := hA0
  rw [Try.params4] at hA hval
  obtain ⟨v0, vs0, d0, ds0, p0, q0, hargs, rfl, rfl, h0, r0⟩ := trodAll_cons hA
  obtain ⟨v1, vs1, d1, ds1, p1, q1, rfl, rfl, rfl, h1, r1⟩ := trodAll_cons r0
  obtain ⟨v2, vs2, d2, ds2, p2, q2, rfl, rfl, rfl, h2, r2⟩ := trodAll_cons r1
  obtain ⟨v3, vs3, d3, ds3, p3, q3, rfl, rfl, rfl, h3, r3⟩ := trodAll_cons r2
  obtain ⟨rfl, rfl, rfl⟩ := trodAll_nil r3
  obtain rfl : args = #[v0, v1, v2, v3] := by cases args; simp_all
  obtain ⟨rfl, rfl⟩ := trodVars_none hV
  obtain ⟨Aa, a, ca, rfl, rda, ia, lca, lma⟩ := open_i64s Try.underlying22 Try.underlying2 cells_i64 (hval 0 22 v0 rfl rfl) h0
  obtain ⟨Ab, b, cb, rfl, rdb, ib, lcb, lmb⟩ := open_i64s Try.underlying22 Try.underlying2 cells_i64 (hval 1 22 v1 rfl rfl) h1
  obtain ⟨frac, rfl, rfl, rfl, w2⟩ := open_int Try.underlying3 (hval 2 3 v2 rfl rfl) h2
  obtain ⟨Al, l, cl, rfl, rdl, il, lcl, lml⟩ := open_rows Try.underlying35 Try.underlying22 Try.underlying2 cells_i64s cells_i64 (hval 3 35 v3 rfl rfl) h3
  clear hA0 hval0
  refine (walk Aa a ca Ab b cb frac Al l cl W rda ia lca lma rdb ib lcb lmb (I64.of_wf w2) rdl il lcl lml).mono fun e W' ⟨he, hb⟩ => ?_
  subst he
  exact ⟨_, rfl, law_post laid (fun t ht => law_types t ht) rfl hW' ⟨rfl, rfl, rfl⟩ (by kernel_rfl) Try.underlying4 hb⟩

theorem over : Rows.vecTellsRow.holds Try.pinned (OpenSpec.ofChange Rows.vecTellsSpec) :=
  OpenClaim.holds_of_wide 4 Try.f4 rfl rfl rfl rfl rfl rfl rfl ⟨rfl, rfl, rfl, rfl, rfl⟩ rfl rfl rfl rfl rfl (by kernel_rfl) Try.func4 (by kernel_rfl)
    (of_decide_eq_true (by kernel_rfl)) (by unfold Func.isWrapper; first | (rw [if_pos (by decide +kernel)]; kernel_rfl) | (rw [if_neg (by decide +kernel)]; exact ⟨rfl, rfl⟩))
    (fun os started H enc _ => lifted os started H enc)

theorem proved : Rows.VecTellsSaid := over
end Go.Proofs.Ytmljhckbeoalgaa.VecTells
