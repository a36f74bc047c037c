
/-
  VecBack answers true for every input. No condition.
-/
import Derived.Test.YtmljhckbeoalgaaVecM
import Derived.Test.YtmljhckbeoalgaaOpen
namespace Go.Proofs.Ytmljhckbeoalgaa.VecBack
open Go.ChangeShapes Go.WideShapes Go.ChangeAt Go.RowKit
set_option maxHeartbeats 400000
set_option linter.unusedVariables false
open Go.Proofs.Ytmljhckbeoalgaa
/-- Two lists handed on as one list of lists. -/
theorem walk (Aa : Option Addr) (a : List Int) (ca : Nat) (Ab : Option Addr) (b : List Int) (cb : Nat) (w : World) (ra : Rd (Value.int .i64) w w.heap.size Aa a) (ia : I64s a) (la : a.length ≤ ca) (ma : ca ≤ 9223372036854775807) (rb : Rd (Value.int .i64) w w.heap.size Ab b) (ib : I64s b) (lb : b.length ≤ cb) (mb : cb ≤ 9223372036854775807) :
    Calls Try.prog 5 #[.slice Aa a.length ca, .slice Ab b.length cb] w fun e w' => e = .returned (.bool true) ∧ Below w.heap.size w w' := by
  have RA := hid ra
  have RB := hid rb
  have IA := hid ia
  have IB := hid ib
  have la' : a.length ≤ 9223372036854775807 := by omega
  have lb' : b.length ≤ 9223372036854775807 := by omega
  have CF := hid (fun (W : World) h1 h2 => few_two (A := Aa) (B := Ab) (c := ca) (d := cb) a b la' lb' W h1 h2)
  obtain ⟨S, hS⟩ : ∃ S, opV (· + ·) a b = S := ⟨_, rfl⟩
  obtain ⟨e1, he1⟩ : ∃ S, opE (· + ·) a b = S := ⟨_, rfl⟩
  obtain ⟨D, hD⟩ : ∃ S, opV (· - ·) a b = S := ⟨_, rfl⟩
  obtain ⟨e2, he2⟩ : ∃ S, opE (· - ·) a b = S := ⟨_, rfl⟩
  have lS : S.length ≤ 4096 := by rw [← hS]; exact opV_len _ _ _
  have lD : D.length ≤ 4096 := by rw [← hD]; exact opV_len _ _ _
  have IS := hid (show I64s S by rw [← hS]; exact opV_i64 _ _ _)
  have ID := hid (show I64s D by rw [← hD]; exact opV_i64 _ _ _)
  have CAdd := hid (fun (W : World) r1 r2 => Add_any (A := Aa) (B := Ab) (c := ca) (d := cb) a b la' lb' ia ib W r1 r2)
  have CSub := hid (fun (W : World) r1 r2 => Sub_any (A := Aa) (B := Ab) (c := ca) (d := cb) a b la' lb' ia ib W r1 r2)
  rw [hS, he1] at CAdd
  rw [hD, he2] at CSub
  have M1 := hid (fun h : opE (· + ·) a b = 0 => add_back ia ib h)
  have M2 := hid (fun h : opE (· - ·) a b = 0 => sub_back (ys := b) ia h)
  have M3 := hid (fun h : opE (· - ·) a b ≠ 0 => opV_off h)
  rw [he1, hS] at M1
  rw [he2, hD] at M2 M3
  clear ra rb ia ib hS he1 hD he2
  go_enter Try.func5, Try.ntmps5
  go_wp2_with fail
  refine (live_yes _).mono ?_
  rintro _ w1 ⟨rfl, hb1⟩
  go_wp2_with fail
  have k1 : Below w.heap.size w (w1.alloc (.cells #[.slice Aa a.length ca, .slice Ab b.length cb] 22)) := hb1.alloc hb1.size _
  refine (CF.out w1 (RA.out.on hb1) (RB.out.on hb1)).mono ?_
  rintro _ _ ⟨rfl, rfl⟩
  obtain ⟨w2, hw2⟩ : ∃ w2, w1.alloc (.cells #[.slice Aa a.length ca, .slice Ab b.length cb] 22) = w2 := ⟨_, rfl⟩
  rw [hw2] at k1 ⊢
  clear hw2 hb1
  cases hf : fewB [a, b] with
  | false =>
    go_wp2_with fail
    go_ret
    exact ⟨rfl, k1⟩
  | true =>
    clear hf
    go_wp2_with fail
    refine (CAdd.out w2 (RA.out.on k1) (RB.out.on k1)).mono ?_
    rintro _ w3 ⟨A3, c3, rfl, ho3, hb3⟩
    have k3 := k1.trans (hb3.mono k1.size)
    have HS3 := hid (own_rd ho3)
    have HO3 := hid ho3
    clear ho3
    clear hb3 k1
    by_cases h1 : e1 = 0
    · subst h1
      obtain ⟨m1, m2, m3, m4⟩ := M1.out (by trivial)
      have CX := hid (fun (A : Option Addr) (c : Nat) (W : World) r1 r2 => Sub_any (A := A) (B := Ab) (c := c) (d := cb) S b (by omega) lb' IS.out IB.out W r1 r2)
      rw [m1, m2] at CX
      have CZ := hid (fun (W : World) r1 r2 => Add_any (A := Ab) (B := Aa) (c := cb) (d := ca) b a lb' la' IB.out IA.out W r1 r2)
      rw [m3, m4] at CZ
      have CY1 := hid (fun (A B : Option Addr) (c d : Nat) (W : World) r1 r2 => Same_any (A := A) (B := B) (c := c) (d := d) a a la' la' W r1 r2)
      have CY2 := hid (fun (A B : Option Addr) (c d : Nat) (W : World) r1 r2 => Same_any (A := A) (B := B) (c := c) (d := d) S S (by omega) (by omega) W r1 r2)
      rw [eqB_self] at CY1 CY2
      clear m1 m2 m3 m4
      go_wp2_with fail
      refine (CX.out _ _ w3 HS3.out (RB.out.on k3)).mono ?_
      rintro _ w4 ⟨A4, c4, rfl, ho4, hb4⟩
      have k4 := k3.trans (hb4.mono k3.size)
      have HL5 := hid (HS3.out.on hb4)
      clear HS3
      have HS4 := hid (own_rd ho4)
      have HO4 := hid ho4
      clear ho4
      clear hb4 k3
      go_wp2_with fail
      refine (CZ.out w4 (RB.out.on k4) (RA.out.on k4)).mono ?_
      rintro _ w6 ⟨A6, c6, rfl, ho6, hb6⟩
      have k6 := k4.trans (hb6.mono k4.size)
      have HL7 := hid (HL5.out.on hb6)
      clear HL5
      have HL8 := hid (HS4.out.on hb6)
      clear HS4
      have HS6 := hid (own_rd ho6)
      have HO6 := hid ho6
      clear ho6
      clear hb6 k4
      go_wp2_with fail
      refine (CY1.out _ _ _ _ w6 HL8.out (RA.out.on k6)).mono ?_
      rintro _ w9 ⟨rfl, hb9⟩
      have k9 := k6.trans (hb9.mono k6.size)
      have HL10 := hid (HL7.out.on hb9)
      clear HL7
      have HL11 := hid (HL8.out.on hb9)
      clear HL8
      have HL12 := hid (HS6.out.on hb9)
      clear HS6
      clear hb9 k6
      go_wp2_with fail
      refine (CY2.out _ _ _ _ w9 HL12.out HL10.out).mono ?_
      rintro _ w13 ⟨rfl, hb13⟩
      have k13 := k9.trans (hb13.mono k9.size)
      have HL14 := hid (HL10.out.on hb13)
      clear HL10
      have HL15 := hid (HL11.out.on hb13)
      clear HL11
      have HL16 := hid (HL12.out.on hb13)
      clear HL12
      clear hb13 k9
      go_wp2_with fail
      refine (CSub.out w13 (RA.out.on k13) (RB.out.on k13)).mono ?_
      rintro _ w17 ⟨A17, c17, rfl, ho17, hb17⟩
      have k17 := k13.trans (hb17.mono k13.size)
      have HL18 := hid (HL14.out.on hb17)
      clear HL14
      have HL19 := hid (HL15.out.on hb17)
      clear HL15
      have HL20 := hid (HL16.out.on hb17)
      clear HL16
      have HS17 := hid (own_rd ho17)
      have HO17 := hid ho17
      clear ho17
      clear hb17 k13
      by_cases h2 : e2 = 0
      · subst h2
        obtain ⟨m1, m2⟩ := M2.out (by trivial)
        have CX := hid (fun (A : Option Addr) (c : Nat) (W : World) r1 r2 => Add_any (A := A) (B := Ab) (c := c) (d := cb) D b (by omega) lb' ID.out IB.out W r1 r2)
        rw [m1, m2] at CX
        have CY := hid (fun (A B : Option Addr) (c d : Nat) (W : World) r1 r2 => Same_any (A := A) (B := B) (c := c) (d := d) a a la' la' W r1 r2)
        rw [eqB_self] at CY
        clear m1 m2
        go_wp2_with fail
        refine (CX.out _ _ w17 HS17.out (RB.out.on k17)).mono ?_
        rintro _ w21 ⟨A21, c21, rfl, ho21, hb21⟩
        have k21 := k17.trans (hb21.mono k17.size)
        have HL22 := hid (HL18.out.on hb21)
        clear HL18
        have HL23 := hid (HL19.out.on hb21)
        clear HL19
        have HL24 := hid (HL20.out.on hb21)
        clear HL20
        have HL25 := hid (HS17.out.on hb21)
        clear HS17
        have HS21 := hid (own_rd ho21)
        have HO21 := hid ho21
        clear ho21
        clear hb21 k17
        go_wp2_with fail
        refine (CY.out _ _ _ _ w21 HS21.out (RA.out.on k21)).mono ?_
        rintro _ w26 ⟨rfl, hb26⟩
        have k26 := k21.trans (hb26.mono k21.size)
        have HL27 := hid (HL22.out.on hb26)
        clear HL22
        have HL28 := hid (HS21.out.on hb26)
        clear HS21
        have HL29 := hid (HL24.out.on hb26)
        clear HL24
        have HL30 := hid (HL25.out.on hb26)
        clear HL25
        clear hb26 k21
        go_wp2_with fail
        go_ret
        exact ⟨rfl, k26⟩
      · have hne : (e2 != 0) = true := by simpa using h2
        have hd := M3.out h2
        have hl : D.length = 0 := by rw [hd]; rfl
        clear hd h2
        go_wp2_with fail
        go_ret
        exact ⟨rfl, k17⟩
    · have hne1 : (e1 == 0) = false := by simpa using h1
      clear h1
      go_wp2_with fail
      refine (CSub.out w3 (RA.out.on k3) (RB.out.on k3)).mono ?_
      rintro _ w4 ⟨A4, c4, rfl, ho4, hb4⟩
      have k4 := k3.trans (hb4.mono k3.size)
      have HS4 := hid (own_rd ho4)
      have HO4 := hid ho4
      clear ho4
      clear hb4 k3
      by_cases h2 : e2 = 0
      · subst h2
        obtain ⟨m1, m2⟩ := M2.out (by trivial)
        have CX := hid (fun (A : Option Addr) (c : Nat) (W : World) r1 r2 => Add_any (A := A) (B := Ab) (c := c) (d := cb) D b (by omega) lb' ID.out IB.out W r1 r2)
        rw [m1, m2] at CX
        have CY := hid (fun (A B : Option Addr) (c d : Nat) (W : World) r1 r2 => Same_any (A := A) (B := B) (c := c) (d := d) a a la' la' W r1 r2)
        rw [eqB_self] at CY
        clear m1 m2
        go_wp2_with fail
        refine (CX.out _ _ w4 HS4.out (RB.out.on k4)).mono ?_
        rintro _ w5 ⟨A5, c5, rfl, ho5, hb5⟩
        have k5 := k4.trans (hb5.mono k4.size)
        have HL6 := hid (HS4.out.on hb5)
        clear HS4
        have HS5 := hid (own_rd ho5)
        have HO5 := hid ho5
        clear ho5
        clear hb5 k4
        go_wp2_with fail
        refine (CY.out _ _ _ _ w5 HS5.out (RA.out.on k5)).mono ?_
        rintro _ w7 ⟨rfl, hb7⟩
        have k7 := k5.trans (hb7.mono k5.size)
        have HL8 := hid (HL6.out.on hb7)
        clear HL6
        have HL9 := hid (HS5.out.on hb7)
        clear HS5
        clear hb7 k5
        go_wp2_with fail
        go_ret
        exact ⟨rfl, k7⟩
      · have hne : (e2 != 0) = true := by simpa using h2
        have hd := M3.out h2
        have hl : D.length = 0 := by rw [hd]; rfl
        clear hd h2
        go_wp2_with fail
        go_ret
        exact ⟨rfl, k4⟩
theorem law_types : ∀ t ∈ Try.f5.params.toList, Try.prog.readableRec t = true ∧ t < Try.prog.types.size := by
  have h : (Try.f5.params.toList.all fun t => Try.prog.readableRec t && decide (t < Try.prog.types.size)) = true := by kernel_rfl
  intro t ht
  simpa using List.all_eq_true.1 h t ht
set_option maxRecDepth 100000 in
theorem lifted (os : Os) (started : os.Started) (H : Type) (enc : TypeId × Value → H) :
    ReturnsInHanded {} Try.checked os 5 .any (Rows.vecBackSpec.pre6 enc Try.prog Try.f5 Rows.vecBackRow.domain false) (Rows.vecBackSpec.post enc Try.prog Try.f5 false true false false) := by
  refine returnsInHanded_of_change (C := Try.checked) own started (by kernel_rfl) Try.func5
    (ChangeSpec.witness6 (enc := enc) (C := Try.checked) false ⟨#[], #[.slice none 0 0, .slice none 0 0], []⟩ 8 (by kernel_rfl) (by kernel_rfl) (by kernel_rfl) (by kernel_rfl)) ?_
  intro W base args ds gs before hval0 hW hcnd _
  have hval : ∀ (j : Nat) t v, Try.f5.params[j]? = some t → args[j]? = some v → Value.okWide Try.prog W .any base t v := hval0
  have hW' := hW
  obtain ⟨p, q, hA0, hV, rfl, hfz, hnd⟩ := hW
  have hA : DataW.TrodAll enc Try.prog W 0 (fun _ => true) true Try.f5.params.toList args.toList ds p := hA0
  rw [Try.params5] at hA hval
  obtain ⟨v0, vs0, d0, ds0, p0, q0, hargs, rfl, rfl, h0, r0⟩ := trodAll_cons hA
  obtain ⟨v1, vs1, d1, ds1, p1, q1, rfl, rfl, rfl, h1, r1⟩ := trodAll_cons r0
  obtain ⟨rfl, rfl, rfl⟩ := trodAll_nil r1
  obtain rfl : args = #[v0, v1] := by cases args; simp_all
  obtain ⟨rfl, rfl⟩ := trodVars_none hV
  obtain ⟨Aa, a, ca, rfl, rda, ia, lca, lma⟩ := open_i64s Try.underlying22 Try.underlying2 cells_i64 (hval 0 22 v0 rfl rfl) h0
  obtain ⟨Ab, b, cb, rfl, rdb, ib, lcb, lmb⟩ := open_i64s Try.underlying22 Try.underlying2 cells_i64 (hval 1 22 v1 rfl rfl) h1
  clear hA0 hval0
  refine (walk Aa a ca Ab b cb W rda ia lca lma rdb ib lcb lmb).mono fun e W' ⟨he, hb⟩ => ?_
  subst he
  exact ⟨_, rfl, law_post laid (fun t ht => law_types t ht) rfl hW' ⟨rfl, rfl, rfl⟩ (by kernel_rfl) Try.underlying4 hb⟩

theorem over : Rows.vecBackRow.holds Try.pinned (OpenSpec.ofChange Rows.vecBackSpec) :=
  OpenClaim.holds_of_wide 5 Try.f5 rfl rfl rfl rfl rfl rfl rfl ⟨rfl, rfl, rfl, rfl, rfl⟩ rfl rfl rfl rfl rfl (by kernel_rfl) Try.func5 (by kernel_rfl)
    (of_decide_eq_true (by kernel_rfl)) (by unfold Func.isWrapper; first | (rw [if_pos (by decide +kernel)]; kernel_rfl) | (rw [if_neg (by decide +kernel)]; exact ⟨rfl, rfl⟩))
    (fun os started H enc _ => lifted os started H enc)

theorem proved : Rows.VecBackSaid := over
end Go.Proofs.Ytmljhckbeoalgaa.VecBack
