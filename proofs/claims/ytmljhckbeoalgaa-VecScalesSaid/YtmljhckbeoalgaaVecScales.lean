
/-
  VecScales answers true for every input. No condition.
-/
import Derived.Test.YtmljhckbeoalgaaVecN
import Derived.Test.YtmljhckbeoalgaaOpen
namespace Go.Proofs.Ytmljhckbeoalgaa.VecScales
open Go.ChangeShapes Go.WideShapes Go.ChangeAt Go.RowKit
set_option maxHeartbeats 400000
set_option linter.unusedVariables false
open Go.Proofs.Ytmljhckbeoalgaa
set_option maxHeartbeats 2000000 in
set_option maxRecDepth 100000 in
theorem walk (Aa : Option Addr) (a : List Int) (ca : Nat) (Ab : Option Addr) (b : List Int) (cb : Nat) (frac : Int) (w : World) (ra : Rd (Value.int .i64) w w.heap.size Aa a) (ia : I64s a) (la : a.length ≤ ca) (ma : ca ≤ 9223372036854775807) (rb : Rd (Value.int .i64) w w.heap.size Ab b) (ib : I64s b) (lb : b.length ≤ cb) (mb : cb ≤ 9223372036854775807) (ifr : I64 frac) :
    Calls Try.prog 9 #[.slice Aa a.length ca, .slice Ab b.length cb, .int .i64 frac] w fun e w' => e = .returned (.bool true) ∧ Below w.heap.size w w' := by
  have RA := hid ra
  have RB := hid rb
  have IA := hid ia
  have IB := hid ib
  have la' : a.length ≤ 9223372036854775807 := by omega
  have lb' : b.length ≤ 9223372036854775807 := by omega
  have CF := hid (fun (W : World) h1 h2 => few_two (A := Aa) (B := Ab) (c := ca) (d := cb) a b la' lb' W h1 h2)
  have t1 : -30 ≤ frac.tmod 31 := by have := Int.lt_tmod_of_pos frac (show (0 : Int) < 31 by decide); omega
  have t2 : frac.tmod 31 ≤ 30 := by have := Int.tmod_lt_of_pos frac (show (0 : Int) < 31 by decide); omega
  obtain ⟨f1, hf1⟩ : ∃ t, frac.tmod 31 = t := ⟨_, rfl⟩
  rw [hf1] at t1 t2
  obtain ⟨m, hm⟩ : ∃ m : Nat, f1 % 31 = m := Int.eq_ofNat_of_zero_le (by omega)
  have hm2 : (f1 + 31) % 31 = m := by omega
  have hm30 : m ≤ 30 := by omega
  obtain ⟨P, hPf⟩ : ∃ P, (2 : Int) ^ m = P := ⟨_, rfl⟩
  have HP := hid hPf
  obtain ⟨iP, hP2, hP1⟩ := i64_pow hm30
  rw [hPf] at iP hP2 hP1
  clear ra rb ia ib
  go_enter Try.func9, Try.ntmps9
  go_wp2_with fail
  refine (live_yes _).mono ?_
  rintro _ w1 ⟨rfl, hb1⟩
  go_wp2_with fail
  have k1 : Below w.heap.size w (w1.alloc (.cells #[.slice Aa a.length ca, .slice Ab b.length cb] 22)) := hb1.alloc hb1.size _
  refine (CF.out w1 (RA.out.on hb1) (RB.out.on hb1)).mono ?_
  rintro _ _ ⟨rfl, rfl⟩
  obtain ⟨w2, hw2⟩ : ∃ w2, w1.alloc (.cells #[.slice Aa a.length ca, .slice Ab b.length cb] 22) = w2 := ⟨_, rfl⟩
  rw [hw2] at k1 ⊢
  clear hw2 hb1
  cases hf : fewB [a, b] with
  | false =>
    clear hf
    go_wp2_with fail
    go_ret
    exact ⟨rfl, k1⟩
  | true =>
    clear hf
    by_cases hl : a.length ≤ 4096
    · by_cases hab : a.length = b.length
      · have h4 : ((a.length : Int) != (b.length : Int)) = false := by simp; omega
        have h5 : (a.length != b.length) = false := by simp; omega
        have HAB := hid hab
        clear hab
        have C1 := hid (fun (W : World) r1 => Scale_any (A := Aa) (c := ca) a la' IA.out P m iP W r1)
        have C2 := hid (fun (W : World) r1 r2 => More_any (A := Ab) (B := Aa) (c := cb) (d := ca) a b la' lb' IA.out IB.out 0 m (by decide) W r1 r2)
        rw [(scale_self IA.out hl hm30 HP.out).1, (scale_self IA.out hl hm30 HP.out).2] at C1
        rw [(more_none IA.out hl HAB.out hm30).1, (more_none IA.out hl HAB.out hm30).2] at C2
        have CY := hid (fun (A B : Option Addr) (c d : Nat) (W : World) r1 r2 => Same_any (A := A) (B := B) (c := c) (d := d) a a la' la' W r1 r2)
        rw [eqB_self] at CY
        obtain ⟨S, hS⟩ : ∃ S, opV (· + ·) a b = S := ⟨_, rfl⟩
        obtain ⟨e3, he3⟩ : ∃ S, opE (· + ·) a b = S := ⟨_, rfl⟩
        have C3 := hid (fun (W : World) r1 r2 => Add_any (A := Aa) (B := Ab) (c := ca) (d := cb) a b la' lb' IA.out IB.out W r1 r2)
        have lS : S.length ≤ 4096 := by rw [← hS]; exact opV_len _ _ _
        have iS : I64s S := by rw [← hS]; exact opV_i64 _ _ _
        have C4 := hid (fun (A : Option Addr) (c : Nat) (W : World) r1 r2 => Add_any (A := A) (B := Ab) (c := c) (d := cb) S b (by omega) lb' iS IB.out W r1 r2)
        obtain ⟨T, hT⟩ : ∃ T, opV (· + ·) S b = T := ⟨_, rfl⟩
        obtain ⟨e4, he4⟩ : ∃ S', opE (· + ·) S b = S' := ⟨_, rfl⟩
        have C5 := hid (fun (W : World) r1 r2 => More_any (A := Ab) (B := Aa) (c := cb) (d := ca) a b la' lb' IA.out IB.out 2 0 (by decide) W r1 r2)
        obtain ⟨U, hU⟩ : ∃ S', moreV a b 2 0 = S' := ⟨_, rfl⟩
        obtain ⟨e5, he5⟩ : ∃ S', moreE a b 2 0 = S' := ⟨_, rfl⟩
        have MT := hid (fun h1 h2 h3 => twice_same (a := a) (b := b) h1 h2 h3)
        have lT : T.length ≤ 4096 := by rw [← hT]; exact opV_len _ _ _
        have lU : U.length ≤ 4096 := by rw [← hU]; exact moreV_len _ _ _ _
        rw [hS, he3] at C3
        rw [hT, he4] at C4
        rw [hU, he5] at C5
        rw [hS, he3, he4, hT, he5, hU] at MT
        clear iS hS he3 hT he4 hU he5
        go_wp2_with fail
        refine (C1.out w2 (RA.out.on k1)).mono ?_
        rintro _ w3 ⟨A3, c3, rfl, ho3, hb3⟩
        have k3 := k1.trans (hb3.mono k1.size)
        have HS3 := hid (own_rd ho3)
        have HO3 := hid ho3
        clear ho3
        clear hb3 k1
        go_wp2_with fail
        refine (C2.out w3 (RB.out.on k3) (RA.out.on k3)).mono ?_
        rintro _ w4 ⟨A4, c4, rfl, ho4, hb4⟩
        have k4 := k3.trans (hb4.mono k3.size)
        have HL5 := hid (HS3.out.on hb4)
        clear HS3
        have HS4 := hid (own_rd ho4)
        have HO4 := hid ho4
        clear ho4
        clear hb4 k3
        clear hf1 hm hm2 hPf
        go_wp2_with fail
        refine (CY.out _ _ _ _ w4 HL5.out (RA.out.on k4)).mono ?_
        rintro _ w6 ⟨rfl, hb6⟩
        have k6 := k4.trans (hb6.mono k4.size)
        have HL7 := hid (HL5.out.on hb6)
        clear HL5
        have HL8 := hid (HS4.out.on hb6)
        clear HS4
        clear hb6 k4
        go_wp2_with fail
        refine (CY.out _ _ _ _ w6 HL8.out (RA.out.on k6)).mono ?_
        rintro _ w9 ⟨rfl, hb9⟩
        have k9 := k6.trans (hb9.mono k6.size)
        have HL10 := hid (HL8.out.on hb9)
        clear HL8
        clear hb9 k6
        go_wp2_with fail
        refine (C3.out w9 (RA.out.on k9) (RB.out.on k9)).mono ?_
        rintro _ w11 ⟨A11, c11, rfl, ho11, hb11⟩
        have k11 := k9.trans (hb11.mono k9.size)
        have HS11 := hid (own_rd ho11)
        have HO11 := hid ho11
        clear ho11
        clear hb11 k9
        go_wp2_with fail
        refine (C4.out _ _ w11 HS11.out (RB.out.on k11)).mono ?_
        rintro _ w12 ⟨A12, c12, rfl, ho12, hb12⟩
        have k12 := k11.trans (hb12.mono k11.size)
        have HL13 := hid (HS11.out.on hb12)
        clear HS11
        have HS12 := hid (own_rd ho12)
        have HO12 := hid ho12
        clear ho12
        clear hb12 k11
        go_wp2_with fail
        refine (C5.out w12 (RB.out.on k12) (RA.out.on k12)).mono ?_
        rintro _ w14 ⟨A14, c14, rfl, ho14, hb14⟩
        have k14 := k12.trans (hb14.mono k12.size)
        have HL15 := hid (HS12.out.on hb14)
        clear HS12
        have HS14 := hid (own_rd ho14)
        have HO14 := hid ho14
        clear ho14
        clear hb14 k12
        by_cases h3 : e3 = 0
        · by_cases h4 : e4 = 0
          · by_cases h5 : e5 = 0
            · have hTU := MT.out h3 h4 h5
              subst h3
              subst h4
              subst h5
              have CZ := hid (fun (A B : Option Addr) (c d : Nat) (W : World) r1 r2 => Same_any (A := A) (B := B) (c := c) (d := d) T U (by omega) (by omega) W r1 r2)
              rw [eqB_of hTU] at CZ
              clear hTU MT
              go_wp2_with fail
              refine (CZ.out _ _ _ _ w14 HL15.out HS14.out).mono ?_
              rintro _ w16 ⟨rfl, hb16⟩
              have k16 := k14.trans (hb16.mono k14.size)
              have HL17 := hid (HL15.out.on hb16)
              clear HL15
              have HL18 := hid (HS14.out.on hb16)
              clear HS14
              clear hb16 k14
              go_wp2_with fail
              go_ret
              exact ⟨rfl, k16⟩
            · have hne : (e5 != 0) = true := by simpa using h5
              clear h5 MT
              have hn2 : (e5 == 0) = false := by simpa using hne
              go_wp2_with fail
              go_ret
              exact ⟨rfl, k14⟩
          · have hne : (e4 != 0) = true := by simpa using h4
            clear h4 MT
            have hn2 : (e4 == 0) = false := by simpa using hne
            go_wp2_with fail
            go_ret
            exact ⟨rfl, k14⟩
        · have hne : (e3 != 0) = true := by simpa using h3
          clear h3 MT
          have hn2 : (e3 == 0) = false := by simpa using hne
          go_wp2_with fail
          go_ret
          exact ⟨rfl, k14⟩
      · have h4 : ((a.length : Int) != (b.length : Int)) = true := by simp; omega
        have h5 : (a.length != b.length) = true := by simp; omega
        go_wp2_with fail
        go_ret
        exact ⟨rfl, k1⟩
    · have hl2 : 4096 < a.length := by omega
      go_wp2_with fail
      go_ret
      exact ⟨rfl, k1⟩
theorem law_types : ∀ t ∈ Try.f9.params.toList, Try.prog.readableRec t = true ∧ t < Try.prog.types.size := by
  have h : (Try.f9.params.toList.all fun t => Try.prog.readableRec t && decide (t < Try.prog.types.size)) = true := by kernel_rfl
  intro t ht
  simpa using List.all_eq_true.1 h t ht
set_option maxRecDepth 100000 in
theorem lifted (os : Os) (started : os.Started) (H : Type) (enc : TypeId × Value → H) :
    ReturnsInHanded {} Try.checked os 9 .any (Rows.vecScalesSpec.pre6 enc Try.prog Try.f9 Rows.vecScalesRow.domain false) (Rows.vecScalesSpec.post enc Try.prog Try.f9 false true false false) := by
  refine returnsInHanded_of_change (C := Try.checked) own started (by kernel_rfl) Try.func9
    (ChangeSpec.witness6 (enc := enc) (C := Try.checked) false ⟨#[], #[.slice none 0 0, .slice none 0 0, .int .i64 0], []⟩ 8 (by kernel_rfl) (by kernel_rfl) (by kernel_rfl) (by kernel_rfl)) ?_
  intro W base args ds gs before hval0 hW hcnd _
  have hval : ∀ (j : Nat) t v, Try.f9.params[j]? = some t → args[j]? = some v → Value.okWide Try.prog W .any base t v := hval0
  have hW' := hW
  obtain ⟨p, q, hA0, hV, rfl, hfz, hnd⟩ := hW
  have hA : DataW.TrodAll enc Try.prog W 0 (fun _ => true) true Try.f9.params.toList args.toList ds p := hA0
  rw [Try.params9] at hA hval
  obtain ⟨v0, vs0, d0, ds0, p0, q0, hargs, rfl, rfl, h0, r0⟩ := trodAll_cons hA
  obtain ⟨v1, vs1, d1, ds1, p1, q1, rfl, rfl, rfl, h1, r1⟩ := trodAll_cons r0
  obtain ⟨v2, vs2, d2, ds2, p2, q2, rfl, rfl, rfl, h2, r2⟩ := trodAll_cons r1
  obtain ⟨rfl, rfl, rfl⟩ := trodAll_nil r2
  obtain rfl : args = #[v0, v1, v2] := by cases args; simp_all
  obtain ⟨rfl, rfl⟩ := trodVars_none hV
  obtain ⟨Aa, a, ca, rfl, rda, ia, lca, lma⟩ := open_i64s Try.underlying22 Try.underlying2 cells_i64 (hval 0 22 v0 rfl rfl) h0
  obtain ⟨Ab, b, cb, rfl, rdb, ib, lcb, lmb⟩ := open_i64s Try.underlying22 Try.underlying2 cells_i64 (hval 1 22 v1 rfl rfl) h1
  obtain ⟨frac, rfl, rfl, rfl, w2⟩ := open_int Try.underlying3 (hval 2 3 v2 rfl rfl) h2
  clear hA0 hval0
  refine (walk Aa a ca Ab b cb frac W rda ia lca lma rdb ib lcb lmb (I64.of_wf w2)).mono fun e W' ⟨he, hb⟩ => ?_
  subst he
  exact ⟨_, rfl, law_post laid (fun t ht => law_types t ht) rfl hW' ⟨rfl, rfl, rfl⟩ (by kernel_rfl) Try.underlying4 hb⟩

theorem over : Rows.vecScalesRow.holds Try.pinned (OpenSpec.ofChange Rows.vecScalesSpec) :=
  OpenClaim.holds_of_wide 9 Try.f9 rfl rfl rfl rfl rfl rfl rfl ⟨rfl, rfl, rfl, rfl, rfl⟩ rfl rfl rfl rfl rfl (by kernel_rfl) Try.func9 (by kernel_rfl)
    (of_decide_eq_true (by kernel_rfl)) (by unfold Func.isWrapper; first | (rw [if_pos (by decide +kernel)]; kernel_rfl) | (rw [if_neg (by decide +kernel)]; exact ⟨rfl, rfl⟩))
    (fun os started H enc _ => lifted os started H enc)

theorem proved : Rows.VecScalesSaid := over
end Go.Proofs.Ytmljhckbeoalgaa.VecScales
