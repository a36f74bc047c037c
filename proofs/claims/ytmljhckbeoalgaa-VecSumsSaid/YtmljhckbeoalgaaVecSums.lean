
/-
  VecSums answers true for every input. No condition.
-/
import Derived.Test.YtmljhckbeoalgaaVecO
import Derived.Test.YtmljhckbeoalgaaOpen
namespace Go.Proofs.Ytmljhckbeoalgaa.VecSums
open Go.ChangeShapes Go.WideShapes Go.ChangeAt Go.RowKit
set_option maxHeartbeats 400000
set_option linter.unusedVariables false
open Go.Proofs.Ytmljhckbeoalgaa
theorem info_sl : (Try.prog.info? 22).map (fun i => (i.zero, i.size, i.bytes)) = some (some (.slice none 0 0), 1, 24) := by kernel_rfl
def Fine (n : Nat) (v : List Int) : Prop := v.length = n ∧ ∀ x ∈ v, -1125899906842624 ≤ x ∧ x ≤ 1125899906842624
theorem fine_step {n : Nat} {rows : List (List Int)} {k : Nat} {u : List Int} (h : ∀ v ∈ rows.take k, Fine n v) (hu : rows[k]? = some u) (hf : Fine n u) : ∀ v ∈ rows.take (k + 1), Fine n v := fun v hv => by
  rw [List.take_add_one, hu, List.mem_append] at hv
  rcases hv with hv | hv
  · exact h v hv
  · simp at hv; subst hv; exact hf
theorem in_step {u : List Int} {j : Nat} {x : Int} (h : ∀ y ∈ u.take j, -1125899906842624 ≤ y ∧ y ≤ 1125899906842624) (hx : u[j]? = some x) (h1 : -1125899906842624 ≤ x) (h2 : x ≤ 1125899906842624) : ∀ y ∈ u.take (j + 1), -1125899906842624 ≤ y ∧ y ≤ 1125899906842624 := fun y hy => by
  rw [List.take_add_one, hx, List.mem_append] at hy
  rcases hy with hy | hy
  · exact h y hy
  · simp at hy; subst hy; exact ⟨h1, h2⟩
theorem back_step {ps : List Sl} {k : Nat} {p : Sl} (hp : ps[ps.length - 1 - k]? = some p) (hk : k < ps.length) : ps.reverse.take (k + 1) = ps.reverse.take k ++ [p] := by
  rw [List.take_add_one, List.getElem?_reverse hk, hp]
  rfl
set_option maxHeartbeats 4000000 in
set_option maxRecDepth 100000 in
theorem walk (Al : Option Addr) (l : List (List Int)) (cl : Nat) (w : World) (rl : RdRows w w.heap.size Al l) (il : ∀ u ∈ l, I64s u ∧ u.length ≤ 9223372036854775807) (ll : l.length ≤ cl) (ml : cl ≤ 9223372036854775807) :
    Calls Try.prog 8 #[.slice Al l.length cl] w fun e w' => e = .returned (.bool true) ∧ Below w.heap.size w w' := by
  have RL := hid rl
  have IL := hid il
  have ll' : l.length ≤ 9223372036854775807 := by omega
  have CF2 := hid (fun (W : World) h1 => few_any Al cl l ll' (fun u hu => (IL.out u hu).2) W h1)
  clear rl il
  go_enter Try.func8, Try.ntmps8
  go_wp2_with fail
  refine (live_yes _).mono ?_
  rintro _ w1 ⟨rfl, k1⟩
  go_wp2_with fail
  refine (CF2.out w1 (RL.out.on k1)).mono ?_
  rintro _ _ ⟨rfl, rfl⟩
  cases hf : fewB l with
  | false =>
    clear hf
    go_wp2_with fail
    go_ret
    exact ⟨rfl, k1⟩
  | true =>
    have hl100 := few_len hf
    have hf5 := hid (fun u hu => few_at hf (r := u) hu)
    clear hf
    by_cases h2 : l.length < 2
    · go_wp2_with fail
      go_ret
      exact ⟨rfl, k1⟩
    · obtain ⟨v0, r, rfl⟩ : ∃ v r, l = v :: r := by
        cases l with
        | nil => simp at h2
        | cons v r => exact ⟨v, r, rfl⟩
      simp only [List.length_cons] at hl100 h2 ll ll'
      have hr1 : 1 ≤ r.length := by omega
      have hcl : ¬ cl = 1 := by omega
      obtain ⟨b, off, A0, c0, rfl, lb, hc0, hv0⟩ := RL.out 0 v0 rfl
      have R0 := hid hv0
      have c00 : w1.cell? ⟨b, off, none⟩ = some (.slice A0 v0.length c0) := (k1.cell (p := ⟨b, off, none⟩) lb).trans (by rw [Nat.add_zero] at hc0; exact hc0)
      have HC0 := hid (show w.cell? ⟨b, off, none⟩ = some (.slice A0 v0.length c0) by rw [Nat.add_zero] at hc0; exact hc0)
      have hcast : ((r.length + 1 : Nat) : Int) = (r.length : Int) + 1 := by simp
      have HCAST := hid hcast
      clear hcast
      have l0 := (IL.out v0 (by simp)).2
      have hlen : (v0 :: r).length = r.length + 1 := List.length_cons
      clear hc0 hv0
      rw [hlen]
      rw [hlen] at CF2
      have HLEN := hid hlen
      clear hlen
      go_wp2_with fail
      go_loopw [32] (fun i wr => ∃ k : Nat, k ≤ r.length + 1 ∧ i = .int .i64 k ∧ (0 < k → v0.length ≤ 4096) ∧ (∀ v ∈ (v0 :: r).take k, Fine v0.length v) ∧ w1 = wr) (fun i _ => r.length + 1 - (intOf i).toNat)
      case atStart => exact ⟨0, by omega, rfl, fun h => absurd h (by omega), fun v hv => by simp at hv, rfl⟩
      case round =>
        obtain ⟨k, hk, rfl, h40, hfi, rfl⟩ := hrel
        have HF := hid hfi
        have H40 := hid h40
        clear hfi h40
        by_cases hlt : k < r.length + 1
        · obtain ⟨u, hu⟩ : ∃ u, (v0 :: r)[k]? = some u := ⟨_, List.getElem?_eq_getElem (by simp; omega)⟩
          obtain ⟨b', off', A3, c3, e3, l3, hc3, hr3⟩ := RL.out k u hu
          have e4 := Option.some.inj e3
          simp only [Addr.mk.injEq] at e4
          obtain ⟨rfl, rfl, _⟩ := e4
          have hc4 := (k1.cell (p := ⟨b, off + k, none⟩) l3).trans hc3
          have lu := (IL.out u (List.mem_of_getElem? hu)).2
          have HU := hid hu
          have R3 := hid (hr3.below k1)
          clear hc3 hr3 hu e3
          by_cases hul : u.length = v0.length
          · have q1 : ((u.length : Int) != (v0.length : Int)) = false := by simp; omega
            have q2 : (u.length != v0.length) = false := by simp; omega
            have HUL := hid hul
            clear hul
            by_cases hu4 : 4096 < u.length
            · go_wp2_with fail
              go_ret
              exact ⟨rfl, k1⟩
            · go_wp2_with fail
              go_loopw [51] (fun i wr => ∃ j : Nat, j ≤ u.length ∧ i = .int .i64 j ∧ (∀ y ∈ u.take j, -1125899906842624 ≤ y ∧ y ≤ 1125899906842624) ∧ w1 = wr) (fun i _ => u.length - (intOf i).toNat)
              case atStart => exact ⟨0, by omega, rfl, fun v hv => by simp at hv, rfl⟩
              case round =>
                obtain ⟨j, hj, rfl, hin, rfl⟩ := hrel
                have HIN := hid hin
                clear hin
                by_cases hjl : j < u.length
                · obtain ⟨bb, oo, x, hA, lx, ex, cx⟩ := R3.out.at_ hjl
                  have EX := hid ex
                  clear ex
                  subst hA
                  by_cases x1 : 1125899906842624 < x
                  · go_wp2_with fail
                    go_ret
                    exact ⟨rfl, k1⟩
                  · by_cases x2 : x < -1125899906842624
                    · go_wp2_with fail
                      go_ret
                      exact ⟨rfl, k1⟩
                    · go_wp2_with fail
                      go_roundw
                      case rel => exact ⟨j + 1, by omega, by go_num, in_step HIN.out EX.out (by omega) (by omega), by trivial⟩
                      case measure => simp [intOf]; omega
                · obtain rfl : j = u.length := by omega
                  have hall := HIN.out
                  rw [List.take_of_length_le (Nat.le_refl _)] at hall
                  have HALL := hid hall
                  clear hall
                  go_wp2_with fail
                  go_roundw
                  case rel => exact ⟨k + 1, by omega, by go_num, fun _ => by have := HUL.out; omega, fine_step HF.out HU.out ⟨HUL.out, HALL.out⟩, by trivial⟩
                  case measure => simp [intOf]; omega
          · have q1 : ((u.length : Int) != (v0.length : Int)) = true := by simp; omega
            have q2 : (u.length != v0.length) = true := by simp; omega
            go_wp2_with fail
            go_ret
            exact ⟨rfl, k1⟩
        · obtain rfl : k = r.length + 1 := by omega
          rw [HCAST.out]
          have hev : Even v0.length (v0 :: r) := by
            have := HF.out
            rw [List.take_of_length_le (by simp)] at this
            exact this
          have HEV := hid hev
          have l40 := H40.out (by omega)
          clear hev
          obtain ⟨ps, hps, hfit⟩ := rows_split (RL.out.on k1)
          have HPS := hid hps
          have HFIT := hid hfit
          have hpl : ps.length = r.length + 1 := by rw [hfit.1]; rfl
          have HPL := hid hpl
          clear hps hfit HF H40 hpl
          go_wp2_with fail
          go_loopw [8, 66] (fun o i wr => ∃ (k : Nat) (Q : List Sl) (A2 : Option Addr) (c2 : Nat), k ≤ r.length + 1 ∧ i = .int .i64 k ∧ Q.length = k ∧ o = .slice A2 Q.length c2 ∧ Q = ps.reverse.take k ∧ wr.ownsRow w1.heap.size 22 1 (.slice A2 Q.length c2) Q.length (Q.map encS) ∧ Below w1.heap.size w1 wr) (fun _ i _ => r.length + 1 - (intOf i).toNat)
          case atStart => exact ⟨0, [], none, 0, by omega, rfl, rfl, rfl, rfl, own_nil _ _ _, Below.refl _ _⟩
          case round =>
            obtain ⟨k, Q, A2, c2, hk, rfl, hQk, rfl, hQ, hown, hbr⟩ := hrel
            have HQ := hid hQ
            have HO := hid hown
            have HQK := hid hQk
            have lQ : Q.length ≤ 100 := by omega
            clear hQ hown hQk
            by_cases hlt : k < r.length + 1
            · obtain ⟨b', off', p, e3, l3, ep, hc3⟩ := (HPS.out.below hbr).at_ (show ps.length - 1 - k < ps.length by have := HPL.out; omega)
              have e4 := Option.some.inj e3
              simp only [Addr.mk.injEq] at e4
              obtain ⟨rfl, rfl, _⟩ := e4
              have HB := hid (back_step ep (by have := HPL.out; omega))
              have hpl := HPL.out
              have hidx : ps.length - 1 - k = r.length - k := by omega
              rw [hidx] at hc3
              clear hidx hpl ep e3
              obtain ⟨pA, pn, pc⟩ := p
              have hc4 : wr.cell? ⟨b, off + (r.length - k), none⟩ = some (.slice pA pn pc) := hc3
              clear hc3
              have h0 := own_on HO.out ((Below.refl wr.heap.size wr).alloc (Nat.le_refl _) (.cells #[.slice pA pn pc] 22))
              have hr0 : Rd encS (wr.alloc (.cells #[.slice pA pn pc] 22)) _ (some ⟨wr.heap.size, 0, none⟩) [(pA, pn, pc)] := rd_one (one_cell wr (.slice pA pn pc) 22).1
              go_wp2_with (at_builtin; refine wpList_app encS encS_one _ rfl _ _ 35 rfl w1.heap.size 22 (.slice none 0 0) 24 Try.underlying35 info_sl rfl Q _ _ rfl h0 [(pA, pn, pc)] _ 1 _ rfl hr0 (by simp [maxLen]; omega) (by simp; omega) (by have := hbr.size; simp; omega) ?_)
              rintro Q' A' c' w5 hQ' ho hb1 _
              have HQ' := hid hQ'
              have HO' := hid ho
              clear hQ' ho
              go_wp2_with fail
              go_roundw
              case rel =>
                refine ⟨k + 1, Q', A', c', by omega, by go_num, ?_, rfl, ?_, HO'.out, (hbr.alloc hbr.size _).trans hb1⟩
                · rw [HQ'.out, List.length_append, HQK.out]; rfl
                · rw [HQ'.out, HB.out, ← HQ.out]
              case measure => simp [intOf]; omega
            · obtain rfl : k = r.length + 1 := by omega
              rw [HCAST.out]
              have hQ1 : Q = ps.reverse := by
                rw [HQ.out, List.take_of_length_le (by rw [List.length_reverse, HPL.out]; exact Nat.le_refl _)]
              have hfit := fits_more (fits_on (fits_reverse HFIT.out) hbr) hbr.size
              have hback : RdRows wr wr.heap.size A2 (v0 :: r).reverse := rows_join (own_rd HO.out) (by rw [hQ1]; exact hfit)
              have hQl : Q.length = (v0 :: r).reverse.length := by rw [HQK.out]; simp
              have HBACK := hid hback
              have HQL := hid hQl
              have kr := k1.trans (hbr.mono k1.size)
              have ok1 : RowsOk (v0 :: r) := fun u hu => ⟨(IL.out u hu).1, by have := hf5.out u hu; omega⟩
              have ok2 : RowsOk r := fun u hu => ok1 u (by simp [hu])
              have ok3 : RowsOk (v0 :: r).reverse := fun u hu => ok1 u (List.mem_reverse.1 hu)
              have hrn : r ≠ [] := fun e => by rw [e] at hr1; simp at hr1
              have S1 := sumAll_even l40 HEV.out (by simp; omega) (by simp)
              have S2 := sumAll_even l40 (even_tail HEV.out) (by omega) hrn
              have S3 := sum_parts l40 HEV.out (by simp; omega) hrn
              have S4 := sum_turned l40 HEV.out (by simp; omega) (by simp)
              have S5 := S1
              rw [← S4] at S5
              have C1 := hid (fun (W : World) h => Sum_any (some ⟨b, off, none⟩) cl (v0 :: r) ok1 (by simp; omega) (by simp; omega) W h)
              have C2 := hid (fun (W : World) h => Sum_any (some ⟨b, off + 1, none⟩) (cl - 1) r ok2 (by omega) (by omega) W h)
              have C3 := hid (fun (W : World) h => Sum_any A2 c2 (v0 :: r).reverse ok3 (by simp; omega) (own_cap (by rw [← hQl]; exact HO.out)) W h)
              rw [S4] at C3
              have e1 : (sumAll (v0 :: r)).2 = 0 := by rw [S1]
              have e2 : (sumAll r).2 = 0 := by rw [S2]
              have l1 : (sumAll (v0 :: r)).1.length ≤ 4096 := sumAll_len ok1
              have l2 : (sumAll r).1.length ≤ 4096 := sumAll_len ok2
              have i2 : I64s (sumAll r).1 := sumAll_i64 ok2
              have iv0 := (IL.out v0 (by simp)).1
              rw [e1] at C1 C3
              rw [e2] at C2
              obtain ⟨T, hT⟩ : ∃ T, (sumAll (v0 :: r)).1 = T := ⟨_, rfl⟩
              obtain ⟨U, hU⟩ : ∃ T, (sumAll r).1 = T := ⟨_, rfl⟩
              rw [hT] at C1 C3 l1 S3
              rw [hU] at C2 l2 i2 S3
              have C4 := hid (fun (A : Option Addr) (c : Nat) (W : World) r1 r2 => Add_any (A := A0) (B := A) (c := c0) (d := c) v0 U l0 (by omega) iv0 i2 W r1 r2)
              rw [S3.1, S3.2] at C4
              have CY := hid (fun (A B : Option Addr) (c d : Nat) (W : World) r1 r2 => Same_any (A := A) (B := B) (c := c) (d := d) T T (by omega) (by omega) W r1 r2)
              rw [eqB_self] at CY
              rw [List.length_cons] at C1
              rw [← hQl] at C3
              have RT := hid (fun (W : World) (h : Below w.heap.size w W) => rows_tail (RL.out.on h))
              have RV := hid (fun (W : World) (h : Below w.heap.size w W) => (R0.out.on h))
              clear S1 S2 S3 S4 S5 e1 e2 hT hU i2 iv0 hQ1 hfit hback hQl hrn ok1 ok2 ok3 HO HQ HQK
              go_wp2_with fail
              refine (C1.out wr (RL.out.on kr)).mono ?_
              rintro _ w901 ⟨A901, c901, rfl, ho901, hb901⟩
              have k901 := kr.trans (hb901.mono kr.size)
              have HL902 := hid (HBACK.out.on hb901)
              clear HBACK
              have HS901 := hid (own_rd ho901)
              have HO901 := hid ho901
              clear ho901
              clear hb901 kr
              have HT0 := hid (RT.out w901 k901)
              go_wp2_with fail
              refine (C2.out w901 HT0.out).mono ?_
              rintro _ w903 ⟨A903, c903, rfl, ho903, hb903⟩
              have k903 := k901.trans (hb903.mono k901.size)
              have HL904 := hid (HL902.out.on hb903)
              clear HL902
              have HL905 := hid (HS901.out.on hb903)
              clear HS901
              have HL906 := hid (HT0.out.on hb903)
              clear HT0
              have HS903 := hid (own_rd ho903)
              have HO903 := hid ho903
              clear ho903
              clear hb903 k901
              have c01 := (k903.cell (p := ⟨b, off, none⟩) lb).trans HC0.out
              go_wp2_with fail
              refine (C4.out _ _ w903 (R0.out.on k903) HS903.out).mono ?_
              rintro _ w907 ⟨A907, c907, rfl, ho907, hb907⟩
              have k907 := k903.trans (hb907.mono k903.size)
              have HL908 := hid (HL904.out.on hb907)
              clear HL904
              have HL909 := hid (HL905.out.on hb907)
              clear HL905
              have HL910 := hid (HS903.out.on hb907)
              clear HS903
              have HS907 := hid (own_rd ho907)
              have HO907 := hid ho907
              clear ho907
              clear hb907 k903
              go_wp2_with fail
              refine (C3.out w907 HL908.out).mono ?_
              rintro _ w911 ⟨A911, c911, rfl, ho911, hb911⟩
              have k911 := k907.trans (hb911.mono k907.size)
              have HL912 := hid (HL908.out.on hb911)
              clear HL908
              have HL913 := hid (HL909.out.on hb911)
              clear HL909
              have HL914 := hid (HS907.out.on hb911)
              clear HS907
              have HS911 := hid (own_rd ho911)
              have HO911 := hid ho911
              clear ho911
              clear hb911 k907
              go_wp2_with fail
              refine (CY.out _ _ _ _ w911 HL913.out HL914.out).mono ?_
              rintro _ w915 ⟨rfl, hb915⟩
              have k915 := k911.trans (hb915.mono k911.size)
              have HL916 := hid (HL913.out.on hb915)
              clear HL913
              have HL917 := hid (HL914.out.on hb915)
              clear HL914
              have HL918 := hid (HS911.out.on hb915)
              clear HS911
              clear hb915 k911
              go_wp2_with fail
              refine (CY.out _ _ _ _ w915 HL916.out HL918.out).mono ?_
              rintro _ w919 ⟨rfl, hb919⟩
              have k919 := k915.trans (hb919.mono k915.size)
              have HL920 := hid (HL916.out.on hb919)
              clear HL916
              have HL921 := hid (HL917.out.on hb919)
              clear HL917
              have HL922 := hid (HL918.out.on hb919)
              clear HL918
              clear hb919 k915
              go_wp2_with fail
              go_ret
              exact ⟨rfl, k919⟩
theorem law_types : ∀ t ∈ Try.f8.params.toList, Try.prog.readableRec t = true ∧ t < Try.prog.types.size := by
  have h : (Try.f8.params.toList.all fun t => Try.prog.readableRec t && decide (t < Try.prog.types.size)) = true := by kernel_rfl
  intro t ht
  simpa using List.all_eq_true.1 h t ht
set_option maxRecDepth 100000 in
theorem lifted (os : Os) (started : os.Started) (H : Type) (enc : TypeId × Value → H) :
    ReturnsInHanded {} Try.checked os 8 .any (Rows.vecSumsSpec.pre6 enc Try.prog Try.f8 Rows.vecSumsRow.domain false) (Rows.vecSumsSpec.post enc Try.prog Try.f8 false true false false) := by
  refine returnsInHanded_of_change (C := Try.checked) own started (by kernel_rfl) Try.func8
    (ChangeSpec.witness6 (enc := enc) (C := Try.checked) false ⟨#[], #[.slice none 0 0], []⟩ 8 (by kernel_rfl) (by kernel_rfl) (by kernel_rfl) (by kernel_rfl)) ?_
  intro W base args ds gs before hval0 hW hcnd _
  have hval : ∀ (j : Nat) t v, Try.f8.params[j]? = some t → args[j]? = some v → Value.okWide Try.prog W .any base t v := hval0
  have hW' := hW
  obtain ⟨p, q, hA0, hV, rfl, hfz, hnd⟩ := hW
  have hA : DataW.TrodAll enc Try.prog W 0 (fun _ => true) true Try.f8.params.toList args.toList ds p := hA0
  rw [Try.params8] at hA hval
  obtain ⟨v0, vs0, d0, ds0, p0, q0, hargs, rfl, rfl, h0, r0⟩ := trodAll_cons hA
  obtain ⟨rfl, rfl, rfl⟩ := trodAll_nil r0
  obtain rfl : args = #[v0] := by cases args; simp_all
  obtain ⟨rfl, rfl⟩ := trodVars_none hV
  obtain ⟨Al, l, cl, rfl, rdl, il, lcl, lml⟩ := open_rows Try.underlying35 Try.underlying22 Try.underlying2 cells_i64s cells_i64 (hval 0 35 v0 rfl rfl) h0
  clear hA0 hval0
  refine (walk Al l cl W rdl il lcl lml).mono fun e W' ⟨he, hb⟩ => ?_
  subst he
  exact ⟨_, rfl, law_post laid (fun t ht => law_types t ht) rfl hW' ⟨rfl, rfl, rfl⟩ (by kernel_rfl) Try.underlying4 hb⟩

theorem over : Rows.vecSumsRow.holds Try.pinned (OpenSpec.ofChange Rows.vecSumsSpec) :=
  OpenClaim.holds_of_wide 8 Try.f8 rfl rfl rfl rfl rfl rfl rfl ⟨rfl, rfl, rfl, rfl, rfl⟩ rfl rfl rfl rfl rfl (by kernel_rfl) Try.func8 (by kernel_rfl)
    (of_decide_eq_true (by kernel_rfl)) (by unfold Func.isWrapper; first | (rw [if_pos (by decide +kernel)]; kernel_rfl) | (rw [if_neg (by decide +kernel)]; exact ⟨rfl, rfl⟩))
    (fun os started H enc _ => lifted os started H enc)

theorem proved : Rows.VecSumsSaid := over
end Go.Proofs.Ytmljhckbeoalgaa.VecSums
