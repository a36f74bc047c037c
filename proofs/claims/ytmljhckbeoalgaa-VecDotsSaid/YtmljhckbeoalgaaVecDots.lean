
/-
  VecDots answers true for every input. No condition.
-/
import Derived.Test.YtmljhckbeoalgaaVecN
import Derived.Test.YtmljhckbeoalgaaOpen
namespace Go.Proofs.Ytmljhckbeoalgaa.VecDots
open Go.ChangeShapes Go.WideShapes Go.ChangeAt Go.RowKit
set_option maxHeartbeats 400000
set_option linter.unusedVariables false
open Go.Proofs.Ytmljhckbeoalgaa
theorem ones_step {zs : List Int} {k : Nat} (h : ∀ j, j < k → zs.getD j 0 = 1) (hk : k < zs.length) : ∀ j, j < k + 1 → (zs.set k 1).getD j 0 = 1 := fun j hj => by
  by_cases e : j = k
  · subst e; simp [List.getD, hk]
  · have := h j (by omega)
    simp only [List.getD] at this ⊢
    rw [List.getElem?_set_ne (by omega)]
    exact this
theorem ones_i64 {zs : List Int} (h : ∀ j, j < zs.length → zs.getD j 0 = 1) : I64s zs := fun x hx => by
  obtain ⟨j, hj, rfl⟩ := List.mem_iff_getElem.1 hx
  have := h j hj
  rw [show zs.getD j 0 = zs[j] by simp [List.getD, hj]] at this
  rw [this]
  decide
set_option maxRecDepth 100000 in
theorem walk (Aa : Option Addr) (a : List Int) (ca : Nat) (Ab : Option Addr) (b : List Int) (cb : Nat) (frac : Int) (w : World) (ra : Rd (Value.int .i64) w w.heap.size Aa a) (ia : I64s a) (la : a.length ≤ ca) (ma : ca ≤ 9223372036854775807) (rb : Rd (Value.int .i64) w w.heap.size Ab b) (ib : I64s b) (lb : b.length ≤ cb) (mb : cb ≤ 9223372036854775807) (ifr : I64 frac) :
    Calls Try.prog 7 #[.slice Aa a.length ca, .slice Ab b.length cb, .int .i64 frac] w fun e w' => e = .returned (.bool true) ∧ Below w.heap.size w w' := by
  have RA := hid ra
  have RB := hid rb
  have IA := hid ia
  have la' : a.length ≤ 9223372036854775807 := by omega
  have lb' : b.length ≤ 9223372036854775807 := by omega
  have CF := hid (fun (W : World) h1 h2 => few_two (A := Aa) (B := Ab) (c := ca) (d := cb) a b la' lb' W h1 h2)
  have C1 := hid (fun (W : World) r1 r2 => Dot_any (A := Aa) (B := Ab) (c := ca) (d := cb) a b la' lb' ia ib frac W r1 r2)
  have C2 := hid (fun (W : World) r1 r2 => Dot_any (A := Ab) (B := Aa) (c := cb) (d := ca) b a lb' la' ib ia frac W r1 r2)
  have C3 := hid (fun (W : World) r1 r2 => Dot_any (A := Aa) (B := Aa) (c := ca) (d := ca) a a la' la' ia ia frac W r1 r2)
  have C4 := hid (fun (W : World) => Zero_any (a.length : Int) W)
  have C5 := hid (fun (W : World) => Check_any Aa a.length ca la' W)
  rw [(dot_comm b a frac).1, (dot_comm b a frac).2] at C2
  have HP := hid (fun h : dotE a a frac = 0 => dot_self h)
  obtain ⟨v1, hv1⟩ : ∃ S, dotV a b frac = S := ⟨_, rfl⟩
  obtain ⟨e1, he1⟩ : ∃ S, dotE a b frac = S := ⟨_, rfl⟩
  obtain ⟨v3, hv3⟩ : ∃ S, dotV a a frac = S := ⟨_, rfl⟩
  obtain ⟨e3, he3⟩ : ∃ S, dotE a a frac = S := ⟨_, rfl⟩
  rw [hv1, he1] at C1 C2
  rw [hv3, he3] at C3 HP
  have q1 : (e1 != e1) = false := by simp
  have p1 : (v1 != v1) = false := by simp
  clear ra rb ia ib hv1 he1 hv3 he3
  go_enter Try.func7, Try.ntmps7
  go_wp2_with fail
  refine (live_yes _).mono ?_
  rintro _ w1 ⟨rfl, hb1⟩
  go_wp2_with fail
  have k1 : Below w.heap.size w (w1.alloc (.cells #[.slice Aa a.length ca, .slice Ab b.length cb] 22)) := hb1.alloc hb1.size _
  refine (CF.out w1 (RA.out.on hb1) (RB.out.on hb1)).mono ?_
  rintro _ _ ⟨rfl, rfl⟩
  obtain ⟨w2, hw2⟩ : ∃ w2, w1.alloc (.cells #[.slice Aa a.length ca, .slice Ab b.length cb] 22) = w2 := ⟨_, rfl⟩
  rw [hw2] at k1 ⊢
  clear hw2 hb1
  cases hf : fewB [a, b] with
  | false =>
    clear hf
    go_wp2_with fail
    go_ret
    exact ⟨rfl, k1⟩
  | true =>
    clear hf
    go_wp2_with fail
    refine (C1.out w2 (RA.out.on k1) (RB.out.on k1)).mono ?_
    rintro _ w3 ⟨rfl, hb3⟩
    have k3 := k1.trans (hb3.mono k1.size)
    clear hb3 k1
    go_wp2_with fail
    refine (C2.out w3 (RB.out.on k3) (RA.out.on k3)).mono ?_
    rintro _ w4 ⟨rfl, hb4⟩
    have k4 := k3.trans (hb4.mono k3.size)
    clear hb4 k3
    go_wp2_with fail
    refine (C3.out w4 (RA.out.on k4) (RA.out.on k4)).mono ?_
    rintro _ w5 ⟨rfl, hb5⟩
    have k5 := k4.trans (hb5.mono k4.size)
    clear hb5 k4
    by_cases h3 : e3 = 0
    · have hp := HP.out h3
      subst h3
      clear HP
      by_cases hz : a.length ≤ 4096
      · obtain ⟨z1, z2⟩ := zero_len hz
        rw [z1] at C4
        obtain ⟨Z, hZ⟩ : ∃ Z, zeroV (a.length : Int) = Z := ⟨_, rfl⟩
        rw [hZ] at C4 z2
        have Z2 := hid z2
        have lZ : Z.length ≤ 4096 := by omega
        clear hZ z1 z2
        have lW := k5.size
        have MB := Below.refl w5.heap.size w5
        go_wp2_with fail
        refine (C4.out w5 ).mono ?_
        rintro _ w6 ⟨A6, c6, rfl, ho6, hb6⟩
        have k6 := k5.trans (hb6.mono k5.size)
        have MK7 := MB.trans (hb6.mono MB.size)
        clear MB
        have HS6 := hid (own_rd ho6)
        have HO6 := hid ho6
        clear ho6
        clear hb6 k5
        go_wp2_with fail
        go_loopw [82] (fun i wr => ∃ (k : Nat) (zs : List Int), k ≤ Z.length ∧ i = .int .i64 k ∧ zs.length = Z.length ∧ (∀ j, j < k → zs.getD j 0 = 1) ∧ wr.ownsRow w5.heap.size 2 1 (.slice A6 Z.length c6) Z.length (zs.map (Value.int .i64)) ∧ Below w5.heap.size w6 wr) (fun i _ => Z.length - (intOf i).toNat)
        case atStart => exact ⟨0, Z, by omega, rfl, rfl, fun j hj => absurd hj (by omega), HO6.out, Below.refl _ _⟩
        case round =>
          obtain ⟨k, zs, hk, rfl, hz, hone, hown, hbr⟩ := hrel
          have HZ := hid hz
          have HO := hid hown
          have HN := hid hone
          by_cases hlt : k < Z.length
          · obtain ⟨g, hg, hgb, hgc, hgf⟩ := own_cell hown (show k < zs.length by omega)
            have hkz : k < zs.length := by omega
            clear HO6
            subst hg
            clear hz hown hone
            go_wp2_with fail
            go_roundw
            case rel =>
              refine ⟨k + 1, zs.set k 1, by omega, by go_num, by rw [List.length_set]; exact HZ.out, ones_step HN.out hkz, ?_, hbr.setCell hgb _⟩
              have h := (HO.out.stored k (.int .i64 1)).1
              rw [show (Value.int .i64 1) = (Value.int .i64) 1 from rfl, ← List.map_set] at h
              exact h
            case measure => simp [intOf]; omega
          · obtain rfl : k = Z.length := by omega
            have kr := k6.trans (hbr.mono lW)
            have hr := hown
            rw [← hz] at hr
            have hz4 : zs.length = a.length := hz.trans Z2.out
            have hn1 : ∀ j, j < zs.length → zs.getD j 0 = 1 := by rw [hz]; exact hone
            have HQ := hid (own_rd hr)
            have C6 := hid (fun (W : World) r1 r2 => Dot_any (A := Aa) (B := A6) (c := ca) (d := c6) a zs la' (by omega) IA.out (ones_i64 hn1) 0 W r1 r2)
            have HD := hid (fun hb => dot_ones (xs := a) (ones := zs) (by omega) hz4 hn1 hb)
            have hzl : Z.length = zs.length := hz.symm
            have HZL := hid hzl
            clear hz hown HO HN hone hr hz4 hn1 HO6 hzl
            go_wp2_with fail
            go_loopw [17, 91] (fun s i w5 => ∃ (k : Nat) (S : Int), k ≤ a.length ∧ i = .int .i64 k ∧ s = .int .i64 S ∧ -(1099511627776 * (k : Int)) ≤ S ∧ S ≤ 1099511627776 * (k : Int) ∧ (∀ j, j < k → -1099511627776 ≤ a.getD j 0 ∧ a.getD j 0 ≤ 1099511627776) ∧ S = sm (fun j => a.getD j 0) k ∧ wr = w5) (fun _ i _ => a.length - (intOf i).toNat)
            case atStart => exact ⟨0, 0, by omega, rfl, rfl, by omega, by omega, fun j hj => absurd hj (by omega), rfl, rfl⟩
            case round =>
              obtain ⟨k, S, hk, rfl, rfl, hS1, hS2, hbd, hS, rfl⟩ := hrel
              have HBD := hid hbd
              have HS := hid hS
              clear hbd hS
              by_cases hlt : k < a.length
              · obtain ⟨bb, off, x, hA, lx, ex, cx⟩ := (RA.out.on kr).at_ hlt
                have gx := hid (getD_of ex)
                have ixx := IA.out.at_ ex
                have ix1 := ixx.1
                have ix2 := ixx.2
                clear ex ixx
                subst hA
                by_cases b1 : 1099511627776 < x
                · go_wp2_with fail
                  go_ret
                  exact ⟨rfl, kr⟩
                · by_cases b2 : x < -1099511627776
                  · go_wp2_with fail
                    go_ret
                    exact ⟨rfl, kr⟩
                  · go_wp2_with fail
                    go_roundw
                    case rel =>
                      refine ⟨k + 1, S + x, by omega, by go_num, rfl, by omega, by omega, fun j hj => ?_, ?_, by trivial⟩
                      · by_cases e : j = k
                        · rw [e, gx.out]; omega
                        · exact HBD.out j (by omega)
                      · show S + x = sm (fun j => a.getD j 0) k + a.getD k 0
                        rw [← HS.out, gx.out]
                    case measure => simp [intOf]; omega
              · obtain rfl : k = a.length := by omega
                obtain ⟨d1, d2⟩ := HD.out HBD.out
                rw [d1, d2, ← HS.out] at C6
                have qs : (S == S) = true := by simp
                rw [← HZL.out] at C6
                clear d1 d2 HD
                go_wp2_with fail
                refine (C6.out _ (RA.out.on kr) HQ.out).mono ?_
                rintro _ w9 ⟨rfl, hb9⟩
                have k9 := kr.trans (hb9.mono kr.size)
                go_wp2_with fail
                go_ret
                exact ⟨rfl, k9⟩
      · obtain ⟨z1, z2⟩ := zero_long hz
        rw [z1, z2] at C4
        have ho : oneE a.length = 3 := if_pos (by omega)
        rw [ho] at C5
        clear z1 z2 ho hz
        go_wp2_with fail
        refine (C4.out w5 ).mono ?_
        rintro _ w6 ⟨A6, c6, rfl, ho6, hb6⟩
        have k6 := k5.trans (hb6.mono k5.size)
        clear ho6
        clear hb6 k5
        go_wp2_with fail
        refine (C5.out _).mono ?_
        rintro _ _ ⟨rfl, rfl⟩
        go_wp2_with fail
        go_ret
        exact ⟨rfl, k6⟩
    · have hne : (e3 == 0) = false := by simpa using h3
      clear HP h3
      by_cases hz : a.length ≤ 4096
      · obtain ⟨z1, z2⟩ := zero_len hz
        rw [z1] at C4
        obtain ⟨Z, hZ⟩ : ∃ Z, zeroV (a.length : Int) = Z := ⟨_, rfl⟩
        rw [hZ] at C4 z2
        have Z2 := hid z2
        have lZ : Z.length ≤ 4096 := by omega
        clear hZ z1 z2
        have lW := k5.size
        have MB := Below.refl w5.heap.size w5
        go_wp2_with fail
        refine (C4.out w5 ).mono ?_
        rintro _ w6 ⟨A6, c6, rfl, ho6, hb6⟩
        have k6 := k5.trans (hb6.mono k5.size)
        have MK7 := MB.trans (hb6.mono MB.size)
        clear MB
        have HS6 := hid (own_rd ho6)
        have HO6 := hid ho6
        clear ho6
        clear hb6 k5
        go_wp2_with fail
        go_loopw [82] (fun i wr => ∃ (k : Nat) (zs : List Int), k ≤ Z.length ∧ i = .int .i64 k ∧ zs.length = Z.length ∧ (∀ j, j < k → zs.getD j 0 = 1) ∧ wr.ownsRow w5.heap.size 2 1 (.slice A6 Z.length c6) Z.length (zs.map (Value.int .i64)) ∧ Below w5.heap.size w6 wr) (fun i _ => Z.length - (intOf i).toNat)
        case atStart => exact ⟨0, Z, by omega, rfl, rfl, fun j hj => absurd hj (by omega), HO6.out, Below.refl _ _⟩
        case round =>
          obtain ⟨k, zs, hk, rfl, hz, hone, hown, hbr⟩ := hrel
          have HZ := hid hz
          have HO := hid hown
          have HN := hid hone
          by_cases hlt : k < Z.length
          · obtain ⟨g, hg, hgb, hgc, hgf⟩ := own_cell hown (show k < zs.length by omega)
            have hkz : k < zs.length := by omega
            clear HO6
            subst hg
            clear hz hown hone
            go_wp2_with fail
            go_roundw
            case rel =>
              refine ⟨k + 1, zs.set k 1, by omega, by go_num, by rw [List.length_set]; exact HZ.out, ones_step HN.out hkz, ?_, hbr.setCell hgb _⟩
              have h := (HO.out.stored k (.int .i64 1)).1
              rw [show (Value.int .i64 1) = (Value.int .i64) 1 from rfl, ← List.map_set] at h
              exact h
            case measure => simp [intOf]; omega
          · obtain rfl : k = Z.length := by omega
            have kr := k6.trans (hbr.mono lW)
            have hr := hown
            rw [← hz] at hr
            have hz4 : zs.length = a.length := hz.trans Z2.out
            have hn1 : ∀ j, j < zs.length → zs.getD j 0 = 1 := by rw [hz]; exact hone
            have HQ := hid (own_rd hr)
            have C6 := hid (fun (W : World) r1 r2 => Dot_any (A := Aa) (B := A6) (c := ca) (d := c6) a zs la' (by omega) IA.out (ones_i64 hn1) 0 W r1 r2)
            have HD := hid (fun hb => dot_ones (xs := a) (ones := zs) (by omega) hz4 hn1 hb)
            have hzl : Z.length = zs.length := hz.symm
            have HZL := hid hzl
            clear hz hown HO HN hone hr hz4 hn1 HO6 hzl
            go_wp2_with fail
            go_loopw [17, 91] (fun s i w5 => ∃ (k : Nat) (S : Int), k ≤ a.length ∧ i = .int .i64 k ∧ s = .int .i64 S ∧ -(1099511627776 * (k : Int)) ≤ S ∧ S ≤ 1099511627776 * (k : Int) ∧ (∀ j, j < k → -1099511627776 ≤ a.getD j 0 ∧ a.getD j 0 ≤ 1099511627776) ∧ S = sm (fun j => a.getD j 0) k ∧ wr = w5) (fun _ i _ => a.length - (intOf i).toNat)
            case atStart => exact ⟨0, 0, by omega, rfl, rfl, by omega, by omega, fun j hj => absurd hj (by omega), rfl, rfl⟩
            case round =>
              obtain ⟨k, S, hk, rfl, rfl, hS1, hS2, hbd, hS, rfl⟩ := hrel
              have HBD := hid hbd
              have HS := hid hS
              clear hbd hS
              by_cases hlt : k < a.length
              · obtain ⟨bb, off, x, hA, lx, ex, cx⟩ := (RA.out.on kr).at_ hlt
                have gx := hid (getD_of ex)
                have ixx := IA.out.at_ ex
                have ix1 := ixx.1
                have ix2 := ixx.2
                clear ex ixx
                subst hA
                by_cases b1 : 1099511627776 < x
                · go_wp2_with fail
                  go_ret
                  exact ⟨rfl, kr⟩
                · by_cases b2 : x < -1099511627776
                  · go_wp2_with fail
                    go_ret
                    exact ⟨rfl, kr⟩
                  · go_wp2_with fail
                    go_roundw
                    case rel =>
                      refine ⟨k + 1, S + x, by omega, by go_num, rfl, by omega, by omega, fun j hj => ?_, ?_, by trivial⟩
                      · by_cases e : j = k
                        · rw [e, gx.out]; omega
                        · exact HBD.out j (by omega)
                      · show S + x = sm (fun j => a.getD j 0) k + a.getD k 0
                        rw [← HS.out, gx.out]
                    case measure => simp [intOf]; omega
              · obtain rfl : k = a.length := by omega
                obtain ⟨d1, d2⟩ := HD.out HBD.out
                rw [d1, d2, ← HS.out] at C6
                have qs : (S == S) = true := by simp
                rw [← HZL.out] at C6
                clear d1 d2 HD
                go_wp2_with fail
                refine (C6.out _ (RA.out.on kr) HQ.out).mono ?_
                rintro _ w9 ⟨rfl, hb9⟩
                have k9 := kr.trans (hb9.mono kr.size)
                go_wp2_with fail
                go_ret
                exact ⟨rfl, k9⟩
      · obtain ⟨z1, z2⟩ := zero_long hz
        rw [z1, z2] at C4
        have ho : oneE a.length = 3 := if_pos (by omega)
        rw [ho] at C5
        clear z1 z2 ho hz
        go_wp2_with fail
        refine (C4.out w5 ).mono ?_
        rintro _ w6 ⟨A6, c6, rfl, ho6, hb6⟩
        have k6 := k5.trans (hb6.mono k5.size)
        clear ho6
        clear hb6 k5
        go_wp2_with fail
        refine (C5.out _).mono ?_
        rintro _ _ ⟨rfl, rfl⟩
        go_wp2_with fail
        go_ret
        exact ⟨rfl, k6⟩
theorem law_types : ∀ t ∈ Try.f7.params.toList, Try.prog.readableRec t = true ∧ t < Try.prog.types.size := by
  have h : (Try.f7.params.toList.all fun t => Try.prog.readableRec t && decide (t < Try.prog.types.size)) = true := by kernel_rfl
  intro t ht
  simpa using List.all_eq_true.1 h t ht
set_option maxRecDepth 100000 in
theorem lifted (os : Os) (started : os.Started) (H : Type) (enc : TypeId × Value → H) :
    ReturnsInHanded {} Try.checked os 7 .any (Rows.vecDotsSpec.pre6 enc Try.prog Try.f7 Rows.vecDotsRow.domain false) (Rows.vecDotsSpec.post enc Try.prog Try.f7 false true false false) := by
  refine returnsInHanded_of_change (C := Try.checked) own started (by kernel_rfl) Try.func7
    (ChangeSpec.witness6 (enc := enc) (C := Try.checked) false ⟨#[], #[.slice none 0 0, .slice none 0 0, .int .i64 0], []⟩ 8 (by kernel_rfl) (by kernel_rfl) (by kernel_rfl) (by kernel_rfl)) ?_
  intro W base args ds gs before hval0 hW hcnd _
  have hval : ∀ (j : Nat) t v, Try.f7.params[j]? = some t → args[j]? = some v → Value.okWide Try.prog W .any base t v := hval0
  have hW' := hW
  obtain ⟨p, q, hA0, hV, rfl, hfz, hnd⟩ := hW
  have hA : DataW.TrodAll enc Try.prog W 0 (fun _ => true) true Try.f7.params.toList args.toList ds p := hA0
  rw [Try.params7] at hA hval
  obtain ⟨v0, vs0, d0, ds0, p0, q0, hargs, rfl, rfl, h0, r0⟩ := trodAll_cons hA
  obtain ⟨v1, vs1, d1, ds1, p1, q1, rfl, rfl, rfl, h1, r1⟩ := trodAll_cons r0
  obtain ⟨v2, vs2, d2, ds2, p2, q2, rfl, rfl, rfl, h2, r2⟩ := trodAll_cons r1
  obtain ⟨rfl, rfl, rfl⟩ := trodAll_nil r2
  obtain rfl : args = #[v0, v1, v2] := by cases args; simp_all
  obtain ⟨rfl, rfl⟩ := trodVars_none hV
  obtain ⟨Aa, a, ca, rfl, rda, ia, lca, lma⟩ := open_i64s Try.underlying22 Try.underlying2 cells_i64 (hval 0 22 v0 rfl rfl) h0
  obtain ⟨Ab, b, cb, rfl, rdb, ib, lcb, lmb⟩ := open_i64s Try.underlying22 Try.underlying2 cells_i64 (hval 1 22 v1 rfl rfl) h1
  obtain ⟨frac, rfl, rfl, rfl, w2⟩ := open_int Try.underlying3 (hval 2 3 v2 rfl rfl) h2
  clear hA0 hval0
  refine (walk Aa a ca Ab b cb frac W rda ia lca lma rdb ib lcb lmb (I64.of_wf w2)).mono fun e W' ⟨he, hb⟩ => ?_
  subst he
  exact ⟨_, rfl, law_post laid (fun t ht => law_types t ht) rfl hW' ⟨rfl, rfl, rfl⟩ (by kernel_rfl) Try.underlying4 hb⟩

theorem over : Rows.vecDotsRow.holds Try.pinned (OpenSpec.ofChange Rows.vecDotsSpec) :=
  OpenClaim.holds_of_wide 7 Try.f7 rfl rfl rfl rfl rfl rfl rfl ⟨rfl, rfl, rfl, rfl, rfl⟩ rfl rfl rfl rfl rfl (by kernel_rfl) Try.func7 (by kernel_rfl)
    (of_decide_eq_true (by kernel_rfl)) (by unfold Func.isWrapper; first | (rw [if_pos (by decide +kernel)]; kernel_rfl) | (rw [if_neg (by decide +kernel)]; exact ⟨rfl, rfl⟩))
    (fun os started H enc _ => lifted os started H enc)

theorem proved : Rows.VecDotsSaid := over
end Go.Proofs.Ytmljhckbeoalgaa.VecDots
