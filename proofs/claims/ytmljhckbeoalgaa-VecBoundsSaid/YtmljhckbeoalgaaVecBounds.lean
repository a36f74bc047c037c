
/-
  VecBounds answers true for every input. No condition.
-/
import Derived.Test.YtmljhckbeoalgaaVecN
import Derived.Test.YtmljhckbeoalgaaOpen
namespace Go.Proofs.Ytmljhckbeoalgaa.VecBounds
open Go.ChangeShapes Go.WideShapes Go.ChangeAt Go.RowKit
set_option maxHeartbeats 400000
set_option linter.unusedVariables false
open Go.Proofs.Ytmljhckbeoalgaa
def metB (m : Int) (v : List Int) (k : Nat) : Bool := (m == 0) || (v.take k).any fun x => x == m || x == -m
theorem metB_step {m x : Int} {v : List Int} {k : Nat} (h : v[k]? = some x) : metB m v (k + 1) = (metB m v k || x == m || x == -m) := by
  unfold metB
  rw [List.take_add_one, h, List.any_append]
  simp [Bool.or_assoc]
theorem metB_end {m : Int} {v : List Int} (h : m = 0 ∨ ∃ (k : Nat) (x : Int), v[k]? = some x ∧ (x = m ∨ x = -m)) : metB m v v.length = true := by
  unfold metB
  rw [List.take_of_length_le (Nat.le_refl _)]
  rcases h with h | ⟨k, x, hx, h⟩
  · rw [h]; rfl
  · have : v.any (fun x => x == m || x == -m) = true := List.any_eq_true.2 ⟨x, List.mem_of_getElem? hx, by simpa using h⟩
    rw [this]; simp
theorem div_le {s m : Int} {n : Nat} (h0 : 0 < m) (h : s ≤ m * n) : s / m ≤ n := by
  have := Int.ediv_le_ediv h0 h
  rw [Int.mul_ediv_cancel_left _ (by omega)] at this
  exact this
set_option maxRecDepth 100000 in
theorem walk (Av : Option Addr) (v : List Int) (cv : Nat) (w : World) (rv : Rd (Value.int .i64) w w.heap.size Av v) (iv : I64s v) (lv : v.length ≤ cv) (mv : cv ≤ 9223372036854775807) :
    Calls Try.prog 6 #[.slice Av v.length cv] w fun e w' => e = .returned (.bool true) ∧ Below w.heap.size w w' := by
  have RV := hid rv
  have lv' : v.length ≤ 9223372036854775807 := by omega
  have CF := hid (fun (W : World) h1 => few_one (A := Av) (c := cv) v lv' W h1)
  have C1 := hid (fun (W : World) r1 => Most_any (A := Av) (c := cv) v lv' iv W r1)
  have C2 := hid (fun (W : World) r1 => Size_any (A := Av) (c := cv) v lv' iv W r1)
  have C3 := hid (fun (m : Int) (hm : I64 m) (W : World) r1 => Clip_any (A := Av) (c := cv) v lv' iv m hm W r1)
  have im : I64 (mostV v) := mx_i64 (unV_i64 fun k _ => ckV_i64 _) 0 (by decide)
  have MB := hid (fun h : mostE v ≠ 0 => bounds_bad h)
  have MO := hid (fun (h : mostE v = 0) h2 => bounds_ok (v := v) h h2)
  obtain ⟨m, hm⟩ : ∃ m, mostV v = m := ⟨_, rfl⟩
  obtain ⟨e, he⟩ : ∃ m, mostE v = m := ⟨_, rfl⟩
  obtain ⟨s, hs⟩ : ∃ m, sizeV v = m := ⟨_, rfl⟩
  obtain ⟨f, hf⟩ : ∃ m, sizeE v = m := ⟨_, rfl⟩
  rw [hm, he] at C1
  rw [hs, hf] at C2
  rw [he, hf] at MB
  rw [he, hf, hm, hs] at MO
  rw [hm] at im
  have IM := hid im
  clear hm he hs hf rv iv im
  go_enter Try.func6, Try.ntmps6
  go_wp2_with fail
  refine (live_yes _).mono ?_
  rintro _ w1 ⟨rfl, hb1⟩
  go_wp2_with fail
  have k1 : Below w.heap.size w (w1.alloc (.cells #[.slice Av v.length cv] 22)) := hb1.alloc hb1.size _
  refine (CF.out w1 (RV.out.on hb1)).mono ?_
  rintro _ _ ⟨rfl, rfl⟩
  obtain ⟨w2, hw2⟩ : ∃ w2, w1.alloc (.cells #[.slice Av v.length cv] 22) = w2 := ⟨_, rfl⟩
  rw [hw2] at k1 ⊢
  clear hw2 hb1
  cases hf : fewB [v] with
  | false =>
    go_wp2_with fail
    go_ret
    exact ⟨rfl, k1⟩
  | true =>
    clear hf
    go_wp2_with fail
    refine (C1.out w2 (RV.out.on k1)).mono ?_
    rintro _ w3 ⟨rfl, hb3⟩
    have k3 := k1.trans (hb3.mono k1.size)
    clear hb3 k1
    go_wp2_with fail
    refine (C2.out w3 (RV.out.on k3)).mono ?_
    rintro _ w4 ⟨rfl, hb4⟩
    have k4 := k3.trans (hb4.mono k3.size)
    clear hb4 k3
    by_cases h1 : e = 0
    · skip
      by_cases h2 : f = 0
      · have M := MO.out h1 h2
        subst h1
        subst h2
        obtain ⟨b1, b2, b3, b4, b5, b6, b7, b8, b9, b10⟩ := M
        have B2 := hid b2
        have B8 := hid b8
        have C4 := hid (C3.out m IM.out)
        rw [b9, b10] at C4
        have CY := hid (fun (A : Option Addr) (c : Nat) (W : World) r1 r2 => Same_any (A := A) (B := Av) (c := c) (d := cv) v v lv' lv' W r1 r2)
        rw [eqB_self] at CY
        have b7' := hid b7
        clear b2 b8 b9 b10 b7 MO MB C3
        go_wp2_with fail
        have q0 := hid (show metB m v 0 = (m == 0) by unfold metB; simp)
        obtain ⟨q, hq⟩ : ∃ q, (m == 0) = q := ⟨_, rfl⟩
        rw [hq] at q0
        try rw [hq]
        have HQ := hid hq
        clear hq
        go_loopw [8, 51] (fun u i wr => ∃ (k : Nat) (q : Bool), k ≤ v.length ∧ i = .int .i64 k ∧ u = .bool q ∧ metB m v k = q ∧ w4 = wr) (fun _ i _ => v.length - (intOf i).toNat)
        case atStart =>
          first
          | exact ⟨0, q, by omega, rfl, rfl, q0.out, rfl⟩
          | exact ⟨0, _, by omega, rfl, rfl, by rw [q0.out]; exact HQ.out.symm, rfl⟩
        case round =>
          obtain ⟨k, q, hk, rfl, rfl, hm, rfl⟩ := hrel
          have HM := hid hm
          clear hm
          by_cases hlt : k < v.length
          · obtain ⟨bb, off, x, rfl, lx, ex, cx⟩ := (RV.out.on k4).at_ hlt
            have hx := B2.out k x ex
            have x1 := hx.1
            have x2 := hx.2
            have ST := hid (metB_step (m := m) ex)
            clear hx ex
            cases q with
            | true =>
              go_wp2_with fail
              go_roundw
              case rel => exact ⟨k + 1, true, by omega, by go_num, rfl, by rw [ST.out, HM.out]; rfl, by trivial⟩
              case measure => simp [intOf]; omega
            | false =>
              by_cases e1 : x = m
              · have e1' : (x == m) = true := by simpa using e1
                have E := hid e1
                clear e1
                go_wp2_with fail
                go_roundw
                case rel => exact ⟨k + 1, true, by omega, by go_num, rfl, by rw [ST.out, E.out]; simp, by trivial⟩
                case measure => simp [intOf]; omega
              · have e1' : (x == m) = false := by simpa using e1
                by_cases e2 : x = -m
                · have e2' : (x == -m) = true := by simpa using e2
                  have E := hid e2
                  clear e2 e1
                  go_wp2_with fail
                  go_roundw
                  case rel => exact ⟨k + 1, true, by omega, by go_num, rfl, by rw [ST.out, E.out]; simp, by trivial⟩
                  case measure => simp [intOf]; omega
                · have e2' : (x == -m) = false := by simpa using e2
                  clear e1 e2
                  go_wp2_with fail
                  go_roundw
                  case rel => exact ⟨k + 1, false, by omega, by go_num, rfl, by rw [ST.out, HM.out, e1', e2']; rfl, by trivial⟩
                  case measure => simp [intOf]; omega
          · obtain rfl : k = v.length := by omega
            have hq : q = true := by rw [← HM.out]; exact metB_end B8.out
            subst hq
            by_cases hm0 : m = 0
            · have hm0' : (m == 0) = true := by simpa using hm0
              have EM := hid hm0
              clear hm0
              go_wp2_with fail
              refine (C4.out w4 (RV.out.on k4)).mono ?_
              rintro _ w901 ⟨A901, c901, rfl, ho901, hb901⟩
              have k901 := k4.trans (hb901.mono k4.size)
              have HS901 := hid (own_rd ho901)
              have HO901 := hid ho901
              clear ho901
              clear hb901 k4
              go_wp2_with fail
              refine (CY.out _ _ w901 HS901.out (RV.out.on k901)).mono ?_
              rintro _ w902 ⟨rfl, hb902⟩
              have k902 := k901.trans (hb902.mono k901.size)
              have HL903 := hid (HS901.out.on hb902)
              clear HS901
              clear hb902 k901
              go_wp2_with fail
              go_ret
              exact ⟨rfl, k902⟩
            · have hm0' : (m == 0) = false := by simpa using hm0
              have hm1 : 0 < m := by omega
              have hm2 : 1 ≤ m := by omega
              have hs0 : 0 ≤ s := by omega
              have hdv := div_le hm1 b7'.out
              clear hm0
              go_wp2_with fail
              refine (C4.out w4 (RV.out.on k4)).mono ?_
              rintro _ w901 ⟨A901, c901, rfl, ho901, hb901⟩
              have k901 := k4.trans (hb901.mono k4.size)
              have HS901 := hid (own_rd ho901)
              have HO901 := hid ho901
              clear ho901
              clear hb901 k4
              go_wp2_with fail
              refine (CY.out _ _ w901 HS901.out (RV.out.on k901)).mono ?_
              rintro _ w902 ⟨rfl, hb902⟩
              have k902 := k901.trans (hb902.mono k901.size)
              have HL903 := hid (HS901.out.on hb902)
              clear HS901
              clear hb902 k901
              go_wp2_with fail
              go_ret
              exact ⟨rfl, k902⟩
      · have hne : (f != 0) = true := by simpa using h2
        subst h1
        clear h2 MO MB
        go_wp2_with fail
        go_ret
        exact ⟨rfl, k4⟩
    · have hee := hid (MB.out h1)
      have hne : (e != 0) = true := by simpa using h1
      have hne' : (e == 0) = false := by simpa using h1
      have hef : (e == f) = true := by rw [hee.out]; simp
      clear h1
      go_wp2_with fail
      go_ret
      exact ⟨rfl, k4⟩
theorem law_types : ∀ t ∈ Try.f6.params.toList, Try.prog.readableRec t = true ∧ t < Try.prog.types.size := by
  have h : (Try.f6.params.toList.all fun t => Try.prog.readableRec t && decide (t < Try.prog.types.size)) = true := by kernel_rfl
  intro t ht
  simpa using List.all_eq_true.1 h t ht
set_option maxRecDepth 100000 in
theorem lifted (os : Os) (started : os.Started) (H : Type) (enc : TypeId × Value → H) :
    ReturnsInHanded {} Try.checked os 6 .any (Rows.vecBoundsSpec.pre6 enc Try.prog Try.f6 Rows.vecBoundsRow.domain false) (Rows.vecBoundsSpec.post enc Try.prog Try.f6 false true false false) := by
  refine returnsInHanded_of_change (C := Try.checked) own started (by kernel_rfl) Try.func6
    (ChangeSpec.witness6 (enc := enc) (C := Try.checked) false ⟨#[], #[.slice none 0 0], []⟩ 8 (by kernel_rfl) (by kernel_rfl) (by kernel_rfl) (by kernel_rfl)) ?_
  intro W base args ds gs before hval0 hW hcnd _
  have hval : ∀ (j : Nat) t v, Try.f6.params[j]? = some t → args[j]? = some v → Value.okWide Try.prog W .any base t v := hval0
  have hW' := hW
  obtain ⟨p, q, hA0, hV, rfl, hfz, hnd⟩ := hW
  have hA : DataW.TrodAll enc Try.prog W 0 (fun _ => true) true Try.f6.params.toList args.toList ds p := hA0
  rw [Try.params6] at hA hval
  obtain ⟨v0, vs0, d0, ds0, p0, q0, hargs, rfl, rfl, h0, r0⟩ := trodAll_cons hA
  obtain ⟨rfl, rfl, rfl⟩ := trodAll_nil r0
  obtain rfl : args = #[v0] := by cases args; simp_all
  obtain ⟨rfl, rfl⟩ := trodVars_none hV
  obtain ⟨Av, v, cv, rfl, rdv, iv, lcv, lmv⟩ := open_i64s Try.underlying22 Try.underlying2 cells_i64 (hval 0 22 v0 rfl rfl) h0
  clear hA0 hval0
  refine (walk Av v cv W rdv iv lcv lmv).mono fun e W' ⟨he, hb⟩ => ?_
  subst he
  exact ⟨_, rfl, law_post laid (fun t ht => law_types t ht) rfl hW' ⟨rfl, rfl, rfl⟩ (by kernel_rfl) Try.underlying4 hb⟩

theorem over : Rows.vecBoundsRow.holds Try.pinned (OpenSpec.ofChange Rows.vecBoundsSpec) :=
  OpenClaim.holds_of_wide 6 Try.f6 rfl rfl rfl rfl rfl rfl rfl ⟨rfl, rfl, rfl, rfl, rfl⟩ rfl rfl rfl rfl rfl (by kernel_rfl) Try.func6 (by kernel_rfl)
    (of_decide_eq_true (by kernel_rfl)) (by unfold Func.isWrapper; first | (rw [if_pos (by decide +kernel)]; kernel_rfl) | (rw [if_neg (by decide +kernel)]; exact ⟨rfl, rfl⟩))
    (fun os started H enc _ => lifted os started H enc)

theorem proved : Rows.VecBoundsSaid := over
end Go.Proofs.Ytmljhckbeoalgaa.VecBounds
