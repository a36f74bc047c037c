
/-
  TopkGreatest answers true for every input. No condition.
-/
import Derived.Test.YtjkhdfncahhnoaaTf
import Derived.Test.YtjkhdfncahhnoaaTe
import Derived.Test.YtjkhdfncahhnoaaTd
import Derived.Test.YtjkhdfncahhnoaaTTkS
import Derived.Test.YtjkhdfncahhnoaaTIxP
import Derived.Test.YtjkhdfncahhnoaaTc
import Derived.Test.YtjkhdfncahhnoaaTb
namespace Go.Proofs.Ytjkhdfncahhnoaa.TopkGreatest
open Go.ChangeShapes Go.WideShapes Go.ChangeAt Go.RowKit
set_option maxHeartbeats 400000
set_option linter.unusedVariables false
open Go.Proofs.Ytjkhdfncahhnoaa
set_option maxHeartbeats 4000000 in
set_option maxRecDepth 100000 in
theorem walk (k : Int) (Av : Option Addr) (v : List Int) (cv : Nat) (w : World) (hk : I64 k) (rv : Rd (Value.int .i64) w w.heap.size Av v) (uv : I64s v) (lv : v.length ≤ cv) (mv : cv ≤ 9223372036854775807) :
    Calls Try.prog 4 #[.int .i64 k, .slice Av v.length cv] w fun e w' => e = .returned (.bool true) ∧ Below w.heap.size w w' := by
  have HV := hid rv
  have hv : v.length ≤ 9223372036854775807 := by omega
  have CF := hid (fun W => tk_few (A := Av) (c := cv) v hv W)
  by_cases hl : fewT v = true
  · rw [hl] at CF
    have h5 : v.length ≤ 5000 := by
      unfold fewT at hl
      have := of_decide_eq_true hl
      omega
    have C1 := hid (fun W (h : Rd (Value.int .i64) W W.heap.size Av v) => tk_Pick (c := cv) k hk v uv h5 W h)
    by_cases hp : pikE v k = 0
    · have hb := pikE_ok.1 hp
      have hLl := pikV_len hp
      have hk0 : 0 ≤ k := hb.2.1
      have hkv : k ≤ (v.length : Int) := hb.2.2
      have HAT := hid (fun n (hn : n ∈ pikV v k) => pik_at hp hn)
      have CL := hid (fun (A : Option Addr) (c : Nat) W (h : Rd (Value.int .i64) W W.heap.size A (pikV v k)) => ix_Left (A := A) (c := c) (v.length : Int) (pikV v k) (by unfold I64; omega) (by omega) W h)
      have CS := hid (fun (A : Option Addr) (c : Nat) W (h1 : Rd (Value.int .i64) W W.heap.size A (pikV v k)) (h2 : Rd (Value.int .i64) W W.heap.size Av v) => tk_Least (A := A) (B := Av) (c := c) (d := cv) (pikV v k) v uv (by omega) h5 W h1 h2)
      have CA := hid (fun (i j : Nat) (hi : i < v.length) (hj : j < v.length) W (h : Rd (Value.int .i64) W W.heap.size Av v) => ref_Ahead (A := Av) (c := cv) v uv i j hi hj hv W h)
      have CZ := hid (fun (x : Int) (hx : I64 x) W => ref_Size9 x hx W)
      have UV := hid uv
      have HLF := hid (fun (h0 : v ≠ []) n (hn : n ∈ lfV v.length (pikV v k)) => pik_left hp h0 hn)
      have HCK := hid (fun (h0 : v ≠ []) => pik_plc hp h0)
      have HLE := hid (fun (h0 : v ≠ []) => pik_least hp h0)
      have hYl := lfV_len (v.length : Int) (pikV v k)
      rw [hp] at C1
      obtain ⟨L, hL⟩ : ∃ L, pikV v k = L := ⟨_, rfl⟩
      rw [hL] at C1 CL CS hLl HAT HLF HCK HLE hYl
      obtain ⟨F, hF⟩ : ∃ F, pkF v k.toNat = F := ⟨_, rfl⟩
      rw [hF] at HAT HLF HLE
      have HAH := hid (fun (i n : Nat) (hi : i ∈ F) (hn : n < v.length) (ho : n ∉ F) => show ahB v i n = true from pk_ahead (k := k.toNat) (by rw [hF]; exact hi) hn (by rw [hF]; exact ho))
      have t1 : ((L.length : Int) != k) = false := by simp; omega
      have hL5 : L.length ≤ 4096 := by omega
      clear hL hF rv uv hl hp hb
      by_cases h0 : v = []
      · have hv0 : v.length = 0 := by rw [h0]; rfl
        have hvz : (v.length : Int) = 0 := by omega
        have hL0 : L.length = 0 := by omega
        have hLz : (L.length : Int) = 0 := by omega
        have t2 : ((v.length : Int) == 0) = true := by simp; omega
        have t3 : (v.length == 0) = true := by simp; omega
        have t4 : v.isEmpty = true := by rw [h0]; rfl
        have HV0 := hid h0
        clear h0 hv0 hvz hL0 CL CS CA CZ HAT HLF HCK HLE HAH hYl
        go_enter Try.func4, Try.ntmps4
        go_wp2_with fail
        refine (tk_live _).mono ?_
        rintro _ w1 ⟨rfl, k1⟩
        go_wp2_with fail
        refine (CF.out w1).mono ?_
        rintro _ _ ⟨rfl, rfl⟩
        clear CF
        go_wp2_with fail
        refine (C1.out w1 (HV.out.on k1)).mono ?_
        rintro _ w2 ⟨A2, c2, rfl, ho2, hb2⟩
        have k2 := k1.trans (hb2.mono k1.size)
        clear ho2 hb2 C1 k1
        go_wp2_with fail
        go_loop [9, 57] (fun x9 i => i = .int .i64 0) (fun _ i => 0)
        case atStart => rfl
        case round =>
          subst hrel
          go_wp2_with fail
          go_ret
          exact ⟨rfl, k2⟩
      · have hv0 : v.length ≠ 0 := fun h => h0 (List.length_eq_zero_iff.1 h)
        have CL2 := CL
        have hck := HCK.out h0
        have HLF2 := hid (HLF.out h0)
        have HLE2 := hid (HLE.out h0)
        rw [hck] at CL
        obtain ⟨Y, hY⟩ : ∃ Y, lfV v.length L = Y := ⟨_, rfl⟩
        rw [hY] at CL HLF2 hYl
        obtain ⟨⟨z, is⟩, hz⟩ : ∃ r, lstR L v = r := ⟨_, rfl⟩
        rw [hz] at CS HLE2
        have HIS : Hid (is = decide (0 < k)) := hid HLE2.out.1
        have HSZ := hid HLE2.out.2
        simp only at CS HSZ
        have t2 : ((v.length : Int) == 0) = false := by simp; omega
        have t3 : (v.length == 0) = false := by simp; omega
        clear hY hz CL2 hck HLF HCK HLE HLE2 h0
        go_enter Try.func4, Try.ntmps4
        go_wp2_with fail
        refine (tk_live _).mono ?_
        rintro _ w1 ⟨rfl, k1⟩
        go_wp2_with fail
        refine (CF.out w1).mono ?_
        rintro _ _ ⟨rfl, rfl⟩
        clear CF
        go_wp2_with fail
        refine (C1.out w1 (HV.out.on k1)).mono ?_
        rintro _ w2 ⟨A2, c2, rfl, ho2, hb2⟩
        have k2 := k1.trans (hb2.mono k1.size)
        have RL := hid (own_rd ho2)
        clear ho2 hb2 C1 k1
        go_wp2_with fail
        go_loop [9, 57] (fun x9 i => ∃ q : Nat, q ≤ L.length ∧ i = .int .i64 q) (fun _ i => L.length - (intOf i).toNat)
        case atStart => exact ⟨0, by omega, rfl⟩
        case round =>
          obtain ⟨q, hq, rfl⟩ := hrel
          by_cases hlt : q < L.length
          · obtain ⟨b1, o1, n, rfl, l1, en, d1⟩ := RL.out.at_ hlt
            obtain ⟨m, rfl, hm, _⟩ := HAT.out n (List.mem_of_getElem? en)
            have hm1 : (m : Int) < (v.length : Int) := by omega
            clear en
            go_wp2_with fail
            go_round
            case rel => exact ⟨q + 1, by omega, by go_num⟩
            case measure => simp [intOf]; omega
          · go_wp2_with fail
            refine (CL.out A2 c2 w2 RL.out).mono ?_
            rintro _ w3 ⟨A3, c3, rfl, ho3, hb3⟩
            have k3 := k2.trans (hb3.mono k2.size)
            have RL3 := hid (RL.out.on hb3)
            have RY3 := hid (own_rd ho3)
            have RV3 := hid (HV.out.on k3)
            clear ho3 hb3 CL RL k2
            go_wp2_with fail
            go_loop [13, 15, 85, 90, 91] (fun x13 x15 i x90 x91 => ∃ q : Nat, q ≤ L.length ∧ i = .int .i64 q) (fun _ _ i _ _ => L.length - (intOf i).toNat)
            case atStart => exact ⟨0, by omega, rfl⟩
            case round =>
              obtain ⟨q, hq, rfl⟩ := hrel
              by_cases hlt : q < L.length
              · obtain ⟨b1, o1, n, rfl, l1, en, d1⟩ := RL3.out.at_ hlt
                obtain ⟨m, rfl, hm, hmF⟩ := HAT.out n (List.mem_of_getElem? en)
                clear en
                go_wp2_with fail
                go_loop [15, 91] (fun x15 i => ∃ j : Nat, j ≤ Y.length ∧ i = .int .i64 j) (fun _ i => Y.length - (intOf i).toNat)
                case atStart => exact ⟨0, by omega, rfl⟩
                case round =>
                  obtain ⟨j, hj, rfl⟩ := hrel
                  by_cases hjl : j < Y.length
                  · obtain ⟨b2, o2, y, rfl, l2, ey, d2⟩ := RY3.out.at_ hjl
                    obtain ⟨p, rfl, hp, hpF⟩ := HLF2.out y (List.mem_of_getElem? ey)
                    have C := hid (CA.out m p hm hp w3 RV3.out)
                    rw [HAH.out m p hmF hp hpF] at C
                    have hp1 : (p : Int) < (v.length : Int) := by omega
                    clear ey
                    go_wp2_with fail
                    refine C.out.mono ?_
                    rintro _ _ ⟨rfl, rfl⟩
                    go_wp2_with fail
                    go_round
                    case rel => exact ⟨j + 1, by omega, by go_num⟩
                    case measure => simp [intOf]; omega
                  · go_wp2_with fail
                    go_round
                    case rel => exact ⟨q + 1, by omega, by go_num⟩
                    case measure => simp [intOf]; omega
              · go_wp2_with fail
                refine (CS.out A2 c2 w3 RL3.out RV3.out).mono ?_
                rintro _ w4 ⟨rfl, hb4⟩
                have k4 := k3.trans (hb4.mono k3.size)
                have RY4 := hid (RY3.out.on hb4)
                have RV4 := hid (HV.out.on k4)
                clear hb4 CS RY3 RV3 RL3 k3 CA
                go_wp2_with fail
                go_loop [19, 120] (fun x19 i => ∃ j : Nat, j ≤ Y.length ∧ i = .int .i64 j) (fun _ i => Y.length - (intOf i).toNat)
                case atStart => exact ⟨0, by omega, rfl⟩
                case round =>
                  obtain ⟨j, hj, rfl⟩ := hrel
                  by_cases hjl : j < Y.length
                  · obtain ⟨b2, o2, y, rfl, l2, ey, d2⟩ := RY4.out.at_ hjl
                    obtain ⟨p, rfl, hp, hpF⟩ := HLF2.out y (List.mem_of_getElem? ey)
                    obtain ⟨b3, o3, x, rfl, l3, ex, d3⟩ := RV4.out.at_ hp
                    obtain ⟨hx1, hx2⟩ := HSZ.out p 0 hp hpF
                    have hx : v.getD p 0 = x := getD_of ex
                    rw [hx] at hx2
                    have C := hid (CZ.out x (UV.out x (List.mem_of_getElem? ex)) w4)
                    have hp1 : (p : Int) < (v.length : Int) := by omega
                    have HX2 := hid hx2
                    obtain ⟨s, hs⟩ : ∃ s, szN x = s := ⟨_, rfl⟩
                    rw [hs] at C HX2
                    clear ey ex hx1 hx2 hx hs
                    cases is with
                    | false =>
                      go_wp2_with fail
                      go_round
                      case rel => exact ⟨j + 1, by omega, by go_num⟩
                      case measure => simp [intOf]; omega
                    | true =>
                      have hsz := HX2.out rfl
                      have hsz1 : ¬ ((s : Int) > (z : Int)) := by omega
                      clear HX2
                      go_wp2_with fail
                      refine C.out.mono ?_
                      rintro _ _ ⟨rfl, rfl⟩
                      go_wp2_with fail
                      go_round
                      case rel => exact ⟨j + 1, by omega, by go_num⟩
                      case measure => simp [intOf]; omega
                  · have hD : is = decide (k > 0) := HIS.out
                    by_cases hk1 : k > 0
                    · rw [decide_eq_true hk1] at hD
                      subst hD
                      go_wp2_with fail
                      go_ret
                      exact ⟨rfl, k4⟩
                    · rw [decide_eq_false hk1] at hD
                      subst hD
                      go_wp2_with fail
                      go_ret
                      exact ⟨rfl, k4⟩
    · have hc : (v.length : Int) > 4096 ∨ (¬ (v.length : Int) > 4096 ∧ k < 0) ∨ (¬ (v.length : Int) > 4096 ∧ ¬ k < 0 ∧ k > (v.length : Int)) := by
        have h : ¬ (v.length ≤ 4096 ∧ 0 ≤ k ∧ k ≤ (v.length : Int)) := fun h => hp (pikE_ok.2 h)
        omega
      have hZ : pikV v k = [] := if_neg hp
      rw [hZ] at C1
      obtain ⟨E, hE⟩ : ∃ E, pikE v k = E := ⟨_, rfl⟩
      rw [hE] at C1 hp
      have hne : (E != 0) = true := by simpa using hp
      clear hp hZ hE rv uv hl
      rcases hc with hc | ⟨hc, hc2⟩ | ⟨hc, hc2, hc3⟩
      all_goals (
        go_enter Try.func4, Try.ntmps4
        go_wp2_with fail
        refine (tk_live _).mono ?_
        rintro _ w1 ⟨rfl, k1⟩
        go_wp2_with fail
        refine (CF.out w1).mono ?_
        rintro _ _ ⟨rfl, rfl⟩
        clear CF
        go_wp2_with fail
        refine (C1.out w1 (HV.out.on k1)).mono ?_
        rintro _ w2 ⟨A2, c2, rfl, ho2, hb2⟩
        have k2 := k1.trans (hb2.mono k1.size)
        go_wp2_with fail
        go_ret
        exact ⟨rfl, k2⟩)
  · rw [Bool.eq_false_iff.2 hl] at CF
    clear rv uv hl
    go_enter Try.func4, Try.ntmps4
    go_wp2_with fail
    refine (tk_live _).mono ?_
    rintro _ w1 ⟨rfl, k1⟩
    go_wp2_with fail
    refine (CF.out w1).mono ?_
    rintro _ _ ⟨rfl, rfl⟩
    clear CF
    go_wp2_with fail
    go_ret
    exact ⟨rfl, k1⟩
theorem law_types : ∀ t ∈ Try.f4.params.toList, Try.prog.readableRec t = true ∧ t < Try.prog.types.size := by
  have h : (Try.f4.params.toList.all fun t => Try.prog.readableRec t && decide (t < Try.prog.types.size)) = true := by kernel_rfl
  intro t ht
  simpa using List.all_eq_true.1 h t ht
set_option maxRecDepth 100000 in
theorem lifted (os : Os) (started : os.Started) (H : Type) (enc : TypeId × Value → H) :
    ReturnsInHanded {} Try.checked os 4 .any (Rows.topkGreatestSpec.pre6 enc Try.prog Try.f4 Rows.topkGreatestRow.domain false) (Rows.topkGreatestSpec.post enc Try.prog Try.f4 false true false false) := by
  refine returnsInHanded_of_change (C := Try.checked) own started (by kernel_rfl) Try.func4
    (ChangeSpec.witness6 (enc := enc) (C := Try.checked) false ⟨#[], #[.int .i64 0, .slice none 0 0], []⟩ 8 (by kernel_rfl) (by kernel_rfl) (by kernel_rfl) (by kernel_rfl)) ?_
  intro W base args ds gs before hval0 hW hcnd _
  have hval : ∀ (j : Nat) t v, Try.f4.params[j]? = some t → args[j]? = some v → Value.okWide Try.prog W .any base t v := hval0
  have hW' := hW
  obtain ⟨p, q, hA0, hV, rfl, hfz, hnd⟩ := hW
  have hA : DataW.TrodAll enc Try.prog W 0 (fun _ => true) true Try.f4.params.toList args.toList ds p := hA0
  rw [Try.params4] at hA hval
  obtain ⟨v0, vs0, d0, ds0, p0, q0, hargs, rfl, rfl, h0, r0⟩ := trodAll_cons hA
  obtain ⟨v1, vs1, d1, ds1, p1, q1, rfl, rfl, rfl, h1, r1⟩ := trodAll_cons r0
  obtain ⟨rfl, rfl, rfl⟩ := trodAll_nil r1
  obtain rfl : args = #[v0, v1] := by cases args; simp_all
  obtain ⟨rfl, rfl⟩ := trodVars_none hV
  obtain ⟨k, rfl, rfl, rfl, w0⟩ := open_int Try.underlying3 (hval 0 3 v0 rfl rfl) h0
  obtain ⟨Av, v, cv, rfl, rdv, iv, lcv, lmv⟩ := open_nums Try.underlying22 Try.underlying2 cells_i64' (hval 1 22 v1 rfl rfl) h1
  clear hA0 hval0
  refine (walk k Av v cv W (I64.of_wf w0) rdv (fun x hx => I64.of_wf (iv x hx)) lcv lmv).mono fun e W' ⟨he, hb⟩ => ?_
  subst he
  exact ⟨_, rfl, law_post laid (fun t ht => law_types t ht) rfl hW' ⟨rfl, rfl, rfl⟩ (by kernel_rfl) Try.underlying4 hb⟩

theorem over : Rows.topkGreatestRow.holds Try.pinned (OpenSpec.ofChange Rows.topkGreatestSpec) :=
  OpenClaim.holds_of_wide 4 Try.f4 rfl rfl rfl rfl rfl rfl rfl ⟨rfl, rfl, rfl, rfl, rfl⟩ rfl rfl rfl rfl rfl (by kernel_rfl) Try.func4 (by kernel_rfl)
    (of_decide_eq_true (by kernel_rfl)) (by unfold Func.isWrapper; first | (rw [if_pos (by decide +kernel)]; kernel_rfl) | (rw [if_neg (by decide +kernel)]; exact ⟨rfl, rfl⟩))
    (fun os started H enc _ => lifted os started H enc)

theorem proved : Rows.TopkGreatestSaid := over
end Go.Proofs.Ytjkhdfncahhnoaa.TopkGreatest
