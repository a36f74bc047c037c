
/-
  TopkOrders answers true for every input. No condition.
-/
import Derived.Test.YtjkhdfncahhnoaaTf
import Derived.Test.YtjkhdfncahhnoaaTe
import Derived.Test.YtjkhdfncahhnoaaTd
import Derived.Test.YtjkhdfncahhnoaaTTkS
import Derived.Test.YtjkhdfncahhnoaaTIxP
import Derived.Test.YtjkhdfncahhnoaaTc
import Derived.Test.YtjkhdfncahhnoaaTb
namespace Go.Proofs.Ytjkhdfncahhnoaa.TopkOrders
open Go.ChangeShapes Go.WideShapes Go.ChangeAt Go.RowKit
set_option maxHeartbeats 400000
set_option linter.unusedVariables false
open Go.Proofs.Ytjkhdfncahhnoaa
set_option maxHeartbeats 2000000 in
set_option maxRecDepth 100000 in
theorem walk (k : Int) (Av : Option Addr) (v : List Int) (cv : Nat) (w : World) (hk : I64 k) (rv : Rd (Value.int .i64) w w.heap.size Av v) (uv : I64s v) (lv : v.length ≤ cv) (mv : cv ≤ 9223372036854775807) :
    Calls Try.prog 6 #[.int .i64 k, .slice Av v.length cv] w fun e w' => e = .returned (.bool true) ∧ Below w.heap.size w w' := by
  have HV := hid rv
  have hv : v.length ≤ 9223372036854775807 := by omega
  have CF := hid (fun W => tk_few (A := Av) (c := cv) v hv W)
  by_cases hl : fewT v = true
  · rw [hl] at CF
    have h5 : v.length ≤ 5000 := by
      unfold fewT at hl
      have := of_decide_eq_true hl
      omega
    have C1 := hid (fun W (h : Rd (Value.int .i64) W W.heap.size Av v) => tk_Order (c := cv) v uv h5 W h)
    by_cases ho : orkE v = 0
    · have h4 := orkE_ok.1 ho
      have hXl := orkV_len ho
      have HAT := hid (fun r n (hn : (orkV v)[r]? = some n) => ork_at ho hn)
      have HNX := hid (fun (r a b : Nat) (ha : (orkV v)[r]? = some (a : Int)) (hb : (orkV v)[r + 1]? = some (b : Int)) => ork_next ho ha hb)
      have HMG := hid (fun (K : Nat) (hK : K ≤ v.length) => mrg_pick ho hK)
      have CA := hid (fun (i j : Nat) (hi : i < v.length) (hj : j < v.length) W (h : Rd (Value.int .i64) W W.heap.size Av v) => ref_Ahead (A := Av) (c := cv) v uv i j hi hj hv W h)
      have C2 := hid (fun W (h : Rd (Value.int .i64) W W.heap.size Av v) => tk_Pick (c := cv) k hk v uv h5 W h)
      rw [ho] at C1
      obtain ⟨X, hX⟩ : ∃ X, orkV v = X := ⟨_, rfl⟩
      rw [hX] at C1 hXl HAT HNX HMG
      have hX4 : X.length ≤ 4096 := by omega
      have t1 : ((X.length : Int) != (v.length : Int)) = false := by simp; omega
      have t2 : (X.length != v.length) = false := by simp; omega
      have HXL := hid hXl
      have HPK := hid (fun (h : pikE v k = 0) => pikE_ok.1 h)
      have HPV := hid (fun (h : pikE v k = 0) => show pikV v k = pkI v k.toNat from if_pos h)
      have HPZ := hid (fun (h : pikE v k ≠ 0) => show pikV v k = [] from if_neg h)
      clear hX hXl rv uv hl
      go_enter Try.func6, Try.ntmps6
      go_wp2_with fail
      refine (tk_live _).mono ?_
      rintro _ w1 ⟨rfl, k1⟩
      go_wp2_with fail
      refine (CF.out w1).mono ?_
      rintro _ _ ⟨rfl, rfl⟩
      clear CF
      go_wp2_with fail
      refine (C1.out w1 (HV.out.on k1)).mono ?_
      rintro _ w2 ⟨A2, c2, rfl, ho2, hb2⟩
      have k2 := k1.trans (hb2.mono k1.size)
      have hcap := own_cap ho2
      have RX := hid (own_rd ho2)
      have RV2 := hid (HV.out.on k2)
      clear ho2 hb2 C1 k1
      go_wp2_with fail
      clear t1 t2
      go_loop [8, 9, 39] (fun x8 x9 i => ∃ q : Nat, q ≤ X.length ∧ i = .int .i64 q) (fun _ _ i => X.length - (intOf i).toNat)
      case atStart => exact ⟨0, by omega, rfl⟩
      case round =>
        obtain ⟨q, hq, rfl⟩ := hrel
        by_cases hlt : q < X.length
        · obtain ⟨b1, o1, n, rfl, l1, en, d1⟩ := RX.out.at_ hlt
          obtain ⟨m, rfl, hm, _⟩ := HAT.out q n en
          rcases Nat.eq_zero_or_pos q with h0 | h0
          · subst h0
            rw [Nat.add_zero] at d1
            clear en
            go_wp2_with fail
            go_round
            case rel => exact ⟨1, by omega, by go_num⟩
            case measure => simp [intOf]; omega
          · obtain ⟨j, rfl⟩ : ∃ j, q = j + 1 := ⟨q - 1, by omega⟩
            have hj : j < X.length := by omega
            obtain ⟨b2, o2, y, e2, l2, ey, d2⟩ := RX.out.at_ hj
            injection e2 with e2
            injection e2 with e2 e3
            subst e2 e3
            obtain ⟨p, rfl, hp, _⟩ := HAT.out j y ey
            have C := hid (CA.out p m hp hm w2 RV2.out)
            rw [HNX.out j p m ey en] at C
            have hji : ((j + 1 : Nat) : Int) - 1 = (j : Int) := by omega
            have hjc : ((j + 1 : Nat) : Int) = (j : Int) + 1 := by omega
            have hj1 : (j : Int) < (X.length : Int) := by omega
            clear en ey h0
            go_wp2_with fail
            refine C.out.mono ?_
            rintro _ _ ⟨rfl, rfl⟩
            go_wp2_with fail
            go_round
            case rel => exact ⟨j + 1 + 1, by omega, by go_num⟩
            case measure => simp [intOf]; omega
        · by_cases hp : pikE v k = 0
          · have hb := HPK.out hp
            have hV := HPV.out hp
            rw [hp, hV] at C2
            have hk0 : k ≥ 0 := hb.2.1
            obtain ⟨K, rfl⟩ := Int.eq_ofNat_of_zero_le hb.2.1
            rw [Int.toNat_natCast] at C2
            have hK : K ≤ v.length := by omega
            have hKX : K ≤ X.length := by rw [HXL.out]; exact hK
            have hMG := HMG.out K hK
            obtain ⟨P, hP⟩ : ∃ P, pkI v K = P := ⟨_, rfl⟩
            have hPl : P.length = K := by rw [← hP]; exact pkI_len hK
            rw [hP] at C2 hMG
            have hTl : (X.take K).length = K := by rw [List.length_take]; omega
            have CM := hid (fun (A : Option Addr) (W : World) (h : RdRows W W.heap.size A [X.take K]) => ix_Merge (A := A) (c := 1) [X.take K] (by simp) (by simp; omega) W h)
            rw [hMG, show ([X.take K] : List (List Int)).length = 1 from rfl] at CM
            have CQ := hid (fun (A B : Option Addr) (c d : Nat) (W : World) (h1 : Rd (Value.int .i64) W W.heap.size A P) (h2 : Rd (Value.int .i64) W W.heap.size B P) => equal_me (X := P) (by omega) (A := A) (B := B) (c := c) (d := d) W h1 h2)
            have hk1 : (K : Int) ≤ (X.length : Int) := by omega
            have hc1 : X.length ≤ c2 := hcap.1
            have hsl := fun W => run_upto (P := Try.prog) 23 Try.underlying23 Try.sizeOf3 A2 X.length c2 K (by omega) W
            have HTL := hid hTl
            clear hp hb hV hP hMG hTl hPl hK HAT HNX HMG CA
            go_wp2_with fail
            refine (C2.out w2 RV2.out).mono ?_
            rintro _ w3 ⟨A3, c3, rfl, ho3, hb3⟩
            have k3 := k2.trans (hb3.mono k2.size)
            have RP := hid (own_rd ho3)
            have RX3 := hid ((RX.out.on hb3).cut0 (c := c2) hc1 K)
            clear ho3 hb3 C2
            obtain ⟨A4, hA4⟩ : ∃ A4, cutA A2 0 c2 = A4 := ⟨_, rfl⟩
            rw [hA4] at hsl RX3
            clear hA4
            have RR := hid (rows_one (c := c2) (X.take K) w3 RX3.out 23)
            rw [HTL.out] at RR
            have hg := tk_grow w3 (.cells #[.slice A4 K c2] 23)
            go_wp2_with fail
            refine (CM.out _ _ RR.out).mono ?_
            rintro _ w5 ⟨A5, c5, rfl, ho5, hb5⟩
            have k5 := k3.trans ((hg.trans (hb5.mono hg.size)).mono k3.size)
            have RP5 := hid (RP.out.on (hg.trans (hb5.mono hg.size)))
            have RM := hid (own_rd ho5)
            clear ho5 hb5 hg
            go_wp2_with fail
            refine (CQ.out _ _ _ _ w5 RM.out RP5.out).mono ?_
            rintro _ w6 ⟨rfl, hb6⟩
            go_wp2_with fail
            go_ret
            exact ⟨rfl, k5.trans (hb6.mono k5.size)⟩
          · have hZ := HPZ.out hp
            rw [hZ] at C2
            obtain ⟨E, hE⟩ : ∃ E, pikE v k = E := ⟨_, rfl⟩
            rw [hE] at C2 hp
            have hne : (E != 0) = true := by simpa using hp
            clear hp hZ hE
            go_wp2_with fail
            refine (C2.out w2 RV2.out).mono ?_
            rintro _ w3 ⟨A3, c3, rfl, ho3, hb3⟩
            have k3 := k2.trans (hb3.mono k2.size)
            go_wp2_with fail
            go_ret
            exact ⟨rfl, k3⟩
    · have h4 : ¬ v.length ≤ 4096 := fun h => ho (orkE_ok.2 h)
      have h4' : (v.length : Int) > 4096 := by omega
      have hZ : orkV v = [] := if_neg ho
      rw [hZ] at C1
      obtain ⟨E, hE⟩ : ∃ E, orkE v = E := ⟨_, rfl⟩
      rw [hE] at C1 ho
      have hne : (E != 0) = true := by simpa using ho
      clear ho hZ hE rv uv hl h4
      go_enter Try.func6, Try.ntmps6
      go_wp2_with fail
      refine (tk_live _).mono ?_
      rintro _ w1 ⟨rfl, k1⟩
      go_wp2_with fail
      refine (CF.out w1).mono ?_
      rintro _ _ ⟨rfl, rfl⟩
      go_wp2_with fail
      refine (C1.out w1 (HV.out.on k1)).mono ?_
      rintro _ w2 ⟨A2, c2, rfl, ho2, hb2⟩
      have k2 := k1.trans (hb2.mono k1.size)
      go_wp2_with fail
      go_ret
      exact ⟨rfl, k2⟩
  · rw [Bool.eq_false_iff.2 hl] at CF
    clear rv uv hl
    go_enter Try.func6, Try.ntmps6
    go_wp2_with fail
    refine (tk_live _).mono ?_
    rintro _ w1 ⟨rfl, k1⟩
    go_wp2_with fail
    refine (CF.out w1).mono ?_
    rintro _ _ ⟨rfl, rfl⟩
    go_wp2_with fail
    go_ret
    exact ⟨rfl, k1⟩
theorem law_types : ∀ t ∈ Try.f6.params.toList, Try.prog.readableRec t = true ∧ t < Try.prog.types.size := by
  have h : (Try.f6.params.toList.all fun t => Try.prog.readableRec t && decide (t < Try.prog.types.size)) = true := by kernel_rfl
  intro t ht
  simpa using List.all_eq_true.1 h t ht
set_option maxRecDepth 100000 in
theorem lifted (os : Os) (started : os.Started) (H : Type) (enc : TypeId × Value → H) :
    ReturnsInHanded {} Try.checked os 6 .any (Rows.topkOrdersSpec.pre6 enc Try.prog Try.f6 Rows.topkOrdersRow.domain false) (Rows.topkOrdersSpec.post enc Try.prog Try.f6 false true false false) := by
  refine returnsInHanded_of_change (C := Try.checked) own started (by kernel_rfl) Try.func6
    (ChangeSpec.witness6 (enc := enc) (C := Try.checked) false ⟨#[], #[.int .i64 0, .slice none 0 0], []⟩ 8 (by kernel_rfl) (by kernel_rfl) (by kernel_rfl) (by kernel_rfl)) ?_
  intro W base args ds gs before hval0 hW hcnd _
  have hval : ∀ (j : Nat) t v, Try.f6.params[j]? = some t → args[j]? = some v → Value.okWide Try.prog W .any base t v := hval0
  have hW' := hW
  obtain ⟨p, q, hA0, hV, rfl, hfz, hnd⟩ := hW
  have hA : DataW.TrodAll enc Try.prog W 0 (fun _ => true) true Try.f6.params.toList args.toList ds p := hA0
  rw [Try.params6] at hA hval
  obtain ⟨v0, vs0, d0, ds0, p0, q0, hargs, rfl, rfl, h0, r0⟩ := trodAll_cons hA
  obtain ⟨v1, vs1, d1, ds1, p1, q1, rfl, rfl, rfl, h1, r1⟩ := trodAll_cons r0
  obtain ⟨rfl, rfl, rfl⟩ := trodAll_nil r1
  obtain rfl : args = #[v0, v1] := by cases args; simp_all
  obtain ⟨rfl, rfl⟩ := trodVars_none hV
  obtain ⟨k, rfl, rfl, rfl, w0⟩ := open_int Try.underlying3 (hval 0 3 v0 rfl rfl) h0
  obtain ⟨Av, v, cv, rfl, rdv, iv, lcv, lmv⟩ := open_nums Try.underlying22 Try.underlying2 cells_i64' (hval 1 22 v1 rfl rfl) h1
  clear hA0 hval0
  refine (walk k Av v cv W (I64.of_wf w0) rdv (fun x hx => I64.of_wf (iv x hx)) lcv lmv).mono fun e W' ⟨he, hb⟩ => ?_
  subst he
  exact ⟨_, rfl, law_post laid (fun t ht => law_types t ht) rfl hW' ⟨rfl, rfl, rfl⟩ (by kernel_rfl) Try.underlying4 hb⟩

theorem over : Rows.topkOrdersRow.holds Try.pinned (OpenSpec.ofChange Rows.topkOrdersSpec) :=
  OpenClaim.holds_of_wide 6 Try.f6 rfl rfl rfl rfl rfl rfl rfl ⟨rfl, rfl, rfl, rfl, rfl⟩ rfl rfl rfl rfl rfl (by kernel_rfl) Try.func6 (by kernel_rfl)
    (of_decide_eq_true (by kernel_rfl)) (by unfold Func.isWrapper; first | (rw [if_pos (by decide +kernel)]; kernel_rfl) | (rw [if_neg (by decide +kernel)]; exact ⟨rfl, rfl⟩))
    (fun os started H enc _ => lifted os started H enc)

theorem proved : Rows.TopkOrdersSaid := over
end Go.Proofs.Ytjkhdfncahhnoaa.TopkOrders
