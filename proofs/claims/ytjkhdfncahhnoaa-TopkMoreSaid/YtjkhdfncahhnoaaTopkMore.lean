
/-
  TopkMore answers true for every input. No condition.
-/
import Derived.Test.YtjkhdfncahhnoaaTf
import Derived.Test.YtjkhdfncahhnoaaTe
import Derived.Test.YtjkhdfncahhnoaaTd
import Derived.Test.YtjkhdfncahhnoaaTTkS
import Derived.Test.YtjkhdfncahhnoaaTIxP
import Derived.Test.YtjkhdfncahhnoaaTc
import Derived.Test.YtjkhdfncahhnoaaTb
namespace Go.Proofs.Ytjkhdfncahhnoaa.TopkMore
open Go.ChangeShapes Go.WideShapes Go.ChangeAt Go.RowKit
set_option maxHeartbeats 400000
set_option linter.unusedVariables false
open Go.Proofs.Ytjkhdfncahhnoaa
set_option maxHeartbeats 4000000 in
set_option maxRecDepth 100000 in
theorem walk (k : Int) (Av : Option Addr) (v : List Int) (cv : Nat) (w : World) (hk : I64 k) (rv : Rd (Value.int .i64) w w.heap.size Av v) (uv : I64s v) (lv : v.length ≤ cv) (mv : cv ≤ 9223372036854775807) :
    Calls Try.prog 5 #[.int .i64 k, .slice Av v.length cv] w fun e w' => e = .returned (.bool true) ∧ Below w.heap.size w w' := by
  have HV := hid rv
  have hv : v.length ≤ 9223372036854775807 := by omega
  have CF := hid (fun W => tk_few (A := Av) (c := cv) v hv W)
  by_cases hl : fewT v = true ∧ v.length ≤ 4096
  · have h4 := hl.2
    rw [hl.1] at CF
    have h4' : ¬ (v.length : Int) > 4096 := by omega
    obtain ⟨p1, q1⟩ := pik_zero h4
    have p2 : pikE v (v.length : Int) = 0 := pikE_ok.2 (by omega)
    have q2 := pikV_len p2
    have C1 := hid (fun W (h : Rd (Value.int .i64) W W.heap.size Av v) => tk_Pick (c := cv) 0 (by decide) v uv (by omega) W h)
    have C2 := hid (fun W (h : Rd (Value.int .i64) W W.heap.size Av v) => tk_Pick (c := cv) (v.length : Int) (by unfold I64; omega) v uv (by omega) W h)
    rw [p1, q1] at C1
    rw [p2] at C2
    obtain ⟨Z, hZ⟩ : ∃ Z, pikV v (v.length : Int) = Z := ⟨_, rfl⟩
    rw [hZ] at C2 q2
    have hZl : Z.length = v.length := by omega
    have t1 : ((Z.length : Int) != (v.length : Int)) = false := by simp; omega
    have t1' : (Z.length != v.length) = false := by simp; omega
    clear p1 q1 p2 q2 hZ
    by_cases h0 : v.length = 0
    · have t2 : ((v.length : Int) == 0) = true := beq_iff_eq.2 (by omega)
      have t3 : (v.length == 0) = true := beq_iff_eq.2 h0
      have HH := hid h0
      have HZ := hid hZl
      clear rv uv hl h0 hZl
      go_enter Try.func5, Try.ntmps5
      go_wp2_with fail
      refine (tk_live _).mono ?_
      rintro _ w1 ⟨rfl, k1⟩
      go_wp2_with fail
      refine (CF.out w1).mono ?_
      rintro _ _ ⟨rfl, rfl⟩
      clear CF
      go_wp2_with fail
      refine (C1.out w1 (HV.out.on k1)).mono ?_
      rintro _ w2 ⟨A2, c2, rfl, ho2, hb2⟩
      have k2 := k1.trans (hb2.mono k1.size)
      clear ho2 hb2 C1 k1
      go_wp2_with fail
      refine (C2.out w2 (HV.out.on k2)).mono ?_
      rintro _ w3 ⟨A3, c3, rfl, ho3, hb3⟩
      have k3 := k2.trans (hb3.mono k2.size)
      clear ho3 hb3 C2 k2
      go_wp2_with fail
      go_ret
      exact ⟨rfl, k3⟩
    · have t2 : ((v.length : Int) == 0) = false := beq_eq_false_iff_ne.2 (by omega)
      have t3 : (v.length == 0) = false := beq_eq_false_iff_ne.2 h0
      obtain ⟨r, hr⟩ : ∃ r, Int.tmod k (v.length : Int) = r := ⟨_, rfl⟩
      have hr1 : -(v.length : Int) < r ∧ r < v.length := by
        rw [← hr]
        have a1 := Int.tmod_lt_of_pos k (show (0 : Int) < v.length by omega)
        have a2 := Int.lt_tmod_of_pos k (show (0 : Int) < v.length by omega)
        omega
      obtain ⟨M, hM⟩ : ∃ M : Nat, (r + v.length) % (v.length : Int) = M := ⟨((r + v.length) % (v.length : Int)).toNat, by have := Int.emod_nonneg (r + v.length) (show (v.length : Int) ≠ 0 by omega); omega⟩
      have hMK : M < v.length := by have := Int.emod_lt_of_pos (r + v.length) (show (0 : Int) < v.length by omega); omega
      have iz : (v.length : Int) ≠ 0 := by omega
      have p1 : pikE v (M : Int) = 0 := pikE_ok.2 (by omega)
      have p2 : pikE v ((M : Int) + 1) = 0 := pikE_ok.2 (by omega)
      have q1 := pikV_len p1
      have q2 := pikV_len p2
      have hgl : (ngL v).length = v.length := by unfold ngL; rw [List.length_map]
      have hal := pik_alike hgl (ngL_ah uv) (M : Int)
      have C3 := hid (fun W (h : Rd (Value.int .i64) W W.heap.size Av v) => tk_Pick (c := cv) (M : Int) (by unfold I64; omega) v uv (by omega) W h)
      have C4 := hid (fun W (h : Rd (Value.int .i64) W W.heap.size Av v) => tk_Pick (c := cv) ((M : Int) + 1) (by unfold I64; omega) v uv (by omega) W h)
      have C5 := hid (fun (A : Option Addr) (c : Nat) W (h : Rd (Value.int .i64) W W.heap.size A (ngL v)) => tk_Pick (A := A) (c := c) (M : Int) (by unfold I64; omega) (ngL v) (ngL_i64 v) (by omega) W h)
      rw [hal.1, hal.2, p1, hgl] at C5
      rw [p1] at C3
      rw [p2] at C4
      have HIN := hid (fun n (hn : n ∈ pikV v (M : Int)) => pik_more p1 p2 (by omega) hn)
      have CH := hid (fun (A : Option Addr) (c : Nat) (n : Int) W (h : Rd (Value.int .i64) W W.heap.size A (pikV v ((M : Int) + 1))) => ix_Has (A := A) (c := c) (pikV v ((M : Int) + 1)) n (pik_ris v _) (by omega) W h)
      obtain ⟨X, hX⟩ : ∃ X, pikV v (M : Int) = X := ⟨_, rfl⟩
      rw [hX] at C3 C5 HIN q1
      obtain ⟨Y, hY⟩ : ∃ Y, pikV v ((M : Int) + 1) = Y := ⟨_, rfl⟩
      rw [hY] at C4 CH HIN q2
      have hXl : X.length ≤ 4096 := by omega
      have CQ := hid (fun (A B : Option Addr) (c d : Nat) (W : World) (h1 : Rd (Value.int .i64) W W.heap.size A X) (h2 : Rd (Value.int .i64) W W.heap.size B X) => equal_me (X := X) (by omega) (A := A) (B := B) (c := c) (d := d) W h1 h2)
      have hmk := fun W => run_make_row' (P := Try.prog) 22 2 (.int .i64 0) 8 Try.underlying22 info_i64 rfl .i64 .i64 v.length (by omega) (by omega) W
      obtain ⟨G, hG⟩ : ∃ G : Nat → Int, (fun j => ngW (v.getD j 0)) = G := ⟨_, rfl⟩
      have HG := hid (fun (j : Nat) (x : Int) (hx : v[j]? = some x) => show G j = wrap64 (-x) by rw [← hG]; show ngW (v.getD j 0) = _; rw [getD_of hx]; rfl)
      have HOW := hid (fun (W : World) (b : Nat) (hW : W.rowIs b 2 v.length (fun j => .int .i64 (G j))) => show Rd (Value.int .i64) W W.heap.size (some ⟨b, 0, none⟩) (ngL v) from by
        have h := own_made (w' := W) (B := b) hW (Nat.le_refl _) (by unfold maxLen; omega)
        refine own_rd (base := b) (c := v.length) (e := 2) ?_
        have e : (ngL v).map (Value.int .i64) = (List.range v.length).map fun j => .int .i64 (G j) := by
          refine List.ext_getElem (by simp [hgl]) fun j h1 h2 => ?_
          have hj : j < v.length := by simpa using h2
          simp only [List.getElem_map, List.getElem_range, ngL]
          rw [HG.out j v[j] (List.getElem?_eq_getElem hj)]
          rfl
        rw [hgl, e]
        exact h)
      have HXL := hid q1
      have HYL := hid q2
      have HGL := hid hgl
      have hMi : ((M : Int) + 1) = ((M + 1 : Nat) : Int) := by omega
      have HZ := hid hZl
      clear p1 p2 q1 q2 hgl hal hX hY hG rv uv hl h0 hMi hZl
      go_enter Try.func5, Try.ntmps5
      go_wp2_with fail
      refine (tk_live _).mono ?_
      rintro _ w1 ⟨rfl, k1⟩
      go_wp2_with fail
      refine (CF.out w1).mono ?_
      rintro _ _ ⟨rfl, rfl⟩
      clear CF
      go_wp2_with fail
      refine (C1.out w1 (HV.out.on k1)).mono ?_
      rintro _ w2 ⟨A2, c2, rfl, ho2, hb2⟩
      have k2 := k1.trans (hb2.mono k1.size)
      clear ho2 hb2 C1 k1
      go_wp2_with fail
      refine (C2.out w2 (HV.out.on k2)).mono ?_
      rintro _ w3 ⟨A3, c3, rfl, ho3, hb3⟩
      have k3 := k2.trans (hb3.mono k2.size)
      clear ho3 hb3 C2 k2
      go_wp2_with fail
      refine (C3.out w3 (HV.out.on k3)).mono ?_
      rintro _ w4 ⟨A4, c4, rfl, ho4, hb4⟩
      have k4 := k3.trans (hb4.mono k3.size)
      have RX4 := hid (own_rd ho4)
      clear ho4 hb4 C3 k3
      go_wp2_with fail
      refine (C4.out w4 (HV.out.on k4)).mono ?_
      rintro _ w5 ⟨A5, c5, rfl, ho5, hb5⟩
      have k5 := k4.trans (hb5.mono k4.size)
      have RX5 := hid (RX4.out.on hb5)
      have RY5 := hid (own_rd ho5)
      clear ho5 hb5 C4 k4 RX4
      go_wp2_with fail
      go_loopw [15, 16, 112] (fun x15 x16 i wr => ∃ q : Nat, q ≤ v.length ∧ i = .int .i64 q ∧ wr.rowIs w5.heap.size 2 v.length (fun j => .int .i64 (if j < q then G j else 0)) ∧ Below w5.heap.size w5 wr) (fun _ _ i _ => v.length - (intOf i).toNat)
      case atStart => exact ⟨0, by omega, rfl, by simpa using World.rowIs_made w5 (.int .i64 0) v.length _, by go_grown⟩
      case round =>
        clear hmk
        obtain ⟨q, hq, rfl, hrow, hbel⟩ := hrel
        have HR := hid hrow
        have HB := hid hbel
        by_cases hlt : q < v.length
        · obtain ⟨b1, o1, x, rfl, l1, ex, d1⟩ := (HV.out.below (k5.trans (hbel.mono k5.size))).at_ hlt
          have hg := hid (HG.out q x ex)
          have f1 := hrow.frozen q
          have c3 := hrow.cell hlt
          obtain ⟨y, hy⟩ : ∃ y, wrap64 (-x) = y := ⟨_, rfl⟩
          rw [hy] at hg
          clear ex hrow hbel
          go_wp2_with fail
          go_roundw
          case rel =>
            refine ⟨q + 1, by omega, by go_num, ?_, HB.out.setCell (Nat.le_refl _) _⟩
            refine World.rowIs.congr (HR.out.set q (.int .i64 y)) fun j hj => ?_
            by_cases e : j = q
            · rw [if_pos e, if_pos (by omega), e, hg.out]
            · by_cases e2 : j < q
              · rw [if_neg e, if_pos e2, if_pos (by omega)]
              · rw [if_neg e, if_neg e2, if_neg (by omega)]
          case measure => simp [intOf]; omega
        · have HR2 : Hid (wr.rowIs w5.heap.size 2 v.length (fun j => .int .i64 (G j))) := hid (HR.out.congr fun j hj => by rw [if_pos (by omega)])
          have RG := hid (HOW.out wr w5.heap.size HR2.out)
          have k6 := k5.trans (hbel.mono k5.size)
          have RX6 := hid (RX5.out.on hbel)
          have RY6 := hid (RY5.out.on hbel)
          clear hrow hbel HR HB HR2 HOW RX5 RY5 k5
          go_wp2_with fail
          refine (C5.out (some ⟨w5.heap.size, 0, none⟩) v.length wr RG.out).mono ?_
          rintro _ w7 ⟨A7, c7, rfl, ho7, hb7⟩
          have k7 := k6.trans (hb7.mono k6.size)
          have RX7 := hid (RX6.out.on hb7)
          have RY7 := hid (RY6.out.on hb7)
          have RN7 := hid (own_rd ho7)
          clear ho7 hb7 RX6 RY6 k6 C5 RG
          go_wp2_with fail
          refine (CQ.out _ _ _ _ w7 RX7.out RN7.out).mono ?_
          rintro _ w8 ⟨rfl, hb8⟩
          have k8 := k7.trans (hb8.mono k7.size)
          have RX8 := hid (RX7.out.on hb8)
          have RY8 := hid (RY7.out.on hb8)
          clear hb8 RX7 RY7 RN7 k7 CQ
          go_wp2_with fail
          go_loopw [20, 21, 22, 147] (fun x20 x21 x22 i wr => ∃ q : Nat, q ≤ X.length ∧ i = .int .i64 q ∧ Below w8.heap.size w8 wr) (fun _ _ _ i _ => X.length - (intOf i).toNat)
          case atStart => exact ⟨0, by omega, rfl, Below.refl _ _⟩
          case round =>
            obtain ⟨q, hq, rfl, hbel⟩ := hrel
            have HB := hid hbel
            by_cases hlt : q < X.length
            · obtain ⟨b1, o1, n, rfl, l1, en, d1⟩ := (RX8.out.below hbel).at_ hlt
              have hin := HIN.out n (List.mem_of_getElem? en)
              have C := hid (CH.out A5 c5 n wr (RY8.out.on hbel))
              rw [hin] at C
              obtain ⟨a, ha⟩ : ∃ a, hasI Y n = a := ⟨_, rfl⟩
              rw [ha] at C
              clear en hin hbel ha
              go_wp2_with fail
              refine C.out.mono ?_
              rintro _ w9 ⟨rfl, hb9⟩
              have HB9 := hid (HB.out.trans (hb9.mono HB.out.size))
              clear hb9 C d1
              go_wp2_with fail
              go_roundw
              case rel => exact ⟨q + 1, by omega, by go_num, HB9.out⟩
              case measure => simp [intOf]; omega
            · go_wp2_with fail
              go_ret
              exact ⟨rfl, k8.trans (hbel.mono k8.size)⟩
  · by_cases hl2 : fewT v = true
    · have h4 : (v.length : Int) > 4096 := by
        have : ¬ v.length ≤ 4096 := fun h => hl ⟨hl2, h⟩
        omega
      rw [hl2] at CF
      clear rv uv hl hl2
      go_enter Try.func5, Try.ntmps5
      go_wp2_with fail
      refine (tk_live _).mono ?_
      rintro _ w1 ⟨rfl, k1⟩
      go_wp2_with fail
      refine (CF.out w1).mono ?_
      rintro _ _ ⟨rfl, rfl⟩
      clear CF
      go_wp2_with fail
      go_ret
      exact ⟨rfl, k1⟩
    · rw [Bool.eq_false_iff.2 hl2] at CF
      clear rv uv hl hl2
      go_enter Try.func5, Try.ntmps5
      go_wp2_with fail
      refine (tk_live _).mono ?_
      rintro _ w1 ⟨rfl, k1⟩
      go_wp2_with fail
      refine (CF.out w1).mono ?_
      rintro _ _ ⟨rfl, rfl⟩
      clear CF
      go_wp2_with fail
      go_ret
      exact ⟨rfl, k1⟩
theorem law_types : ∀ t ∈ Try.f5.params.toList, Try.prog.readableRec t = true ∧ t < Try.prog.types.size := by
  have h : (Try.f5.params.toList.all fun t => Try.prog.readableRec t && decide (t < Try.prog.types.size)) = true := by kernel_rfl
  intro t ht
  simpa using List.all_eq_true.1 h t ht
set_option maxRecDepth 100000 in
theorem lifted (os : Os) (started : os.Started) (H : Type) (enc : TypeId × Value → H) :
    ReturnsInHanded {} Try.checked os 5 .any (Rows.topkMoreSpec.pre6 enc Try.prog Try.f5 Rows.topkMoreRow.domain false) (Rows.topkMoreSpec.post enc Try.prog Try.f5 false true false false) := by
  refine returnsInHanded_of_change (C := Try.checked) own started (by kernel_rfl) Try.func5
    (ChangeSpec.witness6 (enc := enc) (C := Try.checked) false ⟨#[], #[.int .i64 0, .slice none 0 0], []⟩ 8 (by kernel_rfl) (by kernel_rfl) (by kernel_rfl) (by kernel_rfl)) ?_
  intro W base args ds gs before hval0 hW hcnd _
  have hval : ∀ (j : Nat) t v, Try.f5.params[j]? = some t → args[j]? = some v → Value.okWide Try.prog W .any base t v := hval0
  have hW' := hW
  obtain ⟨p, q, hA0, hV, rfl, hfz, hnd⟩ := hW
  have hA : DataW.TrodAll enc Try.prog W 0 (fun _ => true) true Try.f5.params.toList args.toList ds p := hA0
  rw [Try.params5] at hA hval
  obtain ⟨v0, vs0, d0, ds0, p0, q0, hargs, rfl, rfl, h0, r0⟩ := trodAll_cons hA
  obtain ⟨v1, vs1, d1, ds1, p1, q1, rfl, rfl, rfl, h1, r1⟩ := trodAll_cons r0
  obtain ⟨rfl, rfl, rfl⟩ := trodAll_nil r1
  obtain rfl : args = #[v0, v1] := by cases args; simp_all
  obtain ⟨rfl, rfl⟩ := trodVars_none hV
  obtain ⟨k, rfl, rfl, rfl, w0⟩ := open_int Try.underlying3 (hval 0 3 v0 rfl rfl) h0
  obtain ⟨Av, v, cv, rfl, rdv, iv, lcv, lmv⟩ := open_nums Try.underlying22 Try.underlying2 cells_i64' (hval 1 22 v1 rfl rfl) h1
  clear hA0 hval0
  refine (walk k Av v cv W (I64.of_wf w0) rdv (fun x hx => I64.of_wf (iv x hx)) lcv lmv).mono fun e W' ⟨he, hb⟩ => ?_
  subst he
  exact ⟨_, rfl, law_post laid (fun t ht => law_types t ht) rfl hW' ⟨rfl, rfl, rfl⟩ (by kernel_rfl) Try.underlying4 hb⟩

theorem over : Rows.topkMoreRow.holds Try.pinned (OpenSpec.ofChange Rows.topkMoreSpec) :=
  OpenClaim.holds_of_wide 5 Try.f5 rfl rfl rfl rfl rfl rfl rfl ⟨rfl, rfl, rfl, rfl, rfl⟩ rfl rfl rfl rfl rfl (by kernel_rfl) Try.func5 (by kernel_rfl)
    (of_decide_eq_true (by kernel_rfl)) (by unfold Func.isWrapper; first | (rw [if_pos (by decide +kernel)]; kernel_rfl) | (rw [if_neg (by decide +kernel)]; exact ⟨rfl, rfl⟩))
    (fun os started H enc _ => lifted os started H enc)

theorem proved : Rows.TopkMoreSaid := over
end Go.Proofs.Ytjkhdfncahhnoaa.TopkMore
