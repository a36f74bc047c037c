
/-
  PressDense answers true for every input. No condition.
-/
import Derived.Test.YtecgbelgoomneaaGreatYi
import Derived.Test.YtecgbelgoomneaaGreatYc
namespace Go.Proofs.YtecgbelgoomneaaGreat.PressDense
open Go.ChangeShapes Go.WideShapes Go.ChangeAt Go.RowKit
set_option maxHeartbeats 400000
set_option linter.unusedVariables false
open Go.Proofs.YtecgbelgoomneaaGreat
theorem sum_le2 {b : Nat} : ∀ {v : List Int}, (∀ x ∈ v, szN x ≤ b) → sumS v ≤ v.length * b
  | [], _ => by simp [sumS]
  | x :: t, h => by
    rw [sumS_cons, List.length_cons, Nat.succ_mul]
    have h1 := h x (by simp)
    have h2 := sum_le2 fun y hy => h y (List.mem_cons_of_mem x hy)
    omega
theorem one_le {v : List Int} {x : Int} (h : x ∈ v) : szN x ≤ sumS v := by
  induction v with
  | nil => simp at h
  | cons y t ih =>
    rw [sumS_cons]
    rcases List.mem_cons.1 h with rfl | h
    · omega
    · have := ih h; omega
theorem take_one {v : List Int} {k : Nat} {x : Int} (hx : v[k]? = some x) : v.take (k + 1) = v.take k ++ [x] := by
  rw [List.take_add_one, hx]
  rfl
/-- Of a short list of such a sum each is of 64 bits, and its size is told. -/
theorem small_ok {u : List Int} (hl : u.length ≤ 200) (hs : sumS u ≤ 225179981368524800) : I64s u ∧ sizeE u = 0 ∧ sizeV u = (sumS u : Int) := by
  have e : sizeE u = 0 := by rw [sizeE_is (by omega), if_pos (by omega)]
  refine ⟨fun x hx => ?_, e, (sizeV_is e).2.2⟩
  have := one_le hx
  unfold szN at this
  unfold I64
  omega
theorem dense_all {v : List Int} {K : Nat} (uv : I64s v) (h0 : v ≠ []) (hl : v.length ≤ 200) (hK : K < v.length) (hb : ∀ x ∈ v, -1125899906842624 ≤ x ∧ x ≤ 1125899906842624) :
    (ppE 0 0 0 v = 0 ∧ ppE 1 0 0 v = 0 ∧ ppE 1 K 0 v = 0 ∧ ppE 1 (K + 1 : Nat) 0 v = 0) ∧
    (plfE v (ppS 0 0 0 v 0 []) = 0 ∧ plfE v (ppS 1 0 0 v 0 []) = 0 ∧ plfE v (ppS 1 K 0 v 0 []) = 0 ∧ plfE v (ppS 1 (K + 1 : Nat) 0 v 0 []) = 0) ∧
    (I64s (plfV v (ppS 0 0 0 v 0 [])) ∧ sizeE (plfV v (ppS 0 0 0 v 0 [])) = 0 ∧ sizeV (plfV v (ppS 0 0 0 v 0 [])) = 0) ∧ plfV v (ppS 1 0 0 v 0 []) = v ∧
    (I64s (plfV v (ppS 1 K 0 v 0 [])) ∧ sizeE (plfV v (ppS 1 K 0 v 0 [])) = 0) ∧ (I64s (plfV v (ppS 1 (K + 1 : Nat) 0 v 0 [])) ∧ sizeE (plfV v (ppS 1 (K + 1 : Nat) 0 v 0 [])) = 0) ∧
    sizeV (plfV v (ppS 1 (K + 1 : Nat) 0 v 0 [])) ≤ sizeV (plfV v (ppS 1 K 0 v 0 [])) ∧ (plfV v (ppS 0 0 0 v 0 [])).length = v.length ∧ (plfV v (ppS 1 K 0 v 0 [])).length = v.length ∧ (plfV v (ppS 1 (K + 1 : Nat) 0 v 0 [])).length = v.length := by
  have hp : 0 < v.length := List.length_pos_iff.2 h0
  have hs : sumS v ≤ 225179981368524800 := Nat.le_trans (sum_le2 (b := 1125899906842624) fun x hx => by have := hb x hx; unfold szN; omega) (Nat.le_trans (Nat.mul_le_mul_right _ hl) (by decide))
  have top : ∀ m : Nat, m ≤ v.length → pikE v m = 0 ∧ ppE 1 m 0 v = 0 ∧ ppS 1 m 0 v 0 [] = prsS v m := fun m hm => by
    have hk : pikE v m = 0 := pikE_ok.2 ⟨by omega, by omega, by omega⟩
    have hw : wayE 1 m 0 v = 0 := by unfold wayE; rw [if_pos rfl]; unfold prsE; rw [if_neg h0, hk]
    have he : ppE 1 m 0 v = 0 := ppE_ok.2 ⟨by omega, ⟨by omega, by omega, .inr (.inl ⟨rfl, by omega, by omega, rfl⟩)⟩, hw⟩
    exact ⟨hk, he, by rw [pp_is he]; unfold wayS; rw [if_pos rfl]⟩
  have d0 : ppE 0 0 0 v = 0 := ppE_ok.2 ⟨by omega, ⟨by omega, by omega, .inl ⟨rfl, rfl, rfl⟩⟩, by unfold wayE; simp⟩
  have dS : ppS 0 0 0 v 0 [] = denS v := by rw [pp_is d0]; unfold wayS; simp
  obtain ⟨a1, a2, a3⟩ := top 0 (by omega)
  obtain ⟨b1, b2, b3⟩ := top K (by omega)
  obtain ⟨c1, c2, c3⟩ := top (K + 1) (by omega)
  have a2' : ppE 1 0 0 v = 0 := a2
  have a3' : ppS 1 0 0 v 0 [] = prsS v 0 := a3
  rw [dS, a3', b3, c3]
  obtain ⟨e1, e2, e3⟩ := plf_all h0 (show v.length ≤ 4096 by omega)
  obtain ⟨f1, f2, _⟩ := plf_top uv h0 (show pikE v (0 : Int) = 0 from a1)
  obtain ⟨g1, g2, _⟩ := plf_top uv h0 b1
  obtain ⟨h1, h2, _⟩ := plf_top uv h0 c1
  obtain ⟨m1, m2⟩ := plf_more uv h0 b1 c1 (by omega)
  obtain ⟨s1, s2, s3⟩ := small_ok (u := plfV v (denS v)) (by omega) (by omega)
  obtain ⟨t1, t2, t3⟩ := small_ok (u := plfV v (prsS v K)) (by omega) (by omega)
  obtain ⟨u1, u2, u3⟩ := small_ok (u := plfV v (prsS v ((K + 1 : Nat) : Int))) (by omega) (by omega)
  refine ⟨⟨d0, a2', b2, c2⟩, ⟨e1, f1, g1, h1⟩, ⟨s1, s2, by rw [s3, e2]; rfl⟩, plf_none uv h0 (by omega), ⟨t1, t2⟩, ⟨u1, u2⟩, by rw [t3, u3]; omega, e3, g2, h2⟩
set_option maxHeartbeats 8000000 in
set_option maxRecDepth 100000 in
theorem walk (Av : Option Addr) (v : List Int) (cv : Nat) (k : Int) (w : World) (rv : Rd (Value.int .i64) w w.heap.size Av v) (uv : I64s v) (lv : v.length ≤ cv) (mv : cv ≤ 9223372036854775807) (hk : I64 k) :
    Calls Tryz.prog 7 #[.slice Av v.length cv, .int .i64 k] w fun e w' => e = .returned (.bool true) ∧ Below w.heap.size w w' := by
  have HV := hid rv
  have hv : v.length ≤ 9223372036854775807 := by omega
  have CF := hid (fun W (h : Rd (Value.int .i64) W W.heap.size Av v) => pf_one (A := Av) (c := cv) none 0 0 (by decide) v hv W h)
  by_cases hf : fewP 0 [v] = true
  · rw [hf] at CF
    clear hf
    by_cases hz : v.length = 0
    · have t1 : ((v.length : Int) == 0) = true := by simpa using hz
      have t2 : (v.length == 0) = true := by simpa using hz
      clear rv uv hz
      go_enter Tryz.func7, Tryz.ntmps7
      go_wp2_with fail
      refine (ps_live _).mono ?_
      rintro _ w1 ⟨rfl, k1⟩
      go_wp2_with fail
      refine (CF.out w1 (HV.out.on k1)).mono ?_
      rintro _ w2 ⟨rfl, hw2⟩
      have g2 := sg_up w1 (.cells #[.slice Av v.length cv] 24)
      rw [hw2] at g2
      have k2 := k1.trans (g2.mono k1.size)
      clear k1
      clear g2 CF hw2
      go_wp2_with fail
      go_ret
      exact ⟨rfl, k2⟩
    · have t1 : ((v.length : Int) == 0) = false := beq_eq_false_iff_ne.2 (by omega)
      have t2 : (v.length == 0) = false := beq_eq_false_iff_ne.2 hz
      have hv0 : v ≠ [] := fun e => hz (by rw [e]; rfl)
      by_cases h200 : (v.length : Int) > 200
      · clear rv uv
        go_enter Tryz.func7, Tryz.ntmps7
        go_wp2_with fail
        refine (ps_live _).mono ?_
        rintro _ w1 ⟨rfl, k1⟩
        go_wp2_with fail
        refine (CF.out w1 (HV.out.on k1)).mono ?_
        rintro _ w2 ⟨rfl, hw2⟩
        have g2 := sg_up w1 (.cells #[.slice Av v.length cv] 24)
        rw [hw2] at g2
        have k2 := k1.trans (g2.mono k1.size)
        clear k1
        clear g2 CF hw2
        go_wp2_with fail
        go_ret
        exact ⟨rfl, k2⟩
      · have h200n : v.length ≤ 200 := by omega
        go_enter Tryz.func7, Tryz.ntmps7
        go_wp2_with fail
        refine (ps_live _).mono ?_
        rintro _ w1 ⟨rfl, k1⟩
        go_wp2_with fail
        refine (CF.out w1 (HV.out.on k1)).mono ?_
        rintro _ w2 ⟨rfl, hw2⟩
        have g2 := sg_up w1 (.cells #[.slice Av v.length cv] 24)
        rw [hw2] at g2
        have k2 := k1.trans (g2.mono k1.size)
        clear k1
        clear g2 CF hw2
        go_wp2_with fail
        go_loop [7, 50] (fun x7 i => ∃ j : Nat, j ≤ v.length ∧ i = .int .i64 j ∧ ∀ x ∈ v.take j, -1125899906842624 ≤ x ∧ x ≤ 1125899906842624) (fun _ i => v.length - (intOf i).toNat)
        case atStart => exact ⟨0, by omega, rfl, by simp⟩
        case round =>
          obtain ⟨j, hj, rfl, hs⟩ := hrel
          have HS := hid hs
          clear hs
          by_cases hlt : j < v.length
          · obtain ⟨b1, o1, x, rfl, l1, ex, d1⟩ := (HV.out.on k2).at_ hlt
            have HX := hid (take_one ex)
            clear ex
            by_cases h1 : x > 1125899906842624
            · go_wp2_with fail
              go_ret
              exact ⟨rfl, k2⟩
            · by_cases h2 : x < -1125899906842624
              · go_wp2_with fail
                go_ret
                exact ⟨rfl, k2⟩
              · go_wp2_with fail
                go_round
                case rel =>
                  refine ⟨j + 1, by omega, by go_num, ?_⟩
                  intro y hy
                  rw [HX.out] at hy
                  rcases List.mem_append.1 hy with h | h
                  · exact HS.out y h
                  · simp at h; subst h; omega
                case measure => simp [intOf]; omega
          · obtain rfl : j = v.length := by omega
            have hb : ∀ x ∈ v, -1125899906842624 ≤ x ∧ x ≤ 1125899906842624 := by have h := HS.out; rw [List.take_length] at h; exact h
            have h3 : (v.length : Int) ≠ 0 := by omega
            obtain ⟨r, hr⟩ : ∃ r, Int.tmod k (v.length : Int) = r := ⟨_, rfl⟩
            have hr2 : -(v.length : Int) < r ∧ r < (v.length : Int) := by
              rw [← hr]
              have a1 := Int.tmod_lt_of_pos k (show (0 : Int) < v.length by omega)
              have a2 := Int.lt_tmod_of_pos k (show (0 : Int) < v.length by omega)
              exact ⟨a2, a1⟩
            obtain ⟨M, hM⟩ : ∃ M : Nat, (r + v.length) % (v.length : Int) = M := ⟨((r + v.length) % (v.length : Int)).toNat, by have := Int.emod_nonneg (r + v.length) (show (v.length : Int) ≠ 0 by omega); omega⟩
            have hMK : M < v.length := by have := Int.emod_lt_of_pos (r + v.length) (show (0 : Int) < v.length by omega); omega
            have hM2 : Int.tmod (r + v.length) (v.length : Int) = (M : Int) := by rw [Int.tmod_eq_emod_of_nonneg (by omega)]; exact hM
            have hk2 : Int.tmod (wrap64 (Int.tmod k (v.length : Int) + (v.length : Int))) (v.length : Int) = (M : Int) := by rw [hr, I64.wrap_in (by unfold I64; omega)]; exact hM2
            obtain ⟨⟨p1, p2, p3, p4⟩, ⟨q1, q2, q3, q4⟩, ⟨s1, s2, s3⟩, s4, ⟨s5, s6⟩, ⟨s7, s8⟩, s9, l1, l2, l3⟩ := dense_all uv hv0 h200n hMK hb
            have P1 := hid (fun W (h : Rd (Value.int .i64) W W.heap.size Av v) => pn_Press (A := Av) (B := none) (c := cv) (d := 0) 0 0 0 (by decide) (by decide) v uv hv 0 (by decide) [] (by simp) (by decide) W h Rd.none_)
            have P2 := hid (fun W (h : Rd (Value.int .i64) W W.heap.size Av v) => pn_Press (A := Av) (B := none) (c := cv) (d := 0) 1 0 0 (by decide) (by decide) v uv hv 0 (by decide) [] (by simp) (by decide) W h Rd.none_)
            have P3 := hid (fun W (h : Rd (Value.int .i64) W W.heap.size Av v) => pn_Press (A := Av) (B := none) (c := cv) (d := 0) 1 M 0 (by decide) (by decide) v uv hv 0 (by decide) [] (by simp) (by decide) W h Rd.none_)
            have P4 := hid (fun W (h : Rd (Value.int .i64) W W.heap.size Av v) => pn_Press (A := Av) (B := none) (c := cv) (d := 0) 1 ((M + 1 : Nat) : Int) 0 (by decide) (by decide) v uv hv 0 (by decide) [] (by simp) (by decide) W h Rd.none_)
            rw [p1] at P1
            rw [p2] at P2
            rw [p3] at P3
            rw [p4] at P4
            rw [show ([] : List Int).length = 0 from rfl, show ((0 : Nat) : Int) = 0 from rfl] at P1 P2 P3 P4
            rw [show ((M + 1 : Nat) : Int) = (M : Int) + 1 from by omega] at P4 p4 q4 s7 s8 s9 l3
            have wf1 := pp_wf (sch := 0) (k := 0) (wide := 0) (v := v) (s := 0) (n := []) (by decide) uv
            have wf2 := pp_wf (sch := 1) (k := 0) (wide := 0) (v := v) (s := 0) (n := []) (by decide) uv
            have wf3 := pp_wf (sch := 1) (k := M) (wide := 0) (v := v) (s := 0) (n := []) (by decide) uv
            have wf4 := pp_wf (sch := 1) (k := (M : Int) + 1) (wide := 0) (v := v) (s := 0) (n := []) (by decide) uv
            have ln1 := pp_ln 0 0 0 v 0 []
            have ln2 := pp_ln 1 0 0 v 0 []
            have ln3 := pp_ln 1 M 0 v 0 []
            have ln4 := pp_ln 1 ((M : Int) + 1) 0 v 0 []
            obtain ⟨S1, e1⟩ : ∃ S, ppS 0 0 0 v 0 [] = S := ⟨_, rfl⟩
            obtain ⟨S2, e2⟩ : ∃ S, ppS 1 0 0 v 0 [] = S := ⟨_, rfl⟩
            obtain ⟨S3, e3⟩ : ∃ S, ppS 1 M 0 v 0 [] = S := ⟨_, rfl⟩
            obtain ⟨S4, e4⟩ : ∃ S, ppS 1 ((M : Int) + 1) 0 v 0 [] = S := ⟨_, rfl⟩
            rw [e1] at P1 wf1 ln1 q1 s1 s2 s3 l1
            rw [e2] at P2 wf2 ln2 q2 s4
            rw [e3] at P3 wf3 ln3 q3 s5 s6 s9 l2
            rw [e4] at P4 wf4 ln4 q4 s7 s8 s9 l3
            have L1 := hid (fun (p : SentP) W (h1 : Rd (Value.int .i64) W W.heap.size Av v) (h : RdS W W.heap.size S1 p) => show Calls Tryz.prog 22 #[.slice Av v.length cv, .agg #[.int .i64 S1.sch, .int .i64 S1.dim, .slice p.AL S1.L.length p.cL, .slice p.AV S1.V.length p.cV, .int .i64 S1.scale, .int .i64 S1.wide, .slice p.AE S1.lev.length p.cE, .slice p.AN S1.neg.length p.cN]] W (OwnE 2 .i64 W.heap.size (plfV v S1) 0 W) from by
              have h9 := pn_Left (A := Av) (c := cv) v uv hv S1 p (ln1.more (by decide)) wf1 W h1 h
              rw [q1] at h9
              exact h9)
            have L2 := hid (fun (p : SentP) W (h1 : Rd (Value.int .i64) W W.heap.size Av v) (h : RdS W W.heap.size S2 p) => show Calls Tryz.prog 22 #[.slice Av v.length cv, .agg #[.int .i64 S2.sch, .int .i64 S2.dim, .slice p.AL S2.L.length p.cL, .slice p.AV S2.V.length p.cV, .int .i64 S2.scale, .int .i64 S2.wide, .slice p.AE S2.lev.length p.cE, .slice p.AN S2.neg.length p.cN]] W (OwnE 2 .i64 W.heap.size (plfV v S2) 0 W) from by
              have h9 := pn_Left (A := Av) (c := cv) v uv hv S2 p (ln2.more (by decide)) wf2 W h1 h
              rw [q2] at h9
              exact h9)
            have L3 := hid (fun (p : SentP) W (h1 : Rd (Value.int .i64) W W.heap.size Av v) (h : RdS W W.heap.size S3 p) => show Calls Tryz.prog 22 #[.slice Av v.length cv, .agg #[.int .i64 S3.sch, .int .i64 S3.dim, .slice p.AL S3.L.length p.cL, .slice p.AV S3.V.length p.cV, .int .i64 S3.scale, .int .i64 S3.wide, .slice p.AE S3.lev.length p.cE, .slice p.AN S3.neg.length p.cN]] W (OwnE 2 .i64 W.heap.size (plfV v S3) 0 W) from by
              have h9 := pn_Left (A := Av) (c := cv) v uv hv S3 p (ln3.more (by decide)) wf3 W h1 h
              rw [q3] at h9
              exact h9)
            have L4 := hid (fun (p : SentP) W (h1 : Rd (Value.int .i64) W W.heap.size Av v) (h : RdS W W.heap.size S4 p) => show Calls Tryz.prog 22 #[.slice Av v.length cv, .agg #[.int .i64 S4.sch, .int .i64 S4.dim, .slice p.AL S4.L.length p.cL, .slice p.AV S4.V.length p.cV, .int .i64 S4.scale, .int .i64 S4.wide, .slice p.AE S4.lev.length p.cE, .slice p.AN S4.neg.length p.cN]] W (OwnE 2 .i64 W.heap.size (plfV v S4) 0 W) from by
              have h9 := pn_Left (A := Av) (c := cv) v uv hv S4 p (ln4.more (by decide)) wf4 W h1 h
              rw [q4] at h9
              exact h9)
            obtain ⟨X1, x1⟩ : ∃ X, plfV v S1 = X := ⟨_, rfl⟩
            obtain ⟨X3, x3⟩ : ∃ X, plfV v S3 = X := ⟨_, rfl⟩
            obtain ⟨X4, x4⟩ : ∃ X, plfV v S4 = X := ⟨_, rfl⟩
            rw [x1] at L1 s1 s2 s3 l1
            rw [x3] at L3 s5 s6 s9 l2
            rw [x4] at L4 s7 s8 s9 l3
            rw [s4] at L2
            have Z1 := hid (fun (A : Option Addr) (c : Nat) W (h : Rd (Value.int .i64) W W.heap.size A X1) => Size_any (A := A) (c := c) X1 (by omega) s1 W h)
            have Z3 := hid (fun (A : Option Addr) (c : Nat) W (h : Rd (Value.int .i64) W W.heap.size A X3) => Size_any (A := A) (c := c) X3 (by omega) s5 W h)
            have Z4 := hid (fun (A : Option Addr) (c : Nat) W (h : Rd (Value.int .i64) W W.heap.size A X4) => Size_any (A := A) (c := c) X4 (by omega) s7 W h)
            rw [s2, s3] at Z1
            rw [s6] at Z3
            rw [s8] at Z4
            obtain ⟨m3, y3⟩ : ∃ m, sizeV X3 = m := ⟨_, rfl⟩
            obtain ⟨m4, y4⟩ : ∃ m, sizeV X4 = m := ⟨_, rfl⟩
            rw [y3] at Z3 s9
            rw [y4] at Z4 s9
            have CS := hid (fun (A : Option Addr) (c : Nat) W (h1 : Rd (Value.int .i64) W W.heap.size A v) (h2 : Rd (Value.int .i64) W W.heap.size Av v) => Same_any (A := A) (B := Av) (c := c) (d := cv) v v hv hv W h1 h2)
            rw [eqB_self] at CS
            have hMs : (M : Int) < 9223372036854775807 := by omega
            clear hr hM hr2 hM2 HS hb p1 p2 p3 p4 q1 q2 q3 q4 s1 s2 s3 s4 s5 s6 s7 s8 l1 l2 l3 e1 e2 e3 e4 x1 x3 x4 y3 y4 wf1 wf2 wf3 wf4 ln1 ln2 ln3 ln4 uv rv hv0
            go_wp2_with fail
            refine (P1.out w2 (HV.out.on k2)).mono ?_
            rintro _ w3 ⟨p1, rfl, ho, hb3⟩
            have k3 := k2.trans (hb3.mono k2.size)
            clear k2
            clear hb3 P1
            have YR1 := hid (OwnL.rd ho)
            clear ho
            have g4 := sg_up w3 (.cells #[.int .i64 S1.sch, .int .i64 S1.dim, .slice p1.AL S1.L.length p1.cL, .slice p1.AV S1.V.length p1.cV, .int .i64 S1.scale, .int .i64 S1.wide, .slice p1.AE S1.lev.length p1.cE, .slice p1.AN S1.neg.length p1.cN] 32)
            have n4 := BoxL.new w3 [.int .i64 S1.sch, .int .i64 S1.dim, .slice p1.AL S1.L.length p1.cL, .slice p1.AV S1.V.length p1.cV, .int .i64 S1.scale, .int .i64 S1.wide, .slice p1.AE S1.lev.length p1.cE, .slice p1.AN S1.neg.length p1.cN] 32
            simp only [List.toArray] at n4
            obtain ⟨w4, hw4⟩ : ∃ wn, (w3.alloc (.cells #[.int .i64 S1.sch, .int .i64 S1.dim, .slice p1.AL S1.L.length p1.cL, .slice p1.AV S1.V.length p1.cV, .int .i64 S1.scale, .int .i64 S1.wide, .slice p1.AE S1.lev.length p1.cE, .slice p1.AN S1.neg.length p1.cN] 32)) = wn := ⟨_, rfl⟩
            rw [hw4] at g4 n4
            have ZR1_1 := hid (YR1.out.on g4)
            clear YR1
            have k4 := k3.trans (g4.mono k3.size)
            clear k3
            have YB1 := hid (n4)
            clear n4 g4
            go_upto_region 14 with fail
            try rw [hw4]
            clear hw4
            go_wp2_with fail
            refine (P2.out w4 (HV.out.on k4)).mono ?_
            rintro _ w5 ⟨p2, rfl, ho, hb5⟩
            have ZR1_2 := hid (ZR1_1.out.on hb5)
            clear ZR1_1
            have ZB1_3 := hid (YB1.out.below hb5 (YB1.out.lt (by simp)))
            clear YB1
            have k5 := k4.trans (hb5.mono k4.size)
            clear k4
            clear hb5 P2
            have YR2 := hid (OwnL.rd ho)
            clear ho
            have g6 := sg_up w5 (.cells #[.int .i64 S2.sch, .int .i64 S2.dim, .slice p2.AL S2.L.length p2.cL, .slice p2.AV S2.V.length p2.cV, .int .i64 S2.scale, .int .i64 S2.wide, .slice p2.AE S2.lev.length p2.cE, .slice p2.AN S2.neg.length p2.cN] 32)
            have n6 := BoxL.new w5 [.int .i64 S2.sch, .int .i64 S2.dim, .slice p2.AL S2.L.length p2.cL, .slice p2.AV S2.V.length p2.cV, .int .i64 S2.scale, .int .i64 S2.wide, .slice p2.AE S2.lev.length p2.cE, .slice p2.AN S2.neg.length p2.cN] 32
            simp only [List.toArray] at n6
            obtain ⟨w6, hw6⟩ : ∃ wn, (w5.alloc (.cells #[.int .i64 S2.sch, .int .i64 S2.dim, .slice p2.AL S2.L.length p2.cL, .slice p2.AV S2.V.length p2.cV, .int .i64 S2.scale, .int .i64 S2.wide, .slice p2.AE S2.lev.length p2.cE, .slice p2.AN S2.neg.length p2.cN] 32)) = wn := ⟨_, rfl⟩
            rw [hw6] at g6 n6
            have ZR1_4 := hid (ZR1_2.out.on g6)
            clear ZR1_2
            have ZB1_5 := hid (ZB1_3.out.below g6 (ZB1_3.out.lt (by simp)))
            clear ZB1_3
            have ZR2_6 := hid (YR2.out.on g6)
            clear YR2
            have k6 := k5.trans (g6.mono k5.size)
            clear k5
            have YB2 := hid (n6)
            clear n6 g6
            go_upto_region 15 with fail
            try rw [hw6]
            clear hw6
            go_wp2_with fail
            refine (P3.out w6 (HV.out.on k6)).mono ?_
            rintro _ w7 ⟨p3, rfl, ho, hb7⟩
            have ZR1_7 := hid (ZR1_4.out.on hb7)
            clear ZR1_4
            have ZB1_8 := hid (ZB1_5.out.below hb7 (ZB1_5.out.lt (by simp)))
            clear ZB1_5
            have ZR2_9 := hid (ZR2_6.out.on hb7)
            clear ZR2_6
            have ZB2_10 := hid (YB2.out.below hb7 (YB2.out.lt (by simp)))
            clear YB2
            have k7 := k6.trans (hb7.mono k6.size)
            clear k6
            clear hb7 P3
            have YR3 := hid (OwnL.rd ho)
            clear ho
            have g8 := sg_up w7 (.cells #[.int .i64 S3.sch, .int .i64 S3.dim, .slice p3.AL S3.L.length p3.cL, .slice p3.AV S3.V.length p3.cV, .int .i64 S3.scale, .int .i64 S3.wide, .slice p3.AE S3.lev.length p3.cE, .slice p3.AN S3.neg.length p3.cN] 32)
            have n8 := BoxL.new w7 [.int .i64 S3.sch, .int .i64 S3.dim, .slice p3.AL S3.L.length p3.cL, .slice p3.AV S3.V.length p3.cV, .int .i64 S3.scale, .int .i64 S3.wide, .slice p3.AE S3.lev.length p3.cE, .slice p3.AN S3.neg.length p3.cN] 32
            simp only [List.toArray] at n8
            obtain ⟨w8, hw8⟩ : ∃ wn, (w7.alloc (.cells #[.int .i64 S3.sch, .int .i64 S3.dim, .slice p3.AL S3.L.length p3.cL, .slice p3.AV S3.V.length p3.cV, .int .i64 S3.scale, .int .i64 S3.wide, .slice p3.AE S3.lev.length p3.cE, .slice p3.AN S3.neg.length p3.cN] 32)) = wn := ⟨_, rfl⟩
            rw [hw8] at g8 n8
            have ZR1_11 := hid (ZR1_7.out.on g8)
            clear ZR1_7
            have ZB1_12 := hid (ZB1_8.out.below g8 (ZB1_8.out.lt (by simp)))
            clear ZB1_8
            have ZR2_13 := hid (ZR2_9.out.on g8)
            clear ZR2_9
            have ZB2_14 := hid (ZB2_10.out.below g8 (ZB2_10.out.lt (by simp)))
            clear ZB2_10
            have ZR3_15 := hid (YR3.out.on g8)
            clear YR3
            have k8 := k7.trans (g8.mono k7.size)
            clear k7
            have YB3 := hid (n8)
            clear n8 g8
            go_upto_region 16 with fail
            try rw [hw8]
            clear hw8
            go_wp2_with fail
            refine (P4.out w8 (HV.out.on k8)).mono ?_
            rintro _ w9 ⟨p4, rfl, ho, hb9⟩
            have ZR1_16 := hid (ZR1_11.out.on hb9)
            clear ZR1_11
            have ZB1_17 := hid (ZB1_12.out.below hb9 (ZB1_12.out.lt (by simp)))
            clear ZB1_12
            have ZR2_18 := hid (ZR2_13.out.on hb9)
            clear ZR2_13
            have ZB2_19 := hid (ZB2_14.out.below hb9 (ZB2_14.out.lt (by simp)))
            clear ZB2_14
            have ZR3_20 := hid (ZR3_15.out.on hb9)
            clear ZR3_15
            have ZB3_21 := hid (YB3.out.below hb9 (YB3.out.lt (by simp)))
            clear YB3
            have k9 := k8.trans (hb9.mono k8.size)
            clear k8
            clear hb9 P4 hk2
            have YR4 := hid (OwnL.rd ho)
            clear ho
            have g10 := sg_up w9 (.cells #[.int .i64 S4.sch, .int .i64 S4.dim, .slice p4.AL S4.L.length p4.cL, .slice p4.AV S4.V.length p4.cV, .int .i64 S4.scale, .int .i64 S4.wide, .slice p4.AE S4.lev.length p4.cE, .slice p4.AN S4.neg.length p4.cN] 32)
            have n10 := BoxL.new w9 [.int .i64 S4.sch, .int .i64 S4.dim, .slice p4.AL S4.L.length p4.cL, .slice p4.AV S4.V.length p4.cV, .int .i64 S4.scale, .int .i64 S4.wide, .slice p4.AE S4.lev.length p4.cE, .slice p4.AN S4.neg.length p4.cN] 32
            simp only [List.toArray] at n10
            obtain ⟨w10, hw10⟩ : ∃ wn, (w9.alloc (.cells #[.int .i64 S4.sch, .int .i64 S4.dim, .slice p4.AL S4.L.length p4.cL, .slice p4.AV S4.V.length p4.cV, .int .i64 S4.scale, .int .i64 S4.wide, .slice p4.AE S4.lev.length p4.cE, .slice p4.AN S4.neg.length p4.cN] 32)) = wn := ⟨_, rfl⟩
            rw [hw10] at g10 n10
            have ZR1_22 := hid (ZR1_16.out.on g10)
            clear ZR1_16
            have ZB1_23 := hid (ZB1_17.out.below g10 (ZB1_17.out.lt (by simp)))
            clear ZB1_17
            have ZR2_24 := hid (ZR2_18.out.on g10)
            clear ZR2_18
            have ZB2_25 := hid (ZB2_19.out.below g10 (ZB2_19.out.lt (by simp)))
            clear ZB2_19
            have ZR3_26 := hid (ZR3_20.out.on g10)
            clear ZR3_20
            have ZB3_27 := hid (ZB3_21.out.below g10 (ZB3_21.out.lt (by simp)))
            clear ZB3_21
            have ZR4_28 := hid (YR4.out.on g10)
            clear YR4
            have k10 := k9.trans (g10.mono k9.size)
            clear k9
            have YB4 := hid (n10)
            clear n10 g10
            go_upto_region 17 with fail
            try rw [hw10]
            clear hw10
            obtain ⟨⟨cB10, cB11, cB12, cB13, cB14, cB15, cB16, cB17⟩, _⟩ := ZB1_23.out.eight
            go_wp2_with fail
            refine (L1.out p1 w10 (HV.out.on k10) (ZR1_22.out)).mono ?_
            rintro _ w11 ⟨D1, d1, rfl, ho, hb11⟩
            have ZR1_29 := hid (ZR1_22.out.on hb11)
            clear ZR1_22
            have ZB1_30 := hid (ZB1_23.out.below hb11 (ZB1_23.out.lt (by simp)))
            clear ZB1_23
            have ZR2_31 := hid (ZR2_24.out.on hb11)
            clear ZR2_24
            have ZB2_32 := hid (ZB2_25.out.below hb11 (ZB2_25.out.lt (by simp)))
            clear ZB2_25
            have ZR3_33 := hid (ZR3_26.out.on hb11)
            clear ZR3_26
            have ZB3_34 := hid (ZB3_27.out.below hb11 (ZB3_27.out.lt (by simp)))
            clear ZB3_27
            have ZR4_35 := hid (ZR4_28.out.on hb11)
            clear ZR4_28
            have ZB4_36 := hid (YB4.out.below hb11 (YB4.out.lt (by simp)))
            clear YB4
            have k11 := k10.trans (hb11.mono k10.size)
            clear k10
            clear hb11 L1 cB10 cB11 cB12 cB13 cB14 cB15 cB16 cB17
            have YX1 := hid (own_rd ho)
            clear ho
            clear ZR1_29
            clear ZB1_30
            obtain ⟨⟨cB20, cB21, cB22, cB23, cB24, cB25, cB26, cB27⟩, _⟩ := ZB2_32.out.eight
            go_wp2_with fail
            refine (L2.out p2 w11 (HV.out.on k11) (ZR2_31.out)).mono ?_
            rintro _ w12 ⟨D2, d2, rfl, ho, hb12⟩
            have ZR2_37 := hid (ZR2_31.out.on hb12)
            clear ZR2_31
            have ZB2_38 := hid (ZB2_32.out.below hb12 (ZB2_32.out.lt (by simp)))
            clear ZB2_32
            have ZR3_39 := hid (ZR3_33.out.on hb12)
            clear ZR3_33
            have ZB3_40 := hid (ZB3_34.out.below hb12 (ZB3_34.out.lt (by simp)))
            clear ZB3_34
            have ZR4_41 := hid (ZR4_35.out.on hb12)
            clear ZR4_35
            have ZB4_42 := hid (ZB4_36.out.below hb12 (ZB4_36.out.lt (by simp)))
            clear ZB4_36
            have ZX1_43 := hid (YX1.out.on hb12)
            clear YX1
            have k12 := k11.trans (hb12.mono k11.size)
            clear k11
            clear hb12 L2 cB20 cB21 cB22 cB23 cB24 cB25 cB26 cB27
            have YX2 := hid (own_rd ho)
            clear ho
            clear ZR2_37
            clear ZB2_38
            obtain ⟨⟨cB30, cB31, cB32, cB33, cB34, cB35, cB36, cB37⟩, _⟩ := ZB3_40.out.eight
            go_wp2_with fail
            refine (L3.out p3 w12 (HV.out.on k12) (ZR3_39.out)).mono ?_
            rintro _ w13 ⟨D3, d3, rfl, ho, hb13⟩
            have ZR3_44 := hid (ZR3_39.out.on hb13)
            clear ZR3_39
            have ZB3_45 := hid (ZB3_40.out.below hb13 (ZB3_40.out.lt (by simp)))
            clear ZB3_40
            have ZR4_46 := hid (ZR4_41.out.on hb13)
            clear ZR4_41
            have ZB4_47 := hid (ZB4_42.out.below hb13 (ZB4_42.out.lt (by simp)))
            clear ZB4_42
            have ZX1_48 := hid (ZX1_43.out.on hb13)
            clear ZX1_43
            have ZX2_49 := hid (YX2.out.on hb13)
            clear YX2
            have k13 := k12.trans (hb13.mono k12.size)
            clear k12
            clear hb13 L3 cB30 cB31 cB32 cB33 cB34 cB35 cB36 cB37
            have YX3 := hid (own_rd ho)
            clear ho
            clear ZR3_44
            clear ZB3_45
            obtain ⟨⟨cB40, cB41, cB42, cB43, cB44, cB45, cB46, cB47⟩, _⟩ := ZB4_47.out.eight
            go_wp2_with fail
            refine (L4.out p4 w13 (HV.out.on k13) (ZR4_46.out)).mono ?_
            rintro _ w14 ⟨D4, d4, rfl, ho, hb14⟩
            have ZR4_50 := hid (ZR4_46.out.on hb14)
            clear ZR4_46
            have ZB4_51 := hid (ZB4_47.out.below hb14 (ZB4_47.out.lt (by simp)))
            clear ZB4_47
            have ZX1_52 := hid (ZX1_48.out.on hb14)
            clear ZX1_48
            have ZX2_53 := hid (ZX2_49.out.on hb14)
            clear ZX2_49
            have ZX3_54 := hid (YX3.out.on hb14)
            clear YX3
            have k14 := k13.trans (hb14.mono k13.size)
            clear k13
            clear hb14 L4 cB40 cB41 cB42 cB43 cB44 cB45 cB46 cB47
            have YX4 := hid (own_rd ho)
            clear ho
            clear ZR4_50
            clear ZB4_51
            go_wp2_with fail
            refine (Z1.out D1 d1 w14 (ZX1_52.out)).mono ?_
            rintro _ w15 ⟨rfl, hb15⟩
            have ZX1_55 := hid (ZX1_52.out.on hb15)
            clear ZX1_52
            have ZX2_56 := hid (ZX2_53.out.on hb15)
            clear ZX2_53
            have ZX3_57 := hid (ZX3_54.out.on hb15)
            clear ZX3_54
            have ZX4_58 := hid (YX4.out.on hb15)
            clear YX4
            have k15 := k14.trans (hb15.mono k14.size)
            clear k14
            clear hb15 Z1
            clear ZX1_55
            go_wp2_with fail
            refine (Z3.out D3 d3 w15 (ZX3_57.out)).mono ?_
            rintro _ w16 ⟨rfl, hb16⟩
            have ZX2_59 := hid (ZX2_56.out.on hb16)
            clear ZX2_56
            have ZX3_60 := hid (ZX3_57.out.on hb16)
            clear ZX3_57
            have ZX4_61 := hid (ZX4_58.out.on hb16)
            clear ZX4_58
            have k16 := k15.trans (hb16.mono k15.size)
            clear k15
            clear hb16 Z3
            clear ZX3_60
            go_wp2_with fail
            refine (Z4.out D4 d4 w16 (ZX4_61.out)).mono ?_
            rintro _ w17 ⟨rfl, hb17⟩
            have ZX2_62 := hid (ZX2_59.out.on hb17)
            clear ZX2_59
            have ZX4_63 := hid (ZX4_61.out.on hb17)
            clear ZX4_61
            have k17 := k16.trans (hb17.mono k16.size)
            clear k16
            clear hb17 Z4
            clear ZX4_63
            go_wp2_with fail
            refine (CS.out D2 d2 w17 (ZX2_62.out) (HV.out.on k17)).mono ?_
            rintro _ w18 ⟨rfl, hb18⟩
            have ZX2_64 := hid (ZX2_62.out.on hb18)
            clear ZX2_62
            have k18 := k17.trans (hb18.mono k17.size)
            clear k17
            clear hb18 CS
            have hle : decide (m4 ≤ m3) = true := decide_eq_true s9
            go_wp2_with fail
            go_ret
            exact ⟨rfl, k18⟩
  · rw [Bool.eq_false_iff.2 hf] at CF
    clear hf rv uv
    go_enter Tryz.func7, Tryz.ntmps7
    go_wp2_with fail
    refine (ps_live _).mono ?_
    rintro _ w1 ⟨rfl, k1⟩
    go_wp2_with fail
    refine (CF.out w1 (HV.out.on k1)).mono ?_
    rintro _ w2 ⟨rfl, hw2⟩
    have g2 := sg_up w1 (.cells #[.slice Av v.length cv] 24)
    rw [hw2] at g2
    have k2 := k1.trans (g2.mono k1.size)
    clear k1
    clear g2 CF hw2
    go_wp2_with fail
    go_ret
    exact ⟨rfl, k2⟩
theorem law_types : ∀ t ∈ Tryz.f7.params.toList, Tryz.prog.readableRec t = true ∧ t < Tryz.prog.types.size := by
  have h : (Tryz.f7.params.toList.all fun t => Tryz.prog.readableRec t && decide (t < Tryz.prog.types.size)) = true := by kernel_rfl
  intro t ht
  simpa using List.all_eq_true.1 h t ht
set_option maxRecDepth 100000 in
theorem lifted (os : Os) (started : os.Started) (H : Type) (enc : TypeId × Value → H) :
    ReturnsInHanded {} Tryz.checked os 7 .any (Rows.pressDenseSpec.pre6 enc Tryz.prog Tryz.f7 Rows.pressDenseRow.domain false) (Rows.pressDenseSpec.post enc Tryz.prog Tryz.f7 false true false false) := by
  refine returnsInHanded_of_change (C := Tryz.checked) own started (by kernel_rfl) Tryz.func7
    (ChangeSpec.witness6 (enc := enc) (C := Tryz.checked) false ⟨#[], #[.slice none 0 0, .int .i64 0], []⟩ 8 (by kernel_rfl) (by kernel_rfl) (by kernel_rfl) (by kernel_rfl)) ?_
  intro W base args ds gs before hval0 hW hcnd _
  have hval : ∀ (j : Nat) t v, Tryz.f7.params[j]? = some t → args[j]? = some v → Value.okWide Tryz.prog W .any base t v := hval0
  have hW' := hW
  obtain ⟨p, q, hA0, hV, rfl, hfz, hnd⟩ := hW
  have hA : DataW.TrodAll enc Tryz.prog W 0 (fun _ => true) true Tryz.f7.params.toList args.toList ds p := hA0
  rw [Tryz.params7] at hA hval
  obtain ⟨v0, vs0, d0, ds0, p0, q0, hargs, rfl, rfl, h0, r0⟩ := trodAll_cons hA
  obtain ⟨v1, vs1, d1, ds1, p1, q1, rfl, rfl, rfl, h1, r1⟩ := trodAll_cons r0
  obtain ⟨rfl, rfl, rfl⟩ := trodAll_nil r1
  obtain rfl : args = #[v0, v1] := by cases args; simp_all
  obtain ⟨rfl, rfl⟩ := trodVars_none hV
  obtain ⟨Av, v, cv, rfl, rdv, iv, lcv, lmv⟩ := open_nums Tryz.underlying24 Tryz.underlying2 cells_i64' (hval 0 24 v0 rfl rfl) h0
  obtain ⟨k, rfl, rfl, rfl, w1⟩ := open_int Tryz.underlying3 (hval 1 3 v1 rfl rfl) h1
  clear hA0 hval0
  refine (walk Av v cv k W rdv (fun x hx => I64.of_wf (iv x hx)) lcv lmv (I64.of_wf w1)).mono fun e W' ⟨he, hb⟩ => ?_
  subst he
  exact ⟨_, rfl, law_post laid (fun t ht => law_types t ht) rfl hW' ⟨rfl, rfl, rfl⟩ (by kernel_rfl) Tryz.underlying4 hb⟩

theorem over : Rows.pressDenseRow.holds Tryz.pinned (OpenSpec.ofChange Rows.pressDenseSpec) :=
  OpenClaim.holds_of_wide 7 Tryz.f7 rfl rfl rfl rfl rfl rfl rfl ⟨rfl, rfl, rfl, rfl, rfl⟩ rfl rfl rfl rfl rfl (by kernel_rfl) Tryz.func7 (by kernel_rfl)
    (of_decide_eq_true (by kernel_rfl)) (by unfold Func.isWrapper; first | (rw [if_pos (by decide +kernel)]; kernel_rfl) | (rw [if_neg (by decide +kernel)]; exact ⟨rfl, rfl⟩))
    (fun os started H enc _ => lifted os started H enc)

theorem proved : Rows.PressDenseSaid := over
end Go.Proofs.YtecgbelgoomneaaGreat.PressDense
