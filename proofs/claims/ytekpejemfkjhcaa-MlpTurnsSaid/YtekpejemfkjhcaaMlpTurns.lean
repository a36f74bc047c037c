
/-
  MlpTurns answers true for every input. No condition.
-/
import Derived.Test.YtekpejemfkjhcaaUf
import Derived.Test.YtekpejemfkjhcaaUc
import Derived.Test.YtekpejemfkjhcaaUMtT
import Derived.Test.YtekpejemfkjhcaaUb
import Derived.Test.YtekpejemfkjhcaaUa
namespace Go.Proofs.Ytekpejemfkjhcaa.MlpTurns
open Go.ChangeShapes Go.WideShapes Go.ChangeAt Go.RowKit
set_option maxHeartbeats 400000
set_option linter.unusedVariables false
open Go.Proofs.Ytekpejemfkjhcaa
theorem mt_in {xs : List Int} {k : Nat} (h : ∀ x ∈ xs.take k, ¬ x > 4096 ∧ ¬ x < -4096) {z : Int} (hz : xs[k]? = some z) (h1 : ¬ z > 4096) (h2 : ¬ z < -4096) : ∀ x ∈ xs.take (k + 1), ¬ x > 4096 ∧ ¬ x < -4096 := by
  rw [List.take_add_one, hz]
  intro x hx
  rcases List.mem_append.1 hx with hx | hx
  · exact h x hx
  · simp at hx; subst hx; exact ⟨h1, h2⟩
theorem mt_abs {x : Int} (h : ¬ x > 4096 ∧ ¬ x < -4096) : x.natAbs ≤ 4096 := by omega
theorem mt_i64 {u : List Int} (h : I64s u) : I64s (turnW u) := fun x hx => by
  unfold turnW at hx
  rcases List.mem_append.1 hx with hx | hx
  · rcases List.mem_append.1 hx with hx | hx
    · exact h x (List.mem_of_mem_drop (List.mem_of_mem_take hx))
    · exact h x (List.mem_of_mem_take hx)
  · have hg : ∀ k, I64 (u.getD k 0) := fun k => by
      rw [List.getD_eq_getElem?_getD]
      cases hk : u[k]? with
      | none => decide
      | some y => exact h y (List.mem_of_getElem? hk)
    simp only [List.mem_cons, List.not_mem_nil, or_false] at hx
    rcases hx with rfl | rfl | rfl
    · exact hg _
    · exact hg _
    · exact hg _
theorem mt_two {u : List Int} (h : msE 2 u = 0) : (∃ n, n ≤ 500 ∧ u.length = 2 * n + 3) ∧ (mlL 2 u).length = 2 ∧ (mlZ 2 u).length = 3 := by
  obtain ⟨_, h2, h3⟩ := msE_ok.1 h
  refine ⟨⟨msN 2 u + 1, by omega, ?_⟩, ?_, ?_⟩
  · have e2 : (2 : Int).toNat = 2 := rfl
    rw [e2] at h3
    omega
  · rw [mlL_len]; rfl
  · rw [mlZ_len h]; rfl
theorem mt_sn {X cx : Nat} {W : World} {Ax : Option Addr} {s : SmpV} {Y : Int} (hX : s.X.length = X) (hY : s.Y = Y) (r : Rd (Value.int .i64) W W.heap.size Ax s.X) :
    RdSm (W.alloc (.cells #[.slice Ax X cx, .int .i64 Y] 24)) (W.alloc (.cells #[.slice Ax X cx, .int .i64 Y] 24)).heap.size (some ⟨W.heap.size, 0, none⟩) [s] := by
  have h := smp_one (cx := cx) (Y := Y) 24 r
  rw [hX] at h
  have e : s = ⟨s.X, Y⟩ := by rw [← hY]
  rw [← e] at h
  exact h
set_option maxHeartbeats 4000000 in
set_option maxRecDepth 100000 in
theorem walk (Au : Option Addr) (u : List Int) (cu : Nat) (f : Int) (Al : Option Addr) (l : List SmpV) (cl : Nat) (w : World)
    (ru : Rd (Value.int .i64) w w.heap.size Au u) (iu : I64s u) (lcu : u.length ≤ cu) (lmu : cu ≤ 9223372036854775807) (hf : I64 f)
    (rl : RdSm w w.heap.size Al l) (il : ∀ s ∈ l, I64s s.X ∧ I64 s.Y ∧ s.X.length ≤ 9223372036854775807) (lcl : l.length ≤ cl) (lml : cl ≤ 9223372036854775807) :
    Calls Try.prog 7 #[.slice Au u.length cu, .int .i64 f, .slice Al l.length cl] w fun e w' => e = .returned (.bool true) ∧ Below w.heap.size w w' := by
  have hul : u.length ≤ 9223372036854775807 := by omega
  have hll : l.length ≤ 9223372036854775807 := by omega
  have C0 := hid (fun W h => ref_Few14 (Aw := Au) (A := Al) (cw := cu) (c := cl) u.length hul l hll W h)
  have C1 := hid (fun W h => ml_Split (Au := Au) (cu := cu) 2 (by decide) u lcu lmu W h)
  have hfew : fewL u.length l = true → (u.length ≤ 500 ∧ l.length ≤ 100) ∧ ∀ s ∈ l, s.X.length ≤ 100 := fun h => by
    unfold fewL at h
    simp only [Bool.and_eq_true, decide_eq_true_eq, List.all_eq_true] at h
    exact ⟨h.2, fun s hs => by have := h.1 s hs; omega⟩
  obtain ⟨F, hF⟩ : ∃ F, fewL u.length l = F := ⟨_, rfl⟩
  rw [hF] at C0 hfew
  obtain ⟨U, hU⟩ : ∃ U, u.length = U := ⟨_, rfl⟩
  obtain ⟨M, hM⟩ : ∃ M, l.length = M := ⟨_, rfl⟩
  rw [hU] at C0 C1 hfew ⊢
  rw [hM] at C0 hfew ⊢
  have HU := hid hU
  have HML := hid hM
  have RU := hid ru
  have RL := hid rl
  cases F with
  | false =>
    clear hfew hF ru rl iu il lcu lmu lcl lml hf hul hll hU hM
    go_enter Try.func7, Try.ntmps7
    go_wp2_with fail
    refine (ml_live _).mono ?_
    rintro _ w1 ⟨rfl, h1⟩
    have K1 := hid h1
    clear h1
    go_wp2_with fail
    refine (C0.out _ (RL.out.on K1.out)).mono ?_
    rintro _ w2 ⟨rfl, h2⟩
    have K2 : Hid (Below w.heap.size w w2) := hid (K1.out.trans (h2.mono K1.out.size))
    clear h2
    go_wp2_with fail
    go_ret
    exact ⟨rfl, K2.out⟩
  | true =>
    obtain ⟨⟨hu5, hl1⟩, hX⟩ := hfew rfl
    by_cases hE : msE 2 u = 0
    · have eR : mlO 2 u = mlL 2 u := if_pos hE
      have eZ : mzO 2 u = mlZ 2 u := if_pos hE
      obtain ⟨⟨n, hn5, hun⟩, l2, l3⟩ := mt_two hE
      rw [eR, eZ, hE] at C1
      obtain ⟨R, hR⟩ : ∃ R, mlL 2 u = R := ⟨_, rfl⟩
      obtain ⟨Z, hZ⟩ : ∃ Z, mlZ 2 u = Z := ⟨_, rfl⟩
      rw [hR, hZ] at C1
      rw [hR] at l2
      rw [hZ] at l3
      have L2 := hid l2
      have L3 := hid l3
      by_cases hM0 : M = 0
      · subst hM0
        clear hfew hF ru rl iu il lcu lmu lcl lml hf hul hll hU hM hu5 hl1 hX hE eR eZ hn5 hun l2 l3 hR hZ
        go_enter Try.func7, Try.ntmps7
        go_wp2_with fail
        refine (ml_live _).mono ?_
        rintro _ w1 ⟨rfl, h1⟩
        have K1 := hid h1
        clear h1
        go_wp2_with fail
        refine (C0.out _ (RL.out.on K1.out)).mono ?_
        rintro _ w2 ⟨rfl, h2⟩
        have K2 : Hid (Below w.heap.size w w2) := hid (K1.out.trans (h2.mono K1.out.size))
        clear h2
        go_wp2_with fail
        refine (C1.out _ (RU.out.on K2.out)).mono ?_
        rintro _ w3 ⟨A3, c3, B3, d3, rfl, hor, hzc, hzr, h3⟩
        rw [L2.out, L3.out]
        have K3 : Hid (Below w.heap.size w w3) := hid (K2.out.trans (h3.mono K2.out.size))
        clear hor hzc hzr h3
        go_wp2_with fail
        go_ret
        exact ⟨rfl, K3.out⟩
      · have t0 : ((M : Int) == 0) = false := beq_eq_false_iff_ne.2 (by omega)
        have hMp : 0 < M := by omega
        have hM1 : 0 < l.length := by omega
        have hs0 : l[0] ∈ l := List.getElem_mem _
        obtain ⟨s, hs⟩ : ∃ s, l[0] = s := ⟨_, rfl⟩
        rw [hs] at hs0
        have HS : Hid (l[0]? = some s) := hid (by rw [List.getElem?_eq_getElem hM1, hs])
        obtain ⟨isx, isy, _⟩ := il s hs0
        obtain ⟨b1, o1, s', Ax, cx, rfl, l1, en, gc0, gc1, rx⟩ := rl.at_ (k := 0) hM1
        obtain rfl : s = s' := by rw [HS.out] at en; exact Option.some.inj en
        rw [Nat.zero_mul, Nat.add_zero] at gc0 gc1
        have RXS := hid rx
        have hx100 := hX s hs0
        have hTl : (turnW u).length = u.length := by unfold turnW; simp; omega
        have CTU := hid (fun W (h : Rd (Value.int .i64) W W.heap.size Au u) => mt_turn (A := Au) (c := cu) u n hn5 hun lcu lmu W h)
        have C2 := hid (fun (Ax : Option Addr) (cx : Nat) (W : World) h1 h2 => ml_Tell (Au := Au) (Ax := Ax) (cu := cu) (cx := cx) 2 (by decide) u s.X lcu lmu iu (by omega) isx f W h1 h2)
        have C3 := hid (fun (A : Option Addr) (c : Nat) (h1 : (turnW u).length ≤ c) (h2 : c ≤ 9223372036854775807) (Ax : Option Addr) (cx : Nat) (W : World) h3 h4 => ml_Tell (Au := A) (Ax := Ax) (cu := c) (cx := cx) 2 (by decide) (turnW u) s.X h1 h2 (mt_i64 iu) (by omega) isx f W h3 h4)
        have C4 := hid (fun (A : Option Addr) (W : World) h1 h2 => ml_Grad (Aw := Au) (A := A) (cw := cu) (c := 1) 2 (by decide) u lcu lmu iu f [s] (by simp) (fun r hr => by simp at hr; rw [hr]; exact il s hs0) W h1 h2)
        have C5 := hid (fun (A : Option Addr) (c : Nat) (h1 : (turnW u).length ≤ c) (h2 : c ≤ 9223372036854775807) (Al2 : Option Addr) (W : World) h3 h4 => ml_Grad (Aw := A) (A := Al2) (cw := c) (c := 1) 2 (by decide) (turnW u) h1 h2 (mt_i64 iu) f [s] (by simp) (fun r hr => by simp at hr; rw [hr]; exact il s hs0) W h3 h4)
        have HT := hid (fun (h1 : ∀ y ∈ u, y.natAbs ≤ 4096) (h2 : ∀ y ∈ s.X, y.natAbs ≤ 4096) => mlp_turns (w := u) (x := s.X) (Y := s.Y) (f := f) hE h1 h2)
        have he : (⟨s.X, s.Y⟩ : SmpV) = s := rfl
        rw [he] at HT
        have hsl : ([s] : List SmpV).length = 1 := rfl
        rw [hsl] at C4 C5
        have CTV := hid (fun (v : List Int) (hv : v.length = U) (A : Option Addr) (c : Nat) (h1 : v.length ≤ c) (h2 : c ≤ 9223372036854775807) W (h : Rd (Value.int .i64) W W.heap.size A v) => mt_turn (A := A) (c := c) v n hn5 (by rw [hv, ← hU]; exact hun) h1 h2 W h)
        obtain ⟨T, hT⟩ : ∃ T, turnW u = T := ⟨_, rfl⟩
        rw [hT] at CTU C3 C5 HT hTl
        rw [hU] at CTU C2 C4 hTl
        obtain ⟨q1, hq1⟩ : ∃ q, mqV 2 u s.X f = q := ⟨_, rfl⟩
        obtain ⟨e1, he1⟩ : ∃ q, mqE 2 u s.X f = q := ⟨_, rfl⟩
        obtain ⟨q2, hq2⟩ : ∃ q, mqV 2 T s.X f = q := ⟨_, rfl⟩
        obtain ⟨e2, he2⟩ : ∃ q, mqE 2 T s.X f = q := ⟨_, rfl⟩
        obtain ⟨V1, hV1⟩ : ∃ q, mgV 2 u f [s] = q := ⟨_, rfl⟩
        obtain ⟨g1, hg1⟩ : ∃ q, mgE 2 u f [s] = q := ⟨_, rfl⟩
        obtain ⟨V2, hV2⟩ : ∃ q, mgV 2 T f [s] = q := ⟨_, rfl⟩
        obtain ⟨g2, hg2⟩ : ∃ q, mgE 2 T f [s] = q := ⟨_, rfl⟩
        rw [hq1, he1] at C2 HT
        rw [hq2, he2] at C3 HT
        rw [hV1, hg1] at C4 HT
        rw [hV2, hg2] at C5 HT
        rw [hU] at HT
        rw [hTl] at C3 C5
        obtain ⟨X, hXl⟩ : ∃ X, s.X.length = X := ⟨_, rfl⟩
        obtain ⟨Y, hYl⟩ : ∃ Y, s.Y = Y := ⟨_, rfl⟩
        rw [hXl] at C2 C3 hx100 gc0
        rw [hYl] at gc1
        have HG0 := hid gc0
        have HG1 := hid gc1
        have HL1 := hid l1
        have HXU : Hid ((u ++ s.X).length = U + X) := hid (by rw [List.length_append, hU, hXl])
        clear en rx gc0 gc1 l1
        have HX := hid hXl
        have HY := hid hYl
        have HX1 := hid hx100
        have HU5 := hid hu5
        have HTL := hid hTl
        have HLC := hid (⟨by omega, lmu⟩ : U ≤ cu ∧ cu ≤ 9223372036854775807)
        clear hfew hF ru rl iu il lcu lmu lcl lml hf hul hll hU hM hu5 hl1 hX hE eR eZ hn5 hun l2 l3 hR hZ hM1 hs0 hs isx isy hx100 hTl he hsl hT hq1 he1 hq2 he2 hV1 hg1 hV2 hg2 hXl hYl hM0
        have hcl := turn_ok
        go_enter Try.func7, Try.ntmps7
        go_wp2_with fail
        refine (ml_live _).mono ?_
        rintro _ w1 ⟨rfl, h1⟩
        have K1 := hid h1
        clear h1
        go_wp2_with fail
        refine (C0.out _ (RL.out.on K1.out)).mono ?_
        rintro _ w2 ⟨rfl, h2⟩
        have K2 : Hid (Below w.heap.size w w2) := hid (K1.out.trans (h2.mono K1.out.size))
        clear h2 C0
        go_wp2_with fail
        refine (C1.out _ (RU.out.on K2.out)).mono ?_
        rintro _ w3 ⟨A3, c3, B3, d3, rfl, hor, hzc, hzr, h3⟩
        rw [L2.out, L3.out]
        have K3 : Hid (Below w.heap.size w w3) := hid (K2.out.trans (h3.mono K2.out.size))
        clear hor hzc hzr h3 C1
        go_wp2_with fail
        refine (CTU.out _ (RU.out.on K3.out)).mono ?_
        rintro _ w4 ⟨A4, c4, rfl, ho4, h4⟩
        rw [HTL.out]
        have K4 : Hid (Below w.heap.size w w4) := hid (K3.out.trans (h4.mono K3.out.size))
        have R4 := hid (own_rd ho4)
        have HC4 := hid (own_cap ho4)
        have RU4 := hid (RU.out.on K4.out)
        have RX4 := hid (RXS.out.on K4.out)
        have k0 := (K4.out.cell (p := ⟨b1, o1, none⟩) HL1.out).trans HG0.out
        have hl4 : b1 < w4.heap.size := Nat.lt_of_lt_of_le HL1.out K4.out.size
        clear h4 ho4 CTU
        go_wp2_with fail
        go_region_law (first
          | (refine step_app (Value.int .i64) (fun _ => rfl) rfl _ _ 22 rfl w4.heap.size 2 (.int .i64 0) 8 Try.underlying22 info_i64 rfl [] none 0 rfl (own_nil _ _ _) u Au cu _ (by rw [HU.out]; rfl) (RU4.out.on ((Below.refl _ w4).drew)) (by have := HU.out; have := HU5.out; simp [maxLen]; omega) (by have := HU.out; have := HU5.out; simp; omega) (Nat.le_refl _) ?_
             rintro S1 A5 c5 w5 hS1 ho5 hb5 _
             have HS1 : Hid (S1 = u) := hid (by simpa using hS1)
             have HO5 := hid ho5
             have J5 : Hid (Below w4.heap.size w4 w5) := hid (Below.trans ((Below.refl _ w4).drew) hb5)
             have k5 := (J5.out.cell (p := ⟨b1, o1, none⟩) hl4).trans k0
             clear hS1 ho5 hb5)
          | (refine step_app (Value.int .i64) (fun _ => rfl) rfl _ _ 22 rfl w4.heap.size 2 (.int .i64 0) 8 Try.underlying22 info_i64 rfl S1 A5 c5 rfl HO5.out s.X Ax cx _ (by rw [HX.out]; rfl) (RX4.out.on J5.out) (by have := HU.out; have := HU5.out; have := HX.out; have := HX1.out; have h := HS1.out; simp [maxLen, h]; omega) (by have := HU.out; have := HU5.out; have := HX.out; have := HX1.out; have h := HS1.out; simp [h]; omega) J5.out.size ?_
             rintro S2 A6 c6 w6 hS2 ho6 hb6 _
             have HS2 : Hid (S2 = u ++ s.X) := hid (by rw [hS2, HS1.out])
             have HO6 := hid ho6
             have J6 : Hid (Below w4.heap.size w4 w6) := hid (J5.out.trans hb6)
             clear hS2 ho6 hb6))
        all_goals (
          go_simp
          have K6 : Hid (Below w.heap.size w w6) := hid (K4.out.trans (J6.out.mono K4.out.size))
          have R6 := hid (own_rd HO6.out)
          have R46 := hid (R4.out.on J6.out)
          obtain ⟨D, hD⟩ : ∃ d, U + X = d := ⟨_, rfl⟩
          have hSl : S2.length = D := by rw [HS2.out, HXU.out, hD]
          have hDb : D ≤ 600 := by have := HU5.out; have := HX1.out; omega
          have HSL := hid hSl
          rw [hSl]
          clear hD hSl HO5 HO6 HS1 J5 J6 R4 RU4 RX4 k5 k0 hl4
          go_wp2_with fail
          go_loopw [14, 75] (fun _ xi wv => ∃ k : Nat, k ≤ D ∧ xi = .int .i64 (k : Int) ∧ (∀ z ∈ S2.take k, ¬ z > 4096 ∧ ¬ z < -4096) ∧ wv = w6) (fun _ xi _ => D - (intOf xi).toNat)
          case atStart => exact ⟨0, Nat.zero_le _, rfl, fun z hz => by simp at hz, rfl⟩
          case round =>
            obtain ⟨k, hk, rfl, ha, rfl⟩ := hrel
            have HA := hid ha
            clear ha
            by_cases hlt : k < D
            · obtain ⟨b5, o5, z, rfl, l5, ez, d5⟩ := R6.out.at_ (k := k) (by rw [HSL.out]; exact hlt)
              have HEZ := hid ez
              clear ez
              by_cases h1 : z > 4096
              · go_wp2_with fail
                go_ret
                exact ⟨rfl, K6.out⟩
              · by_cases h2 : z < -4096
                · go_wp2_with fail
                  go_ret
                  exact ⟨rfl, K6.out⟩
                · have H1 := hid h1
                  have H2 := hid h2
                  go_wp2_with fail
                  go_roundw
                  case rel => exact ⟨k + 1, hlt, by go_num, mt_in HA.out HEZ.out H1.out H2.out, by trivial⟩
                  case measure => simp [intOf]; omega
            · obtain rfl : k = D := by omega
              have hall : ∀ z ∈ u ++ s.X, z.natAbs ≤ 4096 := fun z hz => by
                refine mt_abs (HA.out z ?_)
                rw [List.take_of_length_le (by rw [HSL.out]; exact Nat.le_refl _), HS2.out]
                exact hz
              obtain ⟨_, _, he, hq, hg, hgv⟩ := HT.out (fun y hy => hall y (List.mem_append_left _ hy)) (fun y hy => hall y (List.mem_append_right _ hy))
              subst he
              subst hq
              subst hg
              have HGV := hid hgv
              have p1 : (q2 != q2) = false := by simp
              have p2 : (e2 != e2) = false := by simp
              have p3 : (g2 != g2) = false := by simp
              have k6 := (K6.out.cell (p := ⟨b1, o1, none⟩) HL1.out).trans HG0.out
              have k7 := (K6.out.cell (p := ⟨b1, o1 + 1, none⟩) HL1.out).trans HG1.out
              clear hgv hall HA HSL HS2 R6 hlt hk HT
              go_wp2_with fail
              have hl6 : b1 < wr.heap.size := Nat.lt_of_lt_of_le HL1.out K6.out.size
              have HR := hid R46.out
              refine (C2.out Ax cx _ (RU.out.on K6.out) (RXS.out.on K6.out)).mono ?_
              rintro _ v1 ⟨rfl, h1⟩
              have J1 := hid h1
              have a0 := (h1.cell (p := ⟨b1, o1, none⟩) hl6).trans k6
              have a1 := (h1.cell (p := ⟨b1, o1 + 1, none⟩) hl6).trans k7
              clear h1 C2 k6 k7
              go_wp2_with fail
              refine (C3.out A4 c4 (by rw [← HTL.out]; exact HC4.out.1) HC4.out.2 Ax cx _ (HR.out.on J1.out) ((RXS.out.on K6.out).on J1.out)).mono ?_
              rintro _ v2 ⟨rfl, h2⟩
              have J2 : Hid (Below wr.heap.size wr v2) := hid (J1.out.trans (h2.mono J1.out.size))
              have d0 := (J2.out.cell (p := ⟨b1, o1, none⟩) hl6).trans ((K6.out.cell (p := ⟨b1, o1, none⟩) HL1.out).trans HG0.out)
              have d1 := (J2.out.cell (p := ⟨b1, o1 + 1, none⟩) hl6).trans ((K6.out.cell (p := ⟨b1, o1 + 1, none⟩) HL1.out).trans HG1.out)
              obtain ⟨v3, hv3⟩ : ∃ v3, v2.alloc (.cells #[.slice Ax X cx, .int .i64 Y] 24) = v3 := ⟨_, rfl⟩
              have J3 : Hid (Below wr.heap.size wr v3) := hid (by rw [← hv3]; exact J2.out.alloc J2.out.size _)
              have sm3 : RdSm v3 v3.heap.size (some ⟨v2.heap.size, 0, none⟩) [s] := by rw [← hv3]; exact mt_sn HX.out HY.out ((RXS.out.on K6.out).on J2.out)
              have E4 := hid (C4.out _ v3 ((RU.out.on K6.out).on J3.out) sm3)
              clear h2 C3 a0 a1 J1 sm3
              go_wp2_with fail
              refine E4.out.mono ?_
              rintro _ v4 ⟨A7, c7, rfl, ho7, h4⟩
              have J4 : Hid (Below wr.heap.size wr v4) := hid (J3.out.trans (h4.mono J3.out.size))
              have R7 := hid (own_rd ho7)
              have HC7 := hid (own_cap ho7)
              have f0 := (J4.out.cell (p := ⟨b1, o1, none⟩) hl6).trans ((K6.out.cell (p := ⟨b1, o1, none⟩) HL1.out).trans HG0.out)
              have f1 := (J4.out.cell (p := ⟨b1, o1 + 1, none⟩) hl6).trans ((K6.out.cell (p := ⟨b1, o1 + 1, none⟩) HL1.out).trans HG1.out)
              obtain ⟨v5, hv5⟩ : ∃ v5, v4.alloc (.cells #[.slice Ax X cx, .int .i64 Y] 24) = v5 := ⟨_, rfl⟩
              have g5 : Below v4.heap.size v4 v5 := by rw [← hv5]; exact ml_grow _ _
              have J5 : Hid (Below wr.heap.size wr v5) := hid (J4.out.trans (g5.mono J4.out.size))
              have sm5 : RdSm v5 v5.heap.size (some ⟨v4.heap.size, 0, none⟩) [s] := by rw [← hv5]; exact mt_sn HX.out HY.out ((RXS.out.on K6.out).on J4.out)
              have E5 := hid (C5.out A4 c4 (by rw [← HTL.out]; exact HC4.out.1) HC4.out.2 _ v5 (HR.out.on J5.out) sm5)
              have R75 := hid (R7.out.on g5)
              clear h4 ho7 C4 E4 d0 d1 hv3 J2 J3 sm5 g5 R7
              go_wp2_with fail
              refine E5.out.mono ?_
              rintro _ v6 ⟨A9, c9, rfl, ho9, h6⟩
              have J6 : Hid (Below wr.heap.size wr v6) := hid (J5.out.trans (h6.mono J5.out.size))
              have K9 : Hid (Below w.heap.size w v6) := hid (K6.out.trans (J6.out.mono K6.out.size))
              have R76 := hid (R75.out.on h6)
              have R9 := hid (own_rd ho9)
              have HC9 := hid (own_cap ho9)
              clear h6 ho9 C5 E5 f0 f1 hv5 J4 J5 R75
              by_cases hg0 : g2 = 0
              · subst hg0
                obtain ⟨hl, hv⟩ := HGV.out (by trivial)
                have HV := hid hv
                have E6 := hid (CTV.out V1 hl A7 c7 HC7.out.1 HC7.out.2 v6 R76.out)
                rw [hv, hl] at E6
                rw [hl]
                have p4 : ((U : Int) == (U : Int)) = true := by simp
                clear hl hv HGV CTV
                go_wp2_with fail
                refine E6.out.mono ?_
                rintro _ v7 ⟨A10, c10, rfl, ho10, h7⟩
                have K10 : Hid (Below w.heap.size w v7) := hid (K9.out.trans (h7.mono K9.out.size))
                have CS := hid (sf_rsame (A := A10) (B := A9) (c := c10) (d := c9) V2 (by have := own_cap ho10; omega) v7 (own_rd ho10) (R9.out.on h7))
                clear h7 ho10 E6
                go_wp2_with fail
                refine CS.out.mono ?_
                rintro _ v8 ⟨rfl, h8⟩
                have K11 : Hid (Below w.heap.size w v8) := hid (K10.out.trans (h8.mono K10.out.size))
                clear h8
                go_wp2_with fail
                go_ret
                exact ⟨rfl, K11.out⟩
              · have hne : (g2 != 0) = true := by simpa using hg0
                clear hg0 HGV CTV
                go_wp2_with fail
                go_ret
                exact ⟨rfl, K9.out⟩)
    · have e0 : mlO 2 u = [] := if_neg hE
      have e1 : mzO 2 u = [] := if_neg hE
      obtain ⟨E, hEE⟩ : ∃ E, msE 2 u = E := ⟨_, rfl⟩
      rw [e0, e1, hEE] at C1
      rw [hEE] at hE
      have hne : (E != 0) = true := by simpa using hE
      clear hfew hF ru rl iu il lcu lmu lcl lml hf hul hll hU hM hu5 hl1 hX e0 e1 hEE hE
      go_enter Try.func7, Try.ntmps7
      go_wp2_with fail
      refine (ml_live _).mono ?_
      rintro _ w1 ⟨rfl, h1⟩
      have K1 := hid h1
      clear h1
      go_wp2_with fail
      refine (C0.out _ (RL.out.on K1.out)).mono ?_
      rintro _ w2 ⟨rfl, h2⟩
      have K2 : Hid (Below w.heap.size w w2) := hid (K1.out.trans (h2.mono K1.out.size))
      clear h2
      go_wp2_with fail
      refine (C1.out _ (RU.out.on K2.out)).mono ?_
      rintro _ w3 ⟨A3, c3, B3, d3, rfl, hor, hzc, hzr, h3⟩
      have K3 : Hid (Below w.heap.size w w3) := hid (K2.out.trans (h3.mono K2.out.size))
      clear hor hzc hzr h3
      go_wp2_with fail
      go_ret
      exact ⟨rfl, K3.out⟩
theorem law_types : ∀ t ∈ Try.f7.params.toList, Try.prog.readableRec t = true ∧ t < Try.prog.types.size := by
  have h : (Try.f7.params.toList.all fun t => Try.prog.readableRec t && decide (t < Try.prog.types.size)) = true := by kernel_rfl
  intro t ht
  simpa using List.all_eq_true.1 h t ht
set_option maxRecDepth 100000 in
theorem lifted (os : Os) (started : os.Started) (H : Type) (enc : TypeId × Value → H) :
    ReturnsInHanded {} Try.checked os 7 .any (Rows.mlpTurnsSpec.pre6 enc Try.prog Try.f7 Rows.mlpTurnsRow.domain false) (Rows.mlpTurnsSpec.post enc Try.prog Try.f7 false true false false) := by
  refine returnsInHanded_of_change (C := Try.checked) own started (by kernel_rfl) Try.func7
    (ChangeSpec.witness6 (enc := enc) (C := Try.checked) false ⟨#[], #[.slice none 0 0, .int .i64 0, .slice none 0 0], []⟩ 8 (by kernel_rfl) (by kernel_rfl) (by kernel_rfl) (by kernel_rfl)) ?_
  intro W base args ds gs before hval0 hW hcnd _
  have hval : ∀ (j : Nat) t v, Try.f7.params[j]? = some t → args[j]? = some v → Value.okWide Try.prog W .any base t v := hval0
  have hW' := hW
  obtain ⟨p, q, hA0, hV, rfl, hfz, hnd⟩ := hW
  have hA : DataW.TrodAll enc Try.prog W 0 (fun _ => true) true Try.f7.params.toList args.toList ds p := hA0
  rw [Try.params7] at hA hval
  obtain ⟨v0, vs0, d0, ds0, p0, q0, hargs, rfl, rfl, h0, r0⟩ := trodAll_cons hA
  obtain ⟨v1, vs1, d1, ds1, p1, q1, rfl, rfl, rfl, h1, r1⟩ := trodAll_cons r0
  obtain ⟨v2, vs2, d2, ds2, p2, q2, rfl, rfl, rfl, h2, r2⟩ := trodAll_cons r1
  obtain ⟨rfl, rfl, rfl⟩ := trodAll_nil r2
  obtain rfl : args = #[v0, v1, v2] := by cases args; simp_all
  obtain ⟨rfl, rfl⟩ := trodVars_none hV
  obtain ⟨Au, u, cu, rfl, rdu, iu, lcu, lmu⟩ := open_nums Try.underlying22 Try.underlying2 cells_i64' (hval 0 22 v0 rfl rfl) h0
  obtain ⟨f, rfl, rfl, rfl, w1⟩ := open_int Try.underlying3 (hval 1 3 v1 rfl rfl) h1
  obtain ⟨Al, l, cl, rfl, rdl, il, lcl, lml⟩ := open_smps (hval 2 43 v2 rfl rfl) h2
  clear hA0 hval0
  refine (walk Au u cu f Al l cl W rdu (fun x hx => I64.of_wf (iu x hx)) lcu lmu (I64.of_wf w1) rdl il lcl lml).mono fun e W' ⟨he, hb⟩ => ?_
  subst he
  exact ⟨_, rfl, law_post laid (fun t ht => law_types t ht) rfl hW' ⟨rfl, rfl, rfl⟩ (by kernel_rfl) Try.underlying4 hb⟩

theorem over : Rows.mlpTurnsRow.holds Try.pinned (OpenSpec.ofChange Rows.mlpTurnsSpec) :=
  OpenClaim.holds_of_wide 7 Try.f7 rfl rfl rfl rfl rfl rfl rfl ⟨rfl, rfl, rfl, rfl, rfl⟩ rfl rfl rfl rfl rfl (by kernel_rfl) Try.func7 (by kernel_rfl)
    (of_decide_eq_true (by kernel_rfl)) (by unfold Func.isWrapper; first | (rw [if_pos (by decide +kernel)]; kernel_rfl) | (rw [if_neg (by decide +kernel)]; exact ⟨rfl, rfl⟩))
    (fun os started H enc _ => lifted os started H enc)

theorem proved : Rows.MlpTurnsSaid := over
end Go.Proofs.Ytekpejemfkjhcaa.MlpTurns
