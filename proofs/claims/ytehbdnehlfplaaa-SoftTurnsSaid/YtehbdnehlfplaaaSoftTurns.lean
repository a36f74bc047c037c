
/-
  SoftTurns answers true for every input. No condition.
-/
import Derived.BigQuiet
import Derived.Test.YtehbdnehlfplaaaPd
import Derived.Test.YtehbdnehlfplaaaPb
import Derived.Test.YtehbdnehlfplaaaPa
namespace Go.Proofs.Ytehbdnehlfplaaa.SoftTurns
open Go.ChangeShapes Go.WideShapes Go.ChangeAt Go.RowKit
set_option maxHeartbeats 400000
set_option linter.unusedVariables false
open Go.Proofs.Ytehbdnehlfplaaa
theorem sturn_two {P : List Int} (h : P.length = 2) : ∃ p q, P = [p, q] ∧ P.getD 0 0 = p ∧ P.getD 1 0 = q := by
  match P, h with
  | [p, q], _ => exact ⟨p, q, rfl, rfl, rfl⟩
theorem sturn_i64 {u a b : List Int} (iu : I64s u) (h : rwL 2 u = [a, b]) : I64s a ∧ I64s b := by
  have h1 := rwL_i64 (o := 2) iu
  rw [h] at h1
  exact ⟨h1 a (by simp), h1 b (by simp)⟩
theorem sturn_app {a b : List Int} (h1 : I64s a) (h2 : I64s b) : I64s (a ++ b) := fun x hx => by
  rcases List.mem_append.1 hx with hx | hx
  · exact h1 x hx
  · exact h2 x hx
set_option maxHeartbeats 4000000 in
set_option maxRecDepth 100000 in
theorem walk (Au : Option Addr) (u : List Int) (cu : Nat) (Ax : Option Addr) (x : List Int) (cx : Nat) (f : Int) (w : World)
    (ru : Rd (Value.int .i64) w w.heap.size Au u) (iu : I64s u) (lcu : u.length ≤ cu) (lmu : cu ≤ 9223372036854775807)
    (rx : Rd (Value.int .i64) w w.heap.size Ax x) (ix : I64s x) (lcx : x.length ≤ cx) (lmx : cx ≤ 9223372036854775807) (hf : I64 f) :
    Calls Try.prog 7 #[.slice Au u.length cu, .slice Ax x.length cx, .int .i64 f] w fun e w' => e = .returned (.bool true) ∧ Below w.heap.size w w' := by
  have hul : u.length ≤ 9223372036854775807 := by omega
  have hxl : x.length ≤ 9223372036854775807 := by omega
  have C0 := hid (fun W A (h : RdSm W W.heap.size A [⟨x, 0⟩]) => ref_Few14 (Aw := Au) (A := A) (cw := cu) (c := 1) u.length hul [⟨x, 0⟩] (by simp) W h)
  have C1 := hid (fun W h => sf_Rows (Au := Au) (cu := cu) 2 (by decide) u lcu lmu W h)
  have C2 := hid (fun (hx : x.length ≤ 1099511627776) W h1 h2 => sf_Tell (Au := Au) (Ax := Ax) (cu := cu) (cx := cx) 2 (by decide) u x lcu lmu iu hx ix f W h1 h2)
  have C3 := hid (fun (hx : x.length ≤ 1099511627776) (Z Y : List Int) (iz : I64s Z) (hY : Y = Z) (A : Option Addr) (c : Nat) (h1 : Y.length ≤ c) (h2 : c ≤ 9223372036854775807) W (h3 : Rd (Value.int .i64) W W.heap.size A Y) (h4 : Rd (Value.int .i64) W W.heap.size Ax x) => (by subst hY; exact sf_Tell (Au := A) (Ax := Ax) (cu := c) (cx := cx) 2 (by decide) Y x h1 h2 iz hx ix f W h3 h4 : Calls Try.prog 10 #[.int .i64 2, .slice A Y.length c, .slice Ax x.length cx, .int .i64 f] W (OwnInts (stV 2 Z x f) (stE 2 Z x f) W)))
  have HT := hid (fun (h : rwE 2 u = 0) => soft_turns (w := u) (x := x) (f := f) h)
  have HR := hid (fun (h : rwE 2 u = 0) => rwL_row (o := 2) (u := u) h)
  have HN := hid (fun (h : rwE 2 u = 0) => (rwE_ok.1 h).2.2.2.2)
  have HI := hid (fun (a b : List Int) h => sturn_i64 (a := a) (b := b) iu h)
  have hfew : fewL u.length [⟨x, 0⟩] = true → u.length ≤ 500 ∧ x.length ≤ 100 := fun h => by
    unfold fewL at h
    simp only [Bool.and_eq_true, decide_eq_true_eq, List.all_cons, List.all_nil] at h
    exact ⟨h.2.1, h.1.1⟩
  obtain ⟨F, hF⟩ : ∃ F, fewL u.length [⟨x, 0⟩] = F := ⟨_, rfl⟩
  obtain ⟨U, hU⟩ : ∃ U, u.length = U := ⟨_, rfl⟩
  obtain ⟨N, hN⟩ : ∃ N, x.length = N := ⟨_, rfl⟩
  rw [hF] at C0 hfew
  have hsl : ([⟨x, 0⟩] : List SmpV).length = 1 := rfl
  rw [hsl] at C0
  rw [hU] at C0 C1 C2 hfew ⊢
  rw [hN] at C2 C3 hfew ⊢
  have RU := hid ru
  have RX := hid rx
  have CF : Hid (∀ w1, Below w.heap.size w w1 → Calls Try.prog 9 #[.slice Au U cu, .slice (some ⟨w1.heap.size, 0, none⟩) 1 1] (w1.alloc (.cells #[.slice Ax N cx, .int .i64 0] 24)) fun e w' => e = .returned (.bool F) ∧ Below w.heap.size w w') := hid (fun w1 h1 => by
    have r := smp_one (cx := cx) (Y := 0) 24 (RX.out.on h1)
    rw [hN] at r
    refine (C0.out _ _ r).mono ?_
    rintro _ w' ⟨rfl, h⟩
    exact ⟨rfl, (h1.alloc h1.size _).trans (h.mono (by have := h1.size; simp; omega))⟩)
  clear hF hU hN hsl ru rx iu ix lcu lmu lcx lmx hf hul hxl C0
  cases F with
  | false =>
    clear hfew
    go_enter Try.func7, Try.ntmps7
    go_wp2_with fail
    refine (sf_live _).mono ?_
    rintro _ w1 ⟨rfl, h1⟩
    have CF1 := hid (CF.out w1 h1)
    clear h1
    go_wp2_with fail
    refine CF1.out.mono ?_
    rintro _ w2 ⟨rfl, h2⟩
    go_wp2_with fail
    go_ret
    exact ⟨rfl, h2⟩
  | true =>
    obtain ⟨hu5, hx1⟩ := hfew rfl
    have hx2 : N ≤ 1099511627776 := by omega
    have D2 := hid (C2.out hx2)
    have D3 := hid (C3.out hx2)
    clear hfew C2 C3 hu5 hx1 hx2
    by_cases hE : rwE 2 u = 0
    · have e0 : rwO 2 u = rwL 2 u := if_pos hE
      obtain ⟨a, b, hab, T1, T2⟩ := HT.out hE
      obtain ⟨_, hrl⟩ := HR.out hE
      have hn17 := HN.out hE
      obtain ⟨ia, ib⟩ := HI.out a b hab
      obtain ⟨n, hn⟩ : ∃ n, u.length / (2 : Int).toNat = n := ⟨_, rfl⟩
      rw [hn] at hrl hn17
      rw [hab] at hrl
      rw [hE, e0, hab] at C1
      have HLA := hid (hrl a (by simp))
      have HLB := hid (hrl b (by simp))
      have HN17 := hid hn17
      have C4 := hid (D3.out (b ++ a))
      have C5 := hid (D3.out (a ++ a))
      have C4' := hid (fun Y h => C4.out Y (sturn_app ib ia) h)
      have C5' := hid (fun Y h => C5.out Y (sturn_app ia ia) h)
      obtain ⟨P, hP⟩ : ∃ P, stV 2 u x f = P := ⟨_, rfl⟩
      obtain ⟨E1, hE1⟩ : ∃ E, stE 2 u x f = E := ⟨_, rfl⟩
      obtain ⟨Q, hQ⟩ : ∃ P, stV 2 (b ++ a) x f = P := ⟨_, rfl⟩
      obtain ⟨E2, hE2⟩ : ∃ E, stE 2 (b ++ a) x f = E := ⟨_, rfl⟩
      obtain ⟨S, hS⟩ : ∃ P, stV 2 (a ++ a) x f = P := ⟨_, rfl⟩
      obtain ⟨E3, hE3⟩ : ∃ E, stE 2 (a ++ a) x f = E := ⟨_, rfl⟩
      rw [hP, hE1] at D2
      rw [hQ, hE2] at C4'
      rw [hS, hE3] at C5'
      rw [hP, hQ, hS, hE1, hE2, hE3] at T2
      rw [hE1, hE2] at T1
      have H1 := hid T1
      have H2 := hid T2
      have h2l : ([a, b] : List (List Int)).length = 2 := rfl
      clear hE e0 hab T1 T2 hrl hn17 ia ib hn hP hE1 hQ hE2 hS hE3 HT HR HN HI C4 C5 D3
      go_enter Try.func7, Try.ntmps7
      go_wp2_with fail
      refine (sf_live _).mono ?_
      rintro _ w1 ⟨rfl, h1⟩
      have CF1 := hid (CF.out w1 h1)
      clear h1 CF
      go_wp2_with fail
      refine CF1.out.mono ?_
      rintro _ w2 ⟨rfl, h2⟩
      have K2 := hid h2
      clear h2 CF1
      go_wp2_with fail
      refine (C1.out _ (RU.out.on K2.out)).mono ?_
      rintro _ w3 ⟨A3, c3, rfl, ho3, h3⟩
      rw [h2l]
      have K3 : Hid (Below w.heap.size w w3) := hid (K2.out.trans (h3.mono K2.out.size))
      obtain ⟨b0, off0, ra, Aa, c0, rfl, hb0, era, hc0, _, _, rra⟩ := ho3.at_ (k := 0) (by simp)
      obtain ⟨b1, off1, rb, Ab, c1, eb, hb1, erb, hc1, _, _, rrb⟩ := ho3.at_ (k := 1) (by simp)
      cases eb
      obtain rfl : a = ra := by simpa using era
      obtain rfl : b = rb := by simpa using erb
      rw [HLA.out, Nat.add_zero] at hc0
      rw [HLB.out] at hc1
      have RA := hid rra
      have RB := hid rrb
      clear h3 ho3 era erb rra rrb h2l C1 hb1
      go_wp2_with fail
      refine (D2.out _ (RU.out.on K3.out) (RX.out.on K3.out)).mono ?_
      rintro _ wv ⟨A4, c4, rfl, ho4, h4⟩
      have R4 := hid (own_rd ho4)
      have KV : Hid (Below w.heap.size w wv) := hid (K3.out.trans (h4.mono K3.out.size))
      have RAv := hid (RA.out.on h4)
      have RBv := hid (RB.out.on h4)
      have RXv := hid (RX.out.on KV.out)
      have v0 := (h4.cell (p := ⟨b0, off0, none⟩) hb0).trans hc0
      have v1 := (h4.cell (p := ⟨b0, off0 + 1, none⟩) hb0).trans hc1
      have hb0v : b0 < wv.heap.size := Nat.lt_of_lt_of_le hb0 h4.size
      clear h4 ho4 hc0 hc1 hb0 RA RB D2
      go_wp2_with fail
      go_region_law (first | (refine step_app (Value.int .i64) (fun _ => rfl) rfl _ _ 22 rfl wv.heap.size 2 (.int .i64 0) 8 Try.underlying22 info_i64 rfl [] none 0 rfl (own_nil _ _ _) b Ab c1 _ (by rw [HLB.out]; rfl) (RBv.out.on ((Below.refl _ wv).drew)) (by have := HN17.out; have := HLB.out; simp [maxLen]; omega) (by have := HN17.out; have := HLB.out; simp; omega) (Nat.le_refl _) ?_; rintro Y1 B1 e1 w5 hY1 ho5 hb5 _; have HY1 : Hid (Y1 = b) := hid (by simpa using hY1); have HO5 := hid ho5; have KK5 : Hid (Below wv.heap.size wv w5) := hid (Below.trans ((Below.refl _ wv).drew) hb5); have u0 := (KK5.out.cell (p := ⟨b0, off0, none⟩) hb0v).trans v0; have u1 := (KK5.out.cell (p := ⟨b0, off0 + 1, none⟩) hb0v).trans v1; clear hY1 ho5 hb5) | (refine step_app (Value.int .i64) (fun _ => rfl) rfl _ _ 22 rfl wv.heap.size 2 (.int .i64 0) 8 Try.underlying22 info_i64 rfl Y1 B1 e1 rfl HO5.out a Aa c0 _ (by rw [HLA.out]; rfl) (RAv.out.on KK5.out) (by have := HN17.out; have := HLA.out; have := HLB.out; rw [HY1.out]; simp [maxLen]; omega) (by have := HN17.out; have := HLA.out; have := HLB.out; rw [HY1.out]; omega) KK5.out.size ?_; rintro Y2 B2 e2 w6 hY2 ho6 hb6 _; have HY2 : Hid (Y2 = b ++ a) := hid (by rw [hY2, HY1.out]); have KK6 : Hid (Below wv.heap.size wv w6) := hid (KK5.out.trans hb6); have CT := hid (C4'.out Y2 HY2.out B2 e2 (own_cap ho6).1 (own_cap ho6).2 w6 (own_rd ho6) (RXv.out.on KK6.out)); clear hY2 ho6 hb6) | (go_simp; go_at_call 10; refine CT.out.mono ?_; rintro _ w7 ⟨A8, c8, rfl, ho7, hb7⟩; have R8 := hid (own_rd ho7); have KK7 : Hid (Below wv.heap.size wv w7) := hid (KK6.out.trans (hb7.mono KK6.out.size)); clear ho7 hb7) | fail)
      all_goals (
        have R4v := hid (R4.out.on KK7.out)
        have KW : Hid (Below w.heap.size w w7) := hid (KV.out.trans (KK7.out.mono KV.out.size))
        have RAw := hid (RAv.out.on KK7.out)
        have RXw := hid (RXv.out.on KK7.out)
        have x0 := (KK7.out.cell (p := ⟨b0, off0, none⟩) hb0v).trans v0
        have x1 := (KK7.out.cell (p := ⟨b0, off0 + 1, none⟩) hb0v).trans v1
        have hb0w : b0 < w7.heap.size := Nat.lt_of_lt_of_le hb0v KK7.out.size
        (try clear u0 u1)
        clear R4 KV RAv RBv RXv v0 v1 hb0v KK7 KK6 KK5 HY1 HY2 HO5 CT
        generalize w7 = wu at *
        go_wp2_with fail
        go_region_law (first | (refine step_app (Value.int .i64) (fun _ => rfl) rfl _ _ 22 rfl wu.heap.size 2 (.int .i64 0) 8 Try.underlying22 info_i64 rfl [] none 0 rfl (own_nil _ _ _) a Aa c0 _ (by rw [HLA.out]; rfl) (RAw.out.on ((Below.refl _ wu).drew)) (by have := HN17.out; have := HLA.out; simp [maxLen]; omega) (by have := HN17.out; have := HLA.out; simp; omega) (Nat.le_refl _) ?_; rintro Y1 B1 e1 w5 hY1 ho5 hb5 _; have HY1 : Hid (Y1 = a) := hid (by simpa using hY1); have HO5 := hid ho5; have KK5 : Hid (Below wu.heap.size wu w5) := hid (Below.trans ((Below.refl _ wu).drew) hb5); have u0 := (KK5.out.cell (p := ⟨b0, off0, none⟩) hb0w).trans x0; have u1 := (KK5.out.cell (p := ⟨b0, off0 + 1, none⟩) hb0w).trans x1; clear hY1 ho5 hb5) | (refine step_app (Value.int .i64) (fun _ => rfl) rfl _ _ 22 rfl wu.heap.size 2 (.int .i64 0) 8 Try.underlying22 info_i64 rfl Y1 B1 e1 rfl HO5.out a Aa c0 _ (by rw [HLA.out]; rfl) (RAw.out.on KK5.out) (by have := HN17.out; have := HLA.out; have := HLB.out; rw [HY1.out]; simp [maxLen]; omega) (by have := HN17.out; have := HLA.out; have := HLB.out; rw [HY1.out]; omega) KK5.out.size ?_; rintro Y2 B2 e2 w6 hY2 ho6 hb6 _; have HY2 : Hid (Y2 = a ++ a) := hid (by rw [hY2, HY1.out]); have KK6 : Hid (Below wu.heap.size wu w6) := hid (KK5.out.trans hb6); have CT := hid (C5'.out Y2 HY2.out B2 e2 (own_cap ho6).1 (own_cap ho6).2 w6 (own_rd ho6) (RXw.out.on KK6.out)); clear hY2 ho6 hb6) | (go_simp; go_at_call 10; refine CT.out.mono ?_; rintro _ w7 ⟨A9, c9, rfl, ho7, hb7⟩; have R9 := hid (own_rd ho7); have KK7 : Hid (Below wu.heap.size wu w7) := hid (KK6.out.trans (hb7.mono KK6.out.size)); clear ho7 hb7) | fail)
        all_goals (
          have R4w := hid (R4v.out.on KK7.out)
          have R8w := hid (R8.out.on KK7.out)
          have KZ : Hid (Below w.heap.size w w7) := hid (KW.out.trans (KK7.out.mono KW.out.size))
          (try clear u0 u1)
          clear R4v R8 RAw RXw x0 x1 hb0w KK7 KK6 KK5 HY1 HY2 HO5 CT KW
          by_cases hE1 : E1 = 0
          · subst hE1
            obtain ⟨z1, z2, z3, z4, z5, z6, z7, z8⟩ := H2.out rfl
            subst z1
            subst z2
            obtain ⟨p0, p1, e1, e2, e3⟩ := sturn_two z3
            obtain ⟨q0, q1, e4, e5, e6⟩ := sturn_two z4
            obtain ⟨s0, s1, e7, e8, e9⟩ := sturn_two z5
            rw [e2, e6] at z6
            rw [e3, e5] at z7
            rw [e8, e9] at z8
            subst z6
            subst z7
            subst z8
            obtain ⟨g4, o4, y1, rfl, l4, f1, k1⟩ := R4w.out.at_ (k := 0) (by omega)
            obtain ⟨_, _, y2, eq4, _, f2, k2⟩ := R4w.out.at_ (k := 1) (by omega)
            cases eq4
            obtain ⟨g8, o8, y3, rfl, l8, f3, k3⟩ := R8w.out.at_ (k := 0) (by omega)
            obtain ⟨_, _, y4, eq8, _, f4, k4⟩ := R8w.out.at_ (k := 1) (by omega)
            cases eq8
            obtain ⟨g9, o9, y5, rfl, l9, f5, k5⟩ := R9.out.at_ (k := 0) (by omega)
            obtain ⟨_, _, y6, eq9, _, f6, k6⟩ := R9.out.at_ (k := 1) (by omega)
            cases eq9
            rw [e1] at f1 f2
            rw [e4] at f3 f4
            rw [e7] at f5 f6
            obtain rfl : p0 = y1 := by simpa using f1
            obtain rfl : p1 = y2 := by simpa using f2
            obtain rfl : p1 = y3 := by simpa using f3
            obtain rfl : p0 = y4 := by simpa using f4
            obtain rfl : s0 = y5 := by simpa using f5
            obtain rfl : s0 = y6 := by simpa using f6
            rw [Nat.add_zero] at k1 k3 k5
            rw [z3, z4, z5]
            clear e1 e2 e3 e4 e5 e6 e7 e8 e9 f1 f2 f3 f4 f5 f6 z3 z4 z5 R4w R8w R9 H1 H2
            go_wp2_with fail
            go_quiet (fail)
            go_wp2_with fail
            go_ret
            exact ⟨rfl, KZ.out.trans (belowN _ _ _)⟩
          · have hne : (E1 != 0) = true := by simpa using hE1
            have h2 := H1.out hE1
            have hne2 : (E2 != 0) = true := by simpa using h2
            clear hE1 h2 H1 H2 R4w R8w R9
            go_wp2_with fail
            go_ret
            exact ⟨rfl, KZ.out⟩))
    · have e0 : rwO 2 u = [] := if_neg hE
      obtain ⟨E, hEE⟩ : ∃ E, rwE 2 u = E := ⟨_, rfl⟩
      rw [e0, hEE] at C1
      rw [hEE] at hE
      have hne : (E != 0) = true := by simpa using hE
      clear e0 hEE hE HT HR HN HI D2 D3
      go_enter Try.func7, Try.ntmps7
      go_wp2_with fail
      refine (sf_live _).mono ?_
      rintro _ w1 ⟨rfl, h1⟩
      have CF1 := hid (CF.out w1 h1)
      clear h1 CF
      go_wp2_with fail
      refine CF1.out.mono ?_
      rintro _ w2 ⟨rfl, h2⟩
      have K2 := hid h2
      clear h2 CF1
      go_wp2_with fail
      refine (C1.out _ (RU.out.on K2.out)).mono ?_
      rintro _ w3 ⟨A3, c3, rfl, ho3, h3⟩
      have K3 : Hid (Below w.heap.size w w3) := hid (K2.out.trans (h3.mono K2.out.size))
      clear h3 ho3
      go_wp2_with fail
      go_ret
      exact ⟨rfl, K3.out⟩
theorem law_types : ∀ t ∈ Try.f7.params.toList, Try.prog.readableRec t = true ∧ t < Try.prog.types.size := by
  have h : (Try.f7.params.toList.all fun t => Try.prog.readableRec t && decide (t < Try.prog.types.size)) = true := by kernel_rfl
  intro t ht
  simpa using List.all_eq_true.1 h t ht
set_option maxRecDepth 100000 in
theorem lifted (os : Os) (started : os.Started) (H : Type) (enc : TypeId × Value → H) :
    ReturnsInHanded {} Try.checked os 7 .any (Rows.softTurnsSpec.pre6 enc Try.prog Try.f7 Rows.softTurnsRow.domain false) (Rows.softTurnsSpec.post enc Try.prog Try.f7 false true false false) := by
  refine returnsInHanded_of_change (C := Try.checked) own started (by kernel_rfl) Try.func7
    (ChangeSpec.witness6 (enc := enc) (C := Try.checked) false ⟨#[], #[.slice none 0 0, .slice none 0 0, .int .i64 0], []⟩ 8 (by kernel_rfl) (by kernel_rfl) (by kernel_rfl) (by kernel_rfl)) ?_
  intro W base args ds gs before hval0 hW hcnd _
  have hval : ∀ (j : Nat) t v, Try.f7.params[j]? = some t → args[j]? = some v → Value.okWide Try.prog W .any base t v := hval0
  have hW' := hW
  obtain ⟨p, q, hA0, hV, rfl, hfz, hnd⟩ := hW
  have hA : DataW.TrodAll enc Try.prog W 0 (fun _ => true) true Try.f7.params.toList args.toList ds p := hA0
  rw [Try.params7] at hA hval
  obtain ⟨v0, vs0, d0, ds0, p0, q0, hargs, rfl, rfl, h0, r0⟩ := trodAll_cons hA
  obtain ⟨v1, vs1, d1, ds1, p1, q1, rfl, rfl, rfl, h1, r1⟩ := trodAll_cons r0
  obtain ⟨v2, vs2, d2, ds2, p2, q2, rfl, rfl, rfl, h2, r2⟩ := trodAll_cons r1
  obtain ⟨rfl, rfl, rfl⟩ := trodAll_nil r2
  obtain rfl : args = #[v0, v1, v2] := by cases args; simp_all
  obtain ⟨rfl, rfl⟩ := trodVars_none hV
  obtain ⟨Au, u, cu, rfl, rdu, iu, lcu, lmu⟩ := open_nums Try.underlying22 Try.underlying2 cells_i64' (hval 0 22 v0 rfl rfl) h0
  obtain ⟨Ax, x, cx, rfl, rdx, ix, lcx, lmx⟩ := open_nums Try.underlying22 Try.underlying2 cells_i64' (hval 1 22 v1 rfl rfl) h1
  obtain ⟨f, rfl, rfl, rfl, w2⟩ := open_int Try.underlying3 (hval 2 3 v2 rfl rfl) h2
  clear hA0 hval0
  refine (walk Au u cu Ax x cx f W rdu (fun x hx => I64.of_wf (iu x hx)) lcu lmu rdx (fun x hx => I64.of_wf (ix x hx)) lcx lmx (I64.of_wf w2)).mono fun e W' ⟨he, hb⟩ => ?_
  subst he
  exact ⟨_, rfl, law_post laid (fun t ht => law_types t ht) rfl hW' ⟨rfl, rfl, rfl⟩ (by kernel_rfl) Try.underlying4 hb⟩

theorem over : Rows.softTurnsRow.holds Try.pinned (OpenSpec.ofChange Rows.softTurnsSpec) :=
  OpenClaim.holds_of_wide 7 Try.f7 rfl rfl rfl rfl rfl rfl rfl ⟨rfl, rfl, rfl, rfl, rfl⟩ rfl rfl rfl rfl rfl (by kernel_rfl) Try.func7 (by kernel_rfl)
    (of_decide_eq_true (by kernel_rfl)) (by unfold Func.isWrapper; first | (rw [if_pos (by decide +kernel)]; kernel_rfl) | (rw [if_neg (by decide +kernel)]; exact ⟨rfl, rfl⟩))
    (fun os started H enc _ => lifted os started H enc)

theorem proved : Rows.SoftTurnsSaid := over
end Go.Proofs.Ytehbdnehlfplaaa.SoftTurns
