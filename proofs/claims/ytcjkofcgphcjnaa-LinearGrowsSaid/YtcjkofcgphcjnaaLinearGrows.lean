
/-
  LinearGrows answers true for every input. No condition.
-/
import Derived.Test.YtcjkofcgphcjnaaGe
import Derived.Test.YtcjkofcgphcjnaaGc
import Derived.Test.YtcjkofcgphcjnaaGa
namespace Go.Proofs.Ytcjkofcgphcjnaa.LinearGrows
open Go.ChangeShapes Go.WideShapes Go.ChangeAt Go.RowKit
set_option maxHeartbeats 400000
set_option linter.unusedVariables false
open Go.Proofs.Ytcjkofcgphcjnaa
theorem grows_mod (b : Int) : ∃ c : Int, Hid (b.tmod 1099511627776 = c) ∧ c.natAbs ≤ 1099511627776 ∧ I64 c := by
  have h1 := Int.lt_tmod_of_pos b (show (0 : Int) < 1099511627776 by decide)
  have h2 := Int.tmod_lt_of_pos b (show (0 : Int) < 1099511627776 by decide)
  exact ⟨_, hid rfl, by omega, by unfold I64; omega⟩
theorem grows_dbl {x : Int} (h1 : ¬ x > 1048576) (h2 : ¬ x < -1048576) : ∃ y, 2 * x = y ∧ IntKind.i64.wrap (2 * x) = y ∧ wrap64 (2 * x) = y := ⟨2 * x, rfl, Go.IntWalk.i64_in _ (by omega), Go.IntWalk.wrap64_in _ (by omega)⟩
theorem grows_abs {x : Int} (h1 : ¬ x > 1048576) (h2 : ¬ x < -1048576) : x.natAbs ≤ 1048576 := by omega
theorem grows_add {x c : Int} (h1 : x.natAbs ≤ 1048576) (h2 : c.natAbs ≤ 1099511627776) : ∃ y, x + c = y ∧ IntKind.i64.wrap (x + c) = y ∧ wrap64 (x + c) = y := ⟨x + c, rfl, Go.IntWalk.i64_in _ (by omega), Go.IntWalk.wrap64_in _ (by omega)⟩
theorem grows_end {V c : Int} (h1 : I64 (2 * V)) (h2 : I64 (V + c)) : ∃ y z, 2 * V = y ∧ V + c = z ∧ Hid (IntKind.i64.wrap (2 * V) = y ∧ wrap64 (2 * V) = y ∧ IntKind.i64.wrap (V + c) = z ∧ wrap64 (V + c) = z) := by
  unfold I64 at h1 h2
  exact ⟨2 * V, V + c, rfl, rfl, hid ⟨Go.IntWalk.i64_in _ (by omega), Go.IntWalk.wrap64_in _ (by omega), Go.IntWalk.i64_in _ (by omega), Go.IntWalk.wrap64_in _ (by omega)⟩⟩
theorem grows_upB_i64 {u : List Int} {c : Int} (hu : ∀ y ∈ u, y.natAbs ≤ 1048576) (hc : c.natAbs ≤ 1099511627776) : I64s (upB u c) := by
  intro x hx
  unfold upB at hx
  rcases List.mem_or_eq_of_mem_set hx with hx | rfl
  · have := hu x hx; unfold I64; omega
  · have h : (u.getD (u.length - 1) 0).natAbs ≤ 1048576 := by
      rw [List.getD_eq_getElem?_getD]
      cases h9 : u[u.length - 1]? with
      | none => simp
      | some y => exact hu y (List.mem_of_getElem? h9)
    unfold I64; omega
set_option maxHeartbeats 2000000 in
set_option maxRecDepth 100000 in
theorem walk (Au : Option Addr) (u : List Int) (cu : Nat) (Ax : Option Addr) (x : List Int) (cx : Nat) (b : Int) (w : World)
    (ru : Rd (Value.int .i64) w w.heap.size Au u) (iu : I64s u) (lcu : u.length ≤ cu) (lmu : cu ≤ 9223372036854775807)
    (rx : Rd (Value.int .i64) w w.heap.size Ax x) (ix : I64s x) (lcx : x.length ≤ cx) (lmx : cx ≤ 9223372036854775807) (hb : I64 b) :
    Calls Try.prog 7 #[.slice Au u.length cu, .slice Ax x.length cx, .int .i64 b] w fun e w' => e = .returned (.bool true) ∧ Below w.heap.size w w' := by
  have hul : u.length ≤ 9223372036854775807 := by omega
  have hxl : x.length ≤ 9223372036854775807 := by omega
  obtain ⟨c, hbc, hc1, hc2⟩ := grows_mod b
  have C0 := hid (fun W A (h : RdSm W W.heap.size A [⟨x, 0⟩]) => ref_Few14 (Aw := Au) (A := A) (cw := cu) (c := 1) u.length hul [⟨x, 0⟩] (by simp) W h)
  have C1 := hid (fun W h1 h2 => ln_Tell (Aw := Au) (Ax := Ax) (cw := cu) (cx := cx) u x lcu lmu hxl iu ix 0 W h1 h2)
  have C2 := hid (fun (h : ∀ y ∈ u, y.natAbs ≤ 1048576) (A : Option Addr) (k : Nat) (hk : (u.map fun y => 2 * y).length ≤ k) (hk2 : k ≤ 9223372036854775807) W h1 h2 => ln_Tell (Aw := A) (Ax := Ax) (cw := k) (cx := cx) (u.map fun y => 2 * y) x hk hk2 hxl (fun y hy => by
    obtain ⟨z, hz, rfl⟩ := List.mem_map.1 hy
    have := h z hz
    unfold I64; omega) ix 0 W h1 h2)
  have C3 := hid (fun (h : ∀ y ∈ u, y.natAbs ≤ 1048576) (A : Option Addr) (k : Nat) (hk : (upB u c).length ≤ k) (hk2 : k ≤ 9223372036854775807) W h1 h2 => ln_Tell (Aw := A) (Ax := Ax) (cw := k) (cx := cx) (upB u c) x hk hk2 hxl (grows_upB_i64 h hc1) ix 0 W h1 h2)
  have HM := hid (fun hu hx => lin_grow (w := u) (x := x) (c := c) hu hx hc1)
  have hfew : fewL u.length [⟨x, 0⟩] = true → u.length ≤ 500 ∧ x.length ≤ 100 := fun h => by
    unfold fewL at h
    simp only [Bool.and_eq_true, decide_eq_true_eq, List.all_cons, List.all_nil] at h
    exact ⟨h.2.1, h.1.1⟩
  obtain ⟨F, hF⟩ : ∃ F, fewL u.length [⟨x, 0⟩] = F := ⟨_, rfl⟩
  obtain ⟨V, hV⟩ : ∃ V, ltV u x 0 = V := ⟨_, rfl⟩
  obtain ⟨E, hE⟩ : ∃ E, ltE u x 0 = E := ⟨_, rfl⟩
  obtain ⟨D, hD⟩ : ∃ D, (u.map fun y => 2 * y) = D := ⟨_, rfl⟩
  have hDl : D.length = u.length := by rw [← hD, List.length_map]
  have HD := hid hD
  rw [hF] at C0 hfew
  rw [hV, hE] at C1 HM
  rw [hD] at C2 HM
  have hupl := upB_len u c
  rw [hupl] at C3
  rw [hDl] at C2
  obtain ⟨U, hU⟩ : ∃ U, u.length = U := ⟨_, rfl⟩
  obtain ⟨N, hN⟩ : ∃ N, x.length = N := ⟨_, rfl⟩
  rw [hU] at C0 C1 C2 C3 hfew HM hupl hDl ⊢
  rw [hN] at C1 C2 C3 hfew HM ⊢
  have hsl : ([⟨x, 0⟩] : List SmpV).length = 1 := rfl
  rw [hsl] at C0
  have HU := hid hU
  have HN := hid hN
  have RU := hid ru
  have RX := hid rx
  have IU := hid iu
  have HC1 := hid hc1
  have HUP := hid hupl
  have HDL := hid hDl
  clear hF hV hE hD hU ru rx iu ix lcu lmu lcx lmx hul hxl hsl hc1 hc2 hupl hDl hb
  have z0 : x.length = N := hN
  clear hN
  have CF : Hid (∀ w1, Below w.heap.size w w1 → Calls Try.prog 10 #[.slice Au U cu, .slice (some ⟨w1.heap.size, 0, none⟩) 1 1] (w1.alloc (.cells #[.slice Ax N cx, .int .i64 0] 24)) fun e w' => e = .returned (.bool F) ∧ Below w.heap.size w w') := hid (fun w1 h1 => by
    have r := smp_one (cx := cx) (Y := 0) 24 (RX.out.on h1)
    rw [z0] at r
    refine (C0.out _ _ r).mono ?_
    rintro _ w' ⟨rfl, h⟩
    exact ⟨rfl, (h1.alloc h1.size _).trans (h.mono (by have := h1.size; simp; omega))⟩)
  clear C0 z0
  cases F with
  | false =>
    go_enter Try.func7, Try.ntmps7
    go_wp2_with fail
    refine (ln_live _).mono ?_
    rintro _ w1 ⟨rfl, h1⟩
    have CF1 := hid (CF.out w1 h1)
    clear h1
    go_wp2_with fail
    refine CF1.out.mono ?_
    rintro _ w2 ⟨rfl, h2⟩
    go_wp2_with fail
    go_ret
    exact ⟨rfl, h2⟩
  | true =>
    obtain ⟨hu5, hx1⟩ := hfew rfl
    go_enter Try.func7, Try.ntmps7
    go_wp2_with fail
    refine (ln_live _).mono ?_
    rintro _ w1 ⟨rfl, h1⟩
    have CF1 := hid (CF.out w1 h1)
    clear h1 CF hfew
    go_wp2_with fail
    refine CF1.out.mono ?_
    rintro _ w2 ⟨rfl, h2⟩
    have K2 := hid h2
    clear h2 CF1
    go_wp2_with fail
    go_loopw [8, 10, 32] (fun xt _ xi wr => ∃ (k : Nat) (T : List Int) (A2 : Option Addr) (c2 : Nat), k ≤ U ∧ xi = .int .i64 (k : Int) ∧ xt = .slice A2 T.length c2 ∧ T = D.take k ∧ (∀ y ∈ u.take k, y.natAbs ≤ 1048576) ∧ wr.ownsRow w2.heap.size 2 1 (.slice A2 T.length c2) T.length (T.map (Value.int .i64)) ∧ Below w2.heap.size w2 wr) (fun _ _ xi _ => U - (intOf xi).toNat)
    case atStart => exact ⟨0, [], none, 0, Nat.zero_le _, rfl, rfl, rfl, fun y hy => by simp at hy, own_nil _ _ _, Below.refl _ _⟩
    case round =>
      obtain ⟨k, T, A2, c2, hk, rfl, rfl, hT, ha, ho, hbel⟩ := hrel
      have HT := hid hT
      have HA := hid ha
      have HO := hid ho
      have HB := hid hbel
      have KR : Hid (Below w.heap.size w wr) := hid (K2.out.trans (hbel.mono K2.out.size))
      clear hT ha ho
      by_cases hlt : k < U
      · obtain ⟨b1, o1, y, rfl, l1, en, d1⟩ := (RU.out.on KR.out).at_ (k := k) (by rw [HU.out]; exact hlt)
        have HEN := hid en
        clear en hbel
        by_cases h1 : y > 1048576
        · go_wp2_with fail
          go_ret
          exact ⟨rfl, KR.out⟩
        · by_cases h2 : y < -1048576
          · go_wp2_with fail
            go_ret
            exact ⟨rfl, KR.out⟩
          · obtain ⟨y2, e1, e2, e3⟩ := grows_dbl h1 h2
            have HY := hid (grows_abs h1 h2)
            have hnx : Hid (D.take (k + 1) = D.take k ++ [y2]) := hid (by
              rw [List.take_add_one, ← HD.out, List.getElem?_map, HEN.out]
              rw [← e1]; rfl)
            have htn : Hid (u.take (k + 1) = u.take k ++ [y]) := hid (by rw [List.take_add_one, HEN.out]; rfl)
            have hTl : T.length = k := by rw [HT.out, List.length_take, HDL.out]; omega
            have HTl := hid hTl
            have hr0 : Rd (Value.int .i64) (wr.alloc (.cells #[.int .i64 y2] 2)) _ (some ⟨wr.heap.size, 0, none⟩) [y2] := rd_one (one_cell wr (.int .i64 y2) 2).1
            have h0' := own_on HO.out ((Below.refl wr.heap.size wr).alloc (Nat.le_refl _) (.cells #[.int .i64 y2] 2))
            have KK : Hid (w2.heap.size ≤ wr.heap.size) := hid HB.out.size
            clear e1 hTl
            go_wp2_with (at_builtin; refine wpList_app (Value.int .i64) (fun _ => rfl) _ rfl _ _ 22 rfl w2.heap.size 2 (.int .i64 0) 8 Try.underlying22 info_i64 rfl T _ _ rfl h0' [y2] _ 1 _ rfl hr0 (by have := HTl.out; simp [maxLen]; omega) (by have := HTl.out; simp; omega) (by have := KK.out; simp; omega) ?_)
            rintro S' A' c' w5 hS' ho' hb5 _
            have HS' := hid hS'
            have HO' := hid ho'
            have HK5 : Hid (Below w2.heap.size w2 w5) := hid ((HB.out.alloc HB.out.size _).trans hb5)
            clear hS' ho' h0' hr0 hb5 e2 e3 h1 h2
            go_wp2_with fail
            go_roundw
            case rel =>
              refine ⟨k + 1, S', A', c', hlt, by go_num, rfl, by rw [HS'.out, hnx.out, HT.out], ?_, HO'.out, HK5.out⟩
              rw [htn.out]
              intro z hz
              rcases List.mem_append.1 hz with hz | hz
              · exact HA.out z hz
              · simp at hz; subst hz; exact HY.out
            case measure => simp [intOf]; omega
      · obtain rfl : k = U := by omega
        have hTD : T = D := by rw [HT.out]; exact List.take_of_length_le (by rw [HDL.out]; exact Nat.le_refl _)
        have HUA : Hid (∀ y ∈ u, y.natAbs ≤ 1048576) := hid (by have := HA.out; rwa [List.take_of_length_le (by rw [HU.out]; exact Nat.le_refl _)] at this)
        subst hTD
        clear HT HA hbel hlt hk
        rw [HDL.out]
        have HO2 : Hid (wr.ownsRow w2.heap.size 2 1 (.slice A2 k c2) k (T.map (Value.int .i64))) := hid (by have := HO.out; rw [HDL.out] at this; exact this)
        have RT : Hid (Rd (Value.int .i64) wr wr.heap.size A2 T) := hid (own_rd HO.out)
        have hcap := own_cap HO2.out
        clear HO
        go_wp2_with fail
        go_loopw [12, 51] (fun _ xi wv => ∃ j : Nat, j ≤ N ∧ xi = .int .i64 (j : Int) ∧ (∀ y ∈ x.take j, y.natAbs ≤ 1048576) ∧ wv = wr) (fun _ xi _ => N - (intOf xi).toNat)
        case atStart => exact ⟨0, Nat.zero_le _, rfl, fun y hy => by simp at hy, rfl⟩
        case round =>
          obtain ⟨j, hj, rfl, ha, rfl⟩ := hrel
          have HA := hid ha
          clear ha
          by_cases hlt : j < N
          · obtain ⟨b1, o1, y, rfl, l1, en, d1⟩ := (RX.out.on KR.out).at_ (k := j) (by rw [HN.out]; exact hlt)
            have HEN := hid en
            clear en
            by_cases h1 : y > 1048576
            · go_wp2_with fail
              go_ret
              exact ⟨rfl, KR.out⟩
            · by_cases h2 : y < -1048576
              · go_wp2_with fail
                go_ret
                exact ⟨rfl, KR.out⟩
              · have HY := hid (grows_abs h1 h2)
                have htn : Hid (x.take (j + 1) = x.take j ++ [y]) := hid (by rw [List.take_add_one, HEN.out]; rfl)
                go_wp2_with fail
                go_roundw
                case rel =>
                  refine ⟨j + 1, hlt, by go_num, ?_, by trivial⟩
                  rw [htn.out]
                  intro z hz
                  rcases List.mem_append.1 hz with hz | hz
                  · exact HA.out z hz
                  · simp at hz; subst hz; exact HY.out
                case measure => (try clear h1 h2); simp [intOf]; omega
          · obtain rfl : j = N := by omega
            have HXA : ∀ y ∈ x, y.natAbs ≤ 1048576 := by have := HA.out; rwa [List.take_of_length_le (by rw [HN.out]; exact Nat.le_refl _)] at this
            obtain ⟨m1, m2⟩ := HM.out HUA.out HXA
            have c3' := hid (fun (A : Option Addr) (q : Nat) (hq : k ≤ q) (hq2 : q ≤ 9223372036854775807) W h1 (h : Below wr.heap.size wr W) => C3.out HUA.out A q hq hq2 W h1 ((RX.out.on KR.out).on h))
            have c1' := hid (C1.out wr (RU.out.on KR.out) (RX.out.on KR.out))
            have c2' := hid (fun W (h : Below wr.heap.size wr W) => C2.out HUA.out A2 c2 hcap.1 hcap.2 W (RT.out.on h) ((RX.out.on KR.out).on h))
            rw [m1] at c2'
            have M2 := hid m2
            clear m1 m2 HXA HA C1 C2 C3 hcap HM hlt
            by_cases hE : E = 0
            · subst hE
              obtain ⟨g1, g2, g3, g4, g5, g6⟩ := M2.out rfl
              rw [g2] at c2'
              obtain ⟨y2, z2, i1, i2, i3⟩ := grows_end g3 g6
              rw [i1] at c2'
              have hkj : k = j + 1 := by omega
              subst hkj
              rw [g4, g5, i2] at c3'
              obtain ⟨y, hy⟩ : ∃ y, u[j]? = some y := ⟨_, List.getElem?_eq_getElem (by rw [HU.out]; omega)⟩
              have hyD : u.getD j 0 = y := getD_of hy
              obtain ⟨y', a1, a2, a3⟩ := grows_add (HUA.out y (List.mem_of_getElem? hy)) HC1.out
              have HUPS : Hid (u.set j y' = upB u c) := hid (by unfold upB; rw [HU.out, show j + 1 - 1 = j by omega, hyD, a1])
              have HYU := hid hy
              have I3 := hid i3
              have hw1 : IntKind.i64.wrap ((j : Int) + 1) = ((j + 1 : Nat) : Int) := Go.IntWalk.i64_in _ (by omega)
              have RU2 := (RU.out.on KR.out)
              have RUR := hid RU2
              have bm := hbc.out
              have hjj : (j : Int) < ((j + 1 : Nat) : Int) := by omega
              clear g1 g2 g3 g4 g5 g6 i1 i2 i3 hy hyD a1 M2 RU2
              go_wp2_with fail
              refine c1'.out.mono ?_
              rintro _ w5 ⟨rfl, h5⟩
              have K5 := hid h5
              clear h5
              go_wp2_with fail
              refine (c2'.out _ K5.out).mono ?_
              rintro _ w6 ⟨rfl, h6⟩
              have J6 : Hid (Below wr.heap.size wr w6) := hid (K5.out.trans (h6.mono K5.out.size))
              have RU6 := RUR.out.on J6.out
              clear h6
              go_wp2_with (at_builtin; refine wpList_app (Value.int .i64) (fun _ => rfl) _ rfl _ _ 22 rfl w6.heap.size 2 (.int .i64 0) 8 Try.underlying22 info_i64 rfl [] none 0 rfl (own_nil _ _ _) u Au cu _ (by rw [HU.out]; rfl) RU6 (by have := HU.out; simp [maxLen]; omega) (by have := HU.out; simp; omega) (Nat.le_refl _) ?_)
              rintro S A7 c7 w7 hS ho7 hb7 _
              replace hS : S = u := by simpa using hS
              subst hS
              have J7 : Hid (Below wr.heap.size wr w7) := hid (J6.out.trans (hb7.mono J6.out.size))
              have HO7 := hid ho7
              obtain ⟨g, rfl, hg, hc, hf⟩ := own_cellk ho7 (k := j) (by rw [HU.out]; omega)
              rw [getD_of HYU.out] at hc
              have hst := (ho7.stored j (.int .i64 y')).1
              rw [← List.map_set, HUPS.out] at hst
              rw [HU.out] at hst ⊢
              have hcap7 := own_cap hst
              have hst2 : (w7.setCell ⟨g, j, none⟩ (.int .i64 y')).ownsRow w6.heap.size 2 1 (.slice (some ⟨g, 0, none⟩) (upB S c).length c7) (upB S c).length ((upB S c).map (Value.int .i64)) := by rw [HUP.out]; exact hst
              have J8 : Hid (Below wr.heap.size wr (w7.setCell ⟨g, j, none⟩ (.int .i64 y'))) := hid (J7.out.setCell (Nat.le_trans J6.out.size hg) _)
              have c8 := hid (c3'.out _ c7 hcap7.1 hcap7.2 _ (own_rd hst2) J8.out)
              have K8 := hid (KR.out.trans (J8.out.mono KR.out.size))
              clear ho7 hst hst2 hb7 hcap7 HO7 HUPS HYU RU6 hg
              go_wp2_with fail
              refine c8.out.mono ?_
              rintro _ w9 ⟨rfl, h9⟩
              have K9 : Hid (Below w.heap.size w w9) := hid (K8.out.trans (h9.mono K8.out.size))
              clear h9 a2 a3 hc hf
              obtain ⟨i3, i4, i5, i6⟩ := I3.out
              go_wp2_with fail
              go_ret
              exact ⟨rfl, K9.out⟩
            · have hne : (E != 0) = true := by simpa using hE
              obtain ⟨V2, hV2⟩ : ∃ V2, ltV T x 0 = V2 := ⟨_, rfl⟩
              rw [hV2] at c2'
              clear hE hV2
              go_wp2_with fail
              refine c1'.out.mono ?_
              rintro _ w5 ⟨rfl, h5⟩
              have K5 := hid h5
              clear h5
              go_wp2_with fail
              refine (c2'.out _ K5.out).mono ?_
              rintro _ w6 ⟨rfl, h6⟩
              have K6 : Hid (Below w.heap.size w w6) := hid (KR.out.trans ((K5.out.trans (h6.mono K5.out.size)).mono KR.out.size))
              clear h6
              go_wp2_with fail
              go_ret
              exact ⟨rfl, K6.out⟩
theorem law_types : ∀ t ∈ Try.f7.params.toList, Try.prog.readableRec t = true ∧ t < Try.prog.types.size := by
  have h : (Try.f7.params.toList.all fun t => Try.prog.readableRec t && decide (t < Try.prog.types.size)) = true := by kernel_rfl
  intro t ht
  simpa using List.all_eq_true.1 h t ht
set_option maxRecDepth 100000 in
theorem lifted (os : Os) (started : os.Started) (H : Type) (enc : TypeId × Value → H) :
    ReturnsInHanded {} Try.checked os 7 .any (Rows.linearGrowsSpec.pre6 enc Try.prog Try.f7 Rows.linearGrowsRow.domain false) (Rows.linearGrowsSpec.post enc Try.prog Try.f7 false true false false) := by
  refine returnsInHanded_of_change (C := Try.checked) own started (by kernel_rfl) Try.func7
    (ChangeSpec.witness6 (enc := enc) (C := Try.checked) false ⟨#[], #[.slice none 0 0, .slice none 0 0, .int .i64 0], []⟩ 8 (by kernel_rfl) (by kernel_rfl) (by kernel_rfl) (by kernel_rfl)) ?_
  intro W base args ds gs before hval0 hW hcnd _
  have hval : ∀ (j : Nat) t v, Try.f7.params[j]? = some t → args[j]? = some v → Value.okWide Try.prog W .any base t v := hval0
  have hW' := hW
  obtain ⟨p, q, hA0, hV, rfl, hfz, hnd⟩ := hW
  have hA : DataW.TrodAll enc Try.prog W 0 (fun _ => true) true Try.f7.params.toList args.toList ds p := hA0
  rw [Try.params7] at hA hval
  obtain ⟨v0, vs0, d0, ds0, p0, q0, hargs, rfl, rfl, h0, r0⟩ := trodAll_cons hA
  obtain ⟨v1, vs1, d1, ds1, p1, q1, rfl, rfl, rfl, h1, r1⟩ := trodAll_cons r0
  obtain ⟨v2, vs2, d2, ds2, p2, q2, rfl, rfl, rfl, h2, r2⟩ := trodAll_cons r1
  obtain ⟨rfl, rfl, rfl⟩ := trodAll_nil r2
  obtain rfl : args = #[v0, v1, v2] := by cases args; simp_all
  obtain ⟨rfl, rfl⟩ := trodVars_none hV
  obtain ⟨Au, u, cu, rfl, rdu, iu, lcu, lmu⟩ := open_nums Try.underlying22 Try.underlying2 cells_i64' (hval 0 22 v0 rfl rfl) h0
  obtain ⟨Ax, x, cx, rfl, rdx, ix, lcx, lmx⟩ := open_nums Try.underlying22 Try.underlying2 cells_i64' (hval 1 22 v1 rfl rfl) h1
  obtain ⟨b, rfl, rfl, rfl, w2⟩ := open_int Try.underlying2 (hval 2 2 v2 rfl rfl) h2
  clear hA0 hval0
  refine (walk Au u cu Ax x cx b W rdu (fun x hx => I64.of_wf (iu x hx)) lcu lmu rdx (fun x hx => I64.of_wf (ix x hx)) lcx lmx (I64.of_wf w2)).mono fun e W' ⟨he, hb⟩ => ?_
  subst he
  exact ⟨_, rfl, law_post laid (fun t ht => law_types t ht) rfl hW' ⟨rfl, rfl, rfl⟩ (by kernel_rfl) Try.underlying4 hb⟩

theorem over : Rows.linearGrowsRow.holds Try.pinned (OpenSpec.ofChange Rows.linearGrowsSpec) :=
  OpenClaim.holds_of_wide 7 Try.f7 rfl rfl rfl rfl rfl rfl rfl ⟨rfl, rfl, rfl, rfl, rfl⟩ rfl rfl rfl rfl rfl (by kernel_rfl) Try.func7 (by kernel_rfl)
    (of_decide_eq_true (by kernel_rfl)) (by unfold Func.isWrapper; first | (rw [if_pos (by decide +kernel)]; kernel_rfl) | (rw [if_neg (by decide +kernel)]; exact ⟨rfl, rfl⟩))
    (fun os started H enc _ => lifted os started H enc)

theorem proved : Rows.LinearGrowsSaid := over
end Go.Proofs.Ytcjkofcgphcjnaa.LinearGrows
