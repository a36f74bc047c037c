
/-
  LinearBase answers true for every input. No condition.
-/
import Derived.Test.YtcjkofcgphcjnaaGe
import Derived.Test.YtcjkofcgphcjnaaGc
import Derived.Test.YtcjkofcgphcjnaaGa
namespace Go.Proofs.Ytcjkofcgphcjnaa.LinearBase
open Go.ChangeShapes Go.WideShapes Go.ChangeAt Go.RowKit
set_option maxHeartbeats 400000
set_option linter.unusedVariables false
open Go.Proofs.Ytcjkofcgphcjnaa
theorem lbase_mod (b : Int) : ∃ c : Int, Hid (b.tmod 1099511627776 = c) ∧ c.natAbs ≤ 1099511627776 ∧ I64 c := by
  have h1 := Int.lt_tmod_of_pos b (show (0 : Int) < 1099511627776 by decide)
  have h2 := Int.tmod_lt_of_pos b (show (0 : Int) < 1099511627776 by decide)
  exact ⟨_, hid rfl, by omega, by unfold I64; omega⟩
theorem lbase_abs {x : Int} (h1 : ¬ x > 1099511627776) (h2 : ¬ x < -1099511627776) : x.natAbs ≤ 1099511627776 := by omega
theorem lbase_abs2 {x : Int} (h1 : ¬ x > 32768) (h2 : ¬ x < -32768) : x.natAbs ≤ 32768 := by omega
theorem lbase_abs3 {x : Int} (h1 : ¬ x > 1152921504606846976) (h2 : ¬ x < -1152921504606846976) : x.natAbs ≤ 1152921504606846976 := by omega
theorem lbase_add {x c : Int} (h1 : x.natAbs ≤ 1152921504606846976) (h2 : c.natAbs ≤ 1099511627776) : ∃ y, x + c = y ∧ IntKind.i64.wrap (x + c) = y ∧ wrap64 (x + c) = y := ⟨x + c, rfl, Go.IntWalk.i64_in _ (by omega), Go.IntWalk.wrap64_in _ (by omega)⟩
theorem lbase_add_i64 {x c : Int} (h1 : x.natAbs ≤ 1152921504606846976) (h2 : c.natAbs ≤ 1099511627776) : I64 (x + c) := by unfold I64; omega
theorem lbase_small {x c : Int} (h1 : x.natAbs ≤ 1099511627776) (h2 : c.natAbs ≤ 1099511627776) : IntKind.i64.wrap (x + c) = x + c := Go.IntWalk.i64_in _ (by omega)
theorem lbase_upB_i64 {u : List Int} {c : Int} (hu : ∀ y ∈ u, y.natAbs ≤ 1099511627776) (hc : c.natAbs ≤ 1099511627776) : I64s (upB u c) := by
  intro x hx
  unfold upB at hx
  rcases List.mem_or_eq_of_mem_set hx with hx | rfl
  · have := hu x hx; unfold I64; omega
  · have h : (u.getD (u.length - 1) 0).natAbs ≤ 1099511627776 := by
      rw [List.getD_eq_getElem?_getD]
      cases h9 : u[u.length - 1]? with
      | none => simp
      | some y => exact hu y (List.mem_of_getElem? h9)
    unfold I64; omega
theorem lbase_all {l : List SmpV} {k : Nat} {s : SmpV} {P : SmpV → Prop} (h : ∀ x ∈ l.take k, P x) (hs : l[k]? = some s) (hp : P s) : ∀ x ∈ l.take (k + 1), P x := by
  rw [List.take_add_one, hs]
  intro x hx
  rcases List.mem_append.1 hx with hx | hx
  · exact h x hx
  · simp at hx; subst hx; exact hp
theorem lbase_ints {l : List Int} {k : Nat} {s : Int} {P : Int → Prop} (h : ∀ x ∈ l.take k, P x) (hs : l[k]? = some s) (hp : P s) : ∀ x ∈ l.take (k + 1), P x := by
  rw [List.take_add_one, hs]
  intro x hx
  rcases List.mem_append.1 hx with hx | hx
  · exact h x hx
  · simp at hx; subst hx; exact hp
/-- Small enough. -/
def lbaseS (s : SmpV) : Prop := s.Y.natAbs ≤ 1152921504606846976
def lbaseX (s : SmpV) : Prop := ∀ x ∈ s.X, x.natAbs ≤ 32768
set_option maxHeartbeats 4000000 in
set_option maxRecDepth 100000 in
theorem walk (Au : Option Addr) (u : List Int) (cu : Nat) (f : Int) (Al : Option Addr) (l : List SmpV) (cl : Nat) (b : Int) (w : World)
    (ru : Rd (Value.int .i64) w w.heap.size Au u) (iu : I64s u) (lcu : u.length ≤ cu) (lmu : cu ≤ 9223372036854775807) (hf : I64 f)
    (rl : RdSm w w.heap.size Al l) (il : ∀ s ∈ l, I64s s.X ∧ I64 s.Y ∧ s.X.length ≤ 9223372036854775807) (lcl : l.length ≤ cl) (lml : cl ≤ 9223372036854775807) (hb : I64 b) :
    Calls Try.prog 8 #[.slice Au u.length cu, .int .i64 f, .slice Al l.length cl, .int .i64 b] w fun e w' => e = .returned (.bool true) ∧ Below w.heap.size w w' := by
  have hul : u.length ≤ 9223372036854775807 := by omega
  have hll : l.length ≤ 9223372036854775807 := by omega
  obtain ⟨c, hbc, hc1, hc2⟩ := lbase_mod b
  have C0 := hid (fun W h => ref_Few14 (Aw := Au) (A := Al) (cw := cu) (c := cl) u.length hul l hll W h)
  have C1 := hid (fun W h1 h2 => ln_Grad (Aw := Au) (A := Al) (cw := cu) (c := cl) u lcu lmu iu f l hll il W h1 h2)
  have C3 := hid (fun W h1 h2 => ln_Loss (Aw := Au) (A := Al) (cw := cu) (c := cl) u lcu lmu iu f l hll il W h1 h2)
  obtain ⟨m, hm⟩ : ∃ m, (l.map fun s => (⟨s.X, s.Y + c⟩ : SmpV)) = m := ⟨_, rfl⟩
  have hml : m.length = l.length := by rw [← hm, List.length_map]
  have himl : (∀ s ∈ l, lbaseS s) → ∀ s ∈ m, I64s s.X ∧ I64 s.Y ∧ s.X.length ≤ 9223372036854775807 := fun h s hs => by
    rw [← hm] at hs
    obtain ⟨r, hr, rfl⟩ := List.mem_map.1 hs
    exact ⟨(il r hr).1, lbase_add_i64 (h r hr) hc1, (il r hr).2.2⟩
  have C2 := hid (fun (hu : ∀ y ∈ u, y.natAbs ≤ 1099511627776) (hs : ∀ s ∈ l, lbaseS s) (Aw A : Option Addr) (cw c' : Nat) (h1 : (upB u c).length ≤ cw) (h2 : cw ≤ 9223372036854775807) W h3 h4 => ln_Grad (Aw := Aw) (A := A) (cw := cw) (c := c') (upB u c) h1 h2 (lbase_upB_i64 hu hc1) f m (by rw [hml]; exact hll) (himl hs) W h3 h4)
  have C4 := hid (fun (hu : ∀ y ∈ u, y.natAbs ≤ 1099511627776) (hs : ∀ s ∈ l, lbaseS s) (Aw A : Option Addr) (cw c' : Nat) (h1 : (upB u c).length ≤ cw) (h2 : cw ≤ 9223372036854775807) W h3 h4 => ln_Loss (Aw := Aw) (A := A) (cw := cw) (c := c') (upB u c) h1 h2 (lbase_upB_i64 hu hc1) f m (by rw [hml]; exact hll) (himl hs) W h3 h4)
  have HT := hid (fun (h1 : ∀ y ∈ u, y.natAbs ≤ 1099511627776) (h2 : ∀ s ∈ l, lbaseX s) (h3 : ∀ s ∈ l, lbaseS s) => lin_base (w := u) (f := f) (c := c) (ls := l) h1 h2 h3 hc1)
  have hfew : fewL u.length l = true → u.length ≤ 500 ∧ l.length ≤ 100 := fun h => by
    unfold fewL at h
    simp only [Bool.and_eq_true, decide_eq_true_eq] at h
    exact h.2
  obtain ⟨F, hF⟩ : ∃ F, fewL u.length l = F := ⟨_, rfl⟩
  obtain ⟨V, hV⟩ : ∃ V, lgV u f l = V := ⟨_, rfl⟩
  obtain ⟨E, hE⟩ : ∃ E, lgE u f l = E := ⟨_, rfl⟩
  obtain ⟨Z, hZ⟩ : ∃ Z, lsV u f l = Z := ⟨_, rfl⟩
  obtain ⟨G, hG⟩ : ∃ G, lsE u f l = G := ⟨_, rfl⟩
  have hupl := upB_len u c
  rw [hm] at HT
  rw [hF] at C0 hfew
  rw [hV, hE] at C1 HT
  rw [hZ, hG] at C3 HT
  rw [hml, hupl] at C2 C4
  obtain ⟨U, hU⟩ : ∃ U, u.length = U := ⟨_, rfl⟩
  obtain ⟨M, hM⟩ : ∃ M, l.length = M := ⟨_, rfl⟩
  rw [hU] at C0 C1 C2 C3 C4 hfew hupl ⊢
  rw [hM] at C0 C1 C2 C3 C4 hfew hml ⊢
  have HU := hid hU
  have HML := hid hM
  have HMM := hid hml
  have HMD := hid hm
  have HUP := hid hupl
  have HC1 := hid hc1
  have RU := hid ru
  have RL := hid rl
  have HIL := hid il
  clear hF hV hE hZ hG hM hml hm hupl hc1 hc2 himl ru rl il iu lcl lml lcu hf hul hll hU hb
  cases F with
  | false =>
    go_enter Try.func8, Try.ntmps8
    go_wp2_with fail
    refine (ln_live _).mono ?_
    rintro _ w1 ⟨rfl, h1⟩
    have K1 := hid h1
    clear h1
    go_wp2_with fail
    refine (C0.out _ (RL.out.on K1.out)).mono ?_
    rintro _ w2 ⟨rfl, h2⟩
    have K2 : Hid (Below w.heap.size w w2) := hid (K1.out.trans (h2.mono K1.out.size))
    clear h2
    go_wp2_with fail
    go_ret
    exact ⟨rfl, K2.out⟩
  | true =>
    obtain ⟨hu5, hl1⟩ := hfew rfl
    have HL1 := hid hl1
    have HU5 := hid hu5
    clear hfew
    go_enter Try.func8, Try.ntmps8
    go_wp2_with fail
    refine (ln_live _).mono ?_
    rintro _ w1 ⟨rfl, h1⟩
    have K1 := hid h1
    clear h1
    go_wp2_with fail
    refine (C0.out _ (RL.out.on K1.out)).mono ?_
    rintro _ w2 ⟨rfl, h2⟩
    have K2 : Hid (Below w.heap.size w w2) := hid (K1.out.trans (h2.mono K1.out.size))
    clear h2 C0
    by_cases hU0 : U = 0
    · have t0 : ((U : Int) == 0) = true := by rw [hU0]; rfl
      clear hU0
      go_wp2_with fail
      go_ret
      exact ⟨rfl, K2.out⟩
    · obtain ⟨j, rfl⟩ : ∃ j, U = j + 1 := ⟨U - 1, by omega⟩
      have t0 : (((j + 1 : Nat) : Int) == 0) = false := beq_eq_false_iff_ne.2 (by omega)
      have hw1 : IntKind.i64.wrap (((j + 1 : Nat) : Int) - 1) = (j : Int) := by rw [Go.IntWalk.i64_in _ (by omega)]; omega
      have hjj : (j : Int) < ((j + 1 : Nat) : Int) := by omega
      have bm := hbc.out
      have RU2 := RU.out.on K2.out
      obtain ⟨y, hy⟩ : ∃ y, u[j]? = some y := ⟨_, List.getElem?_eq_getElem (by rw [HU.out]; omega)⟩
      have HYU := hid hy
      obtain ⟨y2, hy2⟩ : ∃ y2, IntKind.i64.wrap (y + c) = y2 := ⟨_, rfl⟩
      have HY2 := hid hy2
      clear hy hU0
      go_wp2_with (at_builtin; refine wpList_app (Value.int .i64) (fun _ => rfl) _ rfl _ _ 22 rfl w2.heap.size 2 (.int .i64 0) 8 Try.underlying22 info_i64 rfl [] none 0 rfl (own_nil _ _ _) u Au cu _ (by rw [HU.out]; rfl) RU2 (by have := HU.out; simp [maxLen]; omega) (by have := HU.out; simp; omega) (Nat.le_refl _) ?_)
      rintro S A3 c3 w3 hS ho3 hb3 _
      replace hS : S = u := by simpa using hS
      subst hS
      obtain ⟨g, rfl, hg, hc, hfz⟩ := own_cellk ho3 (k := j) (by rw [HU.out]; omega)
      rw [getD_of HYU.out] at hc
      have hst := (ho3.stored j (.int .i64 y2)).1
      rw [← List.map_set, HU.out] at hst
      rw [HU.out]
      obtain ⟨wa, hwa⟩ : ∃ wa, w3.setCell ⟨g, j, none⟩ (.int .i64 y2) = wa := ⟨_, rfl⟩
      rw [hwa] at hst
      have HST := hid hst
      have KA : Hid (Below w.heap.size w wa) := hid (by rw [← hwa]; exact (K2.out.trans (hb3.mono K2.out.size)).setCell (Nat.le_trans K2.out.size hg) _)
      have hza := KA.out.size
      have hMb : M ≤ 9223372036854775807 := by omega
      clear ho3 hst hb3 hg bm RU2
      go_wp2_with fail
      clear hwa hc hfz hw1 hy2 t0 hMb hjj
      go_loopw [11, 13, 56] (fun xb _ xi wv => ∃ (k : Nat) (A2 : Option Addr) (c2 : Nat), k ≤ M ∧ xi = .int .i64 (k : Int) ∧ xb = .slice A2 k c2 ∧ OwnSm wv w.heap.size wa.heap.size A2 c2 (m.take k) ∧ (∀ x ∈ l.take k, lbaseS x) ∧ Below wa.heap.size wa wv) (fun _ _ xi _ => M - (intOf xi).toNat)
      case atStart => exact ⟨0, none, 0, Nat.zero_le _, rfl, rfl, OwnSm.nil _ _ _, fun x hx => by simp at hx, Below.refl _ _⟩
      case round =>
        obtain ⟨k, A2, c2, hk, rfl, rfl, ho, ha, hbel⟩ := hrel
        have HO := hid ho
        have HA := hid ha
        have HB := hid hbel
        have KR : Hid (Below w.heap.size w wr) := hid (KA.out.trans (hbel.mono KA.out.size))
        clear ho ha
        by_cases hlt : k < M
        · obtain ⟨b1, o1, s, Ax, cx, rfl, l1, en, g0, g1, rx⟩ := (RL.out.below KR.out).at_ (k := k) (by rw [HML.out]; exact hlt)
          have hz1 := KR.out.size
          have HEN := hid en
          have HRX := hid rx
          obtain ⟨w5, hw5⟩ : ∃ w5, wr.alloc (.cells #[.slice Ax s.X.length cx, .int .i64 s.Y] 24) = w5 := ⟨_, rfl⟩
          have kb5 : Below wr.heap.size wr w5 := by rw [← hw5]; exact ln_grow _ _
          have z5 : w5.heap.size = wr.heap.size + 1 := by rw [← hw5]; simp
          have m0 : w5.cell? ⟨wr.heap.size, 0, none⟩ = some (.slice Ax s.X.length cx) := by rw [← hw5]; simp [go_sem]
          have m1 : w5.cell? ⟨wr.heap.size, 1, none⟩ = some (.int .i64 s.Y) := by rw [← hw5]; simp [go_sem]
          have hmk : Hid (m.take (k + 1) = m.take k ++ [⟨s.X, s.Y + c⟩]) := hid (by
            rw [List.take_add_one, ← HMD.out, List.getElem?_map, en]
            rfl)
          obtain ⟨X, hXl⟩ : ∃ X, s.X.length = X := ⟨_, rfl⟩
          obtain ⟨Y, hYl⟩ : ∃ Y, s.Y = Y := ⟨_, rfl⟩
          rw [hXl] at g0 m0 hw5
          rw [hYl] at g1 m1 hw5 hmk
          have HXX := hid hXl
          have HYY := hid hYl
          have KK5 := hid (KR.out.trans (kb5.mono KR.out.size))
          have HB5 : Hid (Below wa.heap.size wa w5) := hid (HB.out.trans (kb5.mono HB.out.size))
          have HO5 := hid (HO.out.on hz1 kb5)
          have HRX5 := hid (HRX.out.below (kb5.mono hz1))
          have hz5 : wa.heap.size ≤ w5.heap.size := by have := HB.out.size; omega
          clear en rx hXl hYl kb5 hbel z5
          by_cases hY1 : Y > 1152921504606846976
          · have hop : ∀ t, binOp .gtr t (.int .i64 Y) (.int .i64 1152921504606846976) = pure (.bool true) := fun t => by rw [binOp_gtr, decide_eq_true hY1]
            clear hY1
            go_wp2_with fail
            go_ret
            exact ⟨rfl, KK5.out⟩
          · have hop : ∀ t, binOp .gtr t (.int .i64 Y) (.int .i64 1152921504606846976) = pure (.bool false) := fun t => by rw [binOp_gtr, decide_eq_false hY1]
            by_cases hY2 : Y < -1152921504606846976
            · have hop2 : ∀ t, binOp .lss t (.int .i64 Y) (.int .i64 (-1152921504606846976)) = pure (.bool true) := fun t => by rw [binOp_lss, decide_eq_true hY2]
              clear hY1 hY2
              go_wp2_with fail
              go_ret
              exact ⟨rfl, KK5.out⟩
            · have hop2 : ∀ t, binOp .lss t (.int .i64 Y) (.int .i64 (-1152921504606846976)) = pure (.bool false) := fun t => by rw [binOp_lss, decide_eq_false hY2]
              have HY := hid (lbase_abs3 hY1 hY2)
              obtain ⟨Yc, e1, e2, e3⟩ := lbase_add HY.out HC1.out
              rw [e1] at hmk
              obtain ⟨w6, hw6⟩ : ∃ w6, w5.alloc (.cells #[.slice Ax X cx, .int .i64 Yc] 24) = w6 := ⟨_, rfl⟩
              have kb6 : Below w5.heap.size w5 w6 := by rw [← hw6]; exact ln_grow _ _
              have n0 : w6.cell? ⟨w5.heap.size, 0, none⟩ = some (.slice Ax s.X.length cx) := by rw [← hw6, HXX.out]; simp [go_sem]
              have n1 : w6.cell? ⟨w5.heap.size, 1, none⟩ = some (.int .i64 Yc) := by rw [← hw6]; simp [go_sem]
              have HO6 := HO5.out.on KK5.out.size kb6
              have RX6 := HRX5.out.below (kb6.mono KK5.out.size)
              have hLk : (m.take k).length = k := by rw [List.length_take, HMM.out]; omega
              obtain ⟨L, hL⟩ : ∃ L, m.take k = L := ⟨_, rfl⟩
              have HNX2 : Hid (m.take (k + 1) = L ++ [⟨s.X, Yc⟩]) := hid (by rw [hmk.out, hL])
              rw [hL] at hLk HO6
              have HLK := hid hLk
              have hz6 : wa.heap.size ≤ w6.heap.size := Nat.le_trans hz5 kb6.size
              have HB6 : Hid (Below wa.heap.size wa w6) := hid (HB5.out.trans (kb6.mono hz5))
              have HKM := hid hlt
              clear hY1 hY2 e1 kb6 hLk hL hmk
              go_wp2_with (at_builtin; refine wpList_appS _ rfl _ _ rfl (ls := L) (by rw [HLK.out]; rfl) HO6 hza w5.heap.size 1 rfl ⟨s.X, Yc⟩ n0 n1 RX6 (by rw [HLK.out]; have := HL1.out; omega) hz6 ?_)
              rintro A7 c7 w7 ho7 hb7 _
              rw [HLK.out]
              rw [← HNX2.out] at ho7
              have HO7 := hid ho7
              have HB7 : Hid (Below wa.heap.size wa w7) := hid (HB6.out.trans hb7)
              clear ho7 hb7 n0 n1 m0 m1 g0 g1 hop hop2 e2 e3 hw5 hw6 HO6 RX6 hz5 hz6 hz1
              go_wp2_with fail
              go_roundw
              case rel => exact ⟨k + 1, A7, c7, HKM.out, by go_num, rfl, HO7.out, lbase_all HA.out HEN.out (by have := HY.out; unfold lbaseS; rw [HYY.out]; exact this), HB7.out⟩
              case measure => have := HKM.out; simp [intOf]; omega
        · obtain rfl : k = M := by omega
          have HSA : Hid (∀ x ∈ l, lbaseS x) := hid (by have := HA.out; rwa [List.take_of_length_le (by rw [HML.out]; exact Nat.le_refl _)] at this)
          have ho := HO.out
          rw [List.take_of_length_le (by rw [HMM.out]; exact Nat.le_refl _)] at ho
          have RB := hid (ho.rd KR.out.size)
          have RO := hid (own_rd (xs := S.set j y2) (by rw [List.length_set, HU.out]; exact HST.out))
          have RO2 := hid ((RO.out.below HB.out).more HB.out.size)
          have hcap := own_cap HST.out
          have HCAP := hid hcap
          clear ho HO HA hbel hlt hk hcap
          have hju : j + 1 ≤ 9223372036854775807 := by omega
          go_wp2_with fail
          go_loopw [15, 82] (fun _ xi wv => ∃ i : Nat, i ≤ j + 1 ∧ xi = .int .i64 (i : Int) ∧ (∀ y ∈ S.take i, y.natAbs ≤ 1099511627776) ∧ wv = wr) (fun _ xi _ => j + 1 - (intOf xi).toNat)
          case atStart => exact ⟨0, Nat.zero_le _, rfl, fun y hy => by simp at hy, rfl⟩
          case round =>
            obtain ⟨i, hi, rfl, ha, rfl⟩ := hrel
            have HA := hid ha
            clear ha
            by_cases hlt : i < j + 1
            · obtain ⟨b1, o1, y, rfl, l1, en, d1⟩ := (RU.out.on KR.out).at_ (k := i) (by rw [HU.out]; exact hlt)
              have HEN := hid en
              clear en
              by_cases h1 : y > 1099511627776
              · have hop : ∀ t, binOp .gtr t (.int .i64 y) (.int .i64 1099511627776) = pure (.bool true) := fun t => by rw [binOp_gtr, decide_eq_true h1]
                clear h1
                go_wp2_with fail
                go_ret
                exact ⟨rfl, KR.out⟩
              · have hop : ∀ t, binOp .gtr t (.int .i64 y) (.int .i64 1099511627776) = pure (.bool false) := fun t => by rw [binOp_gtr, decide_eq_false h1]
                by_cases h2 : y < -1099511627776
                · have hop2 : ∀ t, binOp .lss t (.int .i64 y) (.int .i64 (-1099511627776)) = pure (.bool true) := fun t => by rw [binOp_lss, decide_eq_true h2]
                  clear h1 h2
                  go_wp2_with fail
                  go_ret
                  exact ⟨rfl, KR.out⟩
                · have hop2 : ∀ t, binOp .lss t (.int .i64 y) (.int .i64 (-1099511627776)) = pure (.bool false) := fun t => by rw [binOp_lss, decide_eq_false h2]
                  have HY := hid (lbase_abs h1 h2)
                  clear h1 h2
                  go_wp2_with fail
                  go_roundw
                  case rel => exact ⟨i + 1, hlt, by go_num, lbase_ints HA.out HEN.out HY.out, by trivial⟩
                  case measure => simp [intOf]; omega
            · obtain rfl : i = j + 1 := by omega
              have HUA : Hid (∀ y ∈ S, y.natAbs ≤ 1099511627776) := hid (by have := HA.out; rwa [List.take_of_length_le (by rw [HU.out]; exact Nat.le_refl _)] at this)
              have HOB : Hid (S.set j y2 = upB S c) := hid (by
                unfold upB
                rw [HU.out, show j + 1 - 1 = j by omega, getD_of HYU.out, ← HY2.out, lbase_small (HUA.out _ (List.mem_of_getElem? HYU.out)) HC1.out])
              have hkb : k ≤ 9223372036854775807 := by have := HL1.out; omega
              clear HA hlt hi hju
              generalize wr = wo at *
              go_wp2_with fail
              go_loopw [17, 19, 96] (fun _ _ xi wv => ∃ i : Nat, i ≤ k ∧ xi = .int .i64 (i : Int) ∧ (∀ s ∈ l.take i, lbaseX s) ∧ Below wo.heap.size wo wv) (fun _ _ xi _ => k - (intOf xi).toNat)
              case atStart => exact ⟨0, Nat.zero_le _, rfl, fun y hy => by simp at hy, Below.refl _ _⟩
              case round =>
                obtain ⟨i, hi, rfl, ha, hbel⟩ := hrel
                have HA := hid ha
                have HBO := hid hbel
                have KV : Hid (Below w.heap.size w wr) := hid (KR.out.trans (hbel.mono KR.out.size))
                clear ha hbel
                by_cases hlt : i < k
                · obtain ⟨b1, o1, s, Ax, cx, rfl, l1, en, g0, g1, rx⟩ := (RL.out.below KV.out).at_ (k := i) (by rw [HML.out]; exact hlt)
                  have hz1 := KV.out.size
                  have HEN := hid en
                  obtain ⟨w5, hw5⟩ : ∃ w5, wr.alloc (.cells #[.slice Ax s.X.length cx, .int .i64 s.Y] 24) = w5 := ⟨_, rfl⟩
                  have kb5 : Below wr.heap.size wr w5 := by rw [← hw5]; exact ln_grow _ _
                  have m0 : w5.cell? ⟨wr.heap.size, 0, none⟩ = some (.slice Ax s.X.length cx) := by rw [← hw5]; simp [go_sem]
                  have KK5 := hid (KV.out.trans (kb5.mono KV.out.size))
                  have HB5 : Hid (Below wo.heap.size wo w5) := hid (HBO.out.trans (kb5.mono HBO.out.size))
                  have RX5 := hid ((rx.below (kb5.mono hz1)).more KK5.out.size)
                  have hXb := (HIL.out s (List.mem_of_getElem? en)).2.2
                  obtain ⟨X, hXl⟩ : ∃ X, s.X.length = X := ⟨_, rfl⟩
                  obtain ⟨Y, hYl⟩ : ∃ Y, s.Y = Y := ⟨_, rfl⟩
                  rw [hXl] at g0 m0 hw5 hXb
                  rw [hYl] at g1 hw5
                  have HXX := hid hXl
                  have HKM := hid hlt
                  clear en rx hXl hYl kb5 hlt hi
                  go_wp2_with fail
                  clear m0 g0 g1 hw5 hz1 l1
                  generalize wr = wp at *
                  go_loopw [19, 103] (fun _ xi wv => ∃ q : Nat, q ≤ X ∧ xi = .int .i64 (q : Int) ∧ (∀ y ∈ s.X.take q, y.natAbs ≤ 32768) ∧ wv = w5) (fun _ xi _ => X - (intOf xi).toNat)
                  case atStart => exact ⟨0, Nat.zero_le _, rfl, fun y hy => by simp at hy, rfl⟩
                  case round =>
                    obtain ⟨q, hq, rfl, hja, rfl⟩ := hrel
                    have HJA := hid hja
                    clear hja
                    by_cases hlt : q < X
                    · obtain ⟨b5, o5, y, rfl, l5, ey, d5⟩ := RX5.out.at_ (k := q) (by rw [HXX.out]; exact hlt)
                      have HEY := hid ey
                      clear ey
                      by_cases h1 : y > 32768
                      · go_wp2_with fail
                        go_ret
                        exact ⟨rfl, KK5.out⟩
                      · by_cases h2 : y < -32768
                        · go_wp2_with fail
                          go_ret
                          exact ⟨rfl, KK5.out⟩
                        · have HYa := hid (lbase_abs2 h1 h2)
                          go_wp2_with fail
                          go_roundw
                          case rel => exact ⟨q + 1, hlt, by go_num, lbase_ints HJA.out HEY.out HYa.out, by trivial⟩
                          case measure => (try clear h1 h2); simp [intOf]; omega
                    · obtain rfl : q = X := by omega
                      have HXA : Hid (lbaseX s) := hid (by unfold lbaseX; have := HJA.out; rwa [List.take_of_length_le (by rw [HXX.out]; exact Nat.le_refl _)] at this)
                      have hkM := HKM.out
                      clear hlt hq HJA
                      go_wp2_with fail
                      go_roundw
                      case rel => exact ⟨i + 1, HKM.out, by go_num, lbase_all HA.out HEN.out HXA.out, HB5.out⟩
                      case measure => simp [intOf]; omega
                · obtain rfl : i = k := by omega
                  have HXA : ∀ s ∈ l, lbaseX s := by have := HA.out; rwa [List.take_of_length_le (by rw [HML.out]; exact Nat.le_refl _)] at this
                  obtain ⟨t1, t2, t3, t4⟩ := HT.out HUA.out HXA HSA.out
                  have hro := RO2.out
                  rw [HOB.out] at hro
                  have HRO := hid hro
                  have D2 := hid (fun W (h : Below wr.heap.size wr W) => C2.out HUA.out HSA.out _ A2 c3 c2 HCAP.out.1 HCAP.out.2 W ((HRO.out.on HBO.out).on h) ((RB.out.on HBO.out).on h))
                  have D4 := hid (fun W (h : Below wr.heap.size wr W) => C4.out HUA.out HSA.out _ A2 c3 c2 HCAP.out.1 HCAP.out.2 W ((HRO.out.on HBO.out).on h) ((RB.out.on HBO.out).on h))
                  rw [t1, t2] at D2
                  rw [t3, t4] at D4
                  clear t1 t2 t3 t4 HXA HT hlt hi C2 C4 hro
                  go_wp2_with fail
                  refine (C1.out _ (RU.out.on KV.out) (RL.out.on KV.out)).mono ?_
                  rintro _ w4 ⟨A4, c4, rfl, ho4, h4⟩
                  have J4 := hid h4
                  have R4 := hid (own_rd ho4)
                  have hcv := own_cap ho4
                  clear h4 ho4
                  go_wp2_with fail
                  refine (D2.out _ J4.out).mono ?_
                  rintro _ w5 ⟨A5, c5, rfl, ho5, h5⟩
                  have J5 : Hid (Below wr.heap.size wr w5) := hid (J4.out.trans (h5.mono J4.out.size))
                  have K5 : Hid (Below w.heap.size w w5) := hid (KV.out.trans (J5.out.mono KV.out.size))
                  have R5 := hid (own_rd ho5)
                  have R4' := hid (R4.out.on h5)
                  clear h5 ho5
                  go_wp2_with fail
                  refine (C3.out _ (RU.out.on K5.out) (RL.out.on K5.out)).mono ?_
                  rintro _ w6 ⟨rfl, h6⟩
                  have J6 : Hid (Below wr.heap.size wr w6) := hid (J5.out.trans (h6.mono J5.out.size))
                  have L6 : Hid (Below w5.heap.size w5 w6) := hid h6
                  clear h6
                  go_wp2_with fail
                  refine (D4.out _ J6.out).mono ?_
                  rintro _ w7 ⟨rfl, h7⟩
                  have L7 : Hid (Below w5.heap.size w5 w7) := hid (L6.out.trans (h7.mono L6.out.size))
                  have K7 : Hid (Below w.heap.size w w7) := hid (K5.out.trans (L7.out.mono K5.out.size))
                  have CS := hid (ln_rsame (A := A4) (B := A5) (c := c4) (d := c5) V (by omega) w7 (R4'.out.on L7.out) (R5.out.on L7.out))
                  clear h7 R4 R4' R5 hcv
                  go_wp2_with fail
                  refine CS.out.mono ?_
                  rintro _ w8 ⟨rfl, h8⟩
                  have K8 : Hid (Below w.heap.size w w8) := hid (K7.out.trans (h8.mono K7.out.size))
                  clear h8
                  go_wp2_with fail
                  go_ret
                  exact ⟨rfl, K8.out⟩
theorem law_types : ∀ t ∈ Try.f8.params.toList, Try.prog.readableRec t = true ∧ t < Try.prog.types.size := by
  have h : (Try.f8.params.toList.all fun t => Try.prog.readableRec t && decide (t < Try.prog.types.size)) = true := by kernel_rfl
  intro t ht
  simpa using List.all_eq_true.1 h t ht
set_option maxRecDepth 100000 in
theorem lifted (os : Os) (started : os.Started) (H : Type) (enc : TypeId × Value → H) :
    ReturnsInHanded {} Try.checked os 8 .any (Rows.linearBaseSpec.pre6 enc Try.prog Try.f8 Rows.linearBaseRow.domain false) (Rows.linearBaseSpec.post enc Try.prog Try.f8 false true false false) := by
  refine returnsInHanded_of_change (C := Try.checked) own started (by kernel_rfl) Try.func8
    (ChangeSpec.witness6 (enc := enc) (C := Try.checked) false ⟨#[], #[.slice none 0 0, .int .i64 0, .slice none 0 0, .int .i64 0], []⟩ 8 (by kernel_rfl) (by kernel_rfl) (by kernel_rfl) (by kernel_rfl)) ?_
  intro W base args ds gs before hval0 hW hcnd _
  have hval : ∀ (j : Nat) t v, Try.f8.params[j]? = some t → args[j]? = some v → Value.okWide Try.prog W .any base t v := hval0
  have hW' := hW
  obtain ⟨p, q, hA0, hV, rfl, hfz, hnd⟩ := hW
  have hA : DataW.TrodAll enc Try.prog W 0 (fun _ => true) true Try.f8.params.toList args.toList ds p := hA0
  rw [Try.params8] at hA hval
  obtain ⟨v0, vs0, d0, ds0, p0, q0, hargs, rfl, rfl, h0, r0⟩ := trodAll_cons hA
  obtain ⟨v1, vs1, d1, ds1, p1, q1, rfl, rfl, rfl, h1, r1⟩ := trodAll_cons r0
  obtain ⟨v2, vs2, d2, ds2, p2, q2, rfl, rfl, rfl, h2, r2⟩ := trodAll_cons r1
  obtain ⟨v3, vs3, d3, ds3, p3, q3, rfl, rfl, rfl, h3, r3⟩ := trodAll_cons r2
  obtain ⟨rfl, rfl, rfl⟩ := trodAll_nil r3
  obtain rfl : args = #[v0, v1, v2, v3] := by cases args; simp_all
  obtain ⟨rfl, rfl⟩ := trodVars_none hV
  obtain ⟨Au, u, cu, rfl, rdu, iu, lcu, lmu⟩ := open_nums Try.underlying22 Try.underlying2 cells_i64' (hval 0 22 v0 rfl rfl) h0
  obtain ⟨f, rfl, rfl, rfl, w1⟩ := open_int Try.underlying3 (hval 1 3 v1 rfl rfl) h1
  obtain ⟨Al, l, cl, rfl, rdl, il, lcl, lml⟩ := open_smps (hval 2 39 v2 rfl rfl) h2
  obtain ⟨b, rfl, rfl, rfl, w3⟩ := open_int Try.underlying2 (hval 3 2 v3 rfl rfl) h3
  clear hA0 hval0
  refine (walk Au u cu f Al l cl b W rdu (fun x hx => I64.of_wf (iu x hx)) lcu lmu (I64.of_wf w1) rdl il lcl lml (I64.of_wf w3)).mono fun e W' ⟨he, hb⟩ => ?_
  subst he
  exact ⟨_, rfl, law_post laid (fun t ht => law_types t ht) rfl hW' ⟨rfl, rfl, rfl⟩ (by kernel_rfl) Try.underlying4 hb⟩

theorem over : Rows.linearBaseRow.holds Try.pinned (OpenSpec.ofChange Rows.linearBaseSpec) :=
  OpenClaim.holds_of_wide 8 Try.f8 rfl rfl rfl rfl rfl rfl rfl ⟨rfl, rfl, rfl, rfl, rfl⟩ rfl rfl rfl rfl rfl (by kernel_rfl) Try.func8 (by kernel_rfl)
    (of_decide_eq_true (by kernel_rfl)) (by unfold Func.isWrapper; first | (rw [if_pos (by decide +kernel)]; kernel_rfl) | (rw [if_neg (by decide +kernel)]; exact ⟨rfl, rfl⟩))
    (fun os started H enc _ => lifted os started H enc)

theorem proved : Rows.LinearBaseSaid := over
end Go.Proofs.Ytcjkofcgphcjnaa.LinearBase
