
/-
  LinearTurns answers true for every input. No condition.
-/
import Derived.Test.YtcjkofcgphcjnaaGe
import Derived.Test.YtcjkofcgphcjnaaGc
import Derived.Test.YtcjkofcgphcjnaaGa
namespace Go.Proofs.Ytcjkofcgphcjnaa.LinearTurns
open Go.ChangeShapes Go.WideShapes Go.ChangeAt Go.RowKit
set_option maxHeartbeats 400000
set_option linter.unusedVariables false
open Go.Proofs.Ytcjkofcgphcjnaa
theorem turns_mod (f : Int) : ∃ (t p : Int) (K : Nat), Hid (f.tmod 17 = t ∧ IntKind.i64.wrap (t + 17) = p ∧ wrap64 (t + 17) = p ∧ p.tmod 17 = (K : Int)) ∧ K ≤ 16 := by
  have h1 := Int.lt_tmod_of_pos f (show (0 : Int) < 17 by decide)
  have h2 := Int.tmod_lt_of_pos f (show (0 : Int) < 17 by decide)
  generalize f.tmod 17 = t at *
  refine ⟨t, t + 17, ((t + 17) % 17).toNat, hid ⟨rfl, Go.IntWalk.i64_in _ (by omega), Go.IntWalk.wrap64_in _ (by omega), ?_⟩, by omega⟩
  rw [Int.tmod_eq_emod_of_nonneg (by omega)]
  omega
theorem turns_abs {x : Int} (h1 : ¬ x > 1048576) (h2 : ¬ x < -1048576) : x.natAbs ≤ 1048576 := by omega
theorem turns_abs2 {x : Int} (h1 : ¬ x > 4096) (h2 : ¬ x < -4096) : x.natAbs ≤ 4096 := by omega
theorem turns_back {k M : Nat} (h : k < M) (hM : M ≤ 100) : ∃ (q : Nat) (M1 : Int), q + k + 1 = M ∧ IntKind.i64.wrap ((M : Int) - 1) = M1 ∧ IntKind.i64.wrap (M1 - (k : Int)) = (q : Int) ∧ wrap64 ((M : Int) - 1) = M1 ∧ wrap64 (M1 - (k : Int)) = (q : Int) :=
  ⟨M - 1 - k, (M : Int) - 1, by omega, Go.IntWalk.i64_in _ (by omega), by rw [Go.IntWalk.i64_in _ (by omega)]; omega, Go.IntWalk.wrap64_in _ (by omega), by rw [Go.IntWalk.wrap64_in _ (by omega)]; omega⟩
theorem turns_rev {l : List SmpV} {k q : Nat} {s : SmpV} (h : q + k + 1 = l.length) (hs : l[q]? = some s) : l.reverse.take (k + 1) = l.reverse.take k ++ [s] := by
  rw [List.take_add_one, List.getElem?_reverse (by omega), show l.length - 1 - k = q by omega, hs]
  rfl
theorem turns_all {l : List SmpV} {k : Nat} {s : SmpV} {P : SmpV → Prop} (h : ∀ x ∈ l.take k, P x) (hs : l[k]? = some s) (hp : P s) : ∀ x ∈ l.take (k + 1), P x := by
  rw [List.take_add_one, hs]
  intro x hx
  rcases List.mem_append.1 hx with hx | hx
  · exact h x hx
  · simp at hx; subst hx; exact hp
theorem turns_ints {l : List Int} {k : Nat} {s : Int} {P : Int → Prop} (h : ∀ x ∈ l.take k, P x) (hs : l[k]? = some s) (hp : P s) : ∀ x ∈ l.take (k + 1), P x := by
  rw [List.take_add_one, hs]
  intro x hx
  rcases List.mem_append.1 hx with hx | hx
  · exact h x hx
  · simp at hx; subst hx; exact hp
/-- Small enough. -/
def smallS (s : SmpV) : Prop := s.Y.natAbs ≤ 1048576 ∧ ∀ x ∈ s.X, x.natAbs ≤ 4096
set_option maxHeartbeats 4000000 in
set_option maxRecDepth 100000 in
theorem walk (Au : Option Addr) (u : List Int) (cu : Nat) (f : Int) (Al : Option Addr) (l : List SmpV) (cl : Nat) (w : World)
    (ru : Rd (Value.int .i64) w w.heap.size Au u) (iu : I64s u) (lcu : u.length ≤ cu) (lmu : cu ≤ 9223372036854775807) (hf : I64 f)
    (rl : RdSm w w.heap.size Al l) (il : ∀ s ∈ l, I64s s.X ∧ I64 s.Y ∧ s.X.length ≤ 9223372036854775807) (lcl : l.length ≤ cl) (lml : cl ≤ 9223372036854775807) :
    Calls Try.prog 6 #[.slice Au u.length cu, .int .i64 f, .slice Al l.length cl] w fun e w' => e = .returned (.bool true) ∧ Below w.heap.size w w' := by
  have hul : u.length ≤ 9223372036854775807 := by omega
  have hll : l.length ≤ 9223372036854775807 := by omega
  obtain ⟨t, p, K, hmod, hK⟩ := turns_mod f
  have C0 := hid (fun W h => ref_Few14 (Aw := Au) (A := Al) (cw := cu) (c := cl) u.length hul l hll W h)
  have C1 := hid (fun W h1 h2 => ln_Grad (Aw := Au) (A := Al) (cw := cu) (c := cl) u lcu lmu iu (K : Int) l hll il W h1 h2)
  have C3 := hid (fun W h1 h2 => ln_Loss (Aw := Au) (A := Al) (cw := cu) (c := cl) u lcu lmu iu (K : Int) l hll il W h1 h2)
  have hlr : l.reverse.length = l.length := List.length_reverse
  have C2 := hid (fun (A : Option Addr) (c : Nat) W h1 h2 => ln_Grad (Aw := Au) (A := A) (cw := cu) (c := c) u lcu lmu iu (K : Int) l.reverse (by rw [hlr]; exact hll) (fun s hs => il s (List.mem_reverse.1 hs)) W h1 h2)
  have C4 := hid (fun (A : Option Addr) (c : Nat) W h1 h2 => ln_Loss (Aw := Au) (A := A) (cw := cu) (c := c) u lcu lmu iu (K : Int) l.reverse (by rw [hlr]; exact hll) (fun s hs => il s (List.mem_reverse.1 hs)) W h1 h2)
  have HT := hid (fun (h1 : ∀ y ∈ u, y.natAbs ≤ 1048576) (h2 : ∀ s ∈ l, smallS s) => lin_turn (w := u) (ls := l) hK h1 (fun s hs => (h2 s hs).2) (fun s hs => (h2 s hs).1))
  have hfew : fewL u.length l = true → u.length ≤ 500 ∧ l.length ≤ 100 := fun h => by
    unfold fewL at h
    simp only [Bool.and_eq_true, decide_eq_true_eq] at h
    exact h.2
  obtain ⟨F, hF⟩ : ∃ F, fewL u.length l = F := ⟨_, rfl⟩
  obtain ⟨V, hV⟩ : ∃ V, lgV u (K : Int) l = V := ⟨_, rfl⟩
  obtain ⟨E, hE⟩ : ∃ E, lgE u (K : Int) l = E := ⟨_, rfl⟩
  obtain ⟨Z, hZ⟩ : ∃ Z, lsV u (K : Int) l = Z := ⟨_, rfl⟩
  obtain ⟨G, hG⟩ : ∃ G, lsE u (K : Int) l = G := ⟨_, rfl⟩
  rw [hF] at C0 hfew
  rw [hV, hE] at C1 HT
  rw [hZ, hG] at C3 HT
  rw [hlr] at C2 C4
  obtain ⟨U, hU⟩ : ∃ U, u.length = U := ⟨_, rfl⟩
  obtain ⟨M, hM⟩ : ∃ M, l.length = M := ⟨_, rfl⟩
  rw [hU] at C0 C1 C2 C3 C4 hfew ⊢
  rw [hM] at C0 C1 C2 C3 C4 hfew hlr ⊢
  have HU := hid hU
  have HML := hid hM
  have HLR := hid hlr
  have RU := hid ru
  have RL := hid rl
  have HIL := hid il
  clear hF hV hE hZ hG hM hlr ru rl il iu lcl lml lcu hf hul hll hU
  cases F with
  | false =>
    go_enter Try.func6, Try.ntmps6
    go_wp2_with fail
    refine (ln_live _).mono ?_
    rintro _ w1 ⟨rfl, h1⟩
    have K1 := hid h1
    clear h1
    go_wp2_with fail
    refine (C0.out _ (RL.out.on K1.out)).mono ?_
    rintro _ w2 ⟨rfl, h2⟩
    have K2 : Hid (Below w.heap.size w w2) := hid (K1.out.trans (h2.mono K1.out.size))
    clear h2
    go_wp2_with fail
    go_ret
    exact ⟨rfl, K2.out⟩
  | true =>
    obtain ⟨hu5, hl1⟩ := hfew rfl
    have HL1 := hid hl1
    clear hfew
    go_enter Try.func6, Try.ntmps6
    go_wp2_with fail
    refine (ln_live _).mono ?_
    rintro _ w1 ⟨rfl, h1⟩
    have K1 := hid h1
    clear h1
    go_wp2_with fail
    refine (C0.out _ (RL.out.on K1.out)).mono ?_
    rintro _ w2 ⟨rfl, h2⟩
    have K2 : Hid (Below w.heap.size w w2) := hid (K1.out.trans (h2.mono K1.out.size))
    have HUM : Hid (U ≤ 9223372036854775807) := hid (by omega)
    have hUM := HUM.out
    clear h2 C0 hu5
    go_wp2_with fail
    go_loopw [9, 33] (fun _ xi wr => ∃ j : Nat, j ≤ U ∧ xi = .int .i64 (j : Int) ∧ (∀ y ∈ u.take j, y.natAbs ≤ 1048576) ∧ wr = w2) (fun _ xi _ => U - (intOf xi).toNat)
    case atStart => exact ⟨0, Nat.zero_le _, rfl, fun y hy => by simp at hy, rfl⟩
    case round =>
      obtain ⟨j, hj, rfl, ha, rfl⟩ := hrel
      have HA := hid ha
      clear ha
      by_cases hlt : j < U
      · obtain ⟨b1, o1, y, rfl, l1, en, d1⟩ := (RU.out.on K2.out).at_ (k := j) (by rw [HU.out]; exact hlt)
        have HEN := hid en
        clear en
        by_cases h1 : y > 1048576
        · go_wp2_with fail
          go_ret
          exact ⟨rfl, K2.out⟩
        · by_cases h2 : y < -1048576
          · go_wp2_with fail
            go_ret
            exact ⟨rfl, K2.out⟩
          · have HY := hid (turns_abs h1 h2)
            go_wp2_with fail
            go_roundw
            case rel => exact ⟨j + 1, hlt, by go_num, turns_ints HA.out HEN.out HY.out, by trivial⟩
            case measure => (try clear h1 h2); simp [intOf]; omega
      · obtain rfl : j = U := by omega
        have HUA : Hid (∀ y ∈ u, y.natAbs ≤ 1048576) := hid (by have := HA.out; rwa [List.take_of_length_le (by rw [HU.out]; exact Nat.le_refl _)] at this)
        clear HA hlt hj
        have hMb : M ≤ 9223372036854775807 := by omega
        generalize wr = wa at *
        have hza := K2.out.size
        go_wp2_with fail
        go_loopw [10, 11, 12, 14, 47] (fun xb _ _ _ xi wv => ∃ (k : Nat) (A2 : Option Addr) (c2 : Nat), k ≤ M ∧ xi = .int .i64 (k : Int) ∧ xb = .slice A2 k c2 ∧ OwnSm wv w.heap.size wa.heap.size A2 c2 (l.reverse.take k) ∧ (∀ x ∈ l.take k, smallS x) ∧ Below wa.heap.size wa wv) (fun _ _ _ _ xi _ => M - (intOf xi).toNat)
        case atStart => exact ⟨0, none, 0, Nat.zero_le _, rfl, rfl, OwnSm.nil _ _ _, fun x hx => by simp at hx, Below.refl _ _⟩
        case round =>
          obtain ⟨k, A2, c2, hk, rfl, rfl, ho, ha, hbel⟩ := hrel
          have HO := hid ho
          have HA := hid ha
          have HB := hid hbel
          have KR : Hid (Below w.heap.size w wr) := hid (K2.out.trans (hbel.mono K2.out.size))
          clear ho ha
          by_cases hlt : k < M
          · obtain ⟨q, M1, hq, e1, e2, e3, e4⟩ := turns_back hlt HL1.out
            have HQ := hid hq
            have hqm : q < M := by omega
            obtain ⟨b1, o1, s, Ax, cx, rfl, l1, en, g0, g1, rx⟩ := (RL.out.below KR.out).at_ (k := k) (by rw [HML.out]; exact hlt)
            obtain ⟨b2, o2, r, Ay, cy, eb, l2, er, d0, d1, ry⟩ := (RL.out.below KR.out).at_ (k := q) (by rw [HML.out]; exact hqm)
            cases eb
            have hz1 := KR.out.size
            have HEN := hid en
            have HNX := hid (turns_rev (by rw [HML.out]; exact HQ.out) er)
            have HRX := hid rx
            have HRY := hid ry
            have HXL : Hid (s.X.length ≤ 9223372036854775807) := hid ((HIL.out s (List.mem_of_getElem? en)).2.2)
            clear en er rx ry hq
            obtain ⟨w3, hw3⟩ : ∃ w3, wr.alloc (.cells #[.slice Ax s.X.length cx, .int .i64 s.Y] 24) = w3 := ⟨_, rfl⟩
            have kb3 : Below wr.heap.size wr w3 := by rw [← hw3]; exact ln_grow _ _
            have z3 : w3.heap.size = wr.heap.size + 1 := by rw [← hw3]; simp
            have m0 : w3.cell? ⟨wr.heap.size, 0, none⟩ = some (.slice Ax s.X.length cx) := by rw [← hw3]; simp [go_sem]
            have m1 : w3.cell? ⟨wr.heap.size, 1, none⟩ = some (.int .i64 s.Y) := by rw [← hw3]; simp [go_sem]
            have d0' := (kb3.cell (p := ⟨b1, o1 + q * 2, none⟩) (by show b1 < wr.heap.size; omega)).trans d0
            have d1' := (kb3.cell (p := ⟨b1, o1 + q * 2 + 1, none⟩) (by show b1 < wr.heap.size; omega)).trans d1
            obtain ⟨w4, hw4⟩ : ∃ w4, w3.alloc (.cells #[.slice Ay r.X.length cy, .int .i64 r.Y] 24) = w4 := ⟨_, rfl⟩
            have kb4 : Below w3.heap.size w3 w4 := by rw [← hw4]; exact ln_grow _ _
            have z4 : w4.heap.size = wr.heap.size + 2 := by rw [← hw4]; simp [z3]
            have n0 : w4.cell? ⟨w3.heap.size, 0, none⟩ = some (.slice Ay r.X.length cy) := by rw [← hw4]; simp [go_sem]
            have n1 : w4.cell? ⟨w3.heap.size, 1, none⟩ = some (.int .i64 r.Y) := by rw [← hw4]; simp [go_sem]
            have m0' := (kb4.cell (p := ⟨wr.heap.size, 0, none⟩) (by show wr.heap.size < w3.heap.size; omega)).trans m0
            have m1' := (kb4.cell (p := ⟨wr.heap.size, 1, none⟩) (by show wr.heap.size < w3.heap.size; omega)).trans m1
            have kk : Below wr.heap.size wr w4 := kb3.trans (kb4.mono kb3.size)
            have HO4 := HO.out.on hz1 kk
            have RY4 := HRY.out.below (kk.mono hz1)
            have HM0 := hid m0'
            have HM1 := hid m1'
            have HLi : Hid (∀ g, A2.map (·.block) = some g → g < wr.heap.size) := hid (fun g hg => (HO.out.lies g hg).2)
            have hLk : (l.reverse.take k).length = k := by rw [List.length_take, HLR.out]; omega
            obtain ⟨L, hL⟩ : ∃ L, l.reverse.take k = L := ⟨_, rfl⟩
            have HNX2 : Hid (l.reverse.take (k + 1) = L ++ [r]) := hid (by rw [HNX.out, hL])
            rw [hL] at hLk HO4
            have HLK := hid hLk
            have hza4 : wa.heap.size ≤ w4.heap.size := by have := HB.out.size; omega
            have B4 : Hid (Below wa.heap.size wa w4) := hid (HB.out.trans (kk.mono HB.out.size))
            have hz4b : wr.heap.size < w4.heap.size := by omega
            have KKH := hid (kk.mono hz1)
            clear hL kb3 kb4 z3 z4 kk hLk m0' m1' HO hbel
            go_wp2_with (at_builtin; refine wpList_appS _ rfl _ _ rfl (ls := L) (by rw [HLK.out]; rfl) HO4 hza w3.heap.size 1 rfl r n0 n1 RY4 (by rw [HLK.out]; have := HL1.out; omega) hza4 ?_)
            rintro A6 c6 w6 ho6 hb6 hcell
            rw [HLK.out]
            have c0 := (hcell ⟨wr.heap.size, 0, none⟩ hz4b (fun e => Nat.lt_irrefl _ (HLi.out _ e))).trans HM0.out
            have c1 := (hcell ⟨wr.heap.size, 1, none⟩ hz4b (fun e => Nat.lt_irrefl _ (HLi.out _ e))).trans HM1.out
            rw [← HNX2.out] at ho6
            have HO6 := hid ho6
            have B6 : Hid (Below wa.heap.size wa w6) := hid (B4.out.trans hb6)
            have K6 : Hid (Below w.heap.size w w6) := hid (K2.out.trans (B6.out.mono K2.out.size))
            have RX6 : Hid (Rd (Value.int .i64) w6 w6.heap.size Ax s.X) := hid ((HRX.out.below (KKH.out.trans (hb6.mono hza))).more K6.out.size)
            obtain ⟨X, hXl⟩ : ∃ X, s.X.length = X := ⟨_, rfl⟩
            obtain ⟨Y, hYl⟩ : ∃ Y, s.Y = Y := ⟨_, rfl⟩
            rw [hXl] at c0 HXL
            rw [hYl] at c1
            have HXX := hid hXl
            have HYY := hid hYl
            have HKM := hid hlt
            have hXb := HXL.out
            clear ho6 hb6 hcell n0 n1 d0 d1 d0' d1' m0 m1 g0 g1 e1 e2 e3 e4 hw3 hw4 hz4b hza4 B4 HO4 RY4 HRY HRX HQ hqm KKH HLi HM0 HM1 HNX HNX2 hlt hk HLK hz1 l1 l2 hXl hYl HB
            generalize wr = wo at *
            by_cases hY1 : Y > 1048576
            · go_wp2_with fail
              go_ret
              exact ⟨rfl, K6.out⟩
            · by_cases hY2 : Y < -1048576
              · go_wp2_with fail
                go_ret
                exact ⟨rfl, K6.out⟩
              · have HY := hid (turns_abs hY1 hY2)
                go_wp2_with fail
                clear hY1 hY2
                go_loopw [14, 75] (fun _ xi wv => ∃ j : Nat, j ≤ X ∧ xi = .int .i64 (j : Int) ∧ (∀ y ∈ s.X.take j, y.natAbs ≤ 4096) ∧ wv = w6) (fun _ xi _ => X - (intOf xi).toNat)
                case atStart => exact ⟨0, Nat.zero_le _, rfl, fun y hy => by simp at hy, rfl⟩
                case round =>
                  obtain ⟨j, hj, rfl, hja, rfl⟩ := hrel
                  have HJA := hid hja
                  clear hja
                  by_cases hlt : j < X
                  · obtain ⟨b5, o5, y, rfl, l5, ey, d5⟩ := RX6.out.at_ (k := j) (by rw [HXX.out]; exact hlt)
                    have HEY := hid ey
                    clear ey
                    by_cases h1 : y > 4096
                    · go_wp2_with fail
                      go_ret
                      exact ⟨rfl, K6.out⟩
                    · by_cases h2 : y < -4096
                      · go_wp2_with fail
                        go_ret
                        exact ⟨rfl, K6.out⟩
                      · have HYa := hid (turns_abs2 h1 h2)
                        go_wp2_with fail
                        go_roundw
                        case rel => exact ⟨j + 1, hlt, by go_num, turns_ints HJA.out HEY.out HYa.out, by trivial⟩
                        case measure => (try clear h1 h2); simp [intOf]; omega
                  · obtain rfl : j = X := by omega
                    have HXA : Hid (∀ y ∈ s.X, y.natAbs ≤ 4096) := hid (by have := HJA.out; rwa [List.take_of_length_le (by rw [HXX.out]; exact Nat.le_refl _)] at this)
                    have hkM := HKM.out
                    clear hlt hj HJA
                    go_wp2_with fail
                    go_roundw
                    case rel => exact ⟨k + 1, A6, c6, HKM.out, by go_num, rfl, HO6.out, turns_all HA.out HEN.out ⟨by rw [HYY.out]; exact HY.out, HXA.out⟩, B6.out⟩
                    case measure => simp [intOf]; omega
          · obtain rfl : k = M := by omega
            have HSA : ∀ x ∈ l, smallS x := by have := HA.out; rwa [List.take_of_length_le (by rw [HML.out]; exact Nat.le_refl _)] at this
            have ho := HO.out
            rw [List.take_of_length_le (by rw [HLR.out]; exact Nat.le_refl _)] at ho
            have RB := hid (ho.rd KR.out.size)
            obtain ⟨t1, t2, t3, t4, t5⟩ := HT.out HUA.out HSA
            have D2 := hid (fun W (h : Below wr.heap.size wr W) => C2.out A2 c2 W ((RU.out.on KR.out).on h) (RB.out.on h))
            have D4 := hid (fun W (h : Below wr.heap.size wr W) => C4.out A2 c2 W ((RU.out.on KR.out).on h) (RB.out.on h))
            rw [t1, t2] at D2
            rw [t3, t4] at D4
            obtain ⟨q1, q2, q3, q4⟩ := hmod.out
            clear t1 t2 t3 t4 HSA ho HO HA HT C2 C4 hlt hk hbel
            go_wp2_with fail
            refine (C1.out _ (RU.out.on KR.out) (RL.out.on KR.out)).mono ?_
            rintro _ w4 ⟨A4, c4, rfl, ho4, h4⟩
            have J4 := hid h4
            have R4 := hid (own_rd ho4)
            have hcv := own_cap ho4
            clear h4 ho4 q1 q2 q3 q4
            go_wp2_with fail
            refine (D2.out _ J4.out).mono ?_
            rintro _ w5 ⟨A5, c5, rfl, ho5, h5⟩
            have J5 : Hid (Below wr.heap.size wr w5) := hid (J4.out.trans (h5.mono J4.out.size))
            have K5 : Hid (Below w.heap.size w w5) := hid (KR.out.trans (J5.out.mono KR.out.size))
            have R5 := hid (own_rd ho5)
            have R4' := hid (R4.out.on h5)
            clear h5 ho5
            go_wp2_with fail
            refine (C3.out _ (RU.out.on K5.out) (RL.out.on K5.out)).mono ?_
            rintro _ w6 ⟨rfl, h6⟩
            have J6 : Hid (Below wr.heap.size wr w6) := hid (J5.out.trans (h6.mono J5.out.size))
            have L6 : Hid (Below w5.heap.size w5 w6) := hid h6
            clear h6
            go_wp2_with fail
            refine (D4.out _ J6.out).mono ?_
            rintro _ w7 ⟨rfl, h7⟩
            have L7 : Hid (Below w5.heap.size w5 w7) := hid (L6.out.trans (h7.mono L6.out.size))
            have K7 : Hid (Below w.heap.size w w7) := hid (K5.out.trans (L7.out.mono K5.out.size))
            have CS := hid (ln_rsame (A := A4) (B := A5) (c := c4) (d := c5) V (by omega) w7 (R4'.out.on L7.out) (R5.out.on L7.out))
            clear h7 R4 R4' R5 hcv
            go_wp2_with fail
            refine CS.out.mono ?_
            rintro _ w8 ⟨rfl, h8⟩
            have K8 : Hid (Below w.heap.size w w8) := hid (K7.out.trans (h8.mono K7.out.size))
            clear h8
            go_wp2_with fail
            go_ret
            exact ⟨rfl, K8.out⟩
theorem law_types : ∀ t ∈ Try.f6.params.toList, Try.prog.readableRec t = true ∧ t < Try.prog.types.size := by
  have h : (Try.f6.params.toList.all fun t => Try.prog.readableRec t && decide (t < Try.prog.types.size)) = true := by kernel_rfl
  intro t ht
  simpa using List.all_eq_true.1 h t ht
set_option maxRecDepth 100000 in
theorem lifted (os : Os) (started : os.Started) (H : Type) (enc : TypeId × Value → H) :
    ReturnsInHanded {} Try.checked os 6 .any (Rows.linearTurnsSpec.pre6 enc Try.prog Try.f6 Rows.linearTurnsRow.domain false) (Rows.linearTurnsSpec.post enc Try.prog Try.f6 false true false false) := by
  refine returnsInHanded_of_change (C := Try.checked) own started (by kernel_rfl) Try.func6
    (ChangeSpec.witness6 (enc := enc) (C := Try.checked) false ⟨#[], #[.slice none 0 0, .int .i64 0, .slice none 0 0], []⟩ 8 (by kernel_rfl) (by kernel_rfl) (by kernel_rfl) (by kernel_rfl)) ?_
  intro W base args ds gs before hval0 hW hcnd _
  have hval : ∀ (j : Nat) t v, Try.f6.params[j]? = some t → args[j]? = some v → Value.okWide Try.prog W .any base t v := hval0
  have hW' := hW
  obtain ⟨p, q, hA0, hV, rfl, hfz, hnd⟩ := hW
  have hA : DataW.TrodAll enc Try.prog W 0 (fun _ => true) true Try.f6.params.toList args.toList ds p := hA0
  rw [Try.params6] at hA hval
  obtain ⟨v0, vs0, d0, ds0, p0, q0, hargs, rfl, rfl, h0, r0⟩ := trodAll_cons hA
  obtain ⟨v1, vs1, d1, ds1, p1, q1, rfl, rfl, rfl, h1, r1⟩ := trodAll_cons r0
  obtain ⟨v2, vs2, d2, ds2, p2, q2, rfl, rfl, rfl, h2, r2⟩ := trodAll_cons r1
  obtain ⟨rfl, rfl, rfl⟩ := trodAll_nil r2
  obtain rfl : args = #[v0, v1, v2] := by cases args; simp_all
  obtain ⟨rfl, rfl⟩ := trodVars_none hV
  obtain ⟨Au, u, cu, rfl, rdu, iu, lcu, lmu⟩ := open_nums Try.underlying22 Try.underlying2 cells_i64' (hval 0 22 v0 rfl rfl) h0
  obtain ⟨f, rfl, rfl, rfl, w1⟩ := open_int Try.underlying3 (hval 1 3 v1 rfl rfl) h1
  obtain ⟨Al, l, cl, rfl, rdl, il, lcl, lml⟩ := open_smps (hval 2 39 v2 rfl rfl) h2
  clear hA0 hval0
  refine (walk Au u cu f Al l cl W rdu (fun x hx => I64.of_wf (iu x hx)) lcu lmu (I64.of_wf w1) rdl il lcl lml).mono fun e W' ⟨he, hb⟩ => ?_
  subst he
  exact ⟨_, rfl, law_post laid (fun t ht => law_types t ht) rfl hW' ⟨rfl, rfl, rfl⟩ (by kernel_rfl) Try.underlying4 hb⟩

theorem over : Rows.linearTurnsRow.holds Try.pinned (OpenSpec.ofChange Rows.linearTurnsSpec) :=
  OpenClaim.holds_of_wide 6 Try.f6 rfl rfl rfl rfl rfl rfl rfl ⟨rfl, rfl, rfl, rfl, rfl⟩ rfl rfl rfl rfl rfl (by kernel_rfl) Try.func6 (by kernel_rfl)
    (of_decide_eq_true (by kernel_rfl)) (by unfold Func.isWrapper; first | (rw [if_pos (by decide +kernel)]; kernel_rfl) | (rw [if_neg (by decide +kernel)]; exact ⟨rfl, rfl⟩))
    (fun os started H enc _ => lifted os started H enc)

theorem proved : Rows.LinearTurnsSaid := over
end Go.Proofs.Ytcjkofcgphcjnaa.LinearTurns
