
/-
  SoftOff answers true for every input. No condition.
-/
import Derived.Test.YtehbdnehlfplaaaPd
import Derived.Test.YtehbdnehlfplaaaPb
import Derived.Test.YtehbdnehlfplaaaPa
namespace Go.Proofs.Ytehbdnehlfplaaa.SoftOff
open Go.ChangeShapes Go.WideShapes Go.ChangeAt Go.RowKit
set_option maxHeartbeats 400000
set_option linter.unusedVariables false
open Go.Proofs.Ytehbdnehlfplaaa
theorem soff_smp {W : World} {b N cx : Nat} {Ax : Option Addr} {x : List Int} {Y : Int} (hx : x.length = N) (h0 : W.cell? ⟨b, 0, none⟩ = some (.slice Ax N cx)) (h1 : W.cell? ⟨b, 1, none⟩ = some (.int .i64 Y)) (rx : Rd (Value.int .i64) W W.heap.size Ax x) : RdSm W W.heap.size (some ⟨b, 0, none⟩) [⟨x, Y⟩] := fun k s hs => by
  cases k with
  | zero =>
    simp only [List.getElem?_cons_zero, Option.some.injEq] at hs
    subst hs
    exact ⟨b, 0, Ax, cx, rfl, lt_of_cell h0, by rw [hx]; exact h0, h1, rx⟩
  | succ k => simp at hs
theorem soff_pow {f : Int} (h0 : 0 ≤ f) (h1 : f ≤ 30) : ∃ K T : Nat, f = (K : Int) ∧ (2 : Int) ^ f.toNat = (T : Int) ∧ T ≤ 1073741824 ∧ Hid (IntKind.i64.wrap ((2 : Int) ^ K) = (T : Int) ∧ wrap64 ((2 : Int) ^ (min K 64)) = (T : Int) ∧ IntKind.i64.wrap ((2 : Int) ^ (min K 64)) = (T : Int) ∧ wrap64 (-(2 : Int) ^ (min K 64)) = -(T : Int) ∧ IntKind.i64.wrap (-(2 : Int) ^ (min K 64)) = -(T : Int) ∧ ¬ (K : Int) < 0) := by
  obtain ⟨K, T, e, h2, h3, h4⟩ := sf_pow h0 h1
  obtain ⟨q1, q2, q3, q4⟩ := h4.out
  refine ⟨K, T, e, h2, h3, hid ⟨q1, q2, q3, ?_, ?_, q4⟩⟩
  all_goals
    have e2 : (2 : Int) ^ (min K 64) = (T : Int) := by
      have e3 : min K 64 = f.toNat := by rw [Nat.min_eq_left (by omega)]; omega
      rw [e3, h2]
    rw [e2]
  · exact Go.IntWalk.wrap64_in _ (by omega)
  · exact Go.IntWalk.i64_in _ (by omega)
theorem soff_sum {Q : List Int} {k : Nat} {T : Nat} {y : Int} (hT : T ≤ 1073741824) (hl : Q.length ≤ 8) (hb : ∀ x ∈ Q, -(T : Int) ≤ x ∧ x ≤ (T : Int)) (hy : Q[k]? = some y) : (Q.take (k + 1)).sum = (Q.take k).sum + y ∧ Hid (IntKind.i64.wrap ((Q.take k).sum + y) = (Q.take (k + 1)).sum) ∧ -8589934592 ≤ (Q.take (k + 1)).sum ∧ (Q.take (k + 1)).sum ≤ 8589934592 := by
  have h1 : (Q.take (k + 1)).sum = (Q.take k).sum + y := by rw [List.take_add_one, hy]; simp
  have hs : ∀ l : List Int, (∀ x ∈ l, -(T : Int) ≤ x ∧ x ≤ (T : Int)) → -(T : Int) * l.length ≤ l.sum ∧ l.sum ≤ (T : Int) * l.length := fun l => by
    induction l with
    | nil => intro _; simp
    | cons a r ih =>
      intro h
      have h2 := ih (fun x hx => h x (by simp [hx]))
      have h3 := h a (by simp)
      rw [List.sum_cons, List.length_cons]
      push_cast
      rw [Int.mul_add, Int.mul_add]
      omega
  have h4 := hs (Q.take (k + 1)) (fun x hx => hb x (List.mem_of_mem_take hx))
  have h5 : (Q.take (k + 1)).length ≤ 8 := by rw [List.length_take]; omega
  have h6 : (T : Int) * ((Q.take (k + 1)).length : Int) ≤ (T : Int) * 8 := Int.mul_le_mul_of_nonneg_left (by omega) (by omega)
  have h7 : -(T : Int) * ((Q.take (k + 1)).length : Int) = -((T : Int) * ((Q.take (k + 1)).length : Int)) := Int.neg_mul _ _
  refine ⟨h1, hid ?_, by omega, by omega⟩
  rw [← h1]
  exact Go.IntWalk.i64_in _ (by omega)
theorem soff_all {Q : List Int} {T : Nat} {o Y : Int} (hl : (Q.length : Int) = o) (h : ∀ i : Nat, (i : Int) < o → ((i : Int) = Y → Q.getD i 0 ≤ 0 ∧ -(T : Int) ≤ Q.getD i 0) ∧ (¬ (i : Int) = Y → 0 ≤ Q.getD i 0 ∧ Q.getD i 0 ≤ (T : Int))) : ∀ x ∈ Q, -(T : Int) ≤ x ∧ x ≤ (T : Int) := fun x hx => by
  obtain ⟨i, hi, rfl⟩ := List.mem_iff_getElem.1 hx
  have h5 := h i (by omega)
  rw [List.getD_eq_getElem?_getD, List.getElem?_eq_getElem hi, Option.getD_some] at h5
  by_cases e : (i : Int) = Y
  · have := h5.1 e; omega
  · have := h5.2 e; omega
set_option maxHeartbeats 4000000 in
set_option maxRecDepth 100000 in
theorem walk (o : Int) (Au : Option Addr) (u : List Int) (cu : Nat) (Ax : Option Addr) (x : List Int) (cx : Nat) (Y : Int) (f : Int) (w : World) (ho : I64 o)
    (ru : Rd (Value.int .i64) w w.heap.size Au u) (iu : I64s u) (lcu : u.length ≤ cu) (lmu : cu ≤ 9223372036854775807)
    (rx : Rd (Value.int .i64) w w.heap.size Ax x) (ix : I64s x) (iY : I64 Y) (lcx : x.length ≤ cx) (lmx : cx ≤ 9223372036854775807) (hf : I64 f) :
    Calls Try.prog 4 #[.int .i64 o, .slice Au u.length cu, .agg #[.slice Ax x.length cx, .int .i64 Y], .int .i64 f] w fun e w' => e = .returned (.bool true) ∧ Below w.heap.size w w' := by
  have hul : u.length ≤ 9223372036854775807 := by omega
  have hxl : x.length ≤ 9223372036854775807 := by omega
  obtain ⟨N, hN⟩ : ∃ N, x.length = N := ⟨_, rfl⟩
  obtain ⟨wb, hwb⟩ : ∃ wb, w.alloc (.cells #[.slice Ax N cx, .int .i64 Y] 24) = wb := ⟨_, rfl⟩
  have kb : Below w.heap.size w wb := by rw [← hwb]; exact sf_grow _ _
  have bz : w.heap.size < wb.heap.size := by rw [← hwb]; simp
  have b0 : wb.cell? ⟨w.heap.size, 0, none⟩ = some (.slice Ax N cx) := by rw [← hwb]; simp [go_sem]
  have b1 : wb.cell? ⟨w.heap.size, 1, none⟩ = some (.int .i64 Y) := by rw [← hwb]; simp [go_sem]
  have C0 := hid (fun W (b : Nat) (h0 : W.cell? ⟨b, 0, none⟩ = some (.slice Ax N cx)) (h1 : W.cell? ⟨b, 1, none⟩ = some (.int .i64 Y)) (h : Below wb.heap.size wb W) => ref_Few14 (Aw := Au) (A := some ⟨b, 0, none⟩) (cw := cu) (c := 1) u.length hul [⟨x, Y⟩] (by simp) W (soff_smp hN h0 h1 ((rx.on kb).on h)))
  have C5 := hid (fun (hx : x.length ≤ 1099511627776) W (h : Below wb.heap.size wb W) => sf_Off (Au := Au) (Ax := Ax) (cu := cu) (cx := cx) o ho u ⟨x, Y⟩ lcu lmu iu hx ix f W ((ru.on kb).on h) ((rx.on kb).on h))
  have hfew : fewL u.length [⟨x, Y⟩] = true → u.length ≤ 500 ∧ x.length ≤ 100 := fun h => by
    unfold fewL at h
    simp only [Bool.and_eq_true, decide_eq_true_eq, List.all_cons, List.all_nil] at h
    exact ⟨h.2.1, h.1.1⟩
  have HBAD : Hid (soE o u ⟨x, Y⟩ f ≠ 0 → soV o u ⟨x, Y⟩ f = []) := hid (fun h => if_neg h)
  have HGOOD := hid (fun (h : soE o u ⟨x, Y⟩ f = 0) => soft_off h)
  have HFB := hid (fun (h : soE o u ⟨x, Y⟩ f = 0) => (lzE_ok.1 (stE_ok.1 (soE_ok.1 h).1).1).2.2.1)
  have HO8 := hid (fun (h : soE o u ⟨x, Y⟩ f = 0) => (rwE_ok.1 (lzE_ok.1 (stE_ok.1 (soE_ok.1 h).1).1).1).2.1)
  obtain ⟨F, hF⟩ : ∃ F, fewL u.length [⟨x, Y⟩] = F := ⟨_, rfl⟩
  obtain ⟨Q, hQ⟩ : ∃ Q, soV o u ⟨x, Y⟩ f = Q := ⟨_, rfl⟩
  obtain ⟨J, hJ⟩ : ∃ J, soE o u ⟨x, Y⟩ f = J := ⟨_, rfl⟩
  obtain ⟨U, hU⟩ : ∃ U, u.length = U := ⟨_, rfl⟩
  rw [hF] at C0 hfew
  rw [hQ, hJ] at C5 HBAD HGOOD
  rw [hJ] at HFB HO8
  have hsl : ([⟨x, Y⟩] : List SmpV).length = 1 := rfl
  rw [hsl] at C0
  rw [hU] at C0 C5 hfew ⊢
  rw [hN] at C5 hfew ⊢
  have HKB := hid kb
  clear hF hQ hJ hU hN hsl ru rx iu ix iY lcu lmu lcx lmx ho hf hul hxl kb
  cases F with
  | false =>
    clear hfew
    go_enter Try.func4, Try.ntmps4
    go_wp2_with fail
    refine (sf_live _).mono ?_
    rintro _ w1 ⟨rfl, h1⟩
    have a0 := (h1.cell (p := ⟨w.heap.size, 0, none⟩) bz).trans b0
    have a1 := (h1.cell (p := ⟨w.heap.size, 1, none⟩) bz).trans b1
    have J1 := hid h1
    obtain ⟨w2, hw2⟩ : ∃ w2, w1.alloc (.cells #[.slice Ax N cx, .int .i64 Y] 24) = w2 := ⟨_, rfl⟩
    have J2 : Hid (Below wb.heap.size wb w2) := hid (by rw [← hw2]; exact h1.alloc h1.size _)
    have d0 : w2.cell? ⟨w1.heap.size, 0, none⟩ = some (.slice Ax N cx) := by rw [← hw2]; simp [go_sem]
    have d1 : w2.cell? ⟨w1.heap.size, 1, none⟩ = some (.int .i64 Y) := by rw [← hw2]; simp [go_sem]
    have D0 := hid (C0.out w2 _ d0 d1 J2.out)
    clear h1 hwb d0 d1
    go_wp2_with fail
    refine D0.out.mono ?_
    rintro _ w3 ⟨rfl, h3⟩
    have K3 : Hid (Below w.heap.size w w3) := hid (HKB.out.trans ((J2.out.trans (h3.mono J2.out.size)).mono HKB.out.size))
    clear h3 hw2
    go_wp2_with fail
    go_ret
    exact ⟨rfl, K3.out⟩
  | true =>
    obtain ⟨hu5, hx1⟩ := hfew rfl
    have hx2 : N ≤ 1099511627776 := by omega
    have D5 := hid (C5.out hx2)
    clear hfew C5 hu5 hx1 hx2
    go_enter Try.func4, Try.ntmps4
    go_wp2_with fail
    refine (sf_live _).mono ?_
    rintro _ w1 ⟨rfl, h1⟩
    have a0 := (h1.cell (p := ⟨w.heap.size, 0, none⟩) bz).trans b0
    have a1 := (h1.cell (p := ⟨w.heap.size, 1, none⟩) bz).trans b1
    have J1 := hid h1
    obtain ⟨w2, hw2⟩ : ∃ w2, w1.alloc (.cells #[.slice Ax N cx, .int .i64 Y] 24) = w2 := ⟨_, rfl⟩
    have J2 : Hid (Below wb.heap.size wb w2) := hid (by rw [← hw2]; exact h1.alloc h1.size _)
    have d0 : w2.cell? ⟨w1.heap.size, 0, none⟩ = some (.slice Ax N cx) := by rw [← hw2]; simp [go_sem]
    have d1 : w2.cell? ⟨w1.heap.size, 1, none⟩ = some (.int .i64 Y) := by rw [← hw2]; simp [go_sem]
    have D0 := hid (C0.out w2 _ d0 d1 J2.out)
    clear h1 hwb d0 d1
    go_wp2_with fail
    refine D0.out.mono ?_
    rintro _ w3 ⟨rfl, h3⟩
    have J3 : Hid (Below wb.heap.size wb w3) := hid (J2.out.trans (h3.mono J2.out.size))
    have x0 := (J3.out.cell (p := ⟨w.heap.size, 0, none⟩) bz).trans b0
    have x1 := (J3.out.cell (p := ⟨w.heap.size, 1, none⟩) bz).trans b1
    clear h3 hw2 a0 a1 D0 J1 J2 C0
    by_cases hJ0 : J = 0
    · subst hJ0
      obtain ⟨g1, g2, g3, g4⟩ := HGOOD.out rfl
      obtain ⟨f0, f1⟩ := HFB.out rfl
      have o8 := HO8.out rfl
      obtain ⟨K, T, rfl, hT, hT3, hpw⟩ := soff_pow f0 f1
      rw [hT] at g4
      have hall := hid (soff_all g1 g4)
      have G4 := hid g4
      have HG2 := hid g2
      have HG3 := hid g3
      have HT3 := hid hT3
      obtain ⟨L, hL⟩ : ∃ L, Q.length = L := ⟨_, rfl⟩
      rw [hL] at g1
      subst g1
      have hL8 : L ≤ 8 := by omega
      have HL := hid hL
      have t0 : ((L : Int) != (L : Int)) = false := by simp
      clear g2 g3 g4 f0 f1 o8 hT hT3 hL HGOOD HFB HO8 HBAD
      go_wp2_with fail
      refine (D5.out _ J3.out).mono ?_
      rintro _ w4 ⟨A4, c4, rfl, ho4, h4⟩
      rw [HL.out]
      have J4 : Hid (Below wb.heap.size wb w4) := hid (J3.out.trans (h4.mono J3.out.size))
      have R4 := hid (own_rd ho4)
      have y0 := (J4.out.cell (p := ⟨w.heap.size, 0, none⟩) bz).trans b0
      have y1 := (J4.out.cell (p := ⟨w.heap.size, 1, none⟩) bz).trans b1
      clear h4 ho4 x0 x1
      go_wp2_with fail
      clear t0
      obtain ⟨p1, p2, p3, p5, p6, p4⟩ := hpw.out
      go_loopw [12, 13, 14, 46] (fun xs _ _ xi wr => ∃ k : Nat, k ≤ L ∧ xi = .int .i64 (k : Int) ∧ xs = .int .i64 (Q.take k).sum ∧ wr = w4) (fun _ _ _ xi _ => L - (intOf xi).toNat)
      case atStart => exact ⟨0, Nat.zero_le _, rfl, rfl, rfl⟩
      case round =>
        obtain ⟨k, hk, rfl, rfl, rfl⟩ := hrel
        by_cases hlt : k < L
        · obtain ⟨b2, o2, y, rfl, l2, ey, d2⟩ := R4.out.at_ (k := k) (by rw [HL.out]; exact hlt)
          obtain ⟨s1, s2, s3, s4⟩ := soff_sum HT3.out (by rw [HL.out]; exact hL8) hall.out ey
          have h4 := G4.out k (by omega)
          rw [getD_of ey] at h4
          have ws := s2.out
          obtain ⟨S0, hS0⟩ : ∃ S0, (Q.take k).sum = S0 := ⟨_, rfl⟩
          obtain ⟨S1, hS1⟩ : ∃ S1, (Q.take (k + 1)).sum = S1 := ⟨_, rfl⟩
          rw [hS0, hS1] at ws
          rw [hS0]
          have HS1 := hid hS1
          clear s1 s2 s3 s4 ey hS0 hS1
          by_cases e : (k : Int) = Y
          · obtain ⟨q1, q2⟩ := h4.1 e
            have t1 : ((k : Int) == Y) = true := by simpa using e
            have t2 : ¬ y > 0 := by omega
            have t3 : ((k : Int) != Y) = false := by rw [e]; simp
            have t4 : ¬ y < -(T : Int) := by omega
            clear h4 e
            go_wp2_with fail
            go_roundw
            case rel => exact ⟨k + 1, hlt, by go_num, by rw [HS1.out], by trivial⟩
            case measure => simp [intOf]; omega
          · obtain ⟨q1, q2⟩ := h4.2 e
            have t1 : ((k : Int) == Y) = false := beq_eq_false_iff_ne.2 e
            have t3 : ((k : Int) != Y) = true := by simpa using e
            have t2 : ¬ y < 0 := by omega
            have t4 : ¬ y > (T : Int) := by omega
            clear h4 e
            go_wp2_with fail
            go_roundw
            case rel => exact ⟨k + 1, hlt, by go_num, by rw [HS1.out], by trivial⟩
            case measure => simp [intOf]; omega
        · obtain rfl : k = L := by omega
          have hQt : Q.take k = Q := List.take_of_length_le (by rw [HL.out]; exact Nat.le_refl _)
          rw [hQt]
          obtain ⟨S0, hS0⟩ : ∃ S0, Q.sum = S0 := ⟨_, rfl⟩
          have e1 := HG2.out
          have e2 := HG3.out
          rw [hS0] at e1 e2 ⊢
          have wn : IntKind.i64.wrap (-(k : Int)) = -(k : Int) := Go.IntWalk.i64_in _ (by omega)
          have wn2 : wrap64 (-(k : Int)) = -(k : Int) := Go.IntWalk.wrap64_in _ (by omega)
          have KC := hid (HKB.out.trans (J4.out.mono HKB.out.size))
          have e3 : S0 > -(k : Int) := by omega
          clear hQt hS0 e2
          go_wp2_with fail
          go_ret
          exact ⟨rfl, KC.out⟩
    · have hne : (J != 0) = true := by simpa using hJ0
      obtain rfl := HBAD.out hJ0
      clear hJ0 HGOOD HFB HO8 HBAD
      go_wp2_with fail
      refine (D5.out _ J3.out).mono ?_
      rintro _ w4 ⟨A4, c4, rfl, ho4, h4⟩
      have K4 : Hid (Below w.heap.size w w4) := hid (HKB.out.trans ((J3.out.trans (h4.mono J3.out.size)).mono HKB.out.size))
      clear h4 ho4 x0 x1
      go_wp2_with fail
      go_ret
      exact ⟨rfl, K4.out⟩
theorem law_types : ∀ t ∈ Try.f4.params.toList, Try.prog.readableRec t = true ∧ t < Try.prog.types.size := by
  have h : (Try.f4.params.toList.all fun t => Try.prog.readableRec t && decide (t < Try.prog.types.size)) = true := by kernel_rfl
  intro t ht
  simpa using List.all_eq_true.1 h t ht
set_option maxRecDepth 100000 in
theorem lifted (os : Os) (started : os.Started) (H : Type) (enc : TypeId × Value → H) :
    ReturnsInHanded {} Try.checked os 4 .any (Rows.softOffSpec.pre6 enc Try.prog Try.f4 Rows.softOffRow.domain false) (Rows.softOffSpec.post enc Try.prog Try.f4 false true false false) := by
  refine returnsInHanded_of_change (C := Try.checked) own started (by kernel_rfl) Try.func4
    (ChangeSpec.witness6 (enc := enc) (C := Try.checked) false ⟨#[], #[.int .i64 0, .slice none 0 0, .agg #[.slice none 0 0, .int .i64 0], .int .i64 0], []⟩ 8 (by kernel_rfl) (by kernel_rfl) (by kernel_rfl) (by kernel_rfl)) ?_
  intro W base args ds gs before hval0 hW hcnd _
  have hval : ∀ (j : Nat) t v, Try.f4.params[j]? = some t → args[j]? = some v → Value.okWide Try.prog W .any base t v := hval0
  have hW' := hW
  obtain ⟨p, q, hA0, hV, rfl, hfz, hnd⟩ := hW
  have hA : DataW.TrodAll enc Try.prog W 0 (fun _ => true) true Try.f4.params.toList args.toList ds p := hA0
  rw [Try.params4] at hA hval
  obtain ⟨v0, vs0, d0, ds0, p0, q0, hargs, rfl, rfl, h0, r0⟩ := trodAll_cons hA
  obtain ⟨v1, vs1, d1, ds1, p1, q1, rfl, rfl, rfl, h1, r1⟩ := trodAll_cons r0
  obtain ⟨v2, vs2, d2, ds2, p2, q2, rfl, rfl, rfl, h2, r2⟩ := trodAll_cons r1
  obtain ⟨v3, vs3, d3, ds3, p3, q3, rfl, rfl, rfl, h3, r3⟩ := trodAll_cons r2
  obtain ⟨rfl, rfl, rfl⟩ := trodAll_nil r3
  obtain rfl : args = #[v0, v1, v2, v3] := by cases args; simp_all
  obtain ⟨rfl, rfl⟩ := trodVars_none hV
  obtain ⟨o, rfl, rfl, rfl, w0⟩ := open_int Try.underlying3 (hval 0 3 v0 rfl rfl) h0
  obtain ⟨Au, u, cu, rfl, rdu, iu, lcu, lmu⟩ := open_nums Try.underlying22 Try.underlying2 cells_i64' (hval 1 22 v1 rfl rfl) h1
  obtain ⟨Ax, x, cx, xY, rfl, rdx, ix, iYx, lcx, lmx⟩ := open_smp (hval 2 24 v2 rfl rfl) h2
  obtain ⟨f, rfl, rfl, rfl, w3⟩ := open_int Try.underlying3 (hval 3 3 v3 rfl rfl) h3
  clear hA0 hval0
  refine (walk o Au u cu Ax x cx xY f W (I64.of_wf w0) rdu (fun x hx => I64.of_wf (iu x hx)) lcu lmu rdx ix iYx lcx lmx (I64.of_wf w3)).mono fun e W' ⟨he, hb⟩ => ?_
  subst he
  exact ⟨_, rfl, law_post laid (fun t ht => law_types t ht) rfl hW' ⟨rfl, rfl, rfl⟩ (by kernel_rfl) Try.underlying4 hb⟩

theorem over : Rows.softOffRow.holds Try.pinned (OpenSpec.ofChange Rows.softOffSpec) :=
  OpenClaim.holds_of_wide 4 Try.f4 rfl rfl rfl rfl rfl rfl rfl ⟨rfl, rfl, rfl, rfl, rfl⟩ rfl rfl rfl rfl rfl (by kernel_rfl) Try.func4 (by kernel_rfl)
    (of_decide_eq_true (by kernel_rfl)) (by unfold Func.isWrapper; first | (rw [if_pos (by decide +kernel)]; kernel_rfl) | (rw [if_neg (by decide +kernel)]; exact ⟨rfl, rfl⟩))
    (fun os started H enc _ => lifted os started H enc)

theorem proved : Rows.SoftOffSaid := over
end Go.Proofs.Ytehbdnehlfplaaa.SoftOff
