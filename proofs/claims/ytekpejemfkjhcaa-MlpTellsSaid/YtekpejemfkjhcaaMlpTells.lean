
/-
  MlpTells answers true for every input. No condition.
-/
import Derived.Test.YtekpejemfkjhcaaUf
import Derived.Test.YtekpejemfkjhcaaUc
import Derived.Test.YtekpejemfkjhcaaUb
import Derived.Test.YtekpejemfkjhcaaUa
namespace Go.Proofs.Ytekpejemfkjhcaa.MlpTells
open Go.ChangeShapes Go.WideShapes Go.ChangeAt Go.RowKit
set_option maxHeartbeats 400000
set_option linter.unusedVariables false
open Go.Proofs.Ytekpejemfkjhcaa
theorem mtells_smp {W : World} {b N cx : Nat} {Ax : Option Addr} {x : List Int} {Y : Int} (hx : x.length = N) (h0 : W.cell? ⟨b, 0, none⟩ = some (.slice Ax N cx)) (h1 : W.cell? ⟨b, 1, none⟩ = some (.int .i64 Y)) (rx : Rd (Value.int .i64) W W.heap.size Ax x) : RdSm W W.heap.size (some ⟨b, 0, none⟩) [⟨x, Y⟩] := fun k s hs => by
  cases k with
  | zero =>
    simp only [List.getElem?_cons_zero, Option.some.injEq] at hs
    subst hs
    exact ⟨b, 0, Ax, cx, rfl, lt_of_cell h0, by rw [hx]; exact h0, h1, rx⟩
  | succ k => simp at hs
theorem mtells_on {w wb W W' : World} {N cx : Nat} {Ax : Option Addr} {Y : Int} (bz : w.heap.size < wb.heap.size) (h : W.cell? ⟨w.heap.size, 0, none⟩ = some (.slice Ax N cx) ∧ W.cell? ⟨w.heap.size, 1, none⟩ = some (.int .i64 Y) ∧ Below wb.heap.size wb W) (hb : Below W.heap.size W W') :
    W'.cell? ⟨w.heap.size, 0, none⟩ = some (.slice Ax N cx) ∧ W'.cell? ⟨w.heap.size, 1, none⟩ = some (.int .i64 Y) ∧ Below wb.heap.size wb W' :=
  ⟨(hb.cell (p := ⟨w.heap.size, 0, none⟩) (Nat.lt_of_lt_of_le bz h.2.2.size)).trans h.1, (hb.cell (p := ⟨w.heap.size, 1, none⟩) (Nat.lt_of_lt_of_le bz h.2.2.size)).trans h.2.1, h.2.2.trans (hb.mono h.2.2.size)⟩
theorem mtells_bel {w wb W : World} {N cx : Nat} {Ax : Option Addr} {Y : Int} (h : W.cell? ⟨w.heap.size, 0, none⟩ = some (.slice Ax N cx) ∧ W.cell? ⟨w.heap.size, 1, none⟩ = some (.int .i64 Y) ∧ Below wb.heap.size wb W) : Below wb.heap.size wb W := h.2.2
theorem mlO_len {o : Int} {u : List Int} (hu : u.length ≤ 500) : (mlO o u).length ≤ 8 ∧ ∀ r ∈ mlO o u, r.length ≤ 9223372036854775807 := by
  unfold mlO
  split
  · rename_i h
    refine ⟨?_, fun r hr => ?_⟩
    · unfold mlL
      rw [List.length_map, List.length_range]
      have := msE_ok.1 h
      omega
    · unfold mlL at hr
      obtain ⟨i, _, rfl⟩ := List.mem_map.1 hr
      unfold rwR
      rw [List.length_take, List.length_drop]
      have h1 := Nat.min_le_right (msN o u + 1) (u.length - i * (msN o u + 1))
      have h2 := Nat.sub_le u.length (i * (msN o u + 1))
      exact Nat.le_trans h1 (Nat.le_trans h2 (by omega))
  · exact ⟨by simp, fun r hr => by simp at hr⟩
set_option maxHeartbeats 4000000 in
set_option maxRecDepth 100000 in
theorem walk (n o : Int) (Au : Option Addr) (u : List Int) (cu : Nat) (Ax : Option Addr) (x : List Int) (cx : Nat) (Y : Int) (f : Int) (w : World) (hn : I64 n) (ho : I64 o)
    (ru : Rd (Value.int .i64) w w.heap.size Au u) (iu : I64s u) (lcu : u.length ≤ cu) (lmu : cu ≤ 9223372036854775807)
    (rx : Rd (Value.int .i64) w w.heap.size Ax x) (ix : I64s x) (iY : I64 Y) (lcx : x.length ≤ cx) (lmx : cx ≤ 9223372036854775807) (hf : I64 f) :
    Calls Try.prog 3 #[.int .i64 n, .int .i64 o, .slice Au u.length cu, .agg #[.slice Ax x.length cx, .int .i64 Y], .int .i64 f] w fun e w' => e = .returned (.bool true) ∧ Below w.heap.size w w' := by
  have hul : u.length ≤ 9223372036854775807 := by omega
  have hxl : x.length ≤ 9223372036854775807 := by omega
  obtain ⟨N, hN⟩ : ∃ N, x.length = N := ⟨_, rfl⟩
  obtain ⟨wb, hwb⟩ : ∃ wb, w.alloc (.cells #[.slice Ax N cx, .int .i64 Y] 24) = wb := ⟨_, rfl⟩
  have kb : Below w.heap.size w wb := by rw [← hwb]; exact ml_grow _ _
  have bz : w.heap.size < wb.heap.size := by rw [← hwb]; simp
  have b0 : wb.cell? ⟨w.heap.size, 0, none⟩ = some (.slice Ax N cx) := by rw [← hwb]; simp [go_sem]
  have b1 : wb.cell? ⟨w.heap.size, 1, none⟩ = some (.int .i64 Y) := by rw [← hwb]; simp [go_sem]
  have C0 := hid (fun W (b : Nat) (h0 : W.cell? ⟨b, 0, none⟩ = some (.slice Ax N cx)) (h1 : W.cell? ⟨b, 1, none⟩ = some (.int .i64 Y)) (h : Below wb.heap.size wb W) => ref_Few14 (Aw := Au) (A := some ⟨b, 0, none⟩) (cw := cu) (c := 1) u.length hul [⟨x, Y⟩] (by simp) W (mtells_smp hN h0 h1 ((rx.on kb).on h)))
  have C1 := hid (fun (hx : x.length ≤ 1099511627776) W (h : Below wb.heap.size wb W) => ml_Tell (Au := Au) (Ax := Ax) (cu := cu) (cx := cx) o ho u x lcu lmu iu hx ix f W ((ru.on kb).on h) ((rx.on kb).on h))
  have C2 := hid (fun (hx : x.length ≤ 1099511627776) W (h : Below wb.heap.size wb W) => ref_Tell16 (Au := Au) (Ax := Ax) (cu := cu) (cx := cx) o ho u x lcu lmu iu hx ix f W ((ru.on kb).on h) ((rx.on kb).on h))
  have C3 := hid (fun (hx : x.length ≤ 1099511627776) W (h : Below wb.heap.size wb W) => ml_Hidden (Au := Au) (Ax := Ax) (cu := cu) (cx := cx) o ho u x lcu lmu iu hx ix f W ((ru.on kb).on h) ((rx.on kb).on h))
  have C4 := hid (fun (hx : x.length ≤ 1099511627776) W (h : Below wb.heap.size wb W) => ref_Hidden16 (Au := Au) (Ax := Ax) (cu := cu) (cx := cx) o ho u x lcu lmu iu hx ix f W ((ru.on kb).on h) ((rx.on kb).on h))
  have C5 := hid (fun (hx : x.length ≤ 1099511627776) W (h : Below wb.heap.size wb W) => ml_Off (Aw := Au) (Ax := Ax) (cw := cu) (cx := cx) o ho u ⟨x, Y⟩ lcu lmu hx iu ix iY f W ((ru.on kb).on h) ((rx.on kb).on h))
  have C6 := hid (fun (hx : x.length ≤ 1099511627776) W (h : Below wb.heap.size wb W) => ref_Off16 (Aw := Au) (Ax := Ax) (cw := cu) (cx := cx) o ho u ⟨x, Y⟩ lcu lmu hx iu ix iY f W ((ru.on kb).on h) ((rx.on kb).on h))
  have C7 := hid (fun W (h : Below wb.heap.size wb W) => ml_Split (Au := Au) (cu := cu) o ho u lcu lmu W ((ru.on kb).on h))
  have C8 := hid (fun W (h : Below wb.heap.size wb W) => ref_Split16 (Au := Au) (cu := cu) o ho u lcu lmu W ((ru.on kb).on h))
  have C9 := hid (fun W => ml_Dim n o hn ho W)
  have C10 := hid (fun W => ref_Dim16 n o hn ho W)
  have C11 := hid (fun W (h : Below wb.heap.size wb W) => ml_Bend (A := Au) (c := cu) u hul W ((ru.on kb).on h))
  have C12 := hid (fun W (h : Below wb.heap.size wb W) => ref_Bend16 (A := Au) (c := cu) u hul W ((ru.on kb).on h))
  have C13 := hid (fun W (b : Nat) (h0 : W.cell? ⟨b, 0, none⟩ = some (.slice Ax N cx)) (h1 : W.cell? ⟨b, 1, none⟩ = some (.int .i64 Y)) (h : Below wb.heap.size wb W) => ml_Check (Aw := Au) (A := some ⟨b, 0, none⟩) (cw := cu) (c := 1) n o hn ho u hul lcu [⟨x, Y⟩] (by simp) (fun s hs => by simp at hs; subst hs; exact hxl) W (mtells_smp hN h0 h1 ((rx.on kb).on h)))
  have C14 := hid (fun W (b : Nat) (h0 : W.cell? ⟨b, 0, none⟩ = some (.slice Ax N cx)) (h1 : W.cell? ⟨b, 1, none⟩ = some (.int .i64 Y)) (h : Below wb.heap.size wb W) => ref_Check16 (Aw := Au) (A := some ⟨b, 0, none⟩) (cw := cu) (c := 1) n o hn ho u hul [⟨x, Y⟩] (by simp) (fun s hs => by simp at hs; subst hs; exact hxl) W (mtells_smp hN h0 h1 ((rx.on kb).on h)))
  have hfew : fewL u.length [⟨x, Y⟩] = true → u.length ≤ 500 ∧ x.length ≤ 100 := fun h => by
    unfold fewL at h
    simp only [Bool.and_eq_true, decide_eq_true_eq, List.all_cons, List.all_nil] at h
    exact ⟨h.2.1, h.1.1⟩
  have HRWL := hid (fun (h : u.length ≤ 500) => mlO_len (o := o) h)
  obtain ⟨F, hF⟩ : ∃ F, fewL u.length [⟨x, Y⟩] = F := ⟨_, rfl⟩
  obtain ⟨C, hC⟩ : ∃ C, mqV o u x f = C := ⟨_, rfl⟩
  obtain ⟨D, hD⟩ : ∃ D, mqE o u x f = D := ⟨_, rfl⟩
  obtain ⟨V, hV⟩ : ∃ V, mhV o u x f = V := ⟨_, rfl⟩
  obtain ⟨E, hE⟩ : ∃ E, mhE o u x f = E := ⟨_, rfl⟩
  obtain ⟨Q, hQ⟩ : ∃ Q, moV o u ⟨x, Y⟩ f = Q := ⟨_, rfl⟩
  obtain ⟨J, hJ⟩ : ∃ J, moE o u ⟨x, Y⟩ f = J := ⟨_, rfl⟩
  obtain ⟨R, hR⟩ : ∃ R, mlO o u = R := ⟨_, rfl⟩
  obtain ⟨Z, hZ⟩ : ∃ Z, mzO o u = Z := ⟨_, rfl⟩
  obtain ⟨I, hI⟩ : ∃ I, msE o u = I := ⟨_, rfl⟩
  obtain ⟨P, hP⟩ : ∃ P, mdV n o = P := ⟨_, rfl⟩
  obtain ⟨O, hO⟩ : ∃ O, mdE n o = O := ⟨_, rfl⟩
  obtain ⟨B, hB⟩ : ∃ B, bdV u = B := ⟨_, rfl⟩
  obtain ⟨G, hG⟩ : ∃ G, bdE u = G := ⟨_, rfl⟩
  obtain ⟨T, hT⟩ : ∃ T, mcE n o u [⟨x, Y⟩] = T := ⟨_, rfl⟩
  obtain ⟨U, hU⟩ : ∃ U, u.length = U := ⟨_, rfl⟩
  rw [hF] at C0 hfew
  rw [hC, hD] at C1 C2
  rw [hV, hE] at C3 C4
  rw [hQ, hJ] at C5 C6
  rw [hR, hZ, hI] at C7 C8
  rw [hR] at HRWL
  rw [hP, hO] at C9 C10
  rw [hB, hG] at C11 C12
  rw [hT] at C13 C14
  have hsl : ([⟨x, Y⟩] : List SmpV).length = 1 := rfl
  rw [hsl] at C0 C13 C14
  rw [hU] at C0 C1 C2 C3 C4 C5 C6 C7 C8 C11 C12 C13 C14 hfew HRWL ⊢
  rw [hN] at C1 C2 C3 C4 C5 C6 hfew ⊢
  have HKB := hid kb
  clear hF hV hE hC hD hQ hJ hR hZ hI hP hO hB hG hT hU hN hsl ru rx iu ix iY lcu lmu lcx lmx hn ho hf hul hxl kb
  cases F with
  | false =>
    clear hfew
    go_enter Try.func3, Try.ntmps3
    go_wp2_with fail
    refine (ml_live _).mono ?_
    rintro _ w1 ⟨rfl, h1⟩
    have a0 := (h1.cell (p := ⟨w.heap.size, 0, none⟩) bz).trans b0
    have a1 := (h1.cell (p := ⟨w.heap.size, 1, none⟩) bz).trans b1
    have J1 := hid h1
    obtain ⟨w2, hw2⟩ : ∃ w2, w1.alloc (.cells #[.slice Ax N cx, .int .i64 Y] 24) = w2 := ⟨_, rfl⟩
    have J2 : Hid (Below wb.heap.size wb w2) := hid (by rw [← hw2]; exact h1.alloc h1.size _)
    have d0 : w2.cell? ⟨w1.heap.size, 0, none⟩ = some (.slice Ax N cx) := by rw [← hw2]; simp [go_sem]
    have d1 : w2.cell? ⟨w1.heap.size, 1, none⟩ = some (.int .i64 Y) := by rw [← hw2]; simp [go_sem]
    have D0 := hid (C0.out w2 _ d0 d1 J2.out)
    clear h1 hwb d0 d1
    go_wp2_with fail
    refine D0.out.mono ?_
    rintro _ w3 ⟨rfl, h3⟩
    have K3 : Hid (Below w.heap.size w w3) := hid (HKB.out.trans ((J2.out.trans (h3.mono J2.out.size)).mono HKB.out.size))
    clear h3 hw2
    go_wp2_with fail
    go_ret
    exact ⟨rfl, K3.out⟩
  | true =>
    obtain ⟨hu5, hx1⟩ := hfew rfl
    have hx2 : N ≤ 1099511627776 := by omega
    have D1 := hid (C1.out hx2)
    have D2 := hid (C2.out hx2)
    have D3 := hid (C3.out hx2)
    have D4 := hid (C4.out hx2)
    have D5 := hid (C5.out hx2)
    have D6 := hid (C6.out hx2)
    obtain ⟨hRl, hRr⟩ := HRWL.out hu5
    have HRL := hid hRl
    have HRR := hid hRr
    clear hfew C1 C2 C3 C4 C5 C6 hu5 hx1 hx2 hRl hRr HRWL
    go_enter Try.func3, Try.ntmps3
    go_wp2_with fail
    refine (ml_live _).mono ?_
    rintro _ w1 ⟨rfl, h1⟩
    have a0 := (h1.cell (p := ⟨w.heap.size, 0, none⟩) bz).trans b0
    have a1 := (h1.cell (p := ⟨w.heap.size, 1, none⟩) bz).trans b1
    have J1 := hid h1
    obtain ⟨w2, hw2⟩ : ∃ w2, w1.alloc (.cells #[.slice Ax N cx, .int .i64 Y] 24) = w2 := ⟨_, rfl⟩
    have J2 : Hid (Below wb.heap.size wb w2) := hid (by rw [← hw2]; exact h1.alloc h1.size _)
    have d0 : w2.cell? ⟨w1.heap.size, 0, none⟩ = some (.slice Ax N cx) := by rw [← hw2]; simp [go_sem]
    have d1 : w2.cell? ⟨w1.heap.size, 1, none⟩ = some (.int .i64 Y) := by rw [← hw2]; simp [go_sem]
    have D0 := hid (C0.out w2 _ d0 d1 J2.out)
    clear h1 hwb d0 d1
    go_wp2_with fail
    refine D0.out.mono ?_
    rintro _ w3 ⟨rfl, h3⟩
    have J3 : Hid (Below wb.heap.size wb w3) := hid (J2.out.trans (h3.mono J2.out.size))
    have x3 := (J3.out.cell (p := ⟨w.heap.size, 0, none⟩) bz).trans b0
    have y3 := (J3.out.cell (p := ⟨w.heap.size, 1, none⟩) bz).trans b1
    clear h3 hw2 a0 a1 D0 J1 J2 C0
    go_wp2_with fail
    refine (D1.out _ J3.out).mono ?_
    rintro _ w4 ⟨rfl, h4⟩
    have J4 : Hid (Below wb.heap.size wb w4) := hid (J3.out.trans (h4.mono J3.out.size))
    have x4 := (J4.out.cell (p := ⟨w.heap.size, 0, none⟩) bz).trans b0
    have y4 := (J4.out.cell (p := ⟨w.heap.size, 1, none⟩) bz).trans b1
    clear h4 x3 y3
    go_wp2_with fail
    refine (D2.out _ J4.out).mono ?_
    rintro _ w5 ⟨rfl, h5⟩
    have J5 : Hid (Below wb.heap.size wb w5) := hid (J4.out.trans (h5.mono J4.out.size))
    have x5 := (J5.out.cell (p := ⟨w.heap.size, 0, none⟩) bz).trans b0
    have y5 := (J5.out.cell (p := ⟨w.heap.size, 1, none⟩) bz).trans b1
    clear h5 x4 y4
    go_wp2_with fail
    refine (D3.out _ J5.out).mono ?_
    rintro _ w6 ⟨A6, c6, rfl, ho6, h6⟩
    have J6 : Hid (Below wb.heap.size wb w6) := hid (J5.out.trans (h6.mono J5.out.size))
    have R6 := hid (own_rd ho6)
    have HVL : Hid (V.length ≤ 9223372036854775807) := hid (by have := own_cap ho6; omega)
    have x6 := (J6.out.cell (p := ⟨w.heap.size, 0, none⟩) bz).trans b0
    have y6 := (J6.out.cell (p := ⟨w.heap.size, 1, none⟩) bz).trans b1
    clear h6 x5 y5 ho6
    go_wp2_with fail
    refine (D4.out _ J6.out).mono ?_
    rintro _ w7 ⟨A7, c7, rfl, ho7, h7⟩
    have J7 : Hid (Below wb.heap.size wb w7) := hid (J6.out.trans (h7.mono J6.out.size))
    have R6' := hid (R6.out.on h7)
    clear R6
    have R7 := hid (own_rd ho7)
    have x7 := (J7.out.cell (p := ⟨w.heap.size, 0, none⟩) bz).trans b0
    have y7 := (J7.out.cell (p := ⟨w.heap.size, 1, none⟩) bz).trans b1
    clear h7 x6 y6 ho7
    go_wp2_with fail
    refine (D5.out _ J7.out).mono ?_
    rintro _ w8 ⟨rfl, h8⟩
    have J8 : Hid (Below wb.heap.size wb w8) := hid (J7.out.trans (h8.mono J7.out.size))
    have R6'' := hid (R6'.out.on h8)
    clear R6'
    have R7' := hid (R7.out.on h8)
    clear R7
    have x8 := (J8.out.cell (p := ⟨w.heap.size, 0, none⟩) bz).trans b0
    have y8 := (J8.out.cell (p := ⟨w.heap.size, 1, none⟩) bz).trans b1
    clear h8 x7 y7
    go_wp2_with fail
    refine (D6.out _ J8.out).mono ?_
    rintro _ w9 ⟨rfl, h9⟩
    have J9 : Hid (Below wb.heap.size wb w9) := hid (J8.out.trans (h9.mono J8.out.size))
    have R6''' := hid (R6''.out.on h9)
    clear R6''
    have R7'' := hid (R7'.out.on h9)
    clear R7'
    have x9 := (J9.out.cell (p := ⟨w.heap.size, 0, none⟩) bz).trans b0
    have y9 := (J9.out.cell (p := ⟨w.heap.size, 1, none⟩) bz).trans b1
    clear h9 x8 y8
    go_wp2_with fail
    refine (C7.out _ J9.out).mono ?_
    rintro _ w10 ⟨A10, c10, B10, d10, rfl, ho10, hq10, hz10, h10⟩
    have J10 : Hid (Below wb.heap.size wb w10) := hid (J9.out.trans (h10.mono J9.out.size))
    have R6'''' := hid (R6'''.out.on h10)
    clear R6'''
    have R7''' := hid (R7''.out.on h10)
    clear R7''
    have R10 := hid ho10.rd
    have S10 := hid hz10.rd
    have HZL : Hid (Z.length ≤ 9223372036854775807) := hid (by omega)
    clear hq10
    have x10 := (J10.out.cell (p := ⟨w.heap.size, 0, none⟩) bz).trans b0
    have y10 := (J10.out.cell (p := ⟨w.heap.size, 1, none⟩) bz).trans b1
    clear h10 x9 y9 ho10 hz10
    go_wp2_with fail
    refine (C8.out _ J10.out).mono ?_
    rintro _ w11 ⟨A11, c11, B11, d11, rfl, ho11, hq11, hz11, h11⟩
    have J11 : Hid (Below wb.heap.size wb w11) := hid (J10.out.trans (h11.mono J10.out.size))
    have R6''''' := hid (R6''''.out.on h11)
    clear R6''''
    have R7'''' := hid (R7'''.out.on h11)
    clear R7'''
    have R10' := hid (R10.out.on h11)
    clear R10
    have S10' := hid (S10.out.on h11)
    clear S10
    have R11 := hid ho11.rd
    have S11 := hid hz11.rd
    clear hq11
    have x11 := (J11.out.cell (p := ⟨w.heap.size, 0, none⟩) bz).trans b0
    have y11 := (J11.out.cell (p := ⟨w.heap.size, 1, none⟩) bz).trans b1
    clear h11 x10 y10 ho11 hz11
    go_wp2_with fail
    refine (C9.out _).mono ?_
    rintro _ _ ⟨rfl, rfl⟩
    go_wp2_with fail
    refine (C10.out _).mono ?_
    rintro _ _ ⟨rfl, rfl⟩
    go_wp2_with fail
    refine (C11.out _ J11.out).mono ?_
    rintro _ w12 ⟨A12, c12, rfl, ho12, h12⟩
    have J12 : Hid (Below wb.heap.size wb w12) := hid (J11.out.trans (h12.mono J11.out.size))
    have R6'''''' := hid (R6'''''.out.on h12)
    clear R6'''''
    have R7''''' := hid (R7''''.out.on h12)
    clear R7''''
    have R10'' := hid (R10'.out.on h12)
    clear R10'
    have S10'' := hid (S10'.out.on h12)
    clear S10'
    have R11' := hid (R11.out.on h12)
    clear R11
    have S11' := hid (S11.out.on h12)
    clear S11
    have R12 := hid (own_rd ho12)
    have HBL : Hid (B.length ≤ 9223372036854775807) := hid (by have := own_cap ho12; omega)
    have x12 := (J12.out.cell (p := ⟨w.heap.size, 0, none⟩) bz).trans b0
    have y12 := (J12.out.cell (p := ⟨w.heap.size, 1, none⟩) bz).trans b1
    clear h12 x11 y11 ho12
    go_wp2_with fail
    refine (C12.out _ J12.out).mono ?_
    rintro _ w13 ⟨A13, c13, rfl, ho13, h13⟩
    have J13 : Hid (Below wb.heap.size wb w13) := hid (J12.out.trans (h13.mono J12.out.size))
    have R6''''''' := hid (R6''''''.out.on h13)
    clear R6''''''
    have R7'''''' := hid (R7'''''.out.on h13)
    clear R7'''''
    have R10''' := hid (R10''.out.on h13)
    clear R10''
    have S10''' := hid (S10''.out.on h13)
    clear S10''
    have R11'' := hid (R11'.out.on h13)
    clear R11'
    have S11'' := hid (S11'.out.on h13)
    clear S11'
    have R12' := hid (R12.out.on h13)
    clear R12
    have R13 := hid (own_rd ho13)
    have x13 := (J13.out.cell (p := ⟨w.heap.size, 0, none⟩) bz).trans b0
    have y13 := (J13.out.cell (p := ⟨w.heap.size, 1, none⟩) bz).trans b1
    clear h13 x12 y12 ho13
    have CV := hid (fun W (h : Below w13.heap.size w13 W) => sf_rsame (A := A6) (B := A7) (c := c6) (d := c7) V HVL.out W (R6'''''''.out.on h) (R7''''''.out.on h))
    have CZ := hid (fun W (h : Below w13.heap.size w13 W) => sf_rsame (A := B10) (B := B11) (c := d10) (d := d11) Z HZL.out W (S10'''.out.on h) (S11''.out.on h))
    have CB := hid (fun W (h : Below w13.heap.size w13 W) => sf_rsame (A := A12) (B := A13) (c := c12) (d := c13) B HBL.out W (R12'.out.on h) (R13.out.on h))
    have CR := hid (fun W (h : Below w13.heap.size w13 W) => ref_SameLists15 (A := A10) (B := A11) (c := c10) (d := c11) R (by have := HRL.out; omega) HRR.out W (R10'''.out.on h) (R11''.out.on h))
    have C13' := hid (fun W (b : Nat) (h0 : W.cell? ⟨b, 0, none⟩ = some (.slice Ax N cx)) (h1 : W.cell? ⟨b, 1, none⟩ = some (.int .i64 Y)) (h : Below w13.heap.size w13 W) => C13.out W b h0 h1 (J13.out.trans (h.mono J13.out.size)))
    have C14' := hid (fun W (b : Nat) (h0 : W.cell? ⟨b, 0, none⟩ = some (.slice Ax N cx)) (h1 : W.cell? ⟨b, 1, none⟩ = some (.int .i64 Y)) (h : Below w13.heap.size w13 W) => C14.out W b h0 h1 (J13.out.trans (h.mono J13.out.size)))
    have l9 : w.heap.size < w13.heap.size := Nat.lt_of_lt_of_le bz J13.out.size
    have S9 := hid (⟨x13, y13, (Below.refl _ _).drew⟩ : w13.drew.cell? ⟨w.heap.size, 0, none⟩ = some (.slice Ax N cx) ∧ w13.drew.cell? ⟨w.heap.size, 1, none⟩ = some (.int .i64 Y) ∧ Below w13.heap.size w13 w13.drew)
    have HS := hid (fun (W W' : World) (hb : Below W.heap.size W W') (h : W.cell? ⟨w.heap.size, 0, none⟩ = some (.slice Ax N cx) ∧ W.cell? ⟨w.heap.size, 1, none⟩ = some (.int .i64 Y) ∧ Below w13.heap.size w13 W) => (mtells_on l9 h hb : W'.cell? ⟨w.heap.size, 0, none⟩ = some (.slice Ax N cx) ∧ W'.cell? ⟨w.heap.size, 1, none⟩ = some (.int .i64 Y) ∧ Below w13.heap.size w13 W'))
    clear R6''''''' R7'''''' R10''' S10''' R11'' S11'' R12' R13 C7 C8 C9 C10 C11 C12 C13 C14 D1 D2 D3 D4 D5 D6 HRL HRR
    go_wp2_with fail
    dsimp only [List.append]
    go_region_held3 (fun w' => w'.cell? ⟨w.heap.size, 0, none⟩ = some (.slice Ax N cx) ∧ w'.cell? ⟨w.heap.size, 1, none⟩ = some (.int .i64 Y) ∧ Below w13.heap.size w13 w') (first | exact S9.out | exact HS.out _ _ ha S9.out | exact HS.out _ _ (by assumption) (by assumption) | exact HS.out _ _ (ml_grow _ _) (by assumption) | go_keep)
      (first | (go_at_call 22; with_reducible refine (CV.out _ (mtells_bel (by assumption))).mono ?_; rintro _ va ⟨rfl, ha⟩) | (go_at_call 23; with_reducible refine (CR.out _ (mtells_bel (by assumption))).mono ?_; rintro _ vc ⟨rfl, hc⟩) | (go_at_call 22; with_reducible refine (CZ.out _ (mtells_bel (by assumption))).mono ?_; rintro _ vb ⟨rfl, hb⟩) | (go_at_call 22; with_reducible refine (CB.out _ (mtells_bel (by assumption))).mono ?_; rintro _ vf ⟨rfl, hf⟩) | (go_at_call 24; refine (C13'.out _ _ (by simp [go_sem]) (by simp [go_sem]) (mtells_bel (by assumption))).mono ?_; rintro _ vd ⟨rfl, hd⟩) | (go_at_call 25; refine (C14'.out _ _ (by first | (simp [go_sem]; done) | exact (hd.cell (by first | (simp; done) | (simp; omega))).trans (by simp [go_sem])) (by first | (simp [go_sem]; done) | exact (hd.cell (by first | (simp; done) | (simp; omega))).trans (by simp [go_sem])) (mtells_bel (by assumption))).mono ?_; rintro _ ve ⟨rfl, he⟩) | fail)
    all_goals (
      have JC : Below w13.heap.size w13 ve := mtells_bel (w := w) (N := N) (cx := cx) (Ax := Ax) (Y := Y) (by assumption)
      have KC := hid (HKB.out.trans ((J13.out.trans (JC.mono J13.out.size)).mono HKB.out.size))
      clear JC
      go_wp2_with fail
      go_ret
      exact ⟨rfl, KC.out⟩)
theorem law_types : ∀ t ∈ Try.f3.params.toList, Try.prog.readableRec t = true ∧ t < Try.prog.types.size := by
  have h : (Try.f3.params.toList.all fun t => Try.prog.readableRec t && decide (t < Try.prog.types.size)) = true := by kernel_rfl
  intro t ht
  simpa using List.all_eq_true.1 h t ht
set_option maxRecDepth 100000 in
theorem lifted (os : Os) (started : os.Started) (H : Type) (enc : TypeId × Value → H) :
    ReturnsInHanded {} Try.checked os 3 .any (Rows.mlpTellsSpec.pre6 enc Try.prog Try.f3 Rows.mlpTellsRow.domain false) (Rows.mlpTellsSpec.post enc Try.prog Try.f3 false true false false) := by
  refine returnsInHanded_of_change (C := Try.checked) own started (by kernel_rfl) Try.func3
    (ChangeSpec.witness6 (enc := enc) (C := Try.checked) false ⟨#[], #[.int .i64 0, .int .i64 0, .slice none 0 0, .agg #[.slice none 0 0, .int .i64 0], .int .i64 0], []⟩ 8 (by kernel_rfl) (by kernel_rfl) (by kernel_rfl) (by kernel_rfl)) ?_
  intro W base args ds gs before hval0 hW hcnd _
  have hval : ∀ (j : Nat) t v, Try.f3.params[j]? = some t → args[j]? = some v → Value.okWide Try.prog W .any base t v := hval0
  have hW' := hW
  obtain ⟨p, q, hA0, hV, rfl, hfz, hnd⟩ := hW
  have hA : DataW.TrodAll enc Try.prog W 0 (fun _ => true) true Try.f3.params.toList args.toList ds p := hA0
  rw [Try.params3] at hA hval
  obtain ⟨v0, vs0, d0, ds0, p0, q0, hargs, rfl, rfl, h0, r0⟩ := trodAll_cons hA
  obtain ⟨v1, vs1, d1, ds1, p1, q1, rfl, rfl, rfl, h1, r1⟩ := trodAll_cons r0
  obtain ⟨v2, vs2, d2, ds2, p2, q2, rfl, rfl, rfl, h2, r2⟩ := trodAll_cons r1
  obtain ⟨v3, vs3, d3, ds3, p3, q3, rfl, rfl, rfl, h3, r3⟩ := trodAll_cons r2
  obtain ⟨v4, vs4, d4, ds4, p4, q4, rfl, rfl, rfl, h4, r4⟩ := trodAll_cons r3
  obtain ⟨rfl, rfl, rfl⟩ := trodAll_nil r4
  obtain rfl : args = #[v0, v1, v2, v3, v4] := by cases args; simp_all
  obtain ⟨rfl, rfl⟩ := trodVars_none hV
  obtain ⟨n, rfl, rfl, rfl, w0⟩ := open_int Try.underlying3 (hval 0 3 v0 rfl rfl) h0
  obtain ⟨o, rfl, rfl, rfl, w1⟩ := open_int Try.underlying3 (hval 1 3 v1 rfl rfl) h1
  obtain ⟨Au, u, cu, rfl, rdu, iu, lcu, lmu⟩ := open_nums Try.underlying22 Try.underlying2 cells_i64' (hval 2 22 v2 rfl rfl) h2
  obtain ⟨Ax, x, cx, xY, rfl, rdx, ix, iYx, lcx, lmx⟩ := open_smp (hval 3 24 v3 rfl rfl) h3
  obtain ⟨f, rfl, rfl, rfl, w4⟩ := open_int Try.underlying3 (hval 4 3 v4 rfl rfl) h4
  clear hA0 hval0
  refine (walk n o Au u cu Ax x cx xY f W (I64.of_wf w0) (I64.of_wf w1) rdu (fun x hx => I64.of_wf (iu x hx)) lcu lmu rdx ix iYx lcx lmx (I64.of_wf w4)).mono fun e W' ⟨he, hb⟩ => ?_
  subst he
  exact ⟨_, rfl, law_post laid (fun t ht => law_types t ht) rfl hW' ⟨rfl, rfl, rfl⟩ (by kernel_rfl) Try.underlying4 hb⟩

theorem over : Rows.mlpTellsRow.holds Try.pinned (OpenSpec.ofChange Rows.mlpTellsSpec) :=
  OpenClaim.holds_of_wide 3 Try.f3 rfl rfl rfl rfl rfl rfl rfl ⟨rfl, rfl, rfl, rfl, rfl⟩ rfl rfl rfl rfl rfl (by kernel_rfl) Try.func3 (by kernel_rfl)
    (of_decide_eq_true (by kernel_rfl)) (by unfold Func.isWrapper; first | (rw [if_pos (by decide +kernel)]; kernel_rfl) | (rw [if_neg (by decide +kernel)]; exact ⟨rfl, rfl⟩))
    (fun os started H enc _ => lifted os started H enc)

theorem proved : Rows.MlpTellsSaid := over
end Go.Proofs.Ytekpejemfkjhcaa.MlpTells
