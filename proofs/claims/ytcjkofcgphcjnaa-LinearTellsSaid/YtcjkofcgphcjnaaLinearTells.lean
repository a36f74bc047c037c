
/-
  LinearTells answers true for every input. No condition.
-/
import Derived.Test.YtcjkofcgphcjnaaGe
import Derived.Test.YtcjkofcgphcjnaaGc
import Derived.Test.YtcjkofcgphcjnaaGa
namespace Go.Proofs.Ytcjkofcgphcjnaa.LinearTells
open Go.ChangeShapes Go.WideShapes Go.ChangeAt Go.RowKit
set_option maxHeartbeats 400000
set_option linter.unusedVariables false
open Go.Proofs.Ytcjkofcgphcjnaa
theorem tells_smp {W : World} {b N cx : Nat} {Ax : Option Addr} {x : List Int} {Y : Int} (hx : x.length = N) (h0 : W.cell? ⟨b, 0, none⟩ = some (.slice Ax N cx)) (h1 : W.cell? ⟨b, 1, none⟩ = some (.int .i64 Y)) (rx : Rd (Value.int .i64) W W.heap.size Ax x) : RdSm W W.heap.size (some ⟨b, 0, none⟩) [⟨x, Y⟩] := fun k s hs => by
  cases k with
  | zero =>
    simp only [List.getElem?_cons_zero, Option.some.injEq] at hs
    subst hs
    exact ⟨b, 0, Ax, cx, rfl, lt_of_cell h0, by rw [hx]; exact h0, h1, rx⟩
  | succ k => simp at hs
theorem tells_on {w wb W W' : World} {N cx : Nat} {Ax : Option Addr} {Y : Int} (bz : w.heap.size < wb.heap.size) (h : W.cell? ⟨w.heap.size, 0, none⟩ = some (.slice Ax N cx) ∧ W.cell? ⟨w.heap.size, 1, none⟩ = some (.int .i64 Y) ∧ Below wb.heap.size wb W) (hb : Below W.heap.size W W') :
    W'.cell? ⟨w.heap.size, 0, none⟩ = some (.slice Ax N cx) ∧ W'.cell? ⟨w.heap.size, 1, none⟩ = some (.int .i64 Y) ∧ Below wb.heap.size wb W' :=
  ⟨(hb.cell (p := ⟨w.heap.size, 0, none⟩) (Nat.lt_of_lt_of_le bz h.2.2.size)).trans h.1, (hb.cell (p := ⟨w.heap.size, 1, none⟩) (Nat.lt_of_lt_of_le bz h.2.2.size)).trans h.2.1, h.2.2.trans (hb.mono h.2.2.size)⟩
theorem tells_bel {w wb W : World} {N cx : Nat} {Ax : Option Addr} {Y : Int} (h : W.cell? ⟨w.heap.size, 0, none⟩ = some (.slice Ax N cx) ∧ W.cell? ⟨w.heap.size, 1, none⟩ = some (.int .i64 Y) ∧ Below wb.heap.size wb W) : Below wb.heap.size wb W := h.2.2
set_option maxHeartbeats 4000000 in
set_option maxRecDepth 100000 in
theorem walk (n : Int) (Au : Option Addr) (u : List Int) (cu : Nat) (Ax : Option Addr) (x : List Int) (cx : Nat) (Y : Int) (f m : Int) (Al : Option Addr) (l : List (List Int)) (cl : Nat) (w : World) (hn : I64 n)
    (ru : Rd (Value.int .i64) w w.heap.size Au u) (iu : I64s u) (lcu : u.length ≤ cu) (lmu : cu ≤ 9223372036854775807)
    (rx : Rd (Value.int .i64) w w.heap.size Ax x) (ix : I64s x) (iY : I64 Y) (lcx : x.length ≤ cx) (lmx : cx ≤ 9223372036854775807) (hf : I64 f) (hm : I64 m)
    (rl : RdRows w w.heap.size Al l) (il : ∀ v ∈ l, I64s v ∧ v.length ≤ 9223372036854775807) (lcl : l.length ≤ cl) (lml : cl ≤ 9223372036854775807) :
    Calls Try.prog 3 #[.int .i64 n, .slice Au u.length cu, .agg #[.slice Ax x.length cx, .int .i64 Y], .int .i64 f, .int .i64 m, .slice Al l.length cl] w fun e w' => e = .returned (.bool true) ∧ Below w.heap.size w w' := by
  have hul : u.length ≤ 9223372036854775807 := by omega
  have hxl : x.length ≤ 9223372036854775807 := by omega
  obtain ⟨N, hN⟩ : ∃ N, x.length = N := ⟨_, rfl⟩
  obtain ⟨wb, hwb⟩ : ∃ wb, w.alloc (.cells #[.slice Ax N cx, .int .i64 Y] 24) = wb := ⟨_, rfl⟩
  have kb : Below w.heap.size w wb := by rw [← hwb]; exact ln_grow _ _
  have bz : w.heap.size < wb.heap.size := by rw [← hwb]; simp
  have b0 : wb.cell? ⟨w.heap.size, 0, none⟩ = some (.slice Ax N cx) := by rw [← hwb]; simp [go_sem]
  have b1 : wb.cell? ⟨w.heap.size, 1, none⟩ = some (.int .i64 Y) := by rw [← hwb]; simp [go_sem]
  have C0 := hid (fun W (b : Nat) (h0 : W.cell? ⟨b, 0, none⟩ = some (.slice Ax N cx)) (h1 : W.cell? ⟨b, 1, none⟩ = some (.int .i64 Y)) (h : Below wb.heap.size wb W) => ref_Few14 (Aw := Au) (A := some ⟨b, 0, none⟩) (cw := cu) (c := 1) u.length hul [⟨x, Y⟩] (by simp) W (tells_smp hN h0 h1 ((rx.on kb).on h)))
  have C1 := hid (fun W (h : Below wb.heap.size wb W) => ln_Tell (Aw := Au) (Ax := Ax) (cw := cu) (cx := cx) u x lcu lmu hxl iu ix f W ((ru.on kb).on h) ((rx.on kb).on h))
  have C2 := hid (fun W (h : Below wb.heap.size wb W) => ref_Tell14 (Aw := Au) (Ax := Ax) (cw := cu) (cx := cx) u x lcu lmu hxl iu ix f W ((ru.on kb).on h) ((rx.on kb).on h))
  have C3 := hid (fun W (h : Below wb.heap.size wb W) => ln_Off (Aw := Au) (Ax := Ax) (cw := cu) (cx := cx) u ⟨x, Y⟩ lcu lmu hxl iu ix iY f W ((ru.on kb).on h) ((rx.on kb).on h))
  have C4 := hid (fun W (h : Below wb.heap.size wb W) => ref_Off14 (Aw := Au) (Ax := Ax) (cw := cu) (cx := cx) u ⟨x, Y⟩ lcu lmu hxl iu ix iY f W ((ru.on kb).on h) ((rx.on kb).on h))
  have C7 := hid (fun W => ln_Dim n hn W)
  have C8 := hid (fun W => ref_Dim14 n hn W)
  have C9 := hid (fun W (b : Nat) (h0 : W.cell? ⟨b, 0, none⟩ = some (.slice Ax N cx)) (h1 : W.cell? ⟨b, 1, none⟩ = some (.int .i64 Y)) (h : Below wb.heap.size wb W) => ln_Check (Aw := Au) (A := some ⟨b, 0, none⟩) (cw := cu) (c := 1) n hn u hul [⟨x, Y⟩] (by simp) (fun s hs => by simp at hs; subst hs; exact hxl) W (tells_smp hN h0 h1 ((rx.on kb).on h)))
  have C10 := hid (fun W (b : Nat) (h0 : W.cell? ⟨b, 0, none⟩ = some (.slice Ax N cx)) (h1 : W.cell? ⟨b, 1, none⟩ = some (.int .i64 Y)) (h : Below wb.heap.size wb W) => ref_Check14 (Aw := Au) (A := some ⟨b, 0, none⟩) (cw := cu) (c := 1) n hn u hul [⟨x, Y⟩] (by simp) (fun s hs => by simp at hs; subst hs; exact hxl) W (tells_smp hN h0 h1 ((rx.on kb).on h)))
  have C5 := hid (fun (h1 : l.length ≤ 100) (h2 : ∀ v ∈ l, v.length ≤ 500) W (h : Below wb.heap.size wb W) => ln_Mean (A := Al) (c := cl) m hm l (fun v hv => ⟨(il v hv).1, by have := h2 v hv; omega⟩) (by omega) lcl W ((rl.on kb).on h))
  have C6 := hid (fun (h1 : l.length ≤ 100) (h2 : ∀ v ∈ l, v.length ≤ 500) W (h : Below wb.heap.size wb W) => ref_Mean14 (A := Al) (c := cl) m hm l (fun v hv => ⟨(il v hv).1, by have := h2 v hv; omega⟩) (by omega) W ((rl.on kb).on h))
  have hmv := hid (fun (h1 : l.length ≤ 100) (h2 : ∀ v ∈ l, v.length ≤ 500) => sumAll_len (rows := l) (fun v hv => ⟨(il v hv).1, by have := h2 v hv; omega⟩))
  have hvl : Hid (∀ (h1 : l.length ≤ 100) (h2 : ∀ v ∈ l, v.length ≤ 500), (lmV m l).length ≤ 9223372036854775807) := hid (fun h1 h2 => by
    have := hmv.out h1 h2
    unfold lmV
    split
    · rw [List.length_map]; omega
    · simp)
  obtain ⟨F, hF⟩ : ∃ F, fewL u.length [⟨x, Y⟩] = F := ⟨_, rfl⟩
  obtain ⟨T, hT⟩ : ∃ T, ltV u x f = T := ⟨_, rfl⟩
  obtain ⟨E, hE⟩ : ∃ E, ltE u x f = E := ⟨_, rfl⟩
  obtain ⟨Z, hZ⟩ : ∃ Z, loV u ⟨x, Y⟩ f = Z := ⟨_, rfl⟩
  obtain ⟨G, hG⟩ : ∃ G, loE u ⟨x, Y⟩ f = G := ⟨_, rfl⟩
  obtain ⟨V, hV⟩ : ∃ V, lmV m l = V := ⟨_, rfl⟩
  obtain ⟨J, hJ⟩ : ∃ J, lmE m l = J := ⟨_, rfl⟩
  obtain ⟨Q, hQ⟩ : ∃ Q, lcE n u [⟨x, Y⟩] = Q := ⟨_, rfl⟩
  obtain ⟨P, hP⟩ : ∃ P, ldV n = P := ⟨_, rfl⟩
  obtain ⟨O, hO⟩ : ∃ O, ldE n = O := ⟨_, rfl⟩
  obtain ⟨U, hU⟩ : ∃ U, u.length = U := ⟨_, rfl⟩
  obtain ⟨M, hM⟩ : ∃ M, l.length = M := ⟨_, rfl⟩
  rw [hF] at C0
  rw [hT, hE] at C1 C2
  rw [hZ, hG] at C3 C4
  rw [hV, hJ] at C5 C6
  rw [hV] at hvl
  rw [hP, hO] at C7 C8
  rw [hQ] at C9 C10
  rw [hU] at C0 C1 C2 C3 C4 C9 C10 ⊢
  have hsl : ([⟨x, Y⟩] : List SmpV).length = 1 := rfl
  rw [hsl] at C0 C9 C10
  rw [hN] at C1 C2 C3 C4 ⊢
  rw [hM] at C5 C6 hvl ⊢
  have HM := hid hM
  have HML : Hid (M ≤ 9223372036854775807) := hid (by omega)
  have RL := hid (rl.on kb)
  have HKB := hid kb
  clear hF hT hE hZ hG hV hJ hQ hP hO hU hM hN hsl hmv ru rx rl iu ix iY il lcu lmu lcx lmx lcl lml hn hf hm hul hxl kb
  cases F with
  | false =>
    go_enter Try.func3, Try.ntmps3
    go_wp2_with fail
    refine (ln_live _).mono ?_
    rintro _ w1 ⟨rfl, h1⟩
    have a0 := (h1.cell (p := ⟨w.heap.size, 0, none⟩) bz).trans b0
    have a1 := (h1.cell (p := ⟨w.heap.size, 1, none⟩) bz).trans b1
    have J1 := hid h1
    obtain ⟨w2, hw2⟩ : ∃ w2, w1.alloc (.cells #[.slice Ax N cx, .int .i64 Y] 24) = w2 := ⟨_, rfl⟩
    have J2 : Hid (Below wb.heap.size wb w2) := hid (by rw [← hw2]; exact h1.alloc h1.size _)
    have d0 : w2.cell? ⟨w1.heap.size, 0, none⟩ = some (.slice Ax N cx) := by rw [← hw2]; simp [go_sem]
    have d1 : w2.cell? ⟨w1.heap.size, 1, none⟩ = some (.int .i64 Y) := by rw [← hw2]; simp [go_sem]
    have D0 := hid (C0.out w2 _ d0 d1 J2.out)
    clear h1 hwb d0 d1
    go_wp2_with fail
    refine D0.out.mono ?_
    rintro _ w3 ⟨rfl, h3⟩
    have K3 : Hid (Below w.heap.size w w3) := hid (HKB.out.trans ((J2.out.trans (h3.mono J2.out.size)).mono HKB.out.size))
    clear h3 hw2
    go_wp2_with fail
    go_ret
    exact ⟨rfl, K3.out⟩
  | true =>
    go_enter Try.func3, Try.ntmps3
    go_wp2_with fail
    refine (ln_live _).mono ?_
    rintro _ w1 ⟨rfl, h1⟩
    have a0 := (h1.cell (p := ⟨w.heap.size, 0, none⟩) bz).trans b0
    have a1 := (h1.cell (p := ⟨w.heap.size, 1, none⟩) bz).trans b1
    have J1 := hid h1
    obtain ⟨w2, hw2⟩ : ∃ w2, w1.alloc (.cells #[.slice Ax N cx, .int .i64 Y] 24) = w2 := ⟨_, rfl⟩
    have J2 : Hid (Below wb.heap.size wb w2) := hid (by rw [← hw2]; exact h1.alloc h1.size _)
    have d0 : w2.cell? ⟨w1.heap.size, 0, none⟩ = some (.slice Ax N cx) := by rw [← hw2]; simp [go_sem]
    have d1 : w2.cell? ⟨w1.heap.size, 1, none⟩ = some (.int .i64 Y) := by rw [← hw2]; simp [go_sem]
    have D0 := hid (C0.out w2 _ d0 d1 J2.out)
    clear h1 hwb d0 d1
    go_wp2_with fail
    refine D0.out.mono ?_
    rintro _ w3 ⟨rfl, h3⟩
    have J3 : Hid (Below wb.heap.size wb w3) := hid (J2.out.trans (h3.mono J2.out.size))
    clear h3 hw2 a0 a1 D0 J1 J2
    by_cases hM : M > 100
    · have hMi : (M : Int) > 100 := by omega
      clear hM
      go_wp2_with fail
      go_ret
      exact ⟨rfl, HKB.out.trans (J3.out.mono HKB.out.size)⟩
    · have hMi : ¬ (M : Int) > 100 := by omega
      have HM100 : Hid (M ≤ 100) := hid (by omega)
      have hMb : M ≤ 100 := by omega
      clear hM
      go_wp2_with fail
      clear hMi
      go_loopw [15, 48] (fun _ xi wr => ∃ k : Nat, k ≤ M ∧ xi = .int .i64 (k : Int) ∧ (∀ j v, j < k → l[j]? = some v → v.length ≤ 500) ∧ Below wb.heap.size wb wr) (fun _ xi _ => M - (intOf xi).toNat)
      case atStart => exact ⟨0, Nat.zero_le _, rfl, fun j v hj => by omega, J3.out⟩
      case round =>
        obtain ⟨k, hk, rfl, hall, hbel⟩ := hrel
        have HA := hid hall
        have HB := hid hbel
        clear hall J3
        by_cases hlt : k < M
        · have hkl : k < l.length := by rw [HM.out]; exact hlt
          obtain ⟨b, o, A2, c2, rfl, l2, e2, rr⟩ := (RL.out.on hbel) k _ (List.getElem?_eq_getElem hkl)
          obtain ⟨v, hv⟩ : ∃ v, l[k] = v := ⟨_, rfl⟩
          have HV : Hid (l[k]? = some v) := hid (by rw [← hv]; exact List.getElem?_eq_getElem hkl)
          rw [hv] at e2
          obtain ⟨q, hq⟩ : ∃ q, v.length = q := ⟨_, rfl⟩
          rw [hq] at e2
          have HQ := hid hq
          clear rr hv hq hkl hbel
          by_cases h5 : q > 500
          · have h5i : (q : Int) > 500 := by omega
            clear h5
            go_wp2_with fail
            go_ret
            exact ⟨rfl, HKB.out.trans (HB.out.mono HKB.out.size)⟩
          · have h5i : ¬ (q : Int) > 500 := by omega
            have H5 : Hid (q ≤ 500) := hid (by omega)
            clear h5
            go_wp2_with fail
            go_roundw
            case rel =>
              refine ⟨k + 1, hlt, by go_num, ?_, HB.out⟩
              intro j v' hj hv'
              by_cases e : j = k
              · subst e
                obtain rfl : v = v' := Option.some.inj (HV.out.symm.trans hv')
                rw [HQ.out]; exact H5.out
              · exact HA.out j v' (by omega) hv'
            case measure => (try clear h5i); simp [intOf]; omega
        · obtain rfl : k = M := by omega
          have h500 : ∀ v ∈ l, v.length ≤ 500 := fun v hv => by
            obtain ⟨j, hj, rfl⟩ := List.mem_iff_getElem.1 hv
            exact HA.out j _ (by rw [← HM.out]; exact hj) (List.getElem?_eq_getElem hj)
          have D5 := hid (C5.out HM100.out h500)
          have D6 := hid (C6.out HM100.out h500)
          have hVl := hvl.out HM100.out h500
          have a0 := (hbel.cell (p := ⟨w.heap.size, 0, none⟩) bz).trans b0
          have a1 := (hbel.cell (p := ⟨w.heap.size, 1, none⟩) bz).trans b1
          clear h500 HA hbel C5 C6 hvl C0
          go_wp2_with fail
          refine (C1.out _ HB.out).mono ?_
          rintro _ w4 ⟨rfl, h4⟩
          have J4 : Hid (Below wb.heap.size wb w4) := hid (HB.out.trans (h4.mono HB.out.size))
          have a2 := (J4.out.cell (p := ⟨w.heap.size, 0, none⟩) bz).trans b0
          have a3 := (J4.out.cell (p := ⟨w.heap.size, 1, none⟩) bz).trans b1
          clear h4 a0 a1
          go_wp2_with fail
          refine (C2.out _ J4.out).mono ?_
          rintro _ w5 ⟨rfl, h5⟩
          have J5 : Hid (Below wb.heap.size wb w5) := hid (J4.out.trans (h5.mono J4.out.size))
          have a0 := (J5.out.cell (p := ⟨w.heap.size, 0, none⟩) bz).trans b0
          have a1 := (J5.out.cell (p := ⟨w.heap.size, 1, none⟩) bz).trans b1
          clear h5 a2 a3
          go_wp2_with fail
          refine (C3.out _ J5.out).mono ?_
          rintro _ w6 ⟨rfl, h6⟩
          have J6 : Hid (Below wb.heap.size wb w6) := hid (J5.out.trans (h6.mono J5.out.size))
          have a2 := (J6.out.cell (p := ⟨w.heap.size, 0, none⟩) bz).trans b0
          have a3 := (J6.out.cell (p := ⟨w.heap.size, 1, none⟩) bz).trans b1
          clear h6 a0 a1
          go_wp2_with fail
          refine (C4.out _ J6.out).mono ?_
          rintro _ w7 ⟨rfl, h7⟩
          have J7 : Hid (Below wb.heap.size wb w7) := hid (J6.out.trans (h7.mono J6.out.size))
          clear h7 a2 a3
          go_wp2_with fail
          refine (D5.out _ J7.out).mono ?_
          rintro _ w8 ⟨A8, c8, rfl, ho8, h8⟩
          have J8 : Hid (Below wb.heap.size wb w8) := hid (J7.out.trans (h8.mono J7.out.size))
          have R8 := hid (own_rd ho8)
          clear h8 ho8
          go_wp2_with fail
          refine (D6.out _ J8.out).mono ?_
          rintro _ w9 ⟨A9, c9, rfl, ho9, h9⟩
          have J9 : Hid (Below wb.heap.size wb w9) := hid (J8.out.trans (h9.mono J8.out.size))
          have R9 := hid (own_rd ho9)
          have R8' := hid (R8.out.on h9)
          clear h9 ho9
          go_wp2_with fail
          refine (C7.out _).mono ?_
          rintro _ _ ⟨rfl, rfl⟩
          go_wp2_with fail
          refine (C8.out _).mono ?_
          rintro _ _ ⟨rfl, rfl⟩
          have CS := hid (fun W (h : Below w9.heap.size w9 W) => ln_rsame (A := A8) (B := A9) (c := c8) (d := c9) V hVl W (R8'.out.on h) (R9.out.on h))
          have a0 := (J9.out.cell (p := ⟨w.heap.size, 0, none⟩) bz).trans b0
          have a1 := (J9.out.cell (p := ⟨w.heap.size, 1, none⟩) bz).trans b1
          have l9 : w.heap.size < w9.heap.size := Nat.lt_of_lt_of_le bz J9.out.size
          clear hVl R8 R8' R9 HB J4 J5 J6 J7 J8 C1 C2 C3 C4 C7 C8 D5 D6
          go_wp2_with fail
          have S9 := hid (⟨a0, a1, J9.out.drew⟩ : w9.drew.cell? ⟨w.heap.size, 0, none⟩ = some (.slice Ax N cx) ∧ w9.drew.cell? ⟨w.heap.size, 1, none⟩ = some (.int .i64 Y) ∧ Below wb.heap.size wb w9.drew)
          have HS := hid (fun (W W' : World) (h : W.cell? ⟨w.heap.size, 0, none⟩ = some (.slice Ax N cx) ∧ W.cell? ⟨w.heap.size, 1, none⟩ = some (.int .i64 Y) ∧ Below wb.heap.size wb W) (hb : Below W.heap.size W W') => (tells_on bz h hb : W'.cell? ⟨w.heap.size, 0, none⟩ = some (.slice Ax N cx) ∧ W'.cell? ⟨w.heap.size, 1, none⟩ = some (.int .i64 Y) ∧ Below wb.heap.size wb W'))
          go_region_held3 (fun w' => w'.cell? ⟨w.heap.size, 0, none⟩ = some (.slice Ax N cx) ∧ w'.cell? ⟨w.heap.size, 1, none⟩ = some (.int .i64 Y) ∧ Below wb.heap.size wb w') (first | exact S9.out | exact HS.out _ _ S9.out ha | exact HS.out _ _ (by assumption) (ln_grow _ _) | exact HS.out _ _ (by assumption) hb | exact HS.out _ _ (by assumption) hc | go_keep)
            (first | (go_at_call 19; refine (CS.out _ ((Below.refl _ _).drew)).mono ?_; rintro _ va ⟨rfl, ha⟩) | (go_at_call 20; refine (C9.out _ _ (by simp [go_sem]) (by simp [go_sem]) (tells_bel (by assumption))).mono ?_; rintro _ vb ⟨rfl, hb⟩) | (go_at_call 21; refine (C10.out _ _ (by first | (simp [go_sem]; done) | exact (hb.cell (by first | (simp; done) | (simp; omega))).trans (by simp [go_sem])) (by first | (simp [go_sem]; done) | exact (hb.cell (by first | (simp; done) | (simp; omega))).trans (by simp [go_sem])) (tells_bel (by assumption))).mono ?_; rintro _ vc ⟨rfl, hc⟩) | fail)
          all_goals (
            have JC : Below wb.heap.size wb vc := tells_bel (N := N) (cx := cx) (Ax := Ax) (Y := Y) (by assumption)
            have KC := hid (HKB.out.trans (JC.mono HKB.out.size))
            clear JC
            go_wp2_with fail
            go_ret
            exact ⟨rfl, KC.out⟩)
theorem law_types : ∀ t ∈ Try.f3.params.toList, Try.prog.readableRec t = true ∧ t < Try.prog.types.size := by
  have h : (Try.f3.params.toList.all fun t => Try.prog.readableRec t && decide (t < Try.prog.types.size)) = true := by kernel_rfl
  intro t ht
  simpa using List.all_eq_true.1 h t ht
set_option maxRecDepth 100000 in
theorem lifted (os : Os) (started : os.Started) (H : Type) (enc : TypeId × Value → H) :
    ReturnsInHanded {} Try.checked os 3 .any (Rows.linearTellsSpec.pre6 enc Try.prog Try.f3 Rows.linearTellsRow.domain false) (Rows.linearTellsSpec.post enc Try.prog Try.f3 false true false false) := by
  refine returnsInHanded_of_change (C := Try.checked) own started (by kernel_rfl) Try.func3
    (ChangeSpec.witness6 (enc := enc) (C := Try.checked) false ⟨#[], #[.int .i64 0, .slice none 0 0, .agg #[.slice none 0 0, .int .i64 0], .int .i64 0, .int .i64 0, .slice none 0 0], []⟩ 8 (by kernel_rfl) (by kernel_rfl) (by kernel_rfl) (by kernel_rfl)) ?_
  intro W base args ds gs before hval0 hW hcnd _
  have hval : ∀ (j : Nat) t v, Try.f3.params[j]? = some t → args[j]? = some v → Value.okWide Try.prog W .any base t v := hval0
  have hW' := hW
  obtain ⟨p, q, hA0, hV, rfl, hfz, hnd⟩ := hW
  have hA : DataW.TrodAll enc Try.prog W 0 (fun _ => true) true Try.f3.params.toList args.toList ds p := hA0
  rw [Try.params3] at hA hval
  obtain ⟨v0, vs0, d0, ds0, p0, q0, hargs, rfl, rfl, h0, r0⟩ := trodAll_cons hA
  obtain ⟨v1, vs1, d1, ds1, p1, q1, rfl, rfl, rfl, h1, r1⟩ := trodAll_cons r0
  obtain ⟨v2, vs2, d2, ds2, p2, q2, rfl, rfl, rfl, h2, r2⟩ := trodAll_cons r1
  obtain ⟨v3, vs3, d3, ds3, p3, q3, rfl, rfl, rfl, h3, r3⟩ := trodAll_cons r2
  obtain ⟨v4, vs4, d4, ds4, p4, q4, rfl, rfl, rfl, h4, r4⟩ := trodAll_cons r3
  obtain ⟨v5, vs5, d5, ds5, p5, q5, rfl, rfl, rfl, h5, r5⟩ := trodAll_cons r4
  obtain ⟨rfl, rfl, rfl⟩ := trodAll_nil r5
  obtain rfl : args = #[v0, v1, v2, v3, v4, v5] := by cases args; simp_all
  obtain ⟨rfl, rfl⟩ := trodVars_none hV
  obtain ⟨n, rfl, rfl, rfl, w0⟩ := open_int Try.underlying3 (hval 0 3 v0 rfl rfl) h0
  obtain ⟨Au, u, cu, rfl, rdu, iu, lcu, lmu⟩ := open_nums Try.underlying22 Try.underlying2 cells_i64' (hval 1 22 v1 rfl rfl) h1
  obtain ⟨Ax, x, cx, xY, rfl, rdx, ix, iYx, lcx, lmx⟩ := open_smp (hval 2 24 v2 rfl rfl) h2
  obtain ⟨f, rfl, rfl, rfl, w3⟩ := open_int Try.underlying3 (hval 3 3 v3 rfl rfl) h3
  obtain ⟨m, rfl, rfl, rfl, w4⟩ := open_int Try.underlying3 (hval 4 3 v4 rfl rfl) h4
  obtain ⟨Al, l, cl, rfl, rdl, il, lcl, lml⟩ := open_rows Try.underlying25 Try.underlying22 Try.underlying2 cells_i64s cells_i64 (hval 5 25 v5 rfl rfl) h5
  clear hA0 hval0
  refine (walk n Au u cu Ax x cx xY f m Al l cl W (I64.of_wf w0) rdu (fun x hx => I64.of_wf (iu x hx)) lcu lmu rdx ix iYx lcx lmx (I64.of_wf w3) (I64.of_wf w4) rdl il lcl lml).mono fun e W' ⟨he, hb⟩ => ?_
  subst he
  exact ⟨_, rfl, law_post laid (fun t ht => law_types t ht) rfl hW' ⟨rfl, rfl, rfl⟩ (by kernel_rfl) Try.underlying4 hb⟩

theorem over : Rows.linearTellsRow.holds Try.pinned (OpenSpec.ofChange Rows.linearTellsSpec) :=
  OpenClaim.holds_of_wide 3 Try.f3 rfl rfl rfl rfl rfl rfl rfl ⟨rfl, rfl, rfl, rfl, rfl⟩ rfl rfl rfl rfl rfl (by kernel_rfl) Try.func3 (by kernel_rfl)
    (of_decide_eq_true (by kernel_rfl)) (by unfold Func.isWrapper; first | (rw [if_pos (by decide +kernel)]; kernel_rfl) | (rw [if_neg (by decide +kernel)]; exact ⟨rfl, rfl⟩))
    (fun os started H enc _ => lifted os started H enc)

theorem proved : Rows.LinearTellsSaid := over
end Go.Proofs.Ytcjkofcgphcjnaa.LinearTells
