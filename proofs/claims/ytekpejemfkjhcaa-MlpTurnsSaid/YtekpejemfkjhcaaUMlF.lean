
/- UMlF: texts joined: MlF. -/
import Derived.Test.YtekpejemfkjhcaaUc
import Derived.Test.YtekpejemfkjhcaaUd
import Derived.Test.YtekpejemfkjhcaaUb
/- Lines hidden and a last one, by the document: how one sample bends them. -/
namespace Go.Proofs.Ytekpejemfkjhcaa
open Go.RowKit
set_option maxHeartbeats 4000000
set_option maxRecDepth 100000
set_option linter.unusedVariables false
theorem fst_app {l : List Int} {t : Int} (h : ∀ e ∈ l, e = 0) : fstE (l ++ [t]) = t := by
  induction l with
  | nil => by_cases e : t = 0 <;> simp [fstE, e]
  | cons a r ih =>
    rw [List.cons_append, fstE, if_neg (by rw [h a (by simp)]; decide)]
    exact ih (fun e he => h e (by simp [he]))
theorem fst_range {g : Nat → Int} {n j : Nat} {t : List Int} (hj : j < n) (h : ∀ i, i < j → g i = 0) (hn : g j ≠ 0) : fstE ((List.range n).map g ++ t) = g j := by
  have e : (List.range n).map g ++ t = (List.range j).map g ++ (g j :: ((List.range (n - j - 1)).map fun i => g (j + 1 + i)) ++ t) := by
    have e1 : List.range n = List.range j ++ (List.range (n - j)).map (j + ·) := by rw [← List.range_add]; congr 1; omega
    have e2 : List.range (n - j) = 0 :: (List.range (n - j - 1)).map (· + 1) := by
      rw [show n - j = (n - j - 1) + 1 by omega, List.range_succ_eq_map]
      simp
    rw [e1, e2]
    simp only [List.map_append, List.map_cons, List.map_map, Nat.add_zero, List.append_assoc, List.cons_append]
    congr 3
    refine List.map_congr_left fun i _ => ?_
    show g (j + (i + 1)) = g (j + 1 + i)
    congr 1
    omega
  rw [e]
  have h2 : ∀ (l : List Int) (r : List Int), (∀ x ∈ l, x = 0) → fstE (l ++ (g j :: r)) = g j := fun l r => by
    induction l with
    | nil => intro _; rw [List.nil_append, fstE, if_pos hn]
    | cons a q ih =>
      intro h3
      rw [List.cons_append, fstE, if_neg (by rw [h3 a (by simp)]; decide)]
      exact ih (fun x hx => h3 x (by simp [hx]))
  rw [List.cons_append]
  exact h2 _ _ (fun x hx => by
    obtain ⟨i, hi, rfl⟩ := List.mem_map.1 hx
    exact h i (List.mem_range.1 hi))
theorem ml_flen {l : List (List Int)} {b : Nat} (h : ∀ p ∈ l, p.length ≤ b) : l.flatten.length ≤ l.length * b := by
  induction l with
  | nil => simp
  | cons a r ih =>
    rw [List.flatten_cons, List.length_append, List.length_cons, Nat.succ_mul]
    have h1 := h a (by simp)
    have h2 := ih (fun p hp => h p (by simp [hp]))
    omega
theorem ml_flat {g : Nat → List Int} {j n : Nat} (h : ∀ i, (g i).length ≤ 4097) (hj : j ≤ 8) : ((List.range j).map g).flatten.length ≤ 8 * 4097 := by
  refine Nat.le_trans (ml_flen (b := 4097) fun p hp => ?_) ?_
  · obtain ⟨i, _, rfl⟩ := List.mem_map.1 hp
    exact h i
  · rw [List.length_map, List.length_range]
    exact Nat.mul_le_mul_right 4097 hj
/-- How one sample bends all, or nothing. -/
def mbO (h : Int) (u : List Int) (f : Int) (s : SmpV) : List Int := if mbE h u f s = 0 then mbV h u f s else []
theorem ref_one16 {Au Ax : Option Addr} {cu cx : Nat} (h : Int) (ih : I64 h) (u : List Int) (s : SmpV) (hu : u.length ≤ cu) (hcu : cu ≤ 9223372036854775807) (iu : I64s u) (hx : s.X.length ≤ 1099511627776) (ix : I64s s.X) (iY : I64 s.Y) (f : Int) (w : World)
    (ru : Rd (Value.int .i64) w w.heap.size Au u) (rx : Rd (Value.int .i64) w w.heap.size Ax s.X) :
    Calls Try.prog 43 #[.int .i64 h, .slice Au u.length cu, .agg #[.slice Ax s.X.length cx, .int .i64 s.Y], .int .i64 f] w (OwnInts (mbO h u f s) (mbE h u f s) w) := by
  obtain ⟨w2, hw2⟩ : ∃ w2, w.alloc (.cells #[.slice Ax s.X.length cx, .int .i64 s.Y] 24) = w2 := ⟨_, rfl⟩
  have hb2 : Below w.heap.size w w2 := by rw [← hw2]; go_grown
  have hs2 : w.heap.size < w2.heap.size := by rw [← hw2]; simp
  have c0 : w2.cell? ⟨w.heap.size, 0, none⟩ = some (.slice Ax s.X.length cx) := by rw [← hw2]; simp [go_sem]
  have c1 : w2.cell? ⟨w.heap.size, 1, none⟩ = some (.int .i64 s.Y) := by rw [← hw2]; simp [go_sem]
  have CO := hid (ref_Off16 (Aw := Au) (Ax := Ax) (cw := cu) (cx := cx) h ih u s hu hcu hx iu ix iY f w2 (ru.on hb2) (rx.on hb2))
  have CH := hid (fun W h1 h2 => ref_Hidden16 (Au := Au) (Ax := Ax) (cu := cu) (cx := cx) h ih u s.X hu hcu iu hx ix f W h1 h2)
  have CP := hid (fun W hr => ref_Split16 (Au := Au) (cu := cu) h ih u hu hcu W hr)
  obtain ⟨U, hU⟩ : ∃ U, u.length = U := ⟨_, rfl⟩
  obtain ⟨N, hN⟩ : ∃ N, s.X.length = N := ⟨_, rfl⟩
  rw [hU] at CO CH CP ⊢
  by_cases h1 : moE h u s f = 0
  · obtain ⟨hq, _⟩ := moE_ok.1 h1
    obtain ⟨hh, hlt'⟩ := mqE_ok.1 hq
    have hm := (mhE_ok.1 hh).1
    obtain ⟨_, g2⟩ := (msE_ok.1 hm).1
    have e0 : mhV h u s.X f = mhL h u s.X f := if_pos hh
    have e1 : mzO h u = mlZ h u := if_pos hm
    have hHl := mhL_len h u s.X f
    have hZl := mlZ_len hm
    have iH := mhL_i64 h u s.X f
    have iZ := mlZ_i64 (h := h) iu
    have iV : I64 (moV h u s f) := by unfold moV; rw [if_pos h1]; exact (moE_ok.1 h1).2
    have eE : mbE h u f s = fstE ((List.range h.toNat).map (fun i => mlnE s.X (moV h u s f) ((mhL h u s.X f).getD i 0) ((mlZ h u).getD i 0) f) ++ [unE (behE f) (numS (mhL h u s.X f) (moV h u s f) f) (mhL h u s.X f).length]) := by unfold mbE; rw [if_neg (by simp [h1])]
    have eV : mbV h u f s = ((List.range h.toNat).map fun i => mlnV s.X (moV h u s f) ((mhL h u s.X f).getD i 0) ((mlZ h u).getD i 0) f).flatten ++ (unV (behE f) (numS (mhL h u s.X f) (moV h u s f) f) (mhL h u s.X f).length ++ [moV h u s f]) := rfl
    rw [h1] at CO
    rw [hh, e0] at CH
    rw [hm, e1] at CP
    obtain ⟨V, hV⟩ : ∃ V, moV h u s f = V := ⟨_, rfl⟩
    obtain ⟨H, hH⟩ : ∃ H, mhL h u s.X f = H := ⟨_, rfl⟩
    obtain ⟨Z, hZ⟩ : ∃ Z, mlZ h u = Z := ⟨_, rfl⟩
    obtain ⟨R, hR⟩ : ∃ R, mlO h u = R := ⟨_, rfl⟩
    rw [hV] at CO eE eV iV
    rw [hH] at CH eE eV hHl iH
    rw [hZ] at CP eE eV hZl iZ
    rw [hR] at CP
    obtain ⟨L, hL⟩ : ∃ L, h.toNat = L := ⟨_, rfl⟩
    rw [hL] at eE eV hHl hZl
    have hL8 : L ≤ 8 := by omega
    obtain ⟨pE, hpE⟩ : ∃ p : Nat → Int, p = fun i => mlnE s.X V (H.getD i 0) (Z.getD i 0) f := ⟨_, rfl⟩
    obtain ⟨pV, hpV⟩ : ∃ p : Nat → List Int, p = fun i => mlnV s.X V (H.getD i 0) (Z.getD i 0) f := ⟨_, rfl⟩
    rw [← hpE] at eE
    rw [← hpV] at eV
    have HPE0 := hid (fun i => congrFun hpE i)
    have HPV0 := hid (fun i => congrFun hpV i)
    have hpl : ∀ i, (pV i).length ≤ 4097 := fun i => by
      rw [congrFun hpV i]
      unfold mlnV
      rw [List.length_append]
      have : (unV (behE f) (numS s.X (mwV V (H.getD i 0) (Z.getD i 0) f) f) s.X.length).length ≤ 4096 := unV_len _ _ _
      rw [List.length_singleton]; omega
    obtain ⟨tE, htE⟩ : ∃ t, unE (behE f) (numS H V f) H.length = t := ⟨_, rfl⟩
    obtain ⟨tV, htV⟩ : ∃ t, unV (behE f) (numS H V f) H.length = t := ⟨_, rfl⟩
    rw [htE] at eE
    rw [htV] at eV
    have htl : tV.length ≤ 4096 := by rw [← htV]; exact unV_len _ _ _
    have CSH := hid (fun (A : Option Addr) (c : Nat) (W : World) h2 => rScale_any (A := A) (c := c) H (by omega) (fun y hy => (iH y hy).1) V f iV W h2)
    rw [htV, htE] at CSH
    have CS := hid (fun (y : Int) (hy : I64 y) (W : World) (h2 : Rd (Value.int .i64) W W.heap.size Ax s.X) => rScale_any (A := Ax) (c := cx) s.X (by omega) ix y f hy W h2)
    have CMU := hid (fun (z : Int) (iz : I64 z) W => ln_rmul V z f iV iz W)
    obtain ⟨vE, hvE⟩ : ∃ e, mbE h u f s = e := ⟨_, rfl⟩
    obtain ⟨vO, hvO⟩ : ∃ e, mbO h u f s = e := ⟨_, rfl⟩
    have hO : vO = if vE = 0 then mbV h u f s else [] := by rw [← hvO, ← hvE]; rfl
    rw [hvE] at eE ⊢
    rw [hvO]
    rw [eV] at hO
    have HBAD : Hid (∀ j, j < L → (∀ i, i < j → pE i = 0) → pE j ≠ 0 → vE = pE j) := hid (fun j a b c => by rw [eE]; exact fst_range a b c)
    have HEND : Hid ((∀ i, i < L → pE i = 0) → vE = tE) := hid (fun a => by
      rw [eE]
      exact fst_app (fun e he => by
        obtain ⟨i, hi, rfl⟩ := List.mem_map.1 he
        exact a i (List.mem_range.1 hi)))
    have HOF : Hid (vE ≠ 0 → vO = []) := hid (fun a => by rw [hO, if_neg a])
    have HOG : Hid (vE = 0 → vO = ((List.range L).map pV).flatten ++ (tV ++ [V])) := hid (fun a => by rw [hO, if_pos a])
    have HIH := hid iH
    have HIZ := hid iZ
    have HHL := hid hHl
    have HZL := hid hZl
    have HPL := hid hpl
    have HTVL := hid htl
    have HL8 := hid hL8
    have RU := hid ru
    have RXX := hid rx
    have HB2 := hid hb2
    obtain ⟨Y, hY⟩ : ∃ Y, s.Y = Y := ⟨_, rfl⟩
    have HMLE : Hid (∀ y z, mlnE s.X V y z f = if mwE V y z f ≠ 0 then mwE V y z f else unE (behE f) (numS s.X (mwV V y z f) f) N) := hid (fun y z => by unfold mlnE; rw [hN])
    have HMLV : Hid (∀ y z, mlnV s.X V y z f = unV (behE f) (numS s.X (mwV V y z f) f) N ++ [mwV V y z f]) := hid (fun y z => by unfold mlnV; rw [hN])
    rw [hN] at c0 hw2 CO CH CS ⊢
    rw [hY] at c1 hw2 CO ⊢
    rw [hHl] at CSH
    clear h1 hq hh hlt' hm g2 e0 e1 eE eV hV hH hZ hR hL hpE hpV htE htV hvE hvO hO iH iZ hHl hZl hpl htl iV hU hN hY hu hcu iu hx ix iY ru rx hb2 ih hL8
    go_enter Try.func43, Try.ntmps43
    go_wp2_with fail
    refine CO.out.mono ?_
    rintro _ w3 ⟨rfl, hb3⟩
    have K3 : Hid (Below w.heap.size w w3) := hid (HB2.out.trans (hb3.mono HB2.out.size))
    have c0' := (hb3.cell (p := ⟨w.heap.size, 0, none⟩) hs2).trans c0
    have hs3 : w.heap.size < w3.heap.size := Nat.lt_of_lt_of_le hs2 hb3.size
    clear hb3 hw2 c0 c1 CO hs2
    go_wp2_with fail
    refine (CH.out _ (RU.out.on K3.out) (RXX.out.on K3.out)).mono ?_
    rintro _ w4 ⟨A4, c4, rfl, ho4, hb4⟩
    rw [HHL.out]
    have K4 : Hid (Below w.heap.size w w4) := hid (K3.out.trans (hb4.mono K3.out.size))
    have RH4 := hid (own_rd ho4)
    have c2 := (hb4.cell (p := ⟨w.heap.size, 0, none⟩) hs3).trans c0'
    have hs4 : w.heap.size < w4.heap.size := Nat.lt_of_lt_of_le hs3 hb4.size
    clear ho4 hb4 CH c0' hs3
    go_wp2_with fail
    refine (CP.out _ (RU.out.on K4.out)).mono ?_
    rintro _ wl ⟨A2, c2', B2, d2, rfl, ho2, hzc, hzr, hb5⟩
    rw [HZL.out]
    have KL : Hid (Below w.heap.size w wl) := hid (K4.out.trans (hb5.mono K4.out.size))
    have RH := hid (RH4.out.on hb5)
    have RZ := hid hzr.rd
    have RX3 := hid (RXX.out.on KL.out)
    have c3 := (hb5.cell (p := ⟨w.heap.size, 0, none⟩) hs4).trans c2
    have hsl : w.heap.size < wl.heap.size := Nat.lt_of_lt_of_le hs4 hb5.size
    have HC3 := hid c3
    have hLb : L ≤ 9223372036854775807 := by have := HL8.out; omega
    clear ho2 hzc hzr hb5 CP c2 hs4 RH4
    go_wp2_with fail
    clear c3
    go_loopw [11, 17, 18, 19, 20, 21, 22, 53] (fun _ xg _ _ _ _ _ xi wr => ∃ (j : Nat) (T : List Int) (A6 : Option Addr) (c6 : Nat), j ≤ L ∧ xi = .int .i64 (j : Int) ∧ xg = .slice A6 T.length c6 ∧ T = ((List.range j).map pV).flatten ∧ (∀ i, i < j → pE i = 0) ∧ wr.ownsRow wl.heap.size 2 1 (.slice A6 T.length c6) T.length (T.map (Value.int .i64)) ∧ Below wl.heap.size wl wr) (fun _ _ _ _ _ _ _ xi _ => L - (intOf xi).toNat)
    case atStart => exact ⟨0, [], none, 0, Nat.zero_le _, rfl, rfl, rfl, fun i hi => by omega, own_nil _ _ _, Below.refl _ _⟩
    case round =>
      obtain ⟨j, T, A6, c6, hj, rfl, rfl, hT, ha, ho, hbel⟩ := hrel
      have HT := hid hT
      have HA := hid ha
      have HO6 := hid ho
      have HB := hid hbel
      have hTl : T.length ≤ 8 * 4097 := by rw [hT]; exact ml_flat (n := 0) HPL.out (by have := HL8.out; omega)
      have HTL := hid hTl
      clear hT ha ho hTl
      have n0 := (hbel.cell (p := ⟨w.heap.size, 0, none⟩) hsl).trans HC3.out
      by_cases hlt : j < L
      · obtain ⟨b1, o1, y, rfl, l1, ey, k0⟩ := (RH.out.on hbel).at_ (k := j) (by rw [HHL.out]; exact hlt)
        obtain ⟨b3, o3, z, rfl, l3, ez, z0⟩ := (RZ.out.on hbel).at_ (k := j) (by rw [HZL.out]; omega)
        have hpe : pE j = mlnE s.X V (H.getD j 0) (Z.getD j 0) f := HPE0.out j
        have hpv : pV j = mlnV s.X V (H.getD j 0) (Z.getD j 0) f := HPV0.out j
        rw [getD_of ey, getD_of ez, HMLE.out] at hpe
        rw [getD_of ey, getD_of ez, HMLV.out] at hpv
        have iz : I64 z := HIZ.out.at_ ez
        have HJL := hid hlt
        have hjz : (j : Int) < ((L + 1 : Nat) : Int) := by omega
        clear ey ez hbel
        by_cases hy : y > 0
        · have CM := hid (CMU.out z iz)
          have iM := ln_mul_i64 V z f
          have em : mwE V y z f = mulE V z f := if_pos hy
          have ev : mwV V y z f = mulV V z f := if_pos hy
          rw [em, ev] at hpe
          rw [ev] at hpv
          obtain ⟨d, hd⟩ : ∃ d, mulV V z f = d := ⟨_, rfl⟩
          obtain ⟨E, hE⟩ : ∃ e, mulE V z f = e := ⟨_, rfl⟩
          rw [hd, hE] at CM hpe
          rw [hd] at hpv iM
          have CS3 := hid (CS.out d iM)
          obtain ⟨vs, hvs⟩ : ∃ v, unV (behE f) (numS s.X d f) N = v := ⟨_, rfl⟩
          obtain ⟨es, hes⟩ : ∃ v, unE (behE f) (numS s.X d f) N = v := ⟨_, rfl⟩
          have hvl : vs.length ≤ 4096 := by rw [← hvs]; exact unV_len _ _ _
          rw [hvs, hes] at CS3
          rw [hes] at hpe
          rw [hvs] at hpv
          have HPV := hid hpv
          clear em ev hd hE hvs hes iM hpv iz
          by_cases hE0 : E = 0
          · subst hE0
            rw [if_neg (by decide)] at hpe
            have HPE := hid hpe
            clear hpe
            rcases Decidable.em (es = 0) with hes0 | hes0
            · subst hes0
              go_wp2_with fail
              refine (CM.out _).mono ?_
              rintro _ _ ⟨rfl, rfl⟩
              go_wp2_with fail
              refine (CS3.out _ (RX3.out.on HB.out)).mono ?_
              rintro _ w5 ⟨A5, c5, rfl, ho5, hb5⟩
              have HB5 : Hid (Below wl.heap.size wl w5) := hid (HB.out.trans (hb5.mono HB.out.size))
              have h6 := own_on HO6.out hb5
              have R5 := own_rd ho5
              have hz5 := HB5.out.size
              clear ho5 hb5 n0 z0 k0
              go_wp2_with (at_builtin; refine wpList_app (Value.int .i64) (fun _ => rfl) _ rfl _ _ 22 rfl wl.heap.size 2 (.int .i64 0) 8 Try.underlying22 info_i64 rfl T A6 c6 rfl h6 vs A5 c5 _ rfl R5 (by have := HTL.out; simp [maxLen]; omega) (by have := HTL.out; simp; omega) hz5 ?_)
              rintro T5 A7 c7 w6 hT5 ho7 hb6 _
              have HB6 : Hid (Below wl.heap.size wl w6) := hid (HB5.out.trans hb6)
              have hT5l : T5.length ≤ 8 * 4097 + 4096 := by rw [hT5, List.length_append]; have := HTL.out; omega
              have HT5 := hid hT5
              have r0' : Rd (Value.int .i64) (w6.alloc (.cells #[.int .i64 d] 2)) _ (some ⟨w6.heap.size, 0, none⟩) [d] := rd_one (one_cell w6 (.int .i64 d) 2).1
              have h7 := own_on ho7 ((Below.refl w6.heap.size w6).alloc (Nat.le_refl _) (.cells #[.int .i64 d] 2))
              have hz6 := HB6.out.size
              clear ho7 hb6 h6 R5 hT5
              go_wp2_with (at_builtin; refine wpList_app (Value.int .i64) (fun _ => rfl) _ rfl _ _ 22 rfl wl.heap.size 2 (.int .i64 0) 8 Try.underlying22 info_i64 rfl T5 A7 c7 rfl h7 [d] _ 1 _ rfl r0' (by simp [maxLen]; omega) (by simp; omega) (by simp; omega) ?_)
              rintro T8 A8 c8 w8 hT8 ho8 hb8 _
              have HB8 : Hid (Below wl.heap.size wl w8) := hid ((HB6.out.alloc HB6.out.size _).trans hb8)
              have HO8 := hid ho8
              have hTT : Hid (T8 = ((List.range (j + 1)).map pV).flatten) := hid (by
                rw [hT8, HT5.out, HT.out, List.range_succ]
                simp only [List.map_append, List.map_cons, List.map_nil, List.flatten_append, List.flatten_cons, List.flatten_nil, List.append_nil]
                rw [HPV.out, List.append_assoc])
              have hpz : Hid (∀ i, i < j + 1 → pE i = 0) := hid (fun i hi => by
                by_cases e : i = j
                · subst e; exact HPE.out
                · exact HA.out i (by omega))
              clear ho8 hb8 hT8 h7 r0' hz6 hz5
              go_wp2_with fail
              go_roundw
              case rel => exact ⟨j + 1, T8, A8, c8, HJL.out, by go_num, rfl, hTT.out, hpz.out, HO8.out, HB8.out⟩
              case measure => have := HJL.out; simp [intOf]; omega
            · have hne : (es != 0) = true := by simpa using hes0
              have e0 : vE = es := by rw [HBAD.out j HJL.out HA.out (by rw [HPE.out]; exact hes0), HPE.out]
              have e2 : vO = [] := HOF.out (by rw [e0]; exact hes0)
              subst e2
              subst e0
              clear hes0
              go_wp2_with fail
              refine (CM.out _).mono ?_
              rintro _ _ ⟨rfl, rfl⟩
              go_wp2_with fail
              refine (CS3.out _ (RX3.out.on HB.out)).mono ?_
              rintro _ w5 ⟨A5, c5, rfl, ho5, hb5⟩
              have K5 : Hid (Below w.heap.size w w5) := hid (KL.out.trans ((HB.out.trans (hb5.mono HB.out.size)).mono KL.out.size))
              clear ho5 hb5 n0 z0 k0
              go_wp2_with fail
              go_ret2
              exact ⟨none, 0, rfl, own_nil _ _ _, K5.out⟩

          · rw [if_pos hE0] at hpe
            have hne : (E != 0) = true := by simpa using hE0
            have e0 : vE = E := by rw [HBAD.out j hlt HA.out (by rw [hpe]; exact hE0), hpe]
            have e2 : vO = [] := HOF.out (by rw [e0]; exact hE0)
            have K5 : Hid (Below w.heap.size w wr) := hid (KL.out.trans (HB.out.mono KL.out.size))
            subst e2
            subst e0
            clear hE0 hpe
            go_wp2_with fail
            refine (CM.out _).mono ?_
            rintro _ _ ⟨rfl, rfl⟩
            go_wp2_with fail
            go_ret2
            exact ⟨none, 0, rfl, own_nil _ _ _, K5.out⟩
        · have em : mwE V y z f = 0 := if_neg hy
          have ev : mwV V y z f = 0 := if_neg hy
          rw [em, ev, if_neg (by decide)] at hpe
          rw [ev] at hpv
          obtain ⟨d, hd⟩ : ∃ d : Int, d = 0 := ⟨_, rfl⟩
          have CS3 := hid (CS.out 0 (by decide))
          obtain ⟨vs, hvs⟩ : ∃ v, unV (behE f) (numS s.X 0 f) N = v := ⟨_, rfl⟩
          obtain ⟨es, hes⟩ : ∃ v, unE (behE f) (numS s.X 0 f) N = v := ⟨_, rfl⟩
          have hvl : vs.length ≤ 4096 := by rw [← hvs]; exact unV_len _ _ _
          rw [hvs, hes] at CS3
          rw [hes] at hpe
          rw [hvs] at hpv
          have HPV := hid hpv
          have HPE := hid hpe
          clear em ev hd hvs hes hpe hpv iz d
          rcases Decidable.em (es = 0) with hes0 | hes0
          · subst hes0
            go_wp2_with fail
            refine (CS3.out _ (RX3.out.on HB.out)).mono ?_
            rintro _ w5 ⟨A5, c5, rfl, ho5, hb5⟩
            have HB5 : Hid (Below wl.heap.size wl w5) := hid (HB.out.trans (hb5.mono HB.out.size))
            have h6 := own_on HO6.out hb5
            have R5 := own_rd ho5
            have hz5 := HB5.out.size
            clear ho5 hb5 n0 z0 k0
            go_wp2_with (at_builtin; refine wpList_app (Value.int .i64) (fun _ => rfl) _ rfl _ _ 22 rfl wl.heap.size 2 (.int .i64 0) 8 Try.underlying22 info_i64 rfl T A6 c6 rfl h6 vs A5 c5 _ rfl R5 (by have := HTL.out; simp [maxLen]; omega) (by have := HTL.out; simp; omega) hz5 ?_)
            rintro T5 A7 c7 w6 hT5 ho7 hb6 _
            have HB6 : Hid (Below wl.heap.size wl w6) := hid (HB5.out.trans hb6)
            have hT5l : T5.length ≤ 8 * 4097 + 4096 := by rw [hT5, List.length_append]; have := HTL.out; omega
            have HT5 := hid hT5
            have r0' : Rd (Value.int .i64) (w6.alloc (.cells #[.int .i64 0] 2)) _ (some ⟨w6.heap.size, 0, none⟩) [0] := rd_one (one_cell w6 (.int .i64 0) 2).1
            have h7 := own_on ho7 ((Below.refl w6.heap.size w6).alloc (Nat.le_refl _) (.cells #[.int .i64 0] 2))
            have hz6 := HB6.out.size
            clear ho7 hb6 h6 R5 hT5
            go_wp2_with (at_builtin; refine wpList_app (Value.int .i64) (fun _ => rfl) _ rfl _ _ 22 rfl wl.heap.size 2 (.int .i64 0) 8 Try.underlying22 info_i64 rfl T5 A7 c7 rfl h7 [0] _ 1 _ rfl r0' (by simp [maxLen]; omega) (by simp; omega) (by simp; omega) ?_)
            rintro T8 A8 c8 w8 hT8 ho8 hb8 _
            have HB8 : Hid (Below wl.heap.size wl w8) := hid ((HB6.out.alloc HB6.out.size _).trans hb8)
            have HO8 := hid ho8
            have hTT : Hid (T8 = ((List.range (j + 1)).map pV).flatten) := hid (by
              rw [hT8, HT5.out, HT.out, List.range_succ]
              simp only [List.map_append, List.map_cons, List.map_nil, List.flatten_append, List.flatten_cons, List.flatten_nil, List.append_nil]
              rw [HPV.out, List.append_assoc])
            have hpz : Hid (∀ i, i < j + 1 → pE i = 0) := hid (fun i hi => by
              by_cases e : i = j
              · subst e; exact HPE.out
              · exact HA.out i (by omega))
            clear ho8 hb8 hT8 h7 r0' hz6 hz5
            go_wp2_with fail
            go_roundw
            case rel => exact ⟨j + 1, T8, A8, c8, HJL.out, by go_num, rfl, hTT.out, hpz.out, HO8.out, HB8.out⟩
            case measure => have := HJL.out; simp [intOf]; omega
          · have hne : (es != 0) = true := by simpa using hes0
            have e0 : vE = es := by rw [HBAD.out j HJL.out HA.out (by rw [HPE.out]; exact hes0), HPE.out]
            have e2 : vO = [] := HOF.out (by rw [e0]; exact hes0)
            subst e2
            subst e0
            clear hes0
            go_wp2_with fail
            refine (CS3.out _ (RX3.out.on HB.out)).mono ?_
            rintro _ w5 ⟨A5, c5, rfl, ho5, hb5⟩
            have K5 : Hid (Below w.heap.size w w5) := hid (KL.out.trans ((HB.out.trans (hb5.mono HB.out.size)).mono KL.out.size))
            clear ho5 hb5 n0 z0 k0
            go_wp2_with fail
            go_ret2
            exact ⟨none, 0, rfl, own_nil _ _ _, K5.out⟩

      · obtain rfl : j = L := by omega
        have CSE := hid (fun W (hb : Below wr.heap.size wr W) => CSH.out A4 c4 W ((RH.out.on hbel).on hb))
        have eEnd := HEND.out HA.out
        clear hlt hj n0 hbel
        by_cases ht : tE = 0
        · have e1 : vE = 0 := by rw [eEnd, ht]
          have hvo := HOG.out e1
          rw [ht] at CSE
          subst e1
          have HVO := hid hvo
          clear eEnd ht hvo
          go_wp2_with fail
          refine (CSE.out _ (Below.refl _ _)).mono ?_
          rintro _ w5 ⟨A5, c5, rfl, ho5, hb5⟩
          have HB5 : Hid (Below wl.heap.size wl w5) := hid (HB.out.trans (hb5.mono HB.out.size))
          have h6 := own_on HO6.out hb5
          have R5 := own_rd ho5
          have hz5 := HB5.out.size
          clear ho5 hb5
          go_wp2_with (at_builtin; refine wpList_app (Value.int .i64) (fun _ => rfl) _ rfl _ _ 22 rfl wl.heap.size 2 (.int .i64 0) 8 Try.underlying22 info_i64 rfl T A6 c6 rfl h6 tV A5 c5 _ rfl R5 (by have := HTL.out; have := HTVL.out; simp [maxLen]; omega) (by have := HTL.out; have := HTVL.out; simp; omega) hz5 ?_)
          rintro T5 A7 c7 w6 hT5 ho7 hb6 _
          have HB6 : Hid (Below wl.heap.size wl w6) := hid (HB5.out.trans hb6)
          have hT5l : T5.length ≤ 8 * 4097 + 4096 := by rw [hT5, List.length_append]; have := HTL.out; have := HTVL.out; omega
          have HT5 := hid hT5
          have r0' : Rd (Value.int .i64) (w6.alloc (.cells #[.int .i64 V] 2)) _ (some ⟨w6.heap.size, 0, none⟩) [V] := rd_one (one_cell w6 (.int .i64 V) 2).1
          have h7 := own_on ho7 ((Below.refl w6.heap.size w6).alloc (Nat.le_refl _) (.cells #[.int .i64 V] 2))
          have hz6 := HB6.out.size
          clear ho7 hb6 h6 R5 hT5
          go_wp2_with (at_builtin; refine wpList_app (Value.int .i64) (fun _ => rfl) _ rfl _ _ 22 rfl wl.heap.size 2 (.int .i64 0) 8 Try.underlying22 info_i64 rfl T5 A7 c7 rfl h7 [V] _ 1 _ rfl r0' (by simp [maxLen]; omega) (by simp; omega) (by simp; omega) ?_)
          rintro T8 A8 c8 w8 hT8 ho8 hb8 _
          have HB8 : Hid (Below wl.heap.size wl w8) := hid ((HB6.out.alloc HB6.out.size _).trans hb8)
          have HO8 := hid ho8
          have e8 : T8 = vO := by rw [hT8, HT5.out, HT.out, HVO.out, List.append_assoc]
          subst e8
          clear ho8 hb8 hT8 h7 r0' hz6 hz5
          go_wp2_with fail
          go_ret2
          exact ⟨A8, c8, rfl, own_base HO8.out KL.out.size, KL.out.trans (HB8.out.mono KL.out.size)⟩
        · have hne : (tE != 0) = true := by simpa using ht
          have e2 : vO = [] := HOF.out (by rw [eEnd]; exact ht)
          subst e2
          subst eEnd
          clear ht
          go_wp2_with fail
          refine (CSE.out _ (Below.refl _ _)).mono ?_
          rintro _ w5 ⟨A5, c5, rfl, ho5, hb5⟩
          have K5 : Hid (Below w.heap.size w w5) := hid (KL.out.trans ((HB.out.trans (hb5.mono HB.out.size)).mono KL.out.size))
          clear ho5 hb5
          go_wp2_with fail
          go_ret2
          exact ⟨none, 0, rfl, own_nil _ _ _, K5.out⟩
  · have eE : mbE h u f s = moE h u s f := by unfold mbE; rw [if_pos h1]
    have eV : mbO h u f s = [] := if_neg (by rw [eE]; exact h1)
    rw [eE, eV]
    have hv0 : moV h u s f = 0 := if_neg h1
    rw [hv0] at CO
    obtain ⟨E, hE⟩ : ∃ E, moE h u s f = E := ⟨_, rfl⟩
    rw [hE] at CO h1 ⊢
    have hne : (E != 0) = true := by simpa using h1
    obtain ⟨Y, hY⟩ : ∃ Y, s.Y = Y := ⟨_, rfl⟩
    rw [hY] at c1 hw2 CO ⊢
    rw [hN] at c0 hw2 CO ⊢
    have HB2 := hid hb2
    clear h1 eE eV hv0 hE hU hN hY hu hcu iu hx ix ru rx ih CP CH hb2
    go_enter Try.func43, Try.ntmps43
    go_wp2_with fail
    refine CO.out.mono ?_
    rintro _ w3 ⟨rfl, hb3⟩
    have K3 : Hid (Below w.heap.size w w3) := hid (HB2.out.trans (hb3.mono HB2.out.size))
    clear hb3 hw2 c0 c1
    go_wp2_with fail
    go_ret2
    exact ⟨none, 0, rfl, own_nil _ _ _, K3.out⟩
end Go.Proofs.Ytekpejemfkjhcaa
