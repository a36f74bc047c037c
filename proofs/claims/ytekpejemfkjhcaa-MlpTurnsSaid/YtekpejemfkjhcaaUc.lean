
/- Uc: texts joined: MlD LpB LpC MqH MlE LnC Div64 RefC SfH MpN LnS MpO. -/
import Derived.Test.YtekpejemfkjhcaaUb
import Derived.Test.YtekpejemfkjhcaaUa
import Derived.Test.YtekpejemfkjhcaaUFixB
import Derived.Deep.QuietTactic
import Derived.BigQuiet
import Derived.Deep.CutRange
import Derived.Deep.CutBlock
import Derived.Lib.BitFns
import Derived.Lib.ItoaNum
/- Lines hidden and a last one, by the document: what is hidden. -/
namespace Go.Proofs.Ytekpejemfkjhcaa
open Go.RowKit
set_option maxHeartbeats 2000000
set_option maxRecDepth 100000
set_option linter.unusedVariables false
theorem mlL_i64 {h : Int} {u : List Int} (iu : I64s u) : ∀ r ∈ mlL h u, I64s r := fun r hr => by
  unfold mlL at hr
  obtain ⟨i, _, rfl⟩ := List.mem_map.1 hr
  intro x hx
  unfold rwR at hx
  exact iu x (List.mem_of_mem_drop (List.mem_of_mem_take hx))
theorem mlL_row {h : Int} {u : List Int} (e : msE h u = 0) : (mlL h u).length = h.toNat ∧ ∀ r ∈ mlL h u, r.length = msN h u + 1 := by
  refine ⟨mlL_len h u, fun r hr => ?_⟩
  unfold mlL at hr
  obtain ⟨i, hi, rfl⟩ := List.mem_map.1 hr
  have hi2 := List.mem_range.1 hi
  obtain ⟨_, _, h3⟩ := msE_ok.1 e
  unfold rwR
  rw [List.length_take, List.length_drop]
  have h4 : (i + 1) * (msN h u + 1) ≤ h.toNat * (msN h u + 1) := Nat.mul_le_mul_right _ hi2
  rw [Nat.succ_mul] at h4
  omega
theorem ref_Hidden16 {Au Ax : Option Addr} {cu cx : Nat} (o : Int) (ho : I64 o) (u x : List Int) (hu : u.length ≤ cu) (hcu : cu ≤ 9223372036854775807) (iu : I64s u) (hx : x.length ≤ 1099511627776) (ix : I64s x) (f : Int) (w : World)
    (ru : Rd (Value.int .i64) w w.heap.size Au u) (rx : Rd (Value.int .i64) w w.heap.size Ax x) :
    Calls Try.prog 13 #[.int .i64 o, .slice Au u.length cu, .slice Ax x.length cx, .int .i64 f] w (OwnInts (mhV o u x f) (mhE o u x f) w) := by
  have CR := hid (ref_Split16 (Au := Au) (cu := cu) o ho u hu hcu w ru)
  obtain ⟨U, hU⟩ : ∃ U, u.length = U := ⟨_, rfl⟩
  obtain ⟨N, hN⟩ : ∃ N, x.length = N := ⟨_, rfl⟩
  by_cases h1 : msE o u = 0
  · obtain ⟨⟨o2, o8⟩, ⟨n2, n17⟩, _⟩ := msE_ok.1 h1
    obtain ⟨hRl, hRr⟩ := mlL_row h1
    have hRi := mlL_i64 (h := o) iu
    have e0 : mlO o u = mlL o u := if_pos h1
    have e9 : mzO o u = mlZ o u := if_pos h1
    have hlz : mhE o u x f = if msN o u ≠ x.length then 4 else if f < 0 ∨ 30 < f then 1 else fstE ((mlL o u).map fun r => ltE r x f) := by unfold mhE; rw [if_neg (by simp [h1])]
    rw [h1, e0, e9] at CR
    obtain ⟨m, hm⟩ : ∃ m, msN o u = m := ⟨_, rfl⟩
    rw [hm] at hlz hRr n2 n17
    obtain ⟨n, hn⟩ : ∃ n, m + 1 = n := ⟨_, rfl⟩
    rw [hn] at hRr
    obtain ⟨Zl, hZl⟩ : ∃ Z, mlZ o u = Z := ⟨_, rfl⟩
    rw [hZl] at CR
    obtain ⟨Q, hQ⟩ : ∃ Q, ((mlL o u).map fun r => ltV r x f) = Q := ⟨_, rfl⟩
    have hQm : Q = (mlL o u).map fun r => ltV r x f := hQ.symm
    have hzo : mhV o u x f = if mhE o u x f = 0 then bdL Q else [] := by unfold mhV mhL; rw [hQ]
    obtain ⟨rows, hrows⟩ : ∃ rows, mlL o u = rows := ⟨_, rfl⟩
    rw [hrows] at CR hlz hRl hRr hRi hQm
    obtain ⟨R, hR⟩ : ∃ R, rows.length = R := ⟨_, rfl⟩
    have hR2 : 1 ≤ R := by omega
    have hR8 : R ≤ 8 := by omega
    have hr0 : ∃ r0, rows[0]? = some r0 ∧ r0.length = n := ⟨rows[0], List.getElem?_eq_getElem (by omega), hRr _ (List.getElem_mem _)⟩
    obtain ⟨r0, hr0, hr0l⟩ := hr0
    have hw : IntKind.i64.wrap ((N : Int) + 1) = ((N + 1 : Nat) : Int) := Go.IntWalk.i64_in _ (by omega)
    have HR := hid hR
    have HR0 := hid hr0
    have HRL0 := hid hr0l
    have RX := hid rx
    rw [hN] at hlz ⊢
    rw [hU] at CR ⊢
    clear e0 e9 hQ hrows hU hm hZl hu hcu iu ru hr0 hr0l rx hRl h1 o2 o8
    by_cases h2 : n = N + 1
    · rw [if_neg (by omega)] at hlz
      have t0 : ((n : Int) != ((N + 1 : Nat) : Int)) = false := by rw [h2]; simp
      clear h2 hn n2 n17
      by_cases h3 : f < 0 ∨ 30 < f
      · rw [if_pos h3] at hlz
        have hz : mhV o u x f = [] := by rw [hzo, if_neg (by rw [hlz]; decide)]
        rw [hlz, hz]
        clear hlz hzo hz hQm hRr hRi hR hN
        by_cases h4 : f < 0
        · clear h3
          go_enter Try.func13, Try.ntmps13
          go_wp2_with fail
          refine CR.out.mono ?_
          rintro _ w1 ⟨A1, c1, B1, d1, rfl, ho1, hzc, hzr, hb1⟩
          obtain ⟨b, off, A0, c0, rfl, hb, hc, _⟩ := ho1.rd 0 r0 HR0.out
          rw [HRL0.out, Nat.add_zero] at hc
          rw [HR.out]
          have K1 := hid hb1
          clear ho1 hb1 hzc hzr CR
          go_wp2_with fail
          go_ret2
          exact ⟨none, 0, rfl, own_nil _ _ _, K1.out⟩
        · have h5 : f > 30 := by omega
          clear h3
          go_enter Try.func13, Try.ntmps13
          go_wp2_with fail
          refine CR.out.mono ?_
          rintro _ w1 ⟨A1, c1, B1, d1, rfl, ho1, hzc, hzr, hb1⟩
          obtain ⟨b, off, A0, c0, rfl, hb, hc, _⟩ := ho1.rd 0 r0 HR0.out
          rw [HRL0.out, Nat.add_zero] at hc
          rw [HR.out]
          have K1 := hid hb1
          clear ho1 hb1 hzc hzr CR
          go_wp2_with fail
          go_ret2
          exact ⟨none, 0, rfl, own_nil _ _ _, K1.out⟩
      · rw [if_neg h3] at hlz
        have h4 : ¬ f < 0 := by omega
        have h5 : ¬ f > 30 := by omega
        obtain ⟨vE, hvE⟩ : ∃ e, mhE o u x f = e := ⟨_, rfl⟩
        obtain ⟨vV, hvV⟩ : ∃ e, mhV o u x f = e := ⟨_, rfl⟩
        rw [hvE] at hlz hzo
        rw [hvV] at hzo
        have HLZ := hid hlz
        have HZO := hid hzo
        have HQM := hid hQm
        have HRR := hid hRr
        have HRI := hid hRi
        have HR8 := hid hR8
        rw [hvE, hvV]
        have CT := hid (fun (r : List Int) (hr : r ∈ rows) (Ar : Option Addr) (cr : Nat) (h1 : r.length ≤ cr) (h2 : cr ≤ 9223372036854775807) (W : World) (h3 : Rd (Value.int .i64) W W.heap.size Ar r) (h4 : Rd (Value.int .i64) W W.heap.size Ax x) => ref_Tell14 (Aw := Ar) (Ax := Ax) (cw := cr) (cx := cx) r x h1 h2 (by rw [hN]; omega) (hRi r hr) ix f W h3 h4)
        rw [hN] at CT
        clear hlz hzo hQm hRr hRi hR hN h3 hvE hvV
        go_enter Try.func13, Try.ntmps13
        go_wp2_with fail
        refine CR.out.mono ?_
        rintro _ w1 ⟨A1, c1, B1, d1, rfl, ho1, hzc, hzr, hb1⟩
        obtain ⟨b, off, A0, c0, rfl, hb, hc, _⟩ := ho1.rd 0 r0 HR0.out
        rw [HRL0.out, Nat.add_zero] at hc
        rw [HR.out]
        have K1 := hid hb1
        have HO1 := hid ho1
        clear ho1 hb1 hzc hzr CR
        go_wp2_with fail
        clear hc t0 hw h4 h5
        go_loopw [13, 15, 16, 17, 44] (fun xz _ _ _ xi wr => ∃ (k : Nat) (T : List Int) (A2 : Option Addr) (c2 : Nat), k ≤ R ∧ xi = .int .i64 (k : Int) ∧ xz = .slice A2 T.length c2 ∧ T = Q.take k ∧ (∀ r ∈ rows.take k, ltE r x f = 0) ∧ wr.ownsRow w1.heap.size 2 1 (.slice A2 T.length c2) T.length (T.map (Value.int .i64)) ∧ Below w1.heap.size w1 wr) (fun _ _ _ _ xi _ => R - (intOf xi).toNat)
        case atStart => exact ⟨0, [], none, 0, Nat.zero_le _, rfl, rfl, rfl, fun r hr => by simp at hr, own_nil _ _ _, Below.refl _ _⟩
        case round =>
          obtain ⟨k, T, A2, c2, hk, rfl, rfl, hT, ha, ho, hbel⟩ := hrel
          have HT := hid hT
          have HA := hid ha
          have HO := hid ho
          have HB := hid hbel
          have KR : Hid (Below w.heap.size w wr) := hid (K1.out.trans (hbel.mono K1.out.size))
          clear hT ha ho
          by_cases hlt : k < R
          · obtain ⟨b2, off2, r, Ar, cr, e2, hb2, er, hcr, hr1, hr2, rr⟩ := (HO1.out.on hbel).at_ (k := k) (by rw [HR.out]; exact hlt)
            cases e2
            have HER := hid er
            have CT2 := hid (CT.out r (List.mem_of_getElem? er) Ar cr hr1 hr2 wr rr (RX.out.on KR.out))
            have hrl : r.length = n := HRR.out r (List.mem_of_getElem? er)
            obtain ⟨V, hV⟩ : ∃ V, ltV r x f = V := ⟨_, rfl⟩
            obtain ⟨E, hE⟩ : ∃ E, ltE r x f = E := ⟨_, rfl⟩
            rw [hV, hE, hrl] at CT2
            rw [hrl] at hcr
            have HEE := hid hE
            have hQn : Hid (Q.take (k + 1) = Q.take k ++ [V]) := hid (by
              rw [List.take_add_one, HQM.out, List.getElem?_map, er]
              rw [← hV]; rfl)
            have hTl : Hid (T.length = k) := hid (by rw [HT.out, List.length_take, HQM.out, List.length_map, HR.out]; omega)
            clear er rr hr1 hr2 hrl hV hE hbel
            by_cases hE0 : E = 0
            · subst hE0
              go_wp2_with fail
              refine CT2.out.mono ?_
              rintro _ w4 ⟨rfl, hb4⟩
              have HB4 : Hid (Below w1.heap.size w1 w4) := hid (HB.out.trans (hb4.mono HB.out.size))
              have hr0' : Rd (Value.int .i64) (w4.alloc (.cells #[.int .i64 V] 2)) _ (some ⟨w4.heap.size, 0, none⟩) [V] := rd_one (one_cell w4 (.int .i64 V) 2).1
              have h0' := own_on (own_on HO.out hb4) ((Below.refl w4.heap.size w4).alloc (Nat.le_refl _) (.cells #[.int .i64 V] 2))
              clear hb4
              go_wp2_with (at_builtin; refine wpList_app (Value.int .i64) (fun _ => rfl) _ rfl _ _ 22 rfl w1.heap.size 2 (.int .i64 0) 8 Try.underlying22 info_i64 rfl T _ _ rfl h0' [V] _ 1 _ rfl hr0' (by have := hTl.out; simp [maxLen]; omega) (by have := hTl.out; simp; omega) (by have := HB4.out.size; simp; omega) ?_)
              rintro S' A' c' w5 hS' ho' hb5 _
              have HS' := hid hS'
              have HO' := hid ho'
              have HK5 : Hid (Below w1.heap.size w1 w5) := hid ((HB4.out.alloc HB4.out.size _).trans hb5)
              clear hS' ho' h0' hr0' hb5 hcr
              go_wp2_with fail
              go_roundw
              case rel => exact ⟨k + 1, S', A', c', by omega, by go_num, rfl, by rw [HS'.out, hQn.out, HT.out], take_all HA.out HER.out HEE.out, HO'.out, HK5.out⟩
              case measure => simp [intOf]; omega
            · have hne : (E != 0) = true := by simpa using hE0
              have e1 : vE = E := by
                rw [HLZ.out, fstE_at HA.out HER.out (by rw [HEE.out]; exact hE0), HEE.out]
              have e2 : vV = [] := by rw [HZO.out, if_neg (by rw [e1]; exact hE0)]
              rw [e1, e2]
              clear e1 e2 hE0
              go_wp2_with fail
              refine CT2.out.mono ?_
              rintro _ w4 ⟨rfl, hb4⟩
              have K4 : Hid (Below w.heap.size w w4) := hid (KR.out.trans (hb4.mono KR.out.size))
              clear hb4 hcr
              go_wp2_with fail
              go_ret2
              exact ⟨none, 0, rfl, own_nil _ _ _, K4.out⟩
          · obtain rfl : k = R := by omega
            have e1 : vE = 0 := by
              rw [HLZ.out]
              refine fstE_ok.2 fun e he => ?_
              obtain ⟨r, hr, rfl⟩ := List.mem_map.1 he
              exact HA.out r (by rw [List.take_of_length_le (by rw [HR.out]; exact Nat.le_refl _)]; exact hr)
            have hTQ : T = Q := by rw [HT.out]; exact List.take_of_length_le (by rw [HQM.out, List.length_map, HR.out]; exact Nat.le_refl _)
            have e2 : vV = bdL T := by rw [HZO.out, if_pos e1, hTQ]
            have hTl : T.length ≤ 8 := by rw [hTQ, HQM.out, List.length_map, HR.out]; exact HR8.out
            have b1' : bdE T = 0 := if_neg (by omega)
            have b2' : bdV T = bdL T := if_pos b1'
            have CB := hid (ref_Bend16 (A := A2) (c := c2) T (by omega) wr (own_rd HO.out))
            rw [b1', b2', ← e2] at CB
            clear hTQ hbel b1' b2' e2 hTl
            subst e1
            go_wp2_with fail
            refine CB.out.mono ?_
            rintro _ w6 ⟨A6, c6, rfl, ho6, hb6⟩
            have HO6 := hid ho6
            have K6 : Hid (Below w.heap.size w w6) := hid (KR.out.trans (hb6.mono KR.out.size))
            clear ho6 hb6
            go_wp2_with fail
            go_ret2
            exact ⟨A6, c6, rfl, own_base HO6.out KR.out.size, K6.out⟩
    · rw [if_pos (by omega)] at hlz
      have t0 : ((n : Int) != ((N + 1 : Nat) : Int)) = true := by rw [bne_iff_ne]; omega
      have hz : mhV o u x f = [] := by rw [hzo, if_neg (by rw [hlz]; decide)]
      rw [hlz, hz]
      clear hlz hzo hz hQm hRr hRi hR hN h2 hn
      go_enter Try.func13, Try.ntmps13
      go_wp2_with fail
      refine CR.out.mono ?_
      rintro _ w1 ⟨A1, c1, B1, d1, rfl, ho1, hzc, hzr, hb1⟩
      obtain ⟨b, off, A0, c0, rfl, hb, hc, _⟩ := ho1.rd 0 r0 HR0.out
      rw [HRL0.out, Nat.add_zero] at hc
      rw [HR.out]
      have K1 := hid hb1
      clear ho1 hb1 hzc hzr CR
      go_wp2_with fail
      go_ret2
      exact ⟨none, 0, rfl, own_nil _ _ _, K1.out⟩
  · have e1 : mhE o u x f = msE o u := by unfold mhE; rw [if_pos h1]
    have e2 : mhV o u x f = [] := if_neg (by rw [e1]; exact h1)
    rw [e1, e2]
    obtain ⟨E, hE⟩ : ∃ E, msE o u = E := ⟨_, rfl⟩
    rw [hE] at CR h1 ⊢
    have hne : (E != 0) = true := by simpa using h1
    rw [hU] at CR ⊢
    rw [hN]
    clear e1 e2 hE h1 hU hN ru rx iu ix hu hx
    go_enter Try.func13, Try.ntmps13
    go_wp2_with fail
    refine CR.out.mono ?_
    rintro _ w1 ⟨A1, c1, B1, d1, rfl, ho1, hzc, hzr, hb1⟩
    have K1 := hid hb1
    clear ho1 hb1 hzc hzr CR
    go_wp2_with fail
    go_ret2
    exact ⟨none, 0, rfl, own_nil _ _ _, K1.out⟩
end Go.Proofs.Ytekpejemfkjhcaa
/- Lines, by the landed code: what they tell, how far they are off. -/
namespace Go.Proofs.Ytekpejemfkjhcaa
open Go.RowKit
set_option maxHeartbeats 2000000
set_option maxRecDepth 100000
set_option linter.unusedVariables false
theorem ln_Tell {Aw Ax : Option Addr} {cw cx : Nat} (u x : List Int) (hu : u.length ≤ cw) (hcw : cw ≤ 9223372036854775807) (hx : x.length ≤ 9223372036854775807) (iu : I64s u) (ix : I64s x) (f : Int) (w : World)
    (ru : Rd (Value.int .i64) w w.heap.size Aw u) (rx : Rd (Value.int .i64) w w.heap.size Ax x) :
    Calls Try.prog 28 #[.slice Aw u.length cw, .slice Ax x.length cx, .int .i64 f] w fun e w' => e = .returned (.tuple #[.int .i64 (ltV u x f), .int .i64 (ltE u x f)]) ∧ Below w.heap.size w w' := by
  have hu9 : u.length ≤ 9223372036854775807 := Nat.le_trans hu hcw
  obtain ⟨w2, hw2⟩ : ∃ w2, w.alloc (.cells #[.slice Ax x.length cx, .int .i64 0] 24) = w2 := ⟨_, rfl⟩
  have hb2 : Below w.heap.size w w2 := by rw [← hw2]; go_grown
  have hs2 : w2.heap.size = w.heap.size + 1 := by rw [← hw2]; simp
  have r2 : RdSm w2 w2.heap.size (some ⟨w.heap.size, 0, none⟩) [⟨x, 0⟩] := by rw [← hw2]; exact smp_one 24 rx
  have CC := hid (ln_Check (Aw := Aw) (A := some ⟨w.heap.size, 0, none⟩) (cw := cw) (c := 1) (x.length : Int) (by unfold I64; omega) u hu9 [⟨x, 0⟩] (by simp) (by simpa using hx) w2 r2)
  obtain ⟨U, hU⟩ : ∃ U, u.length = U := ⟨_, rfl⟩
  obtain ⟨N, hN⟩ : ∃ N, x.length = N := ⟨_, rfl⟩
  have HRU := hid (ru.on hb2)
  have HRX := hid (rx.on hb2)
  have HB2 := hid hb2
  by_cases h1 : lcE (x.length : Int) u [⟨x, 0⟩] = 0
  · obtain ⟨⟨n1, n2⟩, hun, _, _, _⟩ := lcE_ok.1 h1
    rw [h1] at CC
    have hlast : ∃ y, u[x.length]? = some y ∧ u.getD x.length 0 = y := ⟨u[x.length]'(by omega), List.getElem?_eq_getElem (by omega), by rw [List.getD_eq_getElem?_getD, List.getElem?_eq_getElem (by omega)]; rfl⟩
    obtain ⟨y, hy, hyD⟩ := hlast
    have iy : I64 y := iu.at_ hy
    have hsl := fun W => run_upto (P := Try.prog) 22 Try.underlying22 Try.sizeOf2 Aw u.length cw x.length (by omega) W
    obtain ⟨A3, hA3⟩ : ∃ A3, cutA Aw 0 cw = A3 := ⟨_, rfl⟩
    rw [hA3] at hsl
    have htl : (u.take x.length).length = x.length := by rw [List.length_take]; omega
    have CD := hid (fun W (h1 : Rd (Value.int .i64) W W.heap.size A3 (u.take x.length)) (h2 : Rd (Value.int .i64) W W.heap.size Ax x) => Dot_any (c := cw) (d := cx) (u.take x.length) x (by rw [htl]; exact hx) hx (fun v hv => iu v (List.mem_of_mem_take hv)) ix f W h1 h2)
    rw [htl] at CD
    have HC := hid (fun W (h : Rd (Value.int .i64) W W.heap.size Aw u) => (by have := h.cut0 (c := cw) hu x.length; rw [hA3] at this; exact this : Rd (Value.int .i64) W W.heap.size A3 (u.take x.length)))
    by_cases h2 : dotE (u.take x.length) x f = 0
    · have eE : ltE u x f = ckE (dotV (u.take x.length) x f + y) := by unfold ltE; rw [if_neg (by simp [h1]), if_neg (by simp [h2]), hyD]
      have eV : ltV u x f = ckV (dotV (u.take x.length) x f + y) := by
        unfold ltV
        rw [eE, hyD]
        rcases ckE_cases (dotV (u.take x.length) x f + y) with ⟨a, b, c⟩ | ⟨a, b, c⟩
        · rw [if_pos a, c]
        · rw [if_neg (by rw [a]; decide), c]
      rw [eE, eV]
      rw [h2] at CD
      have iD : I64 (dotV (u.take x.length) x f) := ln_dot_i64 _ _ _
      obtain ⟨D, hD⟩ : ∃ D, dotV (u.take x.length) x f = D := ⟨_, rfl⟩
      rw [hD] at CD iD ⊢
      have CA := hid (fun W => fix_Add D y iD iy W)
      have HY := hid hy
      have HUN : Hid (x.length < u.length) := hid (by omega)
      have HUL : Hid (N < u.length) := hid (by omega)
      rw [hN] at CC CD HC hsl HY HUN hw2 ⊢
      rw [hU] at CC hsl HUN ⊢
      have hNU : (N : Int) < (U : Int) := by have := HUN.out; omega
      clear h1 n1 n2 hun hyD hA3 htl h2 eE eV hD iD iy hy hU hN hu hcw hu9 hx iu ix ru rx r2 hb2
      clear hs2
      go_enter Try.func28, Try.ntmps28
      go_wp2_with fail
      refine CC.out.mono ?_
      rintro _ w3 ⟨rfl, hb3⟩
      have K3 : Hid (Below w.heap.size w w3) := hid (HB2.out.trans (hb3.mono HB2.out.size))
      have RU3 := hid (HRU.out.on hb3)
      have RX3 := hid (HRX.out.on hb3)
      clear hb3 hw2
      go_wp2_with fail
      refine (CD.out _ (HC.out _ RU3.out) RX3.out).mono ?_
      rintro _ w4 ⟨rfl, hb4⟩
      have K4 : Hid (Below w.heap.size w w4) := hid (K3.out.trans (hb4.mono K3.out.size))
      obtain ⟨b1, o1, y', rfl, l1, en, c1⟩ := (RU3.out.on hb4).at_ (k := N) HUL.out
      obtain rfl : y = y' := Option.some.inj (HY.out.symm.trans en)
      clear hb4 en
      go_wp2_with fail
      refine (CA.out _).mono ?_
      rintro _ _ ⟨rfl, rfl⟩
      go_wp2_with fail
      go_ret2
      exact ⟨rfl, K4.out⟩
    · have eE : ltE u x f = dotE (u.take x.length) x f := by unfold ltE; rw [if_neg (by simp [h1]), if_pos h2]
      have eV : ltV u x f = 0 := if_neg (by rw [eE]; exact h2)
      rw [eE, eV]
      obtain ⟨E, hE⟩ : ∃ E, dotE (u.take x.length) x f = E := ⟨_, rfl⟩
      have hD0 : dotV (u.take x.length) x f = 0 := ln_dot_zero h2
      rw [hE] at CD h2 ⊢
      rw [hD0] at CD
      have hne : (E != 0) = true := by simpa using h2
      rw [hN] at CC CD HC hsl hw2 ⊢
      rw [hU] at CC hsl ⊢
      clear h1 n1 n2 hun hyD hA3 htl h2 eE eV hE hD0 iy hy hU hN hu hcw hu9 hx iu ix ru rx r2 hb2 hs2
      go_enter Try.func28, Try.ntmps28
      go_wp2_with fail
      refine CC.out.mono ?_
      rintro _ w3 ⟨rfl, hb3⟩
      have K3 : Hid (Below w.heap.size w w3) := hid (HB2.out.trans (hb3.mono HB2.out.size))
      have RU3 := hid (HRU.out.on hb3)
      have RX3 := hid (HRX.out.on hb3)
      clear hb3 hw2
      go_wp2_with fail
      refine (CD.out _ (HC.out _ RU3.out) RX3.out).mono ?_
      rintro _ w4 ⟨rfl, hb4⟩
      have K4 : Hid (Below w.heap.size w w4) := hid (K3.out.trans (hb4.mono K3.out.size))
      clear hb4
      go_wp2_with fail
      go_ret2
      exact ⟨rfl, K4.out⟩
  · have eE : ltE u x f = lcE (x.length : Int) u [⟨x, 0⟩] := by unfold ltE; rw [if_pos h1]
    have eV : ltV u x f = 0 := if_neg (by rw [eE]; exact h1)
    rw [eE, eV]
    obtain ⟨E, hE⟩ : ∃ E, lcE (x.length : Int) u [⟨x, 0⟩] = E := ⟨_, rfl⟩
    rw [hE] at CC h1 ⊢
    have hne : (E != 0) = true := by simpa using h1
    rw [hN] at CC hw2 ⊢
    rw [hU] at CC ⊢
    clear eE eV hE h1 ru rx iu ix hU hN hu hcw hu9 hx r2 hb2
    go_enter Try.func28, Try.ntmps28
    go_wp2_with fail
    refine CC.out.mono ?_
    rintro _ w3 ⟨rfl, hb3⟩
    have K3 : Hid (Below w.heap.size w w3) := hid (HB2.out.trans (hb3.mono HB2.out.size))
    clear hb3
    go_wp2_with fail
    go_ret2
    exact ⟨rfl, K3.out⟩
end Go.Proofs.Ytekpejemfkjhcaa
/- Lines, by the landed code: how far they are off. -/
namespace Go.Proofs.Ytekpejemfkjhcaa
open Go.RowKit
set_option maxHeartbeats 2000000
set_option maxRecDepth 100000
set_option linter.unusedVariables false
theorem ln_Off {Aw Ax : Option Addr} {cw cx : Nat} (u : List Int) (s : SmpV) (hu : u.length ≤ cw) (hcw : cw ≤ 9223372036854775807) (hx : s.X.length ≤ 9223372036854775807) (iu : I64s u) (ix : I64s s.X) (iY : I64 s.Y) (f : Int) (w : World)
    (ru : Rd (Value.int .i64) w w.heap.size Aw u) (rx : Rd (Value.int .i64) w w.heap.size Ax s.X) :
    Calls Try.prog 51 #[.slice Aw u.length cw, .agg #[.slice Ax s.X.length cx, .int .i64 s.Y], .int .i64 f] w fun e w' => e = .returned (.tuple #[.int .i64 (loV u s f), .int .i64 (loE u s f)]) ∧ Below w.heap.size w w' := by
  obtain ⟨w2, hw2⟩ : ∃ w2, w.alloc (.cells #[.slice Ax s.X.length cx, .int .i64 s.Y] 24) = w2 := ⟨_, rfl⟩
  have hb2 : Below w.heap.size w w2 := by rw [← hw2]; go_grown
  have hs2 : w.heap.size < w2.heap.size := by rw [← hw2]; simp
  have c0 : w2.cell? ⟨w.heap.size, 0, none⟩ = some (.slice Ax s.X.length cx) := by rw [← hw2]; simp [go_sem]
  have c1 : w2.cell? ⟨w.heap.size, 1, none⟩ = some (.int .i64 s.Y) := by rw [← hw2]; simp [go_sem]
  have CT := hid (ln_Tell (Aw := Aw) (Ax := Ax) (cw := cw) (cx := cx) u s.X hu hcw hx iu ix f w2 (ru.on hb2) (rx.on hb2))
  obtain ⟨U, hU⟩ : ∃ U, u.length = U := ⟨_, rfl⟩
  obtain ⟨N, hN⟩ : ∃ N, s.X.length = N := ⟨_, rfl⟩
  have HB2 := hid hb2
  by_cases h1 : ltE u s.X f = 0
  · have iV := ltV_i64 u s.X f
    have eE : loE u s f = ckE (ltV u s.X f - s.Y) := by unfold loE; rw [if_neg (by simp [h1])]
    have eV : loV u s f = ckV (ltV u s.X f - s.Y) := by
      unfold loV
      rw [eE]
      rcases ckE_cases (ltV u s.X f - s.Y) with ⟨a, b, c⟩ | ⟨a, b, c⟩
      · rw [if_pos a, c]
      · rw [if_neg (by rw [a]; decide), c]
    rw [eE, eV]
    rw [h1] at CT
    obtain ⟨V, hV⟩ : ∃ V, ltV u s.X f = V := ⟨_, rfl⟩
    obtain ⟨Y, hY⟩ : ∃ Y, s.Y = Y := ⟨_, rfl⟩
    rw [hV] at CT iV ⊢
    rw [hY] at c1 hw2 iY ⊢
    rw [hN] at CT c0 hw2 ⊢
    rw [hU] at CT ⊢
    have CS := hid (fun W => fix_Sub V Y iV iY W)
    clear h1 eE eV hV hY hN hU hu hcw hx iu ix ru rx hb2 iV iY
    go_enter Try.func51, Try.ntmps51
    go_wp2_with fail
    refine CT.out.mono ?_
    rintro _ w3 ⟨rfl, hb3⟩
    have K3 : Hid (Below w.heap.size w w3) := hid (HB2.out.trans (hb3.mono HB2.out.size))
    have c1' := (hb3.cell (p := ⟨w.heap.size, 1, none⟩) hs2).trans c1
    have c0' := (hb3.cell (p := ⟨w.heap.size, 0, none⟩) hs2).trans c0
    clear hb3 hw2 c0 c1 hs2
    go_wp2_with fail
    refine (CS.out _).mono ?_
    rintro _ _ ⟨rfl, rfl⟩
    go_wp2_with fail
    go_ret2
    exact ⟨rfl, K3.out⟩
  · have eE : loE u s f = ltE u s.X f := by unfold loE; rw [if_pos h1]
    have eV : loV u s f = 0 := if_neg (by rw [eE]; exact h1)
    have hv : ltV u s.X f = 0 := if_neg h1
    rw [eE, eV]
    rw [hv] at CT
    obtain ⟨E, hE⟩ : ∃ E, ltE u s.X f = E := ⟨_, rfl⟩
    rw [hE] at CT h1 ⊢
    have hne : (E != 0) = true := by simpa using h1
    obtain ⟨Y, hY⟩ : ∃ Y, s.Y = Y := ⟨_, rfl⟩
    rw [hY] at c1 hw2 ⊢
    rw [hN] at CT c0 hw2 ⊢
    rw [hU] at CT ⊢
    clear h1 eE eV hv hE hY hN hU hu hcw hx iu ix ru rx hb2 iY
    go_enter Try.func51, Try.ntmps51
    go_wp2_with fail
    refine CT.out.mono ?_
    rintro _ w3 ⟨rfl, hb3⟩
    have K3 : Hid (Below w.heap.size w w3) := hid (HB2.out.trans (hb3.mono HB2.out.size))
    clear hb3 hw2 c0 c1 hs2
    go_wp2_with fail
    go_ret2
    exact ⟨rfl, K3.out⟩
end Go.Proofs.Ytekpejemfkjhcaa
/- Two layers, by the landed code: what is put behind the others; how far the lines ahead are off. -/
namespace Go.Proofs.Ytekpejemfkjhcaa
open Go.RowKit
set_option maxHeartbeats 4000000
set_option maxRecDepth 100000
set_option linter.unusedVariables false
theorem mq_put_ok {A Ax : Option Addr} {c cx : Nat} (T X : List Int) (d f : Int) (hT : T.length ≤ 100000) (hX : X.length ≤ 4096) (ix : I64s X) (idd : I64 d) (base : Nat) (w : World) (he : unE (behE f) (numS X d f) X.length = 0)
    (ho : w.ownsRow base 2 1 (.slice A T.length c) T.length (T.map (Value.int .i64))) (hb : base ≤ w.heap.size) (rx : Rd (Value.int .i64) w w.heap.size Ax X) :
    Calls Try.prog 54 #[.slice A T.length c, .slice Ax X.length cx, .int .i64 d, .int .i64 f] w fun e w' =>
      ∃ (A' : Option Addr) (c' : Nat) (S : List Int), e = .returned (.tuple #[.slice A' S.length c', .int .i64 0]) ∧ S = T ++ (unV (behE f) (numS X d f) X.length ++ [d]) ∧ w'.ownsRow base 2 1 (.slice A' S.length c') S.length (S.map (Value.int .i64)) ∧ Below base w w' := by
  have CS := hid (Scale_any (A := Ax) (c := cx) X (by omega) ix d f idd w rx)
  have hVl : (unV (behE f) (numS X d f) X.length).length ≤ 4096 := unV_len _ _ _
  rw [he] at CS
  obtain ⟨V, hV⟩ : ∃ V, unV (behE f) (numS X d f) X.length = V := ⟨_, rfl⟩
  rw [hV] at CS hVl ⊢
  obtain ⟨N, hN⟩ : ∃ N, X.length = N := ⟨_, rfl⟩
  rw [hN] at CS ⊢
  obtain ⟨t, ht⟩ : ∃ t, T.length = t := ⟨_, rfl⟩
  have HTT := hid ht
  have HO := hid ho
  have HVL := hid hVl
  have HT := hid hT
  have HBB := hid hb
  rw [ht]
  clear hV hN ho rx ix idd hX he hT hVl ht hb
  go_enter Try.func54, Try.ntmps54
  go_wp2_with fail
  refine CS.out.mono ?_
  rintro _ w1 ⟨A1, c1, rfl, ho1, hb1⟩
  have HO1 := hid ho1
  have K1 : Hid (Below base w w1) := hid (hb1.mono HBB.out)
  have h0 := own_on HO.out hb1
  have hz1 := hb1.size
  have hbase : base ≤ w1.heap.size := by have := HBB.out; omega
  clear ho1 hb1 hz1 CS
  go_wp2_with (at_builtin; refine wpList_app (Value.int .i64) (fun _ => rfl) _ rfl _ _ 22 rfl base 2 (.int .i64 0) 8 Try.underlying22 info_i64 rfl T A c (by rw [HTT.out]; rfl) h0 V A1 c1 _ rfl (own_rd HO1.out) (by have := HT.out; have := HVL.out; simp [maxLen]; omega) (by have := HT.out; have := HVL.out; omega) hbase ?_)
  rintro S1 A2 c2 w2 hS1 ho2 hb2 _
  have HS1 := hid hS1
  have HO2 := hid ho2
  have K2 : Hid (Below base w w2) := hid (K1.out.trans hb2)
  have hr0 : Rd (Value.int .i64) (w2.alloc (.cells #[.int .i64 d] 2)) _ (some ⟨w2.heap.size, 0, none⟩) [d] := rd_one (one_cell w2 (.int .i64 d) 2).1
  have h0' := own_on HO2.out ((Below.refl w2.heap.size w2).alloc (Nat.le_refl _) (.cells #[.int .i64 d] 2))
  have K3 : Hid (Below base w (w2.alloc (.cells #[.int .i64 d] 2))) := hid (K2.out.alloc (by have := K2.out.size; have := HBB.out; omega) _)
  have hbase3 : base ≤ (w2.alloc (.cells #[.int .i64 d] 2)).heap.size := by have := K3.out.size; have := HBB.out; omega
  have HB3 := hid hbase3
  obtain ⟨s1, hs1⟩ : ∃ s1, S1.length = s1 := ⟨_, rfl⟩
  have HSL := hid hs1
  rw [hs1]
  have HSB : Hid (s1 ≤ 104096) := hid (by rw [← hs1, hS1, List.length_append]; have := HT.out; have := HVL.out; omega)
  clear hS1 ho2 hb2 h0 hbase hbase3 hs1
  go_wp2_with (at_builtin; refine wpList_app (Value.int .i64) (fun _ => rfl) _ rfl _ _ 22 rfl base 2 (.int .i64 0) 8 Try.underlying22 info_i64 rfl S1 A2 c2 (by rw [HSL.out]; rfl) h0' [d] _ 1 _ rfl hr0 (by have := HSL.out; have := HSB.out; simp [maxLen]; omega) (by have := HSL.out; have := HSB.out; simp; omega) HB3.out ?_)
  rintro S3 A4 c4 w4 hS3 ho4 hb4 _
  have HS3 := hid hS3
  have HO4 := hid ho4
  have K4 : Hid (Below base w w4) := hid (K3.out.trans hb4)
  clear hS3 ho4 hb4 hr0 h0'
  go_wp2_with fail
  go_ret2
  exact ⟨A4, c4, S3, rfl, by rw [HS3.out, HS1.out, List.append_assoc], HO4.out, K4.out⟩
theorem mq_put_bad {A Ax : Option Addr} {t c cx : Nat} (X : List Int) (d f : Int) (hX : X.length ≤ 4096) (ix : I64s X) (idd : I64 d) (w : World) (he : unE (behE f) (numS X d f) X.length ≠ 0) (rx : Rd (Value.int .i64) w w.heap.size Ax X) :
    Calls Try.prog 54 #[.slice A t c, .slice Ax X.length cx, .int .i64 d, .int .i64 f] w fun e w' =>
      e = .returned (.tuple #[.slice none 0 0, .int .i64 (unE (behE f) (numS X d f) X.length)]) ∧ Below w.heap.size w w' := by
  have CS := hid (Scale_any (A := Ax) (c := cx) X (by omega) ix d f idd w rx)
  obtain ⟨E, hE⟩ : ∃ E, unE (behE f) (numS X d f) X.length = E := ⟨_, rfl⟩
  obtain ⟨V, hV⟩ : ∃ V, unV (behE f) (numS X d f) X.length = V := ⟨_, rfl⟩
  rw [hV, hE] at CS
  rw [hE] at he ⊢
  have hne : (E != 0) = true := by simpa using he
  obtain ⟨N, hN⟩ : ∃ N, X.length = N := ⟨_, rfl⟩
  rw [hN] at CS ⊢
  clear hE hV hN rx ix idd hX he
  go_enter Try.func54, Try.ntmps54
  go_wp2_with fail
  refine CS.out.mono ?_
  rintro _ w1 ⟨A1, c1, rfl, ho1, hb1⟩
  have K1 := hid hb1
  clear ho1 hb1 CS
  go_wp2_with fail
  go_ret2
  exact ⟨rfl, K1.out⟩
theorem row_below {w w' : World} {b n : Nat} {t : TypeId} {f : Nat → Value} (h : w.rowIs b t n f) (hb : Below w.heap.size w w') : w'.rowIs b t n f := by
  obtain ⟨c, h1, h2⟩ := h
  exact ⟨c, (hb.block b (Array.getElem?_eq_some_iff.1 h1).1).trans h1, h2⟩
/-- What stands there when the first k are told. -/
def bkF (o : Int) (u : List Int) (f d : Int) (H : List Int) (k j : Nat) : Int := if j < k then mwV d (H.getD j 0) ((mlZ o u).getD j 0) f else 0
theorem bkF_0 (o : Int) (u : List Int) (f d : Int) (H : List Int) (j : Nat) : bkF o u f d H 0 j = 0 := if_neg (by omega)
theorem bkF_on (o : Int) (u : List Int) (f d : Int) (H : List Int) (k j : Nat) : bkF o u f d H (k + 1) j = if j = k then mwV d (H.getD k 0) ((mlZ o u).getD k 0) f else bkF o u f d H k j := by
  unfold bkF
  by_cases e : j = k
  · subst e
    rw [if_pos (by omega), if_pos rfl]
  · rw [if_neg e]
    by_cases h : j < k
    · rw [if_pos h, if_pos (by omega)]
    · rw [if_neg h, if_neg (by omega)]
theorem bkF_me (o : Int) (u : List Int) (f d : Int) (H : List Int) (k : Nat) : bkF o u f d H k k = 0 := if_neg (by omega)
theorem bkF_all {o : Int} {u : List Int} {f d : Int} {H : List Int} {k j : Nat} (hj : j < k) : bkF o u f d H k j = mwV d (H.getD j 0) ((mlZ o u).getD j 0) f := if_pos hj
theorem mq_back {Az Aa A : Option Addr} {cz ca c : Nat} (O : Nat) (u H : List Int) (h1 : msE (O : Int) u = 0) (iu : I64s u) (hH : H.length = O) (hH0 : ∀ y ∈ H, 0 ≤ y) (d f : Int) (idd : I64 d) (w : World)
    (hn : NetR w (O : Int) u Az cz Aa) (rh : Rd (Value.int .i64) w w.heap.size A H) :
    Calls Try.prog 53 #[.agg #[.slice Az (O + 1) cz, .int .i64 O, .slice Aa O ca], .slice A O c, .int .i64 d, .int .i64 f] w (OwnInts (mkO (O : Int) u f d H) (mkE (O : Int) u f d H) w) := by
  obtain ⟨⟨o1, o8⟩, _⟩ := msE_ok.1 h1
  obtain ⟨w2, hw2⟩ : ∃ w2, w.alloc (.cells #[.slice Az (O + 1) cz, .int .i64 (O : Int), .slice Aa O ca] 55) = w2 := ⟨_, rfl⟩
  have hb2 : Below w.heap.size w w2 := by rw [← hw2]; exact (Below.refl _ _).alloc (Nat.le_refl _) _
  have hz2 : w2.heap.size = w.heap.size + 1 := by rw [← hw2]; simp
  have g0 : w2.cell? ⟨w.heap.size, 0, none⟩ = some (.slice Az (O + 1) cz) := by rw [← hw2]; simp [go_sem]
  have hZl := mlZ_len h1
  rw [Int.toNat_natCast] at hZl
  have hiZ : I64s (mlZ (O : Int) u) := fun y hy => iu y (List.mem_of_mem_drop hy)
  obtain ⟨Z, hZ⟩ : ∃ Z, mlZ (O : Int) u = Z := ⟨_, rfl⟩
  have RZ : Hid (Rd (Value.int .i64) w2 w2.heap.size Az Z) := hid (by rw [← hZ]; exact (hn.on hb2).1)
  have RH := hid (rh.on hb2)
  rw [hZ] at hZl hiZ
  have hE : mkE (O : Int) u f d H = fstE ((List.range O).map fun i => mwE d (H.getD i 0) (Z.getD i 0) f) := by unfold mkE; rw [hZ, Int.toNat_natCast]
  have hV : mkV (O : Int) u f d H = (List.range O).map fun i => mwV d (H.getD i 0) (Z.getD i 0) f := by unfold mkV; rw [hZ, Int.toNat_natCast]
  have hO : mkO (O : Int) u f d H = if mkE (O : Int) u f d H = 0 then mkV (O : Int) u f d H else [] := rfl
  obtain ⟨vE, hvE⟩ : ∃ v, mkE (O : Int) u f d H = v := ⟨_, rfl⟩
  obtain ⟨vV, hvV⟩ : ∃ v, mkO (O : Int) u f d H = v := ⟨_, rfl⟩
  rw [hvE] at hE
  rw [hvE, hvV, hV] at hO
  rw [hvE, hvV]
  have hmk := fun W => run_make_row' (P := Try.prog) 22 2 (.int .i64 0) 8 Try.underlying22 info_i64 rfl .i64 .i64 O (by omega) (by omega) W
  have HE := hid hE
  have HO := hid hO
  have HHL := hid hH
  have HH0 := hid hH0
  have HZL := hid hZl
  have HIZ := hid hiZ
  have HON := hid (fun k j => bkF_on (O : Int) u f d H k j)
  have HZZ := hid hZ
  have HO8 : Hid (1 ≤ O ∧ O ≤ 8) := hid (by omega)
  have HID := hid idd
  have HB2 := hid hb2
  have HZ2 := hid hz2
  have hl2 : w.heap.size < w2.heap.size := by omega
  have HL2 := hid hl2
  have G0 := hid g0
  clear hE hV hO hvE hvV hH hH0 hZl hiZ hZ h1 iu hn rh o1 o8 idd hb2 hz2 hl2
  go_enter Try.func53, Try.ntmps53
  go_wp2_with fail
  clear g0 hw2
  go_loopw [11, 12, 13, 19] (fun _ _ _ xi wr => ∃ k : Nat, k ≤ O ∧ xi = .int .i64 (k : Int) ∧ wr.rowIs w2.heap.size 2 O (fun j => .int .i64 (bkF (O : Int) u f d H k j)) ∧ (∀ i, i < k → mwE d (H.getD i 0) (Z.getD i 0) f = 0) ∧ Below w2.heap.size w2 wr) (fun _ _ _ xi _ => O - (intOf xi).toNat)
  case atStart => exact ⟨0, Nat.zero_le _, rfl, (World.rowIs_made w2 (.int .i64 0) O _).congr (fun j hj => by rw [bkF_0]), fun i hi => by omega, (Below.refl _ _).alloc (Nat.le_refl _) _⟩
  case round =>
    obtain ⟨k, hk, rfl, hrow, hall, hbel⟩ := hrel
    have HR := hid hrow
    have HALL := hid hall
    have HB := hid hbel
    clear hmk hall
    by_cases hlt : k < O
    · obtain ⟨b1, o1, y, rfl, l1, en, c1⟩ := (RH.out.on hbel).at_ (k := k) (by rw [HHL.out]; exact hlt)
      obtain ⟨b2, o2, z, rfl, l2, ez, c2⟩ := (RZ.out.on hbel).at_ (k := k) (by rw [HZL.out]; omega)
      have hy0 : 0 ≤ y := HH0.out y (List.mem_of_getElem? en)
      have iz : I64 z := HIZ.out z (List.mem_of_getElem? ez)
      have eH : H.getD k 0 = y := by rw [List.getD_eq_getElem?_getD, en]; rfl
      have eZ : Z.getD k 0 = z := by rw [List.getD_eq_getElem?_getD, ez]; rfl
      have HS := hid (fun j => HON.out k j)
      rw [HZZ.out, eH, eZ] at HS
      have HKM := hid hlt
      have HW := hid (show IntKind.i64.wrap ((k : Int) + 1) = ((k + 1 : Nat) : Int) from Go.IntWalk.i64_in _ (by have := HO8.out; omega))
      have c3 := hrow.cell hlt
      simp only [bkF_me] at c3
      have f1 := hrow.frozen k
      have g0' := (hbel.cell (p := ⟨w.heap.size, 0, none⟩) HL2.out).trans G0.out
      have hkO : k < O + 1 := by omega
      have HEH := hid eH
      have HEZ := hid eZ
      clear en ez eH eZ
      by_cases hy : y = 0
      · subst hy
        have hE0 : Hid (mwE d 0 z f = 0 ∧ mwV d 0 z f = 0) := hid ⟨if_neg (by decide), if_neg (by decide)⟩
        have hw := HW.out
        clear hbel hrow iz hy0
        go_wp2_with fail
        go_roundw
        case rel =>
          refine ⟨k + 1, HKM.out, rfl, HR.out.congr fun j hj => ?_, fun i hi => ?_, HB.out⟩
          · rw [HS.out, hE0.out.2]
            by_cases e : j = k
            · rw [if_pos e, e, bkF_me]
            · rw [if_neg e]
          · by_cases e : i = k
            · rw [e, HEH.out, HEZ.out]; exact hE0.out.1
            · exact HALL.out i (by omega)
        case measure => have := HKM.out; (try clear hw); simp [intOf]; omega
      · have hyp : 0 < y := by omega
        have hEM : Hid (mwE d y z f = mulE d z f ∧ mwV d y z f = mulV d z f) := hid ⟨if_pos hyp, if_pos hyp⟩
        have t0 : (y == 0) = false := by simpa using hy
        have CM := hid (fix_mul d z f HID.out iz wr)
        obtain ⟨V, hV⟩ : ∃ V, mulV d z f = V := ⟨_, rfl⟩
        obtain ⟨E, hE⟩ : ∃ E, mulE d z f = E := ⟨_, rfl⟩
        rw [hV, hE] at CM hEM
        have hrl : w2.heap.size < wr.heap.size := lt_of_cell c3
        clear hV hE hy hyp hy0 iz
        by_cases hE0 : E = 0
        · subst hE0
          clear hrow hbel
          go_wp2_with fail
          refine CM.out.mono ?_
          rintro _ w4 ⟨rfl, hb4⟩
          have c3' := (hb4.cell (p := ⟨w2.heap.size, k, none⟩) hrl).trans c3
          have f1' : w4.frozen? ⟨w2.heap.size, k, none⟩ = false := (hb4.frozen (p := ⟨w2.heap.size, k, none⟩) hrl).trans f1
          have HR4 := hid (row_below HR.out hb4)
          have HB4 : Hid (Below w2.heap.size w2 w4) := hid (HB.out.trans (hb4.mono HB.out.size))
          have hw := HW.out
          clear c3 f1 hb4 c1 c2 g0' l1 l2
          go_wp2_with fail
          go_roundw
          case rel =>
            refine ⟨k + 1, HKM.out, rfl, World.rowIs.congr (HR4.out.set k (.int .i64 V)) fun j hj => ?_, fun i hi => ?_, HB4.out.setCell (Nat.le_refl _) _⟩
            · rw [HS.out, hEM.out.2]
              by_cases e : j = k
              · rw [if_pos e, if_pos e]
              · rw [if_neg e, if_neg e]
            · by_cases e : i = k
              · rw [e, HEH.out, HEZ.out]; exact hEM.out.1
              · exact HALL.out i (by omega)
          case measure => have := HKM.out; (try clear hw); simp [intOf]; omega
        · have hne : (E != 0) = true := by simpa using hE0
          have e1 : vE = E := by
            rw [HE.out]
            have := fstE_at (g := fun i => mwE d (H.getD i 0) (Z.getD i 0) f) (ls := List.range O) (k := k) (s := k) (fun i hi => by
              rw [List.take_range, Nat.min_eq_left (by omega)] at hi
              exact HALL.out i (List.mem_range.1 hi)) (by rw [List.getElem?_range hlt]) (by rw [HEH.out, HEZ.out, hEM.out.1]; exact hE0)
            rw [this, HEH.out, HEZ.out, hEM.out.1]
          have e2 : vV = [] := by rw [HO.out, if_neg (by rw [e1]; exact hE0)]
          rw [e1, e2]
          have K0 : Hid (Below w.heap.size w wr) := hid (HB2.out.trans (HB.out.mono HB2.out.size))
          clear e1 e2 hE0 hrow hbel
          go_wp2_with fail
          refine CM.out.mono ?_
          rintro _ w4 ⟨rfl, hb4⟩
          have c3' := (hb4.cell (p := ⟨w2.heap.size, k, none⟩) hrl).trans c3
          have f1' : w4.frozen? ⟨w2.heap.size, k, none⟩ = false := (hb4.frozen (p := ⟨w2.heap.size, k, none⟩) hrl).trans f1
          have K4 : Hid (Below w.heap.size w w4) := hid (K0.out.trans (hb4.mono K0.out.size))
          clear c3 f1 hb4 c1 c2 g0' l1 l2
          go_wp2_with fail
          go_ret2
          exact ⟨none, 0, rfl, own_nil _ _ _, K4.out.setCell (by have := HL2.out; show w.heap.size ≤ w2.heap.size; omega) _⟩
    · obtain rfl : k = O := by omega
      have e1 : vE = 0 := by
        rw [HE.out]
        refine fstE_ok.2 fun e he => ?_
        obtain ⟨i, hi, rfl⟩ := List.mem_map.1 he
        exact HALL.out i (List.mem_range.1 hi)
      have e2 : vV = (List.range k).map fun i => mwV d (H.getD i 0) (Z.getD i 0) f := by rw [HO.out, if_pos e1]
      have HE2 := hid e2
      subst e1
      have hvl : vV.length = k := by rw [e2, List.length_map, List.length_range]
      have HVL := hid hvl
      clear hbel hrow hvl e2
      go_wp2_with fail
      go_ret2
      have HR2 := HR.out.congr (g := fun j => .int .i64 (mwV d (H.getD j 0) (Z.getD j 0) f)) fun j hj => by rw [bkF_all hj, HZZ.out]
      have hh := own_made (w' := wr) (B := w.heap.size) HR2 (by have := HL2.out; omega) (by have := HO8.out; unfold maxLen; omega)
      refine ⟨some ⟨w2.heap.size, 0, none⟩, k, by rw [HVL.out]; rfl, ?_, HB2.out.trans (HB.out.mono HB2.out.size)⟩
      rw [HVL.out, HE2.out, List.map_map]
      exact hh
end Go.Proofs.Ytekpejemfkjhcaa
/- Lines hidden and a last one, by the document: what they tell, how far they are off. -/
namespace Go.Proofs.Ytekpejemfkjhcaa
open Go.RowKit
set_option maxHeartbeats 2000000
set_option maxRecDepth 100000
set_option linter.unusedVariables false
theorem mlZ_i64 {h : Int} {u : List Int} (iu : I64s u) : I64s (mlZ h u) := fun x hx => iu x (List.mem_of_mem_drop hx)
theorem ref_Tell16 {Au Ax : Option Addr} {cu cx : Nat} (h : Int) (ih : I64 h) (u x : List Int) (hu : u.length ≤ cu) (hcu : cu ≤ 9223372036854775807) (iu : I64s u) (hx : x.length ≤ 1099511627776) (ix : I64s x) (f : Int) (w : World)
    (ru : Rd (Value.int .i64) w w.heap.size Au u) (rx : Rd (Value.int .i64) w w.heap.size Ax x) :
    Calls Try.prog 11 #[.int .i64 h, .slice Au u.length cu, .slice Ax x.length cx, .int .i64 f] w fun e w' => e = .returned (.tuple #[.int .i64 (mqV h u x f), .int .i64 (mqE h u x f)]) ∧ Below w.heap.size w w' := by
  have CH := hid (ref_Hidden16 (Au := Au) (Ax := Ax) (cu := cu) (cx := cx) h ih u x hu hcu iu hx ix f w ru rx)
  have CP := hid (fun W hr => ref_Split16 (Au := Au) (cu := cu) h ih u hu hcu W hr)
  obtain ⟨U, hU⟩ : ∃ U, u.length = U := ⟨_, rfl⟩
  obtain ⟨N, hN⟩ : ∃ N, x.length = N := ⟨_, rfl⟩
  rw [hU, hN] at CH
  rw [hU] at CP ⊢
  rw [hN]
  by_cases h1 : mhE h u x f = 0
  · have hm := (mhE_ok.1 h1).1
    have e0 : mhV h u x f = mhL h u x f := if_pos h1
    have e1 : mzO h u = mlZ h u := if_pos hm
    have eE : mqE h u x f = ltE (mlZ h u) (mhL h u x f) f := by unfold mqE; rw [if_neg (by simp [h1])]
    have eV : mqV h u x f = ltV (mlZ h u) (mhL h u x f) f := by
      unfold mqV
      rw [eE]
      by_cases h2 : ltE (mlZ h u) (mhL h u x f) f = 0
      · rw [if_pos h2]
      · rw [if_neg h2]; unfold ltV; rw [if_neg h2]
    have h8 := (msE_ok.1 hm).1.2
    have CT := hid (fun (A B : Option Addr) (c d : Nat) (hc : (mlZ h u).length ≤ c) (hc2 : c ≤ 9223372036854775807) (W : World) h1 h2 => ref_Tell14 (Aw := A) (Ax := B) (cw := c) (cx := d) (mlZ h u) (mhL h u x f) hc hc2 (by rw [mhL_len]; omega) (mlZ_i64 iu) (fun y hy => (mhL_i64 h u x f y hy).1) f W h1 h2)
    rw [h1, e0] at CH
    rw [hm, e1] at CP
    rw [eE, eV]
    obtain ⟨H, hH⟩ : ∃ H, mhL h u x f = H := ⟨_, rfl⟩
    obtain ⟨Z, hZ⟩ : ∃ Z, mlZ h u = Z := ⟨_, rfl⟩
    obtain ⟨R, hR⟩ : ∃ R, mlO h u = R := ⟨_, rfl⟩
    rw [hH] at CH CT ⊢
    rw [hZ] at CP CT ⊢
    rw [hR] at CP
    have RU := hid ru
    clear hm e0 e1 eE eV h8 hH hZ hR hU hN hu hcu iu hx ix ru rx ih h1
    go_enter Try.func11, Try.ntmps11
    go_wp2_with fail
    refine CH.out.mono ?_
    rintro _ w1 ⟨A1, c1, rfl, ho1, hb1⟩
    have K1 := hid hb1
    have R1 := hid (own_rd ho1)
    clear ho1 hb1 CH
    go_wp2_with fail
    refine (CP.out _ (RU.out.on K1.out)).mono ?_
    rintro _ w2 ⟨A2, c2, B2, d2, rfl, ho2, hzc, hzr, hb2⟩
    have K2 : Hid (Below w.heap.size w w2) := hid (K1.out.trans (hb2.mono K1.out.size))
    have CT2 := hid (CT.out B2 A1 d2 c1 hzc.1 hzc.2 w2 hzr.rd (R1.out.on hb2))
    clear ho2 hzc hzr hb2 CP CT
    go_wp2_with fail
    refine CT2.out.mono ?_
    rintro _ w3 ⟨rfl, hb3⟩
    have K3 : Hid (Below w.heap.size w w3) := hid (K2.out.trans (hb3.mono K2.out.size))
    clear hb3
    go_wp2_with fail
    go_ret2
    exact ⟨rfl, K3.out⟩
  · have eE : mqE h u x f = mhE h u x f := by unfold mqE; rw [if_pos h1]
    have eV : mqV h u x f = 0 := if_neg (by rw [eE]; exact h1)
    rw [eE, eV]
    obtain ⟨E, hE⟩ : ∃ E, mhE h u x f = E := ⟨_, rfl⟩
    rw [hE] at CH h1 ⊢
    have hne : (E != 0) = true := by simpa using h1
    clear h1 eE eV hE hU hN hu hcu iu hx ix ru rx ih CP
    go_enter Try.func11, Try.ntmps11
    go_wp2_with fail
    refine CH.out.mono ?_
    rintro _ w1 ⟨A1, c1, rfl, ho1, hb1⟩
    have K1 := hid hb1
    clear ho1 hb1 CH
    go_wp2_with fail
    go_ret2
    exact ⟨rfl, K1.out⟩
theorem ref_Off16 {Aw Ax : Option Addr} {cw cx : Nat} (h : Int) (ih : I64 h) (u : List Int) (s : SmpV) (hu : u.length ≤ cw) (hcw : cw ≤ 9223372036854775807) (hx : s.X.length ≤ 1099511627776) (iu : I64s u) (ix : I64s s.X) (iY : I64 s.Y) (f : Int) (w : World)
    (ru : Rd (Value.int .i64) w w.heap.size Aw u) (rx : Rd (Value.int .i64) w w.heap.size Ax s.X) :
    Calls Try.prog 15 #[.int .i64 h, .slice Aw u.length cw, .agg #[.slice Ax s.X.length cx, .int .i64 s.Y], .int .i64 f] w fun e w' => e = .returned (.tuple #[.int .i64 (moV h u s f), .int .i64 (moE h u s f)]) ∧ Below w.heap.size w w' := by
  obtain ⟨w2, hw2⟩ : ∃ w2, w.alloc (.cells #[.slice Ax s.X.length cx, .int .i64 s.Y] 24) = w2 := ⟨_, rfl⟩
  have hb2 : Below w.heap.size w w2 := by rw [← hw2]; go_grown
  have hs2 : w.heap.size < w2.heap.size := by rw [← hw2]; simp
  have c0 : w2.cell? ⟨w.heap.size, 0, none⟩ = some (.slice Ax s.X.length cx) := by rw [← hw2]; simp [go_sem]
  have c1 : w2.cell? ⟨w.heap.size, 1, none⟩ = some (.int .i64 s.Y) := by rw [← hw2]; simp [go_sem]
  have CT := hid (ref_Tell16 (Au := Aw) (Ax := Ax) (cu := cw) (cx := cx) h ih u s.X hu hcw iu hx ix f w2 (ru.on hb2) (rx.on hb2))
  obtain ⟨U, hU⟩ : ∃ U, u.length = U := ⟨_, rfl⟩
  obtain ⟨N, hN⟩ : ∃ N, s.X.length = N := ⟨_, rfl⟩
  have HB2 := hid hb2
  by_cases h1 : mqE h u s.X f = 0
  · have iV := mqV_i64 h u s.X f
    have eE : moE h u s f = ckE (mqV h u s.X f - s.Y) := by unfold moE; rw [if_neg (by simp [h1])]
    have eV : moV h u s f = ckV (mqV h u s.X f - s.Y) := by
      unfold moV
      rw [eE]
      rcases ckE_cases (mqV h u s.X f - s.Y) with ⟨a, b, c⟩ | ⟨a, b, c⟩
      · rw [if_pos a, c]
      · rw [if_neg (by rw [a]; decide), c]
    rw [eE, eV]
    rw [h1] at CT
    obtain ⟨V, hV⟩ : ∃ V, mqV h u s.X f = V := ⟨_, rfl⟩
    obtain ⟨Y, hY⟩ : ∃ Y, s.Y = Y := ⟨_, rfl⟩
    rw [hV] at CT iV ⊢
    rw [hY] at c1 hw2 iY ⊢
    rw [hN] at CT c0 hw2 ⊢
    rw [hU] at CT ⊢
    have CS := hid (fun W => ref_Sub V Y iV iY W)
    clear h1 eE eV hV hY hN hU hu hcw hx iu ix ru rx hb2 iV iY
    go_enter Try.func15, Try.ntmps15
    go_wp2_with fail
    refine CT.out.mono ?_
    rintro _ w3 ⟨rfl, hb3⟩
    have K3 : Hid (Below w.heap.size w w3) := hid (HB2.out.trans (hb3.mono HB2.out.size))
    have c1' := (hb3.cell (p := ⟨w.heap.size, 1, none⟩) hs2).trans c1
    have c0' := (hb3.cell (p := ⟨w.heap.size, 0, none⟩) hs2).trans c0
    clear hb3 hw2 c0 c1 hs2
    go_wp2_with fail
    refine (CS.out _).mono ?_
    rintro _ _ ⟨rfl, rfl⟩
    go_wp2_with fail
    go_ret2
    exact ⟨rfl, K3.out⟩
  · have eE : moE h u s f = mqE h u s.X f := by unfold moE; rw [if_pos h1]
    have eV : moV h u s f = 0 := if_neg (by rw [eE]; exact h1)
    have hv : mqV h u s.X f = 0 := if_neg h1
    rw [eE, eV]
    rw [hv] at CT
    obtain ⟨E, hE⟩ : ∃ E, mqE h u s.X f = E := ⟨_, rfl⟩
    rw [hE] at CT h1 ⊢
    have hne : (E != 0) = true := by simpa using h1
    obtain ⟨Y, hY⟩ : ∃ Y, s.Y = Y := ⟨_, rfl⟩
    rw [hY] at c1 hw2 ⊢
    rw [hN] at CT c0 hw2 ⊢
    rw [hU] at CT ⊢
    clear h1 eE eV hv hE hY hN hU hu hcw hx iu ix ru rx hb2 iY
    go_enter Try.func15, Try.ntmps15
    go_wp2_with fail
    refine CT.out.mono ?_
    rintro _ w3 ⟨rfl, hb3⟩
    have K3 : Hid (Below w.heap.size w w3) := hid (HB2.out.trans (hb3.mono HB2.out.size))
    clear hb3 hw2 c0 c1 hs2
    go_wp2_with fail
    go_ret2
    exact ⟨rfl, K3.out⟩
end Go.Proofs.Ytekpejemfkjhcaa
/- Lines, by the document: how far they are off. -/

namespace Go.Proofs.Ytekpejemfkjhcaa
open Go.RowKit
set_option maxHeartbeats 400000
set_option maxRecDepth 100000
set_option linter.unusedVariables false
theorem lead (y : Int) (h0 : 1 ≤ y) (h1 : y ≤ 18446744073709551615) (w : World) :
    Calls Try.prog 92 #[.int .u64 y] w fun e w' => ∃ s : Nat, e = .returned (.int .i64 s) ∧ s ≤ 63 ∧ 9223372036854775808 ≤ y * 2 ^ s ∧ y * 2 ^ s ≤ 18446744073709551615 ∧ w = w' := by
  refine (Try.bits_LeadingZeros64 y w (by omega) h1).mono ?_
  rintro e w' ⟨rfl, rfl⟩
  obtain ⟨n, rfl⟩ := Int.eq_ofNat_of_zero_le (show 0 ≤ y by omega)
  have hb := Lib.bitLenAux_bounds 64 n (by omega) (by omega)
  change 1 ≤ Lib.bitLen n ∧ 2 ^ (Lib.bitLen n - 1) ≤ n ∧ n < 2 ^ Lib.bitLen n at hb
  have hle : Lib.bitLen n ≤ 64 := by
    rcases Nat.lt_or_ge 64 (Lib.bitLen n) with h | h
    · have := Nat.pow_le_pow_right (show 0 < 2 by decide) (show 64 ≤ Lib.bitLen n - 1 by omega)
      omega
    · exact h
  have p1 : n * 2 ^ (64 - Lib.bitLen n) < 18446744073709551616 := by
    have e : 2 ^ Lib.bitLen n * 2 ^ (64 - Lib.bitLen n) = 18446744073709551616 := by rw [← Nat.pow_add, show Lib.bitLen n + (64 - Lib.bitLen n) = 64 by omega]
    rw [← e]
    exact Nat.mul_lt_mul_of_pos_right hb.2.2 (Nat.two_pow_pos _)
  have p2 : 9223372036854775808 ≤ n * 2 ^ (64 - Lib.bitLen n) := by
    have e : 2 ^ (Lib.bitLen n - 1) * 2 ^ (64 - Lib.bitLen n) = 9223372036854775808 := by rw [← Nat.pow_add, show Lib.bitLen n - 1 + (64 - Lib.bitLen n) = 63 by omega]
    rw [← e]
    exact Nat.mul_le_mul_right _ hb.2.1
  have c1 : ((n : Int) * 2 ^ (64 - Lib.bitLen n)) = ((n * 2 ^ (64 - Lib.bitLen n) : Nat) : Int) := by simp
  refine ⟨64 - Lib.bitLen n, ?_, by omega, by rw [c1]; omega, by rw [c1]; omega, rfl⟩
  congr 2
  simp only [Int.toNat_natCast]
  omega
theorem div64_low (l y : Int) (hl : U64 l) (hy : U64 y) (h0 : y ≠ 0) (w : World) :
    Calls Try.prog 91 #[.int .u64 0, .int .u64 l, .int .u64 y] w fun e w' => e = .returned (.tuple #[.int .u64 (l / y), .int .u64 (l % y)]) ∧ w.drew = w' := by
  unfold U64 at hl hy
  have hy1 : 1 ≤ y := by omega
  have k1 : (y == 0) = false := by simpa using h0
  have k2 : (decide (y ≤ 0)) = false := by simp; omega
  go_enter Try.func91, Try.ntmps91
  go_wp2
  go_region
  go_wp2
  go_ret2
  exact ⟨rfl, rfl⟩
theorem rem_of {u d1 d0 t1 Q1 D : Int} (n : Den u d1 d0 t1) (hQ : (u * 4294967296 + t1) / (d1 * 4294967296 + d0) = Q1) (hD : D = d1 * 4294967296 + d0) :
    IntKind.u64.wrap (IntKind.u64.wrap (IntKind.u64.wrap (u * 4294967296) + t1) - IntKind.u64.wrap (Q1 * D)) = u * 4294967296 + t1 - Q1 * D ∧ 0 ≤ u * 4294967296 + t1 - Q1 * D ∧ u * 4294967296 + t1 - Q1 * D < D := by
  obtain ⟨h1, h2, h3, h4, h5, h6, h7, h8⟩ := n
  rw [← hD] at hQ
  have e := Int.mul_ediv_add_emod (u * 4294967296 + t1) D
  have e1 := Int.emod_nonneg (u * 4294967296 + t1) (show D ≠ 0 by omega)
  have e2 := Int.emod_lt_of_pos (u * 4294967296 + t1) (show 0 < D by omega)
  rw [hQ, Int.mul_comm] at e
  generalize Q1 * D = p at *
  simp only [IntKind.wrap_u64]
  refine ⟨?_, by omega, by omega⟩
  omega
theorem high_end {h l y u t D d1 d0 t1 t0 Q1 Q0 r1 : Int} {s : Nat} (hs : s ≤ 63) (hy : 0 < y) (hD0 : 0 < D)
    (f : (h * 18446744073709551616 + l) * 2 ^ s = bits BinOp.or IntKind.u64 (IntKind.u64.wrap (h * 2 ^ s)) (l / 2 ^ (64 - s)) * 18446744073709551616 + IntKind.u64.wrap (l * 2 ^ s))
    (hu : bits BinOp.or IntKind.u64 (IntKind.u64.wrap (h * 2 ^ s)) (l / 2 ^ (64 - s)) = u) (ht : IntKind.u64.wrap (l * 2 ^ s) = t) (hD : y * 2 ^ s = D)
    (eD : D = d1 * 4294967296 + d0) (et : t = t1 * 4294967296 + t0) (hr1 : u * 4294967296 + t1 - Q1 * D = r1)
    (hr0 : IntKind.u64.wrap (IntKind.u64.wrap (IntKind.u64.wrap (r1 * 4294967296) + t0) - IntKind.u64.wrap (Q0 * D)) = r1 * 4294967296 + t0 - Q0 * D ∧ 0 ≤ r1 * 4294967296 + t0 - Q0 * D ∧ r1 * 4294967296 + t0 - Q0 * D < D) :
    Q1 * 4294967296 + Q0 = (h * 18446744073709551616 + l) / y ∧ IntKind.u64.wrap (IntKind.u64.wrap (IntKind.u64.wrap (r1 * 4294967296) + t0) - IntKind.u64.wrap (Q0 * D)) / 2 ^ s = (h * 18446744073709551616 + l) % y := by
  obtain ⟨a, b, c⟩ := hr0
  have two := two_digits (D := D) (t1 := u * 4294967296 + t1) (t0 := t0) (a1 := Q1) (a0 := Q0) (b := r1) (r := r1 * 4294967296 + t0 - Q0 * D) hD0 (by omega) (by omega) b c
  rw [hu, ht, et] at f
  have e : (u * 4294967296 + t1) * 4294967296 + t0 = (h * 18446744073709551616 + l) * 2 ^ s := by omega
  rw [e, ← hD] at two
  have q := quo_shift (U := h * 18446744073709551616 + l) (y := y) (p := 2 ^ s) (Int.pow_pos (by decide)) hy
  rw [q.1] at two
  refine ⟨two.1.symm, ?_⟩
  rw [a, ← hD, ← two.2]
  exact q.2
theorem div64_high (h l y : Int) (hl : U64 l) (hy : y ≤ 18446744073709551615) (h0 : 1 ≤ h) (h1 : h < y) (w : World) :
    Calls Try.prog 91 #[.int .u64 h, .int .u64 l, .int .u64 y] w fun e w' => e = .returned (.tuple #[.int .u64 ((h * 18446744073709551616 + l) / y), .int .u64 ((h * 18446744073709551616 + l) % y)]) ∧ w = w' := by
  have hy1 : 1 ≤ y := by omega
  have k1 : (y == 0) = false := by simp; omega
  have k2 : (decide (y ≤ h)) = false := by simp; omega
  have k3 : (h == 0) = false := by simp; omega
  go_enter Try.func91, Try.ntmps91
  go_wp2_with fail
  refine (lead y hy1 hy _).mono ?_
  rintro e w' ⟨s, rfl, hs1, hs2, hs3, rfl⟩
  have f1 := norm_u h l y s hs1 hl (by omega) h1 hs3
  have f2 := norm_sum h l s hs1
  have f3 := norm_lt h l y s hs1 hl h1
  have f4 : 0 ≤ h * 2 ^ s + l / 2 ^ (64 - s) := by rw [← f1, f1]; exact Int.add_nonneg (Int.mul_nonneg (by omega) (Int.le_of_lt (Int.pow_pos (by decide)))) (Int.ediv_nonneg hl.1 (Int.le_of_lt (Int.pow_pos (by decide))))
  rw [← f1] at f2 f3 f4
  have f5 := U64.wrap (l * 2 ^ s)
  obtain ⟨u, hu⟩ : ∃ u, bits BinOp.or IntKind.u64 (IntKind.u64.wrap (h * 2 ^ s)) (l / 2 ^ (64 - s)) = u := ⟨_, rfl⟩
  obtain ⟨t, ht⟩ : ∃ t, IntKind.u64.wrap (l * 2 ^ s) = t := ⟨_, rfl⟩
  have F := hid f2
  clear f1 f2
  rw [hu] at f3 f4
  rw [ht] at f5
  have P := hid (rfl : y * 2 ^ s = y * 2 ^ s)
  obtain ⟨D, hD⟩ : ∃ D, y * 2 ^ s = D := ⟨_, rfl⟩
  rw [hD] at hs2 hs3 f3
  have g1 := and_low D ⟨by omega, hs3⟩
  have g2 := and_low t f5
  obtain ⟨d1, hd1⟩ : ∃ d1, D / 4294967296 = d1 := ⟨_, rfl⟩
  obtain ⟨d0, hd0⟩ : ∃ d0, bits BinOp.and IntKind.u64 D 4294967295 = d0 := ⟨_, rfl⟩
  obtain ⟨t1, ht1⟩ : ∃ t1, t / 4294967296 = t1 := ⟨_, rfl⟩
  obtain ⟨t0, ht0⟩ : ∃ t0, bits BinOp.and IntKind.u64 t 4294967295 = t0 := ⟨_, rfl⟩
  have f6 := f5.1
  have f7 := f5.2
  rw [hd0] at g1
  rw [ht0] at g2
  have eD : D = d1 * 4294967296 + d0 := by omega
  have et : t = t1 * 4294967296 + t0 := by omega
  have b1 : 2147483648 ≤ d1 := by omega
  have b2 : d1 ≤ 4294967295 := by omega
  have b3 : 0 ≤ d0 := by omega
  have b4 : d0 ≤ 4294967295 := by omega
  have b5 : 0 ≤ t1 := by omega
  have b6 : t1 ≤ 4294967295 := by omega
  have b7 : 0 ≤ t0 := by omega
  have b8 : t0 ≤ 4294967295 := by omega
  have n : Den u d1 d0 t1 := ⟨b1, by omega, b3, by omega, f4, by omega, b5, by omega⟩
  have s0 := dig_start n
  have c1 : 0 ≤ u / d1 := s0.1.q0
  have c2 : u / d1 ≤ 4294967297 := s0.1.q1
  have c3 : 0 ≤ u / d1 * d1 := Int.mul_nonneg c1 (by omega)
  have c4 : u / d1 * d1 ≤ u := by have := s0.1.r0; omega
  have b9 : u ≤ 18446744073709551615 := by omega
  have S0 := hid s0
  have ED := hid eD
  have ET := hid et
  clear s0 eD et g1 g2 f3 f5
  go_upto_block 0 with (fail)
  have HU := hid hu
  have HT := hid ht
  have HD := hid hD
  clear hu ht hD hd1 hd0 ht1 ht0 k1 k2 k3 c1 c2 c3 c4
  obtain ⟨Q1, hQ1⟩ : ∃ Q1, (u * 4294967296 + t1) / (d1 * 4294967296 + d0) = Q1 := ⟨_, rfl⟩
  have q1a := dig_quo0 n
  have q1b := dig_quo1 n
  rw [hQ1] at q1a q1b
  have HQ1 := hid hQ1
  clear hQ1
  have QV : Hid (Value.int IntKind.u64 ((u * 4294967296 + t1) / (d1 * 4294967296 + d0)) = Value.int IntKind.u64 Q1) := by unfold Hid; rw [HQ1.out]
  go_cut [15, 16] from 67 to 85 (fun a _ wc => a = .int .u64 Q1 ∧ w = wc)
  case first =>
    go_wp2_with fail
    go_loop [15, 16] (fun a b => ∃ q r : Int, a = .int .u64 q ∧ b = .int .u64 r ∧ Dig u d1 d0 t1 q r ∧ r < 4294967296) (fun a b => (4294967296 - intOf b).toNat)
    case atStart => exact ⟨_, _, rfl, rfl, S0.out.1, S0.out.2⟩
    case round =>
      obtain ⟨q, r, rfl, rfl, hdig, hr⟩ := hrel
      have e1 := hdig.q0
      have e2 := hdig.q1
      have e3 := hdig.r0
      by_cases hc : 4294967296 ≤ q ∨ 4294967296 * r + t1 < q * d0
      · obtain ⟨x1, x2, x3⟩ := dig_step n hdig hc
        have y0 := x1.q0
        by_cases hq : 4294967296 ≤ q
        · clear hc
          by_cases hb : 4294967296 ≤ r + d1
          · go_wp2_with fail
            go_meet
            case rel => exact ⟨by rw [← dig_break n x1 x3 hb]; exact QV.out, rfl⟩
          · go_wp2_with fail
            go_round
            case rel => exact ⟨q - 1, r + d1, rfl, rfl, x1, by omega⟩
            case measure => simp [intOf]; omega
        · have hc' : 4294967296 * r + t1 < q * d0 := by omega
          have z0 : 0 ≤ q * d0 := Int.mul_nonneg e1 b3
          have z1 : q * d0 ≤ 18446744073709551615 := by
            have := Int.mul_le_mul (show q ≤ 4294967295 by omega) b4 b3 (by decide)
            omega
          clear hc
          by_cases hb : 4294967296 ≤ r + d1
          · go_wp2_with fail
            go_meet
            case rel => exact ⟨by rw [← dig_break n x1 x3 hb]; exact QV.out, rfl⟩
          · go_wp2_with fail
            go_round
            case rel => exact ⟨q - 1, r + d1, rfl, rfl, x1, by omega⟩
            case measure => simp [intOf]; omega
      · have hc1 : ¬ 4294967296 ≤ q := by omega
        have hc2 : ¬ 4294967296 * r + t1 < q * d0 := by omega
        have z0 : 0 ≤ q * d0 := Int.mul_nonneg e1 b3
        have z1 : q * d0 ≤ 18446744073709551615 := by
          have := Int.mul_le_mul (show q ≤ 4294967295 by omega) b4 b3 (by decide)
          omega
        have hz := dig_le n hdig (by omega)
        have HZ := hid hz
        clear hc hz
        go_wp2_with fail
        go_meet
        case rel => exact ⟨by rw [← HZ.out]; exact QV.out, rfl⟩
  case rest =>
    obtain ⟨rfl, rfl⟩ := hcut
    have r1e := rem_of n HQ1.out ED.out
    obtain ⟨r1, hr1⟩ : ∃ r1, u * 4294967296 + t1 - Q1 * D = r1 := ⟨_, rfl⟩
    rw [hr1] at r1e
    obtain ⟨r1w, r1a, r1b⟩ := r1e
    have R1 := hid hr1
    clear hr1
    have m : Den r1 d1 d0 t0 := ⟨b1, by omega, b3, by omega, r1a, by rw [← ED.out]; exact r1b, b7, by omega⟩
    have s1 := dig_start m
    have c1 : 0 ≤ r1 / d1 := s1.1.q0
    have c2 : r1 / d1 ≤ 4294967297 := s1.1.q1
    have c3 : 0 ≤ r1 / d1 * d1 := Int.mul_nonneg c1 (by omega)
    have c4 : r1 / d1 * d1 ≤ r1 := by have := s1.1.r0; omega
    have S1 := hid s1
    clear s1
    go_upto_block 2 with (fail)
    clear r1w c1 c2 c3 c4 QV
    obtain ⟨Q0, hQ0⟩ : ∃ Q0, (r1 * 4294967296 + t0) / (d1 * 4294967296 + d0) = Q0 := ⟨_, rfl⟩
    have q0a := dig_quo0 m
    have q0b := dig_quo1 m
    rw [hQ0] at q0a q0b
    have HQ0 := hid hQ0
    clear hQ0
    have QV : Hid (Value.int IntKind.u64 ((r1 * 4294967296 + t0) / (d1 * 4294967296 + d0)) = Value.int IntKind.u64 Q0) := by unfold Hid; rw [HQ0.out]
    go_cut [18, 16] from 102 to 120 (fun a _ wc => a = .int .u64 Q0 ∧ w = wc)
    case first =>
      go_wp2_with fail
      go_loop [18, 16] (fun a b => ∃ q r : Int, a = .int .u64 q ∧ b = .int .u64 r ∧ Dig r1 d1 d0 t0 q r ∧ r < 4294967296) (fun a b => (4294967296 - intOf b).toNat)
      case atStart => exact ⟨_, _, rfl, rfl, S1.out.1, S1.out.2⟩
      case round =>
        obtain ⟨q, r, rfl, rfl, hdig, hr⟩ := hrel
        have e1 := hdig.q0
        have e2 := hdig.q1
        have e3 := hdig.r0
        by_cases hc : 4294967296 ≤ q ∨ 4294967296 * r + t0 < q * d0
        · obtain ⟨x1, x2, x3⟩ := dig_step m hdig hc
          have y0 := x1.q0
          by_cases hq : 4294967296 ≤ q
          · clear hc
            by_cases hb : 4294967296 ≤ r + d1
            · go_wp2_with fail
              go_meet
              case rel => exact ⟨by rw [← dig_break m x1 x3 hb]; exact QV.out, rfl⟩
            · go_wp2_with fail
              go_round
              case rel => exact ⟨q - 1, r + d1, rfl, rfl, x1, by omega⟩
              case measure => simp [intOf]; omega
          · have hc' : 4294967296 * r + t0 < q * d0 := by omega
            have z0 : 0 ≤ q * d0 := Int.mul_nonneg e1 b3
            have z1 : q * d0 ≤ 18446744073709551615 := by
              have := Int.mul_le_mul (show q ≤ 4294967295 by omega) b4 b3 (by decide)
              omega
            clear hc
            by_cases hb : 4294967296 ≤ r + d1
            · go_wp2_with fail
              go_meet
              case rel => exact ⟨by rw [← dig_break m x1 x3 hb]; exact QV.out, rfl⟩
            · go_wp2_with fail
              go_round
              case rel => exact ⟨q - 1, r + d1, rfl, rfl, x1, by omega⟩
              case measure => simp [intOf]; omega
        · have hc1 : ¬ 4294967296 ≤ q := by omega
          have hc2 : ¬ 4294967296 * r + t0 < q * d0 := by omega
          have z0 : 0 ≤ q * d0 := Int.mul_nonneg e1 b3
          have z1 : q * d0 ≤ 18446744073709551615 := by
            have := Int.mul_le_mul (show q ≤ 4294967295 by omega) b4 b3 (by decide)
            omega
          have hz := dig_le m hdig (by omega)
          have HZ := hid hz
          clear hc hz
          go_wp2_with fail
          go_meet
          case rel => exact ⟨by rw [← HZ.out]; exact QV.out, rfl⟩
    case rest =>
      obtain ⟨rfl, rfl⟩ := hcut
      go_wp2_with fail
      have fin := high_end hs1 (show 0 < y by omega) (show 0 < D by omega) F.out HU.out HT.out HD.out ED.out ET.out R1.out (rem_of m HQ0.out ED.out)
      go_ret2
      exact ⟨ret2 fin.1 fin.2, rfl⟩
theorem div64 (h l y : Int) (hl : U64 l) (hy : y ≤ 18446744073709551615) (h0 : 0 ≤ h) (h1 : h < y) (w : World) :
    Calls Try.prog 91 #[.int .u64 h, .int .u64 l, .int .u64 y] w fun e w' => e = .returned (.tuple #[.int .u64 ((h * 18446744073709551616 + l) / y), .int .u64 ((h * 18446744073709551616 + l) % y)]) ∧ ∃ n, w.drewN n = w' := by
  by_cases hz : h = 0
  · subst hz
    refine (div64_low l y hl ⟨by omega, hy⟩ (by omega) w).mono ?_
    rintro e w' ⟨rfl, rfl⟩
    exact ⟨by simp only [Int.zero_mul, Int.zero_add], 1, rfl⟩
  · refine (div64_high h l y hl hy (by omega) h1 w).mono ?_
    rintro e w' ⟨rfl, rfl⟩
    exact ⟨rfl, 0, rfl⟩
end Go.Proofs.Ytekpejemfkjhcaa
namespace Go.Proofs.Ytekpejemfkjhcaa
open Go.RowKit
set_option maxHeartbeats 1000000
set_option maxRecDepth 100000
set_option linter.unusedVariables false
theorem and63 (i : Nat) (h : i < 128) : bits BinOp.and IntKind.i64 (i : Int) 63 = ((i % 64 : Nat) : Int) := by
  show IntKind.i64.wrap ((BitVec.ofInt 64 (i : Int) &&& BitVec.ofInt 64 63).toNat : Int) = _
  rw [BitVec.toNat_and, show (BitVec.ofInt 64 63).toNat = 2 ^ 6 - 1 from rfl, Nat.and_two_pow_sub_one_eq_mod, BitVec.toNat_ofInt, IntKind.wrap_i64]
  omega
theorem and1 (x : Int) (h : U64 x) : bits BinOp.and IntKind.u64 x 1 = x % 2 :=
  bits_mask .u64 64 (by decide) (fun n h0 h1 => by rw [IntKind.wrap_u64]; omega) 1 (by decide) x h.1 (by have := h.2; omega)
theorem or_bit (x b : Int) (hb : 0 ≤ b ∧ b ≤ 1) : bits BinOp.or IntKind.u64 (IntKind.u64.wrap (x * 2)) b = IntKind.u64.wrap (x * 2 + b) := by
  rw [IntKind.wrap_u64, IntKind.wrap_u64, bits_join .u64 64 (by decide) (fun n h0 h1 => by rw [IntKind.wrap_u64]; omega) 1 _ _ (by omega) (by omega) (by omega) (by omega) (by omega) (by omega)]
  omega
theorem shr_u64 {x : Int} (h : U64 x) (k : Nat) : U64 (x / 2 ^ k) := by
  have hp : (0 : Int) < 2 ^ k := Int.pow_pos (by decide)
  have := Int.ediv_le_self (2 ^ k) h.1
  unfold U64 at *
  exact ⟨Int.ediv_nonneg h.1 (Int.le_of_lt hp), by omega⟩
theorem bit_high (h l : Int) (hl : U64 l) {n : Nat} (hn : 64 ≤ n) (hn' : n < 128) : (h * 18446744073709551616 + l) / 2 ^ n % 2 = h / 2 ^ (n % 64) % 2 := by
  have e : (2 : Int) ^ n = 18446744073709551616 * 2 ^ (n % 64) := by
    rw [show (18446744073709551616 : Int) = 2 ^ 64 by rfl, ← Int.pow_add, show 64 + n % 64 = n by omega]
  rw [e, ← Int.ediv_ediv_of_nonneg (by decide)]
  unfold U64 at hl
  rw [show (h * 18446744073709551616 + l) / 18446744073709551616 = h by omega]
theorem bit_low (h l : Int) {n : Nat} (hn : n < 64) : (h * 18446744073709551616 + l) / 2 ^ n % 2 = l / 2 ^ (n % 64) % 2 := by
  have hp : (0 : Int) < 2 ^ n := Int.pow_pos (by decide)
  have e : (18446744073709551616 : Int) = 2 ^ (63 - n) * 2 * 2 ^ n := by
    rw [← Int.pow_succ, ← Int.pow_add, show 63 - n + 1 + n = 64 by omega]; rfl
  rw [show n % 64 = n by omega, e, ← Int.mul_assoc, Int.add_comm, Int.add_mul_ediv_right _ _ (by omega), ← Int.mul_assoc]
  omega
theorem top_bit {left : Int} (h : U64 left) : ((left / 9223372036854775808 == 1) = true ∧ 9223372036854775808 ≤ left) ∨ ((left / 9223372036854775808 == 1) = false ∧ left < 9223372036854775808) := by
  unfold U64 at h
  rcases Int.lt_or_le left 9223372036854775808 with c | c
  · right; exact ⟨by simp; omega, c⟩
  · left; exact ⟨by simp; omega, c⟩
theorem nat_back (n : Nat) : ((n : Int) - 1 + 1).toNat = n := by omega
theorem or_zero {q : Int} (h : U64 q) : bits BinOp.or IntKind.u64 q 0 = q := by
  have := bits_join .u64 64 (by decide) (fun n h0 h1 => by rw [IntKind.wrap_u64]; omega) 0 q 0 h.1 (by omega) (by have := h.2; omega) (by decide) (by decide) (by decide)
  omega
def OverPost (h l y : Int) (w : World) (e : Ending) (w' : World) : Prop := ∃ q r f, e = .returned (.tuple #[.int .u64 q, .int .u64 r, .bool f]) ∧ OvR h l y 0 r q f ∧ w = w'
theorem ref_over (h l y : Int) (hh : U64 h) (hl : U64 l) (hy : U64 y) (hy1 : 1 ≤ y) (w : World) :
    Calls Try.prog 87 #[.int .u64 h, .int .u64 l, .int .u64 y] w (OverPost h l y w) := by
  go_enter Try.func87, Try.ntmps87
  go_wp2_with fail
  go_loop [9, 10, 11, 12] (fun a b c d => ∃ q left f, ∃ i : Int, a = .int .u64 q ∧ b = .int .u64 left ∧ c = .bool f ∧ d = .int .i64 i ∧ -1 ≤ i ∧ i ≤ 127 ∧ OvR h l y (i + 1).toNat left q f) (fun _ _ _ d => (intOf d + 1).toNat)
  case atStart => exact ⟨_, _, _, _, rfl, rfl, rfl, rfl, by decide, by decide, ov_start hh hl hy1⟩
  case round =>
    obtain ⟨q, left, f, i, rfl, rfl, rfl, rfl, hi0, hi1, hr⟩ := hrel
    by_cases hlt : 0 ≤ i
    · obtain ⟨n, rfl⟩ := Int.eq_ofNat_of_zero_le hlt
      have hr' : OvR h l y (n + 1) left q f := hr
      have a63 := and63 n (by omega)
      have ah := and1 _ (shr_u64 hh (n % 64))
      have al := and1 _ (shr_u64 hl (n % 64))
      obtain ⟨bh, hbh⟩ : ∃ b, h / 2 ^ (n % 64) % 2 = b := ⟨_, rfl⟩
      obtain ⟨bl, hbl⟩ : ∃ b, l / 2 ^ (n % 64) % 2 = b := ⟨_, rfl⟩
      rw [hbh] at ah
      rw [hbl] at al
      have orh := or_bit left bh (by omega)
      have orl := or_bit left bl (by omega)
      have lq := hr'.q0
      have lb0 : 0 ≤ left ∧ left < y := by rw [hr'.left]; exact ⟨Int.emod_nonneg _ (by omega), Int.emod_lt_of_pos _ (by omega)⟩
      have ub := hy.2
      have tb := top_bit (left := left) ⟨lb0.1, by omega⟩
      have b1 : 0 ≤ bh ∧ bh ≤ 1 := by omega
      have b2 : 0 ≤ bl ∧ bl ≤ 1 := by omega
      by_cases h64 : 64 ≤ n
      · have st := ov_high hh hl hy1 h64 hr' bh (((bit_high h l hl h64 (by omega))).trans hbh)
        have ST := hid st
        have HL := hid (And.intro hr'.left hr'.q0)
        clear st hr hr' 
        have HB := hid (And.intro hbh hbl)
        clear hbh hbl
        rcases tb with ⟨t1, t2⟩ | ⟨t1, t2⟩
        · have wr : IntKind.u64.wrap (IntKind.u64.wrap (left * 2 + bh) - y) = 2 * left + bh - y := by rw [IntKind.wrap_u64, IntKind.wrap_u64]; omega
          go_wp2
          go_round
          case rel => exact ⟨_, _, _, _, rfl, rfl, rfl, rfl, by omega, by omega, by rw [nat_back]; exact ST.out.1 (by omega)⟩
          case measure => first | (simp [intOf]; done) | (simp [intOf]; omega)
        · have wr : bits BinOp.or IntKind.u64 (left * 2) bh = 2 * left + bh := by
            rw [show IntKind.u64.wrap (left * 2) = left * 2 by rw [IntKind.wrap_u64]; omega] at orh
            rw [orh, IntKind.wrap_u64]
            omega
          clear orh
          by_cases hc : y ≤ 2 * left + bh
          · go_wp2
            go_round
            case rel => exact ⟨_, _, _, _, rfl, rfl, rfl, rfl, by omega, by omega, by rw [nat_back]; exact ST.out.1 hc⟩
            case measure => first | (simp [intOf]; done) | (simp [intOf]; omega)
          · go_wp2
            go_round
            case rel => exact ⟨_, _, _, _, rfl, rfl, rfl, rfl, by omega, by omega, by rw [nat_back]; exact ST.out.2 (by omega)⟩
            case measure => first | (simp [intOf]; done) | (simp [intOf]; omega)
      · have h64 : n < 64 := by omega
        have p1 : (1 : Int) ≤ 2 ^ n := by
          have : (0 : Int) < 2 ^ n := Int.pow_pos (by decide)
          omega
        have p2 : (2 : Int) ^ n ≤ 9223372036854775808 := by
          have hx : 2 ^ n ≤ 2 ^ 63 := Nat.pow_le_pow_right (show 0 < 2 by decide) (show n ≤ 63 by omega)
          have h2 : ((2 ^ n : Nat) : Int) ≤ ((2 ^ 63 : Nat) : Int) := Int.ofNat_le.2 hx
          rw [Int.natCast_pow] at h2
          exact h2
        have q0 : bits BinOp.or IntKind.u64 q 0 = q := or_zero lq
        have st := ov_low hh hl hy1 h64 hr' bl (((bit_low h l h64)).trans hbl)
        have ST := hid st
        have HL := hid (And.intro hr'.left hr'.q0)
        clear st hr hr' 
        have HB := hid (And.intro hbh hbl)
        clear hbh hbl
        rcases tb with ⟨t1, t2⟩ | ⟨t1, t2⟩
        · have wr : IntKind.u64.wrap (IntKind.u64.wrap (left * 2 + bl) - y) = 2 * left + bl - y := by rw [IntKind.wrap_u64, IntKind.wrap_u64]; omega
          go_wp2
          go_round
          case rel => exact ⟨_, _, _, _, rfl, rfl, rfl, rfl, by omega, by omega, by rw [nat_back]; exact ST.out.1 (by omega)⟩
          case measure => first | (simp [intOf]; done) | (simp [intOf]; omega)
        · have wr : bits BinOp.or IntKind.u64 (left * 2) bl = 2 * left + bl := by
            rw [show IntKind.u64.wrap (left * 2) = left * 2 by rw [IntKind.wrap_u64]; omega] at orl
            rw [orl, IntKind.wrap_u64]
            omega
          clear orl
          by_cases hc : y ≤ 2 * left + bl
          · go_wp2
            go_round
            case rel => exact ⟨_, _, _, _, rfl, rfl, rfl, rfl, by omega, by omega, by rw [nat_back]; exact ST.out.1 hc⟩
            case measure => first | (simp [intOf]; done) | (simp [intOf]; omega)
          · go_wp2
            go_round
            case rel => exact ⟨_, _, _, _, rfl, rfl, rfl, rfl, by omega, by omega, by rw [nat_back]; exact ST.out.2 (by omega)⟩
            case measure => first | (simp [intOf]; done) | (simp [intOf]; omega)
    · obtain rfl : i = -1 := by omega
      go_wp2
      go_ret3
      exact ⟨q, left, f, rfl, hr, rfl⟩
end Go.Proofs.Ytekpejemfkjhcaa
/- Lists of lists that are the same are told so, by the document. -/
namespace Go.Proofs.Ytekpejemfkjhcaa
open Go.RowKit
set_option maxHeartbeats 2000000
set_option maxRecDepth 100000
set_option linter.unusedVariables false
theorem sf_rsame {A B : Option Addr} {c d : Nat} (xs : List Int) (hx : xs.length ≤ 9223372036854775807) (w : World) (ra : Rd (Value.int .i64) w w.heap.size A xs) (rb : Rd (Value.int .i64) w w.heap.size B xs) :
    Calls Try.prog 22 #[.slice A xs.length c, .slice B xs.length d] w fun e w' => e = .returned (.bool true) ∧ Below w.heap.size w w' := by
  have h := rSame_any (A := A) (B := B) (c := c) (d := d) xs xs hx hx w ra rb
  rw [eqB_self] at h
  exact h
theorem ref_SameLists15 {A B : Option Addr} {c d : Nat} (rows : List (List Int)) (hl : rows.length ≤ 1099511627776) (hr : ∀ r ∈ rows, r.length ≤ 9223372036854775807) (w : World) (ra : RdRows w w.heap.size A rows) (rb : RdRows w w.heap.size B rows) :
    Calls Try.prog 23 #[.slice A rows.length c, .slice B rows.length d] w fun e w' => e = .returned (.bool true) ∧ Below w.heap.size w w' := by
  obtain ⟨M, hM⟩ : ∃ M, rows.length = M := ⟨_, rfl⟩
  have HM := hid hM
  have RA := hid ra
  have RB := hid rb
  have HR := hid hr
  rw [hM] at hl ⊢
  have t0 : ((M : Int) != (M : Int)) = false := by simp
  clear ra rb hr hM
  go_enter Try.func23, Try.ntmps23
  go_wp2_with fail
  clear t0
  go_loopw [5, 13] (fun _ xi wr => ∃ k : Nat, k ≤ M ∧ xi = .int .i64 (k : Int) ∧ Below w.heap.size w wr) (fun _ xi _ => M - (intOf xi).toNat)
  case atStart => exact ⟨0, Nat.zero_le _, rfl, Below.refl _ _⟩
  case round =>
    obtain ⟨k, hk, rfl, hbel⟩ := hrel
    have HB := hid hbel
    by_cases hlt : k < M
    · have hkl : k < rows.length := by rw [HM.out]; exact hlt
      obtain ⟨b1, o1, A1, c1, rfl, l1, e1, r1⟩ := (RA.out.on hbel) k _ (List.getElem?_eq_getElem hkl)
      obtain ⟨b2, o2, A2, c2, rfl, l2, e2, r2⟩ := (RB.out.on hbel) k _ (List.getElem?_eq_getElem hkl)
      obtain ⟨r, hrr⟩ : ∃ r, rows[k] = r := ⟨_, rfl⟩
      have hrm : r ∈ rows := by rw [← hrr]; exact List.getElem_mem _
      rw [hrr] at e1 r1 e2 r2
      have CS := hid (fun W (h : Below wr.heap.size wr W) => sf_rsame (A := A1) (B := A2) (c := c1) (d := c2) r (HR.out r hrm) W (r1.on h) (r2.on h))
      obtain ⟨q, hq⟩ : ∃ q, r.length = q := ⟨_, rfl⟩
      rw [hq] at e1 e2 CS
      clear r1 r2 hrr hrm hkl hq hbel
      go_wp2_with fail
      go_region_law (first | (go_simp; go_at_call 22; refine (CS.out _ ((Below.refl _ _).drew)).mono ?_; rintro _ w4 ⟨rfl, hb4⟩; have HB4 : Hid (Below w.heap.size w w4) := hid (HB.out.trans (Below.trans ((Below.refl w.heap.size wr).drew) (hb4.mono HB.out.size))); clear hb4) | fail)
      all_goals (
        go_wp2_with fail
        go_roundw
        case rel => exact ⟨k + 1, hlt, by go_num, HB4.out⟩
        case measure => simp [intOf]; omega)
    · obtain rfl : k = M := by omega
      clear hbel
      go_wp2_with fail
      go_ret
      exact ⟨rfl, HB.out⟩
end Go.Proofs.Ytekpejemfkjhcaa
/- Two layers: a last line of zeros; two lines in each other's places. Plain mathematics. No program in sight. -/
namespace Go.Proofs.Ytekpejemfkjhcaa
open Go.RowKit
set_option maxRecDepth 100000
set_option linter.unusedVariables false
/-- Vectors added, where nothing is wrong. -/
theorem sumFrom_at : ∀ (r : List (List Int)) (S : List Int), (sumFrom S r).2 = 0 → (sumFrom S r).1.length = S.length ∧ ∀ k, k < S.length → (sumFrom S r).1.getD k 0 = S.getD k 0 + col r k
  | [], S, _ => ⟨rfl, fun k _ => by show S.getD k 0 = S.getD k 0 + 0; omega⟩
  | v :: r, S, h => by
    rw [sumFrom] at h ⊢
    by_cases h1 : opE (· + ·) S v = 0
    · rw [if_pos h1] at h ⊢
      obtain ⟨_, a2, _, a4⟩ := op_ok h1
      have hl : (opV (· + ·) S v).length = S.length := by rw [a4]; simp
      obtain ⟨b1, b2⟩ := sumFrom_at r _ h
      refine ⟨by rw [b1, hl], fun k hk => ?_⟩
      rw [b2 k (by omega), a4, getD_range hk, col_cons]
      show S.getD k 0 + v.getD k 0 + col r k = _
      omega
    · rw [if_neg h1] at h
      exact absurd h h1
theorem sumAll_at {v : List Int} {r : List (List Int)} (h : (sumAll (v :: r)).2 = 0) : (sumAll (v :: r)).1.length = v.length ∧ ∀ k, k < v.length → (sumAll (v :: r)).1.getD k 0 = col (v :: r) k := by
  rw [sumAll] at h ⊢
  by_cases h1 : 4096 < v.length
  · rw [if_pos h1] at h
    cases h
  · rw [if_neg h1] at h ⊢
    obtain ⟨a, b⟩ := sumFrom_at r v h
    exact ⟨a, fun k hk => by rw [b k hk, col_cons]⟩
theorem col_none {rows : List (List Int)} {k : Nat} (h : ∀ r ∈ rows, r.getD k 0 = 0) : col rows k = 0 := by
  induction rows with
  | nil => rfl
  | cons v r ih => rw [col_cons, ih fun u hu => h u (by simp [hu]), h v (by simp)]; rfl
/-- With a last line of zeros but its base. -/
def flatW (hid : Int) (w : List Int) : List Int := (List.range w.length).map fun i => if w.length - 1 - hid.toNat ≤ i ∧ i < w.length - 1 then 0 else w.getD i 0
theorem flatW_len (hid : Int) (w : List Int) : (flatW hid w).length = w.length := by unfold flatW; simp
theorem flatW_at {hid : Int} {w : List Int} {i : Nat} (hi : i < w.length) : (flatW hid w).getD i 0 = if w.length - 1 - hid.toNat ≤ i ∧ i < w.length - 1 then 0 else w.getD i 0 := by
  unfold flatW
  exact getD_range hi
theorem mb_flat {hid : Int} {w : List Int} {f : Int} {s : SmpV} (hw : msE hid w = 0) (hX : s.X.length ≤ 16) (hn : msN hid w = s.X.length) (hf : 0 ≤ f ∧ f ≤ 30) (hz : ∀ i, i < hid.toNat → (mlZ hid w).getD i 0 = 0) (he : mbE hid w f s = 0) :
    (mbV hid w f s).length = w.length ∧ ∀ k, k < hid.toNat * (s.X.length + 1) → (mbV hid w f s).getD k 0 = 0 := by
  obtain ⟨h1, h2, h3⟩ := msE_ok.1 hw
  rw [hn] at h3
  have hl := mhL_len hid w s.X f
  have hml := fun i (hi : i < hid.toNat) => ml_none (X := s.X) (off := moV hid w s f) (h := (mhL hid w s.X f).getD i 0) (z := (mlZ hid w).getD i 0) hf (by omega) (.inr (hz i hi))
  have hfl : ((List.range hid.toNat).map fun i => mlnV s.X (moV hid w s f) ((mhL hid w s.X f).getD i 0) ((mlZ hid w).getD i 0) f).flatten.length = hid.toNat * (s.X.length + 1) := by
    rw [flat_len (m := s.X.length + 1) _ fun r hr => by
      obtain ⟨i, hi, rfl⟩ := List.mem_map.1 hr
      exact (hml i (List.mem_range.1 hi)).2.1]
    rw [List.length_map, List.length_range]
  have hul : (unV (behE f) (numS (mhL hid w s.X f) (moV hid w s f) f) (mhL hid w s.X f).length).length = hid.toNat := by
    unfold mbE at he
    have ho : moE hid w s f = 0 := by
      by_cases e : moE hid w s f = 0
      · exact e
      · rw [if_pos e] at he; exact absurd he e
    rw [if_neg (by simp [ho])] at he
    have hu := fstE_ok.1 he (unE (behE f) (numS (mhL hid w s.X f) (moV hid w s f) f) (mhL hid w s.X f).length) (by simp)
    have hb : behE f = 0 := if_neg (by omega)
    rw [hb] at hu ⊢
    have hu2 : ∀ k, k < (mhL hid w s.X f).length → (numS (mhL hid w s.X f) (moV hid w s f) f k).2 = 0 := by
      unfold unE bndE at hu
      rw [if_neg (show ¬ 4096 < (mhL hid w s.X f).length by omega), if_pos rfl] at hu
      exact seqE_zero.1 hu
    rw [(un_mk (by omega) hu2).2, List.length_map, List.length_range, hl]
  refine ⟨?_, fun k hk => ?_⟩
  · unfold mbV
    rw [List.length_append, List.length_append, hfl, hul]
    simp
    omega
  · unfold mbV
    rw [List.getD_eq_getElem?_getD, List.getElem?_append_left (by rw [hfl]; exact hk)]
    have hm : ((List.range hid.toNat).map fun i => mlnV s.X (moV hid w s f) ((mhL hid w s.X f).getD i 0) ((mlZ hid w).getD i 0) f).flatten[k]'(by rw [hfl]; exact hk) ∈ ((List.range hid.toNat).map fun i => mlnV s.X (moV hid w s f) ((mhL hid w s.X f).getD i 0) ((mlZ hid w).getD i 0) f).flatten := List.getElem_mem _
    rw [List.getElem?_eq_getElem (by rw [hfl]; exact hk), Option.getD_some]
    obtain ⟨r, hr, hx⟩ := List.mem_flatten.1 hm
    obtain ⟨i, hi, rfl⟩ := List.mem_map.1 hr
    exact (hml i (List.mem_range.1 hi)).2.2 _ hx
theorem mlp_flat {hid : Int} {w : List Int} {f : Int} {ls : List SmpV} (h : mgE hid (flatW hid w) f ls = 0) (hf : 0 ≤ f ∧ f ≤ 30) :
    (mgV hid (flatW hid w) f ls).length = w.length ∧ ∀ k, k < w.length - 1 - hid.toNat → (mgV hid (flatW hid w) f ls).getD k 0 = 0 := by
  obtain ⟨h1, h2, h3, h4⟩ := mgE_ok.1 h
  obtain ⟨a1, a2, a3⟩ := msE_ok.1 h1
  rw [flatW_len] at a3
  obtain ⟨_, _, c3, c4, c5⟩ := mcE_ok.1 h2
  have hz : ∀ i, i < hid.toNat → (mlZ hid (flatW hid w)).getD i 0 = 0 := fun i hi => by
    unfold mlZ
    rw [List.getD_eq_getElem?_getD, List.getElem?_drop, ← List.getD_eq_getElem?_getD]
    obtain ⟨q, hq⟩ : ∃ q, hid.toNat * (msN hid (flatW hid w) + 1) = q := ⟨_, rfl⟩
    rw [hq] at a3 ⊢
    rw [flatW_at (by omega), if_pos (by constructor <;> omega)]
  have hrow : ∀ s ∈ ls, (mbV hid (flatW hid w) f s).length = w.length ∧ ∀ k, k < w.length - 1 - hid.toNat → (mbV hid (flatW hid w) f s).getD k 0 = 0 := fun s hs => by
    have hx := c3 s hs
    obtain ⟨b1, b2⟩ := mb_flat (s := s) h1 (by omega) (by omega) hf hz (h3 s hs)
    rw [flatW_len] at b1
    have e : msN hid (flatW hid w) = s.X.length := by omega
    rw [e] at a3
    exact ⟨b1, fun k hk => b2 k (by omega)⟩
  have hv : mgV hid (flatW hid w) f ls = (sumAll (ls.map (mbV hid (flatW hid w) f))).1.map fun x => x / (ls.length : Int) := by
    unfold mgV lmV
    rw [if_pos h, if_pos h4]
  have hpos : 0 < ls.length := List.length_pos_iff.2 c4
  have hs2 : (sumAll (ls.map (mbV hid (flatW hid w) f))).2 = 0 := by
    unfold lmE at h4
    rw [if_neg (by omega)] at h4
    exact h4
  obtain ⟨s0, t, rfl⟩ : ∃ s t, ls = s :: t := by
    cases ls with
    | nil => exact absurd rfl c4
    | cons s t => exact ⟨s, t, rfl⟩
  rw [List.map_cons] at hs2 hv
  obtain ⟨q1, q2⟩ := sumAll_at hs2
  have l0 := (hrow s0 (by simp)).1
  rw [hv]
  refine ⟨by rw [List.length_map, q1, l0], fun k hk => ?_⟩
  have hk2 : k < (sumAll (mbV hid (flatW hid w) f s0 :: t.map (mbV hid (flatW hid w) f))).1.length := by omega
  have e : (sumAll (mbV hid (flatW hid w) f s0 :: t.map (mbV hid (flatW hid w) f))).1.getD k 0 = 0 := by
    rw [q2 k (by omega)]
    refine col_none fun r hr => ?_
    rw [← List.map_cons] at hr
    obtain ⟨s, hs, rfl⟩ := List.mem_map.1 hr
    exact (hrow s hs).2 k hk
  rw [List.getD_eq_getElem?_getD, List.getElem?_eq_getElem hk2, Option.getD_some] at e
  rw [List.getD_eq_getElem?_getD, List.getElem?_map, List.getElem?_eq_getElem hk2]
  show (sumAll (mbV hid (flatW hid w) f s0 :: t.map (mbV hid (flatW hid w) f))).1[k] / _ = 0
  rw [e, Int.zero_ediv]
end Go.Proofs.Ytekpejemfkjhcaa
/- A list of samples of the call's own, whose numbers lie below it: how it grows. -/
namespace Go.Proofs.Ytekpejemfkjhcaa
open Go.RowKit
set_option maxRecDepth 100000
set_option linter.unusedVariables false
theorem info_smp : (Try.prog.info? 24).map (fun i => (i.zero, i.size, i.bytes)) = some (some (.agg #[.slice none 0 0, .int .i64 0]), 2, 32) := by kernel_rfl
def OwnSm (w : World) (B base : Nat) (A : Option Addr) (c : Nat) (ls : List SmpV) : Prop :=
  ∃ cells : List Value, w.ownsRow base 24 2 (.slice A ls.length c) ls.length cells ∧ ∀ (k : Nat) (s : SmpV), ls[k]? = some s → ∃ Ax cx, cells[k * 2]? = some (.slice Ax s.X.length cx) ∧ cells[k * 2 + 1]? = some (.int .i64 s.Y) ∧ Rd (Value.int .i64) w B Ax s.X
theorem OwnSm.nil (w : World) (B base : Nat) : OwnSm w B base none 0 [] := ⟨[], World.ownsRow_nil w base 24 2, fun k s hs => by simp at hs⟩
theorem own_keep {w w' : World} {base n m : Nat} {e : TypeId} {v : Value} {vs : List Value} (h : w.ownsRow base e m v n vs) (hb : Below w.heap.size w w') : w'.ownsRow base e m v n vs := by
  refine ⟨h.1, ?_⟩
  rcases h.2 with hn | ⟨g, cap, cur, hv, hg, hh, r⟩
  · exact .inl hn
  · exact .inr ⟨g, cap, cur, hv, hg, (hb.block g (Array.getElem?_eq_some_iff.1 hh).1).trans hh, r⟩
theorem OwnSm.on {w w' : World} {B base : Nat} {A : Option Addr} {c : Nat} {ls : List SmpV} (h : OwnSm w B base A c ls) (hB : B ≤ w.heap.size) (hb : Below w.heap.size w w') : OwnSm w' B base A c ls := by
  obtain ⟨cells, ho, hr⟩ := h
  refine ⟨cells, own_keep ho hb, fun k s hs => ?_⟩
  obtain ⟨Ax, cx, h1, h2, h3⟩ := hr k s hs
  exact ⟨Ax, cx, h1, h2, h3.below (hb.mono hB)⟩
theorem OwnSm.rd {w : World} {B base : Nat} {A : Option Addr} {c : Nat} {ls : List SmpV} (h : OwnSm w B base A c ls) (hB : B ≤ w.heap.size) : RdSm w w.heap.size A ls := by
  obtain ⟨cells, ho, hr⟩ := h
  intro k s hs
  obtain ⟨Ax, cx, h1, h2, h3⟩ := hr k s hs
  have hk : k < ls.length := (List.getElem?_eq_some_iff.1 hs).1
  have h' := ho
  rcases ho.2 with ⟨he, h0⟩ | ⟨g, cap, cur, he, hg, hh, _⟩
  · omega
  · simp only [Value.slice.injEq] at he
    obtain ⟨rfl, _, rfl⟩ := he
    refine ⟨g, 0, Ax, cx, rfl, (Array.getElem?_eq_some_iff.1 hh).1, ?_, ?_, h3.more hB⟩
    · rw [show 0 + k * 2 = k * 2 by omega, h'.cellAt (k * 2) (by omega)]; exact h1
    · rw [show 0 + k * 2 + 1 = k * 2 + 1 by omega, h'.cellAt (k * 2 + 1) (by omega)]; exact h2
theorem OwnSm.cap {w : World} {B base : Nat} {A : Option Addr} {c : Nat} {ls : List SmpV} (h : OwnSm w B base A c ls) : ls.length ≤ c ∧ c ≤ 9223372036854775807 := by
  obtain ⟨cells, ho, hr⟩ := h
  rcases ho.2 with ⟨he, h0⟩ | ⟨g, cap, cur, he, _, _, h1, h2, _⟩
  · simp only [Value.slice.injEq] at he
    omega
  · simp only [Value.slice.injEq] at he
    unfold maxLen at h2
    omega
theorem OwnSm.lies {w : World} {B base : Nat} {A : Option Addr} {c : Nat} {ls : List SmpV} (h : OwnSm w B base A c ls) : ∀ g, A.map (·.block) = some g → base ≤ g ∧ g < w.heap.size := by
  obtain ⟨cells, ho, hr⟩ := h
  intro b hb
  rcases ho.2 with ⟨he, _⟩ | ⟨g, cap, cur, he, hg, hh, _⟩
  · simp only [Value.slice.injEq] at he
    rw [he.1] at hb
    cases hb
  · simp only [Value.slice.injEq] at he
    rw [he.1] at hb
    simp at hb
    subst hb
    exact ⟨hg, (Array.getElem?_eq_some_iff.1 hh).1⟩
/-- A list does not lie there. -/
def offB (A : Option Addr) (b : Nat) : Prop := A.map (·.block) ≠ some b
theorem run_appS (w : World) (ty : TypeId) {B base c0 : Nat} {A0 : Option Addr} {ls : List SmpV} (hr : OwnSm w B base A0 c0 ls) (hB : B ≤ base) (m c : Nat) (s : SmpV) {Ax : Option Addr} {cx : Nat} (h0 : w.cell? ⟨m, 0, none⟩ = some (.slice Ax s.X.length cx)) (h1 : w.cell? ⟨m, 1, none⟩ = some (.int .i64 s.Y)) (hx : Rd (Value.int .i64) w B Ax s.X)
    (hl : ls.length < 100000) (hbase : base ≤ w.heap.size) :
    ∃ A' c' w', (Builtin.append_ #[43, 43] ty #[.slice A0 ls.length c0, .slice (some ⟨m, 0, none⟩) 1 c]).run Try.prog w = .ok (.slice A' (ls.length + 1) c') w' ∧ OwnSm w' B base A' c' (ls ++ [s]) ∧ Below base w w' ∧ (∀ p : Addr, p.block < w.heap.size → offB A0 p.block → w'.cell? p = w.cell? p) := by
  obtain ⟨i, hi, hzz⟩ := Option.map_eq_some_iff.1 info_smp
  simp only [Prod.mk.injEq] at hzz
  obtain ⟨hz, hs, hb⟩ := hzz
  obtain ⟨cells, ho, hc⟩ := hr
  obtain ⟨v', w', hrun, h2, h3, _, h5⟩ := run_append_own_at (P := Try.prog) w base 43 ty 24 i _ 2 32 Try.underlying43 hi hz hs hb rfl (by decide) _ ls.length cells ho ⟨m, 0, none⟩ 1 c [.slice Ax s.X.length cx, .int .i64 s.Y] rfl (by
    intro j u hu
    match j, hu with
    | 0, hu => simp only [List.getElem?_cons_zero, Option.some.injEq] at hu; subst hu; simpa [Addr.add] using h0
    | 1, hu => simp at hu; subst hu; simpa [Addr.add] using h1
    | j + 2, hu => simp at hu) (by
    intro u hu
    simp at hu
    rcases hu with rfl | rfl <;> rfl) (by simp [maxLen]; omega) (by omega) hbase
  have hbl : Below base w w' := (Below.refl base w).grown h3 hbase fun k hk => (ho.lt k hk).1
  have hcl : cells.length = ls.length * 2 := ho.1
  have hsh : ∃ A' c', v' = .slice A' (ls.length + 1) c' := by
    rcases h2.2 with ⟨he, h0⟩ | ⟨g, cap, cur, he, _⟩
    · omega
    · exact ⟨_, _, he⟩
  obtain ⟨A', c', rfl⟩ := hsh
  refine ⟨A', c', w', hrun, ⟨cells ++ [.slice Ax s.X.length cx, .int .i64 s.Y], by simpa using h2, fun k x hk => ?_⟩, hbl, fun p hp hn => World.cell?_of_block (h3.block p.block hp (fun e => hn (by cases A0 <;> simpa [Value.ownBlock] using e.symm)))⟩
  by_cases hkl : k < ls.length
  · rw [List.getElem?_append_left hkl] at hk
    obtain ⟨Ax', cx', g1, g2, g3⟩ := hc k x hk
    exact ⟨Ax', cx', by rw [List.getElem?_append_left (by omega)]; exact g1, by rw [List.getElem?_append_left (by omega)]; exact g2, g3.below (hbl.mono hB)⟩
  · have e : k = ls.length := by
      have := (List.getElem?_eq_some_iff.1 hk).1
      simp at this; omega
    subst e
    rw [List.getElem?_append_right (Nat.le_refl _)] at hk
    simp at hk
    subst hk
    refine ⟨Ax, cx, ?_, ?_, hx.below (hbl.mono hB)⟩
    · rw [List.getElem?_append_right (by omega), hcl, Nat.sub_self]; rfl
    · rw [List.getElem?_append_right (by omega), hcl, show ls.length * 2 + 1 - ls.length * 2 = 1 by omega]; rfl
theorem wpList_appS (w : World) {ops : Array Oper} {rest : List Oper} {o : Oper} {a : Act} {Q : Exit → Act → World → Prop} (hgd : o.guard = none) (s x : Operand)
    (ho : o.op = .call { callee := .builtin .append, args := #[s, x], argTypes := #[43, 43] })
    {B base c0 : Nat} {A0 : Option Addr} {ls : List SmpV} (hs : a.eval s = .slice A0 ls.length c0) (hr : OwnSm w B base A0 c0 ls) (hB : B ≤ base) (m c : Nat) (hx : a.eval x = .slice (some ⟨m, 0, none⟩) 1 c) (y : SmpV) {Ax : Option Addr} {cx : Nat} (h0 : w.cell? ⟨m, 0, none⟩ = some (.slice Ax y.X.length cx)) (h1 : w.cell? ⟨m, 1, none⟩ = some (.int .i64 y.Y)) (hrx : Rd (Value.int .i64) w B Ax y.X)
    (hl : ls.length < 100000) (hbase : base ≤ w.heap.size)
    (h : ∀ A' c' w', OwnSm w' B base A' c' (ls ++ [y]) → Below base w w' → (∀ p : Addr, p.block < w.heap.size → offB A0 p.block → w'.cell? p = w.cell? p) → wpList Try.prog ops Q rest (a.put o.dst (.slice A' (ls.length + 1) c')) w') : wpList Try.prog ops Q (o :: rest) a w := by
  refine wpList_plain hgd fun _ hK => ?_
  obtain ⟨A', c', w', hrun, h2, h3, h4⟩ := run_appS w o.type hr hB m c y h0 h1 hrx hl hbase
  unfold Oper.wp execOp
  simp only [ho, resolve, invoke, builtin, Sem.run_bind, Sem.run_pure, Result.andThen_ok, List.map_toArray, List.map_cons, List.map_nil, hs, hx, hrun]
  exact hK _ _ (h A' c' w' h2 h3 h4)
end Go.Proofs.Ytekpejemfkjhcaa
/- Two layers of two lines: in each other's places. Plain mathematics. No program in sight. -/
namespace Go.Proofs.Ytekpejemfkjhcaa
open Go.RowKit
set_option maxRecDepth 100000
set_option linter.unusedVariables false
/-- Two lines, and the last line's numbers for them, in each other's places. -/
def turnW (v : List Int) : List Int :=
  ((v.drop ((v.length - 3) / 2)).take ((v.length - 3) / 2) ++ v.take ((v.length - 3) / 2)) ++ [v.getD (2 * ((v.length - 3) / 2) + 1) 0, v.getD (2 * ((v.length - 3) / 2)) 0, v.getD (2 * ((v.length - 3) / 2) + 2) 0]
theorem turn_parts {a b : List Int} {n : Nat} {p q c : Int} (ha : a.length = n) (hb : b.length = n) : turnW (a ++ b ++ [p, q, c]) = b ++ a ++ [q, p, c] := by
  have hl : (a ++ b ++ [p, q, c]).length = 2 * n + 3 := by simp; omega
  have hd : ((a ++ b ++ [p, q, c]).length - 3) / 2 = n := by rw [hl]; omega
  have hab : (a ++ b).length = 2 * n := by rw [List.length_append]; omega
  have hg : ∀ j, (a ++ b ++ [p, q, c]).getD (2 * n + j) 0 = [p, q, c].getD j 0 := fun j => by
    rw [List.getD_eq_getElem?_getD, List.getElem?_append_right (by omega), List.getD_eq_getElem?_getD]
    congr 2
    omega
  unfold turnW
  rw [hd, hg 1, hg 2, show 2 * n = 2 * n + 0 from rfl, hg 0]
  congr 1
  congr 1
  · rw [List.append_assoc, List.drop_append_of_le_length (by omega), List.drop_of_length_le (by omega), List.nil_append, List.take_append_of_le_length (by omega), List.take_of_length_le (by omega)]
  · rw [List.append_assoc, List.take_append_of_le_length (by omega), List.take_of_length_le (by omega)]
/-- The parts of two layers of two lines. -/
theorem two_parts {w : List Int} (h : msE 2 w = 0) : ∃ (a b : List Int) (p q c : Int), w = a ++ b ++ [p, q, c] ∧ a.length = msN 2 w + 1 ∧ b.length = msN 2 w + 1 := by
  obtain ⟨_, h2, h3⟩ := msE_ok.1 h
  obtain ⟨n, hn⟩ : ∃ n, msN 2 w + 1 = n := ⟨_, rfl⟩
  rw [hn] at h3 ⊢
  have e2 : (2 : Int).toNat = 2 := rfl
  rw [e2] at h3
  have hl : (w.drop (2 * n)).length = 3 := by rw [List.length_drop]; omega
  obtain ⟨p, q, c, hpqc⟩ : ∃ p q c, w.drop (2 * n) = [p, q, c] := by
    match w.drop (2 * n), hl with
    | [p, q, c], _ => exact ⟨p, q, c, rfl⟩
  refine ⟨w.take n, (w.drop n).take n, p, q, c, ?_, by rw [List.length_take]; omega, by rw [List.length_take, List.length_drop]; omega⟩
  rw [← hpqc, ← List.take_add, show n + n = 2 * n by omega, List.take_append_drop]
theorem two_ml {a b : List Int} {n : Nat} {p q c : Int} (ha : a.length = n) (hb : b.length = n) (h1 : 2 ≤ n) (h2 : n ≤ 17) :
    msE 2 (a ++ b ++ [p, q, c]) = 0 ∧ msN 2 (a ++ b ++ [p, q, c]) = n - 1 ∧ mlL 2 (a ++ b ++ [p, q, c]) = [a, b] ∧ mlZ 2 (a ++ b ++ [p, q, c]) = [p, q, c] := by
  have hl : (a ++ b ++ [p, q, c]).length = 2 * n + 3 := by simp; omega
  have e2 : (2 : Int).toNat = 2 := rfl
  have hN : msN 2 (a ++ b ++ [p, q, c]) = n - 1 := msN_is (by decide) (by rw [hl, e2]; omega)
  have hn1 : n - 1 + 1 = n := by omega
  refine ⟨msE_ok.2 ⟨by decide, by omega, by rw [hN, hl, e2]; omega⟩, hN, ?_, ?_⟩
  · unfold mlL
    rw [hN, hn1, e2]
    show [rwR n _ 0, rwR n _ 1] = _
    unfold rwR
    rw [Nat.zero_mul, List.drop_zero, Nat.one_mul]
    congr 1
    · rw [List.append_assoc, List.take_append_of_le_length (by omega), List.take_of_length_le (by omega)]
    · congr 1
      rw [List.append_assoc, List.drop_append_of_le_length (by omega), List.drop_of_length_le (by omega), List.nil_append, List.take_append_of_le_length (by omega), List.take_of_length_le (by omega)]
  · unfold mlZ
    rw [hN, hn1, e2, List.drop_append_of_le_length (by rw [List.length_append]; omega), List.drop_of_length_le (by rw [List.length_append]; omega), List.nil_append]
theorem fst_or {l : List Int} (h : ∀ e ∈ l, e = 0 ∨ e = 2) : fstE l = 0 ∨ fstE l = 2 := by
  induction l with
  | nil => exact .inl rfl
  | cons e r ih =>
    rw [fstE]
    by_cases h0 : e = 0
    · rw [if_neg (by simp [h0])]; exact ih fun x hx => h x (by simp [hx])
    · rw [if_pos h0]
      rcases h e (by simp) with h9 | h9
      · exact absurd h9 h0
      · exact .inr h9
theorem fst_alike {l l' : List Int} (h : ∀ e ∈ l, e = 0 ∨ e = 2) (h' : ∀ e ∈ l', e = 0 ∨ e = 2) (hh : (∀ e ∈ l, e = 0) ↔ ∀ e ∈ l', e = 0) : fstE l = fstE l' := by
  by_cases h0 : ∀ e ∈ l, e = 0
  · rw [fstE_ok.2 h0, fstE_ok.2 (hh.1 h0)]
  · have h1 : ¬ fstE l = 0 := fun h9 => h0 (fstE_ok.1 h9)
    have h2 : ¬ fstE l' = 0 := fun h9 => h0 (hh.2 (fstE_ok.1 h9))
    rcases fst_or h with h3 | h3
    · exact absurd h3 h1
    · rcases fst_or h' with h4 | h4
      · exact absurd h4 h2
      · rw [h3, h4]
theorem mulE_two {a b f : Int} (hf : 0 ≤ f ∧ f ≤ 30) : mulE a b f = 0 ∨ mulE a b f = 2 := by
  unfold mulE
  rw [if_neg (by omega)]
  exact ckE_two _
theorem un_two {X : List Int} {o f : Int} (hf : 0 ≤ f ∧ f ≤ 30) (hl : X.length ≤ 4096) : (unE (behE f) (numS X o f) X.length = 0 ∨ unE (behE f) (numS X o f) X.length = 2) ∧ (unE (behE f) (numS X o f) X.length = 0 ↔ ∀ k, k < X.length → mulE (X.getD k 0) o f = 0) := by
  have hb : behE f = 0 := if_neg (by omega)
  have e : unE (behE f) (numS X o f) X.length = seqE (numS X o f) X.length := by
    rw [hb]
    unfold unE bndE
    rw [if_neg (show ¬ 4096 < X.length by omega), if_pos rfl]
  rw [e]
  exact ⟨seqE_two (fun k => mulE_two hf) _, seqE_zero⟩
/-- The least that is told of small numbers: nothing goes over. -/
theorem tell_small {w x : List Int} {m : Nat} {A C : Nat} (hm : m ≤ 30) (hx : 1 ≤ x.length ∧ x.length ≤ 16) (hw : w.length = x.length + 1) (hA : ∀ n ∈ w, n.natAbs ≤ A) (hC : ∀ n ∈ x, n.natAbs ≤ C) (hAC : A * C ≤ 36028797018963968) (hA2 : A ≤ 4096) :
    ltE w x m = 0 ∧ ltV w x m = sm (fun k => w.getD k 0 * x.getD k 0 / 2 ^ m) x.length + w.getD x.length 0 ∧ (ltV w x m).natAbs ≤ A * C * 16 + A := by
  have mw : ∀ k, k < w.length → (w.getD k 0).natAbs ≤ A := fun k hk => hA _ (by rw [List.getD_eq_getElem?_getD, List.getElem?_eq_getElem hk, Option.getD_some]; exact List.getElem_mem _)
  have mx : ∀ k, k < x.length → (x.getD k 0).natAbs ≤ C := fun k hk => hC _ (by rw [List.getD_eq_getElem?_getD, List.getElem?_eq_getElem hk, Option.getD_some]; exact List.getElem_mem _)
  have htl : (w.take x.length).length = x.length := by rw [List.length_take]; omega
  obtain ⟨a1, a2, a3, a4⟩ := dot_mk (xs := w.take x.length) (ys := x) (m := m) hm (by omega) (by omega) (A := A) (C := C) hAC fun k hk => by
    rw [htl] at hk
    rw [take_getD hk]
    exact ⟨mw k (by omega), mx k hk⟩
  rw [htl] at a2 a3 a4
  have hmm : ((A * C : Nat) : Int) * (x.length : Int) ≤ ((A * C * 16 : Nat) : Int) := by
    rw [Int.natCast_mul (A * C) 16]
    exact Int.mul_le_mul_of_nonneg_left (by omega) (by omega)
  have hb := mw x.length (by omega)
  have hlc : lcE x.length w [⟨x, 0⟩] = 0 := lc_one (n := x.length) rfl (by omega) (by omega) (by omega)
  have e1 : ltE w x m = 0 := ltE_ok.2 ⟨hlc, a1, by unfold I64; omega⟩
  have v1 : ltV w x m = dotV (w.take x.length) x m + w.getD x.length 0 := by unfold ltV; rw [if_pos e1]
  refine ⟨e1, ?_, by rw [v1]; omega⟩
  rw [v1, a2]
  congr 1
  exact sm_ext fun k hk => by rw [take_getD hk]
theorem fst_one (e : Int) : fstE [e] = e := by
  rw [fstE, fstE]
  by_cases h : e = 0
  · rw [if_neg (by simp [h]), h]
  · rw [if_pos h]
theorem mg_one {hid : Int} {v : List Int} {f : Int} {s : SmpV} (h : msE hid v = 0) : mgE hid v f [s] = if mcE (msN hid v) hid v [s] ≠ 0 then mcE (msN hid v) hid v [s] else if mbE hid v f s ≠ 0 then mbE hid v f s else lmE (1 : Nat) [mbV hid v f s] := by
  unfold mgE
  rw [if_neg (by simp [h])]
  simp only [List.map_cons, List.map_nil, List.length_cons, List.length_nil, fst_one]
theorem mlp_turns {w x : List Int} {Y f : Int} (hms : msE 2 w = 0) (hw : ∀ n ∈ w, n.natAbs ≤ 4096) (hx : ∀ n ∈ x, n.natAbs ≤ 4096) :
    msE 2 (turnW w) = 0 ∧ (turnW w).length = w.length ∧ mqE 2 (turnW w) x f = mqE 2 w x f ∧ mqV 2 (turnW w) x f = mqV 2 w x f ∧ mgE 2 (turnW w) f [⟨x, Y⟩] = mgE 2 w f [⟨x, Y⟩] ∧
    (mgE 2 w f [⟨x, Y⟩] = 0 → (mgV 2 w f [⟨x, Y⟩]).length = w.length ∧ turnW (mgV 2 w f [⟨x, Y⟩]) = mgV 2 (turnW w) f [⟨x, Y⟩]) := by
  obtain ⟨a, b, p, q, c, rfl, ha, hb⟩ := two_parts hms
  obtain ⟨_, hN1, hN2⟩ := msE_ok.1 hms
  obtain ⟨n, hn⟩ : ∃ n, msN 2 (a ++ b ++ [p, q, c]) + 1 = n := ⟨_, rfl⟩
  rw [hn] at ha hb
  have hn2 : 2 ≤ n ∧ n ≤ 17 := by omega
  rw [turn_parts ha hb]
  obtain ⟨s1, s2, s3, s4⟩ := two_ml (p := p) (q := q) (c := c) ha hb hn2.1 hn2.2
  obtain ⟨t1, t2, t3, t4⟩ := two_ml (p := q) (q := p) (c := c) hb ha hn2.1 hn2.2
  have hlw : (a ++ b ++ [p, q, c]).length = 2 * n + 3 := by simp; omega
  have hlu : (b ++ a ++ [q, p, c]).length = 2 * n + 3 := by simp; omega
  have wa : ∀ z ∈ a, z.natAbs ≤ 4096 := fun z hz => hw z (by simp [hz])
  have wb : ∀ z ∈ b, z.natAbs ≤ 4096 := fun z hz => hw z (by simp [hz])
  have wp : p.natAbs ≤ 4096 := hw p (by simp)
  have wq : q.natAbs ≤ 4096 := hw q (by simp)
  have wc : c.natAbs ≤ 4096 := hw c (by simp)
  refine ⟨t1, by rw [hlw, hlu], ?_⟩
  by_cases hxn : n - 1 = x.length
  · by_cases hf : 0 ≤ f ∧ f ≤ 30
    · obtain ⟨m, rfl⟩ := Int.eq_ofNat_of_zero_le hf.1
      have hm : m ≤ 30 := by omega
      obtain ⟨A1, _, A3⟩ := tell_small (m := m) hm (w := a) (x := x) (by omega) (by omega) wa hx (by decide) (by decide)
      obtain ⟨B1, _, B3⟩ := tell_small (m := m) hm (w := b) (x := x) (by omega) (by omega) wb hx (by decide) (by decide)
      obtain ⟨ha', hA⟩ : ∃ z, max (ltV a x m) 0 = z := ⟨_, rfl⟩
      obtain ⟨hb', hB⟩ : ∃ z, max (ltV b x m) 0 = z := ⟨_, rfl⟩
      have hbA : ha'.natAbs ≤ 268439552 := by omega
      have hbB : hb'.natAbs ≤ 268439552 := by omega
      have L1 : mhL 2 (a ++ b ++ [p, q, c]) x m = [ha', hb'] := by unfold mhL bdL; rw [s3]; simp only [List.map_cons, List.map_nil]; rw [hA, hB]
      have L2 : mhL 2 (b ++ a ++ [q, p, c]) x m = [hb', ha'] := by unfold mhL bdL; rw [t3]; simp only [List.map_cons, List.map_nil]; rw [hA, hB]
      have E1 : mhE 2 (a ++ b ++ [p, q, c]) x m = 0 := mhE_ok.2 ⟨s1, by omega, hf, by rw [s3]; simp; exact ⟨A1, B1⟩⟩
      have E2 : mhE 2 (b ++ a ++ [q, p, c]) x m = 0 := mhE_ok.2 ⟨t1, by omega, hf, by rw [t3]; simp; exact ⟨B1, A1⟩⟩
      obtain ⟨C1, C2, _⟩ := tell_small (m := m) hm (w := [p, q, c]) (x := [ha', hb']) (A := 4096) (C := 268439552) (by simp) (by simp) (by simp; exact ⟨wp, wq, wc⟩) (by simp; exact ⟨hbA, hbB⟩) (by decide) (by decide)
      obtain ⟨D1, D2, _⟩ := tell_small (m := m) hm (w := [q, p, c]) (x := [hb', ha']) (A := 4096) (C := 268439552) (by simp) (by simp) (by simp; exact ⟨wq, wp, wc⟩) (by simp; exact ⟨hbB, hbA⟩) (by decide) (by decide)
      have hV : ltV [q, p, c] [hb', ha'] m = ltV [p, q, c] [ha', hb'] m := by
        rw [C2, D2]
        simp [sm]
        omega
      have Q1 : mqE 2 (a ++ b ++ [p, q, c]) x m = 0 := mqE_ok.2 ⟨E1, by rw [s4, L1]; exact C1⟩
      have Q2 : mqE 2 (b ++ a ++ [q, p, c]) x m = 0 := mqE_ok.2 ⟨E2, by rw [t4, L2]; exact D1⟩
      have V1 : mqV 2 (a ++ b ++ [p, q, c]) x m = ltV [p, q, c] [ha', hb'] m := by unfold mqV; rw [if_pos Q1, s4, L1]
      have V2 : mqV 2 (b ++ a ++ [q, p, c]) x m = ltV [p, q, c] [ha', hb'] m := by unfold mqV; rw [if_pos Q2, t4, L2, hV]
      refine ⟨by rw [Q1, Q2], by rw [V1, V2], ?_⟩
      have O1 : moE 2 (b ++ a ++ [q, p, c]) ⟨x, Y⟩ m = moE 2 (a ++ b ++ [p, q, c]) ⟨x, Y⟩ m := by unfold moE; rw [Q1, Q2, V1, V2]
      have O2 : moV 2 (b ++ a ++ [q, p, c]) ⟨x, Y⟩ m = moV 2 (a ++ b ++ [p, q, c]) ⟨x, Y⟩ m := by unfold moV; rw [O1, V1, V2]
      obtain ⟨o, hO⟩ : ∃ o, moV 2 (a ++ b ++ [p, q, c]) ⟨x, Y⟩ m = o := ⟨_, rfl⟩
      rw [hO] at O2
      have e2 : (2 : Int).toNat = 2 := rfl
      have G1 : mbE 2 (a ++ b ++ [p, q, c]) m ⟨x, Y⟩ = if moE 2 (a ++ b ++ [p, q, c]) ⟨x, Y⟩ m ≠ 0 then moE 2 (a ++ b ++ [p, q, c]) ⟨x, Y⟩ m else fstE [mlnE x o ha' p m, mlnE x o hb' q m, unE (behE m) (numS [ha', hb'] o m) 2] := by
        unfold mbE
        rw [hO, L1, s4, e2]
        rfl
      have G2 : mbE 2 (b ++ a ++ [q, p, c]) m ⟨x, Y⟩ = if moE 2 (a ++ b ++ [p, q, c]) ⟨x, Y⟩ m ≠ 0 then moE 2 (a ++ b ++ [p, q, c]) ⟨x, Y⟩ m else fstE [mlnE x o hb' q m, mlnE x o ha' p m, unE (behE m) (numS [hb', ha'] o m) 2] := by
        unfold mbE
        rw [O1, O2, L2, t4, e2]
        rfl
      have W1 : mbV 2 (a ++ b ++ [p, q, c]) m ⟨x, Y⟩ = mlnV x o ha' p m ++ mlnV x o hb' q m ++ (unV (behE m) (numS [ha', hb'] o m) 2 ++ [o]) := by
        unfold mbV
        rw [hO, L1, s4, e2]
        show [mlnV x o ha' p m, mlnV x o hb' q m].flatten ++ (unV (behE m) (numS [ha', hb'] o m) 2 ++ [o]) = _
        simp
      have W2 : mbV 2 (b ++ a ++ [q, p, c]) m ⟨x, Y⟩ = mlnV x o hb' q m ++ mlnV x o ha' p m ++ (unV (behE m) (numS [hb', ha'] o m) 2 ++ [o]) := by
        unfold mbV
        rw [O2, L2, t4, e2]
        show [mlnV x o hb' q m, mlnV x o ha' p m].flatten ++ (unV (behE m) (numS [hb', ha'] o m) 2 ++ [o]) = _
        simp
      have hln : ∀ h z, mlnE x o h z m = 0 ∨ mlnE x o h z m = 2 := fun h z => by
        unfold mlnE
        by_cases h9 : mwE o h z m = 0
        · rw [if_neg (by simp [h9])]
          exact (un_two hf (by omega)).1
        · rw [if_pos h9]
          unfold mwE at h9 ⊢
          split
          · exact mulE_two hf
          · exact .inl rfl
      obtain ⟨u1, u2⟩ := un_two (X := [ha', hb']) (o := o) hf (by simp)
      obtain ⟨v1, v2⟩ := un_two (X := [hb', ha']) (o := o) hf (by simp)
      have u1' : unE (behE m) (numS [ha', hb'] o m) 2 = 0 ∨ unE (behE m) (numS [ha', hb'] o m) 2 = 2 := u1
      have v1' : unE (behE m) (numS [hb', ha'] o m) 2 = 0 ∨ unE (behE m) (numS [hb', ha'] o m) 2 = 2 := v1
      have huv : unE (behE m) (numS [ha', hb'] o m) 2 = 0 ↔ unE (behE m) (numS [hb', ha'] o m) 2 = 0 := by
        have u2' : unE (behE m) (numS [ha', hb'] o m) 2 = 0 ↔ ∀ k, k < 2 → mulE ([ha', hb'].getD k 0) o m = 0 := u2
        have v2' : unE (behE m) (numS [hb', ha'] o m) 2 = 0 ↔ ∀ k, k < 2 → mulE ([hb', ha'].getD k 0) o m = 0 := v2
        rw [u2', v2']
        constructor
        · intro h k hk
          match k, hk with
          | 0, _ => exact h 1 (by omega)
          | 1, _ => exact h 0 (by omega)
        · intro h k hk
          match k, hk with
          | 0, _ => exact h 1 (by omega)
          | 1, _ => exact h 0 (by omega)
      have hfs : fstE [mlnE x o hb' q m, mlnE x o ha' p m, unE (behE m) (numS [hb', ha'] o m) 2] = fstE [mlnE x o ha' p m, mlnE x o hb' q m, unE (behE m) (numS [ha', hb'] o m) 2] := by
        refine fst_alike ?_ ?_ ?_
        · simp only [List.mem_cons, List.not_mem_nil, or_false, forall_eq_or_imp, forall_eq]
          exact ⟨hln _ _, hln _ _, v1'⟩
        · simp only [List.mem_cons, List.not_mem_nil, or_false, forall_eq_or_imp, forall_eq]
          exact ⟨hln _ _, hln _ _, u1'⟩
        · simp only [List.mem_cons, List.not_mem_nil, or_false, forall_eq_or_imp, forall_eq]
          rw [huv]
          constructor
          · rintro ⟨x1, x2, x3⟩; exact ⟨x2, x1, x3⟩
          · rintro ⟨x1, x2, x3⟩; exact ⟨x2, x1, x3⟩
      have hmb : mbE 2 (b ++ a ++ [q, p, c]) m ⟨x, Y⟩ = mbE 2 (a ++ b ++ [p, q, c]) m ⟨x, Y⟩ := by rw [G1, G2, hfs]
      have hmc : mcE (msN 2 (b ++ a ++ [q, p, c])) 2 (b ++ a ++ [q, p, c]) [⟨x, Y⟩] = mcE (msN 2 (a ++ b ++ [p, q, c])) 2 (a ++ b ++ [p, q, c]) [⟨x, Y⟩] := by unfold mcE; rw [s2, t2, hlw, hlu]
      have one : ∀ r : List Int, r.length ≤ 4096 → lmE (1 : Nat) [r] = 0 ∧ lmV (1 : Nat) [r] = r := fun r hr => by
        have hs : sumAll [r] = (r, 0) := by rw [sumAll, if_neg (by omega), sumFrom]
        have he : lmE (1 : Nat) [r] = 0 := by unfold lmE; rw [if_neg (by omega), hs]
        refine ⟨he, ?_⟩
        unfold lmV
        rw [if_pos he, hs]
        simp
      have hvl : ∀ h z, (mlnV x o h z m).length ≤ x.length + 1 := fun h z => by
        unfold mlnV
        rw [List.length_append]
        have : (unV (behE m) (numS x (mwV o h z m) m) x.length).length ≤ x.length := by
          unfold unV
          split
          · unfold seqV
            split <;> simp
          · simp
        simp
        omega
      have hul : ∀ X : List Int, X.length = 2 → (unV (behE m) (numS X o m) 2).length ≤ 2 := fun X _ => by
        unfold unV
        split
        · unfold seqV
          split <;> simp
        · simp
      have k1 : (mbV 2 (a ++ b ++ [p, q, c]) m ⟨x, Y⟩).length ≤ 4096 := by
        rw [W1, List.length_append, List.length_append, List.length_append]
        have := hvl ha' p; have := hvl hb' q; have := hul [ha', hb'] rfl
        simp
        omega
      have k2 : (mbV 2 (b ++ a ++ [q, p, c]) m ⟨x, Y⟩).length ≤ 4096 := by
        rw [W2, List.length_append, List.length_append, List.length_append]
        have := hvl ha' p; have := hvl hb' q; have := hul [hb', ha'] rfl
        simp
        omega
      have hg : mgE 2 (b ++ a ++ [q, p, c]) m [⟨x, Y⟩] = mgE 2 (a ++ b ++ [p, q, c]) m [⟨x, Y⟩] := by
        rw [mg_one s1, mg_one t1, hmc, hmb, (one _ k1).1, (one _ k2).1]
      refine ⟨hg, fun h0 => ?_⟩
      have h0' := hg.trans h0
      obtain ⟨_, _, z3, _⟩ := mgE_ok.1 h0
      have hb0 := z3 ⟨x, Y⟩ (by simp)
      rw [G1] at hb0
      have ho : moE 2 (a ++ b ++ [p, q, c]) ⟨x, Y⟩ m = 0 := by
        by_cases e : moE 2 (a ++ b ++ [p, q, c]) ⟨x, Y⟩ m = 0
        · exact e
        · rw [if_pos e] at hb0; exact absurd hb0 e
      rw [if_neg (fun h9 => h9 ho)] at hb0
      have hall := fstE_ok.1 hb0
      simp only [List.mem_cons, List.not_mem_nil, or_false, forall_eq_or_imp, forall_eq] at hall
      obtain ⟨l1, l2, l3⟩ := hall
      have hlen : ∀ h z, mlnE x o h z m = 0 → (mlnV x o h z m).length = n := fun h z hz => by
        unfold mlnE at hz
        by_cases h9 : mwE o h z m = 0
        · rw [if_neg (by simp [h9])] at hz
          have hk := (un_two (X := x) (o := mwV o h z m) hf (by omega)).2.1 hz
          have hh := (un_zero (num := numS x (mwV o h z m) m) hf (by omega) hk).2
          unfold mlnV
          rw [hh]
          simp
          omega
        · rw [if_pos h9] at hz; exact absurd hz h9
      have hu : ∀ y z : Int, unE (behE m) (numS [y, z] o m) 2 = 0 → unV (behE m) (numS [y, z] o m) 2 = [mulV y o m, mulV z o m] := fun y z hz => by
        have hk := (un_two (X := [y, z]) (o := o) hf (by simp)).2.1 hz
        exact (un_zero (num := numS [y, z] o m) hf (show 2 ≤ 4096 by decide) hk).2
      have M1 : mgV 2 (a ++ b ++ [p, q, c]) m [⟨x, Y⟩] = mlnV x o ha' p m ++ mlnV x o hb' q m ++ [mulV ha' o m, mulV hb' o m, o] := by
        unfold mgV
        rw [if_pos h0]
        show lmV (1 : Nat) [mbV 2 (a ++ b ++ [p, q, c]) m ⟨x, Y⟩] = _
        rw [(one _ k1).2, W1, hu _ _ l3]
        rfl
      have M2 : mgV 2 (b ++ a ++ [q, p, c]) m [⟨x, Y⟩] = mlnV x o hb' q m ++ mlnV x o ha' p m ++ [mulV hb' o m, mulV ha' o m, o] := by
        unfold mgV
        rw [if_pos h0']
        show lmV (1 : Nat) [mbV 2 (b ++ a ++ [q, p, c]) m ⟨x, Y⟩] = _
        rw [(one _ k2).2, W2, hu _ _ (huv.1 l3)]
        rfl
      have g1 := hlen ha' p l1
      have g2 := hlen hb' q l2
      rw [M1, M2, turn_parts g1 g2]
      refine ⟨?_, rfl⟩
      rw [List.length_append, List.length_append, g1, g2, hlw]
      simp
      omega
    · have E1 : ∀ v : List Int, msE 2 v = 0 → msN 2 v = n - 1 → mhE 2 v x f = 1 := fun v h1 h2 => by unfold mhE; rw [if_neg (by simp [h1]), if_neg (by omega), if_pos (by omega)]
      have Q1 : ∀ v : List Int, msE 2 v = 0 → msN 2 v = n - 1 → mqE 2 v x f = 1 := fun v h1 h2 => by unfold mqE; rw [E1 v h1 h2, if_pos (by decide)]
      have B1 : ∀ v : List Int, msE 2 v = 0 → msN 2 v = n - 1 → mbE 2 v f ⟨x, Y⟩ = 1 := fun v h1 h2 => by
        have hm : moE 2 v ⟨x, Y⟩ f = 1 := by unfold moE; rw [show mqE 2 v (SmpV.mk x Y).X f = 1 from Q1 v h1 h2, if_pos (by decide)]
        unfold mbE
        rw [hm, if_pos (by decide)]
      have hmc : mcE (msN 2 (b ++ a ++ [q, p, c])) 2 (b ++ a ++ [q, p, c]) [⟨x, Y⟩] = mcE (msN 2 (a ++ b ++ [p, q, c])) 2 (a ++ b ++ [p, q, c]) [⟨x, Y⟩] := by unfold mcE; rw [s2, t2, hlw, hlu]
      have G : ∀ v : List Int, msE 2 v = 0 → msN 2 v = n - 1 → mgE 2 v f [⟨x, Y⟩] = if mcE (msN 2 v) 2 v [⟨x, Y⟩] ≠ 0 then mcE (msN 2 v) 2 v [⟨x, Y⟩] else 1 := fun v h1 h2 => by
        rw [mg_one h1, B1 v h1 h2]
        rfl
      refine ⟨by rw [Q1 _ s1 s2, Q1 _ t1 t2], by unfold mqV; rw [Q1 _ s1 s2, Q1 _ t1 t2]; rfl, by rw [G _ s1 s2, G _ t1 t2, hmc], fun h => ?_⟩
      rw [G _ s1 s2] at h
      split at h
      · rename_i h9; exact absurd h h9
      · cases h
  · have E1 : ∀ v : List Int, msE 2 v = 0 → msN 2 v = n - 1 → mqE 2 v x f = 4 := fun v h1 h2 => by
      have e : mhE 2 v x f = 4 := by unfold mhE; rw [if_neg (by simp [h1]), if_pos (by omega)]
      unfold mqE; rw [e, if_pos (by decide)]
    have hmc : ∀ v : List Int, msE 2 v = 0 → msN 2 v = n - 1 → v.length = 2 * n + 3 → mgE 2 v f [⟨x, Y⟩] = 4 := fun v h1 h2 h3 => by
      have hc : mcE (msN 2 v) 2 v [⟨x, Y⟩] = 4 := by
        have hmd : mdE (msN 2 v) 2 = 0 := if_neg (by omega)
        have hodd : oddX (msN 2 v) [⟨x, Y⟩] = true := by
          cases ho : oddX (msN 2 v) [⟨x, Y⟩] with
          | true => rfl
          | false =>
            have h9 := oddX_no.1 ho ⟨x, Y⟩ (by simp)
            have h9' : (x.length : Int) = (msN 2 v : Int) := h9
            omega
        unfold mcE
        rw [if_neg (fun h9 => h9 hmd), if_neg (by omega), if_pos hodd]
      unfold mgE
      rw [if_neg (by simp [h1]), hc, if_pos (by decide)]
    refine ⟨by rw [E1 _ s1 s2, E1 _ t1 t2], by unfold mqV; rw [E1 _ s1 s2, E1 _ t1 t2]; rfl, by rw [hmc _ s1 s2 hlw, hmc _ t1 t2 hlu], fun h => ?_⟩
    rw [hmc _ s1 s2 hlw] at h
    cases h
end Go.Proofs.Ytekpejemfkjhcaa
