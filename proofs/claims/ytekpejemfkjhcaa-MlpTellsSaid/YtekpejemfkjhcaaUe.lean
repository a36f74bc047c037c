
/- Ue: texts joined: MqI MlG LpF. -/
import Derived.Test.YtekpejemfkjhcaaUd
import Derived.Test.YtekpejemfkjhcaaUc
import Derived.Test.YtekpejemfkjhcaaUMlF
import Derived.Test.YtekpejemfkjhcaaUb
import Derived.Test.YtekpejemfkjhcaaUFixC
/- Two layers, by the landed code: how one sample bends them. -/
namespace Go.Proofs.Ytekpejemfkjhcaa
open Go.RowKit
set_option maxHeartbeats 4000000
set_option maxRecDepth 100000
set_option linter.unusedVariables false
/-- How the first k lines are to be bent, one behind the other. -/
def bnT (X : List Int) (o : Int) (u : List Int) (f d : Int) (H : List Int) (k : Nat) : List Int := ((List.range k).map fun i => mlnV X d (H.getD i 0) ((mlZ o u).getD i 0) f).flatten
theorem bnT_on (X : List Int) (o : Int) (u : List Int) (f d : Int) (H : List Int) (k : Nat) : bnT X o u f d H (k + 1) = bnT X o u f d H k ++ (unV (behE f) (numS X (mwV d (H.getD k 0) ((mlZ o u).getD k 0) f) f) X.length ++ [mwV d (H.getD k 0) ((mlZ o u).getD k 0) f]) := by
  unfold bnT
  rw [List.range_succ, List.map_append, List.flatten_append]
  simp [mlnV]
theorem bnT_len {X : List Int} {o : Int} {u : List Int} {f d : Int} {H : List Int} {k : Nat} (hk : k ≤ 8) : (bnT X o u f d H k).length ≤ 100000 := by
  have h2 := ml_flat (n := 0) (g := fun i => mlnV X d (H.getD i 0) ((mlZ o u).getD i 0) f) (j := k) (fun i => by
      unfold mlnV
      rw [List.length_append, List.length_singleton]
      have : (unV (behE f) (numS X (mwV d (H.getD i 0) ((mlZ o u).getD i 0) f) f) X.length).length ≤ 4096 := unV_len _ _ _
      omega) hk
  unfold bnT
  omega
/-- The errors, line by line. -/
def bnE (X : List Int) (o : Int) (u : List Int) (f d : Int) (H : List Int) (i : Nat) : Int := unE (behE f) (numS X (mwV d (H.getD i 0) ((mlZ o u).getD i 0) f) f) X.length
theorem mb_at {O : Nat} {u : List Int} {f : Int} {s : SmpV} {k : Nat} (h : moE (O : Int) u s f = 0) (hk : mkE (O : Int) u f (moV (O : Int) u s f) (mhL (O : Int) u s.X f) = 0) (hj : k < O) (ha : ∀ i, i < k → bnE s.X (O : Int) u f (moV (O : Int) u s f) (mhL (O : Int) u s.X f) i = 0) (hn : bnE s.X (O : Int) u f (moV (O : Int) u s f) (mhL (O : Int) u s.X f) k ≠ 0) :
    mbE (O : Int) u f s = bnE s.X (O : Int) u f (moV (O : Int) u s f) (mhL (O : Int) u s.X f) k ∧ mbO (O : Int) u f s = [] := by
  have e : mbE (O : Int) u f s = bnE s.X (O : Int) u f (moV (O : Int) u s f) (mhL (O : Int) u s.X f) k := by
    rw [mb_tail h hk]
    unfold mtE
    rw [Int.toNat_natCast]
    exact fst_range (g := bnE s.X (O : Int) u f (moV (O : Int) u s f) (mhL (O : Int) u s.X f)) hj ha hn
  exact ⟨e, if_neg (by rw [e]; exact hn)⟩
theorem mb_end {O : Nat} {u : List Int} {f : Int} {s : SmpV} (h : moE (O : Int) u s f = 0) (hk : mkE (O : Int) u f (moV (O : Int) u s f) (mhL (O : Int) u s.X f) = 0) (ha : ∀ i, i < O → bnE s.X (O : Int) u f (moV (O : Int) u s f) (mhL (O : Int) u s.X f) i = 0) :
    mbE (O : Int) u f s = unE (behE f) (numS (mhL (O : Int) u s.X f) (moV (O : Int) u s f) f) (mhL (O : Int) u s.X f).length ∧
    mbV (O : Int) u f s = bnT s.X (O : Int) u f (moV (O : Int) u s f) (mhL (O : Int) u s.X f) O ++ (unV (behE f) (numS (mhL (O : Int) u s.X f) (moV (O : Int) u s f) f) (mhL (O : Int) u s.X f).length ++ [moV (O : Int) u s f]) := by
  refine ⟨?_, rfl⟩
  rw [mb_tail h hk]
  unfold mtE
  rw [Int.toNat_natCast]
  refine fst_app fun e he => ?_
  obtain ⟨i, hi, rfl⟩ := List.mem_map.1 he
  exact ha i (List.mem_range.1 hi)
theorem mq_bend {Az Aa Ax : Option Addr} {cz ca cx : Nat} (O : Nat) (u : List Int) (s : SmpV) (h1 : msE (O : Int) u = 0) (iu : I64s u) (hx : s.X.length ≤ 1099511627776) (ix : I64s s.X) (iY : I64 s.Y) (f : Int) (w : World)
    (hn : NetR w (O : Int) u Az cz Aa) (rx : Rd (Value.int .i64) w w.heap.size Ax s.X) :
    Calls Try.prog 41 #[.agg #[.slice Az (O + 1) cz, .int .i64 O, .slice Aa O ca], .agg #[.slice Ax s.X.length cx, .int .i64 s.Y], .int .i64 f] w (OwnInts (mbO (O : Int) u f s) (mbE (O : Int) u f s) w) := by
  obtain ⟨w3, hw3, hz3, hb3, ⟨g0, g1, g2⟩, q0, q1⟩ := two_box w (.slice Az (O + 1) cz) (.int .i64 (O : Int)) (.slice Aa O ca) (.slice Ax s.X.length cx) (.int .i64 s.Y) 55 24
  have HN3 := hid (hn.on hb3)
  have RX3 := hid (rx.on hb3)
  have HB3 := hid hb3
  have hl3 : w.heap.size < w3.heap.size := by omega
  have hl4 : w.heap.size + 1 < w3.heap.size := by omega
  by_cases h2 : moE (O : Int) u s f = 0
  · obtain ⟨hf, hX16, _, hh⟩ := mo_frac h2
    obtain ⟨⟨o1, o8⟩, _⟩ := msE_ok.1 h1
    have CO := hid (mq_off_ok (Az := Az) (Aa := Aa) (Ax := Ax) (cz := cz) (ca := ca) (cx := cx) O u s h1 iu hx ix iY f hh w3 HN3.out RX3.out)
    have iV : I64 (moV (O : Int) u s f) := by
      have := (moE_ok.1 h2).2
      unfold moV
      rw [if_pos h2]; exact this
    have hHl := mhL_len (O : Int) u s.X f
    rw [Int.toNat_natCast] at hHl
    have iH := mh_i64 (O : Int) u s.X f
    have hH0 : ∀ y ∈ mhL (O : Int) u s.X f, 0 ≤ y := fun y hy => (mhL_i64 (O : Int) u s.X f y hy).2
    have CB := hid (fun (A4 : Option Addr) (c4 : Nat) (W : World) (hn : NetR W (O : Int) u Az cz Aa) (rh : Rd (Value.int .i64) W W.heap.size A4 (mhL (O : Int) u s.X f)) => mq_back (Az := Az) (Aa := Aa) (A := A4) (cz := cz) (ca := ca) (c := c4) O u (mhL (O : Int) u s.X f) h1 iu hHl hH0 (moV (O : Int) u s f) f iV W hn rh)
    by_cases h3 : mkE (O : Int) u f (moV (O : Int) u s f) (mhL (O : Int) u s.X f) = 0
    · have HAT := hid (fun (k : Nat) (hj : k < O) ha hn => mb_at (f := f) (s := s) (k := k) h2 h3 hj ha hn)
      have HEND := hid (fun ha => mb_end (f := f) (s := s) h2 h3 ha)
      have hD : mkO (O : Int) u f (moV (O : Int) u s f) (mhL (O : Int) u s.X f) = (List.range O).map fun i => mwV (moV (O : Int) u s f) ((mhL (O : Int) u s.X f).getD i 0) ((mlZ (O : Int) u).getD i 0) f := by
        unfold mkO
        rw [if_pos h3]
        unfold mkV
        rw [Int.toNat_natCast]
      have hmO : mbO (O : Int) u f s = if mbE (O : Int) u f s = 0 then mbV (O : Int) u f s else [] := rfl
      rw [h3, hD] at CB
      rw [h2] at CO
      obtain ⟨vE, hvE⟩ : ∃ v, mbE (O : Int) u f s = v := ⟨_, rfl⟩
      obtain ⟨vO, hvO⟩ : ∃ v, mbO (O : Int) u f s = v := ⟨_, rfl⟩
      rw [hvE, hvO] at HAT
      rw [hvE] at HEND
      rw [hvE, hvO] at hmO
      rw [hvE, hvO]
      obtain ⟨d, hd⟩ : ∃ d, moV (O : Int) u s f = d := ⟨_, rfl⟩
      obtain ⟨H, hH⟩ : ∃ H, mhL (O : Int) u s.X f = H := ⟨_, rfl⟩
      rw [hd, hH] at HAT HEND CB CO
      rw [hH] at hHl iH hH0
      rw [hd] at iV
      obtain ⟨X, hX⟩ : ∃ X, s.X = X := ⟨_, rfl⟩
      obtain ⟨Y, hY⟩ : ∃ Y, s.Y = Y := ⟨_, rfl⟩
      rw [hX] at HAT HEND RX3 hX16 ix hx
      rw [hX, hY] at CO hw3
      rw [hX] at q0
      rw [hY] at q1
      rw [hX, hY]
      obtain ⟨D, hDD⟩ : ∃ D, ((List.range O).map fun i => mwV d (H.getD i 0) ((mlZ (O : Int) u).getD i 0) f) = D := ⟨_, rfl⟩
      rw [hDD] at CB
      have HDL : Hid (D.length = O) := hid (by rw [← hDD, List.length_map, List.length_range])
      have HDA : Hid (∀ k, k < O → D[k]? = some (mwV d (H.getD k 0) ((mlZ (O : Int) u).getD k 0) f)) := hid (fun k hk => by rw [← hDD, List.getElem?_map, List.getElem?_range hk]; rfl)
      have HDI : Hid (I64s D) := hid (fun y hy => by
        rw [← hDD] at hy
        obtain ⟨i, _, rfl⟩ := List.mem_map.1 hy
        unfold mwV
        split
        · exact mulV_i64 _ _ _
        · decide)
      have CPO := hid (fun (A : Option Addr) (c : Nat) (T : List Int) (y : Int) (hT : T.length ≤ 100000) (iy : I64 y) (base : Nat) (W : World) he ho hb rx => mq_put_ok (A := A) (Ax := Ax) (c := c) (cx := cx) T X y f hT (by omega) ix iy base W he ho hb rx)
      have CPB := hid (fun (A : Option Addr) (c t : Nat) (y : Int) (iy : I64 y) (W : World) he rx => mq_put_bad (A := A) (Ax := Ax) (t := t) (c := c) (cx := cx) X y f (by omega) ix iy W he rx)
      have CHO := hid (fun (A A4 : Option Addr) (c c4 : Nat) (T : List Int) (hT : T.length ≤ 100000) (base : Nat) (W : World) he ho hb rx => mq_put_ok (A := A) (Ax := A4) (c := c) (cx := c4) T H d f hT (by omega) iH iV base W he ho hb rx)
      have CHB := hid (fun (A A4 : Option Addr) (c c4 t : Nat) (W : World) he rx => mq_put_bad (A := A) (Ax := A4) (t := t) (c := c) (cx := c4) H d f (by omega) iH iV W he rx)
      obtain ⟨N, hN⟩ : ∃ N, X.length = N := ⟨_, rfl⟩
      have hO4 : O ≤ 8 := by omega
      have HO8 := hid hO4
      have HHL := hid hHl
      have HXN := hid hN
      have HMO := hid hmO
      have hHO : H.length = O := hHl
      rw [hHO] at CO CHO CHB
      rw [hN] at CO CPO CPB q0 hw3 ⊢
      clear hvE hvO hmO hd hH hX hY hDD hN hHl iH hH0 iV hX16 hf hh h1 h2 h3 iu hx ix iY hn rx o1 o8 hb3 hz3 hD hO4 hHO
      go_enter Try.func41, Try.ntmps41
      go_wp2_with fail
      refine CO.out.mono ?_
      rintro _ w4 ⟨A4, c4, rfl, ho4, hb4⟩
      have HO4 := hid ho4
      have g0' := (hb4.cell (p := ⟨w.heap.size, 0, none⟩) hl3).trans g0
      have g1' := (hb4.cell (p := ⟨w.heap.size, 1, none⟩) hl3).trans g1
      have g2' := (hb4.cell (p := ⟨w.heap.size, 2, none⟩) hl3).trans g2
      have q0' := (hb4.cell (p := ⟨w.heap.size + 1, 0, none⟩) hl4).trans q0
      have hl5 : w.heap.size + 1 < w4.heap.size := by have := hb4.size; omega
      have B4 := hid hb4
      have RH4 : Hid (Rd (Value.int .i64) w4 w4.heap.size A4 H) := hid (own_rd (by rw [HHL.out]; exact ho4))
      have CB2 := hid (CB.out A4 c4 w4 (HN3.out.on hb4) RH4.out)
      clear g0 g1 g2 q0 q1 hw3 ho4 hb4 CO CB hl3 hl4
      go_wp2_with fail
      refine CB2.out.mono ?_
      rintro _ w5 ⟨A5, c5, rfl, ho5, hb5⟩
      have RD5 := hid (own_rd ho5)
      have q0'' := (hb5.cell (p := ⟨w.heap.size + 1, 0, none⟩) hl5).trans q0'
      have HL5 : Hid (w.heap.size + 1 < w5.heap.size) := hid (by have := hb5.size; omega)
      have Q0 := hid q0''
      have RH5 := hid (RH4.out.on hb5)
      have RX5 := hid ((RX3.out.on B4.out).on hb5)
      have K5 : Hid (Below w.heap.size w w5) := hid ((HB3.out.trans (B4.out.mono HB3.out.size)).trans (hb5.mono (by have := HB3.out.size; have := B4.out.size; omega)))
      rw [HDL.out]
      clear g0' g1' g2' q0' ho5 hb5 hl5 CB2 RH4
      go_wp2_with fail
      clear q0''
      go_loopw [10, 12, 14, 39] (fun _ xb _ xi wr => ∃ (k : Nat) (T : List Int) (A2 : Option Addr) (c2 : Nat), k ≤ O ∧ xi = .int .i64 (k : Int) ∧ xb = .slice A2 T.length c2 ∧ T = bnT X (O : Int) u f d H k ∧ (∀ i, i < k → bnE X (O : Int) u f d H i = 0) ∧ wr.ownsRow w5.heap.size 2 1 (.slice A2 T.length c2) T.length (T.map (Value.int .i64)) ∧ Below w5.heap.size w5 wr) (fun _ _ _ xi _ => O - (intOf xi).toNat)
      case atStart => exact ⟨0, [], none, 0, Nat.zero_le _, rfl, rfl, rfl, fun i hi => by omega, own_nil _ _ _, Below.refl _ _⟩
      case round =>
        obtain ⟨k, T, A2, c2, hk, rfl, rfl, hT, ha, ho, hbel⟩ := hrel
        have HT := hid hT
        have HA := hid ha
        have HO := hid ho
        have HB := hid hbel
        have KR : Hid (Below w.heap.size w wr) := hid (K5.out.trans (hbel.mono K5.out.size))
        have HTL : Hid (T.length ≤ 100000) := hid (by rw [hT]; exact bnT_len (by have := HO8.out; omega))
        obtain ⟨t, ht⟩ : ∃ t, T.length = t := ⟨_, rfl⟩
        have HTT := hid ht
        rw [ht]
        have q0r := (hbel.cell (p := ⟨w.heap.size + 1, 0, none⟩) HL5.out).trans Q0.out
        clear hT ha ho
        by_cases hlt : k < O
        · obtain ⟨b1, o1, y, rfl, l1, en, c1⟩ := (RD5.out.on hbel).at_ (k := k) (by rw [HDL.out]; exact hlt)
          have hy : mwV d (H.getD k 0) ((mlZ (O : Int) u).getD k 0) f = y := by
            have := HDA.out k hlt
            rw [en] at this
            exact (Option.some.inj this).symm
          have iy : I64 y := HDI.out y (List.mem_of_getElem? en)
          have hTN := bnT_on X (O : Int) u f d H k
          have hgE : bnE X (O : Int) u f d H k = unE (behE f) (numS X y f) X.length := by unfold bnE; rw [hy]
          rw [hy] at hTN
          have HTN := hid hTN
          have HGE := hid hgE
          have HKM := hid hlt
          have HW := hid (show IntKind.i64.wrap ((k : Int) + 1) = ((k + 1 : Nat) : Int) from Go.IntWalk.i64_in _ (by have := HO8.out; omega))
          have RXr := hid (RX5.out.on hbel)
          clear en hy hTN hgE hbel
          by_cases he : unE (behE f) (numS X y f) X.length = 0
          · have CP := hid (CPO.out A2 c2 T y HTL.out iy w5.heap.size wr (by rw [← HXN.out]; exact he) HO.out HB.out.size RXr.out)
            rw [HTT.out] at CP
            have HEE := hid he
            clear he iy
            go_wp2_with fail
            refine CP.out.mono ?_
            rintro _ w6 ⟨A6, c6, S6, rfl, hS6, ho6, hb6⟩
            have HS6 := hid hS6
            have HO6 := hid ho6
            have HB6 : Hid (Below w5.heap.size w5 w6) := hid (HB.out.trans hb6)
            have hw := HW.out
            clear hS6 ho6 hb6 c1 l1 q0r
            go_wp2_with fail
            go_roundw
            case rel =>
              refine ⟨k + 1, S6, A6, c6, HKM.out, rfl, rfl, ?_, fun i hi => ?_, HO6.out, HB6.out⟩
              · rw [HS6.out, HTN.out, HT.out, HXN.out]
              · by_cases e : i = k
                · rw [e, HGE.out]; exact HEE.out
                · exact HA.out i (by omega)
            case measure => have := HKM.out; (try clear hw); simp [intOf]; omega
          · obtain ⟨e1, e2⟩ := HAT.out k hlt HA.out (by rw [HGE.out]; exact he)
            rw [HGE.out] at e1
            have CP := hid (CPB.out A2 c2 t y iy wr (by rw [← HXN.out]; exact he) RXr.out)
            rw [← HXN.out, ← e1] at CP
            rw [← e1] at he
            have hne : (vE != 0) = true := by simpa using he
            subst e2
            rw [HXN.out] at CP
            clear he iy e1
            go_wp2_with fail
            refine CP.out.mono ?_
            rintro _ w6 ⟨rfl, hb6⟩
            have K6 : Hid (Below w.heap.size w w6) := hid (KR.out.trans (hb6.mono KR.out.size))
            clear hb6 c1 l1 q0r
            go_wp2_with fail
            go_ret2
            exact ⟨none, 0, rfl, own_nil _ _ _, K6.out⟩
        · obtain rfl : k = O := by omega
          obtain ⟨e1, e2⟩ := HEND.out HA.out
          have RHr := hid (RH5.out.on hbel)
          clear hbel q0r
          by_cases he : unE (behE f) (numS H d f) H.length = 0
          · have e3 : vO = T ++ (unV (behE f) (numS H d f) H.length ++ [d]) := by rw [HMO.out, if_pos (by rw [e1]; exact he), e2, HT.out]
            have CP := hid (CHO.out A2 A4 c2 c4 T HTL.out w5.heap.size wr (by rw [← HHL.out]; exact he) HO.out HB.out.size RHr.out)
            rw [HTT.out] at CP
            rw [he] at e1
            have HE3 := hid e3
            subst e1
            clear e2 e3 he
            go_wp2_with fail
            refine CP.out.mono ?_
            rintro _ w6 ⟨A6, c6, S6, rfl, hS6, ho6, hb6⟩
            have HS6 := hid hS6
            have HO6 := hid ho6
            have HB6 : Hid (Below w5.heap.size w5 w6) := hid (HB.out.trans hb6)
            clear hS6 ho6 hb6
            go_wp2_with fail
            go_ret2
            have hv : vO = S6 := by rw [HE3.out, HS6.out, HHL.out]
            rw [hv]
            exact ⟨A6, c6, rfl, own_base HO6.out K5.out.size, K5.out.trans (HB6.out.mono K5.out.size)⟩
          · have e3 : vO = [] := by rw [HMO.out, if_neg (by rw [e1]; exact he)]
            have CP := hid (CHB.out A2 A4 c2 c4 t wr (by rw [← HHL.out]; exact he) RHr.out)
            rw [← HHL.out, ← e1] at CP
            rw [HHL.out] at CP
            subst e3
            clear e2 he e1
            go_wp2_with fail
            refine CP.out.mono ?_
            rintro _ w6 ⟨rfl, hb6⟩
            have K6 : Hid (Below w.heap.size w w6) := hid (KR.out.trans (hb6.mono KR.out.size))
            clear hb6
            go_wp2_with fail
            go_ret2
            exact ⟨none, 0, rfl, own_nil _ _ _, K6.out⟩
    · have e1 := mb_back h2 h3
      have e2 : mbO (O : Int) u f s = [] := if_neg (by rw [e1]; exact h3)
      have hD : mkO (O : Int) u f (moV (O : Int) u s f) (mhL (O : Int) u s.X f) = [] := if_neg h3
      rw [e1, e2]
      rw [hD] at CB
      rw [h2] at CO
      obtain ⟨d, hd⟩ : ∃ d, moV (O : Int) u s f = d := ⟨_, rfl⟩
      obtain ⟨H, hH⟩ : ∃ H, mhL (O : Int) u s.X f = H := ⟨_, rfl⟩
      rw [hd, hH] at CB CO h3 ⊢
      rw [hH] at hHl
      obtain ⟨E, hE⟩ : ∃ E, mkE (O : Int) u f d H = E := ⟨_, rfl⟩
      rw [hE] at CB h3 ⊢
      have hne : (E != 0) = true := by simpa using h3
      obtain ⟨N, hN⟩ : ∃ N, s.X.length = N := ⟨_, rfl⟩
      obtain ⟨Y, hY⟩ : ∃ Y, s.Y = Y := ⟨_, rfl⟩
      rw [hN, hY] at CO hw3 ⊢
      rw [hN] at q0
      rw [hY] at q1
      have HHL := hid hHl
      rw [hHl] at CO
      clear e1 e2 hD hd hH hE hN hY hHl iH hH0 iV hX16 hf hh h1 h2 h3 iu hx ix iY hn rx o1 o8 hb3 hz3 RX3
      go_enter Try.func41, Try.ntmps41
      go_wp2_with fail
      refine CO.out.mono ?_
      rintro _ w4 ⟨A4, c4, rfl, ho4, hb4⟩
      have g0' := (hb4.cell (p := ⟨w.heap.size, 0, none⟩) hl3).trans g0
      have g1' := (hb4.cell (p := ⟨w.heap.size, 1, none⟩) hl3).trans g1
      have g2' := (hb4.cell (p := ⟨w.heap.size, 2, none⟩) hl3).trans g2
      have K4 : Hid (Below w.heap.size w w4) := hid (HB3.out.trans (hb4.mono HB3.out.size))
      have CB2 := hid (CB.out A4 c4 w4 (HN3.out.on hb4) (own_rd (by rw [HHL.out]; exact ho4)))
      clear g0 g1 g2 q0 q1 hw3 ho4 hb4 CO CB hl3 hl4
      go_wp2_with fail
      refine CB2.out.mono ?_
      rintro _ w5 ⟨A5, c5, rfl, ho5, hb5⟩
      have K5 : Hid (Below w.heap.size w w5) := hid (K4.out.trans (hb5.mono K4.out.size))
      clear g0' g1' g2' ho5 hb5 CB2
      go_wp2_with fail
      go_ret2
      exact ⟨none, 0, rfl, own_nil _ _ _, K5.out⟩
  · have e1 : mbE (O : Int) u f s = moE (O : Int) u s f := by unfold mbE; rw [if_pos h2]
    have e2 : mbO (O : Int) u f s = [] := if_neg (by rw [e1]; exact h2)
    rw [e1, e2]
    have CO : ∃ (H : List Int) (V : Int), Hid (Calls Try.prog 33 #[.agg #[.slice Az (O + 1) cz, .int .i64 O, .slice Aa O ca], .agg #[.slice Ax s.X.length cx, .int .i64 s.Y], .int .i64 f] w3 fun e w' =>
        ∃ (A : Option Addr) (c n : Nat), e = .returned (.tuple #[.slice A n c, .int .i64 V, .int .i64 (moE (O : Int) u s f)]) ∧ Below w3.heap.size w3 w') := by
      by_cases hh : mhE (O : Int) u s.X f = 0
      · refine ⟨[], moV (O : Int) u s f, hid ((mq_off_ok (Az := Az) (Aa := Aa) (Ax := Ax) (cz := cz) (ca := ca) (cx := cx) O u s h1 iu hx ix iY f hh w3 HN3.out RX3.out).mono ?_)⟩
        rintro _ w4 ⟨A4, c4, rfl, _, hb4⟩
        exact ⟨A4, c4, _, rfl, hb4⟩
      · refine ⟨[], 0, hid ((mq_off_bad (Az := Az) (Aa := Aa) (Ax := Ax) (cz := cz) (ca := ca) (cx := cx) O u s h1 iu hx ix iY f hh w3 HN3.out RX3.out).mono ?_)⟩
        rintro _ w4 ⟨rfl, hb4⟩
        exact ⟨none, 0, 0, rfl, hb4⟩
    obtain ⟨_, V, CO⟩ := CO
    obtain ⟨E, hE⟩ : ∃ E, moE (O : Int) u s f = E := ⟨_, rfl⟩
    rw [hE] at CO h2 ⊢
    have hne : (E != 0) = true := by simpa using h2
    obtain ⟨N, hN⟩ : ∃ N, s.X.length = N := ⟨_, rfl⟩
    obtain ⟨Y, hY⟩ : ∃ Y, s.Y = Y := ⟨_, rfl⟩
    rw [hN, hY] at CO hw3 ⊢
    rw [hN] at q0
    rw [hY] at q1
    clear e1 e2 hE hN hY h1 h2 iu hx ix iY hn rx hb3 hz3 RX3 HN3
    go_enter Try.func41, Try.ntmps41
    go_wp2_with fail
    refine CO.out.mono ?_
    rintro _ w4 ⟨A4, c4, n4, rfl, hb4⟩
    have K4 : Hid (Below w.heap.size w w4) := hid (HB3.out.trans (hb4.mono HB3.out.size))
    clear g0 g1 g2 q0 q1 hw3 hb4 CO hl3 hl4
    go_wp2_with fail
    go_ret2
    exact ⟨none, 0, rfl, own_nil _ _ _, K4.out⟩
end Go.Proofs.Ytekpejemfkjhcaa
/- Lines hidden and a last one, by the document: how they are to be bent. -/
namespace Go.Proofs.Ytekpejemfkjhcaa
open Go.RowKit
set_option maxHeartbeats 4000000
set_option maxRecDepth 100000
set_option linter.unusedVariables false
theorem mg_off1 {h : Int} {u : List Int} {f : Int} {ls : List SmpV} (h0 : msE h u ≠ 0) : mgE h u f ls = msE h u ∧ mgV h u f ls = [] := by
  have e1 : mgE h u f ls = msE h u := by unfold mgE; rw [if_pos h0]
  exact ⟨e1, if_neg (by rw [e1]; exact h0)⟩
theorem mg_off2 {h : Int} {u : List Int} {f : Int} {ls : List SmpV} (h0 : msE h u = 0) (h1 : mcE (msN h u) h u ls ≠ 0) : mgE h u f ls = mcE (msN h u) h u ls ∧ mgV h u f ls = [] := by
  have e1 : mgE h u f ls = mcE (msN h u) h u ls := by unfold mgE; rw [if_neg (by simp [h0]), if_pos h1]
  exact ⟨e1, if_neg (by rw [e1]; exact h1)⟩
theorem mg_bad {h : Int} {u : List Int} {f : Int} {ls : List SmpV} {k : Nat} {s : SmpV} (h0 : msE h u = 0) (h1 : mcE (msN h u) h u ls = 0) (ha : ∀ x ∈ ls.take k, mbE h u f x = 0) (hs : ls[k]? = some s) (hn : mbE h u f s ≠ 0) : mgE h u f ls = mbE h u f s ∧ mgV h u f ls = [] := by
  have e := fstE_at ha hs hn
  have e1 : mgE h u f ls = mbE h u f s := by
    unfold mgE
    rw [if_neg (by simp [h0]), if_neg (by simp [h1]), e, if_pos hn]
  exact ⟨e1, if_neg (by rw [e1]; exact hn)⟩
theorem mg_good {h : Int} {u : List Int} {f : Int} {ls : List SmpV} (h0 : msE h u = 0) (h1 : mcE (msN h u) h u ls = 0) (ha : ∀ x ∈ ls, mbE h u f x = 0) : mgE h u f ls = lmE ls.length (ls.map (mbV h u f)) ∧ mgV h u f ls = lmV ls.length (ls.map (mbV h u f)) := by
  have e : fstE (ls.map (mbE h u f)) = 0 := fstE_ok.2 (by simpa using ha)
  have e1 : mgE h u f ls = lmE ls.length (ls.map (mbV h u f)) := by
    unfold mgE
    rw [if_neg (by simp [h0]), if_neg (by simp [h1]), if_neg (by simp [e])]
  refine ⟨e1, ?_⟩
  unfold mgV
  rw [e1]
  by_cases h2 : lmE ls.length (ls.map (mbV h u f)) = 0
  · rw [if_pos h2]
  · rw [if_neg h2]; unfold lmV; rw [if_neg h2]
theorem ml_un_i64 (xs : List Int) (b m : Int) (q : Int) (n : Nat) : I64s (unV q (numS xs b m) n) := fun x hx => by
  unfold unV at hx
  split at hx
  · unfold seqV at hx
    split at hx
    · obtain ⟨k, _, rfl⟩ := List.mem_map.1 hx
      exact ln_mul_i64 _ _ _
    · simp at hx
  · simp at hx
theorem mw_i64 (off y z f : Int) : I64 (mwV off y z f) := by
  unfold mwV
  split
  · exact ln_mul_i64 _ _ _
  · decide
theorem mb_rows {h : Int} {u : List Int} (f : Int) (ls : List SmpV) (h0 : msE h u = 0) : RowsOk (ls.map (mbV h u f)) := by
  intro xs hx
  obtain ⟨s, _, rfl⟩ := List.mem_map.1 hx
  have h8 := (msE_ok.1 h0).1.2
  have iV : I64 (moV h u s f) := by
    unfold moV
    split
    · rename_i e; exact (moE_ok.1 e).2
    · decide
  constructor
  · intro x hx
    unfold mbV at hx
    rcases List.mem_append.1 hx with hx | hx
    · obtain ⟨p, hp, hxp⟩ := List.mem_flatten.1 hx
      obtain ⟨i, _, rfl⟩ := List.mem_map.1 hp
      unfold mlnV at hxp
      rcases List.mem_append.1 hxp with hxp | hxp
      · exact ml_un_i64 _ _ _ _ _ x hxp
      · simp only [List.mem_singleton] at hxp
        rw [hxp]; exact mw_i64 _ _ _ _
    · rcases List.mem_append.1 hx with hx | hx
      · exact ml_un_i64 _ _ _ _ _ x hx
      · simp only [List.mem_singleton] at hx
        rw [hx]; exact iV
  · unfold mbV
    rw [List.length_append, List.length_append, List.length_singleton]
    have h1 : (unV (behE f) (numS (mhL h u s.X f) (moV h u s f) f) (mhL h u s.X f).length).length ≤ 4096 := unV_len _ _ _
    have h2 := ml_flat (n := 0) (g := fun i => mlnV s.X (moV h u s f) ((mhL h u s.X f).getD i 0) ((mlZ h u).getD i 0) f) (j := h.toNat) (fun i => by
      unfold mlnV
      rw [List.length_append, List.length_singleton]
      have : (unV (behE f) (numS s.X (mwV (moV h u s f) ((mhL h u s.X f).getD i 0) ((mlZ h u).getD i 0) f) f) s.X.length).length ≤ 4096 := unV_len _ _ _
      omega) (by omega)
    omega
theorem ref_Grad16 {Aw A : Option Addr} {cw c : Nat} (h : Int) (ih : I64 h) (u : List Int) (hu : u.length ≤ cw) (hcw : cw ≤ 9223372036854775807) (iu : I64s u) (f : Int) (ls : List SmpV) (hl : ls.length ≤ 9223372036854775807) (hX : ∀ s ∈ ls, I64s s.X ∧ I64 s.Y ∧ s.X.length ≤ 9223372036854775807) (w : World)
    (ru : Rd (Value.int .i64) w w.heap.size Aw u) (ra : RdSm w w.heap.size A ls) :
    Calls Try.prog 27 #[.int .i64 h, .slice Aw u.length cw, .int .i64 f, .slice A ls.length c] w (OwnInts (mgV h u f ls) (mgE h u f ls) w) := by
  have CP := hid (ref_Split16 (Au := Aw) (cu := cw) h ih u hu hcw w ru)
  obtain ⟨U, hU⟩ : ∃ U, u.length = U := ⟨_, rfl⟩
  obtain ⟨M, hM⟩ : ∃ M, ls.length = M := ⟨_, rfl⟩
  by_cases h0 : msE h u = 0
  · obtain ⟨⟨g1, g2⟩, ⟨g3, g4⟩, _⟩ := msE_ok.1 h0
    obtain ⟨hRl, hRr⟩ := mlL_row h0
    have e0 : mlO h u = mlL h u := if_pos h0
    obtain ⟨n1, hn1⟩ : ∃ n, msN h u = n := ⟨_, rfl⟩
    obtain ⟨n, hn⟩ : ∃ n, n1 + 1 = n := ⟨_, rfl⟩
    rw [hn1] at hRr g3 g4
    rw [hn] at hRr
    have CC := hid (fun W hr => ref_Check16 (Aw := Aw) (A := A) (cw := cw) (c := c) (n1 : Int) h (by unfold I64; omega) ih u (Nat.le_trans hu hcw) ls hl (fun s hs => (hX s hs).2.2) W hr)
    have hw1 : IntKind.i64.wrap ((n : Int) - 1) = (n1 : Int) := by rw [Go.IntWalk.i64_in _ (by omega)]; omega
    rw [h0, e0] at CP
    obtain ⟨rows, hrows⟩ : ∃ rows, mlL h u = rows := ⟨_, rfl⟩
    obtain ⟨Zl, hZl⟩ : ∃ Z, mzO h u = Z := ⟨_, rfl⟩
    rw [hrows, hZl] at CP
    rw [hrows] at hRl hRr
    obtain ⟨R, hR⟩ : ∃ R, rows.length = R := ⟨_, rfl⟩
    have hR1 : 1 ≤ R := by omega
    have hr0 : ∃ r0, rows[0]? = some r0 ∧ r0.length = n := ⟨rows[0], List.getElem?_eq_getElem (by omega), hRr _ (List.getElem_mem _)⟩
    obtain ⟨r0, hr0, hr0l⟩ := hr0
    have HR := hid hR
    have HR0 := hid hr0
    have HRL0 := hid hr0l
    have RU := hid ru
    have RA := hid ra
    rw [hU] at CP CC ⊢
    rw [hM] at CC ⊢
    by_cases h1 : mcE (n1 : Int) h u ls = 0
    · have h1' : mcE (msN h u) h u ls = 0 := by rw [hn1]; exact h1
      obtain ⟨_, _, hXl, _, hM64'⟩ := mcE_ok.1 h1
      have hM64 : M ≤ 64 := by omega
      have HBAD := hid (fun (k : Nat) (s : SmpV) ha (hs : ls[k]? = some s) hn => mg_bad (f := f) h0 h1' ha hs hn)
      have HGOOD := hid (fun ha => mg_good (f := f) h0 h1' ha)
      rw [hM] at HGOOD
      have CME := hid (fun (A2 : Option Addr) (c2 : Nat) (W : World) (hr : RdRows W W.heap.size A2 (ls.map (mbV h u f))) => ref_Mean14 (A := A2) (c := c2) (M : Int) (by unfold I64; omega) (ls.map (mbV h u f)) (mb_rows f ls h0) (by rw [List.length_map]; omega) W hr)
      rw [h1] at CC
      obtain ⟨vV, hvV⟩ : ∃ v, mgV h u f ls = v := ⟨_, rfl⟩
      obtain ⟨vE, hvE⟩ : ∃ v, mgE h u f ls = v := ⟨_, rfl⟩
      rw [hvV, hvE] at HBAD HGOOD
      rw [hvV, hvE]
      have CO := hid (fun (s : SmpV) (hs : s ∈ ls) (Ax : Option Addr) (cx : Nat) (W : World) (h1 : Rd (Value.int .i64) W W.heap.size Aw u) (h2 : Rd (Value.int .i64) W W.heap.size Ax s.X) => ref_one16 (Au := Aw) (Ax := Ax) (cu := cw) (cx := cx) h ih u s hu hcw iu (by have := hXl s hs; omega) (hX s hs).1 (hX s hs).2.1 f W h1 h2)
      rw [hU] at CO
      have HLEN := hid (fun (s : SmpV) (hs : s ∈ ls) => (mb_rows f ls h0 _ (List.mem_map_of_mem hs)).2)
      have HM := hid hM
      have HM64 := hid hM64
      clear h1 h1' h0 hvV hvE hU hM ru ra hX iu hu hcw hl ih hrows hZl hr0 hr0l hRl hRr hR hn1 hn g1 g2 g3 g4 e0 hXl hM64'
      go_enter Try.func27, Try.ntmps27
      go_wp2_with fail
      refine CP.out.mono ?_
      rintro _ w1 ⟨A1, c1, B1, d1, rfl, ho1, _, _, hb1⟩
      obtain ⟨b, off, A0, c0, rfl, hb, hc, _⟩ := ho1.rd 0 r0 HR0.out
      rw [HRL0.out, Nat.add_zero] at hc
      rw [HR.out]
      have K1 := hid hb1
      clear ho1 hb1 CP
      go_wp2_with fail
      refine (CC.out _ (RA.out.on K1.out)).mono ?_
      rintro _ w2 ⟨rfl, hb2⟩
      have K2 : Hid (Below w.heap.size w w2) := hid (K1.out.trans (hb2.mono K1.out.size))
      have hMb : M ≤ 9223372036854775807 := by have := HM64.out; omega
      clear hb2 CC hc hb
      go_wp2_with fail
      clear hw1
      go_loopw [14, 16, 17, 18, 43] (fun xo _ _ _ xi wr => ∃ (k : Nat) (A2 : Option Addr) (c2 : Nat), k ≤ M ∧ xi = .int .i64 (k : Int) ∧ xo = .slice A2 k c2 ∧ (∀ x ∈ ls.take k, mbE h u f x = 0) ∧ OwnRw wr w.heap.size A2 c2 ((ls.take k).map (mbV h u f)) ∧ Below w.heap.size w wr) (fun _ _ _ _ xi _ => M - (intOf xi).toNat)
      case atStart => exact ⟨0, none, 0, Nat.zero_le _, rfl, rfl, fun x hx => by simp at hx, OwnRw.nil _ _, K2.out⟩
      case round =>
        obtain ⟨k, A2, c2, hk, rfl, rfl, hz, ho, hbel⟩ := hrel
        have HB := hid hbel
        have HZ := hid hz
        have HO := hid ho
        clear hz ho
        by_cases hlt : k < M
        · obtain ⟨b1, o1, s, Ax, cx, rfl, l1, en, q1, q2, rx⟩ := (RA.out.on hbel).at_ (k := k) (by rw [HM.out]; exact hlt)
          have hs : s ∈ ls := List.mem_of_getElem? en
          have HEN := hid en
          obtain ⟨w3, hw3⟩ : ∃ w3, wr.alloc (.cells #[.slice Ax s.X.length cx, .int .i64 s.Y] 24) = w3 := ⟨_, rfl⟩
          have hb3 : Below wr.heap.size wr w3 := by rw [← hw3]; exact (Below.refl _ _).alloc (Nat.le_refl _) _
          have m0 : w3.cell? ⟨wr.heap.size, 0, none⟩ = some (.slice Ax s.X.length cx) := by rw [← hw3]; simp [go_sem]
          have m1 : w3.cell? ⟨wr.heap.size, 1, none⟩ = some (.int .i64 s.Y) := by rw [← hw3]; simp [go_sem]
          have CO2 := hid (CO.out s hs Ax cx w3 ((RU.out.on hbel).on hb3) (rx.on hb3))
          have K3 : Hid (Below w.heap.size w w3) := hid (HB.out.trans (hb3.mono HB.out.size))
          have HO3 := hid (HO.out.on hb3)
          have hml := HLEN.out s hs
          have HMO : Hid (mbE h u f s = 0 → mbO h u f s = mbV h u f s) := hid (fun e => if_pos e)
          have HMN : Hid (mbE h u f s ≠ 0 → mbO h u f s = []) := hid (fun e => if_neg e)
          obtain ⟨V, hV⟩ : ∃ V, mbO h u f s = V := ⟨_, rfl⟩
          obtain ⟨E, hE⟩ : ∃ E, mbE h u f s = E := ⟨_, rfl⟩
          obtain ⟨N, hN⟩ : ∃ N, s.X.length = N := ⟨_, rfl⟩
          obtain ⟨Y, hY⟩ : ∃ Y, s.Y = Y := ⟨_, rfl⟩
          rw [hV, hE, hN, hY] at CO2
          rw [hV, hE] at HMO
          rw [hN] at q1 hw3 m0
          rw [hY] at q2 hw3 m1
          have HEE := hid hE
          have hw : IntKind.i64.wrap ((k : Int) + 1) = ((k + 1 : Nat) : Int) := Go.IntWalk.i64_in _ (by have := HM64.out; omega)
          have HW := hid hw
          have HKM := hid hlt
          clear hw en rx hs hV hE hN hY hb3 hbel
          by_cases hE0 : E = 0
          · subst hE0
            have hVV := HMO.out (by trivial)
            rw [← hVV] at hml
            have HVV := hid hVV
            clear hVV
            go_wp2_with fail
            refine CO2.out.mono ?_
            rintro _ w4 ⟨A4, c4, rfl, ho4, hb4⟩
            have HO4 := hid (HO3.out.on hb4)
            have K4 : Hid (Below w.heap.size w w4) := hid (K3.out.trans (hb4.mono K3.out.size))
            have HRX := hid (rdx_own (base := w.heap.size) ho4 K3.out.size (fun g hg => (HO3.out.lies g hg).2))
            have HC4 := hid (own_cap ho4)
            have g7 : Below w4.heap.size w4 (w4.alloc (.cells #[.slice A4 V.length c4] 22)) := (Below.refl _ _).alloc (Nat.le_refl _) _
            have HRX7 := hid (HRX.out.on g7)
            have r7 : Rd encS (w4.alloc (.cells #[.slice A4 V.length c4] 22)) _ (some ⟨w4.heap.size, 0, none⟩) [(A4, V.length, c4)] := rd_one (enc := encS) (one_cell w4 (.slice A4 V.length c4) 22).1
            obtain ⟨ps, hpl, hop, hpr⟩ := HO4.out.on g7
            have HPR := hid hpr
            have HPL := hid hpl
            have HPK : Hid (ps.length = k) := hid (by rw [hpl, List.length_map, List.length_take, HM.out]; have := HKM.out; omega)
            have K7 : Hid (Below w.heap.size w (w4.alloc (.cells #[.slice A4 V.length c4] 22))) := hid (K4.out.trans (g7.mono K4.out.size))
            have hz7 := K7.out.size
            have HTN : Hid (ls.take (k + 1) = ls.take k ++ [s]) := hid (by rw [List.take_add_one, HEN.out]; rfl)
            clear ho4 hb4 g7 hpr hpl HRX hw3 m0 m1 q1 q2
            go_wp2_with (at_builtin; refine wpList_app5 encS (fun _ => rfl) _ rfl _ _ 33 rfl w.heap.size 22 (.slice none 0 0) 24 Try.underlying33 info_row rfl ps A2 c2 (by rw [HPK.out]; rfl) hop [(A4, V.length, c4)] (some ⟨w4.heap.size, 0, none⟩) 1 _ rfl r7 (by have := HPK.out; have := HKM.out; have := HM64.out; simp [maxLen]; omega) (by have := HPK.out; have := HKM.out; have := HM64.out; simp; omega) hz7 ?_)
            rintro S A8 c8 w8 hS ho8 hb8 hg8 hq8
            have HN8 := hid (OwnRw.app HPL.out HPR.out (p := (A4, V.length, c4)) ⟨rfl, HC4.out⟩ HRX7.out hS ho8 hg8 (by simpa using hq8))
            have hSl : S.length = k + 1 := by rw [hS, List.length_append, HPK.out]; rfl
            rw [hSl]
            have K8 : Hid (Below w.heap.size w w8) := hid (K7.out.trans hb8)
            have hw := HW.out
            clear hS ho8 hb8 hg8 hq8 hSl r7 hop hz7
            go_wp2_with fail
            go_roundw
            case rel =>
              refine ⟨k + 1, A8, c8, HKM.out, rfl, rfl, ?_, ?_, K8.out⟩
              · exact take_all HZ.out HEN.out HEE.out
              · rw [HTN.out, List.map_append]
                have := HN8.out
                rw [HVV.out] at this
                exact this
            case measure => have := HKM.out; (try clear hw); simp [intOf]; omega
          · have hne : (E != 0) = true := by simpa using hE0
            obtain ⟨e1, e2⟩ := HBAD.out k s HZ.out HEN.out (by rw [HEE.out]; exact hE0)
            rw [HEE.out] at e1
            subst e2
            subst e1
            clear hE0
            go_wp2_with fail
            refine CO2.out.mono ?_
            rintro _ w4 ⟨A4, c4, rfl, ho4, hb4⟩
            have K4 : Hid (Below w.heap.size w w4) := hid (K3.out.trans (hb4.mono K3.out.size))
            clear hb4 ho4 hw3 m0 m1 q1 q2
            go_wp2_with fail
            go_ret2
            exact ⟨none, 0, rfl, own_nil _ _ _, K4.out⟩
        · obtain rfl : k = M := by omega
          have htk : ls.take k = ls := List.take_of_length_le (by rw [HM.out]; exact Nat.le_refl _)
          rw [htk] at HZ HO
          obtain ⟨rfl, rfl⟩ := HGOOD.out HZ.out
          have CM2 := hid (CME.out A2 c2 wr HO.out.rd)
          have hll : (ls.map (mbV h u f)).length = k := by rw [List.length_map]; exact HM.out
          rw [hll] at CM2
          clear hll htk hbel
          go_wp2_with fail
          refine CM2.out.mono ?_
          rintro _ w3 ⟨A3, c3, rfl, ho3, hb3⟩
          have HO3 := hid ho3
          have K3 : Hid (Below w.heap.size w w3) := hid (HB.out.trans (hb3.mono HB.out.size))
          clear ho3
          go_wp2_with fail
          go_ret2
          exact ⟨A3, c3, rfl, own_base HO3.out HB.out.size, K3.out⟩
    · obtain ⟨e1, e2⟩ := mg_off2 (f := f) h0 (by rw [hn1]; exact h1)
      rw [e1, e2, hn1]
      obtain ⟨E, hE⟩ : ∃ E, mcE (n1 : Int) h u ls = E := ⟨_, rfl⟩
      rw [hE] at CC h1 ⊢
      have hne : (E != 0) = true := by simpa using h1
      clear h1 h0 e1 e2 hE hU hM ru ra hX iu hu hcw hl ih hrows hZl hr0 hr0l hRl hRr hR hn1 hn g1 g2 g3 g4 e0
      go_enter Try.func27, Try.ntmps27
      go_wp2_with fail
      refine CP.out.mono ?_
      rintro _ w1 ⟨A1, c1, B1, d1, rfl, ho1, _, _, hb1⟩
      obtain ⟨b, off, A0, c0, rfl, hb, hc, _⟩ := ho1.rd 0 r0 HR0.out
      rw [HRL0.out, Nat.add_zero] at hc
      rw [HR.out]
      have K1 := hid hb1
      clear ho1 hb1 CP
      go_wp2_with fail
      refine (CC.out _ (RA.out.on K1.out)).mono ?_
      rintro _ w2 ⟨rfl, hb2⟩
      have K2 : Hid (Below w.heap.size w w2) := hid (K1.out.trans (hb2.mono K1.out.size))
      clear hb2 CC hc hb
      go_wp2_with fail
      go_ret2
      exact ⟨none, 0, rfl, own_nil _ _ _, K2.out⟩
  · obtain ⟨e1, e2⟩ := mg_off1 (f := f) (ls := ls) h0
    rw [e1, e2]
    obtain ⟨E, hE⟩ : ∃ E, msE h u = E := ⟨_, rfl⟩
    rw [hE] at CP h0 ⊢
    have hne : (E != 0) = true := by simpa using h0
    rw [hU] at CP ⊢
    rw [hM]
    clear h0 e1 e2 hE hU hM ru ra hX iu hu hcw hl ih
    go_enter Try.func27, Try.ntmps27
    go_wp2_with fail
    refine CP.out.mono ?_
    rintro _ w1 ⟨A1, c1, B1, d1, rfl, ho1, _, _, hb1⟩
    have K1 := hid hb1
    clear ho1 hb1 CP
    go_wp2_with fail
    go_ret2
    exact ⟨none, 0, rfl, own_nil _ _ _, K1.out⟩
end Go.Proofs.Ytekpejemfkjhcaa
/- Lines, by the landed code: vectors' mean, made in place. -/
namespace Go.Proofs.Ytekpejemfkjhcaa
open Go.RowKit
set_option maxHeartbeats 2000000
set_option maxRecDepth 100000
set_option linter.unusedVariables false
theorem mean_at {Q S : List Int} {k : Nat} {x : Int} (hl : Q.length = S.length) (hx : S[k]? = some x) : (Q.take k ++ S.drop k)[k]? = some x := by
  have hk : k < S.length := (List.getElem?_eq_some_iff.1 hx).1
  rw [List.getElem?_append_right (by rw [List.length_take]; omega), List.length_take, Nat.min_eq_left (by omega), Nat.sub_self, List.getElem?_drop, Nat.add_zero, hx]
theorem mean_set {Q S : List Int} {k : Nat} {q : Int} (hl : Q.length = S.length) (hq : Q[k]? = some q) : (Q.take k ++ S.drop k).set k q = Q.take (k + 1) ++ S.drop (k + 1) := by
  have hk : k < Q.length := (List.getElem?_eq_some_iff.1 hq).1
  rw [List.set_append_right _ _ (by rw [List.length_take]; omega), List.length_take, Nat.min_eq_left (by omega), Nat.sub_self, List.take_add_one, hq, List.drop_eq_getElem_cons (by omega : k < S.length), List.set_cons_zero]
  simp only [Option.toList_some, List.append_assoc, List.singleton_append]
theorem ln_Mean {A : Option Addr} {c : Nat} (n : Int) (hn : I64 n) (rows : List (List Int)) (ho : RowsOk rows) (hr : rows.length ≤ 1099511627776) (hcap : rows.length ≤ c) (w : World) (ra : RdRows w w.heap.size A rows) :
    Calls Try.prog 42 #[.int .i64 n, .slice A rows.length c] w (OwnInts (lmV n rows) (lmE n rows) w) := by
  have CS := hid (Sum_any A c rows ho hr hcap w ra)
  obtain ⟨R, hR⟩ : ∃ R, rows.length = R := ⟨_, rfl⟩
  by_cases h1 : n < 1
  · have e1 : lmE n rows = 1 := if_pos h1
    have e2 : lmV n rows = [] := if_neg (by rw [e1]; decide)
    rw [e1, e2]
    rw [hR]
    clear e1 e2 ra ho hR hcap
    go_enter Try.func42, Try.ntmps42
    go_wp2_with fail
    go_ret2
    exact ⟨none, 0, rfl, own_nil _ _ _, Below.refl _ _⟩
  · have eE : lmE n rows = (sumAll rows).2 := if_neg h1
    have hl := sumAll_len ho
    have hi := sumAll_i64 ho
    by_cases h2 : (sumAll rows).2 = 0
    · have eV : lmV n rows = (sumAll rows).1.map fun x => x / n := if_pos (by rw [eE]; exact h2)
      rw [eE, eV]
      rw [h2] at CS ⊢
      obtain ⟨S, hS⟩ : ∃ S, (sumAll rows).1 = S := ⟨_, rfl⟩
      rw [hS] at CS hl hi ⊢
      obtain ⟨M, hM⟩ : ∃ M, S.length = M := ⟨_, rfl⟩
      have HM := hid hM
      have HI := hid hi
      have HN := hid hn
      have hn1 : 1 ≤ n := by omega
      have HN1 := hid hn1
      rw [hM] at hl
      have HL := hid hl
      obtain ⟨Q, hQ⟩ : ∃ Q, (S.map fun x => x / n) = Q := ⟨_, rfl⟩
      have HQ := hid hQ
      have HQl : Hid (Q.length = M) := hid (by rw [← hQ, List.length_map]; exact hM)
      rw [hQ]
      rw [hR] at CS ⊢
      clear eE eV h2 hS hi ra ho hQ hn hl hcap
      go_enter Try.func42, Try.ntmps42
      go_wp2_with fail
      refine CS.out.mono ?_
      rintro _ w1 ⟨A1, c1, rfl, ho1, hb1⟩
      rw [HM.out] at ho1 ⊢
      have HO1 := hid ho1
      have K1 := hid hb1
      clear ho1 hb1 hM
      go_wp2_with fail
      have hl := HL.out
      go_loopw [8, 9, 22] (fun _ _ xi wr => ∃ (k : Nat) (T : List Int), k ≤ M ∧ xi = .int .i64 (k : Int) ∧ T = Q.take k ++ S.drop k ∧ wr.ownsRow w.heap.size 2 1 (.slice A1 M c1) M (T.map (Value.int .i64)) ∧ Below w.heap.size w wr) (fun _ _ xi _ => M - (intOf xi).toNat)
      case atStart => exact ⟨0, S, Nat.zero_le _, rfl, rfl, HO1.out, K1.out⟩
      case round =>
        obtain ⟨k, T, hk, rfl, hT, ho, hbel⟩ := hrel
        have HT := hid hT
        have HO := hid ho
        have HB := hid hbel
        clear hT ho HO1 K1
        by_cases hlt : k < M
        · obtain ⟨x, en⟩ : ∃ x, S[k]? = some x := ⟨_, List.getElem?_eq_getElem (by rw [HM.out]; exact hlt)⟩
          have ix : I64 x := HI.out.at_ en
          obtain ⟨u1, u2⟩ := ln_quo ix HN1.out
          have CQ := hid (fix_Quot x n ix HN.out (by have := HN1.out; omega) wr)
          rw [u1, u2] at CQ
          obtain ⟨q, hq⟩ : ∃ q, x / n = q := ⟨_, rfl⟩
          rw [hq] at CQ
          have hqn : Q[k]? = some q := by rw [← HQ.out, List.getElem?_map, en, ← hq]; rfl
          have hlen : Q.length = S.length := by rw [HQl.out, HM.out]
          have hTk : T[k]? = some x := by rw [HT.out]; exact mean_at hlen en
          have HTS := hid (mean_set hlen hqn)
          have hTl : k < T.length := (List.getElem?_eq_some_iff.1 hTk).1
          obtain ⟨g, rfl, hg, hc, hf⟩ := own_cellk HO.out hTl
          rw [getD_of hTk] at hc
          have hgl : g < wr.heap.size := own_lt HO.out
          clear en ix u1 u2 hq hqn hlen hTk hbel
          go_wp2_with fail
          refine CQ.out.mono ?_
          rintro _ w4 ⟨rfl, hb4⟩
          have hc4 := (hb4.cell (p := ⟨g, k, none⟩) hgl).trans hc
          have hf4 : w4.frozen? ⟨g, k, none⟩ = false := ((bcells hb4).2 g k hgl).trans hf
          have HO4 := hid (own_on HO.out hb4)
          have K4 : Hid (Below w.heap.size w w4) := hid (HB.out.trans (hb4.mono HB.out.size))
          clear hb4 hc hf CQ
          go_wp2_with fail
          go_roundw
          case rel =>
            refine ⟨k + 1, T.set k q, by omega, by go_num, by rw [HT.out, HTS.out], ?_, K4.out.setCell hg _⟩
            have := (HO4.out.stored k (.int .i64 q)).1
            rwa [← List.map_set] at this
          case measure => simp [intOf]; omega
        · obtain rfl : k = M := by omega
          have hTQ : T = Q := by rw [HT.out, List.take_of_length_le (by rw [HQl.out]; exact Nat.le_refl _), List.drop_of_length_le (by rw [HM.out]; exact Nat.le_refl _), List.append_nil]
          subst hTQ
          clear hbel
          go_wp2_with fail
          go_ret2
          have hf := HO.out
          refine ⟨A1, c1, by rw [HQl.out]; rfl, by rw [HQl.out]; exact hf, HB.out⟩
    · have eV : lmV n rows = [] := if_neg (by rw [eE]; exact h2)
      rw [eE, eV]
      obtain ⟨E, hE⟩ : ∃ E, (sumAll rows).2 = E := ⟨_, rfl⟩
      rw [hE] at CS h2 ⊢
      have hne : (E != 0) = true := by simpa using h2
      rw [hR] at CS ⊢
      have hn1 : ¬ n < 1 := h1
      clear eE eV hE h2 ra ho hi hl hR hcap
      go_enter Try.func42, Try.ntmps42
      go_wp2_with fail
      refine CS.out.mono ?_
      rintro _ w1 ⟨A1, c1, rfl, ho1, hb1⟩
      clear ho1
      go_wp2_with fail
      go_ret2
      exact ⟨none, 0, rfl, own_nil _ _ _, hb1⟩
end Go.Proofs.Ytekpejemfkjhcaa
