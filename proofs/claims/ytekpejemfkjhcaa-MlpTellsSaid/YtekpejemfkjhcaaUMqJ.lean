
/- UMqJ: texts joined: MqJ. -/
import Derived.Test.YtekpejemfkjhcaaUe
import Derived.Test.YtekpejemfkjhcaaUd
/- Two layers, by the landed code: how they are to be bent. -/
namespace Go.Proofs.Ytekpejemfkjhcaa
open Go.RowKit
set_option maxHeartbeats 4000000
set_option maxRecDepth 100000
set_option linter.unusedVariables false
theorem ml_Grad {Aw A : Option Addr} {cw c : Nat} (h : Int) (ih : I64 h) (u : List Int) (hu : u.length ≤ cw) (hcw : cw ≤ 9223372036854775807) (iu : I64s u) (f : Int) (ls : List SmpV) (hl : ls.length ≤ 9223372036854775807) (hX : ∀ s ∈ ls, I64s s.X ∧ I64 s.Y ∧ s.X.length ≤ 9223372036854775807) (w : World)
    (ru : Rd (Value.int .i64) w w.heap.size Aw u) (ra : RdSm w w.heap.size A ls) :
    Calls Try.prog 26 #[.int .i64 h, .slice Aw u.length cw, .int .i64 f, .slice A ls.length c] w (OwnInts (mgV h u f ls) (mgE h u f ls) w) := by
  obtain ⟨U, hU⟩ : ∃ U, u.length = U := ⟨_, rfl⟩
  obtain ⟨M, hM⟩ : ∃ M, ls.length = M := ⟨_, rfl⟩
  by_cases h0 : msE h u = 0
  · obtain ⟨⟨g1, g2⟩, ⟨g3, g4⟩, _⟩ := msE_ok.1 h0
    obtain ⟨O, rfl⟩ : ∃ O : Nat, h = (O : Int) := ⟨h.toNat, by omega⟩
    have CP := hid (mq_split_ok (Au := Aw) (cu := cw) O u hu hcw h0 w ru)
    obtain ⟨n1, hn1⟩ : ∃ n, msN (O : Int) u = n := ⟨_, rfl⟩
    rw [hn1] at g3 g4
    have CSE := hid (fun (Az Aa : Option Addr) (cz ca : Nat) (W : World) (hn : NetR W (O : Int) u Az cz Aa) => mq_sees (Az := Az) (cz := cz) (Aa := Aa) (ca := ca) (Z := O + 1) O u h0 W hn)
    rw [hn1] at CSE
    have CC := hid (fun W hr => ml_Check (Aw := Aw) (A := A) (cw := cw) (c := c) (n1 : Int) (O : Int) (by unfold I64; omega) ih u (Nat.le_trans hu hcw) hu ls hl (fun s hs => (hX s hs).2.2) W hr)
    have RU := hid ru
    have RA := hid ra
    rw [hU] at CP CC ⊢
    rw [hM] at CC ⊢
    by_cases h1 : mcE (n1 : Int) (O : Int) u ls = 0
    · have h1' : mcE (msN (O : Int) u) (O : Int) u ls = 0 := by rw [hn1]; exact h1
      obtain ⟨_, _, hXl, _, hM64'⟩ := mcE_ok.1 h1
      have hM64 : M ≤ 64 := by omega
      have HBAD := hid (fun (k : Nat) (s : SmpV) ha (hs : ls[k]? = some s) hn => mg_bad (f := f) h0 h1' ha hs hn)
      have HGOOD := hid (fun ha => mg_good (f := f) h0 h1' ha)
      rw [hM] at HGOOD
      have CME := hid (fun (A2 : Option Addr) (c2 : Nat) (W : World) (hcap : (ls.map (mbV (O : Int) u f)).length ≤ c2) (hr : RdRows W W.heap.size A2 (ls.map (mbV (O : Int) u f))) => ln_Mean (A := A2) (c := c2) (M : Int) (by unfold I64; omega) (ls.map (mbV (O : Int) u f)) (mb_rows f ls h0) (by rw [List.length_map]; omega) hcap W hr)
      rw [h1] at CC
      obtain ⟨vV, hvV⟩ : ∃ v, mgV (O : Int) u f ls = v := ⟨_, rfl⟩
      obtain ⟨vE, hvE⟩ : ∃ v, mgE (O : Int) u f ls = v := ⟨_, rfl⟩
      rw [hvV, hvE] at HBAD HGOOD
      rw [hvV, hvE]
      have CO := hid (fun (s : SmpV) (hs : s ∈ ls) (Az Aa Ax : Option Addr) (cz ca cx : Nat) (W : World) (h1 : NetR W (O : Int) u Az cz Aa) (h2 : Rd (Value.int .i64) W W.heap.size Ax s.X) => mq_bend (Az := Az) (Aa := Aa) (Ax := Ax) (cz := cz) (ca := ca) (cx := cx) O u s h0 iu (by have := hXl s hs; omega) (hX s hs).1 (hX s hs).2.1 f W h1 h2)
      have HLEN := hid (fun (s : SmpV) (hs : s ∈ ls) => (mb_rows f ls h0 _ (List.mem_map_of_mem hs)).2)
      have hmk := fun W => run_room (P := Try.prog) 33 22 (.slice none 0 0) 24 Try.underlying33 info_row rfl M (by omega) (by omega) W
      have HM := hid hM
      have HM64 := hid hM64
      clear h1 h1' h0 hvV hvE hU hM ru ra hX iu hu hcw hl ih hn1 g1 g2 g3 g4 hXl hM64'
      go_enter Try.func26, Try.ntmps26
      go_wp2_with fail
      refine CP.out.mono ?_
      rintro _ w1 ⟨Az, cz, Aa, ca, rfl, hn, hb1⟩
      obtain ⟨w2, hw2, hz2, hb2, g0, g1, g2⟩ := net_box w1 (.slice Az (O + 1) cz) (.int .i64 (O : Int)) (.slice Aa O ca) 55
      have K2 : Hid (Below w.heap.size w w2) := hid (hb1.trans (hb2.mono hb1.size))
      have HN2 := hid (hn.on hb2)
      have hl2 : w1.heap.size < w2.heap.size := by omega
      have HL2 := hid hl2
      have CSE2 := hid (fun (W : World) (hb : Below w2.heap.size w2 W) => CSE.out Az Aa cz ca W (HN2.out.on hb))
      have CC2 := hid (fun (W : World) (hb : Below w2.heap.size w2 W) => CC.out W ((RA.out.on K2.out).on hb))
      have G0 := hid g0
      have G1 := hid g1
      have G2 := hid g2
      clear hn hb1 hb2 hz2 CP CSE CC
      go_wp2_with fail
      go_region_held3 (fun w' => w'.cell? ⟨w1.heap.size, 0, none⟩ = some (.slice Az (O + 1) cz) ∧ w'.cell? ⟨w1.heap.size, 1, none⟩ = some (.int .i64 (O : Int)) ∧ w'.cell? ⟨w1.heap.size, 2, none⟩ = some (.slice Aa O ca) ∧ Below w2.heap.size w2 w') (first | exact ⟨g0, g1, g2, (Below.refl _ _).drew⟩ | (have hj := below_step ((Below.refl w2.heap.size w2).drew) ha (Nat.le_refl _); have hk := hj.trans (hc.mono hj.size); exact ⟨(hk.cell hl2).trans g0, (hk.cell hl2).trans g1, (hk.cell hl2).trans g2, hk⟩) | (have hk := below_step ((Below.refl _ _).drew) ha (Nat.le_refl _); exact ⟨(hk.cell hl2).trans g0, (hk.cell hl2).trans g1, (hk.cell hl2).trans g2, hk⟩) | go_keep)
        (first | (go_at_call 40; refine (CSE2.out _ (by go_grown)).mono ?_; rintro _ wa ⟨rfl, ha⟩) | (go_at_call 24; refine (CC2.out _ (below_step ((Below.refl _ _).drew) ha (Nat.le_refl _))).mono ?_; rintro _ wc ⟨rfl, hc⟩) | fail)
      have hj := below_step ((Below.refl w2.heap.size w2).drew) ha (Nat.le_refl _)
      have W3 : Hid (Below w2.heap.size w2 wc) := hid (hj.trans (hc.mono hj.size))
      have K3 : Hid (Below w.heap.size w wc) := hid (K2.out.trans (W3.out.mono K2.out.size))
      have HRO := hid (own_room wc 22 (.slice none 0 0) M (by have := HM64.out; unfold maxLen; omega) (B := w2.heap.size) W3.out.size)
      clear hj ha hc hw2 g0 g1 g2 hl2 CSE2 CC2
      go_wp2_with fail
      clear hmk
      go_loopw [13, 15, 16, 17, 43] (fun xo _ _ _ xi wr => ∃ (k : Nat) (A2 : Option Addr) (c2 : Nat), k ≤ M ∧ xi = .int .i64 (k : Int) ∧ xo = .slice A2 k c2 ∧ (∀ x ∈ ls.take k, mbE (O : Int) u f x = 0) ∧ OwnRw wr w2.heap.size A2 c2 ((ls.take k).map (mbV (O : Int) u f)) ∧ Below w2.heap.size w2 wr) (fun _ _ _ _ xi _ => M - (intOf xi).toNat)
      case atStart => exact ⟨0, _, _, Nat.zero_le _, rfl, rfl, fun x hx => by simp at hx, OwnRw.room HRO.out, W3.out.alloc W3.out.size _⟩
      case round =>
        obtain ⟨k, A2, c2, hk, rfl, rfl, hz, ho, hbel⟩ := hrel
        have HB := hid hbel
        have HZ := hid hz
        have HO := hid ho
        have KR : Hid (Below w.heap.size w wr) := hid (K2.out.trans (hbel.mono K2.out.size))
        clear hz ho
        by_cases hlt : k < M
        · obtain ⟨b1, o1, s, Ax, cx, rfl, l1, en, q1, q2, rx⟩ := (RA.out.on KR.out).at_ (k := k) (by rw [HM.out]; exact hlt)
          have hs : s ∈ ls := List.mem_of_getElem? en
          have HEN := hid en
          obtain ⟨w3, hw3⟩ : ∃ w3, wr.alloc (.cells #[.slice Ax s.X.length cx, .int .i64 s.Y] 24) = w3 := ⟨_, rfl⟩
          have hb3 : Below wr.heap.size wr w3 := by rw [← hw3]; exact (Below.refl _ _).alloc (Nat.le_refl _) _
          have m0 : w3.cell? ⟨wr.heap.size, 0, none⟩ = some (.slice Ax s.X.length cx) := by rw [← hw3]; simp [go_sem]
          have m1 : w3.cell? ⟨wr.heap.size, 1, none⟩ = some (.int .i64 s.Y) := by rw [← hw3]; simp [go_sem]
          have K3 : Hid (Below w2.heap.size w2 w3) := hid (HB.out.trans (hb3.mono HB.out.size))
          have CO2 := hid (CO.out s hs Az Aa Ax cz ca cx w3 (HN2.out.on K3.out) (rx.on hb3))
          have HO3 := hid (HO.out.on hb3)
          have KW3 : Hid (Below w.heap.size w w3) := hid (KR.out.trans (hb3.mono KR.out.size))
          have g0' := (K3.out.cell (p := ⟨w1.heap.size, 0, none⟩) HL2.out).trans G0.out
          have g1' := (K3.out.cell (p := ⟨w1.heap.size, 1, none⟩) HL2.out).trans G1.out
          have g2' := (K3.out.cell (p := ⟨w1.heap.size, 2, none⟩) HL2.out).trans G2.out
          have hml := HLEN.out s hs
          have HMO : Hid (mbE (O : Int) u f s = 0 → mbO (O : Int) u f s = mbV (O : Int) u f s) := hid (fun e => if_pos e)
          have HMN : Hid (mbE (O : Int) u f s ≠ 0 → mbO (O : Int) u f s = []) := hid (fun e => if_neg e)
          obtain ⟨V, hV⟩ : ∃ V, mbO (O : Int) u f s = V := ⟨_, rfl⟩
          obtain ⟨E, hE⟩ : ∃ E, mbE (O : Int) u f s = E := ⟨_, rfl⟩
          obtain ⟨N, hN⟩ : ∃ N, s.X.length = N := ⟨_, rfl⟩
          obtain ⟨Y, hY⟩ : ∃ Y, s.Y = Y := ⟨_, rfl⟩
          rw [hV, hE, hN, hY] at CO2
          rw [hV, hE] at HMO
          rw [hN] at q1 hw3 m0
          rw [hY] at q2 hw3 m1
          have HEE := hid hE
          have hw : IntKind.i64.wrap ((k : Int) + 1) = ((k + 1 : Nat) : Int) := Go.IntWalk.i64_in _ (by have := HM64.out; omega)
          have HW := hid hw
          have HKM := hid hlt
          clear hw en rx hs hV hE hN hY hb3 hbel
          by_cases hE0 : E = 0
          · subst hE0
            have hVV := HMO.out (by trivial)
            rw [← hVV] at hml
            have HVV := hid hVV
            clear hVV
            go_wp2_with fail
            refine CO2.out.mono ?_
            rintro _ w4 ⟨A4, c4, rfl, ho4, hb4⟩
            have HO4 := hid (HO3.out.on hb4)
            have K4 : Hid (Below w2.heap.size w2 w4) := hid (K3.out.trans (hb4.mono K3.out.size))
            have HRX := hid (rdx_own (base := w2.heap.size) ho4 K3.out.size (fun g hg => (HO3.out.lies g hg).2))
            have HC4 := hid (own_cap ho4)
            have g7 : Below w4.heap.size w4 (w4.alloc (.cells #[.slice A4 V.length c4] 22)) := (Below.refl _ _).alloc (Nat.le_refl _) _
            have HRX7 := hid (HRX.out.on g7)
            have r7 : Rd encS (w4.alloc (.cells #[.slice A4 V.length c4] 22)) _ (some ⟨w4.heap.size, 0, none⟩) [(A4, V.length, c4)] := rd_one (enc := encS) (one_cell w4 (.slice A4 V.length c4) 22).1
            obtain ⟨ps, hpl, hop, hpr⟩ := HO4.out.on g7
            have HPR := hid hpr
            have HPL := hid hpl
            have HPK : Hid (ps.length = k) := hid (by rw [hpl, List.length_map, List.length_take, HM.out]; have := HKM.out; omega)
            have K7 : Hid (Below w2.heap.size w2 (w4.alloc (.cells #[.slice A4 V.length c4] 22))) := hid (K4.out.trans (g7.mono K4.out.size))
            have hz7 := K7.out.size
            have HTN : Hid (ls.take (k + 1) = ls.take k ++ [s]) := hid (by rw [List.take_add_one, HEN.out]; rfl)
            clear ho4 hb4 g7 hpr hpl HRX hw3 m0 m1 q1 q2 g0' g1' g2'
            go_wp2_with (at_builtin; refine wpList_app5 encS (fun _ => rfl) _ rfl _ _ 33 rfl w2.heap.size 22 (.slice none 0 0) 24 Try.underlying33 info_row rfl ps A2 c2 (by rw [HPK.out]; rfl) hop [(A4, V.length, c4)] (some ⟨w4.heap.size, 0, none⟩) 1 _ rfl r7 (by have := HPK.out; have := HKM.out; have := HM64.out; simp [maxLen]; omega) (by have := HPK.out; have := HKM.out; have := HM64.out; simp; omega) hz7 ?_)
            rintro S A8 c8 w8 hS ho8 hb8 hg8 hq8
            have HN8 := hid (OwnRw.app HPL.out HPR.out (p := (A4, V.length, c4)) ⟨rfl, HC4.out⟩ HRX7.out hS ho8 hg8 (by simpa using hq8))
            have hSl : S.length = k + 1 := by rw [hS, List.length_append, HPK.out]; rfl
            rw [hSl]
            have K8 : Hid (Below w2.heap.size w2 w8) := hid (K7.out.trans hb8)
            have hw := HW.out
            clear hS ho8 hb8 hg8 hq8 hSl r7 hop hz7
            go_wp2_with fail
            go_roundw
            case rel =>
              refine ⟨k + 1, A8, c8, HKM.out, rfl, rfl, ?_, ?_, K8.out⟩
              · exact take_all HZ.out HEN.out HEE.out
              · rw [HTN.out, List.map_append]
                have := HN8.out
                rw [HVV.out] at this
                exact this
            case measure => have := HKM.out; (try clear hw); simp [intOf]; omega
          · have hne : (E != 0) = true := by simpa using hE0
            obtain ⟨e1, e2⟩ := HBAD.out k s HZ.out HEN.out (by rw [HEE.out]; exact hE0)
            rw [HEE.out] at e1
            subst e2
            subst e1
            clear hE0
            go_wp2_with fail
            refine CO2.out.mono ?_
            rintro _ w4 ⟨A4, c4, rfl, ho4, hb4⟩
            have K4 : Hid (Below w.heap.size w w4) := hid (KW3.out.trans (hb4.mono KW3.out.size))
            clear hb4 ho4 hw3 m0 m1 q1 q2 g0' g1' g2'
            go_wp2_with fail
            go_ret2
            exact ⟨none, 0, rfl, own_nil _ _ _, K4.out⟩
        · obtain rfl : k = M := by omega
          have htk : ls.take k = ls := List.take_of_length_le (by rw [HM.out]; exact Nat.le_refl _)
          rw [htk] at HZ HO
          obtain ⟨rfl, rfl⟩ := HGOOD.out HZ.out
          have CM2 := hid (CME.out A2 c2 wr HO.out.cap.1 HO.out.rd)
          have hll : (ls.map (mbV (O : Int) u f)).length = k := by rw [List.length_map]; exact HM.out
          rw [hll] at CM2
          clear hll htk hbel
          go_wp2_with fail
          refine CM2.out.mono ?_
          rintro _ w3 ⟨A3, c3, rfl, ho3, hb3⟩
          have HO3 := hid ho3
          have K3 : Hid (Below w.heap.size w w3) := hid (KR.out.trans (hb3.mono KR.out.size))
          clear ho3
          go_wp2_with fail
          go_ret2
          exact ⟨A3, c3, rfl, own_base HO3.out KR.out.size, K3.out⟩
    · obtain ⟨e1, e2⟩ := mg_off2 (f := f) h0 (by rw [hn1]; exact h1)
      rw [e1, e2, hn1]
      obtain ⟨E, hE⟩ : ∃ E, mcE (n1 : Int) (O : Int) u ls = E := ⟨_, rfl⟩
      rw [hE] at CC h1 ⊢
      have hne : (E != 0) = true := by simpa using h1
      clear h1 h0 e1 e2 hE hU hM ru ra hX iu hu hcw hl ih hn1 g1 g2 g3 g4
      go_enter Try.func26, Try.ntmps26
      go_wp2_with fail
      refine CP.out.mono ?_
      rintro _ w1 ⟨Az, cz, Aa, ca, rfl, hn, hb1⟩
      obtain ⟨w2, hw2, hz2, hb2, g0, g1, g2⟩ := net_box w1 (.slice Az (O + 1) cz) (.int .i64 (O : Int)) (.slice Aa O ca) 55
      have K2 : Hid (Below w.heap.size w w2) := hid (hb1.trans (hb2.mono hb1.size))
      have HN2 := hid (hn.on hb2)
      have hl2 : w1.heap.size < w2.heap.size := by omega
      have CSE2 := hid (fun (W : World) (hb : Below w2.heap.size w2 W) => CSE.out Az Aa cz ca W (HN2.out.on hb))
      have CC2 := hid (fun (W : World) (hb : Below w2.heap.size w2 W) => CC.out W ((RA.out.on K2.out).on hb))
      clear hn hb1 hb2 hz2 CP CSE CC
      go_wp2_with fail
      go_region_held3 (fun w' => w'.cell? ⟨w1.heap.size, 0, none⟩ = some (.slice Az (O + 1) cz) ∧ w'.cell? ⟨w1.heap.size, 1, none⟩ = some (.int .i64 (O : Int)) ∧ w'.cell? ⟨w1.heap.size, 2, none⟩ = some (.slice Aa O ca) ∧ Below w2.heap.size w2 w') (first | exact ⟨g0, g1, g2, (Below.refl _ _).drew⟩ | (have hj := below_step ((Below.refl w2.heap.size w2).drew) ha (Nat.le_refl _); have hk := hj.trans (hc.mono hj.size); exact ⟨(hk.cell hl2).trans g0, (hk.cell hl2).trans g1, (hk.cell hl2).trans g2, hk⟩) | (have hk := below_step ((Below.refl _ _).drew) ha (Nat.le_refl _); exact ⟨(hk.cell hl2).trans g0, (hk.cell hl2).trans g1, (hk.cell hl2).trans g2, hk⟩) | go_keep)
        (first | (go_at_call 40; refine (CSE2.out _ (by go_grown)).mono ?_; rintro _ wa ⟨rfl, ha⟩) | (go_at_call 24; refine (CC2.out _ (below_step ((Below.refl _ _).drew) ha (Nat.le_refl _))).mono ?_; rintro _ wc ⟨rfl, hc⟩) | fail)
      have hj := below_step ((Below.refl w2.heap.size w2).drew) ha (Nat.le_refl _)
      have W3 : Hid (Below w2.heap.size w2 wc) := hid (hj.trans (hc.mono hj.size))
      have K3 : Hid (Below w.heap.size w wc) := hid (K2.out.trans (W3.out.mono K2.out.size))
      clear hj ha hc hw2 g0 g1 g2 hl2 CSE2 CC2
      go_wp2_with fail
      go_ret2
      exact ⟨none, 0, rfl, own_nil _ _ _, K3.out⟩
  · obtain ⟨e1, e2⟩ := mg_off1 (f := f) (ls := ls) h0
    rw [e1, e2]
    have CP := hid (mq_split_bad (Au := Aw) (cu := cw) h ih u hu hcw h0 w)
    obtain ⟨E, hE⟩ : ∃ E, msE h u = E := ⟨_, rfl⟩
    rw [hE] at CP h0 ⊢
    have hne : (E != 0) = true := by simpa using h0
    rw [hU] at CP ⊢
    rw [hM]
    clear h0 e1 e2 hE hU hM ru ra hX iu hu hcw hl ih
    go_enter Try.func26, Try.ntmps26
    go_wp2_with fail
    refine CP.out.mono ?_
    rintro _ w1 ⟨rfl, hb1⟩
    have K1 := hid hb1
    clear hb1 CP
    go_wp2_with fail
    go_ret2
    exact ⟨none, 0, rfl, own_nil _ _ _, K1.out.alloc K1.out.size _⟩
end Go.Proofs.Ytekpejemfkjhcaa
