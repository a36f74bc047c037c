
/- Ud: texts joined: MqE MqF MqG RefD LnD LnE MqD. -/
import Derived.Test.YtekpejemfkjhcaaUMqC
import Derived.Test.YtekpejemfkjhcaaUc
import Derived.Test.YtekpejemfkjhcaaUOver
import Derived.Deep.QuietTactic
import Derived.BigQuiet
import Derived.Test.YtekpejemfkjhcaaUb
import Derived.Test.YtekpejemfkjhcaaUa
/- Two layers, by the landed code: what is hidden. -/
namespace Go.Proofs.Ytekpejemfkjhcaa
open Go.RowKit
set_option maxHeartbeats 4000000
set_option maxRecDepth 100000
set_option linter.unusedVariables false
theorem mq_hide {Az Aa Ax : Option Addr} {cz ca cx : Nat} (O : Nat) (u x : List Int) (h1 : msE (O : Int) u = 0) (iu : I64s u) (hx : x.length ≤ 1099511627776) (ix : I64s x) (f : Int) (w : World)
    (hn : NetR w (O : Int) u Az cz Aa) (rx : Rd (Value.int .i64) w w.heap.size Ax x) :
    Calls Try.prog 31 #[.agg #[.slice Az (O + 1) cz, .int .i64 O, .slice Aa O ca], .slice Ax x.length cx, .int .i64 f] w (OwnInts (mhV (O : Int) u x f) (mhE (O : Int) u x f) w) := by
  obtain ⟨⟨o1, o8⟩, ⟨n2, n17⟩, _⟩ := msE_ok.1 h1
  obtain ⟨hRl, hRr⟩ := mlL_row h1
  have hRi := mlL_i64 (h := (O : Int)) iu
  rw [Int.toNat_natCast] at hRl
  obtain ⟨w2, hw2⟩ : ∃ w2, w.alloc (.cells #[.slice Az (O + 1) cz, .int .i64 (O : Int), .slice Aa O ca] 55) = w2 := ⟨_, rfl⟩
  have hb2 : Below w.heap.size w w2 := by rw [← hw2]; exact (Below.refl _ _).alloc (Nat.le_refl _) _
  have hz2 : w2.heap.size = w.heap.size + 1 := by rw [← hw2]; simp
  have g0 : w2.cell? ⟨w.heap.size, 0, none⟩ = some (.slice Az (O + 1) cz) := by rw [← hw2]; simp [go_sem]
  have g1 : w2.cell? ⟨w.heap.size, 1, none⟩ = some (.int .i64 (O : Int)) := by rw [← hw2]; simp [go_sem]
  have g2 : w2.cell? ⟨w.heap.size, 2, none⟩ = some (.slice Aa O ca) := by rw [← hw2]; simp [go_sem]
  have hn2 := hn.on hb2
  have CS := hid (mq_sees (Az := Az) (cz := cz) (Aa := Aa) (ca := ca) (Z := O + 1) O u h1 w2 hn2)
  have hfst := fun (e : msN (O : Int) u = x.length) => mh_fst (f := f) h1 e (fun r hr => by rw [hRr r hr, e])
  have hlz4 : msN (O : Int) u ≠ x.length → mhE (O : Int) u x f = 4 := fun e => by unfold mhE; rw [if_neg (by simp [h1]), if_pos e]
  obtain ⟨N, hN⟩ : ∃ N, x.length = N := ⟨_, rfl⟩
  obtain ⟨m, hm⟩ : ∃ m, msN (O : Int) u = m := ⟨_, rfl⟩
  obtain ⟨Q, hQ⟩ : ∃ Q, ((mlL (O : Int) u).map fun r => ltV r x f) = Q := ⟨_, rfl⟩
  have hzo : mhV (O : Int) u x f = if mhE (O : Int) u x f = 0 then bdL Q else [] := by unfold mhV mhL; rw [hQ]
  obtain ⟨rows, hrows⟩ : ∃ rows, mlL (O : Int) u = rows := ⟨_, rfl⟩
  have HR3 : Hid (RdLn w2 w2.heap.size Aa rows m) := hid (by rw [← hrows, ← hm]; exact hn2.2.2.2)
  rw [hrows] at hRl hRr hRi hQ hfst
  rw [hm] at CS n2 n17 hRr hfst hlz4
  have hQm : Q = rows.map fun r => ltV r x f := hQ.symm
  obtain ⟨vE, hvE⟩ : ∃ e, mhE (O : Int) u x f = e := ⟨_, rfl⟩
  obtain ⟨vV, hvV⟩ : ∃ e, mhV (O : Int) u x f = e := ⟨_, rfl⟩
  rw [hvE] at hfst hlz4 hzo
  rw [hvV] at hzo
  rw [hvE, hvV]
  have HRL := hid hRl
  have HRR := hid hRr
  have HRI := hid hRi
  have HQM := hid hQm
  have HZO := hid hzo
  have HB2 := hid hb2
  have HZ2 := hid hz2
  have HO8 : Hid (1 ≤ O ∧ O ≤ 8) := hid (by omega)
  have HM : Hid (1 ≤ m ∧ m ≤ 16) := hid (by omega)
  have RX := hid (rx.on hb2)
  have HX := hid hx
  have HXN := hid hN
  have HIX := hid ix
  have hl1 : w.heap.size < w2.heap.size := by omega
  rw [hN] at hfst hlz4 ⊢
  by_cases h2 : m = N
  · have HF := hid (hfst h2)
    have t0 : ((N : Int) != (m : Int)) = false := by rw [h2]; simp
    have HMN := hid h2
    have CT := hid (fun (r : List Int) (hr : r ∈ rows) (Ar : Option Addr) (cr : Nat) (h1 : r.length ≤ cr) (h2 : cr ≤ 9223372036854775807) (W : World) (h3 : Rd (Value.int .i64) W W.heap.size Ar r) (h4 : Rd (Value.int .i64) W W.heap.size Ax x) => ln_Tell (Aw := Ar) (Ax := Ax) (cw := cr) (cx := cx) r x h1 h2 (by rw [hN]; omega) (hRi r hr) ix f W h3 h4)
    rw [hN] at CT
    have hmk := fun W => run_room (P := Try.prog) 22 2 (.int .i64 0) 8 Try.underlying22 info_i64 rfl O (by omega) (by omega) W
    clear hfst hlz4 hzo hQm hQ hvE hvV hrows hm hN hRl hRr hRi hn hn2 rx ix iu hx h1 h2 o1 o8 n2 n17 hb2 hz2
    go_enter Try.func31, Try.ntmps31
    go_wp2_with fail
    refine CS.out.mono ?_
    rintro _ w3 ⟨rfl, hb3⟩
    have g0' := (hb3.cell (p := ⟨w.heap.size, 0, none⟩) hl1).trans g0
    have g1' := (hb3.cell (p := ⟨w.heap.size, 1, none⟩) hl1).trans g1
    have g2' := (hb3.cell (p := ⟨w.heap.size, 2, none⟩) hl1).trans g2
    have B3 := hid hb3
    have HR4 := hid (HR3.out.on hb3)
    have RX3 := hid (RX.out.on hb3)
    have K3 : Hid (Below w.heap.size w w3) := hid (HB2.out.trans (hb3.mono HB2.out.size))
    have HRO := hid (own_room w3 2 (.int .i64 0) O (by have := HO8.out; unfold maxLen; omega) (B := w3.heap.size) (Nat.le_refl _))
    have g2'' : (w3.alloc (.cells (madeCells #[Value.int IntKind.i64 0] O) 2)).cell? ⟨w.heap.size, 2, none⟩ = some (.slice Aa O ca) := (((Below.refl w3.heap.size w3).alloc (Nat.le_refl _) _).cell (p := ⟨w.heap.size, 2, none⟩) (by show w.heap.size < w3.heap.size; have := hb3.size; omega)).trans g2'
    clear hb3 g0 g1 g2 hw2 CS hl1
    go_wp2_with fail
    clear g0' g1' g2' g2'' hmk t0
    go_loopw [8, 10, 11, 12, 25] (fun xz _ _ _ xi wr => ∃ (k : Nat) (T : List Int) (A2 : Option Addr) (c2 : Nat), k ≤ O ∧ xi = .int .i64 (k : Int) ∧ xz = .slice A2 T.length c2 ∧ T = Q.take k ∧ (∀ r ∈ rows.take k, ltE r x f = 0) ∧ wr.ownsRow w3.heap.size 2 1 (.slice A2 T.length c2) T.length (T.map (Value.int .i64)) ∧ Below w3.heap.size w3 wr) (fun _ _ _ _ xi _ => O - (intOf xi).toNat)
    case atStart => exact ⟨0, [], _, _, Nat.zero_le _, rfl, rfl, rfl, fun r hr => by simp at hr, HRO.out, (Below.refl _ _).alloc (Nat.le_refl _) _⟩
    case round =>
      obtain ⟨k, T, A2, c2, hk, rfl, rfl, hT, ha, ho, hbel⟩ := hrel
      have HT := hid hT
      have HA := hid ha
      have HO := hid ho
      have HB := hid hbel
      have KR : Hid (Below w.heap.size w wr) := hid (K3.out.trans (hbel.mono K3.out.size))
      clear hT ha ho
      by_cases hlt : k < O
      · obtain ⟨b2, off2, r, Ar, cr, rfl, hb2, er, q0, q1, hr1, hr2, rr⟩ := (HR4.out.on hbel).at_ (k := k) (by rw [HRL.out]; exact hlt)
        have HER := hid er
        obtain ⟨n, hn⟩ : ∃ n, r.length = n := ⟨_, rfl⟩
        obtain ⟨w4, hw4⟩ : ∃ w4, wr.alloc (.cells #[.slice Ar n cr, .int .i64 (m : Int)] 52) = w4 := ⟨_, rfl⟩
        have hb4 : Below wr.heap.size wr w4 := by rw [← hw4]; exact (Below.refl _ _).alloc (Nat.le_refl _) _
        have l0 : w4.cell? ⟨wr.heap.size, 0, none⟩ = some (.slice Ar n cr) := by rw [← hw4]; simp [go_sem]
        have l1 : w4.cell? ⟨wr.heap.size, 1, none⟩ = some (.int .i64 (m : Int)) := by rw [← hw4]; simp [go_sem]
        have CT2 := hid (CT.out r (List.mem_of_getElem? er) Ar cr hr1 hr2 w4 (rr.on hb4) ((RX3.out.on hbel).on hb4))
        have K4 : Hid (Below w3.heap.size w3 w4) := hid (HB.out.trans (hb4.mono HB.out.size))
        have HO4 := hid (own_on HO.out hb4)
        have KR4 : Hid (Below w.heap.size w w4) := hid (KR.out.trans (hb4.mono KR.out.size))
        obtain ⟨V, hV⟩ : ∃ V, ltV r x f = V := ⟨_, rfl⟩
        obtain ⟨E, hE⟩ : ∃ E, ltE r x f = E := ⟨_, rfl⟩
        rw [hV, hE, hn] at CT2
        rw [hn] at q0
        have HEE := hid hE
        have hQn : Hid (Q.take (k + 1) = Q.take k ++ [V]) := hid (by
          rw [List.take_add_one, HQM.out, List.getElem?_map, er]
          rw [← hV]; rfl)
        have hTl : Hid (T.length = k) := hid (by rw [HT.out, List.length_take, HQM.out, List.length_map, HRL.out]; omega)
        have HKM := hid hlt
        have HW := hid (show IntKind.i64.wrap ((k : Int) + 1) = ((k + 1 : Nat) : Int) from Go.IntWalk.i64_in _ (by have := HO8.out; omega))
        clear er rr hr1 hr2 hV hE hbel hb4 hn
        by_cases hE0 : E = 0
        · subst hE0
          go_wp2_with fail
          refine CT2.out.mono ?_
          rintro _ w5 ⟨rfl, hb5⟩
          have HB5 : Hid (Below w3.heap.size w3 w5) := hid (K4.out.trans (hb5.mono K4.out.size))
          have hr0' : Rd (Value.int .i64) (w5.alloc (.cells #[.int .i64 V] 2)) _ (some ⟨w5.heap.size, 0, none⟩) [V] := rd_one (one_cell w5 (.int .i64 V) 2).1
          have h0' := own_on (own_on HO4.out hb5) ((Below.refl w5.heap.size w5).alloc (Nat.le_refl _) (.cells #[.int .i64 V] 2))
          clear hb5 hw4 l0 l1 q0 q1
          go_wp2_with (at_builtin; refine wpList_app (Value.int .i64) (fun _ => rfl) _ rfl _ _ 22 rfl w3.heap.size 2 (.int .i64 0) 8 Try.underlying22 info_i64 rfl T _ _ rfl h0' [V] _ 1 _ rfl hr0' (by have := hTl.out; have := HKM.out; have := HO8.out; simp [maxLen]; omega) (by have := hTl.out; have := HKM.out; have := HO8.out; simp; omega) (by have := HB5.out.size; simp; omega) ?_)
          rintro S' A' c' w6 hS' ho' hb6 _
          have HS' := hid hS'
          have HO' := hid ho'
          have HK6 : Hid (Below w3.heap.size w3 w6) := hid ((HB5.out.alloc HB5.out.size _).trans hb6)
          have hw := HW.out
          clear hS' ho' h0' hr0' hb6
          go_wp2_with fail
          go_roundw
          case rel => exact ⟨k + 1, S', A', c', HKM.out, rfl, rfl, by rw [HS'.out, hQn.out, HT.out], take_all HA.out HER.out HEE.out, HO'.out, HK6.out⟩
          case measure => have := HKM.out; (try clear hw); simp [intOf]; omega
        · have hne : (E != 0) = true := by simpa using hE0
          have e1 : vE = E := by
            rw [HF.out, fstE_at HA.out HER.out (by rw [HEE.out]; exact hE0), HEE.out]
          have e2 : vV = [] := by rw [HZO.out, if_neg (by rw [e1]; exact hE0)]
          rw [e1, e2]
          clear e1 e2 hE0
          go_wp2_with fail
          refine CT2.out.mono ?_
          rintro _ w5 ⟨rfl, hb5⟩
          have K5 : Hid (Below w.heap.size w w5) := hid (KR4.out.trans (hb5.mono KR4.out.size))
          clear hb5 hw4 l0 l1 q0 q1
          go_wp2_with fail
          go_ret2
          exact ⟨none, 0, rfl, own_nil _ _ _, K5.out⟩
      · obtain rfl : k = O := by omega
        have e1 : vE = 0 := by
          rw [HF.out]
          refine fstE_ok.2 fun e he => ?_
          obtain ⟨r, hr, rfl⟩ := List.mem_map.1 he
          exact HA.out r (by rw [List.take_of_length_le (by rw [HRL.out]; exact Nat.le_refl _)]; exact hr)
        have hTQ : T = Q := by rw [HT.out]; exact List.take_of_length_le (by rw [HQM.out, List.length_map, HRL.out]; exact Nat.le_refl _)
        have e2 : vV = bdL T := by rw [HZO.out, if_pos e1, hTQ]
        have hTl : T.length ≤ 8 := by rw [hTQ, HQM.out, List.length_map, HRL.out]; exact HO8.out.2
        have b1' : bdE T = 0 := if_neg (by omega)
        have b2' : bdV T = bdL T := if_pos b1'
        have CB := hid (ml_Bend (A := A2) (c := c2) T (by omega) wr (own_rd HO.out))
        rw [b1', b2', ← e2] at CB
        clear hTQ hbel b1' b2' e2 hTl
        subst e1
        go_wp2_with fail
        refine CB.out.mono ?_
        rintro _ w6 ⟨A6, c6, rfl, ho6, hb6⟩
        have HO6 := hid ho6
        have K6 : Hid (Below w.heap.size w w6) := hid (KR.out.trans (hb6.mono KR.out.size))
        clear ho6 hb6
        go_wp2_with fail
        go_ret2
        exact ⟨A6, c6, rfl, own_base HO6.out KR.out.size, K6.out⟩
  · have e1 := hlz4 h2
    have t0 : ((N : Int) != (m : Int)) = true := by rw [bne_iff_ne]; omega
    have hz : vV = [] := by rw [hzo, if_neg (by rw [e1]; decide)]
    rw [e1, hz]
    clear hfst hlz4 hzo hQm hQ hvE hvV hrows hm hN hRl hRr hRi hn hn2 rx ix iu hx h1 h2 o1 o8 n2 n17 e1 hz hb2 hz2
    go_enter Try.func31, Try.ntmps31
    go_wp2_with fail
    refine CS.out.mono ?_
    rintro _ w3 ⟨rfl, hb3⟩
    have K3 : Hid (Below w.heap.size w w3) := hid (HB2.out.trans (hb3.mono HB2.out.size))
    clear hb3 g0 g1 g2 hw2 CS
    go_wp2_with fail
    go_ret2
    exact ⟨none, 0, rfl, own_nil _ _ _, K3.out⟩
end Go.Proofs.Ytekpejemfkjhcaa
/- Two layers, by the landed code: what they tell, how far they are off. -/
namespace Go.Proofs.Ytekpejemfkjhcaa
open Go.RowKit
set_option maxHeartbeats 4000000
set_option maxRecDepth 100000
set_option linter.unusedVariables false
theorem mq_lt {o : Int} {u x : List Int} {f : Int} (hh : mhE o u x f = 0) : mqE o u x f = ltE (mlZ o u) (mhL o u x f) f ∧ mqV o u x f = ltV (mlZ o u) (mhL o u x f) f := by
  have e1 : mqE o u x f = ltE (mlZ o u) (mhL o u x f) f := by unfold mqE; rw [if_neg (by simp [hh])]
  refine ⟨e1, ?_⟩
  unfold mqV
  rw [e1]
  by_cases h : ltE (mlZ o u) (mhL o u x f) f = 0
  · rw [if_pos h]
  · rw [if_neg h]; unfold ltV; rw [if_neg h]
theorem mo_lo {o : Int} {u : List Int} {s : SmpV} {f : Int} (hh : mhE o u s.X f = 0) : moE o u s f = loE (mlZ o u) ⟨mhL o u s.X f, s.Y⟩ f ∧ moV o u s f = loV (mlZ o u) ⟨mhL o u s.X f, s.Y⟩ f := by
  obtain ⟨e1, e2⟩ := mq_lt hh
  have e3 : moE o u s f = loE (mlZ o u) ⟨mhL o u s.X f, s.Y⟩ f := by
    unfold moE loE
    rw [e1, e2]
  refine ⟨e3, ?_⟩
  unfold moV loV
  rw [e3, e2]
theorem mo_bad {o : Int} {u : List Int} {s : SmpV} {f : Int} (hh : mhE o u s.X f ≠ 0) : moE o u s f = mhE o u s.X f ∧ moV o u s f = 0 := by
  have e1 : mqE o u s.X f = mhE o u s.X f := by unfold mqE; rw [if_pos hh]
  have e2 : moE o u s f = mhE o u s.X f := by unfold moE; rw [e1, if_pos hh]
  exact ⟨e2, if_neg (by rw [e2]; exact hh)⟩
theorem mh_i64 (o : Int) (u x : List Int) (f : Int) : I64s (mhL o u x f) := fun y hy => (mhL_i64 o u x f y hy).1
theorem mz_i64 {o : Int} {u : List Int} (iu : I64s u) : I64s (mlZ o u) := fun y hy => iu y (List.mem_of_mem_drop hy)
/-- Two boxes beside one another: the net's, and the sample's. -/
theorem two_box (w : World) (a b c d e : Value) (t r : TypeId) : ∃ w3, (w.alloc (.cells #[a, b, c] t)).alloc (.cells #[d, e] r) = w3 ∧ w3.heap.size = w.heap.size + 2 ∧ Below w.heap.size w w3 ∧
    (w3.cell? ⟨w.heap.size, 0, none⟩ = some a ∧ w3.cell? ⟨w.heap.size, 1, none⟩ = some b ∧ w3.cell? ⟨w.heap.size, 2, none⟩ = some c) ∧ w3.cell? ⟨w.heap.size + 1, 0, none⟩ = some d ∧ w3.cell? ⟨w.heap.size + 1, 1, none⟩ = some e := by
  refine ⟨_, rfl, by simp, ((Below.refl _ w).alloc (Nat.le_refl _) _).alloc (by simp) _, ?_, ?_, ?_⟩
  · have h := (BoxL.new w [a, b, c] t).below (B := w.heap.size + 1) ((Below.refl (w.heap.size + 1) (w.alloc (.cells [a, b, c].toArray t))).alloc (by simp) (.cells #[d, e] r)) (by omega)
    exact ⟨(h 0 a rfl).1, (h 1 b rfl).1, (h 2 c rfl).1⟩
  · have h := BoxL.new (w.alloc (.cells #[a, b, c] t)) [d, e] r
    rw [World.size_alloc] at h
    exact (h 0 d rfl).1
  · have h := BoxL.new (w.alloc (.cells #[a, b, c] t)) [d, e] r
    rw [World.size_alloc] at h
    exact (h 1 e rfl).1
theorem mq_off_ok {Az Aa Ax : Option Addr} {cz ca cx : Nat} (O : Nat) (u : List Int) (s : SmpV) (h1 : msE (O : Int) u = 0) (iu : I64s u) (hx : s.X.length ≤ 1099511627776) (ix : I64s s.X) (iY : I64 s.Y) (f : Int) (hh : mhE (O : Int) u s.X f = 0) (w : World)
    (hn : NetR w (O : Int) u Az cz Aa) (rx : Rd (Value.int .i64) w w.heap.size Ax s.X) :
    Calls Try.prog 33 #[.agg #[.slice Az (O + 1) cz, .int .i64 O, .slice Aa O ca], .agg #[.slice Ax s.X.length cx, .int .i64 s.Y], .int .i64 f] w fun e w' =>
      ∃ A c, e = .returned (.tuple #[.slice A (mhL (O : Int) u s.X f).length c, .int .i64 (moV (O : Int) u s f), .int .i64 (moE (O : Int) u s f)]) ∧ w'.ownsRow w.heap.size 2 1 (.slice A (mhL (O : Int) u s.X f).length c) (mhL (O : Int) u s.X f).length ((mhL (O : Int) u s.X f).map (Value.int .i64)) ∧ Below w.heap.size w w' := by
  obtain ⟨⟨o1, o8⟩, _⟩ := msE_ok.1 h1
  obtain ⟨w3, hw3, hz3, hb3, ⟨g0, g1, g2⟩, q0, q1⟩ := two_box w (.slice Az (O + 1) cz) (.int .i64 (O : Int)) (.slice Aa O ca) (.slice Ax s.X.length cx) (.int .i64 s.Y) 55 24
  have CH := hid (mq_hide (Az := Az) (Aa := Aa) (Ax := Ax) (cz := cz) (ca := ca) (cx := cx) O u s.X h1 iu hx ix f w3 (hn.on hb3) (rx.on hb3))
  have hv : mhV (O : Int) u s.X f = mhL (O : Int) u s.X f := if_pos hh
  have hHl := mhL_len (O : Int) u s.X f
  rw [Int.toNat_natCast] at hHl
  have iH := mh_i64 (O : Int) u s.X f
  have hZl := mlZ_len h1
  rw [Int.toNat_natCast] at hZl
  obtain ⟨e1, e2⟩ := mo_lo (s := s) hh
  rw [hh, hv] at CH
  rw [e1, e2]
  obtain ⟨H, hH⟩ : ∃ H, mhL (O : Int) u s.X f = H := ⟨_, rfl⟩
  rw [hH] at CH hHl iH ⊢
  have HRZ := hid (fun (W : World) (hb : Below w.heap.size w W) => (by
      have := (hn.on hb).1
      exact this : Rd (Value.int .i64) W W.heap.size Az (mlZ (O : Int) u)))
  have hcz := hn.2.1
  have hcz2 := hn.2.2.1
  have CO := hid (fun (A4 : Option Addr) (c4 : Nat) (W : World) (h1 : Rd (Value.int .i64) W W.heap.size Az (mlZ (O : Int) u)) (h2 : Rd (Value.int .i64) W W.heap.size A4 H) => ln_Off (Aw := Az) (Ax := A4) (cw := cz) (cx := c4) (mlZ (O : Int) u) ⟨H, s.Y⟩ hcz hcz2 (by show H.length ≤ _; omega) (mz_i64 iu) iH iY f W h1 h2)
  obtain ⟨V, hV⟩ : ∃ V, loV (mlZ (O : Int) u) ⟨H, s.Y⟩ f = V := ⟨_, rfl⟩
  obtain ⟨E, hE⟩ : ∃ E, loE (mlZ (O : Int) u) ⟨H, s.Y⟩ f = E := ⟨_, rfl⟩
  rw [hV, hE, hZl] at CO
  rw [hV, hE]
  obtain ⟨N, hN⟩ : ∃ N, s.X.length = N := ⟨_, rfl⟩
  obtain ⟨Y, hY⟩ : ∃ Y, s.Y = Y := ⟨_, rfl⟩
  rw [hN] at CH q0 hw3 ⊢
  rw [hY] at q1 hw3 CO ⊢
  have CO2 := hid (fun (A4 : Option Addr) (c4 : Nat) (W : World) (h1 : Rd (Value.int .i64) W W.heap.size Az (mlZ (O : Int) u)) (h2 : Rd (Value.int .i64) W W.heap.size A4 H) => (CO.out A4 c4 W h1 h2 : Calls Try.prog 51 #[.slice Az (O + 1) cz, .agg #[.slice A4 H.length c4, .int .i64 Y], .int .i64 f] W fun e w' => e = .returned (.tuple #[.int .i64 V, .int .i64 E]) ∧ Below W.heap.size W w'))
  obtain ⟨L, hL⟩ : ∃ L, H.length = L := ⟨_, rfl⟩
  have HLL := hid hL
  rw [hL] at CO2 ⊢
  have B3 := hid hb3
  have hl3 : w.heap.size < w3.heap.size := by omega
  have hl4 : w.heap.size + 1 < w3.heap.size := by omega
  clear hL hV hE hN hY hH e1 e2 hv hh h1 iu hx ix iY hn rx hHl iH hZl hcz hcz2 hb3 hz3 o1 o8 CO
  go_enter Try.func33, Try.ntmps33
  go_wp2_with fail
  refine CH.out.mono ?_
  rintro _ w4 ⟨A4, c4, rfl, ho4, hb4⟩
  rw [HLL.out] at ho4 ⊢
  have ho4' : w4.ownsRow w3.heap.size 2 1 (.slice A4 H.length c4) H.length (H.map (Value.int .i64)) := by rw [HLL.out]; exact ho4
  have HO4 := hid ho4'
  have g0' := (hb4.cell (p := ⟨w.heap.size, 0, none⟩) hl3).trans g0
  have q1' := (hb4.cell (p := ⟨w.heap.size + 1, 1, none⟩) hl4).trans q1
  have K4 : Hid (Below w.heap.size w w4) := hid (B3.out.trans (hb4.mono B3.out.size))
  clear g0 g1 g2 q0 q1 hw3 hb4 ho4 ho4' hl3 hl4 CH
  go_wp2_with fail
  refine (CO2.out A4 c4 w4 (HRZ.out w4 K4.out) (own_rd HO4.out)).mono ?_
  rintro _ w5 ⟨rfl, hb5⟩
  have HO5 := hid (own_on HO4.out hb5)
  have K5 : Hid (Below w.heap.size w w5) := hid (K4.out.trans (hb5.mono K4.out.size))
  clear hb5 g0' q1'
  go_wp2_with fail
  go_ret3
  have ho := own_base HO5.out (base' := w.heap.size) B3.out.size
  rw [HLL.out] at ho
  exact ⟨A4, c4, rfl, ho, K5.out⟩
theorem mq_off_bad {Az Aa Ax : Option Addr} {cz ca cx : Nat} (O : Nat) (u : List Int) (s : SmpV) (h1 : msE (O : Int) u = 0) (iu : I64s u) (hx : s.X.length ≤ 1099511627776) (ix : I64s s.X) (iY : I64 s.Y) (f : Int) (hh : mhE (O : Int) u s.X f ≠ 0) (w : World)
    (hn : NetR w (O : Int) u Az cz Aa) (rx : Rd (Value.int .i64) w w.heap.size Ax s.X) :
    Calls Try.prog 33 #[.agg #[.slice Az (O + 1) cz, .int .i64 O, .slice Aa O ca], .agg #[.slice Ax s.X.length cx, .int .i64 s.Y], .int .i64 f] w fun e w' =>
      e = .returned (.tuple #[.slice none 0 0, .int .i64 0, .int .i64 (moE (O : Int) u s f)]) ∧ Below w.heap.size w w' := by
  obtain ⟨w3, hw3, hz3, hb3, ⟨g0, g1, g2⟩, q0, q1⟩ := two_box w (.slice Az (O + 1) cz) (.int .i64 (O : Int)) (.slice Aa O ca) (.slice Ax s.X.length cx) (.int .i64 s.Y) 55 24
  have CH := hid (mq_hide (Az := Az) (Aa := Aa) (Ax := Ax) (cz := cz) (ca := ca) (cx := cx) O u s.X h1 iu hx ix f w3 (hn.on hb3) (rx.on hb3))
  have hv : mhV (O : Int) u s.X f = [] := if_neg hh
  obtain ⟨e1, e2⟩ := mo_bad (s := s) hh
  rw [hv] at CH
  rw [e1]
  obtain ⟨E, hE⟩ : ∃ E, mhE (O : Int) u s.X f = E := ⟨_, rfl⟩
  rw [hE] at CH hh ⊢
  have hne : (E != 0) = true := by simpa using hh
  obtain ⟨N, hN⟩ : ∃ N, s.X.length = N := ⟨_, rfl⟩
  obtain ⟨Y, hY⟩ : ∃ Y, s.Y = Y := ⟨_, rfl⟩
  rw [hN] at CH q0 hw3 ⊢
  rw [hY] at q1 hw3 ⊢
  have B3 := hid hb3
  clear hE hN hY e1 e2 hv hh h1 iu hx ix iY hn rx hb3 hz3
  go_enter Try.func33, Try.ntmps33
  go_wp2_with fail
  refine CH.out.mono ?_
  rintro _ w4 ⟨A4, c4, rfl, ho4, hb4⟩
  have K4 : Hid (Below w.heap.size w w4) := hid (B3.out.trans (hb4.mono B3.out.size))
  clear g0 g1 g2 q0 q1 hw3 hb4 ho4 CH
  go_wp2_with fail
  go_ret3
  exact ⟨rfl, K4.out⟩
end Go.Proofs.Ytekpejemfkjhcaa
/- Two layers, by the landed code: Hidden, Tell, Off. -/
namespace Go.Proofs.Ytekpejemfkjhcaa
open Go.RowKit
set_option maxHeartbeats 4000000
set_option maxRecDepth 100000
set_option linter.unusedVariables false
/-- The net in a box. -/
theorem net_box (w : World) (a b c : Value) (t : TypeId) : ∃ w2, w.alloc (.cells #[a, b, c] t) = w2 ∧ w2.heap.size = w.heap.size + 1 ∧ Below w.heap.size w w2 ∧ w2.cell? ⟨w.heap.size, 0, none⟩ = some a ∧ w2.cell? ⟨w.heap.size, 1, none⟩ = some b ∧ w2.cell? ⟨w.heap.size, 2, none⟩ = some c := by
  have h := BoxL.new w [a, b, c] t
  exact ⟨_, rfl, by simp, (Below.refl _ w).alloc (Nat.le_refl _) _, (h 0 a rfl).1, (h 1 b rfl).1, (h 2 c rfl).1⟩
theorem ml_Hidden {Au Ax : Option Addr} {cu cx : Nat} (o : Int) (ho : I64 o) (u x : List Int) (hu : u.length ≤ cu) (hcu : cu ≤ 9223372036854775807) (iu : I64s u) (hx : x.length ≤ 1099511627776) (ix : I64s x) (f : Int) (w : World)
    (ru : Rd (Value.int .i64) w w.heap.size Au u) (rx : Rd (Value.int .i64) w w.heap.size Ax x) :
    Calls Try.prog 12 #[.int .i64 o, .slice Au u.length cu, .slice Ax x.length cx, .int .i64 f] w (OwnInts (mhV o u x f) (mhE o u x f) w) := by
  obtain ⟨U, hU⟩ : ∃ U, u.length = U := ⟨_, rfl⟩
  obtain ⟨N, hN⟩ : ∃ N, x.length = N := ⟨_, rfl⟩
  by_cases h1 : msE o u = 0
  · obtain ⟨⟨o1, o8⟩, _⟩ := msE_ok.1 h1
    obtain ⟨O, rfl⟩ : ∃ O : Nat, o = (O : Int) := ⟨o.toNat, by omega⟩
    have CS := hid (mq_split_ok (Au := Au) (cu := cu) O u hu hcu h1 w ru)
    have CH := hid (fun (Az Aa : Option Addr) (cz ca : Nat) (W : World) (hn : NetR W (O : Int) u Az cz Aa) (h : Rd (Value.int .i64) W W.heap.size Ax x) => mq_hide (Az := Az) (Aa := Aa) (Ax := Ax) (cz := cz) (ca := ca) (cx := cx) O u x h1 iu hx ix f W hn h)
    obtain ⟨V, hV⟩ : ∃ V, mhV (O : Int) u x f = V := ⟨_, rfl⟩
    obtain ⟨E, hE⟩ : ∃ E, mhE (O : Int) u x f = E := ⟨_, rfl⟩
    rw [hV, hE, hN] at CH
    rw [hV, hE]
    rw [hU] at CS ⊢
    rw [hN]
    have RX := hid rx
    clear hV hE hU hN h1 o1 o8 hu hcu iu hx ix ru rx ho
    go_enter Try.func12, Try.ntmps12
    go_wp2_with fail
    refine CS.out.mono ?_
    rintro _ w1 ⟨Az, cz, Aa, ca, rfl, hn, hb1⟩
    obtain ⟨w2, hw2, hz2, hb2, g0, g1, g2⟩ := net_box w1 (.slice Az (O + 1) cz) (.int .i64 (O : Int)) (.slice Aa O ca) 55
    have K2 : Hid (Below w.heap.size w w2) := hid (hb1.trans (hb2.mono hb1.size))
    have CH2 := hid (CH.out Az Aa cz ca w2 (hn.on hb2) (RX.out.on K2.out))
    clear hn hb1 hb2 hz2 CS
    go_wp2_with fail
    refine CH2.out.mono ?_
    rintro _ w3 ⟨A3, c3, rfl, ho3, hb3⟩
    have HO3 := hid ho3
    have K3 : Hid (Below w.heap.size w w3) := hid (K2.out.trans (hb3.mono K2.out.size))
    clear ho3 hb3 hw2 g0 g1 g2
    go_wp2_with fail
    go_ret2
    exact ⟨A3, c3, rfl, own_base HO3.out K2.out.size, K3.out⟩
  · have CS := hid (mq_split_bad (Au := Au) (cu := cu) o ho u hu hcu h1 w)
    have e1 : mhE o u x f = msE o u := by unfold mhE; rw [if_pos h1]
    have e2 : mhV o u x f = [] := if_neg (by rw [e1]; exact h1)
    rw [e1, e2]
    obtain ⟨E, hE⟩ : ∃ E, msE o u = E := ⟨_, rfl⟩
    rw [hE] at CS h1 ⊢
    have hne : (E != 0) = true := by simpa using h1
    rw [hU] at CS ⊢
    rw [hN]
    clear e1 e2 hE h1 hU hN ru rx iu ix hu hx ho hcu
    go_enter Try.func12, Try.ntmps12
    go_wp2_with fail
    refine CS.out.mono ?_
    rintro _ w1 ⟨rfl, hb1⟩
    have K1 := hid hb1
    clear hb1 CS
    go_wp2_with fail
    go_ret2
    exact ⟨none, 0, rfl, own_nil _ _ _, K1.out.alloc K1.out.size _⟩
theorem ml_Tell {Au Ax : Option Addr} {cu cx : Nat} (h : Int) (ih : I64 h) (u x : List Int) (hu : u.length ≤ cu) (hcu : cu ≤ 9223372036854775807) (iu : I64s u) (hx : x.length ≤ 1099511627776) (ix : I64s x) (f : Int) (w : World)
    (ru : Rd (Value.int .i64) w w.heap.size Au u) (rx : Rd (Value.int .i64) w w.heap.size Ax x) :
    Calls Try.prog 10 #[.int .i64 h, .slice Au u.length cu, .slice Ax x.length cx, .int .i64 f] w fun e w' => e = .returned (.tuple #[.int .i64 (mqV h u x f), .int .i64 (mqE h u x f)]) ∧ Below w.heap.size w w' := by
  obtain ⟨U, hU⟩ : ∃ U, u.length = U := ⟨_, rfl⟩
  obtain ⟨N, hN⟩ : ∃ N, x.length = N := ⟨_, rfl⟩
  by_cases h1 : msE h u = 0
  · obtain ⟨⟨o1, o8⟩, _⟩ := msE_ok.1 h1
    obtain ⟨O, rfl⟩ : ∃ O : Nat, h = (O : Int) := ⟨h.toNat, by omega⟩
    have CS := hid (mq_split_ok (Au := Au) (cu := cu) O u hu hcu h1 w ru)
    have CH := hid (fun (Az Aa : Option Addr) (cz ca : Nat) (W : World) (hn : NetR W (O : Int) u Az cz Aa) (h : Rd (Value.int .i64) W W.heap.size Ax x) => mq_hide (Az := Az) (Aa := Aa) (Ax := Ax) (cz := cz) (ca := ca) (cx := cx) O u x h1 iu hx ix f W hn h)
    have RX := hid rx
    by_cases hh : mhE (O : Int) u x f = 0
    · have hv : mhV (O : Int) u x f = mhL (O : Int) u x f := if_pos hh
      have hHl := mhL_len (O : Int) u x f
      rw [Int.toNat_natCast] at hHl
      have iH := mh_i64 (O : Int) u x f
      have hZl := mlZ_len h1
      rw [Int.toNat_natCast] at hZl
      obtain ⟨e1, e2⟩ := mq_lt hh
      rw [e1, e2]
      rw [hh, hv, hN] at CH
      obtain ⟨H, hH⟩ : ∃ H, mhL (O : Int) u x f = H := ⟨_, rfl⟩
      rw [hH] at CH hHl iH ⊢
      have CT := hid (fun (Az A4 : Option Addr) (cz c4 : Nat) (W : World) (q1 : (mlZ (O : Int) u).length ≤ cz) (q2 : cz ≤ 9223372036854775807) (h1 : Rd (Value.int .i64) W W.heap.size Az (mlZ (O : Int) u)) (h2 : Rd (Value.int .i64) W W.heap.size A4 H) => ln_Tell (Aw := Az) (Ax := A4) (cw := cz) (cx := c4) (mlZ (O : Int) u) H q1 q2 (by omega) (mz_i64 iu) iH f W h1 h2)
      obtain ⟨V, hV⟩ : ∃ V, ltV (mlZ (O : Int) u) H f = V := ⟨_, rfl⟩
      obtain ⟨E, hE⟩ : ∃ E, ltE (mlZ (O : Int) u) H f = E := ⟨_, rfl⟩
      obtain ⟨L, hL⟩ : ∃ L, H.length = L := ⟨_, rfl⟩
      have HLL := hid hL
      rw [hV, hE, hL] at CT
      have CT2 := hid (fun (Az A4 : Option Addr) (cz c4 : Nat) (W : World) (hn : NetR W (O : Int) u Az cz A4 ∨ True) (q1 : (mlZ (O : Int) u).length ≤ cz) (q2 : cz ≤ 9223372036854775807) (h1 : Rd (Value.int .i64) W W.heap.size Az (mlZ (O : Int) u)) (h2 : Rd (Value.int .i64) W W.heap.size A4 H) => CT.out Az A4 cz c4 W q1 q2 h1 h2)
      rw [hZl] at CT2
      rw [hV, hE]
      rw [hU] at CS ⊢
      rw [hN]
      have HZL := hid hZl
      clear hV hE hL hU hN h1 o1 o8 hu hcu iu hx ix ru rx ih hh hv hHl iH hZl e1 e2 hH CT
      go_enter Try.func10, Try.ntmps10
      go_wp2_with fail
      refine CS.out.mono ?_
      rintro _ w1 ⟨Az, cz, Aa, ca, rfl, hn, hb1⟩
      obtain ⟨w2, hw2, hz2, hb2, g0, g1, g2⟩ := net_box w1 (.slice Az (O + 1) cz) (.int .i64 (O : Int)) (.slice Aa O ca) 55
      have K2 : Hid (Below w.heap.size w w2) := hid (hb1.trans (hb2.mono hb1.size))
      have HN2 := hid (hn.on hb2)
      have CH2 := hid (CH.out Az Aa cz ca w2 HN2.out (RX.out.on K2.out))
      have hl2 : w1.heap.size < w2.heap.size := by omega
      clear hn hb1 hb2 hz2 CS
      go_wp2_with fail
      refine CH2.out.mono ?_
      rintro _ w3 ⟨A3, c3, rfl, ho3, hb3⟩
      have HO3 := hid ho3
      have HN3 := hid (HN2.out.on hb3)
      have K3 : Hid (Below w.heap.size w w3) := hid (K2.out.trans (hb3.mono K2.out.size))
      have g0' := (hb3.cell (p := ⟨w1.heap.size, 0, none⟩) hl2).trans g0
      rw [HLL.out]
      have CT3 := hid (CT2.out Az A3 cz c3 w3 (.inr trivial) (by rw [← HZL.out]; exact HN3.out.2.1) HN3.out.2.2.1 HN3.out.1 (own_rd HO3.out))
      clear ho3 hb3 hw2 g0 g1 g2 hl2
      go_wp2_with fail
      refine CT3.out.mono ?_
      rintro _ w5 ⟨rfl, hb5⟩
      have K5 : Hid (Below w.heap.size w w5) := hid (K3.out.trans (hb5.mono K3.out.size))
      clear hb5 g0'
      go_wp2_with fail
      go_ret2
      exact ⟨rfl, K5.out⟩
    · have e1 : mqE (O : Int) u x f = mhE (O : Int) u x f := by unfold mqE; rw [if_pos hh]
      have e2 : mqV (O : Int) u x f = 0 := if_neg (by rw [e1]; exact hh)
      have hv : mhV (O : Int) u x f = [] := if_neg hh
      rw [e1, e2]
      obtain ⟨E, hE⟩ : ∃ E, mhE (O : Int) u x f = E := ⟨_, rfl⟩
      rw [hE] at hh ⊢
      rw [hE, hv, hN] at CH
      have hne : (E != 0) = true := by simpa using hh
      rw [hU] at CS ⊢
      rw [hN]
      clear hE hU hN h1 o1 o8 hu hcu iu hx ix ru rx ih hh hv e1 e2
      go_enter Try.func10, Try.ntmps10
      go_wp2_with fail
      refine CS.out.mono ?_
      rintro _ w1 ⟨Az, cz, Aa, ca, rfl, hn, hb1⟩
      obtain ⟨w2, hw2, hz2, hb2, g0, g1, g2⟩ := net_box w1 (.slice Az (O + 1) cz) (.int .i64 (O : Int)) (.slice Aa O ca) 55
      have K2 : Hid (Below w.heap.size w w2) := hid (hb1.trans (hb2.mono hb1.size))
      have CH2 := hid (CH.out Az Aa cz ca w2 (hn.on hb2) (RX.out.on K2.out))
      clear hn hb1 hb2 hz2 CS
      go_wp2_with fail
      refine CH2.out.mono ?_
      rintro _ w3 ⟨A3, c3, rfl, ho3, hb3⟩
      have K3 : Hid (Below w.heap.size w w3) := hid (K2.out.trans (hb3.mono K2.out.size))
      clear ho3 hb3 hw2 g0 g1 g2
      go_wp2_with fail
      go_ret2
      exact ⟨rfl, K3.out⟩
  · have CS := hid (mq_split_bad (Au := Au) (cu := cu) h ih u hu hcu h1 w)
    have e0 : mhE h u x f = msE h u := by unfold mhE; rw [if_pos h1]
    have e1 : mqE h u x f = msE h u := by unfold mqE; rw [e0, if_pos h1]
    have e2 : mqV h u x f = 0 := if_neg (by rw [e1]; exact h1)
    rw [e1, e2]
    obtain ⟨E, hE⟩ : ∃ E, msE h u = E := ⟨_, rfl⟩
    rw [hE] at CS h1 ⊢
    have hne : (E != 0) = true := by simpa using h1
    rw [hU] at CS ⊢
    rw [hN]
    clear e0 e1 e2 hE h1 hU hN ru rx iu ix hu hx ih hcu
    go_enter Try.func10, Try.ntmps10
    go_wp2_with fail
    refine CS.out.mono ?_
    rintro _ w1 ⟨rfl, hb1⟩
    have K1 := hid hb1
    clear hb1 CS
    go_wp2_with fail
    go_ret2
    exact ⟨rfl, K1.out.alloc K1.out.size _⟩
theorem ml_Off {Aw Ax : Option Addr} {cw cx : Nat} (h : Int) (ih : I64 h) (u : List Int) (s : SmpV) (hu : u.length ≤ cw) (hcw : cw ≤ 9223372036854775807) (hx : s.X.length ≤ 1099511627776) (iu : I64s u) (ix : I64s s.X) (iY : I64 s.Y) (f : Int) (w : World)
    (ru : Rd (Value.int .i64) w w.heap.size Aw u) (rx : Rd (Value.int .i64) w w.heap.size Ax s.X) :
    Calls Try.prog 14 #[.int .i64 h, .slice Aw u.length cw, .agg #[.slice Ax s.X.length cx, .int .i64 s.Y], .int .i64 f] w fun e w' => e = .returned (.tuple #[.int .i64 (moV h u s f), .int .i64 (moE h u s f)]) ∧ Below w.heap.size w w' := by
  obtain ⟨w0, hw0⟩ : ∃ w0, w.alloc (.cells #[.slice Ax s.X.length cx, .int .i64 s.Y] 24) = w0 := ⟨_, rfl⟩
  have hb0 : Below w.heap.size w w0 := by rw [← hw0]; go_grown
  have hs0 : w.heap.size < w0.heap.size := by rw [← hw0]; simp
  have s0 : w0.cell? ⟨w.heap.size, 0, none⟩ = some (.slice Ax s.X.length cx) := by rw [← hw0]; simp [go_sem]
  have s1 : w0.cell? ⟨w.heap.size, 1, none⟩ = some (.int .i64 s.Y) := by rw [← hw0]; simp [go_sem]
  obtain ⟨U, hU⟩ : ∃ U, u.length = U := ⟨_, rfl⟩
  have HB0 := hid hb0
  by_cases h1 : msE h u = 0
  · obtain ⟨⟨o1, o8⟩, _⟩ := msE_ok.1 h1
    obtain ⟨O, rfl⟩ : ∃ O : Nat, h = (O : Int) := ⟨h.toNat, by omega⟩
    have CS := hid (mq_split_ok (Au := Aw) (cu := cw) O u hu hcw h1 w0 (ru.on hb0))
    have RX := hid (rx.on hb0)
    by_cases hh : mhE (O : Int) u s.X f = 0
    · have CO := hid (fun (Az Aa : Option Addr) (cz ca : Nat) (W : World) (hn : NetR W (O : Int) u Az cz Aa) (h : Rd (Value.int .i64) W W.heap.size Ax s.X) => mq_off_ok (Az := Az) (Aa := Aa) (Ax := Ax) (cz := cz) (ca := ca) (cx := cx) O u s h1 iu hx ix iY f hh W hn h)
      obtain ⟨V, hV⟩ : ∃ V, moV (O : Int) u s f = V := ⟨_, rfl⟩
      obtain ⟨E, hE⟩ : ∃ E, moE (O : Int) u s f = E := ⟨_, rfl⟩
      obtain ⟨H, hH⟩ : ∃ H, mhL (O : Int) u s.X f = H := ⟨_, rfl⟩
      obtain ⟨X, hX⟩ : ∃ X, s.X = X := ⟨_, rfl⟩
      obtain ⟨Y, hY⟩ : ∃ Y, s.Y = Y := ⟨_, rfl⟩
      rw [hV, hE, hH, hX, hY] at CO
      rw [hX] at RX
      rw [hV, hE, hX, hY]
      rw [hX] at s0
      rw [hY] at s1
      rw [hX, hY] at hw0
      obtain ⟨N, hN⟩ : ∃ N, X.length = N := ⟨_, rfl⟩
      rw [hN] at CO s0 hw0 ⊢
      rw [hU] at CS ⊢
      clear hV hE hH hX hY hN hU h1 o1 o8 hu hcw iu hx ix iY ru rx ih hh hb0
      go_enter Try.func14, Try.ntmps14
      go_wp2_with fail
      refine CS.out.mono ?_
      rintro _ w1 ⟨Az, cz, Aa, ca, rfl, hn, hb1⟩
      obtain ⟨w2, hw2, hz2, hb2, g0, g1, g2⟩ := net_box w1 (.slice Az (O + 1) cz) (.int .i64 (O : Int)) (.slice Aa O ca) 55
      have B2 : Hid (Below w0.heap.size w0 w2) := hid (hb1.trans (hb2.mono hb1.size))
      have K2 : Hid (Below w.heap.size w w2) := hid (HB0.out.trans (B2.out.mono HB0.out.size))
      have CO2 := hid (CO.out Az Aa cz ca w2 (hn.on hb2) (RX.out.on B2.out))
      have s0' := (B2.out.cell (p := ⟨w.heap.size, 0, none⟩) hs0).trans s0
      have s1' := (B2.out.cell (p := ⟨w.heap.size, 1, none⟩) hs0).trans s1
      clear hn hb1 hb2 hz2 CS s0 s1 hw0 hs0
      go_wp2_with fail
      refine CO2.out.mono ?_
      rintro _ w3 ⟨A3, c3, rfl, ho3, hb3⟩
      have K3 : Hid (Below w.heap.size w w3) := hid (K2.out.trans (hb3.mono K2.out.size))
      clear ho3 hb3 hw2 g0 g1 g2 s0' s1'
      go_wp2_with fail
      go_ret2
      exact ⟨rfl, K3.out⟩
    · have CO := hid (fun (Az Aa : Option Addr) (cz ca : Nat) (W : World) (hn : NetR W (O : Int) u Az cz Aa) (h : Rd (Value.int .i64) W W.heap.size Ax s.X) => mq_off_bad (Az := Az) (Aa := Aa) (Ax := Ax) (cz := cz) (ca := ca) (cx := cx) O u s h1 iu hx ix iY f hh W hn h)
      have e2 : moV (O : Int) u s f = 0 := (mo_bad (s := s) hh).2
      rw [e2]
      obtain ⟨E, hE⟩ : ∃ E, moE (O : Int) u s f = E := ⟨_, rfl⟩
      obtain ⟨X, hX⟩ : ∃ X, s.X = X := ⟨_, rfl⟩
      obtain ⟨Y, hY⟩ : ∃ Y, s.Y = Y := ⟨_, rfl⟩
      rw [hE, hX, hY] at CO
      rw [hX] at RX
      rw [hE, hX, hY]
      rw [hX] at s0
      rw [hY] at s1
      rw [hX, hY] at hw0
      obtain ⟨N, hN⟩ : ∃ N, X.length = N := ⟨_, rfl⟩
      rw [hN] at CO s0 hw0 ⊢
      rw [hU] at CS ⊢
      clear e2 hE hX hY hN hU h1 o1 o8 hu hcw iu hx ix iY ru rx ih hh hb0
      go_enter Try.func14, Try.ntmps14
      go_wp2_with fail
      refine CS.out.mono ?_
      rintro _ w1 ⟨Az, cz, Aa, ca, rfl, hn, hb1⟩
      obtain ⟨w2, hw2, hz2, hb2, g0, g1, g2⟩ := net_box w1 (.slice Az (O + 1) cz) (.int .i64 (O : Int)) (.slice Aa O ca) 55
      have B2 : Hid (Below w0.heap.size w0 w2) := hid (hb1.trans (hb2.mono hb1.size))
      have K2 : Hid (Below w.heap.size w w2) := hid (HB0.out.trans (B2.out.mono HB0.out.size))
      have CO2 := hid (CO.out Az Aa cz ca w2 (hn.on hb2) (RX.out.on B2.out))
      have s0' := (B2.out.cell (p := ⟨w.heap.size, 0, none⟩) hs0).trans s0
      have s1' := (B2.out.cell (p := ⟨w.heap.size, 1, none⟩) hs0).trans s1
      clear hn hb1 hb2 hz2 CS s0 s1 hw0 hs0
      go_wp2_with fail
      refine CO2.out.mono ?_
      rintro _ w3 ⟨rfl, hb3⟩
      have K3 : Hid (Below w.heap.size w w3) := hid (K2.out.trans (hb3.mono K2.out.size))
      clear hb3 hw2 g0 g1 g2 s0' s1'
      go_wp2_with fail
      go_ret2
      exact ⟨rfl, K3.out⟩
  · have CS := hid (mq_split_bad (Au := Aw) (cu := cw) h ih u hu hcw h1 w0)
    have e0 : mhE h u s.X f = msE h u := by unfold mhE; rw [if_pos h1]
    obtain ⟨e1, e2⟩ := mo_bad (o := h) (u := u) (s := s) (f := f) (by rw [e0]; exact h1)
    rw [e1, e2, e0]
    obtain ⟨E, hE⟩ : ∃ E, msE h u = E := ⟨_, rfl⟩
    rw [hE] at CS h1 ⊢
    have hne : (E != 0) = true := by simpa using h1
    obtain ⟨N, hN⟩ : ∃ N, s.X.length = N := ⟨_, rfl⟩
    obtain ⟨Y, hY⟩ : ∃ Y, s.Y = Y := ⟨_, rfl⟩
    rw [hU] at CS ⊢
    rw [hN] at s0 hw0 ⊢
    rw [hY] at s1 hw0 ⊢
    clear e0 e1 e2 hE h1 hU hN hY ru rx iu ix iY hu hx ih hcw hb0
    go_enter Try.func14, Try.ntmps14
    go_wp2_with fail
    refine CS.out.mono ?_
    rintro _ w1 ⟨rfl, hb1⟩
    have K1 : Hid (Below w.heap.size w w1) := hid (HB0.out.trans (hb1.mono HB0.out.size))
    clear hb1 CS s0 s1 hw0 hs0
    go_wp2_with fail
    go_ret2
    exact ⟨rfl, K1.out.alloc K1.out.size _⟩
end Go.Proofs.Ytekpejemfkjhcaa
namespace Go.Proofs.Ytekpejemfkjhcaa
open Go.RowKit
set_option maxHeartbeats 400000
set_option maxRecDepth 100000
set_option linter.unusedVariables false
/-- Which way the document's quotient goes: x, y tell the signs; V, E what it comes to. -/
def DivWay (q r : Int) (f x y : Bool) (V E : Int) : Prop :=
  (f = false ∧ V = 0 ∧ E = 2) ∨ (f = true ∧ 9223372036854775808 < q ∧ V = 0 ∧ E = 2) ∨
  (f = true ∧ q ≤ 9223372036854775808 ∧ (x == y) = true ∧ (q == 9223372036854775808) = true ∧ V = 0 ∧ E = 2) ∨
  (f = true ∧ q ≤ 9223372036854775807 ∧ (x == y) = true ∧ (q == 9223372036854775808) = false ∧ V = q ∧ E = 0) ∨
  (f = true ∧ q ≤ 9223372036854775808 ∧ (x == y) = false ∧ 0 < r ∧ 9223372036854775808 < q + 1 ∧ V = 0 ∧ E = 2) ∨
  (f = true ∧ q ≤ 9223372036854775808 ∧ (x == y) = false ∧ 0 < r ∧ q + 1 ≤ 9223372036854775808 ∧ wrap64 (IntKind.u64.wrap (-(q + 1))) = V ∧ E = 0) ∨
  (f = true ∧ q ≤ 9223372036854775808 ∧ (x == y) = false ∧ ¬ 0 < r ∧ q ≤ 9223372036854775808 ∧ wrap64 (IntKind.u64.wrap (-q)) = V ∧ E = 0)
theorem quietLd {P : Program} {f : FuncId} {args : Array Value} {w : World} {n : Nat} {v : Value}
    (h : Calls P f args (w.drewN n) fun e w' => e = .returned v ∧ w.drewN n = w') : Calls P f args (w.drewN n) fun e w'' => e = .returned v ∧ ∃ m, w'' = w.drewN m :=
  h.mono fun _ _ ⟨he, hm⟩ => ⟨he, n, hm.symm⟩
theorem Div_core (a b h l : Int) (k : Nat) (hk : k ≤ 30) (ha : I64 a) (hb : I64 b) (b0 : (b == 0) = false) (x y : Bool) (d1 : decide (a < 0) = x) (d2 : decide (b < 0) = y) (p1 : 1 ≤ (2 : Int) ^ k) (p2 : (2 : Int) ^ k ≤ 1073741824)
    (HT : Hid (∀ W, Calls Try.prog 85 #[.int .u64 (absI a), .int .u64 (2 ^ k)] W fun e W' => e = .returned (.tuple #[.int .u64 h, .int .u64 l]) ∧ W = W'))
    (HO : Hid (∀ W, Calls Try.prog 87 #[.int .u64 h, .int .u64 l, .int .u64 (absI b)] W (OverPost h l (absI b) W)))
    (V E : Int) (hw : ∀ q r f, OvR h l (absI b) 0 r q f → DivWay q r f x y V E ∧ 0 ≤ q) (w : World) :
    Calls Try.prog 76 #[.int .i64 a, .int .i64 b, .int .i64 k] w fun e w' => e = .returned (.tuple #[.int .i64 V, .int .i64 E]) ∧ Below w.heap.size w w' := by
  have HW := hid hw
  clear hw
  go_enter Try.func76, Try.ntmps76
  go_wp2_with fail
  go_quiet ((first | (go_at_call 86; exact quietLd (ref_size a ha _)) | (go_at_call 85; exact quietLd (HT.out _))))
  go_wp2_with fail
  refine (ref_size b hb _).mono ?_
  rintro _ _ ⟨rfl, rfl⟩
  go_wp2_with fail
  refine (HO.out _).mono ?_
  rintro _ _ ⟨q, r, f, rfl, ho, rfl⟩
  obtain ⟨hv, hq0⟩ := HW.out q r f ho
  clear HW HO HT ho
  rcases hv with ⟨rfl, rfl, rfl⟩ | ⟨rfl, h1, rfl, rfl⟩ | ⟨rfl, h1, h2, h3, rfl, rfl⟩ | ⟨rfl, h1, h2, h3, rfl, rfl⟩ | ⟨rfl, h1, h2, h3, h4, rfl, rfl⟩ | ⟨rfl, h1, h2, h3, h4, h5, rfl⟩ | ⟨rfl, h1, h2, h3, h4, h5, rfl⟩ <;>
  · go_wp2_with fail
    go_ret2
    first | exact ⟨rfl, below_drewN (Below.refl _ _) _⟩ | exact ⟨ret2 h5 rfl, below_drewN (Below.refl _ _) _⟩
theorem div_ways {a b h l : Int} {p : Int} (hp : 0 ≤ p) (ha : I64 a) (hb : I64 b) (hb0 : b ≠ 0) (hN : h * 18446744073709551616 + l = absI a * p) (hl : 0 ≤ l) (hl' : l < 18446744073709551616)
    (q r : Int) (f : Bool) (ho : OvR h l (absI b) 0 r q f) : DivWay q r f (decide (a < 0)) (decide (b < 0)) (ckV (quoF (a * p) b)) (ckE (quoF (a * p) b)) ∧ 0 ≤ q := by
  obtain ⟨o1, o2, o3, o4, o5⟩ := ho
  obtain ⟨o6, o7⟩ := o5 (by decide)
  rw [hN, Int.pow_zero, Int.ediv_one] at o2 o7
  rw [Int.mul_one] at o7
  refine ⟨?_, o3.1⟩
  have hm : 1 ≤ absI b := by unfold absI; split <;> omega
  have hA := (absI_le ha).1
  have hN0 : 0 ≤ absI a * p := Int.mul_nonneg hA hp
  have e := Int.mul_ediv_add_emod (absI a * p) (absI b)
  have e1 := Int.emod_nonneg (absI a * p) (show absI b ≠ 0 by omega)
  have e2 := Int.emod_lt_of_pos (absI a * p) (show 0 < absI b by omega)
  have e3 : 0 ≤ absI a * p / absI b := Int.ediv_nonneg hN0 (by omega)
  rw [← o2] at e e1 e2
  -- what is asked for, by the signs
  have same : (decide (a < 0) == decide (b < 0)) = true → quoF (a * p) b = absI a * p / absI b := by
    intro s
    unfold quoF absI
    rcases Int.lt_or_le a 0 with ca | ca <;> rcases Int.lt_or_le b 0 with cb | cb
    · rw [if_pos cb, if_pos ca, if_pos cb, Int.neg_mul]
    · exfalso; simp [ca, show ¬ b < 0 by omega] at s
    · exfalso; simp [cb, show ¬ a < 0 by omega] at s
    · rw [if_neg (by omega), if_neg (by omega), if_neg (by omega)]
  have other : (decide (a < 0) == decide (b < 0)) = false → quoF (a * p) b = -(absI a * p) / absI b := by
    intro s
    unfold quoF absI
    rcases Int.lt_or_le a 0 with ca | ca <;> rcases Int.lt_or_le b 0 with cb | cb
    · exfalso; simp [ca, cb] at s
    · rw [if_neg (by omega), if_pos ca, if_neg (by omega), Int.neg_mul, Int.neg_neg]
    · rw [if_pos cb, if_neg (by omega), if_pos cb]
    · exfalso; simp [show ¬ a < 0 by omega, show ¬ b < 0 by omega] at s
  have neg0 : r = 0 → -(absI a * p) / absI b = -(absI a * p / absI b) := by
    intro hr
    have : -(absI a * p) = -(absI a * p / absI b) * absI b := by rw [Int.neg_mul, Int.mul_comm (absI a * p / absI b)]; omega
    conv => lhs; rw [this]
    exact Int.mul_ediv_cancel _ (by omega)
  have neg1 : 0 < r → -(absI a * p) / absI b = -(absI a * p / absI b + 1) := by
    intro hr
    have : -(absI a * p) = (absI b - r) + -(absI a * p / absI b + 1) * absI b := by rw [Int.neg_mul, Int.add_mul, Int.one_mul, Int.mul_comm (absI a * p / absI b)]; omega
    have k : (absI b - r) / absI b = 0 := Int.ediv_eq_zero_of_lt (by omega) (by omega)
    conv => lhs; rw [this, Int.add_mul_ediv_right _ _ (show absI b ≠ 0 by omega), k]
    omega
  generalize absI a * p = N at *
  generalize absI b = m at *
  generalize quoF (a * p) b = S at *
  have big : ¬ h < m → 18446744073709551616 ≤ N / m := by
    intro c
    refine Int.le_ediv_of_mul_le (by omega) ?_
    have := Int.mul_le_mul_of_nonneg_left (show m ≤ h by omega) (show (0 : Int) ≤ 18446744073709551616 by decide)
    omega
  unfold DivWay
  generalize (decide (a < 0) == decide (b < 0)) = s at *
  have inn : ∀ {z}, S = z → I64 z → ckV S = z ∧ ckE S = 0 := fun h1 h2 => by rw [h1]; exact ⟨ckV_in h2, ckE_in h2⟩
  have out : ∀ {z}, S = z → ¬ I64 z → ckV S = 0 ∧ ckE S = 2 := fun h1 h2 => by rw [h1]; exact ⟨ckV_out h2, ckE_out h2⟩
  have SV : (s = true ∧ S = N / m) ∨ (s = false ∧ 0 < r ∧ S = -(N / m + 1)) ∨ (s = false ∧ r = 0 ∧ S = -(N / m)) := by
    cases s
    · rcases Int.lt_or_le 0 r with c | c
      · right; left; exact ⟨rfl, c, (other rfl).trans (neg1 c)⟩
      · right; right; exact ⟨rfl, by omega, (other rfl).trans (neg0 (by omega))⟩
    · left; exact ⟨rfl, same rfl⟩
  by_cases hf : h < m
  · have hft := o6.2 hf
    have hq := o7 hf
    rw [← hq] at SV
    by_cases h63 : 9223372036854775808 < q
    · right; left
      have : ckV S = 0 ∧ ckE S = 2 := by
        rcases SV with ⟨_, c⟩ | ⟨_, _, c⟩ | ⟨_, _, c⟩ <;> exact out c (by unfold I64; omega)
      exact ⟨hft, h63, this⟩
    · rcases SV with ⟨c1, c⟩ | ⟨c1, c2, c⟩ | ⟨c1, c2, c⟩
      · by_cases hz : q = 9223372036854775808
        · right; right; left
          exact ⟨hft, by omega, c1, by simpa using hz, out c (by unfold I64; omega)⟩
        · right; right; right; left
          exact ⟨hft, by omega, c1, by simpa using hz, inn c (by have := o3.1; unfold I64; omega)⟩
      · by_cases hz : 9223372036854775808 < q + 1
        · right; right; right; right; left
          exact ⟨hft, by omega, c1, c2, hz, out c (by unfold I64; omega)⟩
        · right; right; right; right; right; left
          have i := inn c (by have := o3.1; unfold I64; omega)
          refine ⟨hft, by omega, c1, c2, by omega, ?_, i.2⟩
          rw [i.1, IntKind.wrap_u64, wrap64_eq]
          have := o3.1
          omega
      · right; right; right; right; right; right
        have i := inn c (by have := o3.1; unfold I64; omega)
        refine ⟨hft, by omega, c1, by omega, by omega, ?_, i.2⟩
        rw [i.1, IntKind.wrap_u64, wrap64_eq]
        have := o3.1
        omega
  · left
    have hff : f = false := by
      cases f
      · rfl
      · exact absurd (o6.1 rfl) hf
    have hb := big hf
    have : ckV S = 0 ∧ ckE S = 2 := by
      rcases SV with ⟨_, c⟩ | ⟨_, _, c⟩ | ⟨_, _, c⟩ <;> exact out c (by unfold I64; omega)
    exact ⟨hff, this⟩
theorem ref_Div (a b : Int) (k : Nat) (hk : k ≤ 30) (ha : I64 a) (hb : I64 b) (h0 : b ≠ 0) (w : World) :
    Calls Try.prog 76 #[.int .i64 a, .int .i64 b, .int .i64 k] w fun e w' => e = .returned (.tuple #[.int .i64 (ckV (quoF (a * 2 ^ k) b)), .int .i64 (ckE (quoF (a * 2 ^ k) b))]) ∧ Below w.heap.size w w' := by
  have hp := i64_pow hk
  have p1 := hp.2.1
  have p2 := hp.2.2
  have A := absI_le ha
  have B := absI_le hb
  have m0 : 0 ≤ absI a * 2 ^ k := Int.mul_nonneg A.1 (by omega)
  have m1 := Int.mul_le_mul A.2 p1 (show (0 : Int) ≤ 2 ^ k by omega) (by decide)
  have hm : 1 ≤ absI b := by unfold absI; split <;> omega
  refine Div_core a b (absI a * 2 ^ k / 18446744073709551616) (absI a * 2 ^ k % 18446744073709551616) k hk ha hb (by simpa using h0) _ _ rfl rfl p2 p1
    (hid fun W => ref_Times (absI a) (2 ^ k) ⟨A.1, by omega⟩ ⟨by omega, by omega⟩ W)
    (hid fun W => ref_over _ _ _ ⟨by omega, by omega⟩ ⟨by omega, by omega⟩ ⟨B.1, by omega⟩ hm W)
    _ _ (fun q r f ho => div_ways (by omega) ha hb h0 (by omega) (by omega) (by omega) q r f ho) w
theorem ref_Quot (a b : Int) (ha : I64 a) (hb : I64 b) (h0 : b ≠ 0) (w : World) :
    Calls Try.prog 60 #[.int .i64 a, .int .i64 b] w fun e w' => e = .returned (.tuple #[.int .i64 (ckV (quoF a b)), .int .i64 (ckE (quoF a b))]) ∧ Below w.heap.size w w' := by
  have h := fun W => ref_Div a b 0 (by omega) ha hb h0 W
  simp only [Int.pow_zero, Int.mul_one, Int.natCast_zero] at h
  have H := hid h
  clear h
  go_enter Try.func60, Try.ntmps60
  go_wp2_with fail
  refine (H.out _).mono ?_
  rintro e w1 ⟨rfl, hb1⟩
  go_wp2_with fail
  go_ret2
  exact ⟨rfl, hb1⟩
end Go.Proofs.Ytekpejemfkjhcaa
/- Lines, by the document: vectors' mean. -/
namespace Go.Proofs.Ytekpejemfkjhcaa
open Go.RowKit
set_option maxHeartbeats 2000000
set_option maxRecDepth 100000
set_option linter.unusedVariables false
theorem ln_quo {x n : Int} (hx : I64 x) (hn : 1 ≤ n) : ckV (quoF x n) = x / n ∧ ckE (quoF x n) = 0 := by
  have e : quoF x n = x / n := by unfold quoF; rw [if_neg (by omega)]
  have h1 : x / n ≤ 9223372036854775807 := by
    rcases Int.lt_or_le x 0 with h | h
    · have := Int.ediv_neg_of_neg_of_pos h (show 0 < n by omega); omega
    · have := Int.ediv_le_self n h; unfold I64 at hx; omega
  have h2 : -9223372036854775808 ≤ x / n := by
    refine (Int.le_ediv_iff_mul_le (by omega)).2 ?_
    unfold I64 at hx
    have : -9223372036854775808 * n ≤ -9223372036854775808 * 1 := Int.mul_le_mul_of_nonpos_left (by decide) hn
    omega
  have h : I64 (x / n) := ⟨h2, h1⟩
  rw [e]
  exact ⟨ckV_in h, ckE_in h⟩
theorem ref_Mean14 {A : Option Addr} {c : Nat} (n : Int) (hn : I64 n) (rows : List (List Int)) (ho : RowsOk rows) (hr : rows.length ≤ 1099511627776) (w : World) (ra : RdRows w w.heap.size A rows) :
    Calls Try.prog 44 #[.int .i64 n, .slice A rows.length c] w (OwnInts (lmV n rows) (lmE n rows) w) := by
  have CS := hid (rSum_any A c rows ho hr w ra)
  obtain ⟨R, hR⟩ : ∃ R, rows.length = R := ⟨_, rfl⟩
  by_cases h1 : n < 1
  · have e1 : lmE n rows = 1 := if_pos h1
    have e2 : lmV n rows = [] := if_neg (by rw [e1]; decide)
    rw [e1, e2]
    rw [hR]
    clear e1 e2 ra ho hR
    go_enter Try.func44, Try.ntmps44
    go_wp2_with fail
    go_ret2
    exact ⟨none, 0, rfl, own_nil _ _ _, Below.refl _ _⟩
  · have eE : lmE n rows = (sumAll rows).2 := if_neg h1
    have hl := sumAll_len ho
    have hi := sumAll_i64 ho
    by_cases h2 : (sumAll rows).2 = 0
    · have eV : lmV n rows = (sumAll rows).1.map fun x => x / n := if_pos (by rw [eE]; exact h2)
      rw [eE, eV]
      rw [h2] at CS ⊢
      obtain ⟨S, hS⟩ : ∃ S, (sumAll rows).1 = S := ⟨_, rfl⟩
      rw [hS] at CS hl hi ⊢
      obtain ⟨M, hM⟩ : ∃ M, S.length = M := ⟨_, rfl⟩
      have HM := hid hM
      have HI := hid hi
      have HN := hid hn
      have hn1 : 1 ≤ n := by omega
      have HN1 := hid hn1
      rw [hM] at hl
      have HL := hid hl
      obtain ⟨Q, hQ⟩ : ∃ Q, (S.map fun x => x / n) = Q := ⟨_, rfl⟩
      have HQ := hid hQ
      have HQl : Hid (Q.length = M) := hid (by rw [← hQ, List.length_map]; exact hM)
      rw [hQ]
      rw [hR] at CS ⊢
      clear eE eV h2 hS hi ra ho hQ hn hl
      go_enter Try.func44, Try.ntmps44
      go_wp2_with fail
      refine CS.out.mono ?_
      rintro _ w1 ⟨A1, c1, rfl, ho1, hb1⟩
      rw [HM.out]
      have RS : Hid (Rd (Value.int .i64) w1 w1.heap.size A1 S) := hid (own_rd ho1)
      have K1 := hid hb1
      clear ho1 hb1 hM
      go_wp2_with fail
      have hl := HL.out
      go_loopw [8, 10, 11, 12, 25] (fun xo _ _ _ xi wr => ∃ (k : Nat) (T : List Int) (A2 : Option Addr) (c2 : Nat), k ≤ M ∧ xi = .int .i64 (k : Int) ∧ xo = .slice A2 T.length c2 ∧ T = Q.take k ∧ wr.ownsRow w1.heap.size 2 1 (.slice A2 T.length c2) T.length (T.map (Value.int .i64)) ∧ Below w1.heap.size w1 wr) (fun _ _ _ _ xi _ => M - (intOf xi).toNat)
      case atStart => exact ⟨0, [], none, 0, Nat.zero_le _, rfl, rfl, rfl, own_nil _ _ _, Below.refl _ _⟩
      case round =>
        obtain ⟨k, T, A2, c2, hk, rfl, rfl, hT, ho, hbel⟩ := hrel
        have hTl : T.length = k := by rw [hT, List.length_take, HQl.out]; omega
        have HT := hid hT
        have HO := hid ho
        have HB := hid hbel
        have HTl := hid hTl
        clear hT ho hTl
        by_cases hlt : k < M
        · obtain ⟨b4, o4, x, rfl, l4, en, c4⟩ := (RS.out.on hbel).at_ (k := k) (by rw [HM.out]; exact hlt)
          have ix : I64 x := HI.out.at_ en
          obtain ⟨u1, u2⟩ := ln_quo ix HN1.out
          have CQ := hid (ref_Quot x n ix HN.out (by have := HN1.out; omega) wr)
          rw [u1, u2] at CQ
          obtain ⟨q, hq⟩ : ∃ q, x / n = q := ⟨_, rfl⟩
          rw [hq] at CQ
          have hnx : Q.take (k + 1) = Q.take k ++ [q] := by
            rw [List.take_add_one, ← HQ.out, List.getElem?_map, en]
            rw [← hq]; rfl
          have HNX := hid hnx
          clear en ix u1 u2 hq hnx hbel
          go_wp2_with fail
          refine CQ.out.mono ?_
          rintro _ w4 ⟨rfl, hb4⟩
          have kk : Below w1.heap.size w1 w4 := HB.out.trans (hb4.mono HB.out.size)
          have HK := hid kk
          have hr0 : Rd (Value.int .i64) (w4.alloc (.cells #[.int .i64 q] 2)) _ (some ⟨w4.heap.size, 0, none⟩) [q] := rd_one (one_cell w4 (.int .i64 q) 2).1
          have h0' := own_on (own_on HO.out hb4) ((Below.refl w4.heap.size w4).alloc (Nat.le_refl _) (.cells #[.int .i64 q] 2))
          clear hb4 kk
          go_wp2_with (at_builtin; refine wpList_app (Value.int .i64) (fun _ => rfl) _ rfl _ _ 22 rfl w1.heap.size 2 (.int .i64 0) 8 Try.underlying22 info_i64 rfl T _ _ rfl h0' [q] _ 1 _ rfl hr0 (by have := HTl.out; simp [maxLen]; omega) (by have := HTl.out; simp; omega) (by have := HK.out.size; simp; omega) ?_)
          rintro S' A' c' w5 hS' ho' hb5 _
          have HS' := hid hS'
          have HO' := hid ho'
          have HK5 : Hid (Below w1.heap.size w1 w5) := hid ((HK.out.alloc HK.out.size _).trans hb5)
          clear hS' ho' h0' hr0 hb5
          go_wp2_with fail
          go_roundw
          case rel => exact ⟨k + 1, S', A', c', by omega, by go_num, rfl, by rw [HS'.out, HNX.out, HT.out], HO'.out, HK5.out⟩
          case measure => simp [intOf]; omega
        · obtain rfl : k = M := by omega
          have hTQ : T = Q := by rw [HT.out]; exact List.take_of_length_le (by rw [HQl.out]; exact Nat.le_refl _)
          subst hTQ
          clear hbel
          go_wp2_with fail
          go_ret2
          exact ⟨A2, c2, rfl, own_base HO.out K1.out.size, K1.out.trans (HB.out.mono K1.out.size)⟩
    · have eV : lmV n rows = [] := if_neg (by rw [eE]; exact h2)
      rw [eE, eV]
      obtain ⟨E, hE⟩ : ∃ E, (sumAll rows).2 = E := ⟨_, rfl⟩
      rw [hE] at CS h2 ⊢
      have hne : (E != 0) = true := by simpa using h2
      rw [hR] at CS ⊢
      have hn1 : ¬ n < 1 := h1
      clear eE eV hE h2 ra ho hi hl hR
      go_enter Try.func44, Try.ntmps44
      go_wp2_with fail
      refine CS.out.mono ?_
      rintro _ w1 ⟨A1, c1, rfl, ho1, hb1⟩
      clear ho1
      go_wp2_with fail
      go_ret2
      exact ⟨none, 0, rfl, own_nil _ _ _, hb1⟩
end Go.Proofs.Ytekpejemfkjhcaa
/- Lines, by the document: how bad one is. -/
namespace Go.Proofs.Ytekpejemfkjhcaa
open Go.RowKit
set_option maxHeartbeats 2000000
set_option maxRecDepth 100000
set_option linter.unusedVariables false
theorem ln_rmul (a b m : Int) (ha : I64 a) (hb : I64 b) (w : World) :
    Calls Try.prog 57 #[.int .i64 a, .int .i64 b, .int .i64 m] w fun e w' => e = .returned (.tuple #[.int .i64 (mulV a b m), .int .i64 (mulE a b m)]) ∧ w = w' := by
  by_cases h : m < 0 ∨ 30 < m
  · rw [show mulV a b m = 0 from if_pos h, show mulE a b m = 1 from if_pos h]
    exact ref_Mul_bad a b m h w
  · rw [show mulV a b m = ckV (a * b / 2 ^ m.toNat) from if_neg h, show mulE a b m = ckE (a * b / 2 ^ m.toNat) from if_neg h]
    have := ref_Mul a b m.toNat (by omega) ha hb w
    rwa [show ((m.toNat : Nat) : Int) = m by omega] at this
end Go.Proofs.Ytekpejemfkjhcaa
/- Two layers, by the landed code: the lines, for whoever asks. -/
namespace Go.Proofs.Ytekpejemfkjhcaa
open Go.RowKit
set_option maxHeartbeats 4000000
set_option maxRecDepth 100000
set_option linter.unusedVariables false
theorem RdX.less {w : World} {base b2 : Nat} {G : Option Nat} {A : Option Addr} {xs : List Int} (h : RdX w base G A xs) (hb : b2 ≤ base) : RdX w b2 G A xs := fun j x hx => by
  obtain ⟨b, o, e, hg, r⟩ := h j x hx
  exact ⟨b, o, e, by omega, r⟩
theorem OwnRw.less {w : World} {base b2 : Nat} {A : Option Addr} {c : Nat} {rows : List (List Int)} (h : OwnRw w base A c rows) (hb : b2 ≤ base) : OwnRw w b2 A c rows := by
  obtain ⟨ps, hl, ho, hr⟩ := h
  exact ⟨ps, hl, own_base ho hb, fun k p xs h1 h2 => ⟨(hr k p xs h1 h2).1, (hr k p xs h1 h2).2.less hb⟩⟩
theorem OwnRw.room {w : World} {base : Nat} {A : Option Addr} {c : Nat} (h : w.ownsRow base 22 1 (.slice A 0 c) 0 []) : OwnRw w base A c [] := ⟨[], rfl, h, fun k p xs hp => by simp at hp⟩
theorem ml_Split {Au : Option Addr} {cu : Nat} (h : Int) (ih : I64 h) (u : List Int) (hu : u.length ≤ cu) (hcu : cu ≤ 9223372036854775807) (w : World) (ru : Rd (Value.int .i64) w w.heap.size Au u) :
    Calls Try.prog 16 #[.int .i64 h, .slice Au u.length cu] w (OwnRwZ (mlO h u) (mzO h u) (msE h u) w) := by
  by_cases h1 : msE h u = 0
  · obtain ⟨⟨o1, o8⟩, ⟨m1, m16⟩, hdim⟩ := msE_ok.1 h1
    obtain ⟨O, rfl⟩ : ∃ O : Nat, h = (O : Int) := ⟨h.toNat, by omega⟩
    have CS := hid (mq_split_ok (Au := Au) (cu := cu) O u hu hcu h1 w ru)
    have e0 : mlO (O : Int) u = mlL (O : Int) u := if_pos h1
    have e1 : mzO (O : Int) u = mlZ (O : Int) u := if_pos h1
    obtain ⟨hRl, hRr⟩ := mlL_row h1
    have hZl := mlZ_len h1
    rw [h1, e0, e1]
    obtain ⟨m, hm⟩ : ∃ m, msN (O : Int) u = m := ⟨_, rfl⟩
    rw [hm] at hRr m16
    rw [Int.toNat_natCast] at hRl hZl
    obtain ⟨rows, hrows⟩ : ∃ rows, mlL (O : Int) u = rows := ⟨_, rfl⟩
    obtain ⟨Z, hZ⟩ : ∃ Z, mlZ (O : Int) u = Z := ⟨_, rfl⟩
    have HN := hid (fun (W : World) (Az Aa : Option Addr) (cz : Nat) (hn : NetR W (O : Int) u Az cz Aa) => (by
      obtain ⟨a, b, c, d⟩ := hn
      rw [hZ] at a b
      rw [hrows, hm] at d
      exact ⟨a, b, c, d⟩ : Rd (Value.int .i64) W W.heap.size Az Z ∧ Z.length ≤ cz ∧ cz ≤ 9223372036854775807 ∧ RdLn W W.heap.size Aa rows m))
    rw [hrows] at hRl hRr ⊢
    rw [hZ] at hZl ⊢
    obtain ⟨U, hU⟩ : ∃ U, u.length = U := ⟨_, rfl⟩
    rw [hU] at CS ⊢
    have hmk := fun W => run_room (P := Try.prog) 33 22 (.slice none 0 0) 24 Try.underlying33 info_row rfl O (by omega) (by omega) W
    have HRL := hid hRl
    have HRR := hid hRr
    have HZL := hid hZl
    have HO8 : Hid (O ≤ 8) := hid (by omega)
    have HM16 := hid m16
    clear e0 e1 h1 o1 o8 m1 m16 hdim hRl hRr hZl hm hrows hZ hU hu hcu ru ih
    go_enter Try.func16, Try.ntmps16
    go_wp2_with fail
    refine CS.out.mono ?_
    rintro _ w1 ⟨Az, cz, Aa, ca, rfl, hn, hb1⟩
    obtain ⟨n0, n1, n2, n3⟩ := HN.out w1 Az Aa cz hn
    obtain ⟨w2, hw2⟩ : ∃ w2, w1.alloc (.cells #[.slice Az (O + 1) cz, .int .i64 (O : Int), .slice Aa O ca] 55) = w2 := ⟨_, rfl⟩
    have hb2 : Below w1.heap.size w1 w2 := by rw [← hw2]; exact (Below.refl _ _).alloc (Nat.le_refl _) _
    have hz2 : w2.heap.size = w1.heap.size + 1 := by rw [← hw2]; simp
    have g0 : w2.cell? ⟨w1.heap.size, 0, none⟩ = some (.slice Az (O + 1) cz) := by rw [← hw2]; simp [go_sem]
    have g1 : w2.cell? ⟨w1.heap.size, 1, none⟩ = some (.int .i64 (O : Int)) := by rw [← hw2]; simp [go_sem]
    have g2 : w2.cell? ⟨w1.heap.size, 2, none⟩ = some (.slice Aa O ca) := by rw [← hw2]; simp [go_sem]
    have G0 := hid g0
    have G1 := hid g1
    have K1 := hid hb1
    have B2 := hid hb2
    have N0 := hid n0
    have N1 := hid n1
    have N2 := hid n2
    have N3 := hid n3
    have Z2 := hid hz2
    have hro := own_room w2 22 (.slice none 0 0) O (by have := HO8.out; unfold maxLen; omega) (B := w2.heap.size) (Nat.le_refl _)
    have HRO := hid hro
    have g2' : (w2.alloc (.cells (madeCells #[Value.slice none 0 0] O) 22)).cell? ⟨w1.heap.size, 2, none⟩ = some (.slice Aa O ca) := (((Below.refl w2.heap.size w2).alloc (Nat.le_refl _) _).cell (p := ⟨w1.heap.size, 2, none⟩) (by show w1.heap.size < w2.heap.size; omega)).trans g2
    clear hb1 hb2 hn n0 n1 n2 n3 hz2 HN CS hro
    go_wp2_with fail
    clear hw2 hmk g0 g1 g2 g2'
    go_loopw [9, 11, 26] (fun xl _ xi wr => ∃ (k : Nat) (A2 : Option Addr) (c2 : Nat), k ≤ O ∧ xi = .int .i64 (k : Int) ∧ xl = .slice A2 k c2 ∧ OwnRw wr w2.heap.size A2 c2 (rows.take k) ∧ Below w2.heap.size w2 wr) (fun _ _ xi _ => O - (intOf xi).toNat)
    case atStart => exact ⟨0, _, _, Nat.zero_le _, rfl, rfl, OwnRw.room HRO.out, (Below.refl _ _).alloc (Nat.le_refl _) _⟩
    case round =>
      obtain ⟨k, A2, c2, hk, rfl, rfl, ho, hbel⟩ := hrel
      have HO := hid ho
      have HB := hid hbel
      have HB1 : Hid (Below w1.heap.size w1 wr) := hid (B2.out.trans (hbel.mono B2.out.size))
      clear ho
      by_cases hlt : k < O
      · obtain ⟨b, off, r, Ar, cr, rfl, hb, er, q0, q1, h3, h4, rr⟩ := (N3.out.on HB1.out).at_ (k := k) (by rw [HRL.out]; exact hlt)
        have hrl : r.length = m + 1 := HRR.out r (List.mem_of_getElem? er)
        have HTN : Hid (rows.take (k + 1) = rows.take k ++ [r]) := hid (by rw [List.take_add_one, er]; rfl)
        obtain ⟨n, hn⟩ : ∃ n, r.length = n := ⟨_, rfl⟩
        have HNN := hid hn
        obtain ⟨w3, hw3⟩ : ∃ w3, wr.alloc (.cells #[.slice Ar n cr, .int .i64 (m : Int)] 52) = w3 := ⟨_, rfl⟩
        have hb3 : Below wr.heap.size wr w3 := by rw [← hw3]; exact (Below.refl _ _).alloc (Nat.le_refl _) _
        have l0 : w3.cell? ⟨wr.heap.size, 0, none⟩ = some (.slice Ar n cr) := by rw [← hw3]; simp [go_sem]
        have l1 : w3.cell? ⟨wr.heap.size, 1, none⟩ = some (.int .i64 (m : Int)) := by rw [← hw3]; simp [go_sem]
        have CO := hid (mq_own (A := Ar) (c := cr) r (by have := HM16.out; omega) (m : Int) w3 (rr.on hb3))
        rw [hn] at q0 CO
        have HO3 := hid (HO.out.on hb3)
        have K3 : Hid (Below w2.heap.size w2 w3) := hid (HB.out.trans (hb3.mono HB.out.size))
        have HKM := hid hlt
        have hw : IntKind.i64.wrap ((k : Int) + 1) = ((k + 1 : Nat) : Int) := Go.IntWalk.i64_in _ (by have := HO8.out; omega)
        have HW := hid hw
        clear hn er rr h3 h4 hrl hb3 hbel hw
        go_wp2_with fail
        refine CO.out.mono ?_
        rintro _ w6 ⟨A6, c6, rfl, ho6, hb6⟩
        rw [HNN.out] at ho6 ⊢
        have HO6 := hid (HO3.out.on hb6)
        have K6 : Hid (Below w2.heap.size w2 w6) := hid (K3.out.trans (hb6.mono K3.out.size))
        have hz := K3.out.size
        have ho6' : w6.ownsRow w3.heap.size 2 1 (.slice A6 r.length c6) r.length (r.map (Value.int .i64)) := by rw [HNN.out]; exact ho6
        have HRX := hid (rdx_own (base := w2.heap.size) ho6' hz (fun g hg => (HO3.out.lies g hg).2))
        have g7 : Below w6.heap.size w6 (w6.alloc (.cells #[.slice A6 n c6] 22)) := (Below.refl _ _).alloc (Nat.le_refl _) _
        have HRX7 := hid (HRX.out.on g7)
        have HC6 := hid (own_cap ho6)
        have r7 : Rd encS (w6.alloc (.cells #[.slice A6 n c6] 22)) _ (some ⟨w6.heap.size, 0, none⟩) [(A6, n, c6)] := rd_one (enc := encS) (one_cell w6 (.slice A6 n c6) 22).1
        obtain ⟨ps, hpl, hop, hpr⟩ := HO6.out.on g7
        have HPR := hid hpr
        have HPL := hid hpl
        have HPK : Hid (ps.length = k) := hid (by rw [hpl, List.length_take, HRL.out]; have := HKM.out; omega)
        have K7 : Hid (Below w2.heap.size w2 (w6.alloc (.cells #[.slice A6 n c6] 22))) := hid (K6.out.trans (g7.mono K6.out.size))
        have hz7 := K7.out.size
        clear ho6 ho6' hb6 g7 hpr hpl HRX hw3 l0 l1 q0 q1 hz
        go_wp2_with (at_builtin; refine wpList_app5 encS (fun _ => rfl) _ rfl _ _ 33 rfl w2.heap.size 22 (.slice none 0 0) 24 Try.underlying33 info_row rfl ps A2 c2 (by rw [HPK.out]; rfl) hop [(A6, n, c6)] (some ⟨w6.heap.size, 0, none⟩) 1 _ rfl r7 (by have := HPK.out; have := HKM.out; have := HO8.out; simp [maxLen]; omega) (by have := HPK.out; have := HKM.out; have := HO8.out; simp; omega) hz7 ?_)
        rintro S A8 c8 w8 hS ho8 hb8 hg8 hq8
        have HN8 := hid (OwnRw.app HPL.out HPR.out (p := (A6, n, c6)) (xs := r) ⟨HNN.out.symm, HC6.out⟩ HRX7.out hS ho8 hg8 (by simpa using hq8))
        have hSl : S.length = k + 1 := by rw [hS, List.length_append, HPK.out]; rfl
        rw [hSl]
        have K8 : Hid (Below w2.heap.size w2 w8) := hid (K7.out.trans hb8)
        have hw := HW.out
        clear hS ho8 hb8 hg8 hq8 hSl r7 hop hz7
        go_wp2_with fail
        go_roundw
        case rel =>
          refine ⟨k + 1, A8, c8, HKM.out, rfl, rfl, ?_, K8.out⟩
          rw [HTN.out]
          exact HN8.out
        case measure => have := HKM.out; (try clear hw); simp [intOf]; omega
      · obtain rfl : k = O := by omega
        have htk : rows.take k = rows := List.take_of_length_le (by rw [HRL.out]; exact Nat.le_refl _)
        rw [htk] at HO
        have hl1 : w1.heap.size < w2.heap.size := by rw [Z2.out]; omega
        have g0' := (hbel.cell (p := ⟨w1.heap.size, 0, none⟩) hl1).trans G0.out
        have g1' := (hbel.cell (p := ⟨w1.heap.size, 1, none⟩) hl1).trans G1.out
        have CO := hid (mq_own (A := Az) (c := cz) Z (by rw [HZL.out]; have := HO8.out; omega) (k : Int) wr (N0.out.on HB1.out))
        rw [HZL.out] at CO
        clear htk hbel hl1
        go_wp2_with fail
        refine CO.out.mono ?_
        rintro _ w6 ⟨A6, c6, rfl, ho6, hb6⟩
        have ho6' : w6.ownsRow wr.heap.size 2 1 (.slice A6 Z.length c6) Z.length (Z.map (Value.int .i64)) := ho6
        have HO6 := hid ((HO.out.on hb6).less (b2 := w.heap.size) (by have := K1.out.size; have := B2.out.size; omega))
        have HC6 := hid (own_cap ho6')
        have R6 := hid (rdx_own (base := w.heap.size) (G := A2.map (·.block)) ho6' (by have := K1.out.size; have := HB1.out.size; omega) (fun g hg => (HO.out.lies g hg).2))
        have K6 : Hid (Below w.heap.size w w6) := hid ((K1.out.trans (HB1.out.mono K1.out.size)).trans (hb6.mono (by have := K1.out.size; have := HB1.out.size; omega)))
        clear ho6 ho6' hb6
        go_wp2_with fail
        go_ret3
        exact ⟨A2, c2, A6, c6, by rw [HRL.out]; rfl, HO6.out, HC6.out, R6.out, K6.out⟩
  · have CS := hid (mq_split_bad (Au := Au) (cu := cu) h ih u hu hcu h1 w)
    have e0 : mlO h u = [] := if_neg h1
    have e1 : mzO h u = [] := if_neg h1
    rw [e0, e1]
    obtain ⟨E, hE⟩ : ∃ E, msE h u = E := ⟨_, rfl⟩
    rw [hE] at CS h1 ⊢
    have hne : (E != 0) = true := by simpa using h1
    obtain ⟨U, hU⟩ : ∃ U, u.length = U := ⟨_, rfl⟩
    rw [hU] at CS ⊢
    clear e0 e1 h1 hE hU hu hcu ru ih
    go_enter Try.func16, Try.ntmps16
    go_wp2_with fail
    refine CS.out.mono ?_
    rintro _ w1 ⟨rfl, hb1⟩
    have K1 := hid hb1
    clear hb1 CS
    go_wp2_with fail
    go_ret3
    exact ⟨none, 0, none, 0, rfl, OwnRw.nil _ _, ⟨by simp, by decide⟩, RdX.none_, K1.out.alloc K1.out.size _⟩
end Go.Proofs.Ytekpejemfkjhcaa
