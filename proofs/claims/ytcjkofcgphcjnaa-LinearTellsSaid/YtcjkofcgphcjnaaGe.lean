
/- Ge: texts joined: LpF LpG LnLv. -/
import Derived.Test.YtcjkofcgphcjnaaGd
import Derived.Test.YtcjkofcgphcjnaaGb
import Derived.Test.YtcjkofcgphcjnaaGFixC
import Derived.Test.YtcjkofcgphcjnaaGa
/- Lines, by the landed code: vectors' mean, made in place. -/
namespace Go.Proofs.Ytcjkofcgphcjnaa
open Go.RowKit
set_option maxHeartbeats 2000000
set_option maxRecDepth 100000
set_option linter.unusedVariables false
theorem mean_at {Q S : List Int} {k : Nat} {x : Int} (hl : Q.length = S.length) (hx : S[k]? = some x) : (Q.take k ++ S.drop k)[k]? = some x := by
  have hk : k < S.length := (List.getElem?_eq_some_iff.1 hx).1
  rw [List.getElem?_append_right (by rw [List.length_take]; omega), List.length_take, Nat.min_eq_left (by omega), Nat.sub_self, List.getElem?_drop, Nat.add_zero, hx]
theorem mean_set {Q S : List Int} {k : Nat} {q : Int} (hl : Q.length = S.length) (hq : Q[k]? = some q) : (Q.take k ++ S.drop k).set k q = Q.take (k + 1) ++ S.drop (k + 1) := by
  have hk : k < Q.length := (List.getElem?_eq_some_iff.1 hq).1
  rw [List.set_append_right _ _ (by rw [List.length_take]; omega), List.length_take, Nat.min_eq_left (by omega), Nat.sub_self, List.take_add_one, hq, List.drop_eq_getElem_cons (by omega : k < S.length), List.set_cons_zero]
  simp only [Option.toList_some, List.append_assoc, List.singleton_append]
theorem ln_Mean {A : Option Addr} {c : Nat} (n : Int) (hn : I64 n) (rows : List (List Int)) (ho : RowsOk rows) (hr : rows.length ≤ 1099511627776) (hcap : rows.length ≤ c) (w : World) (ra : RdRows w w.heap.size A rows) :
    Calls Try.prog 15 #[.int .i64 n, .slice A rows.length c] w (OwnInts (lmV n rows) (lmE n rows) w) := by
  have CS := hid (Sum_any A c rows ho hr hcap w ra)
  obtain ⟨R, hR⟩ : ∃ R, rows.length = R := ⟨_, rfl⟩
  by_cases h1 : n < 1
  · have e1 : lmE n rows = 1 := if_pos h1
    have e2 : lmV n rows = [] := if_neg (by rw [e1]; decide)
    rw [e1, e2]
    rw [hR]
    clear e1 e2 ra ho hR hcap
    go_enter Try.func15, Try.ntmps15
    go_wp2_with fail
    go_ret2
    exact ⟨none, 0, rfl, own_nil _ _ _, Below.refl _ _⟩
  · have eE : lmE n rows = (sumAll rows).2 := if_neg h1
    have hl := sumAll_len ho
    have hi := sumAll_i64 ho
    by_cases h2 : (sumAll rows).2 = 0
    · have eV : lmV n rows = (sumAll rows).1.map fun x => x / n := if_pos (by rw [eE]; exact h2)
      rw [eE, eV]
      rw [h2] at CS ⊢
      obtain ⟨S, hS⟩ : ∃ S, (sumAll rows).1 = S := ⟨_, rfl⟩
      rw [hS] at CS hl hi ⊢
      obtain ⟨M, hM⟩ : ∃ M, S.length = M := ⟨_, rfl⟩
      have HM := hid hM
      have HI := hid hi
      have HN := hid hn
      have hn1 : 1 ≤ n := by omega
      have HN1 := hid hn1
      rw [hM] at hl
      have HL := hid hl
      obtain ⟨Q, hQ⟩ : ∃ Q, (S.map fun x => x / n) = Q := ⟨_, rfl⟩
      have HQ := hid hQ
      have HQl : Hid (Q.length = M) := hid (by rw [← hQ, List.length_map]; exact hM)
      rw [hQ]
      rw [hR] at CS ⊢
      clear eE eV h2 hS hi ra ho hQ hn hl hcap
      go_enter Try.func15, Try.ntmps15
      go_wp2_with fail
      refine CS.out.mono ?_
      rintro _ w1 ⟨A1, c1, rfl, ho1, hb1⟩
      rw [HM.out] at ho1 ⊢
      have HO1 := hid ho1
      have K1 := hid hb1
      clear ho1 hb1 hM
      go_wp2_with fail
      have hl := HL.out
      go_loopw [8, 9, 22] (fun _ _ xi wr => ∃ (k : Nat) (T : List Int), k ≤ M ∧ xi = .int .i64 (k : Int) ∧ T = Q.take k ++ S.drop k ∧ wr.ownsRow w.heap.size 2 1 (.slice A1 M c1) M (T.map (Value.int .i64)) ∧ Below w.heap.size w wr) (fun _ _ xi _ => M - (intOf xi).toNat)
      case atStart => exact ⟨0, S, Nat.zero_le _, rfl, rfl, HO1.out, K1.out⟩
      case round =>
        obtain ⟨k, T, hk, rfl, hT, ho, hbel⟩ := hrel
        have HT := hid hT
        have HO := hid ho
        have HB := hid hbel
        clear hT ho HO1 K1
        by_cases hlt : k < M
        · obtain ⟨x, en⟩ : ∃ x, S[k]? = some x := ⟨_, List.getElem?_eq_getElem (by rw [HM.out]; exact hlt)⟩
          have ix : I64 x := HI.out.at_ en
          obtain ⟨u1, u2⟩ := ln_quo ix HN1.out
          have CQ := hid (fix_Quot x n ix HN.out (by have := HN1.out; omega) wr)
          rw [u1, u2] at CQ
          obtain ⟨q, hq⟩ : ∃ q, x / n = q := ⟨_, rfl⟩
          rw [hq] at CQ
          have hqn : Q[k]? = some q := by rw [← HQ.out, List.getElem?_map, en, ← hq]; rfl
          have hlen : Q.length = S.length := by rw [HQl.out, HM.out]
          have hTk : T[k]? = some x := by rw [HT.out]; exact mean_at hlen en
          have HTS := hid (mean_set hlen hqn)
          have hTl : k < T.length := (List.getElem?_eq_some_iff.1 hTk).1
          obtain ⟨g, rfl, hg, hc, hf⟩ := own_cellk HO.out hTl
          rw [getD_of hTk] at hc
          have hgl : g < wr.heap.size := own_lt HO.out
          clear en ix u1 u2 hq hqn hlen hTk hbel
          go_wp2_with fail
          refine CQ.out.mono ?_
          rintro _ w4 ⟨rfl, hb4⟩
          have hc4 := (hb4.cell (p := ⟨g, k, none⟩) hgl).trans hc
          have hf4 : w4.frozen? ⟨g, k, none⟩ = false := ((bcells hb4).2 g k hgl).trans hf
          have HO4 := hid (own_on HO.out hb4)
          have K4 : Hid (Below w.heap.size w w4) := hid (HB.out.trans (hb4.mono HB.out.size))
          clear hb4 hc hf CQ
          go_wp2_with fail
          go_roundw
          case rel =>
            refine ⟨k + 1, T.set k q, by omega, by go_num, by rw [HT.out, HTS.out], ?_, K4.out.setCell hg _⟩
            have := (HO4.out.stored k (.int .i64 q)).1
            rwa [← List.map_set] at this
          case measure => simp [intOf]; omega
        · obtain rfl : k = M := by omega
          have hTQ : T = Q := by rw [HT.out, List.take_of_length_le (by rw [HQl.out]; exact Nat.le_refl _), List.drop_of_length_le (by rw [HM.out]; exact Nat.le_refl _), List.append_nil]
          subst hTQ
          clear hbel
          go_wp2_with fail
          go_ret2
          have hf := HO.out
          refine ⟨A1, c1, by rw [HQl.out]; rfl, by rw [HQl.out]; exact hf, HB.out⟩
    · have eV : lmV n rows = [] := if_neg (by rw [eE]; exact h2)
      rw [eE, eV]
      obtain ⟨E, hE⟩ : ∃ E, (sumAll rows).2 = E := ⟨_, rfl⟩
      rw [hE] at CS h2 ⊢
      have hne : (E != 0) = true := by simpa using h2
      rw [hR] at CS ⊢
      have hn1 : ¬ n < 1 := h1
      clear eE eV hE h2 ra ho hi hl hR hcap
      go_enter Try.func15, Try.ntmps15
      go_wp2_with fail
      refine CS.out.mono ?_
      rintro _ w1 ⟨A1, c1, rfl, ho1, hb1⟩
      clear ho1
      go_wp2_with fail
      go_ret2
      exact ⟨none, 0, rfl, own_nil _ _ _, hb1⟩
end Go.Proofs.Ytcjkofcgphcjnaa
/- Lines, by the landed code: how one is to be bent. -/
namespace Go.Proofs.Ytcjkofcgphcjnaa
open Go.RowKit
set_option maxHeartbeats 2000000
set_option maxRecDepth 100000
set_option linter.unusedVariables false
theorem grad_cl {q cx c2 k : Nat} {Ax A2 : Option Addr} {X : List Int} {Y V f : Int} (hx : X.length ≤ 9223372036854775807) (ix : I64s X) (iV : I64 V) (rows : List (List Int)) (hk : rows.length = k) (hr : k ≤ 64) (W : World)
    (hf : W.cell? ⟨q, 0, none⟩ = some (.int .i64 f)) (hb : BoxL W (q + 1) [.slice A2 k c2]) (ho : OwnRw W (q + 2) A2 c2 rows) (rx : Rd (Value.int .i64) W W.heap.size Ax X) :
    Calls Try.prog 38 (#[.agg #[.slice Ax X.length cx, .int .i64 Y], .int .i64 V] ++ #[.pointer (some ⟨q, 0, none⟩), .pointer (some ⟨q + 1, 0, none⟩)]) W fun e w' =>
      ∃ A8 c8, e = .returned (.int .i64 (unE (behE f) (numS X V f) X.length)) ∧ Below q W w' ∧ w'.cell? ⟨q, 0, none⟩ = some (.int .i64 f) ∧ BoxL w' (q + 1) [.slice A8 (k + 1) c8] ∧ OwnRw w' (q + 2) A8 c8 (rows ++ [unV (behE f) (numS X V f) X.length ++ [V]]) := by
  have lt1 : q + 1 < W.heap.size := hb.lt (by simp)
  obtain ⟨w2, hw2⟩ : ∃ w2, W.alloc (.cells #[.slice Ax X.length cx, .int .i64 Y] 24) = w2 := ⟨_, rfl⟩
  have hb2 : Below W.heap.size W w2 := by rw [← hw2]; go_grown
  have m0 : w2.cell? ⟨W.heap.size, 0, none⟩ = some (.slice Ax X.length cx) := by rw [← hw2]; simp [go_sem]
  have m1 : w2.cell? ⟨W.heap.size, 1, none⟩ = some (.int .i64 Y) := by rw [← hw2]; simp [go_sem]
  have f2 : w2.cell? ⟨q, 0, none⟩ = some (.int .i64 f) := (hb2.cell (p := ⟨q, 0, none⟩) (by show q < W.heap.size; omega)).trans hf
  have B2 := hid (hb.below hb2 lt1)
  have K2 : Hid (Below q W w2) := hid (hb2.mono (by omega))
  have O2 := hid (ho.on hb2)
  have l2 : q + 1 < w2.heap.size := Nat.lt_of_lt_of_le lt1 hb2.size
  have CS := hid (Scale_any (A := Ax) (c := cx) X hx ix V f iV w2 (rx.on hb2))
  obtain ⟨vs, hvs⟩ : ∃ v, unV (behE f) (numS X V f) X.length = v := ⟨_, rfl⟩
  obtain ⟨es, hes⟩ : ∃ v, unE (behE f) (numS X V f) X.length = v := ⟨_, rfl⟩
  have hvl : vs.length ≤ 4096 := by rw [← hvs]; exact unV_len _ _ _
  rw [hvs, hes] at CS
  rw [hvs, hes]
  obtain ⟨n, hn⟩ : ∃ n, X.length = n := ⟨_, rfl⟩
  rw [hn] at CS m0 hw2 ⊢
  have HK := hid hk
  clear hvs hes hn hx ix rx ho hb hf hb2 hk
  go_enter Try.func38, Try.ntmps38
  go_wp2_with fail
  refine CS.out.mono ?_
  rintro _ w4 ⟨A4, c4, rfl, ho4, hb4⟩
  have f4 := (hb4.cell (p := ⟨q, 0, none⟩) (by show q < w2.heap.size; omega)).trans f2
  have B4 := hid (B2.out.below hb4 l2)
  have K4 : Hid (Below q W w4) := hid (K2.out.trans (hb4.mono (by omega)))
  have O4 := hid (O2.out.on hb4)
  have l4 : q + 1 < w4.heap.size := Nat.lt_of_lt_of_le l2 hb4.size
  have HS4 : Hid (w2.heap.size ≤ w4.heap.size) := hid hb4.size
  have OL : Hid (∀ g, A2.map (·.block) = some g → g < w2.heap.size) := hid (fun g hg => (O2.out.lies g hg).2)
  have O2B : Hid (OwnRw w2 (q + 2) A2 c2 rows) := O2
  have HB4 := hid hb4
  have HO4 := hid ho4
  have h24 := hb4.size
  obtain ⟨p4, n4⟩ := B4.out 0 _ rfl
  clear hb4 ho4 hw2 m0 m1 f2
  go_wp2_with fail
  have q2 : q + 2 ≤ w2.heap.size := l2
  go_region_law (first | (refine step_app5 (Value.int .i64) (fun _ => rfl) rfl _ _ 22 rfl w2.heap.size 2 (.int .i64 0) 8 Try.underlying22 info_i64 rfl vs A4 c4 rfl (own_on HO4.out (by first | exact ((Below.refl _ w4).drew).alloc (Nat.le_refl _) _ | exact ((Below.refl _ w4).alloc (Nat.le_refl _) _).drew | fail)) [V] (some ⟨w4.heap.size, 0, none⟩) 1 (w4.heap.size + 1) rfl (by first | exact (rd_one (enc := Value.int .i64) (one_cell w4.drew (.int .i64 V) 2).1).more (by simp) | exact (rd_one (enc := Value.int .i64) (one_cell w4 (.int .i64 V) 2).1).more (by simp) | fail) (by simp [maxLen]; omega) (by simp; omega) (by simp; omega) ?_; rintro Q A6 c6 w6 hQ ho6 hb6 hg6 hq6; have KK : Hid (Below w2.heap.size w4 w6) := hid (by first | exact Below.trans (((Below.refl w2.heap.size w4).drew).alloc h24 _) hb6 | exact Below.trans (((Below.refl w2.heap.size w4).alloc h24 _).drew) hb6 | fail); have HQ := hid hQ; have RX6 := hid (rdx_own (base := q + 2) ho6 q2 OL.out); have p6 := (KK.out.cell (p := ⟨q + 1, 0, none⟩) l2).trans p4; have l6 : q + 1 < w6.heap.size := Nat.lt_of_lt_of_le l4 KK.out.size; have O6 := O2B.out.on (HB4.out.trans KK.out); obtain ⟨ps, hpl, hop, hpr⟩ := O6; have HPK : Hid (ps.length = k) := hid (hpl.trans HK.out); have HPL := hid hpl; have HPR := hid hpr; have HOP := hid hop; clear hQ ho6 hb6 hg6 hq6 hpl hpr hop) | (refine step_app5 encS (fun _ => rfl) rfl _ _ 25 rfl (q + 2) 22 (.slice none 0 0) 24 Try.underlying25 info_row rfl ps A2 c2 (by rw [HPK.out]; rfl) (own_on HOP.out ((Below.refl _ w6).alloc (Nat.le_refl _) _)) [(A6, Q.length, c6)] (some ⟨w6.heap.size, 0, none⟩) 1 (w6.heap.size + 1) rfl ((rd_one (enc := encS) (one_cell w6 (.slice A6 Q.length c6) 22).1).more (by simp)) (by have := HPK.out; simp [maxLen]; omega) (by have := HPK.out; simp; omega) (by simp; omega) ?_; rintro S A8 c8 w8 hS ho8 hb8 hg8 hq8; have hSl : S.length = k + 1 := (by rw [hS, List.length_append, HPK.out]; rfl); have HN := hid (OwnRw.app HPL.out (fun i p xs h1 h2 => ⟨(HPR.out i p xs h1 h2).1, (HPR.out i p xs h1 h2).2.on ((Below.refl _ w6).alloc (Nat.le_refl _) _)⟩) (p := (A6, Q.length, c6)) rfl (RX6.out.on ((Below.refl _ w6).alloc (Nat.le_refl _) _)) hS ho8 hg8 (by simpa using hq8)); have KK8 : Hid (Below (q + 2) w4 w8) := hid ((KK.out.mono q2).trans (((Below.refl (q + 2) w6).alloc l6 _).trans hb8)); have p8 := (KK8.out.cell (p := ⟨q + 1, 0, none⟩) (Nat.lt_succ_self _)).trans p4; have B8 := hid (B4.out.below KK8.out (Nat.lt_succ_self _)); have n8 := (B8.out 0 _ rfl).2; clear ho8 hb8 hg8 hq8 hS) | fail)
  all_goals (
    have f8 := (KK8.out.cell (p := ⟨q, 0, none⟩) (by show q < q + 2; omega)).trans f4
    have HF8 := hid f8
    have K8 : Hid (Below q W w8) := hid (K4.out.trans (KK8.out.mono (by omega)))
    go_wp2_with fail
    go_ret
    rw [hSl, HQ.out] at *
    refine ⟨A8, c8, rfl, K8.out.setCell (by simp) _, ?_, B8.out.one (k := 0) rfl _, HN.out.set (by simp) _⟩
    have f8 := HF8.out
    unfold World.cell? at f8 ⊢
    rw [heap_setCell_other _ _ _ _ (by simp)]
    exact f8)
theorem grad_ok (args : Array Value) (W : World) : (callFunc 38 args).run Try.prog W = .ok (.enter 38 args) W := cl_enter _ (by kernel_rfl) args W
/-- What the closure keeps: the bits, and a row for each sample so far. -/
def GrK (u : List Int) (f : Int) (ls : List SmpV) (q k : Nat) (W : World) : Prop :=
  ∃ A2 c2, W.cell? ⟨q, 0, none⟩ = some (.int .i64 f) ∧ BoxL W (q + 1) [.slice A2 k c2] ∧ (∀ x ∈ ls.take k, srE u f x = 0) ∧ OwnRw W (q + 2) A2 c2 ((ls.take k).map (srV u f))
theorem GrK.below {u : List Int} {f : Int} {ls : List SmpV} {q k : Nat} {W W' : World} (h : GrK u f ls q k W) (hb : Below W.heap.size W W') : GrK u f ls q k W' := by
  obtain ⟨A2, c2, hf, hB, hz, ho⟩ := h
  have lt1 : q + 1 < W.heap.size := hB.lt (by simp)
  exact ⟨A2, c2, (hb.cell (p := ⟨q, 0, none⟩) (by show q < W.heap.size; omega)).trans hf, hB.below hb lt1, hz, ho.on hb⟩
theorem grad_H {u : List Int} {f : Int} {ls : List SmpV} {q : Nat} {vV : List Int} {vE : Int} (hl : ls.length ≤ 64) (hbad : ∀ (k : Nat) (s : SmpV), (∀ x ∈ ls.take k, srE u f x = 0) → ls[k]? = some s → srE u f s ≠ 0 → vE = srE u f s ∧ vV = [])
    (k : Nat) (s : SmpV) (Ax : Option Addr) (cx : Nat) (W : World) (hs : I64s s.X ∧ s.X.length ≤ 9223372036854775807) (en : ls[k]? = some s) (h0 : loE u s f = 0) (hK : GrK u f ls q k W) (rx : Rd (Value.int .i64) W W.heap.size Ax s.X) :
    Calls Try.prog 38 (#[.agg #[.slice Ax s.X.length cx, .int .i64 s.Y], .int .i64 (loV u s f)] ++ #[.pointer (some ⟨q, 0, none⟩), .pointer (some ⟨q + 1, 0, none⟩)]) W fun e w' =>
      ∃ er, e = .returned (.int .i64 er) ∧ (er = 0 → GrK u f ls q (k + 1) w') ∧ (er ≠ 0 → vE = er ∧ vV = []) ∧ Below q W w' := by
  obtain ⟨A2, c2, hf, hB, hz, ho⟩ := hK
  have hk : k < ls.length := (List.getElem?_eq_some_iff.1 en).1
  refine (grad_cl hs.2 hs.1 (loV_i64 u s f) _ (by rw [List.length_map, List.length_take]; omega) (by omega) W hf hB ho rx).mono ?_
  rintro _ w' ⟨A8, c8, rfl, hb, hf', hB', ho'⟩
  have e1 : srE u f s = unE (behE f) (numS s.X (loV u s f) f) s.X.length := by unfold srE; rw [if_neg (by simp [h0])]
  have e2 : srV u f s = unV (behE f) (numS s.X (loV u s f) f) s.X.length ++ [loV u s f] := rfl
  rw [← e1] 
  rw [← e2] at ho'
  refine ⟨_, rfl, fun e => ⟨A8, c8, hf', hB', ?_, ?_⟩, fun e => hbad k s hz en e, hb⟩
  · rw [take_next en]
    intro x hx
    rcases List.mem_append.1 hx with hx | hx
    · exact hz x hx
    · simp at hx; subst hx; exact e
  · rw [take_next en, List.map_append]
    exact ho'
theorem ln_Grad {Aw A : Option Addr} {cw c : Nat} (u : List Int) (hu : u.length ≤ cw) (hcw : cw ≤ 9223372036854775807) (iu : I64s u) (f : Int) (ls : List SmpV) (hl : ls.length ≤ 9223372036854775807) (hX : ∀ s ∈ ls, I64s s.X ∧ I64 s.Y ∧ s.X.length ≤ 9223372036854775807) (w : World)
    (ru : Rd (Value.int .i64) w w.heap.size Aw u) (ra : RdSm w w.heap.size A ls) :
    Calls Try.prog 22 #[.slice Aw u.length cw, .int .i64 f, .slice A ls.length c] w (OwnInts (lgV u f ls) (lgE u f ls) w) := by
  obtain ⟨w1, hw1⟩ : ∃ w1, w.alloc (.cells #[.int .i64 f] 3) = w1 := ⟨_, rfl⟩
  have c0 : w1.cell? ⟨w.heap.size, 0, none⟩ = some (.int .i64 f) := by rw [← hw1]; simp [go_sem]
  have hs1 : w1.heap.size = w.heap.size + 1 := by rw [← hw1]; simp
  have hb1 : Below w.heap.size w w1 := by rw [← hw1]; go_grown
  obtain ⟨w3, hw3⟩ : ∃ w3, w1.alloc (.cells #[.slice none 0 0] 25) = w3 := ⟨_, rfl⟩
  have hb13 : Below w1.heap.size w1 w3 := by rw [← hw3]; go_grown
  have c3 : w3.cell? ⟨w.heap.size, 0, none⟩ = some (.int .i64 f) := (hb13.cell (p := ⟨w.heap.size, 0, none⟩) (by show w.heap.size < w1.heap.size; omega)).trans c0
  have B3 : BoxL w3 (w.heap.size + 1) [.slice none 0 0] := by rw [← hw3, ← hs1]; exact BoxL.new w1 [.slice none 0 0] 25
  have hs3 : w3.heap.size = w.heap.size + 2 := by rw [← hw3]; simp [hs1]
  have hb3 : Below w.heap.size w w3 := hb1.trans (hb13.mono (by omega))
  have RU3 := ru.below hb3
  have RA3 := ra.below hb3
  by_cases h1 : lcE ((u.length : Int) - 1) u ls = 0
  · have hM64 : ls.length ≤ 64 := (lcE_ok.1 h1).2.2.2.2
    have HBAD := (fun (k : Nat) (s : SmpV) h (hs : ls[k]? = some s) hn => lg_bad (f := f) h1 h hs hn)
    have HGOOD := hid (fun h => lg_good (f := f) h1 h)
    have CME := hid (fun (A2 : Option Addr) (c2 : Nat) (W : World) (hc : ls.length ≤ c2) (h : RdRows W W.heap.size A2 (ls.map (srV u f))) => ln_Mean (A := A2) (c := c2) (ls.length : Int) (by unfold I64; omega) (ls.map (srV u f)) (rows_ok14 u f ls) (by rw [List.length_map]; omega) (by rw [List.length_map]; exact hc) W h)
    obtain ⟨vV, hvV⟩ : ∃ v, lgV u f ls = v := ⟨_, rfl⟩
    obtain ⟨vE, hvE⟩ : ∃ v, lgE u f ls = v := ⟨_, rfl⟩
    rw [hvV, hvE] at HBAD HGOOD
    rw [hvV, hvE]
    have CE := hid (ln_each (cw := cw) (c := c) (B := w.heap.size) 38 #[.pointer (some ⟨w.heap.size, 0, none⟩), .pointer (some ⟨w.heap.size + 1, 0, none⟩)] grad_ok u hu hcw iu f ls hl hX w3 (by omega) RU3 RA3 h1
      (GrK u f ls w.heap.size) (fun er => vE = er ∧ vV = []) ⟨none, 0, c3, B3, fun x hx => by simp at hx, OwnRw.nil _ _⟩ (fun k W W' h hb => h.below hb)
      (fun k s W en h h0 => by
        obtain ⟨A2, c2, hf, hB, hz, ho⟩ := h
        have e1 : srE u f s = loE u s f := by unfold srE; rw [if_pos h0]
        rw [← e1] at h0 ⊢
        exact HBAD k s hz en h0)
      (fun k s Ax cx W en h0 hK hr hB => grad_H hM64 HBAD k s Ax cx W ⟨(hX s (List.mem_of_getElem? en)).1, (hX s (List.mem_of_getElem? en)).2.2⟩ en h0 hK (hr.more hB)))
    have HEND : Hid (∀ W, GrK u f ls w.heap.size ls.length W → (vE = lmE ls.length (ls.map (srV u f)) ∧ vV = lmV ls.length (ls.map (srV u f))) ∧ ∃ A2 c2, BoxL W (w.heap.size + 1) [.slice A2 ls.length c2] ∧ ls.length ≤ c2 ∧ RdRows W W.heap.size A2 (ls.map (srV u f))) := hid (fun W h => by
      obtain ⟨A2, c2, hf, hB, hz, ho⟩ := h
      rw [List.take_of_length_le (Nat.le_refl _)] at hz ho
      have := ho.cap.1
      rw [List.length_map] at this
      exact ⟨HGOOD.out hz, A2, c2, hB, this, ho.rd⟩)
    have hll : (ls.map (srV u f)).length = ls.length := List.length_map ..
    obtain ⟨rows, hrows⟩ : ∃ r, ls.map (srV u f) = r := ⟨_, rfl⟩
    rw [hrows] at CME HEND hll
    rw [hll] at CME
    obtain ⟨U, hU⟩ : ∃ U, u.length = U := ⟨_, rfl⟩
    obtain ⟨M, hM⟩ : ∃ M, ls.length = M := ⟨_, rfl⟩
    rw [hU] at CE ⊢
    rw [hM] at CE HEND CME ⊢
    have HB3 := hid hb3
    have HS3 := hid hs3
    clear h1 hvV hvE HBAD HGOOD hll hrows RU3 RA3 hU hM ru ra hX iu hu hcw hl B3 hb1 hb13 hs3 hb3 hM64
    go_enter Try.func22, Try.ntmps22
    go_wp2_with fail
    refine CE.out.mono ?_
    rintro _ w4 ⟨er, rfl, hi4, hr4, hb4⟩
    have K4 : Hid (Below w.heap.size w w4) := hid (HB3.out.trans hb4)
    have HI4 := hid hi4
    have HR4 := hid hr4
    clear hi4 hr4 hb4 CE c0 c3 hw1 hw3
    by_cases h0 : er = 0
    · subst h0
      obtain ⟨⟨rfl, rfl⟩, A2, c2, hB, hc, hrr⟩ := HEND.out w4 (HI4.out (by trivial))
      have CM2 := hid (CME.out A2 c2 w4 hc hrr)
      obtain ⟨p1, p2⟩ := hB 0 _ rfl
      clear hB hc hrr
      go_wp2_with fail
      refine CM2.out.mono ?_
      rintro _ w5 ⟨A5, c5, rfl, ho5, hb5⟩
      have HO5 := hid ho5
      have K5 : Hid (Below w.heap.size w w5) := hid (K4.out.trans (hb5.mono K4.out.size))
      clear ho5 hb5
      go_wp2_with fail
      go_ret2
      exact ⟨A5, c5, rfl, own_base HO5.out K4.out.size, K5.out⟩
    · have hne : (er != 0) = true := by simpa using h0
      obtain ⟨rfl, rfl⟩ := HR4.out h0
      clear h0
      go_wp2_with fail
      go_ret2
      exact ⟨none, 0, rfl, own_nil _ _ _, K4.out⟩
  · obtain ⟨e1, e2⟩ := lg_off (f := f) h1
    rw [e1, e2]
    have CE := hid (ln_each_bad (Aw := Aw) (cw := cw) (c := c) (.func (.func 38) #[] #[.pointer (some ⟨w.heap.size, 0, none⟩), .pointer (some ⟨w.heap.size + 1, 0, none⟩)]) u hu hcw f ls hl hX w3 (RA3.more (by omega)) h1)
    obtain ⟨E, hE⟩ : ∃ E, lcE ((u.length : Int) - 1) u ls = E := ⟨_, rfl⟩
    rw [hE] at CE h1 ⊢
    obtain ⟨U, hU⟩ : ∃ U, u.length = U := ⟨_, rfl⟩
    obtain ⟨M, hM⟩ : ∃ M, ls.length = M := ⟨_, rfl⟩
    rw [hU] at CE ⊢
    rw [hM] at CE ⊢
    have hne : (E != 0) = true := by simpa using h1
    have HB3 := hid hb3
    have HS3 := hid hs3
    clear h1 e1 e2 hE RU3 RA3 hU hM ru ra hX iu hu hcw hl B3 hb1 hb13 hs3 hb3
    go_enter Try.func22, Try.ntmps22
    go_wp2_with fail
    refine CE.out.mono ?_
    rintro _ w4 ⟨rfl, hb4⟩
    have K4 : Hid (Below w.heap.size w w4) := hid (HB3.out.trans (hb4.mono (by have := HS3.out; omega)))
    clear hb4 CE c0 c3 hw1 hw3
    go_wp2_with fail
    go_ret2
    exact ⟨none, 0, rfl, own_nil _ _ _, K4.out⟩
end Go.Proofs.Ytcjkofcgphcjnaa
/- The chapter's example; what is told the same. -/
namespace Go.Proofs.Ytcjkofcgphcjnaa
open Go.RowKit
set_option maxHeartbeats 1000000
set_option maxRecDepth 100000
set_option linter.unusedVariables false
theorem ln_rsame {A B : Option Addr} {c d : Nat} (xs : List Int) (hx : xs.length ≤ 9223372036854775807) (w : World) (ra : Rd (Value.int .i64) w w.heap.size A xs) (rb : Rd (Value.int .i64) w w.heap.size B xs) :
    Calls Try.prog 19 #[.slice A xs.length c, .slice B xs.length d] w fun e w' => e = .returned (.bool true) ∧ Below w.heap.size w w' := by
  have h := rSame_any (A := A) (B := B) (c := c) (d := d) xs xs hx hx w ra rb
  rw [eqB_self] at h
  exact h
theorem ln_grow (w : World) (o : Obj) : Below w.heap.size w (w.alloc o) := (Below.refl _ _).alloc (Nat.le_refl _) o
theorem ln_live (w : World) :
    Calls Try.prog 9 #[] w fun e w' => e = .returned (.bool true) ∧ Below w.heap.size w w' := by
  have i1 : I64s [2, 3, 1] := by intro x hx; simp at hx; unfold I64; omega
  have i2 : I64s [10, 100] := by intro x hx; simp at hx; unfold I64; omega
  have i3 : I64s [1, 0] := by intro x hx; simp at hx; unfold I64; omega
  have i4 : I64s [3] := by intro x hx; simp at hx; unfold I64; omega
  have C1 := hid (fun (A B : Option Addr) (W : World) (h1 : Rd (Value.int .i64) W W.heap.size A [2, 3, 1]) (h2 : Rd (Value.int .i64) W W.heap.size B [10, 100]) => ln_Tell (Aw := A) (Ax := B) (cw := 3) (cx := 2) [2, 3, 1] [10, 100] (by decide) (by decide) (by decide) i1 i2 0 W h1 h2)
  rw [show ltV [2, 3, 1] [10, 100] 0 = 321 by decide +kernel, show ltE [2, 3, 1] [10, 100] 0 = 0 by decide +kernel, show ([2, 3, 1] : List Int).length = 3 from rfl, show ([10, 100] : List Int).length = 2 from rfl] at C1
  have C2 := hid (fun (Aw A : Option Addr) (W : World) (h1 : Rd (Value.int .i64) W W.heap.size Aw [1, 0]) (h2 : RdSm W W.heap.size A [⟨[3], 1⟩]) => ln_Grad (Aw := Aw) (A := A) (cw := 2) (c := 1) [1, 0] (by decide) (by decide) i3 0 [⟨[3], 1⟩] (by decide) (by intro s hs; simp at hs; subst hs; exact ⟨i4, by decide, by decide⟩) W h1 h2)
  rw [show lgV [1, 0] 0 [⟨[3], 1⟩] = [6, 2] by decide +kernel, show lgE [1, 0] 0 [⟨[3], 1⟩] = 0 by decide +kernel, show ([1, 0] : List Int).length = 2 from rfl, show ([⟨[3], 1⟩] : List SmpV).length = 1 from rfl] at C2
  have C3 := hid (fun (A B : Option Addr) (c d : Nat) (W : World) (h1 : Rd (Value.int .i64) W W.heap.size A [6, 2]) (h2 : Rd (Value.int .i64) W W.heap.size B [6, 2]) => ln_rsame (A := A) (B := B) (c := c) (d := d) [6, 2] (by decide) W h1 h2)
  rw [show ([6, 2] : List Int).length = 2 from rfl] at C3
  obtain ⟨v1, hv1⟩ : ∃ v, w.alloc (.cells #[.int .i64 2, .int .i64 3, .int .i64 1] 2) = v := ⟨_, rfl⟩
  have a1 : Rd (Value.int .i64) v1 v1.heap.size (some ⟨w.heap.size, 0, none⟩) [2, 3, 1] := by rw [← hv1]; exact rd_new (enc := Value.int .i64) w 2 [2, 3, 1]
  have g1 : Below w.heap.size w v1 := by rw [← hv1]; exact ln_grow _ _
  obtain ⟨v2, hv2⟩ : ∃ v, v1.alloc (.cells #[.int .i64 10, .int .i64 100] 2) = v := ⟨_, rfl⟩
  have a2 : Rd (Value.int .i64) v2 v2.heap.size (some ⟨v1.heap.size, 0, none⟩) [10, 100] := by rw [← hv2]; exact rd_new (enc := Value.int .i64) v1 2 [10, 100]
  have g0 : Below v1.heap.size v1 v2 := by rw [← hv2]; exact ln_grow _ _
  have C1' := hid (C1.out _ _ v2 (a1.on g0) a2)
  have K0 : Hid (Below w.heap.size w v2) := hid (g1.trans (g0.mono g1.size))
  clear a1 a2 g0 g1 C1
  clear i1 i2 i3 i4
  go_enter Try.func9, Try.ntmps9
  go_wp2_with fail
  refine C1'.out.mono ?_
  rintro _ w1 ⟨rfl, hb1⟩
  have K1 : Hid (Below w.heap.size w w1) := hid (K0.out.trans (hb1.mono K0.out.size))
  clear hb1 C1' hv1 hv2
  obtain ⟨w2, hw2⟩ : ∃ w2, w1.alloc (.cells #[.int .i64 1, .int .i64 0] 2) = w2 := ⟨_, rfl⟩
  have b1 : Rd (Value.int .i64) w2 w2.heap.size (some ⟨w1.heap.size, 0, none⟩) [1, 0] := by rw [← hw2]; exact rd_new (enc := Value.int .i64) w1 2 [1, 0]
  have g2 : Below w1.heap.size w1 w2 := by rw [← hw2]; exact ln_grow _ _
  obtain ⟨w3, hw3⟩ : ∃ w3, w2.alloc (.cells #[.int .i64 3] 2) = w3 := ⟨_, rfl⟩
  have b2 : Rd (Value.int .i64) w3 w3.heap.size (some ⟨w2.heap.size, 0, none⟩) [3] := by rw [← hw3]; exact rd_new (enc := Value.int .i64) w2 2 [3]
  have g3 : Below w2.heap.size w2 w3 := by rw [← hw3]; exact ln_grow _ _
  obtain ⟨w4, hw4⟩ : ∃ w4, w3.alloc (.cells #[.slice (some ⟨w2.heap.size, 0, none⟩) 1 1, .int .i64 1] 24) = w4 := ⟨_, rfl⟩
  have b3 : RdSm w4 w4.heap.size (some ⟨w3.heap.size, 0, none⟩) [⟨[3], 1⟩] := by rw [← hw4]; exact smp_one (cx := 1) 24 b2
  have g4 : Below w3.heap.size w3 w4 := by rw [← hw4]; exact ln_grow _ _
  have C2' := hid (C2.out _ _ w4 ((b1.on g3).on g4) b3)
  have K4 : Hid (Below w.heap.size w w4) := hid (K1.out.trans ((g2.trans ((g3.trans (g4.mono g3.size)).mono g2.size)).mono K1.out.size))
  clear b1 b2 b3 g2 g3 g4 C2
  go_wp2_with fail
  refine C2'.out.mono ?_
  rintro _ w5 ⟨A5, c5, rfl, ho5, hb5⟩
  have K5 : Hid (Below w.heap.size w w5) := hid (K4.out.trans (hb5.mono K4.out.size))
  have R5 := hid (own_rd (xs := [6, 2]) ho5)
  have R6 := hid (rd_new (enc := Value.int .i64) w5 2 [6, 2])
  have R7 := hid (R5.out.on (ln_grow w5 (.cells #[.int .i64 6, .int .i64 2] 2)))
  clear ho5 hb5 hw2 hw3 hw4
  go_wp2_with fail
  refine (C3.out _ _ _ _ _ R7.out R6.out).mono ?_
  rintro _ w6 ⟨rfl, hb6⟩
  have K6 : Hid (Below w.heap.size w w6) := hid ((K5.out.alloc K5.out.size _).trans (hb6.mono (by have := K5.out.size; simp; omega)))
  clear hb6
  go_wp2_with fail
  go_ret
  exact ⟨rfl, K6.out⟩
end Go.Proofs.Ytcjkofcgphcjnaa
