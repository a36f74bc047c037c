
/- QSpE: texts joined: SpE. -/
import Derived.Test.YtehbdnehlfplaaaGreatQc
/- Lines of classes, by the landed code: what they tell, line by line. -/
namespace Go.Proofs.YtehbdnehlfplaaaGreat
open Go.RowKit
set_option maxHeartbeats 4000000
set_option maxRecDepth 100000
set_option linter.unusedVariables false
attribute [local go_sem] Oper.semAt_some
theorem sf_lineByLine {Au Ax : Option Addr} {cu cx : Nat} (o : Int) (ho : I64 o) (u x : List Int) (hu : u.length ≤ cu) (hcu : cu ≤ 9223372036854775807) (iu : I64s u) (hx : x.length ≤ 1099511627776) (ix : I64s x) (f : Int) (w : World)
    (ru : Rd (Value.int .i64) w w.heap.size Au u) (rx : Rd (Value.int .i64) w w.heap.size Ax x) :
    Calls Tryz.prog 27 #[.int .i64 o, .slice Au u.length cu, .slice Ax x.length cx, .int .i64 f] w (OwnInts (lzO o u x f) (lzE o u x f) w) := by
  have CS := hid (fun W => sp_sees (Au := Au) (cu := cu) o ho u (Nat.le_trans hu hcu) W)
  obtain ⟨U, hU⟩ : ∃ U, u.length = U := ⟨_, rfl⟩
  obtain ⟨N, hN⟩ : ∃ N, x.length = N := ⟨_, rfl⟩
  obtain ⟨S, hS⟩ : ∃ S, w.heap.size = S := ⟨_, rfl⟩
  by_cases h1 : rwE o u = 0
  · obtain ⟨o2, o8, _⟩ := rwE_ok.1 h1
    obtain ⟨O, n, r, n1, rfl, HO, O2, O8, HN, HR, hn1, hws⟩ := sp_div (U := U) (o := o) o2 o8 (by rw [← hU]; exact Nat.le_trans hu hcu)
    obtain ⟨_, _, hr0, hn2, hn17⟩ := rwE_ok.1 h1
    rw [HO.out, hU, HR.out.1] at hr0
    rw [HO.out, hU, HN.out] at hn2 hn17
    subst hr0
    have e3 : seN (O : Int) u = n1 := by unfold seN; rw [if_pos h1, HO.out, hU, HN.out]; exact hn1.out.1
    have hOn : O * n = U := HR.out.2
    rw [h1, e3] at CS
    by_cases h2 : n = N + 1
    · obtain ⟨hze, hzv⟩ := lz_rows (x := x) (f := f) h1 hU HN.out hOn (by rw [hN]; exact h2) hn17 hn2 O2
      have hzo : lzO (O : Int) u x f = if lzE (O : Int) u x f = 0 then lzV (O : Int) u x f else [] := rfl
      rw [hzv] at hzo
      obtain ⟨E, hE⟩ : ∃ E, lzE (O : Int) u x f = E := ⟨_, rfl⟩
      obtain ⟨Z, hZ⟩ : ∃ Z, lzO (O : Int) u x f = Z := ⟨_, rfl⟩
      rw [hE] at hze hzo
      rw [hZ] at hzo
      rw [hE, hZ]
      have HZE := hid hze
      have HZO := hid hzo
      have t0 : ((N : Int) != n1) = false := by have := hn1.out.1; simp; omega
      obtain ⟨b, p, x0, rfl, hb, _, _⟩ := ru.at_ (k := 0) (by rw [hU, ← hOn]; exact Nat.mul_pos (by omega) (by omega))
      have CL := hid (fun W => sf_lines (A := some ⟨b, p, none⟩) (U := U) (c := cu) O n (by omega) (by omega) HN.out (by omega) (by omega) W)
      have hmk := fun W => run_room (P := Tryz.prog) 22 2 (.int .i64 0) 8 Tryz.underlying22 info_i64 rfl O (by omega) (by omega) W
      have HUL := hid hU
      have HXL := hid hN
      have RU := hid ru
      have RX := hid rx
      have IU := hid iu
      have IX := hid ix
      have HOn := hid hOn
      have HUc := hid hu
      have HCU := hid hcu
      have HN17 := hid hn17
      have HN2 := hid hn2
      have HXN := hid h2
      rw [hU] at CS ⊢
      rw [hN]
      obtain ⟨W0, hW0, hz0, h00, hc1, hc2⟩ := told_start (w := w) (Ax := Ax) (N := N) (cx := cx) (O := O) (U := U) (cu := cu) (n := n) (b := b) (p := p) (f := f) hS O8
      have H00 := hid h00
      have HC1 := hid hc1
      have HC2 := hid hc2
      clear h00 hc1 hc2
      clear e3 h1 hU ru rx iu ix hu hcu ho HO HN HR hn1 hws o2 o8 hOn hn17 hn2 hN hE hZ hze hzo hzv h2 hx
      refine (callsIn_wide (n := 3)).1 ?_
      refine callsIn_of_wp_marks Tryz.func27 rfl trivial ?_ rfl
      simp only [Tryz.ntmps27, List.size_toArray, List.length_cons, List.length_nil, Nat.reduceAdd, Nat.reduceSub, Array.replicate_succ, Array.replicate_zero, List.push_toArray, List.append_toArray, List.nil_append, List.cons_append]
      refine wpIn_wide.2 ?_
      go_wp2_with fail
      refine (CS.out _).mono ?_
      rintro _ _ ⟨rfl, rfl⟩
      go_wp2_with fail
      refine (CL.out _).mono ?_
      rintro _ _ ⟨rfl, rfl⟩
      go_wp2_with fail
      clear hW0 CS CL hmk t0
      refine (wpIn_wide (n := 3)).1 ?_
      refine wpIn_rangeFunc_ownG (F := Fence.wide) (n := 3) rfl (by omega) (gf := 87) (lb := #[.pointer (some ⟨S + 1 + 1 + 1 + 1 + 1 + 1, 0, none⟩), .pointer (some ⟨S + 1 + 1 + 1 + 1 + 1 + 1 + 1, 0, none⟩)]) rfl trivial (enters_of Tryz.func87 (by kernel_rfl) rfl)
        (sq_stops (n := 3 - 1) (by omega) (Bs := S + 6) (Bn := S + 7) (O := O) (q := n) HOn.out (by have := HN2.out; omega) (by rw [← HUL.out]; exact HUc.out) HCU.out (w := W0) (by rw [hz0]; omega) (by rw [hz0]; omega) (by exact HC1.out) (by exact HC2.out))
        (fun h k => KpC.trans h k) (KpC.book (by rw [hz0]; omega) (by rw [hz0]; omega)) (Below.refl _ _) (fun _ => rfl)
        (fun pre W => ToldAt S w (.slice Ax N cx) f (pre.map fun k => ltV (rwR n u k.1) x f) W ∧ ∀ k ∈ pre, ltE (rwR n u k.1) x f = 0)
        (fun c pre W => c = .ret ∧ ∃ ini last, pre = ini ++ [last] ∧ (∀ k ∈ ini, ltE (rwR n u k.1) x f = 0) ∧ ltE (rwR n u last.1) x f ≠ 0 ∧ LeftAt S w (ltE (rwR n u last.1) x f) W)
        (fun (s : List (Nth O)) W W' row hs hg hr => ⟨ToldAt.book (zs := s.map fun k => ltV (rwR n u k.1) x f) hs.1 (by omega) hg (fun r e => ⟨by have := (hr r e).1; omega, (hr r e).2⟩), hs.2⟩)
        (fun c (s : List (Nth O)) W W' row hs hg hr => by
          obtain ⟨h1, ini, last, h2, h3, h4, h5⟩ := hs
          exact ⟨h1, ini, last, h2, h3, h4, h5.book (by omega) hg (fun r e => ⟨by have := (hr r e).1; omega, (hr r e).2⟩)⟩) ⟨H00.out, fun k hk => by cases hk⟩
        (fun k => { tmps := #[.int .i64 (O : Int), .slice (some ⟨b, p, none⟩) U cu, .slice Ax N cx, .int .i64 f, undef, undef, .pointer (some ⟨S, 0, none⟩), .pointer (some ⟨S + 1, 0, none⟩), .pointer (some ⟨S + 2, 0, none⟩), .pointer (some ⟨S + 3, 0, none⟩), .int .i64 n1, .int .i64 0, .pointer (some ⟨S + 5, 0, none⟩), .slice (some ⟨b, p + k.1 * n, none⟩) n n, undef, undef,
            .tuple #[.int .i64 n1, .int .i64 0], .int .i64 (O : Int), .slice (some ⟨b, p, none⟩) U cu, .tuple #[.int .i64 n1, .int .i64 0], .int .i64 n1, .int .i64 0, .int .i64 0, .bool false, undef, .slice Ax N cx, .int .i64 (N : Int), .int .i64 n1, .bool false, .int .i64 (O : Int),
            .slice (some ⟨S + 4, 0, none⟩) 0 O, .int .i64 (O : Int), .slice (some ⟨b, p, none⟩) U cu, .func (.func 87) #[] #[.pointer (some ⟨S + 6, 0, none⟩), .pointer (some ⟨S + 7, 0, none⟩)], .slice (some ⟨b, p + k.1 * n, none⟩) n n,
            undef, undef, undef, undef, undef, undef, undef, undef, undef, undef, undef, undef, undef, undef, undef], defers := [] }) ?assign ?body ?done ?stop
      case assign =>
        intro l k W K hK
        gi_wp2
        exact hK
      case body =>
        rintro l pre k W ⟨⟨A2, c2, ha, hbx, hop, hbs, hsz, hB⟩, hall⟩ hlt
        have hrl : (rwR n u k.1).length = n := sp_row_len HUL.out HOn.out k.2
        have CT := hid (ln_Tell (Aw := some ⟨b, p + k.1 * n, none⟩) (Ax := Ax) (cw := n) (cx := cx) (rwR n u k.1) x (by rw [hrl]; exact Nat.le_refl _) (by have := HN17.out; omega) (by rw [HXL.out]; have := HXN.out; have := HN17.out; omega) (fun y hy => IU.out y (List.mem_of_mem_drop (List.mem_of_mem_take hy))) IX.out f W (rd_row (RU.out.on (hS ▸ hB))) (RX.out.on (hS ▸ hB)))
        rw [hrl, HXL.out] at CT
        have hc5 := hbx.cell
        have hf5 := hbx.frozen
        obtain ⟨b0, b1, b2, b3⟩ := hbs
        have hc0 := b0.cell
        have hc1 := b1.cell
        obtain ⟨R, hR⟩ : ∃ R, (pre.map fun k => ltV (rwR n u k.1) x f).length = R := ⟨_, rfl⟩
        have HRO : Hid (R < O) := hid (by rw [← hR, List.length_map]; exact hlt)
        obtain ⟨V, hV⟩ : ∃ V, ltV (rwR n u k.1) x f = V := ⟨_, rfl⟩
        obtain ⟨E1, hE1⟩ : ∃ E1, ltE (rwR n u k.1) x f = E1 := ⟨_, rfl⟩
        rw [hV, hE1] at CT
        have HVV := hid hV
        have HEE := hid hE1
        have HALL := hid hall
        have HEND := hid (fun A8 c8 w4 w8 Sx h1 h2 h3 h4 h5 h6 => told_round (S := S) (V := V) (c8 := c8) (A8 := A8) (w4 := w4) (w8 := w8) (Sx := Sx) (f := f) (Nat.le_of_eq hS.symm) ha hbx hop ⟨b0, b1, b2, b3⟩ hsz hB h1 h2 h3 h4 h5 h6 W0.heap.size)
        have HA5 := hid (ha.ne (k := S + 5) (by omega) (by omega))
        have hl5 := hbx.lt
        have hl2 := b2.lt
        have hl3 := b3.lt
        have hc2 := b2.cell
        have hc3 := b3.cell
        have hf2 := b2.frozen
        have hf3 := b3.frozen
        obtain ⟨zs, hzs⟩ : ∃ zs, (pre.map fun k => ltV (rwR n u k.1) x f) = zs := ⟨_, rfl⟩
        rw [hzs] at hop hR hc5 HEND
        rw [hR] at hc5
        have HZS := hid hzs
        have HOP := hid hop
        have HBW := hid hB
        have HRR := hid hR
        clear hrl hbx hop hB hR hlt hS hz0 hV hE1 hall b0 b1 b2 b3 hzs ha
        by_cases hE0 : E1 = 0
        · subst hE0
          gi_wp2_with fail
          refine ⟨trivial, ?_⟩
          refine (CallsIn.inRound l (callsIn_wide.2 CT.out)).mono ?_
          rintro _ w4 ⟨rfl, hb4⟩
          have hc54 : w4.cell? ⟨S + 5, 0, none⟩ = some (.slice A2 R c2) := (hb4.cell (p := ⟨S + 5, 0, none⟩) hl5).trans hc5
          have hf54 : w4.frozen? ⟨S + 5, 0, none⟩ = false := (hb4.frozen (p := ⟨S + 5, 0, none⟩) hl5).trans hf5
          have HB4 := hid hb4
          have hl54 : S + 5 < w4.heap.size := Nat.lt_of_lt_of_le hl5 hb4.size
          have HA7 : Hid (Below W.heap.size W (w4.alloc (.cells #[.int .i64 V] 2))) := hid (hb4.alloc hb4.size _)
          clear hc5 hf5 hc2 hc3 hf2 hf3 hl2 hl3 hl5 hc0 hc1 hb4 CT
          gi_wp2_with (gi_at_builtin; refine wpListIn_app5 (Value.int .i64) (fun _ => rfl) _ rfl _ _ 22 rfl S 2 (.int .i64 0) 8 Tryz.underlying22 info_i64 rfl zs A2 c2 (by rw [HRR.out]; rfl) (own_on HOP.out HA7.out) [V] (some ⟨w4.heap.size, 0, none⟩) 1 _ rfl (rd_one (enc := Value.int .i64) (one_cell w4 (.int .i64 V) 2).1) (by have := HRR.out; have := HRO.out; simp [maxLen]; omega) (by have := HRR.out; have := HRO.out; simp; omega) (by have := hl54; simp; omega) ?_)
          rintro Sx A8 c8 w8 hSx ho8 hb8 hg8 hq8
          have HSX := hid hSx
          have HQ8 : Hid (went A8 A2 (w4.alloc (.cells #[.int .i64 V] 2)).heap.size) := hid (by rw [World.size_alloc]; exact hq8)
          have hc58 : w8.cell? ⟨S + 5, 0, none⟩ = some (.slice A2 R c2) := bx_cellB HA5.out hc54 hg8
          have hf58 : w8.frozen? ⟨S + 5, 0, none⟩ = false := bx_frozenB HA5.out hl54 hf54 hg8
          clear hSx hq8 hl54
          gi_wp2_with fail
          obtain ⟨z1, z2, z3⟩ := HEND.out A8 c8 w4 w8 Sx HB4.out HSX.out ho8 hb8 hg8 HQ8.out
          have z4 : ToldAt S w (.slice Ax N cx) f ((pre ++ [k]).map fun k => ltV (rwR n u k.1) x f) (w8.setCell ⟨S + 5, 0, none⟩ (.slice A8 Sx.length c8)) := by
            rw [List.map_append, List.map_singleton, HVV.out, HZS.out]; exact z3
          have z5 : ∀ q ∈ pre ++ [k], ltE (rwR n u q.1) x f = 0 := fun q hq => by
            rcases List.mem_append.1 hq with hq | hq
            · exact HALL.out q hq
            · simp at hq; subst hq; exact HEE.out
          exact And.intro z1 (And.intro z2 (And.intro z4 z5))
        · have hne : (E1 != 0) = true := by simpa using hE0
          gi_wp2_with fail
          refine ⟨trivial, ?_⟩
          refine (CallsIn.inRound l (callsIn_wide.2 CT.out)).mono ?_
          rintro _ w4 ⟨rfl, hb4⟩
          have hc24 : w4.cell? ⟨S + 2, 0, none⟩ = some (.slice none 0 0) := (hb4.cell (p := ⟨S + 2, 0, none⟩) hl2).trans hc2
          have hf24 : w4.frozen? ⟨S + 2, 0, none⟩ = false := (hb4.frozen (p := ⟨S + 2, 0, none⟩) hl2).trans hf2
          have hc34 : w4.cell? ⟨S + 3, 0, none⟩ = some (.int .i64 0) := (hb4.cell (p := ⟨S + 3, 0, none⟩) hl3).trans hc3
          have hf34 : w4.frozen? ⟨S + 3, 0, none⟩ = false := (hb4.frozen (p := ⟨S + 3, 0, none⟩) hl3).trans hf3
          have HB4 := hid hb4
          clear hc5 hf5 hc2 hc3 hf2 hf3 hl2 hl3 hl5 hc0 hc1 hb4 CT
          gi_wp2_with fail
          have z1 : KeepsFrom W0.heap.size W ((w4.setCell ⟨S + 2, 0, none⟩ (.slice none 0 0)).setCell ⟨S + 3, 0, none⟩ (.int .i64 E1)) := (((keeps_below HB4.out).trans (KeepsOthers.setCell _ _ _)).trans (KeepsOthers.setCell _ _ _)).from _
          have z2 : LeftAt S w E1 ((w4.setCell ⟨S + 2, 0, none⟩ (.slice none 0 0)).setCell ⟨S + 3, 0, none⟩ (.int .i64 E1)) := by
            obtain ⟨y1, y2⟩ := two_set (u' := .slice none 0 0) (v' := .int .i64 E1) hc24 hc34 (by omega)
            exact ⟨y1, y2, ((HBW.out.trans (HB4.out.mono (by omega))).setCell (p := ⟨S + 2, 0, none⟩) (by show S ≤ S + 2; omega) _).setCell (p := ⟨S + 3, 0, none⟩) (by show S ≤ S + 3; omega) _⟩
          exact And.intro z1 (And.intro rfl ⟨pre, k, rfl, HALL.out, by rw [HEE.out]; exact hE0, by rw [HEE.out]; exact z2⟩)
      case done =>
        rintro D ys W hD hys ⟨⟨A2, c2, ha, hbx, hop, ⟨b0, b1, b2, b3⟩, hsz, hB⟩, hall⟩ hK
        have hE0 : E = 0 := by
          rw [HZE.out]
          refine fstE_ok.2 fun e he => ?_
          rw [← hys, List.map_map] at he
          obtain ⟨q, hq, rfl⟩ := List.mem_map.1 he
          exact hall q hq
        obtain ⟨zs, hzs⟩ : ∃ zs, (ys.map fun k => ltV (rwR n u k.1) x f) = zs := ⟨_, rfl⟩
        have hZ : Z = zs := by
          rw [HZO.out, if_pos hE0, ← hys, List.map_map]
          exact hzs
        rw [hzs] at hbx hop
        have hc5 := hbx.cell
        have hc2 := b2.cell
        have hf2 := b2.frozen
        have hc3 := b3.cell
        have hf3 := b3.frozen
        have HOP := hid hop
        have HBB := hid hB
        have HDD := hid hD
        have HSZ := hid hz0
        have HSS := hid hS
        have HEZ := hid hE0
        have HZZ := hid hZ
        have HA2 := hid (ha.ne (k := S + 2) (by omega) (by omega))
        have HA3 := hid (ha.ne (k := S + 3) (by omega) (by omega))
        clear hop hB hbx hys hzs hE0 hZ hD hz0 hS b0 b1 b2 b3 ha
        go_wp2_with fail
        obtain ⟨W2, hW2⟩ : ∃ W2, ((W.setCell ⟨S + 2, 0, none⟩ (.slice A2 zs.length c2)).setCell ⟨S + 3, 0, none⟩ (.int .i64 0)) = W2 := ⟨_, rfl⟩
        have hK2 : W2.heap[D]? = some (.deferred (some [])) := by rw [← hW2]; exact (KeepsOthers.setCell _ _ _).same D _ ((KeepsOthers.setCell _ _ _).same D _ hK rfl) rfl
        obtain ⟨y1, y2⟩ := two_set (u' := .slice A2 zs.length c2) (v' := .int .i64 0) hc2 hc3 (show S + 2 ≠ S + 3 by omega)
        have hbk : ∀ r, some D = some r → ∃ o : Obj, W2.heap[r]? = some o ∧ o.isCells = false := fun r e => by cases e; exact ⟨_, hK2, rfl⟩
        have y3 := own_box (own_box HOP.out HA2.out (.slice A2 zs.length c2)) HA3.out (.int .i64 0)
        have y4 : Below S w ((W.setCell ⟨S + 2, 0, none⟩ (.slice A2 zs.length c2)).setCell ⟨S + 3, 0, none⟩ (.int .i64 0)) := (HBB.out.setCell (p := ⟨S + 2, 0, none⟩) (by show S ≤ S + 2; omega) _).setCell (p := ⟨S + 3, 0, none⟩) (by show S ≤ S + 3; omega) _
        have hsz2 := y4.size
        rw [hW2] at y1 y2 y3 y4 hsz2
        change bodyPostM _ _ _ _ _ _ _ ((W.setCell ⟨S + 2, 0, none⟩ (.slice A2 zs.length c2)).setCell ⟨S + 3, 0, none⟩ (.int .i64 0))
        rw [hW2]
        refine ⟨by simp, .inl ⟨_, _, rfl, run_takeDeferred hK2, ?_⟩⟩
        refine ⟨_, lbl_res (p := S + 2) (q := S + 3) rfl rfl (cell_kept y1 (grownBy_putObj' W2 D _) hbk) (cell_kept y2 (grownBy_putObj' W2 D _) hbk), ?_⟩
        rw [HZZ.out, HEZ.out]
        refine ⟨A2, c2, rfl, ?_, ?_⟩
        · rw [HSS.out]
          exact own_book y3 (grownBy_putObj' W2 D _) hbk
        · rw [HSS.out]
          exact y4.grown (grownBy_putObj' W2 D _) (by have := HSS.out; omega) (fun k e => by cases e; have := HDD.out; have := HSZ.out; omega)
      case stop =>
        rintro D c pre W hD ⟨k0, hk0, hpre⟩ ⟨rfl, ini, last, h1, h2, h3, h4, h5, h6⟩ hK
        obtain ⟨k', rfl⟩ : ∃ k', k0 = k' + 1 := by
          cases k0 with
          | zero => rw [h1] at hpre; simp at hpre
          | succ k' => exact ⟨k', rfl⟩
        rw [h1, List.map_append, List.range_succ] at hpre
        obtain ⟨hp1, hp2⟩ := List.append_inj' hpre rfl
        have hp3 : last.1 = k' := by simpa using hp2
        have hEL : E = ltE (rwR n u last.1) x f := by
          rw [HZE.out, hp3]
          rw [hp3] at h3
          refine fstE_at (g := fun k => ltE (rwR n u k) x f) (k := k') (s := k') (fun q hq => ?_) (by rw [List.getElem?_range (by omega)]) h3
          have hq2 : q ∈ List.range k' := by
            rw [List.take_range, Nat.min_eq_left (by omega)] at hq
            exact hq
          rw [← hp1] at hq2
          obtain ⟨z, hz, rfl⟩ := List.mem_map.1 hq2
          exact h2 z hz
        rw [← hEL] at h3 h5
        have hZ0 : Z = [] := by rw [HZO.out, if_neg h3]
        have HSS := hid hS
        have HZZ := hid hZ0
        have H3 := hid h3
        have HDD := hid hD
        have HSZ := hid hz0
        clear hEL hp1 hp2 hp3 hpre h1 h2 hZ0 hk0 h3 hD hz0 hS
        refine (wpIn_wide (n := 3)).2 ?_
        go_wp2_with fail
        have hbk : ∀ r, some D = some r → ∃ o : Obj, W.heap[r]? = some o ∧ o.isCells = false := fun r e => by cases e; exact ⟨_, hK, rfl⟩
        refine ⟨by simp, .inl ⟨_, _, rfl, run_takeDeferred hK, ?_⟩⟩
        refine ⟨_, lbl_res (p := S + 2) (q := S + 3) rfl rfl (cell_kept h4 (grownBy_putObj' W D _) hbk) (cell_kept h5 (grownBy_putObj' W D _) hbk), ?_⟩
        rw [HZZ.out]
        refine ⟨none, 0, rfl, own_nil _ _ _, ?_⟩
        rw [HSS.out]
        exact h6.grown (grownBy_putObj' W D _) (by have := h6.size; have := HSS.out; omega) (fun k e => by cases e; have := HDD.out; have := HSZ.out; omega)
    · have e1 : lzE (O : Int) u x f = 4 := by
        unfold lzE
        rw [if_neg (by simp [h1]), HO.out, hU, HN.out, hN, if_pos h2]
      have e2 : lzO (O : Int) u x f = [] := if_neg (by rw [e1]; decide)
      have t0 : ((N : Int) != n1) = true := by have := hn1.out.1; simp; omega
      rw [e1, e2]
      rw [hU] at CS ⊢
      rw [hN]
      clear e1 e2 e3 h1 hU hN ru rx hu hcu ho hx ix iu HO HN HR hn1 hws o2 o8 hOn hn17 hn2 h2
      refine (callsIn_wide (n := 3)).1 ?_
      refine callsIn_of_wp_marks Tryz.func27 rfl trivial ?_ rfl
      simp only [Tryz.ntmps27, List.size_toArray, List.length_cons, List.length_nil, Nat.reduceAdd, Nat.reduceSub, Array.replicate_succ, Array.replicate_zero, List.push_toArray, List.append_toArray, List.nil_append, List.cons_append]
      refine wpIn_wide.2 ?_
      go_wp2_with fail
      refine (CS.out _).mono ?_
      rintro _ _ ⟨rfl, rfl⟩
      go_wp2_with fail
      refine ⟨_, lbl_res (p := S + 2) (q := S + 3) rfl rfl (by rw [← hS]; simp [go_sem]) (by rw [← hS]; simp [go_sem]), none, 0, rfl, own_nil _ _ _, ?_⟩
      go_grown
  · have e1 : lzE o u x f = rwE o u := by unfold lzE; rw [if_pos h1]
    have e2 : lzO o u x f = [] := if_neg (by rw [e1]; exact h1)
    have e3 : seN o u = 0 := if_neg h1
    rw [e1, e2]
    rw [e3] at CS
    obtain ⟨E, hE⟩ : ∃ E, rwE o u = E := ⟨_, rfl⟩
    rw [hE] at CS h1 ⊢
    have hne : (E != 0) = true := by simpa using h1
    rw [hU] at CS ⊢
    rw [hN]
    clear e1 e2 e3 hE h1 hU hN ru rx hu hcu ho hx ix iu
    refine (callsIn_wide (n := 3)).1 ?_
    refine callsIn_of_wp_marks Tryz.func27 rfl trivial ?_ rfl
    simp only [Tryz.ntmps27, List.size_toArray, List.length_cons, List.length_nil, Nat.reduceAdd, Nat.reduceSub, Array.replicate_succ, Array.replicate_zero, List.push_toArray, List.append_toArray, List.nil_append, List.cons_append]
    refine wpIn_wide.2 ?_
    go_wp2_with fail
    refine (CS.out _).mono ?_
    rintro _ _ ⟨rfl, rfl⟩
    go_wp2_with fail
    refine ⟨_, lbl_res (p := S + 2) (q := S + 3) rfl rfl (by rw [← hS]; simp [go_sem]) (by rw [← hS]; simp [go_sem]), none, 0, rfl, own_nil _ _ _, ?_⟩
    go_grown
end Go.Proofs.YtehbdnehlfplaaaGreat
