
/- ZFsQ3: texts joined: FsQ3. -/
import Derived.Test.YtecgbelgoomneaaGreatZe
/- A vector's body by the program, scheme 3. -/
namespace Go.Proofs.YtecgbelgoomneaaGreat
open Go.RowKit
set_option maxHeartbeats 2000000
set_option maxRecDepth 100000
set_option linter.unusedVariables false
theorem wx_bodyK_sign (s : SentV) (p : SentP) (hs : s.sch = 3) (hd1 : 1 ≤ s.dim) (hd4 : s.dim ≤ 4096) (T : List Int) (hT : T.length ≤ 90000) (w : World)
    (CT0 : ∀ W, Below w.heap.size w W → Calls Tryz.prog 110 #[.agg #[.int .i64 s.sch, .int .i64 s.dim, .slice p.AL s.L.length p.cL, .slice p.AV s.V.length p.cV, .int .i64 s.scale, .int .i64 s.wide, .slice p.AE s.lev.length p.cE, .slice p.AN s.neg.length p.cN]] W (OwnOf 5 .u8 W.heap.size T W)) :
    Calls Tryz.prog 59 #[encT s p] w (OwnOf 5 .u8 w.heap.size (([s.sch] ++ encs [s.dim]) ++ T) w) := by
  have CP : Hid (∀ (g1 g2 : Nat) (W : World), w.heap.size + 2 ≤ W.heap.size → W.cell? ⟨g1, 0, none⟩ = some (.int .u8 s.sch) → W.cell? ⟨g2, 0, none⟩ = some (.int .u64 s.dim) → Calls Tryz.prog 58 #[.slice (some ⟨g1, 0, none⟩) 1 1, .slice (some ⟨g2, 0, none⟩) 1 1] W fun e w' => ∃ A c, e = .returned (.slice A ([s.sch] ++ encs [s.dim]).length c) ∧ w'.ownsRow (w.heap.size + 2) 5 1 (.slice A ([s.sch] ++ encs [s.dim]).length c) ([s.sch] ++ encs [s.dim]).length (([s.sch] ++ encs [s.dim]).map (Value.int .u8)) ∧ Below W.heap.size W w') := hid (fun g1 g2 W hz h1 h2 => by
    have h := leb_Put (A := some ⟨g1, 0, none⟩) (B := some ⟨g2, 0, none⟩) (c := 1) (d := 1) [s.sch] [s.dim] (by simp) (by simp) (by intro x hx; simp at hx; subst hx; unfold U64; omega) W (rd_one h1) (rd_one h2)
    exact h.mono fun _ _ ⟨A, c, e1, e2, e3⟩ => ⟨A, c, e1, own_base e2 hz, e3⟩)
  have CT : Hid (∀ W, w.heap.size + 2 ≤ W.heap.size → Below w.heap.size w W → Calls Tryz.prog 110 #[.agg #[.int .i64 s.sch, .int .i64 s.dim, .slice p.AL s.L.length p.cL, .slice p.AV s.V.length p.cV, .int .i64 s.scale, .int .i64 s.wide, .slice p.AE s.lev.length p.cE, .slice p.AN s.neg.length p.cN]] W fun e w' => ∃ A c, e = .returned (.slice A T.length c) ∧ w'.ownsRow (w.heap.size + 2) 5 1 (.slice A T.length c) T.length (T.map (Value.int .u8)) ∧ Below W.heap.size W w') := hid (fun W hz hW => (CT0 W hW).mono fun _ _ ⟨A, c, e1, e2, e3⟩ => ⟨A, c, e1, own_base e2 hz, e3⟩)
  have hXl := head_len (s := s) hd1 hd4
  obtain ⟨X, hX⟩ : ∃ X, [s.sch] ++ encs [s.dim] = X := ⟨_, rfl⟩
  rw [hX] at CP hXl
  rw [hX]
  obtain ⟨R, hR⟩ : ∃ R, X ++ T = R := ⟨_, rfl⟩
  rw [hR]
  have HR := hid hR
  obtain ⟨W2, W3, W4, W5, u2, u3, u4, u5, b2, b3, b4, b5, hz5, hfm⟩ := fnmap (P := Tryz.prog) (t := 114) Tryz.underlying114 Tryz.underlying3 (z := .nilFunc) (fun w => by kernel_rfl) (.func (.func 107) #[.agg #[.int .i64 s.sch, .int .i64 s.dim, .slice p.AL s.L.length p.cL, .slice p.AV s.V.length p.cV, .int .i64 s.scale, .int .i64 s.wide, .slice p.AE s.lev.length p.cE, .slice p.AN s.neg.length p.cN]] #[]) (.func (.func 108) #[.agg #[.int .i64 s.sch, .int .i64 s.dim, .slice p.AL s.L.length p.cL, .slice p.AV s.V.length p.cV, .int .i64 s.scale, .int .i64 s.wide, .slice p.AE s.lev.length p.cE, .slice p.AN s.neg.length p.cN]] #[]) (.func (.func 109) #[.agg #[.int .i64 s.sch, .int .i64 s.dim, .slice p.AL s.L.length p.cL, .slice p.AV s.V.length p.cV, .int .i64 s.scale, .int .i64 s.wide, .slice p.AE s.lev.length p.cE, .slice p.AN s.neg.length p.cN]] #[]) (.func (.func 110) #[.agg #[.int .i64 s.sch, .int .i64 s.dim, .slice p.AL s.L.length p.cL, .slice p.AV s.V.length p.cV, .int .i64 s.scale, .int .i64 s.wide, .slice p.AE s.lev.length p.cE, .slice p.AN s.neg.length p.cN]] #[]) (by intro h; injection h with h1; injection h1 with h1; exact absurd h1 (by decide)) (by intro h; injection h with h1; injection h1 with h1; exact absurd h1 (by decide)) (by intro h; injection h with h1; injection h1 with h1; exact absurd h1 (by decide)) (by intro h; injection h with h1; injection h1 with h1; exact absurd h1 (by decide)) (by intro h; injection h with h1; injection h1 with h1; exact absurd h1 (by decide)) (by intro h; injection h with h1; injection h1 with h1; exact absurd h1 (by decide)) (w.alloc (.cells #[.int .i64 s.sch, .int .i64 s.dim, .slice p.AL s.L.length p.cL, .slice p.AV s.V.length p.cV, .int .i64 s.scale, .int .i64 s.wide, .slice p.AE s.lev.length p.cE, .slice p.AN s.neg.length p.cN] 87)) (w.heap.size + 1) (World.size_alloc _ _).symm
  have hbox := boxT_new w s p 87
  have hgl : w.heap.size < w.heap.size + 1 := by omega
  obtain ⟨⟨c20, c21, c22, c23, c24, c25, c26, c27⟩, _⟩ := (hbox.below b2 hgl).eight
  obtain ⟨⟨c30, c31, c32, c33, c34, c35, c36, c37⟩, _⟩ := (hbox.below b3 hgl).eight
  obtain ⟨⟨c40, c41, c42, c43, c44, c45, c46, c47⟩, _⟩ := (hbox.below b4 hgl).eight
  obtain ⟨⟨c50, c51, c52, c53, c54, c55, c56, c57⟩, _⟩ := (hbox.below b5 hgl).eight
  have HL : Hid (∀ W : World, W.heap[w.heap.size + 1]? = W5.heap[w.heap.size + 1]? → (Instr.lookup 114 (.map (some (w.heap.size + 1))) (.int .i64 s.sch) false).run Tryz.prog W = .ok (.func (.func 110) #[.agg #[.int .i64 s.sch, .int .i64 s.dim, .slice p.AL s.L.length p.cL, .slice p.AV s.V.length p.cV, .int .i64 s.scale, .int .i64 s.wide, .slice p.AE s.lev.length p.cE, .slice p.AN s.neg.length p.cN]] #[]) W) := hid (fun W hW => (congrArg (fun x => (Instr.lookup 114 (.map (some (w.heap.size + 1))) (.int .i64 x) false).run Tryz.prog W) hs).trans (hfm W hW).l3)
  have hz2 : w.heap.size + 2 ≤ W5.heap.size := by omega
  have k5 : Below w.heap.size w W5 := (growd w _).trans (b5.mono (by omega))
  have q1 : IntKind.u8.wrap s.sch = s.sch := by rw [hs]; rfl
  have q2 : IntKind.u64.wrap s.dim = s.dim := by rw [IntKind.wrap_u64]; omega
  have hmm := @run_makeMap Tryz.prog
  clear hs hX hR hfm b2 b3 b4 b5 hbox hgl CT0
  go_enter Tryz.func59, Tryz.ntmps59
  go_wp2_with fail
  clear u2 u3 u4 u5 hmm c20 c21 c22 c23 c24 c25 c26 c27 c30 c31 c32 c33 c34 c35 c36 c37 c40 c41 c42 c43 c44 c45 c46 c47
  go_region_held3 (fun w' => w'.cell? ⟨w.heap.size, 0, none⟩ = some (.int .i64 s.sch) ∧ w'.cell? ⟨w.heap.size, 1, none⟩ = some (.int .i64 s.dim) ∧ w'.cell? ⟨w.heap.size, 2, none⟩ = some (.slice p.AL s.L.length p.cL) ∧ w'.cell? ⟨w.heap.size, 3, none⟩ = some (.slice p.AV s.V.length p.cV) ∧ w'.cell? ⟨w.heap.size, 4, none⟩ = some (.int .i64 s.scale) ∧ w'.cell? ⟨w.heap.size, 5, none⟩ = some (.int .i64 s.wide) ∧ w'.cell? ⟨w.heap.size, 6, none⟩ = some (.slice p.AE s.lev.length p.cE) ∧ w'.cell? ⟨w.heap.size, 7, none⟩ = some (.slice p.AN s.neg.length p.cN) ∧ (Instr.lookup 114 (.map (some (w.heap.size + 1))) (.int .i64 s.sch) false).run Tryz.prog w' = .ok (.func (.func 110) #[.agg #[.int .i64 s.sch, .int .i64 s.dim, .slice p.AL s.L.length p.cL, .slice p.AV s.V.length p.cV, .int .i64 s.scale, .int .i64 s.wide, .slice p.AE s.lev.length p.cE, .slice p.AN s.neg.length p.cN]] #[]) w' ∧ w'.heap[w.heap.size + 1]? = W5.heap[w.heap.size + 1]? ∧ w.heap.size + 2 ≤ w'.heap.size ∧ Below w.heap.size w w') (first | exact held12 HL.out (by assumption) hb3 | exact held12 HL.out (by assumption) (hb2.mono (held12Z (by assumption))) | exact held12 HL.out (by assumption) (hb1.mono (held12Z (by assumption))) | exact held12 HL.out (by assumption) ((growd _ _).mono (held12Z (by assumption))) | assumption | exact ⟨c50, c51, c52, c53, c54, c55, c56, c57, HL.out _ rfl, rfl, hz2, k5.drew⟩)
    (first | (go_at_call 58; refine (CP.out _ _ _ (held12Z (by assumption)) (by simp [go_sem]) (by simp [go_sem])).mono ?_; rintro _ w1 ⟨A1, d1, rfl, ho1, hb1⟩) | (go_at_call 110; refine (CT.out _ (held12Z (by assumption)) (held12B (by assumption))).mono ?_; rintro _ w2 ⟨A2, d2, rfl, ho2, hb2⟩) | (refine step_app (Value.int .u8) (fun _ => rfl) rfl _ _ 50 rfl (w.heap.size + 2) 5 (.int .u8 0) 1 Tryz.underlying50 info_u8 rfl X A1 d1 rfl (own_on ho1 hb2) T A2 d2 _ rfl (own_rd ho2) (by simp [maxLen]; omega) (by simp; omega) (held12Z (by assumption)) ?_; rintro Y A3 d3 w3 hY ho3 hb3 hg3; have hY2 := hid hY; clear hY) | fail)
  all_goals
    have e : Y = R := by rw [hY2.out, HR.out]
    clear hY2
    subst e
    have HO := hid (own_base ho3 (show w.heap.size ≤ w.heap.size + 2 by omega))
    have kk := held12B (by assumption)
    clear ho1 ho2 ho3
    go_wp2_with fail
    go_ret
    exact ⟨A3, d3, rfl, HO.out, kk⟩
end Go.Proofs.YtecgbelgoomneaaGreat
