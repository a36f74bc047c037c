
/- The table, by the document. -/
import Derived.Test.YtnokomlekndgfaaTbA
import Derived.Test.YtnokomlekndgfaaTbJ
import Derived.Laws.MakeOwn
namespace Go.Proofs.Ytnokomlekndgfaa
open Go.RowKit
set_option maxHeartbeats 2000000
set_option maxRecDepth 100000
set_option linter.unusedVariables false
theorem info_u64t : (Try.prog.info? 22).map (fun i => (i.zero, i.size, i.bytes)) = some (some (.int .u64 0), 1, 8) := by kernel_rfl
theorem make17 (W : World) : (Instr.makeSlice 29 (.int .i64 17) (.int .i64 17)).run Try.prog W = .ok (.slice (some ⟨W.heap.size, 0, none⟩) 17 17) (W.alloc (.cells #[.int .u64 0, .int .u64 0, .int .u64 0, .int .u64 0, .int .u64 0, .int .u64 0, .int .u64 0, .int .u64 0, .int .u64 0, .int .u64 0, .int .u64 0, .int .u64 0, .int .u64 0, .int .u64 0, .int .u64 0, .int .u64 0, .int .u64 0] 22)) := by
  obtain ⟨i, hi, hzz⟩ := Option.map_eq_some_iff.1 info_u64t
  simp only [Prod.mk.injEq] at hzz
  obtain ⟨hz, hs, hb⟩ := hzz
  have h := run_make (P := Try.prog) W 29 22 i _ Try.underlying29 hi hz .i64 .i64 17 17 (by decide) (by decide) (by rw [hb]; decide) (by decide)
  rw [hs] at h
  rw [h]
  have e : madeCells (Value.int .u64 0).cells (Int.toNat 17 * 1) = #[.int .u64 0, .int .u64 0, .int .u64 0, .int .u64 0, .int .u64 0, .int .u64 0, .int .u64 0, .int .u64 0, .int .u64 0, .int .u64 0, .int .u64 0, .int .u64 0, .int .u64 0, .int .u64 0, .int .u64 0, .int .u64 0, .int .u64 0] := by kernel_rfl
  rw [e]
  rfl
theorem far_lit : ∀ j, j < 4 → ([.int .i64 8, .int .i64 4, .int .i64 2, .int .i64 1] : List Value)[j]? = some (.int .i64 ((8 / 2 ^ j : Nat) : Int)) ∧ 8 / 2 ^ j ∈ [8, 4, 2, 1] ∧ 8 / 2 ^ j / 2 = 8 / 2 ^ (j + 1) := fun j hj => by
  match j, hj with
  | 0, _ => exact ⟨rfl, by decide, by decide⟩
  | 1, _ => exact ⟨rfl, by decide, by decide⟩
  | 2, _ => exact ⟨rfl, by decide, by decide⟩
  | 3, _ => exact ⟨rfl, by decide, by decide⟩
theorem ref_Rows (w : World) : Calls Try.prog 17 #[] w (OwnRows w) := by
  have hmk := make17 w
  obtain ⟨w2, hw2⟩ : ∃ w2, w.alloc (.cells #[.int .u64 0, .int .u64 0, .int .u64 0, .int .u64 0, .int .u64 0, .int .u64 0, .int .u64 0, .int .u64 0, .int .u64 0, .int .u64 0, .int .u64 0, .int .u64 0, .int .u64 0, .int .u64 0, .int .u64 0, .int .u64 0, .int .u64 0] 22) = w2 := ⟨_, rfl⟩
  have hs2 : w2.heap.size = w.heap.size + 1 := by rw [← hw2]; simp
  have hb2 : Below w.heap.size w w2 := by rw [← hw2]; go_grown
  have f2 : BoxL w2 w.heap.size [.int .u64 0, .int .u64 0, .int .u64 0, .int .u64 0, .int .u64 0, .int .u64 0, .int .u64 0, .int .u64 0, .int .u64 0, .int .u64 0, .int .u64 0, .int .u64 0, .int .u64 0, .int .u64 0, .int .u64 0, .int .u64 0, .int .u64 0] := by rw [← hw2]; exact BoxL.new w [.int .u64 0, .int .u64 0, .int .u64 0, .int .u64 0, .int .u64 0, .int .u64 0, .int .u64 0, .int .u64 0, .int .u64 0, .int .u64 0, .int .u64 0, .int .u64 0, .int .u64 0, .int .u64 0, .int .u64 0, .int .u64 0, .int .u64 0] 22
  obtain ⟨w3, hw3⟩ : ∃ w3, w2.setCell ⟨w.heap.size, 0, none⟩ (.int .u64 1073741824) = w3 := ⟨_, rfl⟩
  have f3 := f2.one (k := 0) rfl (.int .u64 1073741824)
  have hb3 : Below w.heap.size w w3 := by rw [← hw3]; exact hb2.setCell (Nat.le_refl _) _
  have hs3 : w3.heap.size = w.heap.size + 1 := by rw [← hw3, ← hs2]; simp
  rw [hw3] at f3
  obtain ⟨w4, hw4⟩ : ∃ w4, w3.setCell ⟨w.heap.size, 16, none⟩ (.int .u64 536870912) = w4 := ⟨_, rfl⟩
  have f4 := f3.one (k := 16) rfl (.int .u64 536870912)
  have hb4 : Below w.heap.size w w4 := by rw [← hw4]; exact hb3.setCell (Nat.le_refl _) _
  have hs4 : w4.heap.size = w.heap.size + 1 := by rw [← hw4, ← hs3]; simp
  rw [hw4] at f4
  obtain ⟨w5, hw5⟩ : ∃ w5, w4.alloc (.cells #[.int .i64 8, .int .i64 4, .int .i64 2, .int .i64 1] 3) = w5 := ⟨_, rfl⟩
  have hb5 : Below w.heap.size w w5 := by rw [← hw5]; exact hb4.alloc hb4.size _
  have l5 : BoxL w5 (w.heap.size + 1) [.int .i64 8, .int .i64 4, .int .i64 2, .int .i64 1] := by rw [← hw5, ← hs4]; exact BoxL.new w4 [.int .i64 8, .int .i64 4, .int .i64 2, .int .i64 1] 3
  have f5 : BoxL w5 w.heap.size (u64sL (fillL 8 8)) := by
    rw [fill_first, ← hw5]
    exact f4.below ((Below.refl _ _).alloc (Nat.le_refl _) _) (by omega)
  obtain ⟨c0, d0⟩ := f2 0 _ rfl
  obtain ⟨c16, d16⟩ := f3 16 _ rfl
  have F5 := hid f5
  have L5 := hid l5
  have HB := hid hb5
  clear f2 f3 f4 f5 l5 hb2 hb3 hb4 hb5
  go_enter Try.func17, Try.ntmps17
  go_wp2_with fail
  go_loopw [3, 4, 12] (fun xf xi xn wr => ∃ j : Nat, j ≤ 4 ∧ xn = .int .i64 (j : Int) ∧ BoxL wr w.heap.size (u64sL (fillL (8 / 2 ^ j) (8 / 2 ^ j))) ∧ BoxL wr (w.heap.size + 1) [.int .i64 8, .int .i64 4, .int .i64 2, .int .i64 1] ∧ Below w.heap.size w wr) (fun _ _ xn _ => 4 - (intOf xn).toNat)
  case atStart => exact ⟨0, by decide, rfl, F5.out, L5.out, HB.out⟩
  case round =>
    obtain ⟨j, hj, rfl, g2, g1, hbr⟩ := hrel
    have G1 := hid g1
    have G2 := hid g2
    have HBR := hid hbr
    clear F5 L5 HB g1 hbr hmk hw2 hw3 hw4 hw5 c0 d0 c16 d16 hs2 hs3 hs4 g2
    by_cases hlt : j < 4
    · obtain ⟨e1, hm, e2⟩ := far_lit j hlt
      obtain ⟨far, hfar⟩ : ∃ far, 8 / 2 ^ j = far := ⟨_, rfl⟩
      rw [hfar] at e1 hm e2
      obtain ⟨l1, _⟩ := G1.out j _ e1
      have hf2 : 1 ≤ far ∧ far ≤ 8 := by simp at hm; omega
      obtain ⟨f1, f2⟩ := hf2
      have hlt' : (j : Int) < 4 := by omega
      have hfp : 0 < far := by omega
      have G3 : Hid (BoxL wr w.heap.size (u64sL (fillL far far))) := hid (by rw [← hfar]; exact G2.out)
      have HM := hid hm
      have HE := hid e2
      clear e1 hm e2 hfar G2
      go_wp2_with fail
      go_loopw [4] (fun xa wr => ∃ a : Nat, a < 32 ∧ a % (2 * far) = far ∧ xa = .int .i64 (a : Int) ∧ BoxL wr w.heap.size (u64sL (fillL far a)) ∧ BoxL wr (w.heap.size + 1) [.int .i64 8, .int .i64 4, .int .i64 2, .int .i64 1] ∧ Below w.heap.size w wr) (fun xa _ => 32 - (intOf xa).toNat)
      case atStart => exact ⟨far, by omega, Nat.mod_eq_of_lt (by omega), rfl, G3.out, G1.out, HBR.out⟩
      case round =>
        clear l1 G3 G1 HBR
        obtain ⟨a, ha, hmod, rfl, g2, g1, hbr⟩ := hrel
        have G1 := hid g1
        have G2 := hid g2
        have HBR := hid hbr
        clear g1 hbr
        by_cases hlt : a < 16
        · obtain ⟨s1, s2, hup⟩ := fill_on far HM.out a hlt hmod
          have hle : far ≤ a := by rw [← hmod]; exact Nat.mod_le _ _
          obtain ⟨b, hb⟩ : ∃ b, a - far = b := ⟨_, rfl⟩
          obtain ⟨d, hd⟩ : ∃ d, a + far = d := ⟨_, rfl⟩
          have q1 := g2 b _ (u64sL_at (by rw [fill_len]; omega))
          have q2 := g2 d _ (u64sL_at (by rw [fill_len]; omega))
          have q3 := g2 a _ (u64sL_at (by rw [fill_len]; omega))
          have t1 : IntKind.i64.wrap ((a : Int) - (far : Int)) = (b : Int) := by rw [IntKind.wrap_i64]; omega
          have t2 : IntKind.i64.wrap ((a : Int) + (far : Int)) = (d : Int) := by rw [IntKind.wrap_i64]; omega
          rw [hb, hd] at s1 s2
          obtain ⟨x, hx⟩ : ∃ x, (fillL far a).getD b 0 = x := ⟨_, rfl⟩
          obtain ⟨y, hy⟩ : ∃ y, (fillL far a).getD d 0 = y := ⟨_, rfl⟩
          obtain ⟨v, hv⟩ : ∃ v, (fillL far a).getD a 0 = v := ⟨_, rfl⟩
          rw [hx, hy] at s1 s2
          rw [hx] at q1
          rw [hy] at q2
          rw [hv] at q3
          obtain ⟨Z, hZ⟩ : ∃ Z, x * y = Z := ⟨_, rfl⟩
          rw [hZ] at s1 s2
          have t3 : IntKind.u64.wrap ((x : Int) * (y : Int)) = (Z : Int) := by
            rw [show (x : Int) * (y : Int) = ((x * y : Nat) : Int) by simp, hZ, IntKind.wrap_u64]; omega
          have CR := hid (fun W => (ref_Root Z s2 W).mono fun e w' (h : _ ∧ W = w') => (⟨h.1, h.2.symm⟩ : e = .returned (.int .u64 (rootN Z : Int)) ∧ w' = W))
          obtain ⟨r, hr⟩ : ∃ r, rootN Z = r := ⟨_, rfl⟩
          rw [hr] at s1 CR
          have HS := hid s1
          have t4 : IntKind.i64.wrap (2 * (far : Int)) = 2 * (far : Int) := by rw [IntKind.wrap_i64]; omega
          have t5 : IntKind.i64.wrap ((a : Int) + 2 * (far : Int)) = ((a + 2 * far : Nat) : Int) := by rw [IntKind.wrap_i64]; omega
          have HE2 : Hid (a + 2 * far < 32 ∧ (a + 2 * far) % (2 * far) = far) := hid ⟨by omega, by rw [Nat.add_mod_right]; exact hmod⟩
          have hd17 : (d : Int) < 17 := by omega
          have hb17 : (b : Int) < 17 := by omega
          have ha17 : (a : Int) < 17 := by omega
          obtain ⟨c1, _⟩ := q1
          obtain ⟨c2, _⟩ := q2
          obtain ⟨c3, c4⟩ := q3
          clear s1 s2 g2 hmod hb hd hx hy hv hZ hr hle hup ha
          go_wp2_with fail
          go_still_tail 17, (by kernel_rfl)
          still_call (CR.out _)
          repeat still_step
          refine wpStill_nil ?_
          change wpList _ _ _ _ _ wr.drew
          have GN : Hid (BoxL (wr.drew.setCell ⟨w.heap.size, a, none⟩ (.int .u64 (r : Int))) w.heap.size (u64sL (fillL far (a + 2 * far)))) := hid (by rw [← HS.out, u64sL_set]; exact (BoxL.drew G2.out).one (u64sL_at (by rw [fill_len]; omega)) _)
          have GM : Hid (BoxL (wr.drew.setCell ⟨w.heap.size, a, none⟩ (.int .u64 (r : Int))) (w.heap.size + 1) [.int .i64 8, .int .i64 4, .int .i64 2, .int .i64 1]) := hid ((BoxL.drew G1.out).other (by simp) _)
          have GB : Hid (Below w.heap.size w (wr.drew.setCell ⟨w.heap.size, a, none⟩ (.int .u64 (r : Int)))) := hid (HBR.out.drew.setCell (by simp) _)
          have c3' : wr.drew.cell? ⟨w.heap.size, a, none⟩ = some (.int .u64 (v : Int)) := c3
          have c4' : wr.drew.frozen? ⟨w.heap.size, a, none⟩ = false := c4
          generalize wr.drew = w2 at GN GM GB c3' c4' ⊢
          clear c1 c2 c3 c4 G1 G2 HBR
          go_wp2_with fail
          go_roundw
          case rel => exact ⟨a + 2 * far, HE2.out.1, HE2.out.2, rfl, GN.out, GM.out, GB.out⟩
          case measure => have := HE2.out.1; simp [intOf]; omega
        · obtain hge : 16 ≤ a := by omega
          have hE := fill_end far HM.out a ha hge hmod
          rw [HE.out] at hE
          have HF := hid hE
          clear g2 hE
          go_wp2_with fail
          go_roundw
          case rel => exact ⟨j + 1, by omega, by go_num, by rw [← HF.out]; exact G2.out, G1.out, HBR.out⟩
          case measure => simp [intOf]; omega
    · obtain rfl : j = 4 := by omega
      have K : Hid (BoxL wr w.heap.size (rowsI.map (Value.int .u64))) := hid (by
        have := G2.out
        rw [show 8 / 2 ^ 4 = 0 by decide, fill_done, rows_vals] at this
        exact this)
      clear G1 G2
      go_wp2_with fail
      go_ret
      refine ⟨some ⟨w.heap.size, 0, none⟩, 17, rfl, ?_, HBR.out⟩
      intro k x hx
      have hc := (K.out k (.int .u64 x) (by rw [List.getElem?_map, hx]; rfl)).1
      exact ⟨w.heap.size, 0, rfl, lt_of_cell hc, by rw [Nat.zero_add]; exact hc⟩
end Go.Proofs.Ytnokomlekndgfaa
