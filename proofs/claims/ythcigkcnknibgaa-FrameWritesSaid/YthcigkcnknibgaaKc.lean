
/- Kc: texts joined: CrcC CrcD FsF IxR FsP BoxG Law Arg ArgB. -/
import Derived.Test.YthcigkcnknibgaaKb
import Derived.Lib.AppendZerosOnto
import Derived.Lib.Walk
import Derived.Test.YthcigkcnknibgaaKa
import Derived.Maps.OwnSet
import Derived.Test.YthcigkcnknibgaaRows
import Derived.WalkKit
import Derived.ProofKit
import Derived.OpenShut
import Derived.Carry
import Derived.Deep.Grids
/- A text's sum in bytes; a text and its sum. -/
namespace Go.Proofs.Ythcigkcnknibgaa
open Go.RowKit
set_option maxHeartbeats 400000
set_option maxRecDepth 100000
set_option linter.unusedVariables false
/-- The first k bytes of a sum, the others 0. -/
def tl (s k j : Nat) : Int := if j < k then ((s / 2 ^ (8 * j) % 256 : Nat) : Int) else 0
theorem tl_zero (s j : Nat) : tl s 0 j = 0 := rfl
theorem tl_new (s k : Nat) : tl s (k + 1) k = ((s / 2 ^ (8 * k) % 256 : Nat) : Int) := by unfold tl; rw [if_pos (by omega)]
theorem tl_old {s k j : Nat} (h : j ≠ k) : tl s (k + 1) j = tl s k j := by
  unfold tl
  by_cases h1 : j < k
  · rw [if_pos h1, if_pos (by omega)]
  · rw [if_neg h1, if_neg (by omega)]
/-- Four bytes in a block. -/
def Four (w : World) (g : Nat) (f : Nat → Int) : Prop := ∀ j, j < 4 → w.cell? ⟨g, j, none⟩ = some (.int .u8 (f j)) ∧ w.frozen? ⟨g, j, none⟩ = false
theorem four_new (w : World) (t : TypeId) : Four (w.alloc (.cells #[.int .u8 0, .int .u8 0, .int .u8 0, .int .u8 0] t)) w.heap.size (fun _ => 0) := fun j hj => by
  match j, hj with
  | 0, _ => exact ⟨by simp [go_sem], by simp [go_sem]⟩
  | 1, _ => exact ⟨by simp [go_sem], by simp [go_sem]⟩
  | 2, _ => exact ⟨by simp [go_sem], by simp [go_sem]⟩
  | 3, _ => exact ⟨by simp [go_sem], by simp [go_sem]⟩
theorem Four.below {w w' : World} {g B : Nat} {f : Nat → Int} (h : Four w g f) (hb : Below B w w') (hg : g < B) : Four w' g f := fun j hj =>
  ⟨(hb.cell (p := ⟨g, j, none⟩) hg).trans (h j hj).1, (hb.frozen (p := ⟨g, j, none⟩) hg).trans (h j hj).2⟩
theorem Four.other {w : World} {g : Nat} {f : Nat → Int} (h : Four w g f) {p : Addr} (hp : p.block ≠ g) (v : Value) : Four (w.setCell p v) g f := fun j hj => by
  refine ⟨?_, ?_⟩
  · rw [World.cell?_setCell_other _ _ _ _ (by rintro rfl; exact hp rfl)]
    exact (h j hj).1
  · rw [World.frozen?_setCell]
    exact (h j hj).2
theorem Four.set {w : World} {g k s : Nat} (h : Four w g (tl s k)) (hk : k < 4) {u : Value} (hc : w.cell? ⟨g, k, none⟩ = some u) : Four (w.setCell ⟨g, k, none⟩ (.int .u8 (tl s (k + 1) k))) g (tl s (k + 1)) := fun j hj => by
  refine ⟨?_, ?_⟩
  · by_cases e : j = k
    · subst e
      exact World.cell?_setCell_same _ _ _ hc
    · rw [World.cell?_setCell_other _ _ _ _ (by intro e'; injection e' with e1 e2; exact e e2.symm), tl_old e]
      exact (h j hj).1
  · rw [World.frozen?_setCell]
    exact (h j hj).2
/-- Four bytes laid at once. -/
def lay4 (w : World) (g : Nat) (a b c d : Value) : World := (((w.setCell ⟨g, 0, none⟩ a).setCell ⟨g, 1, none⟩ b).setCell ⟨g, 2, none⟩ c).setCell ⟨g, 3, none⟩ d
theorem lay4_below {w w' : World} {g B : Nat} (h : Below B w w') (hg : B ≤ g) (a b c d : Value) : Below B w (lay4 w' g a b c d) :=
  (((h.setCell (p := ⟨g, 0, none⟩) hg _).setCell (p := ⟨g, 1, none⟩) hg _).setCell (p := ⟨g, 2, none⟩) hg _).setCell (p := ⟨g, 3, none⟩) hg _
theorem lay4_cells {w : World} {g : Nat} {f : Nat → Int} (h : Four w g f) (a b c d : Value) :
    (lay4 w g a b c d).cell? ⟨g, 0, none⟩ = some a ∧ (lay4 w g a b c d).cell? ⟨g, 1, none⟩ = some b ∧ (lay4 w g a b c d).cell? ⟨g, 2, none⟩ = some c ∧ (lay4 w g a b c d).cell? ⟨g, 3, none⟩ = some d := by
  have ne : ∀ {i j : Nat}, i ≠ j → (⟨g, i, none⟩ : Addr) ≠ ⟨g, j, none⟩ := fun hij e => by injection e with _ e; exact hij e
  have h0 := (h 0 (by omega)).1
  have h1 := (h 1 (by omega)).1
  have h2 := (h 2 (by omega)).1
  have h3 := (h 3 (by omega)).1
  have oth : ∀ (w : World) (i j : Nat) (v : Value), i ≠ j → (w.setCell ⟨g, i, none⟩ v).cell? ⟨g, j, none⟩ = w.cell? ⟨g, j, none⟩ := fun w i j v hij => World.cell?_setCell_other _ _ _ _ (ne hij)
  unfold lay4
  refine ⟨?_, ?_, ?_, ?_⟩
  · rw [oth _ 3 0 _ (by omega), oth _ 2 0 _ (by omega), oth _ 1 0 _ (by omega), World.cell?_setCell_same _ _ _ h0]
  · rw [oth _ 3 1 _ (by omega), oth _ 2 1 _ (by omega)]
    exact World.cell?_setCell_same _ _ _ ((oth _ 0 1 _ (by omega)).trans h1)
  · rw [oth _ 3 2 _ (by omega)]
    exact World.cell?_setCell_same _ _ _ ((oth _ 1 2 _ (by omega)).trans ((oth _ 0 2 _ (by omega)).trans h2))
  · exact World.cell?_setCell_same _ _ _ ((oth _ 2 3 _ (by omega)).trans ((oth _ 1 3 _ (by omega)).trans ((oth _ 0 3 _ (by omega)).trans h3)))
theorem crc_tail {A : Option Addr} {c : Nat} (b : List Int) (hb : b.length ≤ 1000000) (ub : U8s b) (w : World) (ra : Rd (Value.int .u8) w w.heap.size A b) :
    Calls Try.prog 50 #[.slice A b.length c] w fun e w' => e = .returned (.agg #[.int .u8 (tl (sumN b) 4 0), .int .u8 (tl (sumN b) 4 1), .int .u8 (tl (sumN b) 4 2), .int .u8 (tl (sumN b) 4 3)]) ∧ Below w.heap.size w w' := by
  have hs := sumN_lt b
  obtain ⟨w2, hw2⟩ : ∃ w2, (w.alloc (.cells #[.int .u8 0, .int .u8 0, .int .u8 0, .int .u8 0] 67)).alloc (.cells #[.int .u8 0, .int .u8 0, .int .u8 0, .int .u8 0] 67) = w2 := ⟨_, rfl⟩
  have hb2 : Below w.heap.size w w2 := by rw [← hw2]; go_grown
  have f2 : Four w2 (w.heap.size + 1) (fun _ => 0) := by
    rw [← hw2]
    have := four_new (w.alloc (.cells #[.int .u8 0, .int .u8 0, .int .u8 0, .int .u8 0] 67)) 67
    rwa [World.size_alloc] at this
  have f1 : Four w2 w.heap.size (fun _ => 0) := by
    rw [← hw2]
    exact (four_new w 67).below ((Below.refl _ _).alloc (Nat.le_refl _) _) (by simp)
  have CS := hid (crc_Sum (A := A) (c := c) b (by omega) ub w2 (ra.below hb2))
  obtain ⟨s, hs'⟩ : ∃ s, sumN b = s := ⟨_, rfl⟩
  rw [hs'] at CS hs ⊢
  clear hs' ra ub
  go_enter Try.func50, Try.ntmps50
  go_wp2_with fail
  refine CS.out.mono ?_
  rintro _ _ ⟨rfl, rfl⟩
  have F1 := hid f1
  have F2 := hid f2
  clear f1 f2 hw2
  go_wp2_with fail
  go_loopw [5, 8] (fun q i wr => ∃ (k : Nat), k ≤ 4 ∧ i = .int .i64 k ∧ Four wr (w.heap.size + 1) (tl s k) ∧ Four wr w.heap.size (fun _ => 0) ∧ Below w.heap.size w wr) (fun _ i _ => 4 - (intOf i).toNat)
  case atStart => exact ⟨0, by omega, rfl, F2.out, F1.out, hb2⟩
  case round =>
    obtain ⟨k, hk, rfl, g2, g1, hbr⟩ := hrel
    have G1 := hid g1
    have G2 := hid g2
    clear F1 F2
    by_cases hlt : k < 4
    · obtain ⟨hc, hf⟩ := g2 k hlt
      clear g1 g2
      go_wp2_with fail
      go_roundw
      case rel =>
        refine ⟨k + 1, by omega, by go_num, ?_, ?_, hbr.setCell (by simp) _⟩
        · have e1 : (s : Int) / 2 ^ (8 * k) % 256 = tl s (k + 1) k := by rw [tl_new, Int.natCast_emod, Int.natCast_ediv, Int.natCast_pow]; rfl
          rw [e1]
          exact G2.out.set hlt hc
        · exact G1.out.other (by simp) _
      case measure => simp [intOf]; omega
    · obtain rfl : k = 4 := by omega
      clear G2
      obtain ⟨a0, b0⟩ := g2 0 (by omega)
      obtain ⟨a1, b1⟩ := g2 1 (by omega)
      obtain ⟨a2, b2⟩ := g2 2 (by omega)
      obtain ⟨a3, b3⟩ := g2 3 (by omega)
      obtain ⟨c0, d0⟩ := g1 0 (by omega)
      obtain ⟨c1, d1⟩ := g1 1 (by omega)
      obtain ⟨c2, d2⟩ := g1 2 (by omega)
      obtain ⟨c3, d3⟩ := g1 3 (by omega)
      clear g1 g2
      go_wp2_with fail
      have K := lay4_cells G1.out (.int .u8 (tl s 4 0)) (.int .u8 (tl s 4 1)) (.int .u8 (tl s 4 2)) (.int .u8 (tl s 4 3))
      have KB := lay4_below hbr (Nat.le_refl _) (.int .u8 (tl s 4 0)) (.int .u8 (tl s 4 1)) (.int .u8 (tl s 4 2)) (.int .u8 (tl s 4 3))
      have hw5 : lay4 wr w.heap.size (.int .u8 (tl s 4 0)) (.int .u8 (tl s 4 1)) (.int .u8 (tl s 4 2)) (.int .u8 (tl s 4 3)) = (((wr.setCell ⟨w.heap.size, 0, none⟩ (.int .u8 (tl s 4 0))).setCell ⟨w.heap.size, 1, none⟩ (.int .u8 (tl s 4 1))).setCell ⟨w.heap.size, 2, none⟩ (.int .u8 (tl s 4 2))).setCell ⟨w.heap.size, 3, none⟩ (.int .u8 (tl s 4 3)) := rfl
      obtain ⟨w5, h5⟩ : ∃ w5, lay4 wr w.heap.size (.int .u8 (tl s 4 0)) (.int .u8 (tl s 4 1)) (.int .u8 (tl s 4 2)) (.int .u8 (tl s 4 3)) = w5 := ⟨_, rfl⟩
      rw [← hw5]
      rw [h5] at K KB ⊢
      clear h5 hw5 a0 a1 a2 a3 b0 b1 b2 b3 c0 c1 c2 c3 d0 d1 d2 d3 G1
      obtain ⟨a0, a1, a2, a3⟩ := K
      refine bodyPost_ret (v := .agg #[.int .u8 (tl s 4 0), .int .u8 (tl s 4 1), .int .u8 (tl s 4 2), .int .u8 (tl s 4 3)]) (by simp [results, Try.results50, go_sem, a0, a1, a2, a3]) rfl ⟨rfl, KB⟩
/-- Room made ahead for so many bytes. -/
theorem grow_nil (n : Nat) (hn : n ≤ 3000000) (w : World) :
    Calls Try.prog 73 #[.slice none 0 0, .int .i64 (n : Int)] w fun e w' => ∃ A c, e = .returned (.slice A 0 c) ∧ w'.ownsRow w.heap.size 5 1 (.slice A 0 c) 0 [] ∧ Below w.heap.size w w' := by
  by_cases h0 : n = 0
  · subst h0
    go_enter Try.func73, Try.ntmps73
    go_wp2_with fail
    go_ret
    exact ⟨none, 0, rfl, own_nil _ _ _, Below.refl _ _⟩
  · obtain ⟨i, hi, hzz⟩ := Option.map_eq_some_iff.1 info_u8
    simp only [Prod.mk.injEq] at hzz
    obtain ⟨hz, hs, hb⟩ := hzz
    have hold : (Builtin.firstCells i.size 0 (.slice none 0 0)).run Try.prog w.drew = .ok (#[] : Array Value) w.drew := run_firstCells_none w.drew i.size 0 0 0
    have hrz : ∀ ty, (Builtin.append_ #[32, 3] ty #[.slice none 0 0, .int .i64 (n : Int)]).run Try.prog w =
        .ok (.slice (some ⟨w.heap.size, 0, none⟩) n (grownCap w n 0 5)) (w.drew.alloc (.cells (#[] ++ Builtin.zeroCells #[.int .u8 0] n ++ Builtin.zeroCells #[.int .u8 0] (grownCap w n 0 5 - n)) 5)) := fun ty => by
      have h := Lib.run_append_grow_zeros w 32 3 ty 5 i (.int .u8 0) .i64 .i64 Try.underlying32 Try.underlying3 hi hz none 0 0 [] hold n (by omega) (by omega) (by omega) (by omega) (by rw [hb]; omega) (by rw [Nat.zero_add]; exact growslice_fits (by omega) (by rw [hb]; omega))
      rw [Nat.zero_add] at h
      exact h
    have hGn : n ≤ grownCap w n 0 5 := grownCap_ge w _ _ _
    have hGm := grownCap_le_maxLen w n 0 5 (by unfold maxLen; omega)
    obtain ⟨G, hG⟩ : ∃ G, G = grownCap w n 0 5 := ⟨_, rfl⟩
    rw [← hG] at hrz hGn hGm
    have hG63 : G ≤ 9223372036854775807 := by unfold maxLen at hGm; omega
    clear hold hG
    have hn0 : 0 < n := by omega
    have HM := hid hGm
    clear hGm h0
    go_enter Try.func73, Try.ntmps73
    go_wp2_with (at_builtin; refine Lib.wpList_append_run _ rfl _ _ _ _ rfl _ _ rfl rfl _ _ (hrz _) ?_)
    go_ret
    exact ⟨_, _, rfl, World.ownsRow_made _ _ G (Nat.le_refl _) HM.out (by simp [Builtin.zeroCells]; omega), ((Below.refl _ _).drew).alloc (Nat.le_refl _) _⟩
end Go.Proofs.Ythcigkcnknibgaa
/- Two texts put together; a text and its sum, by the program and by the document. -/
namespace Go.Proofs.Ythcigkcnknibgaa
open Go.RowKit
set_option maxHeartbeats 400000
set_option maxRecDepth 100000
set_option linter.unusedVariables false
theorem tl4 (s : Nat) : [tl s 4 0, tl s 4 1, tl s 4 2, tl s 4 3] = le4 s := by
  unfold tl le4
  simp
theorem concat2 {A B : Option Addr} {c d : Nat} (xs ys : List Int) (hx : xs.length ≤ 1000000) (hy : ys.length ≤ 1000000) (w : World) (g : Nat) (cap : Nat) (h0 : w.cell? ⟨g, 0, none⟩ = some (.slice A xs.length c)) (h1 : w.cell? ⟨g, 1, none⟩ = some (.slice B ys.length d))
    (ra : Rd (Value.int .u8) w w.heap.size A xs) (rb : Rd (Value.int .u8) w w.heap.size B ys) :
    Calls Try.prog 51 #[.slice (some ⟨g, 0, none⟩) 2 cap] w (OwnOf 5 .u8 w.heap.size (xs ++ ys) w) := by
  have hg := lt_of_cell h0
  have CG := hid (grow_nil (xs.length + ys.length) (by omega))
  have HA := hid ra
  have HB := hid rb
  have H0 := hid h0
  have H1 := hid h1
  clear ra rb
  go_enter Try.func51, Try.ntmps51
  go_wp2_with fail
  go_loop [3, 5, 11] (fun s x i => ∃ (k T : Nat), k ≤ 2 ∧ i = .int .i64 k ∧ s = .int .i64 T ∧ (k = 0 → T = 0) ∧ (k = 1 → T = xs.length) ∧ (k = 2 → T = xs.length + ys.length)) (fun _ _ i => 2 - (intOf i).toNat)
  case atStart => exact ⟨0, 0, by omega, rfl, rfl, fun _ => rfl, fun h => by omega, fun h => by omega⟩
  case round =>
    obtain ⟨k, T, hk, rfl, rfl, t0, t1, t2⟩ := hrel
    by_cases hk0 : k = 0
    · obtain rfl := t0 hk0
      subst hk0
      clear t0 t1 t2
      go_wp2_with fail
      go_round
      case rel => exact ⟨1, xs.length, by omega, by go_num, by go_num, fun h => by omega, fun _ => rfl, fun h => by omega⟩
      case measure => simp [intOf]
    · by_cases hk1 : k = 1
      · obtain rfl := t1 hk1
        subst hk1
        clear t0 t1 t2 hk0
        go_wp2_with fail
        go_round
        case rel => exact ⟨2, xs.length + ys.length, by omega, by go_num, by go_num, fun h => by omega, fun h => by omega, fun _ => rfl⟩
        case measure => simp [intOf]
      · obtain rfl : k = 2 := by omega
        obtain rfl := t2 rfl
        clear t0 t1 t2 hk0 hk1
        go_wp2_with fail
        refine (CG.out _).mono ?_
        rintro _ w1 ⟨A1, c1, rfl, ho, hb1⟩
        have HO := hid ho
        have h0' : w1.cell? ⟨g, 0, none⟩ = some (.slice A xs.length c) := (hb1.cell (p := ⟨g, 0, none⟩) hg).trans H0.out
        have h1' : w1.cell? ⟨g, 1, none⟩ = some (.slice B ys.length d) := (hb1.cell (p := ⟨g, 1, none⟩) hg).trans H1.out
        clear ho
        go_wp2_with fail
        go_loopw [6, 8, 27] (fun t x i wr => ∃ (k : Nat) (S : List Int) (A2 : Option Addr) (c2 : Nat), k ≤ 2 ∧ i = .int .i64 k ∧ t = .slice A2 S.length c2 ∧ (k = 0 → S = []) ∧ (k = 1 → S = xs) ∧ (k = 2 → S = xs ++ ys) ∧ wr.ownsRow w.heap.size 5 1 (.slice A2 S.length c2) S.length (S.map (Value.int .u8)) ∧ Below w.heap.size w wr) (fun _ _ i _ => 2 - (intOf i).toNat)
        case atStart => exact ⟨0, [], A1, c1, by omega, rfl, rfl, fun _ => rfl, fun h => by omega, fun h => by omega, HO.out, hb1⟩
        case round =>
          obtain ⟨k, S, A2, c2, hk, rfl, rfl, t0, t1, t2, ho, hbr⟩ := hrel
          have HO2 := hid ho
          have c0 : wr.cell? ⟨g, 0, none⟩ = some (.slice A xs.length c) := (hbr.cell (p := ⟨g, 0, none⟩) hg).trans H0.out
          have c1 : wr.cell? ⟨g, 1, none⟩ = some (.slice B ys.length d) := (hbr.cell (p := ⟨g, 1, none⟩) hg).trans H1.out
          clear ho
          by_cases hk0 : k = 0
          · obtain rfl := t0 hk0
            subst hk0
            have r1 := HA.out.below hbr
            clear t0 t1 t2
            go_wp2_with (at_builtin; refine wpList_app (Value.int .u8) (fun _ => rfl) _ rfl _ _ 32 rfl w.heap.size 5 (.int .u8 0) 1 Try.underlying32 info_u8 rfl [] _ _ rfl HO2.out xs _ c _ rfl r1 (by simp [maxLen]; omega) (by simp; omega) hbr.size ?_)
            rintro S' A' c' w4 hS' ho hb4 _
            have HS' := hid hS'
            have HO' := hid ho
            clear hS' ho r1
            go_wp2_with fail
            go_roundw
            case rel => exact ⟨1, S', A', c', by omega, by go_num, rfl, fun h => by omega, fun _ => HS'.out, fun h => by omega, HO'.out, hbr.trans hb4⟩
            case measure => simp [intOf]
          · by_cases hk1 : k = 1
            · obtain rfl := t1 hk1
              subst hk1
              have r1 := HB.out.below hbr
              clear t0 t1 t2 hk0
              go_wp2_with (at_builtin; refine wpList_app (Value.int .u8) (fun _ => rfl) _ rfl _ _ 32 rfl w.heap.size 5 (.int .u8 0) 1 Try.underlying32 info_u8 rfl S _ _ rfl HO2.out ys _ d _ rfl r1 (by simp [maxLen]; omega) (by simp; omega) hbr.size ?_)
              rintro S' A' c' w4 hS' ho hb4 _
              have HS' := hid hS'
              have HO' := hid ho
              clear hS' ho r1
              go_wp2_with fail
              go_roundw
              case rel => exact ⟨2, S', A', c', by omega, by go_num, rfl, fun h => by omega, fun h => by omega, fun _ => HS'.out, HO'.out, hbr.trans hb4⟩
              case measure => simp [intOf]
            · obtain rfl : k = 2 := by omega
              have e := t2 rfl
              have E := hid e
              clear t0 t1 t2 hk0 hk1 e
              go_wp2_with fail
              go_ret
              rw [← E.out]
              exact ⟨A2, c2, rfl, HO2.out, hbr⟩
theorem four_rd {w : World} {g : Nat} {a b c d : Int} (h0 : w.cell? ⟨g, 0, none⟩ = some (.int .u8 a)) (h1 : w.cell? ⟨g, 1, none⟩ = some (.int .u8 b)) (h2 : w.cell? ⟨g, 2, none⟩ = some (.int .u8 c)) (h3 : w.cell? ⟨g, 3, none⟩ = some (.int .u8 d)) :
    Rd (Value.int .u8) w w.heap.size (some ⟨g, 0, none⟩) [a, b, c, d] := fun k x hx => by
  refine ⟨g, 0, rfl, lt_of_cell h0, ?_⟩
  rw [Nat.zero_add]
  match k with
  | 0 => simp at hx; subst hx; exact h0
  | 1 => simp at hx; subst hx; exact h1
  | 2 => simp at hx; subst hx; exact h2
  | 3 => simp at hx; subst hx; exact h3
  | k + 4 => simp at hx
theorem crc_Seal {A : Option Addr} {c : Nat} (b : List Int) (hb : b.length ≤ 1000000) (ub : U8s b) (w : World) (ra : Rd (Value.int .u8) w w.heap.size A b) :
    Calls Try.prog 24 #[.slice A b.length c] w (OwnE 5 .u8 w.heap.size (sealV b) (sealE b) w) := by
  unfold sealV sealE
  by_cases h : 65532 < b.length
  · rw [if_pos h, if_pos h]
    clear ra ub
    go_enter Try.func24, Try.ntmps24
    go_wp2_with fail
    go_ret2
    exact .nil (Below.refl _ _)
  · rw [if_neg h, if_neg h]
    have CT := hid (crc_tail (A := A) (c := c) b hb ub w ra)
    have RA := hid ra
    obtain ⟨R, hR⟩ : ∃ R, b ++ le4 (sumN b) = R := ⟨_, rfl⟩
    rw [hR]
    rw [← tl4] at hR
    obtain ⟨s, hs⟩ : ∃ s, sumN b = s := ⟨_, rfl⟩
    rw [hs] at CT hR
    have HR := hid hR
    clear ra ub hs hR
    obtain ⟨y0, e0⟩ : ∃ y, tl s 4 0 = y := ⟨_, rfl⟩
    obtain ⟨y1, e1⟩ : ∃ y, tl s 4 1 = y := ⟨_, rfl⟩
    obtain ⟨y2, e2⟩ : ∃ y, tl s 4 2 = y := ⟨_, rfl⟩
    obtain ⟨y3, e3⟩ : ∃ y, tl s 4 3 = y := ⟨_, rfl⟩
    rw [e0, e1, e2, e3] at CT HR
    clear e0 e1 e2 e3
    go_enter Try.func24, Try.ntmps24
    go_wp2_with fail
    refine CT.out.mono ?_
    rintro _ w1 ⟨rfl, hb1⟩
    go_wp2_with fail
    obtain ⟨w2, hw2⟩ : ∃ w2, (w1.alloc (.cells #[.int .u8 y0, .int .u8 y1, .int .u8 y2, .int .u8 y3] 67)).alloc (.cells #[.slice A b.length c, .slice (some ⟨w1.heap.size, 0, none⟩) 4 4] 32) = w2 := ⟨_, rfl⟩
    have hb2 : Below w1.heap.size w1 w2 := by rw [← hw2]; go_grown
    have g0 : w2.cell? ⟨w1.heap.size + 1, 0, none⟩ = some (.slice A b.length c) := by rw [← hw2]; simp [go_sem]
    have g1 : w2.cell? ⟨w1.heap.size + 1, 1, none⟩ = some (.slice (some ⟨w1.heap.size, 0, none⟩) [y0, y1, y2, y3].length 4) := by rw [← hw2]; simp [go_sem]
    have z0 : w2.cell? ⟨w1.heap.size, 0, none⟩ = some (.int .u8 y0) := by rw [← hw2]; simp [go_sem]
    have z1 : w2.cell? ⟨w1.heap.size, 1, none⟩ = some (.int .u8 y1) := by rw [← hw2]; simp [go_sem]
    have z2 : w2.cell? ⟨w1.heap.size, 2, none⟩ = some (.int .u8 y2) := by rw [← hw2]; simp [go_sem]
    have z3 : w2.cell? ⟨w1.heap.size, 3, none⟩ = some (.int .u8 y3) := by rw [← hw2]; simp [go_sem]
    have hb3 : Below w.heap.size w w2 := hb1.trans (hb2.mono hb1.size)
    have r1 := RA.out.on hb3
    rw [hw2]
    refine (concat2 (d := 4) b [y0, y1, y2, y3] hb (by simp) w2 (w1.heap.size + 1) 2 g0 g1 r1 (four_rd z0 z1 z2 z3)).mono ?_
    rw [HR.out]
    rintro _ w3 ⟨A3, c3, rfl, ho, hb4⟩
    have HO := hid (own_base ho hb3.size)
    clear ho g0 g1 z0 z1 z2 z3 hw2 r1
    go_wp2_with fail
    go_ret2
    exact ⟨A3, c3, rfl, HO.out, hb3.trans (hb4.mono hb3.size)⟩
theorem le4_int (s : Nat) : le4 s = [(s : Int) % 256, (s : Int) / 256 % 256, (s : Int) / 65536 % 256, (s : Int) / 16777216 % 256] := by
  unfold le4
  simp only [List.cons.injEq, and_true]
  omega
theorem rd_four (w : World) (t : TypeId) (a b c d : Int) : Rd (Value.int .u8) (w.alloc (.cells #[.int .u8 a, .int .u8 b, .int .u8 c, .int .u8 d] t)) (w.alloc (.cells #[.int .u8 a, .int .u8 b, .int .u8 c, .int .u8 d] t)).heap.size (some ⟨w.heap.size, 0, none⟩) [a, b, c, d] :=
  rd_new (enc := Value.int .u8) w t [a, b, c, d]
theorem ref_Seal {A : Option Addr} {c : Nat} (b : List Int) (hb : b.length ≤ 1000000) (ub : U8s b) (w : World) {B : Nat} (ra : Rd (Value.int .u8) w B A b) :
    Calls Try.prog 26 #[.slice A b.length c] w (OwnE 5 .u8 w.heap.size (sealV b) (sealE b) w) := by
  unfold sealV sealE
  by_cases h : 65532 < b.length
  · rw [if_pos h, if_pos h]
    clear ra ub
    go_enter Try.func26, Try.ntmps26
    go_wp2_with fail
    go_ret2
    exact .nil (Below.refl _ _)
  · rw [if_neg h, if_neg h]
    have CS := hid (ref_Sum (A := A) (c := c) b (by omega) ub w ra)
    have RA := hid ra
    obtain ⟨R, hR⟩ : ∃ R, b ++ le4 (sumN b) = R := ⟨_, rfl⟩
    rw [hR]
    obtain ⟨s, hs⟩ : ∃ s, sumN b = s := ⟨_, rfl⟩
    rw [hs] at CS hR
    have HR := hid hR
    have hap := own_nil w w.heap.size 5
    clear ra ub hs hR
    go_enter Try.func26, Try.ntmps26
    go_wp2_with fail
    refine CS.out.mono ?_
    rintro _ _ ⟨rfl, rfl⟩
    go_wp2_with (at_builtin; refine wpList_app (Value.int .u8) (fun _ => rfl) _ rfl _ _ 32 rfl w.heap.size 5 (.int .u8 0) 1 Try.underlying32 info_u8 rfl [] none 0 rfl hap b A c B rfl RA.out (by simp [maxLen]; omega) (by simp; omega) (Nat.le_refl _) ?_)
    rintro S A1 c1 w1 hS ho hb1 _
    have HS := hid hS
    have HO := hid ho
    clear ho hS hap
    obtain ⟨y0, e0⟩ : ∃ y, (s : Int) % 256 = y := ⟨_, rfl⟩
    obtain ⟨y1, e1⟩ : ∃ y, (s : Int) / 256 % 256 = y := ⟨_, rfl⟩
    obtain ⟨y2, e2⟩ : ∃ y, (s : Int) / 65536 % 256 = y := ⟨_, rfl⟩
    obtain ⟨y3, e3⟩ : ∃ y, (s : Int) / 16777216 % 256 = y := ⟨_, rfl⟩
    have HR2 : Hid (S ++ [y0, y1, y2, y3] = R) := by rw [HS.out, ← HR.out, le4_int, e0, e1, e2, e3]; rfl
    have r4 := rd_four w1 5 y0 y1 y2 y3
    have h0 := own_on HO.out ((Below.refl w1.heap.size w1).alloc (Nat.le_refl _) (.cells #[.int .u8 y0, .int .u8 y1, .int .u8 y2, .int .u8 y3] 5))
    have hSl : S.length ≤ 1000000 := by have := HS.out; rw [this]; exact hb
    have hb2 : Below w.heap.size w (w1.alloc (.cells #[.int .u8 y0, .int .u8 y1, .int .u8 y2, .int .u8 y3] 5)) := hb1.alloc hb1.size _
    go_wp2_with (at_builtin; refine wpList_app (Value.int .u8) (fun _ => rfl) _ rfl _ _ 32 rfl w.heap.size 5 (.int .u8 0) 1 Try.underlying32 info_u8 rfl S _ _ rfl h0 [y0, y1, y2, y3] _ 4 _ rfl r4 (by simp [maxLen]; omega) (by simp; omega) hb2.size ?_)
    rintro T A2 c2 w2 hT ho hb3 _
    have HT := hid hT
    have HO2 := hid ho
    clear ho hT h0 r4 e0 e1 e2 e3
    go_wp2_with fail
    go_ret2
    have e : T = R := by rw [HT.out, HR2.out]
    subst e
    exact ⟨A2, c2, rfl, HO2.out, hb2.trans hb3⟩
end Go.Proofs.Ythcigkcnknibgaa
/- Texts put together, by package slices. -/
namespace Go.Proofs.Ythcigkcnknibgaa
open Go.RowKit
set_option maxHeartbeats 400000
set_option maxRecDepth 100000
set_option linter.unusedVariables false
/-- A slice of texts at A reads as these. -/
def RdRow8 (w : World) (B : Nat) (A : Option Addr) (rows : List (List Int)) : Prop :=
  ∀ k xs, rows[k]? = some xs → ∃ b off A' c', A = some ⟨b, off, none⟩ ∧ b < B ∧ w.cell? ⟨b, off + k, none⟩ = some (.slice A' xs.length c') ∧ Rd (Value.int .u8) w B A' xs
theorem RdRow8.below {w w' : World} {B : Nat} {A : Option Addr} {rows : List (List Int)} (h : RdRow8 w B A rows) (hb : Below B w w') : RdRow8 w' B A rows := fun k xs hx => by
  obtain ⟨b, off, A', c', e, hl, hc, hr⟩ := h k xs hx
  exact ⟨b, off, A', c', e, hl, (hb.cell (p := ⟨b, off + k, none⟩) hl).trans hc, hr.below hb⟩
theorem RdRow8.more {w : World} {B B' : Nat} {A : Option Addr} {rows : List (List Int)} (h : RdRow8 w B A rows) (hB : B ≤ B') : RdRow8 w B' A rows := fun k xs hx => by
  obtain ⟨b, off, A', c', e, hl, hc, hr⟩ := h k xs hx
  exact ⟨b, off, A', c', e, by omega, hc, hr.more hB⟩
theorem RdRow8.on {w w' : World} {A : Option Addr} {rows : List (List Int)} (h : RdRow8 w w.heap.size A rows) (hb : Below w.heap.size w w') : RdRow8 w' w'.heap.size A rows := (h.below hb).more hb.size
theorem row8_two {A B : Option Addr} {c d : Nat} (xs ys : List Int) (W : World) (ra : Rd (Value.int .u8) W W.heap.size A xs) (rb : Rd (Value.int .u8) W W.heap.size B ys) (t : TypeId) :
    RdRow8 (W.alloc (.cells #[.slice A xs.length c, .slice B ys.length d] t)) (W.alloc (.cells #[.slice A xs.length c, .slice B ys.length d] t)).heap.size (some ⟨W.heap.size, 0, none⟩) [xs, ys] := fun k zs hz => by
  have hb : Below W.heap.size W (W.alloc (.cells #[.slice A xs.length c, .slice B ys.length d] t)) := (Below.refl _ _).alloc (Nat.le_refl _) _
  have hn := heap_alloc_new W (.cells #[.slice A xs.length c, .slice B ys.length d] t)
  have hlt : W.heap.size < (W.alloc (.cells #[.slice A xs.length c, .slice B ys.length d] t)).heap.size := (Array.getElem?_eq_some_iff.1 hn).1
  match k, hz with
  | 0, hz =>
    obtain rfl : xs = zs := by simpa using hz
    exact ⟨_, 0, A, c, rfl, hlt, by rw [cell_of_row _ _ _ _ t (0, 0) hn]; rfl, ra.on hb⟩
  | 1, hz =>
    obtain rfl : ys = zs := by simpa using hz
    exact ⟨_, 0, B, d, rfl, hlt, by rw [cell_of_row _ _ _ _ t (0, 0) hn]; rfl, rb.on hb⟩
  | k + 2, hz => simp at hz
theorem row8_four {A1 A2 A3 A4 : Option Addr} {c1 c2 c3 c4 : Nat} (x1 x2 x3 x4 : List Int) (W : World) (r1 : Rd (Value.int .u8) W W.heap.size A1 x1) (r2 : Rd (Value.int .u8) W W.heap.size A2 x2) (r3 : Rd (Value.int .u8) W W.heap.size A3 x3) (r4 : Rd (Value.int .u8) W W.heap.size A4 x4) (t : TypeId) :
    RdRow8 (W.alloc (.cells #[.slice A1 x1.length c1, .slice A2 x2.length c2, .slice A3 x3.length c3, .slice A4 x4.length c4] t)) (W.alloc (.cells #[.slice A1 x1.length c1, .slice A2 x2.length c2, .slice A3 x3.length c3, .slice A4 x4.length c4] t)).heap.size (some ⟨W.heap.size, 0, none⟩) [x1, x2, x3, x4] := fun k zs hz => by
  have hb : Below W.heap.size W (W.alloc (.cells #[.slice A1 x1.length c1, .slice A2 x2.length c2, .slice A3 x3.length c3, .slice A4 x4.length c4] t)) := (Below.refl _ _).alloc (Nat.le_refl _) _
  have hn := heap_alloc_new W (.cells #[.slice A1 x1.length c1, .slice A2 x2.length c2, .slice A3 x3.length c3, .slice A4 x4.length c4] t)
  have hlt : W.heap.size < (W.alloc (.cells #[.slice A1 x1.length c1, .slice A2 x2.length c2, .slice A3 x3.length c3, .slice A4 x4.length c4] t)).heap.size := (Array.getElem?_eq_some_iff.1 hn).1
  match k, hz with
  | 0, hz =>
    obtain rfl : x1 = zs := by simpa using hz
    exact ⟨_, 0, A1, c1, rfl, hlt, by rw [cell_of_row _ _ _ _ t (0, 0) hn]; rfl, r1.on hb⟩
  | 1, hz =>
    obtain rfl : x2 = zs := by simpa using hz
    exact ⟨_, 0, A2, c2, rfl, hlt, by rw [cell_of_row _ _ _ _ t (0, 0) hn]; rfl, r2.on hb⟩
  | 2, hz =>
    obtain rfl : x3 = zs := by simpa using hz
    exact ⟨_, 0, A3, c3, rfl, hlt, by rw [cell_of_row _ _ _ _ t (0, 0) hn]; rfl, r3.on hb⟩
  | 3, hz =>
    obtain rfl : x4 = zs := by simpa using hz
    exact ⟨_, 0, A4, c4, rfl, hlt, by rw [cell_of_row _ _ _ _ t (0, 0) hn]; rfl, r4.on hb⟩
  | k + 4, hz => simp at hz
theorem cat8_step {ls : List (List Int)} {k : Nat} {x : List Int} (h : ls[k]? = some x) : (ls.take (k + 1)).flatten = (ls.take k).flatten ++ x := by
  rw [List.take_add_one, h, List.flatten_append]
  simp
theorem cat8_take (ls : List (List Int)) (k : Nat) : (ls.take k).flatten.length ≤ ls.flatten.length := by
  have h := congrArg List.length (congrArg List.flatten (List.take_append_drop k ls))
  rw [List.flatten_append, List.length_append] at h
  omega
theorem by_concat {A : Option Addr} {c : Nat} (ls : List (List Int)) (hl : ls.length ≤ 100000) (hf : ls.flatten.length ≤ 100000) (w : World) (ra : RdRow8 w w.heap.size A ls) :
    Calls Try.prog 51 #[.slice A ls.length c] w (OwnOf 5 .u8 w.heap.size ls.flatten w) := by
  have CG := hid (fun n hn => grow_nil n hn)
  have HA := hid ra
  have HF : Hid (∀ k x, ls[k]? = some x → (ls.take (k + 1)).flatten = (ls.take k).flatten ++ x) := hid (fun k x h => cat8_step h)
  have HL : Hid (∀ k, (ls.take k).flatten.length ≤ 100000) := hid (fun k => by have := cat8_take ls k; omega)
  have HF0 : Hid ((ls.take 0).flatten = []) := hid rfl
  have HFe : Hid (∀ k, ls.length ≤ k → (ls.take k).flatten = ls.flatten) := hid (fun k hk => by rw [List.take_of_length_le hk])
  obtain ⟨F, hF⟩ : ∃ F : Nat → List Int, (fun k => (ls.take k).flatten) = F := ⟨_, rfl⟩
  have hF' : ∀ k, (ls.take k).flatten = F k := fun k => by rw [← hF]
  simp only [hF'] at HF HL HF0 HFe
  obtain ⟨R, hR⟩ : ∃ R, ls.flatten = R := ⟨_, rfl⟩
  rw [hR] at HFe ⊢
  obtain ⟨N, hN⟩ : ∃ N, ls.length = N := ⟨_, rfl⟩
  have HN := hid hN
  rw [hN] at HFe hl ⊢
  clear ra hR hf hF hF' hN
  go_enter Try.func51, Try.ntmps51
  go_wp2_with fail
  go_loop [3, 5, 11] (fun s x i => ∃ (k T : Nat), k ≤ N ∧ i = .int .i64 k ∧ s = .int .i64 T ∧ T = (F k).length) (fun _ _ i => N - (intOf i).toNat)
  case atStart => exact ⟨0, 0, by omega, rfl, rfl, by rw [HF0.out]; rfl⟩
  case round =>
    obtain ⟨k, T, hk, rfl, rfl, hT⟩ := hrel
    have hTb : T ≤ 100000 := by rw [hT]; exact HL.out k
    have HT := hid hT
    clear hT
    by_cases hlt : k < N
    · obtain ⟨b1, o1, Ax, cx, rfl, l1, c1, rx⟩ := HA.out k _ (List.getElem?_eq_getElem (by rw [HN.out]; exact hlt))
      have hx0 : ls[k]? = some (ls[k]'(by rw [HN.out]; exact hlt)) := List.getElem?_eq_getElem (by rw [HN.out]; exact hlt)
      have HS := hid (HF.out k _ hx0)
      have hb := HL.out (k + 1)
      obtain ⟨x, hx⟩ : ∃ x, (ls[k]'(by rw [HN.out]; exact hlt)) = x := ⟨_, rfl⟩
      rw [hx] at HS c1
      rw [HS.out, List.length_append] at hb
      obtain ⟨X, hX⟩ : ∃ X, x.length = X := ⟨_, rfl⟩
      have HX := hid hX
      rw [hX] at c1 hb
      have hXb : X ≤ 100000 := by omega
      clear hX hb hx hx0 rx
      go_wp2_with fail
      go_round
      case rel => exact ⟨k + 1, T + X, by omega, by go_num, by go_num, by rw [HS.out, List.length_append, HT.out, HX.out]⟩
      case measure => simp [intOf]; omega
    · obtain rfl : k = N := by omega
      have CG1 := hid (CG.out T (by omega) w)
      clear CG HT
      go_wp2_with fail
      refine CG1.out.mono ?_
      rintro _ w1 ⟨A1, c1, rfl, ho, hb1⟩
      have HO := hid ho
      clear ho CG1
      go_wp2_with fail
      go_loopw [6, 8, 27] (fun t x i wr => ∃ (j : Nat) (S : List Int) (A2 : Option Addr) (c2 : Nat), j ≤ k ∧ i = .int .i64 j ∧ t = .slice A2 S.length c2 ∧ S = F j ∧ wr.ownsRow w.heap.size 5 1 (.slice A2 S.length c2) S.length (S.map (Value.int .u8)) ∧ Below w.heap.size w wr) (fun _ _ i _ => k - (intOf i).toNat)
      case atStart => exact ⟨0, [], A1, c1, by omega, rfl, rfl, HF0.out.symm, HO.out, hb1⟩
      case round =>
        clear HO hb1
        obtain ⟨j, S, A2, c2, hj, rfl, rfl, hS, ho, hbel⟩ := hrel
        have hSl : S.length ≤ 100000 := by rw [hS]; exact HL.out j
        have HSj := hid hS
        have HO := hid ho
        clear hS ho
        by_cases hjl : j < k
        · obtain ⟨b1, o1, Ax, cx, rfl, l1, c1, rx⟩ := HA.out j _ (List.getElem?_eq_getElem (by rw [HN.out]; exact hjl))
          have hx0 : ls[j]? = some (ls[j]'(by rw [HN.out]; exact hjl)) := List.getElem?_eq_getElem (by rw [HN.out]; exact hjl)
          have HS := hid (HF.out j _ hx0)
          have hb := HL.out (j + 1)
          obtain ⟨x, hx⟩ : ∃ x, (ls[j]'(by rw [HN.out]; exact hjl)) = x := ⟨_, rfl⟩
          rw [hx] at HS c1 rx
          rw [HS.out, List.length_append, ← HSj.out] at hb
          have c1' := (hbel.cell (p := ⟨b1, o1 + j, none⟩) l1).trans c1
          have hrx := rx.below hbel
          have h0 := HO.out
          have hbs := hbel.size
          clear hx hx0 rx c1
          go_wp2_with (at_builtin; refine wpList_app (Value.int .u8) (fun _ => rfl) _ rfl _ _ 32 rfl w.heap.size 5 (.int .u8 0) 1 Try.underlying32 info_u8 rfl S _ _ rfl h0 x _ cx _ rfl hrx (by simp [maxLen]; omega) (by omega) hbs ?_)
          rintro S' A' c' w4 hS' ho hb4 _
          have HS' := hid hS'
          have HO' := hid ho
          clear hS' ho h0 hrx
          go_wp2_with fail
          go_roundw
          case rel => exact ⟨j + 1, S', A', c', by omega, by go_num, rfl, by rw [HS'.out, HS.out, HSj.out], HO'.out, hbel.trans hb4⟩
          case measure => simp [intOf]; omega
        · obtain rfl : j = k := by omega
          have HR := hid (HFe.out j (Nat.le_refl _))
          go_wp2_with fail
          go_ret
          have e : S = R := by rw [HSj.out, HR.out]
          rw [← e]
          exact ⟨A2, c2, rfl, HO.out, hbel⟩
end Go.Proofs.Ythcigkcnknibgaa
/- The program's places: their code put and got. -/
namespace Go.Proofs.Ythcigkcnknibgaa
open Go.RowKit
set_option maxHeartbeats 400000
set_option linter.unusedVariables false
theorem ix_numbers {A : Option Addr} {c : Nat} (dim : Int) (l : List Int) (hp : plcP dim l) (w : World) (ra : Rd (Value.int .i64) w w.heap.size A l) :
    Calls Try.prog 83 #[.slice A l.length c] w (OwnOf 44 .u64 w.heap.size (putL l) w) := by
  have hlen := plc_le hp
  have hd4 := hp.2.1
  have HL : Hid (∀ k x, l[k]? = some x → lastI (-1) (l.take (k + 1)) = x) := hid (fun k x h => lastI_step h)
  have HI : Hid (∀ k x, l[k]? = some x → -1 ≤ lastI (-1) (l.take k) ∧ lastI (-1) (l.take k) < x ∧ 0 ≤ x ∧ x < dim) := hid (fun k x h => lastI_lt hp h)
  have HG : Hid (∀ k x, l[k]? = some x → gapsF (-1) (l.take (k + 1)) = gapsF (-1) (l.take k) ++ [x - lastI (-1) (l.take k) - 1]) := hid (fun k x h => putL_step h)
  have HN0 : Hid (gapsF (-1) (l.take 0) = []) := hid rfl
  have HL0 : Hid (lastI (-1) (l.take 0) = -1) := hid rfl
  have HNl : Hid (∀ k, (gapsF (-1) (l.take k)).length ≤ l.length) := hid (fun k => by rw [gaps_len, List.length_take]; omega)
  have HE : Hid (∀ k, k = l.length → (l.length : Int) :: gapsF (-1) (l.take k) = putL l) := hid (fun k h => by rw [List.take_of_length_le (by omega)]; rfl)
  obtain ⟨R, hR⟩ : ∃ R, putL l = R := ⟨_, rfl⟩
  rw [hR] at HE ⊢
  obtain ⟨N, hN⟩ : ∃ N, l.length = N := ⟨_, rfl⟩
  have HN := hid hN
  rw [hN] at HE HNl hlen ⊢
  have RA := hid ra
  have hN4 : N ≤ 4096 := by omega
  have hmk := fun W => run_room (P := Try.prog) 24 44 (.int .u64 0) 8 Try.underlying24 info_u64 rfl (N + 1) (by omega) (by omega) W
  have h0 := own_room w 44 (.int .u64 0) (N + 1) (by simp [maxLen]; omega) (Nat.le_refl _)
  obtain ⟨w0, hw0⟩ : ∃ w0, w.alloc (.cells (madeCells #[.int .u64 0] (N + 1)) 44) = w0 := ⟨_, rfl⟩
  have hb0 : Below w.heap.size w w0 := by rw [← hw0]; exact (Below.refl _ _).alloc (Nat.le_refl _) _
  have hr0 : Rd (Value.int .u64) (w0.alloc (.cells #[.int .u64 (N : Int)] 44)) _ (some ⟨w0.heap.size, 0, none⟩) [(N : Int)] := rd_one (one_cell w0 (.int .u64 (N : Int)) 44).1
  have hrun := hmk w
  rw [hw0] at hrun h0
  rw [show ((N + 1 : Nat) : Int) = (N : Int) + 1 by omega] at hrun
  have h0' := own_on h0 ((Below.refl w0.heap.size w0).alloc (Nat.le_refl _) (.cells #[.int .u64 (N : Int)] 44))
  have hbw := hb0.alloc hb0.size (.cells #[.int .u64 (N : Int)] 44)
  clear hmk hw0 h0 hR hN ra hp hlen
  go_enter Try.func83, Try.ntmps83
  go_wp2_with (at_builtin; refine wpList_app (Value.int .u64) (fun _ => rfl) _ rfl _ _ 24 rfl w.heap.size 44 (.int .u64 0) 8 Try.underlying24 info_u64 rfl [] _ (N + 1) rfl h0' [(N : Int)] _ 1 _ rfl hr0 (by simp [maxLen]) (by simp) hbw.size ?_)
  rintro S A' c' w1 hS ho hb1 _
  have HS := hid hS
  have HO := hid ho
  have k1 := hbw.trans hb1
  clear hS ho hb1 hbw h0' hr0 hrun hb0
  go_wp2_with fail
  go_loopw [3, 4, 6, 18] (fun t p x0 i wr => ∃ (k : Nat) (S : List Int) (A2 : Option Addr) (c2 : Nat), k ≤ N ∧ i = .int .i64 k ∧ p = .int .i64 (lastI (-1) (l.take k) + 1) ∧ t = .slice A2 S.length c2 ∧ S = (N : Int) :: gapsF (-1) (l.take k) ∧ wr.ownsRow w.heap.size 44 1 (.slice A2 S.length c2) S.length (S.map (Value.int .u64)) ∧ Below w.heap.size w wr) (fun _ _ _ i _ => N - (intOf i).toNat)
  case atStart => exact ⟨0, S, A', c', by omega, rfl, by rw [HL0.out]; rfl, rfl, by rw [HS.out, HN0.out], HO.out, k1⟩
  case round =>
    clear HO k1 HS
    obtain ⟨k, S, A2, c2, hk, rfl, rfl, rfl, hS, ho, hbel⟩ := hrel
    have hSl : S.length ≤ 5000 := by have h1 := HNl.out k; rw [hS, List.length_cons]; omega
    have HS := hid hS
    have HO := hid ho
    clear hS ho
    by_cases hlt : k < N
    · obtain ⟨b1, o1, x, rfl, l1, ex, cx⟩ := (RA.out.below hbel).at_ (k := k) (by rw [HN.out]; exact hlt)
      have hi := HI.out k x ex
      have HGk := hid (HG.out k x ex)
      have HLk := hid (HL.out k x ex)
      obtain ⟨t, ht⟩ : ∃ t, lastI (-1) (l.take k) = t := ⟨_, rfl⟩
      obtain ⟨g, hg⟩ : ∃ g, x - t - 1 = g := ⟨_, rfl⟩
      rw [ht] at hi HGk
      rw [hg] at HGk
      have hg2 : x - (t + 1) = g := by omega
      have hgb : 0 ≤ g ∧ g ≤ 4096 := by omega
      have hr0 : Rd (Value.int .u64) (wr.alloc (.cells #[.int .u64 g] 44)) _ (some ⟨wr.heap.size, 0, none⟩) [g] := rd_one (one_cell wr (.int .u64 g) 44).1
      have h0' := own_on HO.out ((Below.refl wr.heap.size wr).alloc (Nat.le_refl _) (.cells #[.int .u64 g] 44))
      have hbs := hbel.size
      rw [ht]
      clear ex ht hg
      go_wp2_with (at_builtin; refine wpList_app (Value.int .u64) (fun _ => rfl) _ rfl _ _ 24 rfl w.heap.size 44 (.int .u64 0) 8 Try.underlying24 info_u64 rfl S _ _ rfl h0' [g] _ 1 _ rfl hr0 (by simp [maxLen]; omega) (by simp; omega) (by simp; omega) ?_)
      rintro S' A' c' w4 hS' ho hb4 _
      have HS' := hid hS'
      have HO' := hid ho
      clear hS' ho h0' hr0 hg2
      go_wp2_with fail
      go_roundw
      case rel => exact ⟨k + 1, S', A', c', by omega, by go_num, by rw [HLk.out], rfl, by rw [HS'.out, HS.out, HGk.out, List.cons_append], HO'.out, (hbel.alloc hbel.size _).trans hb4⟩
      case measure => simp [intOf]; omega
    · obtain rfl : k = N := by omega
      have HR : Hid (S = R) := hid (by rw [HS.out, HE.out k rfl])
      clear HS
      have h := HR.out
      subst h
      go_wp2_with fail
      go_ret
      exact ⟨A2, c2, rfl, HO.out, hbel⟩
theorem ix_Put {A : Option Addr} {c : Nat} (dim : Int) (l : List Int) (hd : I64 dim) (hl : l.length ≤ 100000) (w : World) (ra : Rd (Value.int .i64) w w.heap.size A l) :
    Calls Try.prog 68 #[.int .i64 dim, .slice A l.length c] w (OwnE 5 .u8 w.heap.size (pixV dim l) (chkE dim l) w) := by
  have C := hid (ix_Check (A := A) (c := c) dim l hd hl w ra)
  by_cases h : chkE dim l = 0
  · have hp := chk_ok.1 h
    have hlen := plc_le hp
    have hd4 := hp.2.1
    have e : pixV dim l = encs (putL l) := if_pos h
    rw [h] at C
    rw [h, e]
    have CN := hid (fun W h => ix_numbers (A := A) (c := c) dim l hp W h)
    have HPl : Hid ((putL l).length = l.length + 1) := hid (by unfold putL; rw [List.length_cons, gaps_len])
    have HPu := hid (putL_u64 hp)
    obtain ⟨P, hP⟩ : ∃ P, putL l = P := ⟨_, rfl⟩
    rw [hP] at CN HPl HPu ⊢
    have hPl : P.length ≤ 5000 := by rw [HPl.out]; omega
    have CP : Hid (∀ B d W, Rd (Value.int .u64) W W.heap.size B P → Calls Try.prog 22 #[.slice none 0 0, .slice B P.length d] W (OwnOf 5 .u8 W.heap.size (encs P) W)) := hid (fun B d W h => leb_Put (A := none) (B := B) (c := 0) (d := d) [] P (by decide) hPl HPu.out W Rd.none_ h)
    obtain ⟨R, hR⟩ : ∃ R, encs P = R := ⟨_, rfl⟩
    rw [hR] at CP ⊢
    have RA := hid ra
    clear h e hp hP hR ra hd HPl HPu hlen hd4
    go_enter Try.func68, Try.ntmps68
    go_wp2_with fail
    refine C.out.mono ?_
    rintro _ w1 ⟨rfl, hb1⟩
    have CN1 := hid (CN.out w1 (RA.out.on hb1))
    clear CN C
    go_wp2_with fail
    refine CN1.out.mono ?_
    rintro _ w2 ⟨A2, c2, rfl, ho2, hb2⟩
    have CP1 := hid (CP.out A2 c2 w2 (own_rd ho2))
    have k2 : Below w.heap.size w w2 := hb1.trans (hb2.mono hb1.size)
    clear CP CN1 ho2 hb2
    go_wp2_with fail
    refine CP1.out.mono ?_
    rintro _ w3 ⟨A3, c3, rfl, ho3, hb3⟩
    have HO := hid (own_base ho3 k2.size)
    clear ho3 CP1
    go_wp2_with fail
    go_ret2
    exact ⟨A3, c3, rfl, HO.out, k2.trans (hb3.mono k2.size)⟩
  · have e : pixV dim l = [] := if_neg h
    rw [e]
    obtain ⟨E, hE⟩ : ∃ E, chkE dim l = E := ⟨_, rfl⟩
    rw [hE] at C h ⊢
    have hne : (E != 0) = true := by simpa using h
    clear h e hE ra
    go_enter Try.func68, Try.ntmps68
    go_wp2_with fail
    refine C.out.mono ?_
    rintro _ _ ⟨rfl, hb1⟩
    go_wp2_with fail
    go_ret2
    exact .nil hb1
/-- A row that was made, filled place by place. -/
theorem own_fill {w' : World} {b B : Nat} {e : TypeId} {O : List Int} (h : w'.rowIs b e O.length (fun j => .int .i64 (O.getD j 0))) (hB : B ≤ b) (hn : O.length ≤ maxLen) :
    w'.ownsRow B e 1 (.slice (some ⟨b, 0, none⟩) O.length O.length) O.length (O.map (Value.int .i64)) := by
  have h2 := own_made (w' := w') h hB hn
  have e2 : (List.range O.length).map (fun j => Value.int .i64 (O.getD j 0)) = O.map (Value.int .i64) := by
    apply List.ext_getElem (by simp)
    intro i h1 h2
    simp at h1
    simp [List.getD, h1]
  rwa [e2] at h2
theorem getD_snoc (O : List Int) (z : Int) (j : Nat) : (O ++ [z]).getD j 0 = if j = O.length then z else O.getD j 0 := by
  unfold List.getD
  by_cases h : j < O.length
  · rw [List.getElem?_append_left h, if_neg (by omega)]
  · rw [List.getElem?_append_right (by omega)]
    by_cases e : j = O.length
    · rw [if_pos e, e]; simp
    · rw [if_neg e, List.getElem?_eq_none (by simp; omega), List.getElem?_eq_none (by omega)]
end Go.Proofs.Ythcigkcnknibgaa
/- A map of four functions that a call makes, and looks into. -/
namespace Go.Proofs.Ythcigkcnknibgaa
open Go.RowKit Go.Maps
set_option maxHeartbeats 1000000
set_option maxRecDepth 100000
set_option linter.unusedVariables false
open Classical in
/-- How a function reads: by its number among four. -/
noncomputable def fnR (F0 F1 F2 F3 : Value) (v : Value) : Option (DataW Unit × List MemPlace) :=
  if v = F0 then some (.lit (.int .i64 0), []) else if v = F1 then some (.lit (.int .i64 1), []) else if v = F2 then some (.lit (.int .i64 2), []) else if v = F3 then some (.lit (.int .i64 3), []) else some (.lit (.int .i64 9), [])
theorem fnR_some (F0 F1 F2 F3 v : Value) : ∃ d ps, fnR F0 F1 F2 F3 v = some (d, ps) := by
  unfold fnR
  split
  · exact ⟨_, _, rfl⟩
  · split
    · exact ⟨_, _, rfl⟩
    · split
      · exact ⟨_, _, rfl⟩
      · split
        · exact ⟨_, _, rfl⟩
        · exact ⟨_, _, rfl⟩
theorem fnR_inv {F0 F1 F2 F3 v : Value} {d : DataW Unit} {ps : List MemPlace} (h : fnR F0 F1 F2 F3 v = some (d, ps)) : (d = .lit (.int .i64 0) → v = F0) ∧ (d = .lit (.int .i64 1) → v = F1) ∧ (d = .lit (.int .i64 2) → v = F2) ∧ (d = .lit (.int .i64 3) → v = F3) := by
  unfold fnR at h
  split at h
  · simp only [Option.some.injEq, Prod.mk.injEq] at h
    obtain ⟨rfl, _⟩ := h
    simp_all
  · split at h
    · simp only [Option.some.injEq, Prod.mk.injEq] at h
      obtain ⟨rfl, _⟩ := h
      simp_all
    · split at h
      · simp only [Option.some.injEq, Prod.mk.injEq] at h
        obtain ⟨rfl, _⟩ := h
        simp_all
      · split at h
        · simp only [Option.some.injEq, Prod.mk.injEq] at h
          obtain ⟨rfl, _⟩ := h
          simp_all
        · simp only [Option.some.injEq, Prod.mk.injEq] at h
          obtain ⟨rfl, _⟩ := h
          simp
def fnD : DataW Unit := .map [(.int .i64 0, .lit (.int .i64 0)), (.int .i64 1, .lit (.int .i64 1)), (.int .i64 2, .lit (.int .i64 2)), (.int .i64 3, .lit (.int .i64 3))]
theorem fnD_made : ((((DataW.map [] : DataW Unit).put (.int .i64 0) (.lit (.int .i64 0))).put (.int .i64 1) (.lit (.int .i64 1))).put (.int .i64 2) (.lit (.int .i64 2))).put (.int .i64 3) (.lit (.int .i64 3)) = fnD := by rfl
theorem fnD_has {x : Int} (h0 : x ≠ 0) (h1 : x ≠ 1) (h2 : x ≠ 2) (h3 : x ≠ 3) : Maps.has fnD (.int .i64 x) = false := by
  unfold Maps.has fnD
  simp [Lit.sameKey]
  omega
/-- What a block is good for that is such a map. -/
structure FnMap (P : Program) (t : TypeId) (b : Nat) (F0 F1 F2 F3 : Value) (W : World) : Prop where
  l0 : (Instr.lookup t (.map (some b)) (.int .i64 0) false).run P W = .ok F0 W
  l1 : (Instr.lookup t (.map (some b)) (.int .i64 1) false).run P W = .ok F1 W
  l2 : (Instr.lookup t (.map (some b)) (.int .i64 2) false).run P W = .ok F2 W
  l3 : (Instr.lookup t (.map (some b)) (.int .i64 3) false).run P W = .ok F3 W
  k0 : (Instr.lookup t (.map (some b)) (.int .i64 0) true).run P W = .ok (.tuple #[F0, .bool true]) W
  k1 : (Instr.lookup t (.map (some b)) (.int .i64 1) true).run P W = .ok (.tuple #[F1, .bool true]) W
  k2 : (Instr.lookup t (.map (some b)) (.int .i64 2) true).run P W = .ok (.tuple #[F2, .bool true]) W
  k3 : (Instr.lookup t (.map (some b)) (.int .i64 3) true).run P W = .ok (.tuple #[F3, .bool true]) W
  kx : ∀ x : Int, -9223372036854775808 ≤ x → x ≤ 9223372036854775807 → x ≠ 0 → x ≠ 1 → x ≠ 2 → x ≠ 3 → ∃ v, (Instr.lookup t (.map (some b)) (.int .i64 x) true).run P W = .ok (.tuple #[v, .bool false]) W
theorem fnmap {P : Program} {t k e : TypeId} (ht : P.underlying t = some (.map k e)) (hk : P.underlying k = some (.int .i64)) {z : Value} (hz : ∀ w, (zeroValue e).run P w = .ok z w) (F0 F1 F2 F3 : Value)
    (d10 : F1 ≠ F0) (d20 : F2 ≠ F0) (d21 : F2 ≠ F1) (d30 : F3 ≠ F0) (d31 : F3 ≠ F1) (d32 : F3 ≠ F2) (w : World) (b : Nat) (hb : b = w.heap.size) :
    ∃ W2 W3 W4 W5, (Instr.mapUpdate t (.map (some b)) (.int .i64 0) F0).run P (w.alloc (.map #[] 0)) = .ok () W2 ∧ (Instr.mapUpdate t (.map (some b)) (.int .i64 1) F1).run P W2 = .ok () W3 ∧
      (Instr.mapUpdate t (.map (some b)) (.int .i64 2) F2).run P W3 = .ok () W4 ∧ (Instr.mapUpdate t (.map (some b)) (.int .i64 3) F3).run P W4 = .ok () W5 ∧
      Below b w W2 ∧ Below b w W3 ∧ Below b w W4 ∧ Below b w W5 ∧ b < W5.heap.size ∧ (∀ W, W.heap[b]? = W5.heap[b]? → FnMap P t b F0 F1 F2 F3 W) := by
  subst hb
  have K : Keyed P k := int_keyed hk
  have hkey : ∀ x : Int, -9223372036854775808 ≤ x → x ≤ 9223372036854775807 → keyOf P k (.int .i64 x) = some (.int .i64 x) := fun x h0 h1 => keyOf_int_mk hk (WalkArith.wf_i64 ⟨h0, h1⟩)
  have o1 : (w.alloc (.map #[] 0)).ownsMap P k (fnR F0 F1 F2 F3) w.heap.size 0 (.map []) := World.ownsMap_made _ _ _ _
  have r0 : fnR F0 F1 F2 F3 F0 = some (.lit (.int .i64 0), []) := by unfold fnR; rw [if_pos rfl]
  have r1 : fnR F0 F1 F2 F3 F1 = some (.lit (.int .i64 1), []) := by unfold fnR; rw [if_neg d10, if_pos rfl]
  have r2 : fnR F0 F1 F2 F3 F2 = some (.lit (.int .i64 2), []) := by unfold fnR; rw [if_neg d20, if_neg d21, if_pos rfl]
  have r3 : fnR F0 F1 F2 F3 F3 = some (.lit (.int .i64 3), []) := by unfold fnR; rw [if_neg d30, if_neg d31, if_neg d32, if_pos rfl]
  obtain ⟨W2, u2, o2, g2⟩ := o1.update K ht (by decide) (hkey 0 (by omega) (by omega)) r0
  obtain ⟨W3, u3, o3, g3⟩ := o2.update K ht (by decide) (hkey 1 (by omega) (by omega)) r1
  obtain ⟨W4, u4, o4, g4⟩ := o3.update K ht (by decide) (hkey 2 (by omega) (by omega)) r2
  obtain ⟨W5, u5, o5, g5⟩ := o4.update K ht (by decide) (hkey 3 (by omega) (by omega)) r3
  rw [fnD_made] at o5
  have hs : ∀ k, some w.heap.size = some k → w.heap.size ≤ k := fun k hk => by cases hk; exact Nat.le_refl _
  have b1 : Below w.heap.size w (w.alloc (.map #[] 0)) := (Below.refl _ _).alloc (Nat.le_refl _) _
  have b2 := b1.grown g2 b1.size hs
  have b3 := b2.grown g3 b2.size hs
  have b4 := b3.grown g4 b3.size hs
  have b5 := b4.grown g5 b4.size hs
  refine ⟨W2, W3, W4, W5, u2, u3, u4, u5, b2, b3, b4, b5, o5.lt, fun W hW => ?_⟩
  have oW : W.ownsMap P k (fnR F0 F1 F2 F3) w.heap.size (0 + 1 + 1 + 1 + 1) fnD := by
    obtain ⟨es, clock, h1, h2⟩ := o5
    exact ⟨es, clock, hW.trans h1, h2⟩
  obtain ⟨zd, zp, hzd⟩ := fnR_some F0 F1 F2 F3 z
  have L := fun x h0 h1 => oW.lookup K ht (hz W) hzd (hkey x h0 h1)
  have M := fun x h0 h1 => oW.look_ok K ht (hz W) hzd (hkey x h0 h1)
  refine ⟨?_, ?_, ?_, ?_, ?_, ?_, ?_, ?_, ?_⟩
  · obtain ⟨v, ps, h1, h2⟩ := L 0 (by omega) (by omega)
    rw [(fnR_inv h2).1 rfl] at h1; exact h1
  · obtain ⟨v, ps, h1, h2⟩ := L 1 (by omega) (by omega)
    rw [(fnR_inv h2).2.1 rfl] at h1; exact h1
  · obtain ⟨v, ps, h1, h2⟩ := L 2 (by omega) (by omega)
    rw [(fnR_inv h2).2.2.1 rfl] at h1; exact h1
  · obtain ⟨v, ps, h1, h2⟩ := L 3 (by omega) (by omega)
    rw [(fnR_inv h2).2.2.2 rfl] at h1; exact h1
  · obtain ⟨v, ps, h1, h2⟩ := M 0 (by omega) (by omega)
    rw [(fnR_inv h2).1 rfl] at h1; exact h1
  · obtain ⟨v, ps, h1, h2⟩ := M 1 (by omega) (by omega)
    rw [(fnR_inv h2).2.1 rfl] at h1; exact h1
  · obtain ⟨v, ps, h1, h2⟩ := M 2 (by omega) (by omega)
    rw [(fnR_inv h2).2.2.1 rfl] at h1; exact h1
  · obtain ⟨v, ps, h1, h2⟩ := M 3 (by omega) (by omega)
    rw [(fnR_inv h2).2.2.2 rfl] at h1; exact h1
  · intro x h0 h1 n0 n1 n2 n3
    obtain ⟨v, ps, q1, q2⟩ := M x h0 h1
    rw [fnD_has n0 n1 n2 n3] at q1
    exact ⟨v, q1⟩
end Go.Proofs.Ythcigkcnknibgaa
/- A frame's cells in a box. -/
namespace Go.Proofs.Ythcigkcnknibgaa
open Go.RowKit
set_option maxHeartbeats 4000000
set_option maxRecDepth 100000
set_option linter.unusedVariables false
def cellsG (f : FrameV) (p : SentP) : List Value := [.int .i64 f.knd, .int .i64 f.frm, .int .i64 f.stp, .int .i64 f.S.sch, .int .i64 f.S.dim, .slice p.AL f.S.L.length p.cL, .slice p.AV f.S.V.length p.cV, .int .i64 f.S.scale, .int .i64 f.S.wide, .slice p.AE f.S.lev.length p.cE, .slice p.AN f.S.neg.length p.cN]
theorem box_G {w : World} {h : Nat} {f : FrameV} {p : SentP} (hb : BoxL w h (cellsG f p)) : (w.cell? ⟨h, 0, none⟩ = some (.int .i64 f.knd) ∧ w.cell? ⟨h, 1, none⟩ = some (.int .i64 f.frm) ∧ w.cell? ⟨h, 2, none⟩ = some (.int .i64 f.stp) ∧ w.cell? ⟨h, 3, none⟩ = some (.int .i64 f.S.sch) ∧ w.cell? ⟨h, 4, none⟩ = some (.int .i64 f.S.dim) ∧ w.cell? ⟨h, 5, none⟩ = some (.slice p.AL f.S.L.length p.cL) ∧ w.cell? ⟨h, 6, none⟩ = some (.slice p.AV f.S.V.length p.cV) ∧ w.cell? ⟨h, 7, none⟩ = some (.int .i64 f.S.scale) ∧ w.cell? ⟨h, 8, none⟩ = some (.int .i64 f.S.wide) ∧ w.cell? ⟨h, 9, none⟩ = some (.slice p.AE f.S.lev.length p.cE) ∧ w.cell? ⟨h, 10, none⟩ = some (.slice p.AN f.S.neg.length p.cN)) ∧ (w.frozen? ⟨h, 0, none⟩ = false ∧ w.frozen? ⟨h, 1, none⟩ = false ∧ w.frozen? ⟨h, 2, none⟩ = false ∧ w.frozen? ⟨h, 3, none⟩ = false ∧ w.frozen? ⟨h, 4, none⟩ = false ∧ w.frozen? ⟨h, 5, none⟩ = false ∧ w.frozen? ⟨h, 6, none⟩ = false ∧ w.frozen? ⟨h, 7, none⟩ = false ∧ w.frozen? ⟨h, 8, none⟩ = false ∧ w.frozen? ⟨h, 9, none⟩ = false ∧ w.frozen? ⟨h, 10, none⟩ = false) :=
  ⟨⟨(hb 0 _ rfl).1, (hb 1 _ rfl).1, (hb 2 _ rfl).1, (hb 3 _ rfl).1, (hb 4 _ rfl).1, (hb 5 _ rfl).1, (hb 6 _ rfl).1, (hb 7 _ rfl).1, (hb 8 _ rfl).1, (hb 9 _ rfl).1, (hb 10 _ rfl).1⟩, (hb 0 _ rfl).2, (hb 1 _ rfl).2, (hb 2 _ rfl).2, (hb 3 _ rfl).2, (hb 4 _ rfl).2, (hb 5 _ rfl).2, (hb 6 _ rfl).2, (hb 7 _ rfl).2, (hb 8 _ rfl).2, (hb 9 _ rfl).2, (hb 10 _ rfl).2⟩
end Go.Proofs.Ythcigkcnknibgaa
/- A law's frame: where a call answers true and nothing that was there has turned, the given row's post holds, whatever the arguments are made of. -/
namespace Go.Proofs.Ythcigkcnknibgaa
open Go.ChangeShapes Go.WideShapes Go.ChangeAt Go.RowKit
set_option maxRecDepth 100000
set_option linter.unusedVariables false

theorem own : ownKnob Try.prog.godebug = none := by kernel_rfl
theorem laid : laidOutB Try.prog = true := by kernel_rfl

section
variable {H : Type} {enc : TypeId × Value → H} {P : Program}

theorem all_stay (hl : laidOutB P = true) {W W' : World} (hb : Below W.heap.size W W') {sp : Nat → Bool} :
    ∀ (ts : List TypeId) (vs : List Value) (ds : List (DataW H)) (ps : List MemPlace), (∀ t ∈ ts, P.readableRec t = true ∧ t < P.types.size) →
      DataW.TrodAll enc P W 0 (fun _ => true) true ts vs ds ps → (∀ x ∈ ps, x.block < W.heap.size) → (∀ x ∈ ps, sp x.block = true) → DataW.TrodAll enc P W' 0 sp true ts vs ds ps
  | [], [], [], ps, _, h, _, _ => h
  | [], [], _ :: _, _, _, h, _, _ => h.elim
  | [], _ :: _, _, _, _, h, _, _ => h.elim
  | _ :: _, [], _, _, _, h, _, _ => h.elim
  | _ :: _, _ :: _, [], _, _, h, _, _ => h.elim
  | t :: ts, v :: vs, d :: ds, ps, hr, h, hlt, hsp => by
    obtain ⟨p, q, h1, h2, rfl⟩ := h
    have ht := hr t (by simp)
    refine ⟨p, q, WideElems.Trod_stays hl ht.1 ht.2 h1 (fun x hx => hb.same (hlt x (by simp [hx]))) (fun x hx => hsp x (by simp [hx])), ?_, rfl⟩
    exact all_stay hl hb ts vs ds q (fun t' ht' => hr t' (by simp [ht'])) h2 (fun x hx => hlt x (by simp [hx])) (fun x hx => hsp x (by simp [hx]))

theorem law_post {f : Func} {s : ChangeSpec} {apart fresh handsOn again : Bool} {W W' : World} {args : Array Value} {ds gs : List (DataW H)} {before : List MemPlace} {tb : TypeId}
    (hl : laidOutB P = true) (hts : ∀ t ∈ f.params.toList, P.readableRec t = true ∧ t < P.types.size) (hv : s.vars = [])
    (hW : DataW.Whole enc P f.params.toList s.vars apart W args.toList ds gs before)
    (hs : (s.fn H (ds ++ gs)).results = [.lit (.bool true)] ∧ (s.fn H (ds ++ gs)).args = ds ∧ (s.fn H (ds ++ gs)).vars = [])
    (hr : f.resultTypes = #[tb]) (htb : P.underlying tb = some .bool) (hb : Below W.heap.size W W') :
    s.post enc P f apart fresh handsOn again W args (.bool true) W' := by
  have hlt : ∀ p ∈ before, p.block < W.heap.size := fun p hp => hW.lt p hp
  have hW0 := hW
  obtain ⟨p, q, h1, h2, e, hz, hn⟩ := hW
  rw [hv] at h2
  cases gs with
  | cons _ _ => exact h2.elim
  | nil =>
    have hq : q = [] := h2
    subst hq
    simp only [List.append_nil] at e
    subst e
    have stay : ∀ sp : Nat → Bool, (∀ x ∈ before, sp x.block = true) → DataW.TrodAll enc P W' 0 sp true f.params.toList args.toList (s.fn H (ds ++ [])).args before :=
      fun sp hsp => by rw [hs.2.1]; exact all_stay hl hb _ _ _ _ hts h1 hlt hsp
    have vars : ∀ sp : Nat → Bool, DataW.TrodVars enc P W' sp s.vars (s.fn H (ds ++ [])).vars [] := fun sp => by rw [hs.2.2, hv]; rfl
    have res : ∀ (b : Nat) (sp : Nat → Bool) (hd : Bool), DataW.TrodAll enc P W' b sp hd f.resultTypes.toList ((Value.bool true).resultList f.resultTypes.size) (s.fn H (ds ++ [])).results [] := by
      intro b sp hd
      rw [hs.1, hr]
      exact trodAll_mk1 (shut_bool htb true)
    refine ⟨ds, [], before, [], before, [], hW0, res _ _ _, stay _ (fun x hx => by simpa using hlt x hx), vars _, ?_, fun _ => ?_⟩
    · exact World.keptBut_mono (fun x hx => ⟨hx, by simpa using hx⟩) (hb.frame (· ∈ before))
    · refine ⟨?_, _, _, ([] ++ before) ++ [], ⟨[] ++ before, [], trodAll_append (stay _ (fun _ _ => rfl)) (res _ _ _), vars _, rfl, ?_, ?_⟩, ?_⟩
      · exact ok_one hr rfl (okWide_bool_mk htb true)
      · intro b off hp
        have hin : MemPlace.cell b off ∈ before := by simpa using hp
        rw [hb.frozen (hlt _ hin)]
        exact hz b off hin
      · intro ha
        simpa using hn ha
      · intro x hx _
        simpa using hx
end
end Go.Proofs.Ythcigkcnknibgaa
/- An argument that is a list of whole numbers of one kind, opened. -/
namespace Go.Proofs.Ythcigkcnknibgaa
open Go.ChangeShapes Go.WideShapes Go.ChangeAt Go.RowKit
set_option maxRecDepth 100000
set_option linter.unusedVariables false
section
variable {H : Type} {enc : TypeId × Value → H} {P : Program} {W : World}
theorem nums_rd {k : IntKind} {a : Addr} {zs xs : List Int} {m : Nat} (hm : xs = zs.take m) (hc : ∀ i, i < m → W.cell? (a.add i) = some (.int k (zs.getD i 0))) : Rd (Value.int k) W W.heap.size (some a) xs := fun j x hx => by
  subst hm
  have hk : j < (zs.take m).length := (List.getElem?_eq_some_iff.1 hx).1
  have hkm : j < m := by rw [List.length_take] at hk; omega
  obtain ⟨b, off, spot⟩ := a
  have hs : spot = none := by simpa [Addr.add] using World.cell?_spot (hc 0 (by omega))
  subst hs
  have h := hc j hkm
  rw [Go.WideShapes.add_plain] at h
  have hz : zs.getD j 0 = x := by
    rw [List.getElem?_take_of_lt hkm] at hx
    simp [List.getD, hx]
  rw [hz] at h
  exact ⟨b, off, rfl, lt_of_cell h, h⟩
theorem open_nums {k : IntKind} {r : Reach} {t e : TypeId} {v : Value} {d : DataW H} {ps : List MemPlace} (ht : P.underlying t = some (.slice e)) (he : P.underlying e = some (.int k)) (hc : P.cellsOf e = 1) {b0 : Nat}
    (hval : Value.okWide P W r b0 t v) (hd : DataW.Trod enc P W 0 (fun _ => true) true t v d ps) :
    ∃ A xs c, v = .slice A xs.length c ∧ Rd (Value.int k) W W.heap.size A xs ∧ (∀ x ∈ xs, (Lit.int k x).wf = true) ∧ xs.length ≤ c ∧ c ≤ 9223372036854775807 := by
  obtain ⟨A, len, cap, rfl⟩ := okWide_slice ht hval
  obtain ⟨fuel, hf⟩ := hd
  rcases open_ints ht he hc hf with ⟨hcs, _⟩ | ⟨a, len', cap', zs, hcs, _, hl, hm, hz, _, hcell, hwz⟩
  · simp [Value.cells] at hcs
    obtain ⟨rfl, rfl, rfl⟩ := hcs
    exact ⟨none, [], 0, rfl, Rd.none_, by intro x hx; simp at hx, by simp, by omega⟩
  · simp [Value.cells] at hcs
    obtain ⟨rfl, rfl, rfl⟩ := hcs
    simp only [if_true] at hz
    have hlen : (zs.take len).length = len := by rw [List.length_take]; omega
    refine ⟨some a, zs.take len, cap, by rw [hlen], nums_rd rfl fun i hi => hcell i (by omega), fun x hx => hwz x (List.mem_of_mem_take hx), by omega, by unfold maxLen at hm; omega⟩
/-- .. and the datum that it reads as is as long. -/
theorem open_numsd {k : IntKind} {r : Reach} {t e : TypeId} {v : Value} {d : DataW H} {ps : List MemPlace} (ht : P.underlying t = some (.slice e)) (he : P.underlying e = some (.int k)) (hc : P.cellsOf e = 1) {b0 : Nat}
    (hval : Value.okWide P W r b0 t v) (hd : DataW.Trod enc P W 0 (fun _ => true) true t v d ps) :
    ∃ A xs c, v = .slice A xs.length c ∧ Rd (Value.int k) W W.heap.size A xs ∧ (∀ x ∈ xs, (Lit.int k x).wf = true) ∧ xs.length ≤ c ∧ c ≤ 9223372036854775807 ∧ (xs = [] ∨ ∃ es sp, d = .slice es sp ∧ es.length = xs.length) := by
  obtain ⟨A, xs, c, rfl, h1, h2, h3, h4⟩ := open_nums ht he hc hval hd
  refine ⟨A, xs, c, rfl, h1, h2, h3, h4, ?_⟩
  obtain ⟨fuel, hf⟩ := hd
  rcases open_ints ht he hc hf with ⟨hcs, _⟩ | ⟨a, len', cap', zs, hcs, _, hl, hm, hz, hx, _, _⟩
  · left
    simp [Value.cells] at hcs
    exact List.length_eq_zero_iff.1 (by rw [hcs.2.1]; rfl)
  · right
    simp [Value.cells] at hcs
    obtain ⟨rfl, e1, rfl⟩ := hcs
    simp only [if_true] at hz
    injection hx with hx _
    refine ⟨_, _, hx, ?_⟩
    rw [e1]
    simp [lits, List.length_take]
    omega
theorem U64.of_wf {a : Int} (h : (Lit.int .u64 a).wf = true) : U64 a := by
  simp [Lit.wf, IntKind.min, IntKind.max, IntKind.signed, IntKind.bits] at h
  unfold U64; omega
theorem U32.of_wf {a : Int} (h : (Lit.int .u32 a).wf = true) : 0 ≤ a ∧ a ≤ 4294967295 := by
  simp [Lit.wf, IntKind.min, IntKind.max, IntKind.signed, IntKind.bits] at h
  omega
end
end Go.Proofs.Ythcigkcnknibgaa
/- An argument that is a list of bools, opened. -/
namespace Go.Proofs.Ythcigkcnknibgaa
open Go.ChangeShapes Go.WideShapes Go.ChangeAt Go.RowKit
set_option maxRecDepth 100000
set_option linter.unusedVariables false
theorem cells_bool : Try.prog.cellsOf 4 = 1 := by kernel_rfl
section
variable {H : Type} {enc : TypeId × Value → H} {P : Program} {W : World}
theorem bools_rd {a : Addr} {B : Nat → Bool} {m : Nat} (hc : ∀ i, i < m → W.cell? (a.add i) = some (.bool (B i))) : Rd Value.bool W W.heap.size (some a) ((List.range m).map B) := fun j x hx => by
  have hk : j < ((List.range m).map B).length := (List.getElem?_eq_some_iff.1 hx).1
  have hkm : j < m := by simpa using hk
  obtain ⟨b, off, spot⟩ := a
  have hs : spot = none := by simpa [Addr.add] using World.cell?_spot (hc 0 (by omega))
  subst hs
  have h := hc j hkm
  rw [Go.WideShapes.add_plain] at h
  have hz : B j = x := by
    rw [List.getElem?_map, List.getElem?_range hkm] at hx
    exact Option.some.inj hx
  rw [hz] at h
  exact ⟨b, off, rfl, lt_of_cell h, h⟩
theorem open_bls {r : Reach} {t e : TypeId} {v : Value} {d : DataW H} {ps : List MemPlace} (ht : P.underlying t = some (.slice e)) (he : P.underlying e = some .bool) (hc : P.cellsOf e = 1) {b0 : Nat}
    (hval : Value.okWide P W r b0 t v) (hd : DataW.Trod enc P W 0 (fun _ => true) true t v d ps) :
    ∃ A xs c, v = .slice A xs.length c ∧ Rd Value.bool W W.heap.size A xs ∧ xs.length ≤ c ∧ c ≤ 9223372036854775807 := by
  obtain ⟨A, len, cap, rfl⟩ := okWide_slice ht hval
  obtain ⟨fuel, hf⟩ := hd
  rcases Deep.open_bools ht he hc hf with ⟨hcs, _⟩ | ⟨a, len', cap', B, hcs, _, hl, hm, _, hcell⟩
  · simp [Value.cells] at hcs
    obtain ⟨rfl, rfl, rfl⟩ := hcs
    exact ⟨none, [], 0, rfl, Rd.none_, by simp, by omega⟩
  · simp [Value.cells] at hcs
    obtain ⟨rfl, rfl, rfl⟩ := hcs
    have hlen : ((List.range len).map B).length = len := by simp
    exact ⟨some a, (List.range len).map B, cap, by rw [hlen], bools_rd fun i hi => hcell i (by omega), by omega, by unfold maxLen at hm; omega⟩
end
end Go.Proofs.Ythcigkcnknibgaa
