
/- A text's sum in bytes; a text and its sum. -/
import Derived.Test.YtgkkliibeiklbaaCrcB
import Derived.Lib.AppendZerosOnto
import Derived.Lib.Walk
namespace Go.Proofs.Ytgkkliibeiklbaa
open Go.RowKit
set_option maxHeartbeats 400000
set_option linter.unusedVariables false
/-- The first k bytes of a sum, the others 0. -/
def tl (s k j : Nat) : Int := if j < k then ((s / 2 ^ (8 * j) % 256 : Nat) : Int) else 0
theorem tl_zero (s j : Nat) : tl s 0 j = 0 := rfl
theorem tl_new (s k : Nat) : tl s (k + 1) k = ((s / 2 ^ (8 * k) % 256 : Nat) : Int) := by unfold tl; rw [if_pos (by omega)]
theorem tl_old {s k j : Nat} (h : j ≠ k) : tl s (k + 1) j = tl s k j := by
  unfold tl
  by_cases h1 : j < k
  · rw [if_pos h1, if_pos (by omega)]
  · rw [if_neg h1, if_neg (by omega)]
/-- Four bytes in a block. -/
def Four (w : World) (g : Nat) (f : Nat → Int) : Prop := ∀ j, j < 4 → w.cell? ⟨g, j, none⟩ = some (.int .u8 (f j)) ∧ w.frozen? ⟨g, j, none⟩ = false
theorem four_new (w : World) (t : TypeId) : Four (w.alloc (.cells #[.int .u8 0, .int .u8 0, .int .u8 0, .int .u8 0] t)) w.heap.size (fun _ => 0) := fun j hj => by
  match j, hj with
  | 0, _ => exact ⟨by simp [go_sem], by simp [go_sem]⟩
  | 1, _ => exact ⟨by simp [go_sem], by simp [go_sem]⟩
  | 2, _ => exact ⟨by simp [go_sem], by simp [go_sem]⟩
  | 3, _ => exact ⟨by simp [go_sem], by simp [go_sem]⟩
theorem Four.below {w w' : World} {g B : Nat} {f : Nat → Int} (h : Four w g f) (hb : Below B w w') (hg : g < B) : Four w' g f := fun j hj =>
  ⟨(hb.cell (p := ⟨g, j, none⟩) hg).trans (h j hj).1, (hb.frozen (p := ⟨g, j, none⟩) hg).trans (h j hj).2⟩
theorem Four.other {w : World} {g : Nat} {f : Nat → Int} (h : Four w g f) {p : Addr} (hp : p.block ≠ g) (v : Value) : Four (w.setCell p v) g f := fun j hj => by
  refine ⟨?_, ?_⟩
  · rw [World.cell?_setCell_other _ _ _ _ (by rintro rfl; exact hp rfl)]
    exact (h j hj).1
  · rw [World.frozen?_setCell]
    exact (h j hj).2
theorem Four.set {w : World} {g k s : Nat} (h : Four w g (tl s k)) (hk : k < 4) {u : Value} (hc : w.cell? ⟨g, k, none⟩ = some u) : Four (w.setCell ⟨g, k, none⟩ (.int .u8 (tl s (k + 1) k))) g (tl s (k + 1)) := fun j hj => by
  refine ⟨?_, ?_⟩
  · by_cases e : j = k
    · subst e
      exact World.cell?_setCell_same _ _ _ hc
    · rw [World.cell?_setCell_other _ _ _ _ (by intro e'; injection e' with e1 e2; exact e e2.symm), tl_old e]
      exact (h j hj).1
  · rw [World.frozen?_setCell]
    exact (h j hj).2
/-- Four bytes laid at once. -/
def lay4 (w : World) (g : Nat) (a b c d : Value) : World := (((w.setCell ⟨g, 0, none⟩ a).setCell ⟨g, 1, none⟩ b).setCell ⟨g, 2, none⟩ c).setCell ⟨g, 3, none⟩ d
theorem lay4_below {w w' : World} {g B : Nat} (h : Below B w w') (hg : B ≤ g) (a b c d : Value) : Below B w (lay4 w' g a b c d) :=
  (((h.setCell (p := ⟨g, 0, none⟩) hg _).setCell (p := ⟨g, 1, none⟩) hg _).setCell (p := ⟨g, 2, none⟩) hg _).setCell (p := ⟨g, 3, none⟩) hg _
theorem lay4_cells {w : World} {g : Nat} {f : Nat → Int} (h : Four w g f) (a b c d : Value) :
    (lay4 w g a b c d).cell? ⟨g, 0, none⟩ = some a ∧ (lay4 w g a b c d).cell? ⟨g, 1, none⟩ = some b ∧ (lay4 w g a b c d).cell? ⟨g, 2, none⟩ = some c ∧ (lay4 w g a b c d).cell? ⟨g, 3, none⟩ = some d := by
  have ne : ∀ {i j : Nat}, i ≠ j → (⟨g, i, none⟩ : Addr) ≠ ⟨g, j, none⟩ := fun hij e => by injection e with _ e; exact hij e
  have h0 := (h 0 (by omega)).1
  have h1 := (h 1 (by omega)).1
  have h2 := (h 2 (by omega)).1
  have h3 := (h 3 (by omega)).1
  have oth : ∀ (w : World) (i j : Nat) (v : Value), i ≠ j → (w.setCell ⟨g, i, none⟩ v).cell? ⟨g, j, none⟩ = w.cell? ⟨g, j, none⟩ := fun w i j v hij => World.cell?_setCell_other _ _ _ _ (ne hij)
  unfold lay4
  refine ⟨?_, ?_, ?_, ?_⟩
  · rw [oth _ 3 0 _ (by omega), oth _ 2 0 _ (by omega), oth _ 1 0 _ (by omega), World.cell?_setCell_same _ _ _ h0]
  · rw [oth _ 3 1 _ (by omega), oth _ 2 1 _ (by omega)]
    exact World.cell?_setCell_same _ _ _ ((oth _ 0 1 _ (by omega)).trans h1)
  · rw [oth _ 3 2 _ (by omega)]
    exact World.cell?_setCell_same _ _ _ ((oth _ 1 2 _ (by omega)).trans ((oth _ 0 2 _ (by omega)).trans h2))
  · exact World.cell?_setCell_same _ _ _ ((oth _ 2 3 _ (by omega)).trans ((oth _ 1 3 _ (by omega)).trans ((oth _ 0 3 _ (by omega)).trans h3)))
theorem crc_tail {A : Option Addr} {c : Nat} (b : List Int) (hb : b.length ≤ 1000000) (ub : U8s b) (w : World) (ra : Rd (Value.int .u8) w w.heap.size A b) :
    Calls Try.prog 46 #[.slice A b.length c] w fun e w' => e = .returned (.agg #[.int .u8 (tl (sumN b) 4 0), .int .u8 (tl (sumN b) 4 1), .int .u8 (tl (sumN b) 4 2), .int .u8 (tl (sumN b) 4 3)]) ∧ Below w.heap.size w w' := by
  have hs := sumN_lt b
  obtain ⟨w2, hw2⟩ : ∃ w2, (w.alloc (.cells #[.int .u8 0, .int .u8 0, .int .u8 0, .int .u8 0] 58)).alloc (.cells #[.int .u8 0, .int .u8 0, .int .u8 0, .int .u8 0] 58) = w2 := ⟨_, rfl⟩
  have hb2 : Below w.heap.size w w2 := by rw [← hw2]; go_grown
  have f2 : Four w2 (w.heap.size + 1) (fun _ => 0) := by
    rw [← hw2]
    have := four_new (w.alloc (.cells #[.int .u8 0, .int .u8 0, .int .u8 0, .int .u8 0] 58)) 58
    rwa [World.size_alloc] at this
  have f1 : Four w2 w.heap.size (fun _ => 0) := by
    rw [← hw2]
    exact (four_new w 58).below ((Below.refl _ _).alloc (Nat.le_refl _) _) (by simp)
  have CS := hid (crc_Sum (A := A) (c := c) b (by omega) ub w2 (ra.below hb2))
  obtain ⟨s, hs'⟩ : ∃ s, sumN b = s := ⟨_, rfl⟩
  rw [hs'] at CS hs ⊢
  clear hs' ra ub
  go_enter Try.func46, Try.ntmps46
  go_wp2_with fail
  refine CS.out.mono ?_
  rintro _ _ ⟨rfl, rfl⟩
  have F1 := hid f1
  have F2 := hid f2
  clear f1 f2 hw2
  go_wp2_with fail
  go_loopw [5, 8] (fun q i wr => ∃ (k : Nat), k ≤ 4 ∧ i = .int .i64 k ∧ Four wr (w.heap.size + 1) (tl s k) ∧ Four wr w.heap.size (fun _ => 0) ∧ Below w.heap.size w wr) (fun _ i _ => 4 - (intOf i).toNat)
  case atStart => exact ⟨0, by omega, rfl, F2.out, F1.out, hb2⟩
  case round =>
    obtain ⟨k, hk, rfl, g2, g1, hbr⟩ := hrel
    have G1 := hid g1
    have G2 := hid g2
    clear F1 F2
    by_cases hlt : k < 4
    · obtain ⟨hc, hf⟩ := g2 k hlt
      clear g1 g2
      go_wp2_with fail
      go_roundw
      case rel =>
        refine ⟨k + 1, by omega, by go_num, ?_, ?_, hbr.setCell (by simp) _⟩
        · have e1 : (s : Int) / 2 ^ (8 * k) % 256 = tl s (k + 1) k := by rw [tl_new, Int.natCast_emod, Int.natCast_ediv, Int.natCast_pow]; rfl
          rw [e1]
          exact G2.out.set hlt hc
        · exact G1.out.other (by simp) _
      case measure => simp [intOf]; omega
    · obtain rfl : k = 4 := by omega
      clear G2
      obtain ⟨a0, b0⟩ := g2 0 (by omega)
      obtain ⟨a1, b1⟩ := g2 1 (by omega)
      obtain ⟨a2, b2⟩ := g2 2 (by omega)
      obtain ⟨a3, b3⟩ := g2 3 (by omega)
      obtain ⟨c0, d0⟩ := g1 0 (by omega)
      obtain ⟨c1, d1⟩ := g1 1 (by omega)
      obtain ⟨c2, d2⟩ := g1 2 (by omega)
      obtain ⟨c3, d3⟩ := g1 3 (by omega)
      clear g1 g2
      go_wp2_with fail
      have K := lay4_cells G1.out (.int .u8 (tl s 4 0)) (.int .u8 (tl s 4 1)) (.int .u8 (tl s 4 2)) (.int .u8 (tl s 4 3))
      have KB := lay4_below hbr (Nat.le_refl _) (.int .u8 (tl s 4 0)) (.int .u8 (tl s 4 1)) (.int .u8 (tl s 4 2)) (.int .u8 (tl s 4 3))
      have hw5 : lay4 wr w.heap.size (.int .u8 (tl s 4 0)) (.int .u8 (tl s 4 1)) (.int .u8 (tl s 4 2)) (.int .u8 (tl s 4 3)) = (((wr.setCell ⟨w.heap.size, 0, none⟩ (.int .u8 (tl s 4 0))).setCell ⟨w.heap.size, 1, none⟩ (.int .u8 (tl s 4 1))).setCell ⟨w.heap.size, 2, none⟩ (.int .u8 (tl s 4 2))).setCell ⟨w.heap.size, 3, none⟩ (.int .u8 (tl s 4 3)) := rfl
      obtain ⟨w5, h5⟩ : ∃ w5, lay4 wr w.heap.size (.int .u8 (tl s 4 0)) (.int .u8 (tl s 4 1)) (.int .u8 (tl s 4 2)) (.int .u8 (tl s 4 3)) = w5 := ⟨_, rfl⟩
      rw [← hw5]
      rw [h5] at K KB ⊢
      clear h5 hw5 a0 a1 a2 a3 b0 b1 b2 b3 c0 c1 c2 c3 d0 d1 d2 d3 G1
      obtain ⟨a0, a1, a2, a3⟩ := K
      refine bodyPost_ret (v := .agg #[.int .u8 (tl s 4 0), .int .u8 (tl s 4 1), .int .u8 (tl s 4 2), .int .u8 (tl s 4 3)]) (by simp [results, Try.results46, go_sem, a0, a1, a2, a3]) rfl ⟨rfl, KB⟩
/-- Room made ahead for so many bytes. -/
theorem grow_nil (n : Nat) (hn : n ≤ 3000000) (w : World) :
    Calls Try.prog 56 #[.slice none 0 0, .int .i64 (n : Int)] w fun e w' => ∃ A c, e = .returned (.slice A 0 c) ∧ w'.ownsRow w.heap.size 5 1 (.slice A 0 c) 0 [] ∧ Below w.heap.size w w' := by
  by_cases h0 : n = 0
  · subst h0
    go_enter Try.func56, Try.ntmps56
    go_wp2_with fail
    go_ret
    exact ⟨none, 0, rfl, own_nil _ _ _, Below.refl _ _⟩
  · obtain ⟨i, hi, hzz⟩ := Option.map_eq_some_iff.1 info_u8
    simp only [Prod.mk.injEq] at hzz
    obtain ⟨hz, hs, hb⟩ := hzz
    have hold : (Builtin.firstCells i.size 0 (.slice none 0 0)).run Try.prog w.drew = .ok (#[] : Array Value) w.drew := run_firstCells_none w.drew i.size 0 0 0
    have hrz : ∀ ty, (Builtin.append_ #[22, 3] ty #[.slice none 0 0, .int .i64 (n : Int)]).run Try.prog w =
        .ok (.slice (some ⟨w.heap.size, 0, none⟩) n (grownCap w n 0 5)) (w.drew.alloc (.cells (#[] ++ Builtin.zeroCells #[.int .u8 0] n ++ Builtin.zeroCells #[.int .u8 0] (grownCap w n 0 5 - n)) 5)) := fun ty => by
      have h := Lib.run_append_grow_zeros w 22 3 ty 5 i (.int .u8 0) .i64 .i64 Try.underlying22 Try.underlying3 hi hz none 0 0 [] hold n (by omega) (by omega) (by omega) (by omega) (by rw [hb]; omega) (by rw [Nat.zero_add]; exact growslice_fits (by omega) (by rw [hb]; omega))
      rw [Nat.zero_add] at h
      exact h
    have hGn : n ≤ grownCap w n 0 5 := grownCap_ge w _ _ _
    have hGm := grownCap_le_maxLen w n 0 5 (by unfold maxLen; omega)
    obtain ⟨G, hG⟩ : ∃ G, G = grownCap w n 0 5 := ⟨_, rfl⟩
    rw [← hG] at hrz hGn hGm
    have hG63 : G ≤ 9223372036854775807 := by unfold maxLen at hGm; omega
    clear hold hG
    have hn0 : 0 < n := by omega
    have HM := hid hGm
    clear hGm h0
    go_enter Try.func56, Try.ntmps56
    go_wp2_with (at_builtin; refine Lib.wpList_append_run _ rfl _ _ _ _ rfl _ _ rfl rfl _ _ (hrz _) ?_)
    go_ret
    exact ⟨_, _, rfl, World.ownsRow_made _ _ G (Nat.le_refl _) HM.out (by simp [Builtin.zeroCells]; omega), ((Below.refl _ _).drew).alloc (Nat.le_refl _) _⟩
end Go.Proofs.Ytgkkliibeiklbaa
