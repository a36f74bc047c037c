
/- Two texts put together; a text and its sum, by the program and by the document. -/
import Derived.Test.YtgkkliibeiklbaaCrcC
namespace Go.Proofs.Ytgkkliibeiklbaa
open Go.RowKit
set_option maxHeartbeats 400000
set_option linter.unusedVariables false
theorem tl4 (s : Nat) : [tl s 4 0, tl s 4 1, tl s 4 2, tl s 4 3] = le4 s := by
  unfold tl le4
  simp
theorem concat2 {A B : Option Addr} {c d : Nat} (xs ys : List Int) (hx : xs.length ≤ 1000000) (hy : ys.length ≤ 1000000) (w : World) (g : Nat) (cap : Nat) (h0 : w.cell? ⟨g, 0, none⟩ = some (.slice A xs.length c)) (h1 : w.cell? ⟨g, 1, none⟩ = some (.slice B ys.length d))
    (ra : Rd (Value.int .u8) w w.heap.size A xs) (rb : Rd (Value.int .u8) w w.heap.size B ys) :
    Calls Try.prog 47 #[.slice (some ⟨g, 0, none⟩) 2 cap] w (OwnOf 5 .u8 w.heap.size (xs ++ ys) w) := by
  have hg := lt_of_cell h0
  have CG := hid (grow_nil (xs.length + ys.length) (by omega))
  have HA := hid ra
  have HB := hid rb
  have H0 := hid h0
  have H1 := hid h1
  clear ra rb
  go_enter Try.func47, Try.ntmps47
  go_wp2_with fail
  go_loop [3, 5, 11] (fun s x i => ∃ (k T : Nat), k ≤ 2 ∧ i = .int .i64 k ∧ s = .int .i64 T ∧ (k = 0 → T = 0) ∧ (k = 1 → T = xs.length) ∧ (k = 2 → T = xs.length + ys.length)) (fun _ _ i => 2 - (intOf i).toNat)
  case atStart => exact ⟨0, 0, by omega, rfl, rfl, fun _ => rfl, fun h => by omega, fun h => by omega⟩
  case round =>
    obtain ⟨k, T, hk, rfl, rfl, t0, t1, t2⟩ := hrel
    by_cases hk0 : k = 0
    · obtain rfl := t0 hk0
      subst hk0
      clear t0 t1 t2
      go_wp2_with fail
      go_round
      case rel => exact ⟨1, xs.length, by omega, by go_num, by go_num, fun h => by omega, fun _ => rfl, fun h => by omega⟩
      case measure => simp [intOf]
    · by_cases hk1 : k = 1
      · obtain rfl := t1 hk1
        subst hk1
        clear t0 t1 t2 hk0
        go_wp2_with fail
        go_round
        case rel => exact ⟨2, xs.length + ys.length, by omega, by go_num, by go_num, fun h => by omega, fun h => by omega, fun _ => rfl⟩
        case measure => simp [intOf]
      · obtain rfl : k = 2 := by omega
        obtain rfl := t2 rfl
        clear t0 t1 t2 hk0 hk1
        go_wp2_with fail
        refine (CG.out _).mono ?_
        rintro _ w1 ⟨A1, c1, rfl, ho, hb1⟩
        have HO := hid ho
        have h0' : w1.cell? ⟨g, 0, none⟩ = some (.slice A xs.length c) := (hb1.cell (p := ⟨g, 0, none⟩) hg).trans H0.out
        have h1' : w1.cell? ⟨g, 1, none⟩ = some (.slice B ys.length d) := (hb1.cell (p := ⟨g, 1, none⟩) hg).trans H1.out
        clear ho
        go_wp2_with fail
        go_loopw [6, 8, 27] (fun t x i wr => ∃ (k : Nat) (S : List Int) (A2 : Option Addr) (c2 : Nat), k ≤ 2 ∧ i = .int .i64 k ∧ t = .slice A2 S.length c2 ∧ (k = 0 → S = []) ∧ (k = 1 → S = xs) ∧ (k = 2 → S = xs ++ ys) ∧ wr.ownsRow w.heap.size 5 1 (.slice A2 S.length c2) S.length (S.map (Value.int .u8)) ∧ Below w.heap.size w wr) (fun _ _ i _ => 2 - (intOf i).toNat)
        case atStart => exact ⟨0, [], A1, c1, by omega, rfl, rfl, fun _ => rfl, fun h => by omega, fun h => by omega, HO.out, hb1⟩
        case round =>
          obtain ⟨k, S, A2, c2, hk, rfl, rfl, t0, t1, t2, ho, hbr⟩ := hrel
          have HO2 := hid ho
          have c0 : wr.cell? ⟨g, 0, none⟩ = some (.slice A xs.length c) := (hbr.cell (p := ⟨g, 0, none⟩) hg).trans H0.out
          have c1 : wr.cell? ⟨g, 1, none⟩ = some (.slice B ys.length d) := (hbr.cell (p := ⟨g, 1, none⟩) hg).trans H1.out
          clear ho
          by_cases hk0 : k = 0
          · obtain rfl := t0 hk0
            subst hk0
            have r1 := HA.out.below hbr
            clear t0 t1 t2
            go_wp2_with (at_builtin; refine wpList_app (Value.int .u8) (fun _ => rfl) _ rfl _ _ 22 rfl w.heap.size 5 (.int .u8 0) 1 Try.underlying22 info_u8 rfl [] _ _ rfl HO2.out xs _ c _ rfl r1 (by simp [maxLen]; omega) (by simp; omega) hbr.size ?_)
            rintro S' A' c' w4 hS' ho hb4 _
            have HS' := hid hS'
            have HO' := hid ho
            clear hS' ho r1
            go_wp2_with fail
            go_roundw
            case rel => exact ⟨1, S', A', c', by omega, by go_num, rfl, fun h => by omega, fun _ => HS'.out, fun h => by omega, HO'.out, hbr.trans hb4⟩
            case measure => simp [intOf]
          · by_cases hk1 : k = 1
            · obtain rfl := t1 hk1
              subst hk1
              have r1 := HB.out.below hbr
              clear t0 t1 t2 hk0
              go_wp2_with (at_builtin; refine wpList_app (Value.int .u8) (fun _ => rfl) _ rfl _ _ 22 rfl w.heap.size 5 (.int .u8 0) 1 Try.underlying22 info_u8 rfl S _ _ rfl HO2.out ys _ d _ rfl r1 (by simp [maxLen]; omega) (by simp; omega) hbr.size ?_)
              rintro S' A' c' w4 hS' ho hb4 _
              have HS' := hid hS'
              have HO' := hid ho
              clear hS' ho r1
              go_wp2_with fail
              go_roundw
              case rel => exact ⟨2, S', A', c', by omega, by go_num, rfl, fun h => by omega, fun h => by omega, fun _ => HS'.out, HO'.out, hbr.trans hb4⟩
              case measure => simp [intOf]
            · obtain rfl : k = 2 := by omega
              have e := t2 rfl
              have E := hid e
              clear t0 t1 t2 hk0 hk1 e
              go_wp2_with fail
              go_ret
              rw [← E.out]
              exact ⟨A2, c2, rfl, HO2.out, hbr⟩
theorem four_rd {w : World} {g : Nat} {a b c d : Int} (h0 : w.cell? ⟨g, 0, none⟩ = some (.int .u8 a)) (h1 : w.cell? ⟨g, 1, none⟩ = some (.int .u8 b)) (h2 : w.cell? ⟨g, 2, none⟩ = some (.int .u8 c)) (h3 : w.cell? ⟨g, 3, none⟩ = some (.int .u8 d)) :
    Rd (Value.int .u8) w w.heap.size (some ⟨g, 0, none⟩) [a, b, c, d] := fun k x hx => by
  refine ⟨g, 0, rfl, lt_of_cell h0, ?_⟩
  rw [Nat.zero_add]
  match k with
  | 0 => simp at hx; subst hx; exact h0
  | 1 => simp at hx; subst hx; exact h1
  | 2 => simp at hx; subst hx; exact h2
  | 3 => simp at hx; subst hx; exact h3
  | k + 4 => simp at hx
theorem crc_Seal {A : Option Addr} {c : Nat} (b : List Int) (hb : b.length ≤ 1000000) (ub : U8s b) (w : World) (ra : Rd (Value.int .u8) w w.heap.size A b) :
    Calls Try.prog 20 #[.slice A b.length c] w (OwnE 5 .u8 w.heap.size (sealV b) (sealE b) w) := by
  unfold sealV sealE
  by_cases h : 65532 < b.length
  · rw [if_pos h, if_pos h]
    clear ra ub
    go_enter Try.func20, Try.ntmps20
    go_wp2_with fail
    go_ret2
    exact .nil (Below.refl _ _)
  · rw [if_neg h, if_neg h]
    have CT := hid (crc_tail (A := A) (c := c) b hb ub w ra)
    have RA := hid ra
    obtain ⟨R, hR⟩ : ∃ R, b ++ le4 (sumN b) = R := ⟨_, rfl⟩
    rw [hR]
    rw [← tl4] at hR
    obtain ⟨s, hs⟩ : ∃ s, sumN b = s := ⟨_, rfl⟩
    rw [hs] at CT hR
    have HR := hid hR
    clear ra ub hs hR
    obtain ⟨y0, e0⟩ : ∃ y, tl s 4 0 = y := ⟨_, rfl⟩
    obtain ⟨y1, e1⟩ : ∃ y, tl s 4 1 = y := ⟨_, rfl⟩
    obtain ⟨y2, e2⟩ : ∃ y, tl s 4 2 = y := ⟨_, rfl⟩
    obtain ⟨y3, e3⟩ : ∃ y, tl s 4 3 = y := ⟨_, rfl⟩
    rw [e0, e1, e2, e3] at CT HR
    clear e0 e1 e2 e3
    go_enter Try.func20, Try.ntmps20
    go_wp2_with fail
    refine CT.out.mono ?_
    rintro _ w1 ⟨rfl, hb1⟩
    go_wp2_with fail
    obtain ⟨w2, hw2⟩ : ∃ w2, (w1.alloc (.cells #[.int .u8 y0, .int .u8 y1, .int .u8 y2, .int .u8 y3] 58)).alloc (.cells #[.slice A b.length c, .slice (some ⟨w1.heap.size, 0, none⟩) 4 4] 22) = w2 := ⟨_, rfl⟩
    have hb2 : Below w1.heap.size w1 w2 := by rw [← hw2]; go_grown
    have g0 : w2.cell? ⟨w1.heap.size + 1, 0, none⟩ = some (.slice A b.length c) := by rw [← hw2]; simp [go_sem]
    have g1 : w2.cell? ⟨w1.heap.size + 1, 1, none⟩ = some (.slice (some ⟨w1.heap.size, 0, none⟩) [y0, y1, y2, y3].length 4) := by rw [← hw2]; simp [go_sem]
    have z0 : w2.cell? ⟨w1.heap.size, 0, none⟩ = some (.int .u8 y0) := by rw [← hw2]; simp [go_sem]
    have z1 : w2.cell? ⟨w1.heap.size, 1, none⟩ = some (.int .u8 y1) := by rw [← hw2]; simp [go_sem]
    have z2 : w2.cell? ⟨w1.heap.size, 2, none⟩ = some (.int .u8 y2) := by rw [← hw2]; simp [go_sem]
    have z3 : w2.cell? ⟨w1.heap.size, 3, none⟩ = some (.int .u8 y3) := by rw [← hw2]; simp [go_sem]
    have hb3 : Below w.heap.size w w2 := hb1.trans (hb2.mono hb1.size)
    have r1 := RA.out.on hb3
    rw [hw2]
    refine (concat2 (d := 4) b [y0, y1, y2, y3] hb (by simp) w2 (w1.heap.size + 1) 2 g0 g1 r1 (four_rd z0 z1 z2 z3)).mono ?_
    rw [HR.out]
    rintro _ w3 ⟨A3, c3, rfl, ho, hb4⟩
    have HO := hid (own_base ho hb3.size)
    clear ho g0 g1 z0 z1 z2 z3 hw2 r1
    go_wp2_with fail
    go_ret2
    exact ⟨A3, c3, rfl, HO.out, hb3.trans (hb4.mono hb3.size)⟩
theorem le4_int (s : Nat) : le4 s = [(s : Int) % 256, (s : Int) / 256 % 256, (s : Int) / 65536 % 256, (s : Int) / 16777216 % 256] := by
  unfold le4
  simp only [List.cons.injEq, and_true]
  omega
theorem rd_four (w : World) (t : TypeId) (a b c d : Int) : Rd (Value.int .u8) (w.alloc (.cells #[.int .u8 a, .int .u8 b, .int .u8 c, .int .u8 d] t)) (w.alloc (.cells #[.int .u8 a, .int .u8 b, .int .u8 c, .int .u8 d] t)).heap.size (some ⟨w.heap.size, 0, none⟩) [a, b, c, d] :=
  rd_new (enc := Value.int .u8) w t [a, b, c, d]
theorem ref_Seal {A : Option Addr} {c : Nat} (b : List Int) (hb : b.length ≤ 1000000) (ub : U8s b) (w : World) {B : Nat} (ra : Rd (Value.int .u8) w B A b) :
    Calls Try.prog 21 #[.slice A b.length c] w (OwnE 5 .u8 w.heap.size (sealV b) (sealE b) w) := by
  unfold sealV sealE
  by_cases h : 65532 < b.length
  · rw [if_pos h, if_pos h]
    clear ra ub
    go_enter Try.func21, Try.ntmps21
    go_wp2_with fail
    go_ret2
    exact .nil (Below.refl _ _)
  · rw [if_neg h, if_neg h]
    have CS := hid (ref_Sum (A := A) (c := c) b (by omega) ub w ra)
    have RA := hid ra
    obtain ⟨R, hR⟩ : ∃ R, b ++ le4 (sumN b) = R := ⟨_, rfl⟩
    rw [hR]
    obtain ⟨s, hs⟩ : ∃ s, sumN b = s := ⟨_, rfl⟩
    rw [hs] at CS hR
    have HR := hid hR
    have hap := own_nil w w.heap.size 5
    clear ra ub hs hR
    go_enter Try.func21, Try.ntmps21
    go_wp2_with fail
    refine CS.out.mono ?_
    rintro _ _ ⟨rfl, rfl⟩
    go_wp2_with (at_builtin; refine wpList_app (Value.int .u8) (fun _ => rfl) _ rfl _ _ 22 rfl w.heap.size 5 (.int .u8 0) 1 Try.underlying22 info_u8 rfl [] none 0 rfl hap b A c B rfl RA.out (by simp [maxLen]; omega) (by simp; omega) (Nat.le_refl _) ?_)
    rintro S A1 c1 w1 hS ho hb1 _
    have HS := hid hS
    have HO := hid ho
    clear ho hS hap
    obtain ⟨y0, e0⟩ : ∃ y, (s : Int) % 256 = y := ⟨_, rfl⟩
    obtain ⟨y1, e1⟩ : ∃ y, (s : Int) / 256 % 256 = y := ⟨_, rfl⟩
    obtain ⟨y2, e2⟩ : ∃ y, (s : Int) / 65536 % 256 = y := ⟨_, rfl⟩
    obtain ⟨y3, e3⟩ : ∃ y, (s : Int) / 16777216 % 256 = y := ⟨_, rfl⟩
    have HR2 : Hid (S ++ [y0, y1, y2, y3] = R) := by rw [HS.out, ← HR.out, le4_int, e0, e1, e2, e3]; rfl
    have r4 := rd_four w1 5 y0 y1 y2 y3
    have h0 := own_on HO.out ((Below.refl w1.heap.size w1).alloc (Nat.le_refl _) (.cells #[.int .u8 y0, .int .u8 y1, .int .u8 y2, .int .u8 y3] 5))
    have hSl : S.length ≤ 1000000 := by have := HS.out; rw [this]; exact hb
    have hb2 : Below w.heap.size w (w1.alloc (.cells #[.int .u8 y0, .int .u8 y1, .int .u8 y2, .int .u8 y3] 5)) := hb1.alloc hb1.size _
    go_wp2_with (at_builtin; refine wpList_app (Value.int .u8) (fun _ => rfl) _ rfl _ _ 22 rfl w.heap.size 5 (.int .u8 0) 1 Try.underlying22 info_u8 rfl S _ _ rfl h0 [y0, y1, y2, y3] _ 4 _ rfl r4 (by simp [maxLen]; omega) (by simp; omega) hb2.size ?_)
    rintro T A2 c2 w2 hT ho hb3 _
    have HT := hid hT
    have HO2 := hid ho
    clear ho hT h0 r4 e0 e1 e2 e3
    go_wp2_with fail
    go_ret2
    have e : T = R := by rw [HT.out, HR2.out]
    subst e
    exact ⟨A2, c2, rfl, HO2.out, hb2.trans hb3⟩
end Go.Proofs.Ytgkkliibeiklbaa
