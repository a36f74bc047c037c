
/- RFrIv: texts joined: FrIv. -/
import Derived.Test.YtngdgbicjhlnaaaGreatRd
/- The document's reader of a vector: ways through it. -/
namespace Go.Proofs.YtngdgbicjhlnaaaGreat
open Go.RowKit
set_option maxHeartbeats 8000000
set_option maxRecDepth 100000
set_option linter.unusedVariables false
theorem sent_7b {A : Option Addr} {c B : Nat} (t : List Int) (b : Bool) (hl : t.length ≤ 70000) (w : World) (hB : B ≤ w.heap.size) (ut : U8s t) (ht : TxP w B t A c)  {x : Int} {N : Nat} {t1 t2 : List Int} {b1 : Bool} (hx : by1 (t, b) = (x, t1, b1)) (ut1 : U8s t1) (hn : num1 4096 (t1, b1) = ((N : Int), t2, false)) (hN1 : 1 ≤ N) (hN4 : N ≤ 4096) (ut2 : U8s t2) (hx0 : x ≠ 0) (hx1 : x ≠ 1) (hx2 : x ≠ 2) {sc : Int} {t3 : List Int} {b3 : Bool} (hsc : num1 9223372036854775807 (t2, false) = (sc, t3, b3)) (ut3 : U8s t3) {Sg : Nat} (hS : (N + 7) / 8 = Sg) {qq t6 : List Int} (hqq : prt1 (Sg : Int) (t3, b3) = (qq, t6, false)) (utq : U8s qq) (hql : qq.length ≤ 70000) {Ng : List Bool} {F : Int} (hNg : bitV 1 (N : Int) qq = Ng) (hF : bitE 1 (N : Int) qq = F) {Z : Bool} (hZ : (F != 0) = Z) :
    Calls Tryz.prog 18 #[.agg #[.slice A t.length c, .bool b]] w (OwnSn B (⟨x, (N : Int), [], [], sc, 0, [], Ng⟩, (t6, Z)) w) := by
  have gx1 : (x == 1) = false := by simpa using hx1
  have gx0 : (x == 0) = false := by simpa using hx0
  have gx2 : (x == 2) = false := by simpa using hx2
  have hnz : ((N : Int) == 0) = false := by simp; omega
  have hSi : ((N : Int) + 7) / 8 = (Sg : Int) := by omega
  have hSb : Sg ≤ 600 := by omega
  obtain ⟨HB1, HB2, HB3, HB4, k0, z0⟩ := boxes4 w [.slice A t.length c, .bool b] [.int .i64 0, .int .i64 0, .slice none 0 0, .slice none 0 0, .int .i64 0, .int .i64 0, .slice none 0 0, .slice none 0 0] [.slice none 0 0, .bool false] [.int .i64 0, .int .i64 0, .slice none 0 0, .slice none 0 0, .int .i64 0, .int .i64 0, .slice none 0 0, .slice none 0 0] 49 29 49 29 _ rfl
  go_enter Tryz.func18, Tryz.ntmps18
  go_wp2_with fail
  obtain ⟨w0, hw0⟩ : ∃ w0, (((w.alloc (.cells #[.slice A t.length c, .bool b] 49)).alloc (.cells #[.int .i64 0, .int .i64 0, .slice none 0 0, .slice none 0 0, .int .i64 0, .int .i64 0, .slice none 0 0, .slice none 0 0] 29)).alloc (.cells #[.slice none 0 0, .bool false] 49)).alloc (.cells #[.int .i64 0, .int .i64 0, .slice none 0 0, .slice none 0 0, .int .i64 0, .int .i64 0, .slice none 0 0, .slice none 0 0] 29) = w0 := ⟨_, rfl⟩
  rw [hw0] at HB1 HB2 HB3 HB4 k0 z0 ⊢
  have X1_0 := hid HB1
  have X2_0 := hid HB2
  have X3_0 := hid HB3
  have X4_0 := hid HB4
  clear HB1 HB2 HB3 HB4 hw0
  refine (byte1_is t b hx w0 (Nat.le_trans hB k0.size) ut (ht.fore k0 hB)).mono ?_
  rintro _ w1 ⟨A1, c1, rfl, ht1, hb1⟩
  have zb1 := z0
  have X1_1 := hid (X1_0.out.below hb1 (X1_0.out.lt (by simp)))
  clear X1_0
  have X2_1 := hid (X2_0.out.below hb1 (X2_0.out.lt (by simp)))
  clear X2_0
  have X3_1 := hid (X3_0.out.below hb1 (X3_0.out.lt (by simp)))
  clear X3_0
  have X4_1 := hid (X4_0.out.below hb1 (X4_0.out.lt (by simp)))
  clear X4_0
  have k1 := k0.trans (hb1.mono k0.size)
  have z1 : w.heap.size + 4 ≤ w1.heap.size := by have := hb1.size; omega
  clear k0 z0
  clear hb1
  have HT1 := hid (ht1.back k1 hB)
  clear ht1
  obtain ⟨c1_0, c1_1, f1_0, f1_1⟩ := X1_1.out.two
  obtain ⟨⟨c4_0, c4_1, c4_2, c4_3, c4_4, c4_5, c4_6, c4_7⟩, f4_0, f4_1, f4_2, f4_3, f4_4, f4_5, f4_6, f4_7⟩ := X4_1.out.eight
  go_wp2_with fail
  clear c1_0 c1_1 f1_0 f1_1 c4_0 c4_1 c4_2 c4_3 c4_4 c4_5 c4_6 c4_7 f4_0 f4_1 f4_2 f4_3 f4_4 f4_5 f4_6 f4_7
  have Y1 : BoxL (((w1.setCell ⟨w.heap.size + 3, 0, none⟩ (.int .i64 x)).setCell ⟨w.heap.size, 0, none⟩ (.slice A1 t1.length c1)).setCell ⟨w.heap.size, 1, none⟩ (.bool b1)) (w.heap.size) [.slice A1 t1.length c1, .bool b1] := ((X1_1.out.other (p := ⟨w.heap.size + 3, 0, none⟩) (show w.heap.size + 3 ≠ w.heap.size by omega) (.int .i64 x)).set2 (.slice A1 t1.length c1) (.bool b1))
  have Y2 : BoxL (((w1.setCell ⟨w.heap.size + 3, 0, none⟩ (.int .i64 x)).setCell ⟨w.heap.size, 0, none⟩ (.slice A1 t1.length c1)).setCell ⟨w.heap.size, 1, none⟩ (.bool b1)) (w.heap.size + 1) [.int .i64 0, .int .i64 0, .slice none 0 0, .slice none 0 0, .int .i64 0, .int .i64 0, .slice none 0 0, .slice none 0 0] := ((X2_1.out.other (p := ⟨w.heap.size + 3, 0, none⟩) (show w.heap.size + 3 ≠ w.heap.size + 1 by omega) (.int .i64 x)).other2 (show w.heap.size ≠ w.heap.size + 1 by omega) (.slice A1 t1.length c1) (.bool b1))
  have Y3 : BoxL (((w1.setCell ⟨w.heap.size + 3, 0, none⟩ (.int .i64 x)).setCell ⟨w.heap.size, 0, none⟩ (.slice A1 t1.length c1)).setCell ⟨w.heap.size, 1, none⟩ (.bool b1)) (w.heap.size + 2) [.slice none 0 0, .bool false] := ((X3_1.out.other (p := ⟨w.heap.size + 3, 0, none⟩) (show w.heap.size + 3 ≠ w.heap.size + 2 by omega) (.int .i64 x)).other2 (show w.heap.size ≠ w.heap.size + 2 by omega) (.slice A1 t1.length c1) (.bool b1))
  have Y4 : BoxL (((w1.setCell ⟨w.heap.size + 3, 0, none⟩ (.int .i64 x)).setCell ⟨w.heap.size, 0, none⟩ (.slice A1 t1.length c1)).setCell ⟨w.heap.size, 1, none⟩ (.bool b1)) (w.heap.size + 3) [.int .i64 x, .int .i64 0, .slice none 0 0, .slice none 0 0, .int .i64 0, .int .i64 0, .slice none 0 0, .slice none 0 0] := ((X4_1.out.one (k := 0) rfl (.int .i64 x)).other2 (show w.heap.size ≠ w.heap.size + 3 by omega) (.slice A1 t1.length c1) (.bool b1))
  have YK : Below w.heap.size w (((w1.setCell ⟨w.heap.size + 3, 0, none⟩ (.int .i64 x)).setCell ⟨w.heap.size, 0, none⟩ (.slice A1 t1.length c1)).setCell ⟨w.heap.size, 1, none⟩ (.bool b1)) := (set2_below (k1.setCell (p := ⟨w.heap.size + 3, 0, none⟩) (show w.heap.size ≤ w.heap.size + 3 by omega) (.int .i64 x)) (show w.heap.size ≤ w.heap.size by omega) (.slice A1 t1.length c1) (.bool b1))
  have YZ : w.heap.size + 4 ≤ ((((w1.setCell ⟨w.heap.size + 3, 0, none⟩ (.int .i64 x)).setCell ⟨w.heap.size, 0, none⟩ (.slice A1 t1.length c1)).setCell ⟨w.heap.size, 1, none⟩ (.bool b1))).heap.size := by simpa using z1
  clear X1_1 X2_1 X3_1 X4_1 k1 z1
  obtain ⟨w2, hw2⟩ : ∃ wn, (((w1.setCell ⟨w.heap.size + 3, 0, none⟩ (.int .i64 x)).setCell ⟨w.heap.size, 0, none⟩ (.slice A1 t1.length c1)).setCell ⟨w.heap.size, 1, none⟩ (.bool b1)) = wn := ⟨_, rfl⟩
  rw [hw2] at Y1 Y2 Y3 Y4 YK YZ ⊢
  have X1_2 := hid Y1
  have X2_2 := hid Y2
  have X3_2 := hid Y3
  have X4_2 := hid Y4
  have k2 := YK
  have z2 := YZ
  clear hw2 Y1 Y2 Y3 Y4 YK YZ
  refine (number_is 4096 (by decide) (by decide) t1 b1 hn w2 (Nat.le_trans hB k2.size) ut1 (HT1.out.fore k2 hB)).mono ?_
  rintro _ w3 ⟨A2, c2, rfl, ht2, hb3⟩
  have zb3 := z2
  have X1_3 := hid (X1_2.out.below hb3 (X1_2.out.lt (by simp)))
  clear X1_2
  have X2_3 := hid (X2_2.out.below hb3 (X2_2.out.lt (by simp)))
  clear X2_2
  have X3_3 := hid (X3_2.out.below hb3 (X3_2.out.lt (by simp)))
  clear X3_2
  have X4_3 := hid (X4_2.out.below hb3 (X4_2.out.lt (by simp)))
  clear X4_2
  have k3 := k2.trans (hb3.mono k2.size)
  have z3 : w.heap.size + 4 ≤ w3.heap.size := by have := hb3.size; omega
  clear k2 z2
  clear hb3
  have HT2 := hid (ht2.back k3 hB)
  clear ht2 HT1
  obtain ⟨c1_0, c1_1, f1_0, f1_1⟩ := X1_3.out.two
  obtain ⟨⟨c4_0, c4_1, c4_2, c4_3, c4_4, c4_5, c4_6, c4_7⟩, f4_0, f4_1, f4_2, f4_3, f4_4, f4_5, f4_6, f4_7⟩ := X4_3.out.eight
  go_upto_region 4 with fail
  clear c1_0 c1_1 f1_0 f1_1 c4_0 c4_1 c4_2 c4_3 c4_4 c4_5 c4_6 c4_7 f4_0 f4_1 f4_2 f4_3 f4_4 f4_5 f4_6 f4_7
  have Y1 : BoxL (((w3.setCell ⟨w.heap.size + 3, 1, none⟩ (.int .i64 (N : Int))).setCell ⟨w.heap.size, 0, none⟩ (.slice A2 t2.length c2)).setCell ⟨w.heap.size, 1, none⟩ (.bool false)) (w.heap.size) [.slice A2 t2.length c2, .bool false] := ((X1_3.out.other (p := ⟨w.heap.size + 3, 1, none⟩) (show w.heap.size + 3 ≠ w.heap.size by omega) (.int .i64 (N : Int))).set2 (.slice A2 t2.length c2) (.bool false))
  have Y2 : BoxL (((w3.setCell ⟨w.heap.size + 3, 1, none⟩ (.int .i64 (N : Int))).setCell ⟨w.heap.size, 0, none⟩ (.slice A2 t2.length c2)).setCell ⟨w.heap.size, 1, none⟩ (.bool false)) (w.heap.size + 1) [.int .i64 0, .int .i64 0, .slice none 0 0, .slice none 0 0, .int .i64 0, .int .i64 0, .slice none 0 0, .slice none 0 0] := ((X2_3.out.other (p := ⟨w.heap.size + 3, 1, none⟩) (show w.heap.size + 3 ≠ w.heap.size + 1 by omega) (.int .i64 (N : Int))).other2 (show w.heap.size ≠ w.heap.size + 1 by omega) (.slice A2 t2.length c2) (.bool false))
  have Y3 : BoxL (((w3.setCell ⟨w.heap.size + 3, 1, none⟩ (.int .i64 (N : Int))).setCell ⟨w.heap.size, 0, none⟩ (.slice A2 t2.length c2)).setCell ⟨w.heap.size, 1, none⟩ (.bool false)) (w.heap.size + 2) [.slice none 0 0, .bool false] := ((X3_3.out.other (p := ⟨w.heap.size + 3, 1, none⟩) (show w.heap.size + 3 ≠ w.heap.size + 2 by omega) (.int .i64 (N : Int))).other2 (show w.heap.size ≠ w.heap.size + 2 by omega) (.slice A2 t2.length c2) (.bool false))
  have Y4 : BoxL (((w3.setCell ⟨w.heap.size + 3, 1, none⟩ (.int .i64 (N : Int))).setCell ⟨w.heap.size, 0, none⟩ (.slice A2 t2.length c2)).setCell ⟨w.heap.size, 1, none⟩ (.bool false)) (w.heap.size + 3) [.int .i64 x, .int .i64 (N : Int), .slice none 0 0, .slice none 0 0, .int .i64 0, .int .i64 0, .slice none 0 0, .slice none 0 0] := ((X4_3.out.one (k := 1) rfl (.int .i64 (N : Int))).other2 (show w.heap.size ≠ w.heap.size + 3 by omega) (.slice A2 t2.length c2) (.bool false))
  have YK : Below w.heap.size w (((w3.setCell ⟨w.heap.size + 3, 1, none⟩ (.int .i64 (N : Int))).setCell ⟨w.heap.size, 0, none⟩ (.slice A2 t2.length c2)).setCell ⟨w.heap.size, 1, none⟩ (.bool false)) := (set2_below (k3.setCell (p := ⟨w.heap.size + 3, 1, none⟩) (show w.heap.size ≤ w.heap.size + 3 by omega) (.int .i64 (N : Int))) (show w.heap.size ≤ w.heap.size by omega) (.slice A2 t2.length c2) (.bool false))
  have YZ : w.heap.size + 4 ≤ ((((w3.setCell ⟨w.heap.size + 3, 1, none⟩ (.int .i64 (N : Int))).setCell ⟨w.heap.size, 0, none⟩ (.slice A2 t2.length c2)).setCell ⟨w.heap.size, 1, none⟩ (.bool false))).heap.size := by simpa using z3
  clear X1_3 X2_3 X3_3 X4_3 k3 z3
  obtain ⟨w4, hw4⟩ : ∃ wn, (((w3.setCell ⟨w.heap.size + 3, 1, none⟩ (.int .i64 (N : Int))).setCell ⟨w.heap.size, 0, none⟩ (.slice A2 t2.length c2)).setCell ⟨w.heap.size, 1, none⟩ (.bool false)) = wn := ⟨_, rfl⟩
  rw [hw4] at Y1 Y2 Y3 Y4 YK YZ ⊢
  have X1_4 := hid Y1
  have X2_4 := hid Y2
  have X3_4 := hid Y3
  have X4_4 := hid Y4
  have k4 := YK
  have z4 := YZ
  clear hw4 Y1 Y2 Y3 Y4 YK YZ
  obtain ⟨c1_0, c1_1, f1_0, f1_1⟩ := X1_4.out.two
  obtain ⟨⟨c4_0, c4_1, c4_2, c4_3, c4_4, c4_5, c4_6, c4_7⟩, f4_0, f4_1, f4_2, f4_3, f4_4, f4_5, f4_6, f4_7⟩ := X4_4.out.eight
  go_wp2_with fail
  clear c1_0 c1_1 f1_0 f1_1 c4_0 c4_1 c4_2 c4_3 c4_4 c4_5 c4_6 c4_7 f4_0 f4_1 f4_2 f4_3 f4_4 f4_5 f4_6 f4_7
  refine (number_is 9223372036854775807 (by decide) (by decide) t2 false hsc w4 (Nat.le_trans hB k4.size) ut2 (HT2.out.fore k4 hB)).mono ?_
  rintro _ w5 ⟨A3, c3, rfl, ht3, hb5⟩
  have zb5 := z4
  have X1_5 := hid (X1_4.out.below hb5 (X1_4.out.lt (by simp)))
  clear X1_4
  have X2_5 := hid (X2_4.out.below hb5 (X2_4.out.lt (by simp)))
  clear X2_4
  have X3_5 := hid (X3_4.out.below hb5 (X3_4.out.lt (by simp)))
  clear X3_4
  have X4_5 := hid (X4_4.out.below hb5 (X4_4.out.lt (by simp)))
  clear X4_4
  have k5 := k4.trans (hb5.mono k4.size)
  have z5 : w.heap.size + 4 ≤ w5.heap.size := by have := hb5.size; omega
  clear k4 z4
  clear hb5
  have HT3 := hid (ht3.back k5 hB)
  clear ht3 HT2
  obtain ⟨c1_0, c1_1, f1_0, f1_1⟩ := X1_5.out.two
  obtain ⟨⟨c4_0, c4_1, c4_2, c4_3, c4_4, c4_5, c4_6, c4_7⟩, f4_0, f4_1, f4_2, f4_3, f4_4, f4_5, f4_6, f4_7⟩ := X4_5.out.eight
  go_wp2_with fail
  clear c1_0 c1_1 f1_0 f1_1 c4_0 c4_1 c4_2 c4_3 c4_4 c4_5 c4_6 c4_7 f4_0 f4_1 f4_2 f4_3 f4_4 f4_5 f4_6 f4_7
  have Y1 : BoxL (((w5.setCell ⟨w.heap.size, 0, none⟩ (.slice A3 t3.length c3)).setCell ⟨w.heap.size, 1, none⟩ (.bool b3)).setCell ⟨w.heap.size + 3, 4, none⟩ (.int .i64 sc)) (w.heap.size) [.slice A3 t3.length c3, .bool b3] := ((X1_5.out.set2 (.slice A3 t3.length c3) (.bool b3)).other (p := ⟨w.heap.size + 3, 4, none⟩) (show w.heap.size + 3 ≠ w.heap.size by omega) (.int .i64 sc))
  have Y2 : BoxL (((w5.setCell ⟨w.heap.size, 0, none⟩ (.slice A3 t3.length c3)).setCell ⟨w.heap.size, 1, none⟩ (.bool b3)).setCell ⟨w.heap.size + 3, 4, none⟩ (.int .i64 sc)) (w.heap.size + 1) [.int .i64 0, .int .i64 0, .slice none 0 0, .slice none 0 0, .int .i64 0, .int .i64 0, .slice none 0 0, .slice none 0 0] := ((X2_5.out.other2 (show w.heap.size ≠ w.heap.size + 1 by omega) (.slice A3 t3.length c3) (.bool b3)).other (p := ⟨w.heap.size + 3, 4, none⟩) (show w.heap.size + 3 ≠ w.heap.size + 1 by omega) (.int .i64 sc))
  have Y3 : BoxL (((w5.setCell ⟨w.heap.size, 0, none⟩ (.slice A3 t3.length c3)).setCell ⟨w.heap.size, 1, none⟩ (.bool b3)).setCell ⟨w.heap.size + 3, 4, none⟩ (.int .i64 sc)) (w.heap.size + 2) [.slice none 0 0, .bool false] := ((X3_5.out.other2 (show w.heap.size ≠ w.heap.size + 2 by omega) (.slice A3 t3.length c3) (.bool b3)).other (p := ⟨w.heap.size + 3, 4, none⟩) (show w.heap.size + 3 ≠ w.heap.size + 2 by omega) (.int .i64 sc))
  have Y4 : BoxL (((w5.setCell ⟨w.heap.size, 0, none⟩ (.slice A3 t3.length c3)).setCell ⟨w.heap.size, 1, none⟩ (.bool b3)).setCell ⟨w.heap.size + 3, 4, none⟩ (.int .i64 sc)) (w.heap.size + 3) [.int .i64 x, .int .i64 (N : Int), .slice none 0 0, .slice none 0 0, .int .i64 sc, .int .i64 0, .slice none 0 0, .slice none 0 0] := ((X4_5.out.other2 (show w.heap.size ≠ w.heap.size + 3 by omega) (.slice A3 t3.length c3) (.bool b3)).one (k := 4) rfl (.int .i64 sc))
  have YK : Below w.heap.size w (((w5.setCell ⟨w.heap.size, 0, none⟩ (.slice A3 t3.length c3)).setCell ⟨w.heap.size, 1, none⟩ (.bool b3)).setCell ⟨w.heap.size + 3, 4, none⟩ (.int .i64 sc)) := ((set2_below k5 (show w.heap.size ≤ w.heap.size by omega) (.slice A3 t3.length c3) (.bool b3)).setCell (p := ⟨w.heap.size + 3, 4, none⟩) (show w.heap.size ≤ w.heap.size + 3 by omega) (.int .i64 sc))
  have YZ : w.heap.size + 4 ≤ ((((w5.setCell ⟨w.heap.size, 0, none⟩ (.slice A3 t3.length c3)).setCell ⟨w.heap.size, 1, none⟩ (.bool b3)).setCell ⟨w.heap.size + 3, 4, none⟩ (.int .i64 sc))).heap.size := by simpa using z5
  clear X1_5 X2_5 X3_5 X4_5 k5 z5
  obtain ⟨w6, hw6⟩ : ∃ wn, (((w5.setCell ⟨w.heap.size, 0, none⟩ (.slice A3 t3.length c3)).setCell ⟨w.heap.size, 1, none⟩ (.bool b3)).setCell ⟨w.heap.size + 3, 4, none⟩ (.int .i64 sc)) = wn := ⟨_, rfl⟩
  rw [hw6] at Y1 Y2 Y3 Y4 YK YZ ⊢
  have X1_6 := hid Y1
  have X2_6 := hid Y2
  have X3_6 := hid Y3
  have X4_6 := hid Y4
  have k6 := YK
  have z6 := YZ
  clear hw6 Y1 Y2 Y3 Y4 YK YZ
  refine (part_is (Sg : Int) (by omega) (by omega) t3 b3 hqq w6 (Nat.le_trans hB k6.size) (HT3.out.fore k6 hB)).mono ?_
  rintro _ w7 ⟨A7, c7, A8, c8, rfl, ht8, ht7, hb7⟩
  have zb7 := z6
  have X1_7 := hid (X1_6.out.below hb7 (X1_6.out.lt (by simp)))
  clear X1_6
  have X2_7 := hid (X2_6.out.below hb7 (X2_6.out.lt (by simp)))
  clear X2_6
  have X3_7 := hid (X3_6.out.below hb7 (X3_6.out.lt (by simp)))
  clear X3_6
  have X4_7 := hid (X4_6.out.below hb7 (X4_6.out.lt (by simp)))
  clear X4_6
  have k7 := k6.trans (hb7.mono k6.size)
  have z7 : w.heap.size + 4 ≤ w7.heap.size := by have := hb7.size; omega
  clear k6 z6
  clear hb7
  have HT7 := hid (ht7.back k7 hB)
  have HT8 := hid (ht8.back k7 hB)
  clear ht7 ht8
  obtain ⟨⟨c4_0, c4_1, c4_2, c4_3, c4_4, c4_5, c4_6, c4_7⟩, f4_0, f4_1, f4_2, f4_3, f4_4, f4_5, f4_6, f4_7⟩ := X4_7.out.eight
  have gah := grow1 w7 (.cells #[.slice A7 t6.length c7, .bool false] 49)
  obtain ⟨⟨d4_0, d4_1, d4_2, d4_3, d4_4, d4_5, d4_6, d4_7⟩, _⟩ := (X4_7.out.below gah (X4_7.out.lt (by simp))).eight
  clear gah
  go_wp2_with fail
  clear c4_0 c4_1 c4_2 c4_3 c4_4 c4_5 c4_6 c4_7 f4_0 f4_1 f4_2 f4_3 f4_4 f4_5 f4_6 f4_7
  clear d4_0 d4_1 d4_2 d4_3 d4_4 d4_5 d4_6 d4_7
  have hg8 : Below w7.heap.size w7 (w7.alloc (.cells #[.slice A7 t6.length c7, .bool false] 49)) := grow1 _ _
  have hn8 : BoxL (w7.alloc (.cells #[.slice A7 t6.length c7, .bool false] 49)) w7.heap.size [.slice A7 t6.length c7, .bool false] := BoxL.new w7 [.slice A7 t6.length c7, .bool false] 49
  have hs8 : w7.heap.size < (w7.alloc (.cells #[.slice A7 t6.length c7, .bool false] 49)).heap.size := by simp
  obtain ⟨w8, hw8⟩ : ∃ wn, (w7.alloc (.cells #[.slice A7 t6.length c7, .bool false] 49)) = wn := ⟨_, rfl⟩
  rw [hw8] at hg8 hn8 hs8 ⊢
  clear hw8
  obtain ⟨Gg, hGg⟩ : ∃ G, w7.heap.size = G := ⟨_, rfl⟩
  rw [hGg] at hn8 hs8 ⊢
  have hGzg : w.heap.size + 4 ≤ Gg := by omega
  clear hs8
  have X1_8 := hid (X1_7.out.below hg8 (X1_7.out.lt (by simp)))
  clear X1_7
  have X2_8 := hid (X2_7.out.below hg8 (X2_7.out.lt (by simp)))
  clear X2_7
  have X3_8 := hid (X3_7.out.below hg8 (X3_7.out.lt (by simp)))
  clear X3_7
  have X4_8 := hid (X4_7.out.below hg8 (X4_7.out.lt (by simp)))
  clear X4_7
  have k8 := k7.trans (hg8.mono k7.size)
  have z8 : w.heap.size + 4 ≤ w8.heap.size := by have := hg8.size; omega
  clear k7 z7
  have Xg_8 := hid hn8
  clear hn8 hg8 hGg
  refine (read_is (N : Int) qq hNg hF (by unfold I64; omega) (by omega) utq w8 ((HT8.out.fore k8 hB).1.more (by omega))).mono ?_
  rintro _ w9 ⟨AN, cN, rfl, hv, hb9⟩
  have zb9 := z8
  have X1_9 := hid (X1_8.out.below hb9 (X1_8.out.lt (by simp)))
  clear X1_8
  have X2_9 := hid (X2_8.out.below hb9 (X2_8.out.lt (by simp)))
  clear X2_8
  have X3_9 := hid (X3_8.out.below hb9 (X3_8.out.lt (by simp)))
  clear X3_8
  have X4_9 := hid (X4_8.out.below hb9 (X4_8.out.lt (by simp)))
  clear X4_8
  have Xg_9 := hid (Xg_8.out.below hb9 (Xg_8.out.lt (by simp)))
  clear Xg_8
  have k9 := k8.trans (hb9.mono k8.size)
  have z9 : w.heap.size + 4 ≤ w9.heap.size := by have := hb9.size; omega
  clear k8 z8
  clear hb9
  have HON_9 := hid (own_base hv zb9)
  clear hv
  obtain ⟨⟨c4_0, c4_1, c4_2, c4_3, c4_4, c4_5, c4_6, c4_7⟩, f4_0, f4_1, f4_2, f4_3, f4_4, f4_5, f4_6, f4_7⟩ := X4_9.out.eight
  go_upto_region 32 with fail
  clear c4_0 c4_1 c4_2 c4_3 c4_4 c4_5 c4_6 c4_7 f4_0 f4_1 f4_2 f4_3 f4_4 f4_5 f4_6 f4_7
  have Y1 : BoxL (w9.setCell ⟨w.heap.size + 3, 7, none⟩ (.slice AN Ng.length cN)) (w.heap.size) [.slice A3 t3.length c3, .bool b3] := (X1_9.out.other (p := ⟨w.heap.size + 3, 7, none⟩) (show w.heap.size + 3 ≠ w.heap.size by omega) (.slice AN Ng.length cN))
  have Y2 : BoxL (w9.setCell ⟨w.heap.size + 3, 7, none⟩ (.slice AN Ng.length cN)) (w.heap.size + 1) [.int .i64 0, .int .i64 0, .slice none 0 0, .slice none 0 0, .int .i64 0, .int .i64 0, .slice none 0 0, .slice none 0 0] := (X2_9.out.other (p := ⟨w.heap.size + 3, 7, none⟩) (show w.heap.size + 3 ≠ w.heap.size + 1 by omega) (.slice AN Ng.length cN))
  have Y3 : BoxL (w9.setCell ⟨w.heap.size + 3, 7, none⟩ (.slice AN Ng.length cN)) (w.heap.size + 2) [.slice none 0 0, .bool false] := (X3_9.out.other (p := ⟨w.heap.size + 3, 7, none⟩) (show w.heap.size + 3 ≠ w.heap.size + 2 by omega) (.slice AN Ng.length cN))
  have Y4 : BoxL (w9.setCell ⟨w.heap.size + 3, 7, none⟩ (.slice AN Ng.length cN)) (w.heap.size + 3) [.int .i64 x, .int .i64 (N : Int), .slice none 0 0, .slice none 0 0, .int .i64 sc, .int .i64 0, .slice none 0 0, .slice AN Ng.length cN] := (X4_9.out.one (k := 7) rfl (.slice AN Ng.length cN))
  have Yg : BoxL (w9.setCell ⟨w.heap.size + 3, 7, none⟩ (.slice AN Ng.length cN)) Gg [.slice A7 t6.length c7, .bool false] := (Xg_9.out.other (p := ⟨w.heap.size + 3, 7, none⟩) (show w.heap.size + 3 ≠ Gg by omega) (.slice AN Ng.length cN))
  have YO0 := (own_set HON_9.out (p := ⟨w.heap.size + 3, 7, none⟩) (show w.heap.size + 3 < w.heap.size + 4 by omega) (.slice AN Ng.length cN))
  have YK : Below w.heap.size w (w9.setCell ⟨w.heap.size + 3, 7, none⟩ (.slice AN Ng.length cN)) := (k9.setCell (p := ⟨w.heap.size + 3, 7, none⟩) (show w.heap.size ≤ w.heap.size + 3 by omega) (.slice AN Ng.length cN))
  have YZ : w.heap.size + 4 ≤ ((w9.setCell ⟨w.heap.size + 3, 7, none⟩ (.slice AN Ng.length cN))).heap.size := by simpa using z9
  clear X1_9 X2_9 X3_9 X4_9 Xg_9 HON_9 k9 z9
  obtain ⟨w10, hw10⟩ : ∃ wn, (w9.setCell ⟨w.heap.size + 3, 7, none⟩ (.slice AN Ng.length cN)) = wn := ⟨_, rfl⟩
  rw [hw10] at Y1 Y2 Y3 Y4 Yg YO0 YK YZ ⊢
  have X1_10 := hid Y1
  have X2_10 := hid Y2
  have X3_10 := hid Y3
  have X4_10 := hid Y4
  have Xg_10 := hid Yg
  have HON_10 := hid YO0
  have k10 := YK
  have z10 := YZ
  clear hw10 Y1 Y2 Y3 Y4 Yg YO0 YK YZ
  obtain ⟨⟨c2_0, c2_1, c2_2, c2_3, c2_4, c2_5, c2_6, c2_7⟩, f2_0, f2_1, f2_2, f2_3, f2_4, f2_5, f2_6, f2_7⟩ := X2_10.out.eight
  obtain ⟨c3_0, c3_1, f3_0, f3_1⟩ := X3_10.out.two
  obtain ⟨⟨c4_0, c4_1, c4_2, c4_3, c4_4, c4_5, c4_6, c4_7⟩, f4_0, f4_1, f4_2, f4_3, f4_4, f4_5, f4_6, f4_7⟩ := X4_10.out.eight
  obtain ⟨cg_0, cg_1, fg_0, fg_1⟩ := Xg_10.out.two
  go_region
  clear c2_0 c2_1 c2_2 c2_3 c2_4 c2_5 c2_6 c2_7 f2_0 f2_1 f2_2 f2_3 f2_4 f2_5 f2_6 f2_7 c3_0 c3_1 f3_0 f3_1 c4_0 c4_1 c4_2 c4_3 c4_4 c4_5 c4_6 c4_7 f4_0 f4_1 f4_2 f4_3 f4_4 f4_5 f4_6 f4_7 cg_0 cg_1 fg_0 fg_1
  have Y1 : BoxL ((((((((((w10.setCell ⟨w.heap.size + 1, 0, none⟩ (.int .i64 x)).setCell ⟨w.heap.size + 1, 1, none⟩ (.int .i64 (N : Int))).setCell ⟨w.heap.size + 1, 2, none⟩ (.slice none 0 0)).setCell ⟨w.heap.size + 1, 3, none⟩ (.slice none 0 0)).setCell ⟨w.heap.size + 1, 4, none⟩ (.int .i64 sc)).setCell ⟨w.heap.size + 1, 5, none⟩ (.int .i64 0)).setCell ⟨w.heap.size + 1, 6, none⟩ (.slice none 0 0)).setCell ⟨w.heap.size + 1, 7, none⟩ (.slice AN Ng.length cN)).setCell ⟨w.heap.size + 2, 0, none⟩ (.slice A7 t6.length c7)).setCell ⟨w.heap.size + 2, 1, none⟩ (.bool Z)) (w.heap.size) [.slice A3 t3.length c3, .bool b3] := (((((((((X1_10.out.other (p := ⟨w.heap.size + 1, 0, none⟩) (show w.heap.size + 1 ≠ w.heap.size by omega) (.int .i64 x)).other (p := ⟨w.heap.size + 1, 1, none⟩) (show w.heap.size + 1 ≠ w.heap.size by omega) (.int .i64 (N : Int))).other (p := ⟨w.heap.size + 1, 2, none⟩) (show w.heap.size + 1 ≠ w.heap.size by omega) (.slice none 0 0)).other (p := ⟨w.heap.size + 1, 3, none⟩) (show w.heap.size + 1 ≠ w.heap.size by omega) (.slice none 0 0)).other (p := ⟨w.heap.size + 1, 4, none⟩) (show w.heap.size + 1 ≠ w.heap.size by omega) (.int .i64 sc)).other (p := ⟨w.heap.size + 1, 5, none⟩) (show w.heap.size + 1 ≠ w.heap.size by omega) (.int .i64 0)).other (p := ⟨w.heap.size + 1, 6, none⟩) (show w.heap.size + 1 ≠ w.heap.size by omega) (.slice none 0 0)).other (p := ⟨w.heap.size + 1, 7, none⟩) (show w.heap.size + 1 ≠ w.heap.size by omega) (.slice AN Ng.length cN)).other2 (show w.heap.size + 2 ≠ w.heap.size by omega) (.slice A7 t6.length c7) (.bool Z))
  have Y2 : BoxL ((((((((((w10.setCell ⟨w.heap.size + 1, 0, none⟩ (.int .i64 x)).setCell ⟨w.heap.size + 1, 1, none⟩ (.int .i64 (N : Int))).setCell ⟨w.heap.size + 1, 2, none⟩ (.slice none 0 0)).setCell ⟨w.heap.size + 1, 3, none⟩ (.slice none 0 0)).setCell ⟨w.heap.size + 1, 4, none⟩ (.int .i64 sc)).setCell ⟨w.heap.size + 1, 5, none⟩ (.int .i64 0)).setCell ⟨w.heap.size + 1, 6, none⟩ (.slice none 0 0)).setCell ⟨w.heap.size + 1, 7, none⟩ (.slice AN Ng.length cN)).setCell ⟨w.heap.size + 2, 0, none⟩ (.slice A7 t6.length c7)).setCell ⟨w.heap.size + 2, 1, none⟩ (.bool Z)) (w.heap.size + 1) [.int .i64 x, .int .i64 (N : Int), .slice none 0 0, .slice none 0 0, .int .i64 sc, .int .i64 0, .slice none 0 0, .slice AN Ng.length cN] := (((((((((X2_10.out.one (k := 0) rfl (.int .i64 x)).one (k := 1) rfl (.int .i64 (N : Int))).one (k := 2) rfl (.slice none 0 0)).one (k := 3) rfl (.slice none 0 0)).one (k := 4) rfl (.int .i64 sc)).one (k := 5) rfl (.int .i64 0)).one (k := 6) rfl (.slice none 0 0)).one (k := 7) rfl (.slice AN Ng.length cN)).other2 (show w.heap.size + 2 ≠ w.heap.size + 1 by omega) (.slice A7 t6.length c7) (.bool Z))
  have Y3 : BoxL ((((((((((w10.setCell ⟨w.heap.size + 1, 0, none⟩ (.int .i64 x)).setCell ⟨w.heap.size + 1, 1, none⟩ (.int .i64 (N : Int))).setCell ⟨w.heap.size + 1, 2, none⟩ (.slice none 0 0)).setCell ⟨w.heap.size + 1, 3, none⟩ (.slice none 0 0)).setCell ⟨w.heap.size + 1, 4, none⟩ (.int .i64 sc)).setCell ⟨w.heap.size + 1, 5, none⟩ (.int .i64 0)).setCell ⟨w.heap.size + 1, 6, none⟩ (.slice none 0 0)).setCell ⟨w.heap.size + 1, 7, none⟩ (.slice AN Ng.length cN)).setCell ⟨w.heap.size + 2, 0, none⟩ (.slice A7 t6.length c7)).setCell ⟨w.heap.size + 2, 1, none⟩ (.bool Z)) (w.heap.size + 2) [.slice A7 t6.length c7, .bool Z] := (((((((((X3_10.out.other (p := ⟨w.heap.size + 1, 0, none⟩) (show w.heap.size + 1 ≠ w.heap.size + 2 by omega) (.int .i64 x)).other (p := ⟨w.heap.size + 1, 1, none⟩) (show w.heap.size + 1 ≠ w.heap.size + 2 by omega) (.int .i64 (N : Int))).other (p := ⟨w.heap.size + 1, 2, none⟩) (show w.heap.size + 1 ≠ w.heap.size + 2 by omega) (.slice none 0 0)).other (p := ⟨w.heap.size + 1, 3, none⟩) (show w.heap.size + 1 ≠ w.heap.size + 2 by omega) (.slice none 0 0)).other (p := ⟨w.heap.size + 1, 4, none⟩) (show w.heap.size + 1 ≠ w.heap.size + 2 by omega) (.int .i64 sc)).other (p := ⟨w.heap.size + 1, 5, none⟩) (show w.heap.size + 1 ≠ w.heap.size + 2 by omega) (.int .i64 0)).other (p := ⟨w.heap.size + 1, 6, none⟩) (show w.heap.size + 1 ≠ w.heap.size + 2 by omega) (.slice none 0 0)).other (p := ⟨w.heap.size + 1, 7, none⟩) (show w.heap.size + 1 ≠ w.heap.size + 2 by omega) (.slice AN Ng.length cN)).set2 (.slice A7 t6.length c7) (.bool Z))
  have Y4 : BoxL ((((((((((w10.setCell ⟨w.heap.size + 1, 0, none⟩ (.int .i64 x)).setCell ⟨w.heap.size + 1, 1, none⟩ (.int .i64 (N : Int))).setCell ⟨w.heap.size + 1, 2, none⟩ (.slice none 0 0)).setCell ⟨w.heap.size + 1, 3, none⟩ (.slice none 0 0)).setCell ⟨w.heap.size + 1, 4, none⟩ (.int .i64 sc)).setCell ⟨w.heap.size + 1, 5, none⟩ (.int .i64 0)).setCell ⟨w.heap.size + 1, 6, none⟩ (.slice none 0 0)).setCell ⟨w.heap.size + 1, 7, none⟩ (.slice AN Ng.length cN)).setCell ⟨w.heap.size + 2, 0, none⟩ (.slice A7 t6.length c7)).setCell ⟨w.heap.size + 2, 1, none⟩ (.bool Z)) (w.heap.size + 3) [.int .i64 x, .int .i64 (N : Int), .slice none 0 0, .slice none 0 0, .int .i64 sc, .int .i64 0, .slice none 0 0, .slice AN Ng.length cN] := (((((((((X4_10.out.other (p := ⟨w.heap.size + 1, 0, none⟩) (show w.heap.size + 1 ≠ w.heap.size + 3 by omega) (.int .i64 x)).other (p := ⟨w.heap.size + 1, 1, none⟩) (show w.heap.size + 1 ≠ w.heap.size + 3 by omega) (.int .i64 (N : Int))).other (p := ⟨w.heap.size + 1, 2, none⟩) (show w.heap.size + 1 ≠ w.heap.size + 3 by omega) (.slice none 0 0)).other (p := ⟨w.heap.size + 1, 3, none⟩) (show w.heap.size + 1 ≠ w.heap.size + 3 by omega) (.slice none 0 0)).other (p := ⟨w.heap.size + 1, 4, none⟩) (show w.heap.size + 1 ≠ w.heap.size + 3 by omega) (.int .i64 sc)).other (p := ⟨w.heap.size + 1, 5, none⟩) (show w.heap.size + 1 ≠ w.heap.size + 3 by omega) (.int .i64 0)).other (p := ⟨w.heap.size + 1, 6, none⟩) (show w.heap.size + 1 ≠ w.heap.size + 3 by omega) (.slice none 0 0)).other (p := ⟨w.heap.size + 1, 7, none⟩) (show w.heap.size + 1 ≠ w.heap.size + 3 by omega) (.slice AN Ng.length cN)).other2 (show w.heap.size + 2 ≠ w.heap.size + 3 by omega) (.slice A7 t6.length c7) (.bool Z))
  have Yg : BoxL ((((((((((w10.setCell ⟨w.heap.size + 1, 0, none⟩ (.int .i64 x)).setCell ⟨w.heap.size + 1, 1, none⟩ (.int .i64 (N : Int))).setCell ⟨w.heap.size + 1, 2, none⟩ (.slice none 0 0)).setCell ⟨w.heap.size + 1, 3, none⟩ (.slice none 0 0)).setCell ⟨w.heap.size + 1, 4, none⟩ (.int .i64 sc)).setCell ⟨w.heap.size + 1, 5, none⟩ (.int .i64 0)).setCell ⟨w.heap.size + 1, 6, none⟩ (.slice none 0 0)).setCell ⟨w.heap.size + 1, 7, none⟩ (.slice AN Ng.length cN)).setCell ⟨w.heap.size + 2, 0, none⟩ (.slice A7 t6.length c7)).setCell ⟨w.heap.size + 2, 1, none⟩ (.bool Z)) Gg [.slice A7 t6.length c7, .bool false] := (((((((((Xg_10.out.other (p := ⟨w.heap.size + 1, 0, none⟩) (show w.heap.size + 1 ≠ Gg by omega) (.int .i64 x)).other (p := ⟨w.heap.size + 1, 1, none⟩) (show w.heap.size + 1 ≠ Gg by omega) (.int .i64 (N : Int))).other (p := ⟨w.heap.size + 1, 2, none⟩) (show w.heap.size + 1 ≠ Gg by omega) (.slice none 0 0)).other (p := ⟨w.heap.size + 1, 3, none⟩) (show w.heap.size + 1 ≠ Gg by omega) (.slice none 0 0)).other (p := ⟨w.heap.size + 1, 4, none⟩) (show w.heap.size + 1 ≠ Gg by omega) (.int .i64 sc)).other (p := ⟨w.heap.size + 1, 5, none⟩) (show w.heap.size + 1 ≠ Gg by omega) (.int .i64 0)).other (p := ⟨w.heap.size + 1, 6, none⟩) (show w.heap.size + 1 ≠ Gg by omega) (.slice none 0 0)).other (p := ⟨w.heap.size + 1, 7, none⟩) (show w.heap.size + 1 ≠ Gg by omega) (.slice AN Ng.length cN)).other2 (show w.heap.size + 2 ≠ Gg by omega) (.slice A7 t6.length c7) (.bool Z))
  have YO0 := (set2_own (own_set (own_set (own_set (own_set (own_set (own_set (own_set (own_set HON_10.out (p := ⟨w.heap.size + 1, 0, none⟩) (show w.heap.size + 1 < w.heap.size + 4 by omega) (.int .i64 x)) (p := ⟨w.heap.size + 1, 1, none⟩) (show w.heap.size + 1 < w.heap.size + 4 by omega) (.int .i64 (N : Int))) (p := ⟨w.heap.size + 1, 2, none⟩) (show w.heap.size + 1 < w.heap.size + 4 by omega) (.slice none 0 0)) (p := ⟨w.heap.size + 1, 3, none⟩) (show w.heap.size + 1 < w.heap.size + 4 by omega) (.slice none 0 0)) (p := ⟨w.heap.size + 1, 4, none⟩) (show w.heap.size + 1 < w.heap.size + 4 by omega) (.int .i64 sc)) (p := ⟨w.heap.size + 1, 5, none⟩) (show w.heap.size + 1 < w.heap.size + 4 by omega) (.int .i64 0)) (p := ⟨w.heap.size + 1, 6, none⟩) (show w.heap.size + 1 < w.heap.size + 4 by omega) (.slice none 0 0)) (p := ⟨w.heap.size + 1, 7, none⟩) (show w.heap.size + 1 < w.heap.size + 4 by omega) (.slice AN Ng.length cN)) (show w.heap.size + 2 < w.heap.size + 4 by omega) (.slice A7 t6.length c7) (.bool Z))
  have YK : Below w.heap.size w ((((((((((w10.setCell ⟨w.heap.size + 1, 0, none⟩ (.int .i64 x)).setCell ⟨w.heap.size + 1, 1, none⟩ (.int .i64 (N : Int))).setCell ⟨w.heap.size + 1, 2, none⟩ (.slice none 0 0)).setCell ⟨w.heap.size + 1, 3, none⟩ (.slice none 0 0)).setCell ⟨w.heap.size + 1, 4, none⟩ (.int .i64 sc)).setCell ⟨w.heap.size + 1, 5, none⟩ (.int .i64 0)).setCell ⟨w.heap.size + 1, 6, none⟩ (.slice none 0 0)).setCell ⟨w.heap.size + 1, 7, none⟩ (.slice AN Ng.length cN)).setCell ⟨w.heap.size + 2, 0, none⟩ (.slice A7 t6.length c7)).setCell ⟨w.heap.size + 2, 1, none⟩ (.bool Z)) := (set2_below ((((((((k10.setCell (p := ⟨w.heap.size + 1, 0, none⟩) (show w.heap.size ≤ w.heap.size + 1 by omega) (.int .i64 x)).setCell (p := ⟨w.heap.size + 1, 1, none⟩) (show w.heap.size ≤ w.heap.size + 1 by omega) (.int .i64 (N : Int))).setCell (p := ⟨w.heap.size + 1, 2, none⟩) (show w.heap.size ≤ w.heap.size + 1 by omega) (.slice none 0 0)).setCell (p := ⟨w.heap.size + 1, 3, none⟩) (show w.heap.size ≤ w.heap.size + 1 by omega) (.slice none 0 0)).setCell (p := ⟨w.heap.size + 1, 4, none⟩) (show w.heap.size ≤ w.heap.size + 1 by omega) (.int .i64 sc)).setCell (p := ⟨w.heap.size + 1, 5, none⟩) (show w.heap.size ≤ w.heap.size + 1 by omega) (.int .i64 0)).setCell (p := ⟨w.heap.size + 1, 6, none⟩) (show w.heap.size ≤ w.heap.size + 1 by omega) (.slice none 0 0)).setCell (p := ⟨w.heap.size + 1, 7, none⟩) (show w.heap.size ≤ w.heap.size + 1 by omega) (.slice AN Ng.length cN)) (show w.heap.size ≤ w.heap.size + 2 by omega) (.slice A7 t6.length c7) (.bool Z))
  have YZ : w.heap.size + 4 ≤ (((((((((((w10.setCell ⟨w.heap.size + 1, 0, none⟩ (.int .i64 x)).setCell ⟨w.heap.size + 1, 1, none⟩ (.int .i64 (N : Int))).setCell ⟨w.heap.size + 1, 2, none⟩ (.slice none 0 0)).setCell ⟨w.heap.size + 1, 3, none⟩ (.slice none 0 0)).setCell ⟨w.heap.size + 1, 4, none⟩ (.int .i64 sc)).setCell ⟨w.heap.size + 1, 5, none⟩ (.int .i64 0)).setCell ⟨w.heap.size + 1, 6, none⟩ (.slice none 0 0)).setCell ⟨w.heap.size + 1, 7, none⟩ (.slice AN Ng.length cN)).setCell ⟨w.heap.size + 2, 0, none⟩ (.slice A7 t6.length c7)).setCell ⟨w.heap.size + 2, 1, none⟩ (.bool Z))).heap.size := by simpa using z10
  clear X1_10 X2_10 X3_10 X4_10 Xg_10 HON_10 k10 z10
  obtain ⟨w11, hw11⟩ : ∃ wn, ((((((((((w10.setCell ⟨w.heap.size + 1, 0, none⟩ (.int .i64 x)).setCell ⟨w.heap.size + 1, 1, none⟩ (.int .i64 (N : Int))).setCell ⟨w.heap.size + 1, 2, none⟩ (.slice none 0 0)).setCell ⟨w.heap.size + 1, 3, none⟩ (.slice none 0 0)).setCell ⟨w.heap.size + 1, 4, none⟩ (.int .i64 sc)).setCell ⟨w.heap.size + 1, 5, none⟩ (.int .i64 0)).setCell ⟨w.heap.size + 1, 6, none⟩ (.slice none 0 0)).setCell ⟨w.heap.size + 1, 7, none⟩ (.slice AN Ng.length cN)).setCell ⟨w.heap.size + 2, 0, none⟩ (.slice A7 t6.length c7)).setCell ⟨w.heap.size + 2, 1, none⟩ (.bool Z)) = wn := ⟨_, rfl⟩
  rw [hw11] at Y1 Y2 Y3 Y4 Yg YO0 YK YZ ⊢
  have X1_11 := hid Y1
  have X2_11 := hid Y2
  have X3_11 := hid Y3
  have X4_11 := hid Y4
  have Xg_11 := hid Yg
  have HON_11 := hid YO0
  have k11 := YK
  have z11 := YZ
  clear hw11 Y1 Y2 Y3 Y4 Yg YO0 YK YZ
  have hb12 : Below w11.heap.size w11 w11.drew := (Below.refl _ _).drew
  obtain ⟨w12, hw12⟩ : ∃ wn, w11.drew = wn := ⟨_, rfl⟩
  rw [hw12] at hb12 ⊢
  clear hw12
  have X1_12 := hid (X1_11.out.below hb12 (X1_11.out.lt (by simp)))
  clear X1_11
  have X2_12 := hid (X2_11.out.below hb12 (X2_11.out.lt (by simp)))
  clear X2_11
  have X3_12 := hid (X3_11.out.below hb12 (X3_11.out.lt (by simp)))
  clear X3_11
  have X4_12 := hid (X4_11.out.below hb12 (X4_11.out.lt (by simp)))
  clear X4_11
  have Xg_12 := hid (Xg_11.out.below hb12 (Xg_11.out.lt (by simp)))
  clear Xg_11
  have HON_12 := hid (own_on HON_11.out hb12)
  clear HON_11
  have k12 := k11.trans (hb12.mono k11.size)
  have z12 : w.heap.size + 4 ≤ w12.heap.size := by have := hb12.size; omega
  clear k11 z11
  clear hb12
  obtain ⟨⟨c2_0, c2_1, c2_2, c2_3, c2_4, c2_5, c2_6, c2_7⟩, f2_0, f2_1, f2_2, f2_3, f2_4, f2_5, f2_6, f2_7⟩ := X2_12.out.eight
  obtain ⟨c3_0, c3_1, f3_0, f3_1⟩ := X3_12.out.two
  go_wp2_with fail
  refine bodyPost_ret (v := .tuple #[.agg #[.int .i64 x, .int .i64 (N : Int), .slice none 0 0, .slice none 0 0, .int .i64 sc, .int .i64 0, .slice none 0 0, .slice AN Ng.length cN], .agg #[.slice A7 t6.length c7, .bool Z]]) (by simp [results, Tryz.results18, go_sem, c2_0, c2_1, c2_2, c2_3, c2_4, c2_5, c2_6, c2_7, c3_0, c3_1]) rfl ⟨⟨none, 0, none, 0, none, 0, AN, cN⟩, A7, c7, rfl, HT7.out.fore k12 hB, ⟨RdF.nil _ _, RdF.nil _ _, RdF.nil _ _, (RdF.of_own HON_12.out).less (by omega)⟩, k12⟩
end Go.Proofs.YtngdgbicjhlnaaaGreat
