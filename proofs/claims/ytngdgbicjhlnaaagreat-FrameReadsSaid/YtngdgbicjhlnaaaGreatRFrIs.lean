
/- RFrIs: texts joined: FrIs. -/
import Derived.Test.YtngdgbicjhlnaaaGreatRd
/- The document's reader of a vector: ways through it. -/
namespace Go.Proofs.YtngdgbicjhlnaaaGreat
open Go.RowKit
set_option maxHeartbeats 8000000
set_option maxRecDepth 100000
set_option linter.unusedVariables false
theorem sent_0a {A : Option Addr} {c B : Nat} (t : List Int) (b : Bool) (hl : t.length ≤ 70000) (w : World) (hB : B ≤ w.heap.size) (ut : U8s t) (ht : TxP w B t A c)  {x n : Int} {t1 t2 : List Int} {b1 b2 : Bool} (hx : by1 (t, b) = (x, t1, b1)) (ut1 : U8s t1) (hn : num1 4096 (t1, b1) = (n, t2, b2)) (hn0 : 0 ≤ n) (hn4 : n ≤ 4096) (ut2 : U8s t2) (h : b2 = true) :
    Calls Tryz.prog 18 #[.agg #[.slice A t.length c, .bool b]] w (OwnSn B (⟨x, n, [], [], 0, 0, [], []⟩, badT) w) := by
  subst h
  obtain ⟨HB1, HB2, HB3, HB4, k0, z0⟩ := boxes4 w [.slice A t.length c, .bool b] [.int .i64 0, .int .i64 0, .slice none 0 0, .slice none 0 0, .int .i64 0, .int .i64 0, .slice none 0 0, .slice none 0 0] [.slice none 0 0, .bool false] [.int .i64 0, .int .i64 0, .slice none 0 0, .slice none 0 0, .int .i64 0, .int .i64 0, .slice none 0 0, .slice none 0 0] 49 29 49 29 _ rfl
  go_enter Tryz.func18, Tryz.ntmps18
  go_wp2_with fail
  obtain ⟨w0, hw0⟩ : ∃ w0, (((w.alloc (.cells #[.slice A t.length c, .bool b] 49)).alloc (.cells #[.int .i64 0, .int .i64 0, .slice none 0 0, .slice none 0 0, .int .i64 0, .int .i64 0, .slice none 0 0, .slice none 0 0] 29)).alloc (.cells #[.slice none 0 0, .bool false] 49)).alloc (.cells #[.int .i64 0, .int .i64 0, .slice none 0 0, .slice none 0 0, .int .i64 0, .int .i64 0, .slice none 0 0, .slice none 0 0] 29) = w0 := ⟨_, rfl⟩
  rw [hw0] at HB1 HB2 HB3 HB4 k0 z0 ⊢
  have X1_0 := hid HB1
  have X2_0 := hid HB2
  have X3_0 := hid HB3
  have X4_0 := hid HB4
  clear HB1 HB2 HB3 HB4 hw0
  refine (byte1_is t b hx w0 (Nat.le_trans hB k0.size) ut (ht.fore k0 hB)).mono ?_
  rintro _ w1 ⟨A1, c1, rfl, ht1, hb1⟩
  have zb1 := z0
  have X1_1 := hid (X1_0.out.below hb1 (X1_0.out.lt (by simp)))
  clear X1_0
  have X2_1 := hid (X2_0.out.below hb1 (X2_0.out.lt (by simp)))
  clear X2_0
  have X3_1 := hid (X3_0.out.below hb1 (X3_0.out.lt (by simp)))
  clear X3_0
  have X4_1 := hid (X4_0.out.below hb1 (X4_0.out.lt (by simp)))
  clear X4_0
  have k1 := k0.trans (hb1.mono k0.size)
  have z1 : w.heap.size + 4 ≤ w1.heap.size := by have := hb1.size; omega
  clear k0 z0
  clear hb1
  have HT1 := hid (ht1.back k1 hB)
  clear ht1
  obtain ⟨c1_0, c1_1, f1_0, f1_1⟩ := X1_1.out.two
  obtain ⟨⟨c4_0, c4_1, c4_2, c4_3, c4_4, c4_5, c4_6, c4_7⟩, f4_0, f4_1, f4_2, f4_3, f4_4, f4_5, f4_6, f4_7⟩ := X4_1.out.eight
  go_wp2_with fail
  clear c1_0 c1_1 f1_0 f1_1 c4_0 c4_1 c4_2 c4_3 c4_4 c4_5 c4_6 c4_7 f4_0 f4_1 f4_2 f4_3 f4_4 f4_5 f4_6 f4_7
  have Y1 : BoxL (((w1.setCell ⟨w.heap.size + 3, 0, none⟩ (.int .i64 x)).setCell ⟨w.heap.size, 0, none⟩ (.slice A1 t1.length c1)).setCell ⟨w.heap.size, 1, none⟩ (.bool b1)) (w.heap.size) [.slice A1 t1.length c1, .bool b1] := ((X1_1.out.other (p := ⟨w.heap.size + 3, 0, none⟩) (show w.heap.size + 3 ≠ w.heap.size by omega) (.int .i64 x)).set2 (.slice A1 t1.length c1) (.bool b1))
  have Y2 : BoxL (((w1.setCell ⟨w.heap.size + 3, 0, none⟩ (.int .i64 x)).setCell ⟨w.heap.size, 0, none⟩ (.slice A1 t1.length c1)).setCell ⟨w.heap.size, 1, none⟩ (.bool b1)) (w.heap.size + 1) [.int .i64 0, .int .i64 0, .slice none 0 0, .slice none 0 0, .int .i64 0, .int .i64 0, .slice none 0 0, .slice none 0 0] := ((X2_1.out.other (p := ⟨w.heap.size + 3, 0, none⟩) (show w.heap.size + 3 ≠ w.heap.size + 1 by omega) (.int .i64 x)).other2 (show w.heap.size ≠ w.heap.size + 1 by omega) (.slice A1 t1.length c1) (.bool b1))
  have Y3 : BoxL (((w1.setCell ⟨w.heap.size + 3, 0, none⟩ (.int .i64 x)).setCell ⟨w.heap.size, 0, none⟩ (.slice A1 t1.length c1)).setCell ⟨w.heap.size, 1, none⟩ (.bool b1)) (w.heap.size + 2) [.slice none 0 0, .bool false] := ((X3_1.out.other (p := ⟨w.heap.size + 3, 0, none⟩) (show w.heap.size + 3 ≠ w.heap.size + 2 by omega) (.int .i64 x)).other2 (show w.heap.size ≠ w.heap.size + 2 by omega) (.slice A1 t1.length c1) (.bool b1))
  have Y4 : BoxL (((w1.setCell ⟨w.heap.size + 3, 0, none⟩ (.int .i64 x)).setCell ⟨w.heap.size, 0, none⟩ (.slice A1 t1.length c1)).setCell ⟨w.heap.size, 1, none⟩ (.bool b1)) (w.heap.size + 3) [.int .i64 x, .int .i64 0, .slice none 0 0, .slice none 0 0, .int .i64 0, .int .i64 0, .slice none 0 0, .slice none 0 0] := ((X4_1.out.one (k := 0) rfl (.int .i64 x)).other2 (show w.heap.size ≠ w.heap.size + 3 by omega) (.slice A1 t1.length c1) (.bool b1))
  have YK : Below w.heap.size w (((w1.setCell ⟨w.heap.size + 3, 0, none⟩ (.int .i64 x)).setCell ⟨w.heap.size, 0, none⟩ (.slice A1 t1.length c1)).setCell ⟨w.heap.size, 1, none⟩ (.bool b1)) := (set2_below (k1.setCell (p := ⟨w.heap.size + 3, 0, none⟩) (show w.heap.size ≤ w.heap.size + 3 by omega) (.int .i64 x)) (show w.heap.size ≤ w.heap.size by omega) (.slice A1 t1.length c1) (.bool b1))
  have YZ : w.heap.size + 4 ≤ ((((w1.setCell ⟨w.heap.size + 3, 0, none⟩ (.int .i64 x)).setCell ⟨w.heap.size, 0, none⟩ (.slice A1 t1.length c1)).setCell ⟨w.heap.size, 1, none⟩ (.bool b1))).heap.size := by simpa using z1
  clear X1_1 X2_1 X3_1 X4_1 k1 z1
  obtain ⟨w2, hw2⟩ : ∃ wn, (((w1.setCell ⟨w.heap.size + 3, 0, none⟩ (.int .i64 x)).setCell ⟨w.heap.size, 0, none⟩ (.slice A1 t1.length c1)).setCell ⟨w.heap.size, 1, none⟩ (.bool b1)) = wn := ⟨_, rfl⟩
  rw [hw2] at Y1 Y2 Y3 Y4 YK YZ ⊢
  have X1_2 := hid Y1
  have X2_2 := hid Y2
  have X3_2 := hid Y3
  have X4_2 := hid Y4
  have k2 := YK
  have z2 := YZ
  clear hw2 Y1 Y2 Y3 Y4 YK YZ
  refine (number_is 4096 (by decide) (by decide) t1 b1 hn w2 (Nat.le_trans hB k2.size) ut1 (HT1.out.fore k2 hB)).mono ?_
  rintro _ w3 ⟨A2, c2, rfl, ht2, hb3⟩
  have zb3 := z2
  have X1_3 := hid (X1_2.out.below hb3 (X1_2.out.lt (by simp)))
  clear X1_2
  have X2_3 := hid (X2_2.out.below hb3 (X2_2.out.lt (by simp)))
  clear X2_2
  have X3_3 := hid (X3_2.out.below hb3 (X3_2.out.lt (by simp)))
  clear X3_2
  have X4_3 := hid (X4_2.out.below hb3 (X4_2.out.lt (by simp)))
  clear X4_2
  have k3 := k2.trans (hb3.mono k2.size)
  have z3 : w.heap.size + 4 ≤ w3.heap.size := by have := hb3.size; omega
  clear k2 z2
  clear hb3
  have HT2 := hid (ht2.back k3 hB)
  clear ht2 HT1
  obtain ⟨c1_0, c1_1, f1_0, f1_1⟩ := X1_3.out.two
  obtain ⟨⟨c4_0, c4_1, c4_2, c4_3, c4_4, c4_5, c4_6, c4_7⟩, f4_0, f4_1, f4_2, f4_3, f4_4, f4_5, f4_6, f4_7⟩ := X4_3.out.eight
  go_upto_region 4 with fail
  clear c1_0 c1_1 f1_0 f1_1 c4_0 c4_1 c4_2 c4_3 c4_4 c4_5 c4_6 c4_7 f4_0 f4_1 f4_2 f4_3 f4_4 f4_5 f4_6 f4_7
  have Y1 : BoxL (((w3.setCell ⟨w.heap.size + 3, 1, none⟩ (.int .i64 n)).setCell ⟨w.heap.size, 0, none⟩ (.slice A2 t2.length c2)).setCell ⟨w.heap.size, 1, none⟩ (.bool true)) (w.heap.size) [.slice A2 t2.length c2, .bool true] := ((X1_3.out.other (p := ⟨w.heap.size + 3, 1, none⟩) (show w.heap.size + 3 ≠ w.heap.size by omega) (.int .i64 n)).set2 (.slice A2 t2.length c2) (.bool true))
  have Y2 : BoxL (((w3.setCell ⟨w.heap.size + 3, 1, none⟩ (.int .i64 n)).setCell ⟨w.heap.size, 0, none⟩ (.slice A2 t2.length c2)).setCell ⟨w.heap.size, 1, none⟩ (.bool true)) (w.heap.size + 1) [.int .i64 0, .int .i64 0, .slice none 0 0, .slice none 0 0, .int .i64 0, .int .i64 0, .slice none 0 0, .slice none 0 0] := ((X2_3.out.other (p := ⟨w.heap.size + 3, 1, none⟩) (show w.heap.size + 3 ≠ w.heap.size + 1 by omega) (.int .i64 n)).other2 (show w.heap.size ≠ w.heap.size + 1 by omega) (.slice A2 t2.length c2) (.bool true))
  have Y3 : BoxL (((w3.setCell ⟨w.heap.size + 3, 1, none⟩ (.int .i64 n)).setCell ⟨w.heap.size, 0, none⟩ (.slice A2 t2.length c2)).setCell ⟨w.heap.size, 1, none⟩ (.bool true)) (w.heap.size + 2) [.slice none 0 0, .bool false] := ((X3_3.out.other (p := ⟨w.heap.size + 3, 1, none⟩) (show w.heap.size + 3 ≠ w.heap.size + 2 by omega) (.int .i64 n)).other2 (show w.heap.size ≠ w.heap.size + 2 by omega) (.slice A2 t2.length c2) (.bool true))
  have Y4 : BoxL (((w3.setCell ⟨w.heap.size + 3, 1, none⟩ (.int .i64 n)).setCell ⟨w.heap.size, 0, none⟩ (.slice A2 t2.length c2)).setCell ⟨w.heap.size, 1, none⟩ (.bool true)) (w.heap.size + 3) [.int .i64 x, .int .i64 n, .slice none 0 0, .slice none 0 0, .int .i64 0, .int .i64 0, .slice none 0 0, .slice none 0 0] := ((X4_3.out.one (k := 1) rfl (.int .i64 n)).other2 (show w.heap.size ≠ w.heap.size + 3 by omega) (.slice A2 t2.length c2) (.bool true))
  have YK : Below w.heap.size w (((w3.setCell ⟨w.heap.size + 3, 1, none⟩ (.int .i64 n)).setCell ⟨w.heap.size, 0, none⟩ (.slice A2 t2.length c2)).setCell ⟨w.heap.size, 1, none⟩ (.bool true)) := (set2_below (k3.setCell (p := ⟨w.heap.size + 3, 1, none⟩) (show w.heap.size ≤ w.heap.size + 3 by omega) (.int .i64 n)) (show w.heap.size ≤ w.heap.size by omega) (.slice A2 t2.length c2) (.bool true))
  have YZ : w.heap.size + 4 ≤ ((((w3.setCell ⟨w.heap.size + 3, 1, none⟩ (.int .i64 n)).setCell ⟨w.heap.size, 0, none⟩ (.slice A2 t2.length c2)).setCell ⟨w.heap.size, 1, none⟩ (.bool true))).heap.size := by simpa using z3
  clear X1_3 X2_3 X3_3 X4_3 k3 z3
  obtain ⟨w4, hw4⟩ : ∃ wn, (((w3.setCell ⟨w.heap.size + 3, 1, none⟩ (.int .i64 n)).setCell ⟨w.heap.size, 0, none⟩ (.slice A2 t2.length c2)).setCell ⟨w.heap.size, 1, none⟩ (.bool true)) = wn := ⟨_, rfl⟩
  rw [hw4] at Y1 Y2 Y3 Y4 YK YZ ⊢
  have X1_4 := hid Y1
  have X2_4 := hid Y2
  have X3_4 := hid Y3
  have X4_4 := hid Y4
  have k4 := YK
  have z4 := YZ
  clear hw4 Y1 Y2 Y3 Y4 YK YZ
  obtain ⟨c1_0, c1_1, f1_0, f1_1⟩ := X1_4.out.two
  obtain ⟨⟨c4_0, c4_1, c4_2, c4_3, c4_4, c4_5, c4_6, c4_7⟩, f4_0, f4_1, f4_2, f4_3, f4_4, f4_5, f4_6, f4_7⟩ := X4_4.out.eight
  have HTH := hid (box_thr (o := 0) (n := 8) X2_4.out (by simp))
  go_wp2_with (refine wpList_many rfl 29 _ _ rfl (w.heap.size + 1) 0 #[.int .i64 x, .int .i64 n, .slice none 0 0, .slice none 0 0, .int .i64 0, .int .i64 0, .slice none 0 0, .slice none 0 0] rfl rfl HTH.out info_sn (by simp [Value.oneCell']) ?_)
  intro w5 hw5
  have hq5 : w5 = st8 w4 (w.heap.size + 1) (.int .i64 x) (.int .i64 n) (.slice none 0 0) (.slice none 0 0) (.int .i64 0) (.int .i64 0) (.slice none 0 0) (.slice none 0 0) := hw5.out
  have X1_5 : Hid (BoxL w5 (w.heap.size) [.slice A2 t2.length c2, .bool true]) := hid (by rw [hq5]; exact st8_other X1_4.out (by omega))
  clear X1_4
  have X2_5 : Hid (BoxL w5 (w.heap.size + 1) [.int .i64 x, .int .i64 n, .slice none 0 0, .slice none 0 0, .int .i64 0, .int .i64 0, .slice none 0 0, .slice none 0 0]) := hid (by rw [hq5]; exact st8_box X2_4.out)
  clear X2_4
  have X3_5 : Hid (BoxL w5 (w.heap.size + 2) [.slice none 0 0, .bool false]) := hid (by rw [hq5]; exact st8_other X3_4.out (by omega))
  clear X3_4
  have X4_5 : Hid (BoxL w5 (w.heap.size + 3) [.int .i64 x, .int .i64 n, .slice none 0 0, .slice none 0 0, .int .i64 0, .int .i64 0, .slice none 0 0, .slice none 0 0]) := hid (by rw [hq5]; exact st8_other X4_4.out (by omega))
  clear X4_4
  have k5 : Below w.heap.size w w5 := by rw [hq5]; exact st8_below k4 (by omega)
  have z5 : w.heap.size + 4 ≤ w5.heap.size := by rw [hq5]; simpa [st8] using z4
  clear k4 z4 hw5 hq5 HTH
  clear c1_0 c1_1 f1_0 f1_1 c4_0 f4_0 c4_1 f4_1 c4_2 f4_2 c4_3 f4_3 c4_4 f4_4 c4_5 f4_5 c4_6 f4_6 c4_7 f4_7
  obtain ⟨c3_0, c3_1, f3_0, f3_1⟩ := X3_5.out.two
  go_wp2_with fail
  clear c3_0 c3_1 f3_0 f3_1
  have Y1 : BoxL ((w5.setCell ⟨w.heap.size + 2, 0, none⟩ (.slice none 0 0)).setCell ⟨w.heap.size + 2, 1, none⟩ (.bool true)) (w.heap.size) [.slice A2 t2.length c2, .bool true] := (X1_5.out.other2 (show w.heap.size + 2 ≠ w.heap.size by omega) (.slice none 0 0) (.bool true))
  have Y2 : BoxL ((w5.setCell ⟨w.heap.size + 2, 0, none⟩ (.slice none 0 0)).setCell ⟨w.heap.size + 2, 1, none⟩ (.bool true)) (w.heap.size + 1) [.int .i64 x, .int .i64 n, .slice none 0 0, .slice none 0 0, .int .i64 0, .int .i64 0, .slice none 0 0, .slice none 0 0] := (X2_5.out.other2 (show w.heap.size + 2 ≠ w.heap.size + 1 by omega) (.slice none 0 0) (.bool true))
  have Y3 : BoxL ((w5.setCell ⟨w.heap.size + 2, 0, none⟩ (.slice none 0 0)).setCell ⟨w.heap.size + 2, 1, none⟩ (.bool true)) (w.heap.size + 2) [.slice none 0 0, .bool true] := (X3_5.out.set2 (.slice none 0 0) (.bool true))
  have Y4 : BoxL ((w5.setCell ⟨w.heap.size + 2, 0, none⟩ (.slice none 0 0)).setCell ⟨w.heap.size + 2, 1, none⟩ (.bool true)) (w.heap.size + 3) [.int .i64 x, .int .i64 n, .slice none 0 0, .slice none 0 0, .int .i64 0, .int .i64 0, .slice none 0 0, .slice none 0 0] := (X4_5.out.other2 (show w.heap.size + 2 ≠ w.heap.size + 3 by omega) (.slice none 0 0) (.bool true))
  have YK : Below w.heap.size w ((w5.setCell ⟨w.heap.size + 2, 0, none⟩ (.slice none 0 0)).setCell ⟨w.heap.size + 2, 1, none⟩ (.bool true)) := (set2_below k5 (show w.heap.size ≤ w.heap.size + 2 by omega) (.slice none 0 0) (.bool true))
  have YZ : w.heap.size + 4 ≤ (((w5.setCell ⟨w.heap.size + 2, 0, none⟩ (.slice none 0 0)).setCell ⟨w.heap.size + 2, 1, none⟩ (.bool true))).heap.size := by simpa using z5
  clear X1_5 X2_5 X3_5 X4_5 k5 z5
  obtain ⟨w6, hw6⟩ : ∃ wn, ((w5.setCell ⟨w.heap.size + 2, 0, none⟩ (.slice none 0 0)).setCell ⟨w.heap.size + 2, 1, none⟩ (.bool true)) = wn := ⟨_, rfl⟩
  rw [hw6] at Y1 Y2 Y3 Y4 YK YZ ⊢
  have X1_6 := hid Y1
  have X2_6 := hid Y2
  have X3_6 := hid Y3
  have X4_6 := hid Y4
  have k6 := YK
  have z6 := YZ
  clear hw6 Y1 Y2 Y3 Y4 YK YZ
  obtain ⟨⟨c2_0, c2_1, c2_2, c2_3, c2_4, c2_5, c2_6, c2_7⟩, f2_0, f2_1, f2_2, f2_3, f2_4, f2_5, f2_6, f2_7⟩ := X2_6.out.eight
  obtain ⟨c3_0, c3_1, f3_0, f3_1⟩ := X3_6.out.two
  refine bodyPost_ret (v := .tuple #[.agg #[.int .i64 x, .int .i64 n, .slice none 0 0, .slice none 0 0, .int .i64 0, .int .i64 0, .slice none 0 0, .slice none 0 0], .agg #[.slice none 0 0, .bool true]]) (by simp [results, Tryz.results18, go_sem, c2_0, c2_1, c2_2, c2_3, c2_4, c2_5, c2_6, c2_7, c3_0, c3_1]) rfl ⟨⟨none, 0, none, 0, none, 0, none, 0⟩, none, 0, rfl, TxP.nil _ _, ⟨RdF.nil _ _, RdF.nil _ _, RdF.nil _ _, RdF.nil _ _⟩, k6⟩
theorem sent_0b {A : Option Addr} {c B : Nat} (t : List Int) (b : Bool) (hl : t.length ≤ 70000) (w : World) (hB : B ≤ w.heap.size) (ut : U8s t) (ht : TxP w B t A c)  {x n : Int} {t1 t2 : List Int} {b1 b2 : Bool} (hx : by1 (t, b) = (x, t1, b1)) (ut1 : U8s t1) (hn : num1 4096 (t1, b1) = (n, t2, b2)) (hn0 : 0 ≤ n) (hn4 : n ≤ 4096) (ut2 : U8s t2) (h : b2 = false) (hz : n = 0) :
    Calls Tryz.prog 18 #[.agg #[.slice A t.length c, .bool b]] w (OwnSn B (⟨x, n, [], [], 0, 0, [], []⟩, badT) w) := by
  subst h
  subst hz
  obtain ⟨HB1, HB2, HB3, HB4, k0, z0⟩ := boxes4 w [.slice A t.length c, .bool b] [.int .i64 0, .int .i64 0, .slice none 0 0, .slice none 0 0, .int .i64 0, .int .i64 0, .slice none 0 0, .slice none 0 0] [.slice none 0 0, .bool false] [.int .i64 0, .int .i64 0, .slice none 0 0, .slice none 0 0, .int .i64 0, .int .i64 0, .slice none 0 0, .slice none 0 0] 49 29 49 29 _ rfl
  go_enter Tryz.func18, Tryz.ntmps18
  go_wp2_with fail
  obtain ⟨w0, hw0⟩ : ∃ w0, (((w.alloc (.cells #[.slice A t.length c, .bool b] 49)).alloc (.cells #[.int .i64 0, .int .i64 0, .slice none 0 0, .slice none 0 0, .int .i64 0, .int .i64 0, .slice none 0 0, .slice none 0 0] 29)).alloc (.cells #[.slice none 0 0, .bool false] 49)).alloc (.cells #[.int .i64 0, .int .i64 0, .slice none 0 0, .slice none 0 0, .int .i64 0, .int .i64 0, .slice none 0 0, .slice none 0 0] 29) = w0 := ⟨_, rfl⟩
  rw [hw0] at HB1 HB2 HB3 HB4 k0 z0 ⊢
  have X1_0 := hid HB1
  have X2_0 := hid HB2
  have X3_0 := hid HB3
  have X4_0 := hid HB4
  clear HB1 HB2 HB3 HB4 hw0
  refine (byte1_is t b hx w0 (Nat.le_trans hB k0.size) ut (ht.fore k0 hB)).mono ?_
  rintro _ w1 ⟨A1, c1, rfl, ht1, hb1⟩
  have zb1 := z0
  have X1_1 := hid (X1_0.out.below hb1 (X1_0.out.lt (by simp)))
  clear X1_0
  have X2_1 := hid (X2_0.out.below hb1 (X2_0.out.lt (by simp)))
  clear X2_0
  have X3_1 := hid (X3_0.out.below hb1 (X3_0.out.lt (by simp)))
  clear X3_0
  have X4_1 := hid (X4_0.out.below hb1 (X4_0.out.lt (by simp)))
  clear X4_0
  have k1 := k0.trans (hb1.mono k0.size)
  have z1 : w.heap.size + 4 ≤ w1.heap.size := by have := hb1.size; omega
  clear k0 z0
  clear hb1
  have HT1 := hid (ht1.back k1 hB)
  clear ht1
  obtain ⟨c1_0, c1_1, f1_0, f1_1⟩ := X1_1.out.two
  obtain ⟨⟨c4_0, c4_1, c4_2, c4_3, c4_4, c4_5, c4_6, c4_7⟩, f4_0, f4_1, f4_2, f4_3, f4_4, f4_5, f4_6, f4_7⟩ := X4_1.out.eight
  go_wp2_with fail
  clear c1_0 c1_1 f1_0 f1_1 c4_0 c4_1 c4_2 c4_3 c4_4 c4_5 c4_6 c4_7 f4_0 f4_1 f4_2 f4_3 f4_4 f4_5 f4_6 f4_7
  have Y1 : BoxL (((w1.setCell ⟨w.heap.size + 3, 0, none⟩ (.int .i64 x)).setCell ⟨w.heap.size, 0, none⟩ (.slice A1 t1.length c1)).setCell ⟨w.heap.size, 1, none⟩ (.bool b1)) (w.heap.size) [.slice A1 t1.length c1, .bool b1] := ((X1_1.out.other (p := ⟨w.heap.size + 3, 0, none⟩) (show w.heap.size + 3 ≠ w.heap.size by omega) (.int .i64 x)).set2 (.slice A1 t1.length c1) (.bool b1))
  have Y2 : BoxL (((w1.setCell ⟨w.heap.size + 3, 0, none⟩ (.int .i64 x)).setCell ⟨w.heap.size, 0, none⟩ (.slice A1 t1.length c1)).setCell ⟨w.heap.size, 1, none⟩ (.bool b1)) (w.heap.size + 1) [.int .i64 0, .int .i64 0, .slice none 0 0, .slice none 0 0, .int .i64 0, .int .i64 0, .slice none 0 0, .slice none 0 0] := ((X2_1.out.other (p := ⟨w.heap.size + 3, 0, none⟩) (show w.heap.size + 3 ≠ w.heap.size + 1 by omega) (.int .i64 x)).other2 (show w.heap.size ≠ w.heap.size + 1 by omega) (.slice A1 t1.length c1) (.bool b1))
  have Y3 : BoxL (((w1.setCell ⟨w.heap.size + 3, 0, none⟩ (.int .i64 x)).setCell ⟨w.heap.size, 0, none⟩ (.slice A1 t1.length c1)).setCell ⟨w.heap.size, 1, none⟩ (.bool b1)) (w.heap.size + 2) [.slice none 0 0, .bool false] := ((X3_1.out.other (p := ⟨w.heap.size + 3, 0, none⟩) (show w.heap.size + 3 ≠ w.heap.size + 2 by omega) (.int .i64 x)).other2 (show w.heap.size ≠ w.heap.size + 2 by omega) (.slice A1 t1.length c1) (.bool b1))
  have Y4 : BoxL (((w1.setCell ⟨w.heap.size + 3, 0, none⟩ (.int .i64 x)).setCell ⟨w.heap.size, 0, none⟩ (.slice A1 t1.length c1)).setCell ⟨w.heap.size, 1, none⟩ (.bool b1)) (w.heap.size + 3) [.int .i64 x, .int .i64 0, .slice none 0 0, .slice none 0 0, .int .i64 0, .int .i64 0, .slice none 0 0, .slice none 0 0] := ((X4_1.out.one (k := 0) rfl (.int .i64 x)).other2 (show w.heap.size ≠ w.heap.size + 3 by omega) (.slice A1 t1.length c1) (.bool b1))
  have YK : Below w.heap.size w (((w1.setCell ⟨w.heap.size + 3, 0, none⟩ (.int .i64 x)).setCell ⟨w.heap.size, 0, none⟩ (.slice A1 t1.length c1)).setCell ⟨w.heap.size, 1, none⟩ (.bool b1)) := (set2_below (k1.setCell (p := ⟨w.heap.size + 3, 0, none⟩) (show w.heap.size ≤ w.heap.size + 3 by omega) (.int .i64 x)) (show w.heap.size ≤ w.heap.size by omega) (.slice A1 t1.length c1) (.bool b1))
  have YZ : w.heap.size + 4 ≤ ((((w1.setCell ⟨w.heap.size + 3, 0, none⟩ (.int .i64 x)).setCell ⟨w.heap.size, 0, none⟩ (.slice A1 t1.length c1)).setCell ⟨w.heap.size, 1, none⟩ (.bool b1))).heap.size := by simpa using z1
  clear X1_1 X2_1 X3_1 X4_1 k1 z1
  obtain ⟨w2, hw2⟩ : ∃ wn, (((w1.setCell ⟨w.heap.size + 3, 0, none⟩ (.int .i64 x)).setCell ⟨w.heap.size, 0, none⟩ (.slice A1 t1.length c1)).setCell ⟨w.heap.size, 1, none⟩ (.bool b1)) = wn := ⟨_, rfl⟩
  rw [hw2] at Y1 Y2 Y3 Y4 YK YZ ⊢
  have X1_2 := hid Y1
  have X2_2 := hid Y2
  have X3_2 := hid Y3
  have X4_2 := hid Y4
  have k2 := YK
  have z2 := YZ
  clear hw2 Y1 Y2 Y3 Y4 YK YZ
  refine (number_is 4096 (by decide) (by decide) t1 b1 hn w2 (Nat.le_trans hB k2.size) ut1 (HT1.out.fore k2 hB)).mono ?_
  rintro _ w3 ⟨A2, c2, rfl, ht2, hb3⟩
  have zb3 := z2
  have X1_3 := hid (X1_2.out.below hb3 (X1_2.out.lt (by simp)))
  clear X1_2
  have X2_3 := hid (X2_2.out.below hb3 (X2_2.out.lt (by simp)))
  clear X2_2
  have X3_3 := hid (X3_2.out.below hb3 (X3_2.out.lt (by simp)))
  clear X3_2
  have X4_3 := hid (X4_2.out.below hb3 (X4_2.out.lt (by simp)))
  clear X4_2
  have k3 := k2.trans (hb3.mono k2.size)
  have z3 : w.heap.size + 4 ≤ w3.heap.size := by have := hb3.size; omega
  clear k2 z2
  clear hb3
  have HT2 := hid (ht2.back k3 hB)
  clear ht2 HT1
  obtain ⟨c1_0, c1_1, f1_0, f1_1⟩ := X1_3.out.two
  obtain ⟨⟨c4_0, c4_1, c4_2, c4_3, c4_4, c4_5, c4_6, c4_7⟩, f4_0, f4_1, f4_2, f4_3, f4_4, f4_5, f4_6, f4_7⟩ := X4_3.out.eight
  go_upto_region 4 with fail
  clear c1_0 c1_1 f1_0 f1_1 c4_0 c4_1 c4_2 c4_3 c4_4 c4_5 c4_6 c4_7 f4_0 f4_1 f4_2 f4_3 f4_4 f4_5 f4_6 f4_7
  have Y1 : BoxL (((w3.setCell ⟨w.heap.size + 3, 1, none⟩ (.int .i64 0)).setCell ⟨w.heap.size, 0, none⟩ (.slice A2 t2.length c2)).setCell ⟨w.heap.size, 1, none⟩ (.bool false)) (w.heap.size) [.slice A2 t2.length c2, .bool false] := ((X1_3.out.other (p := ⟨w.heap.size + 3, 1, none⟩) (show w.heap.size + 3 ≠ w.heap.size by omega) (.int .i64 0)).set2 (.slice A2 t2.length c2) (.bool false))
  have Y2 : BoxL (((w3.setCell ⟨w.heap.size + 3, 1, none⟩ (.int .i64 0)).setCell ⟨w.heap.size, 0, none⟩ (.slice A2 t2.length c2)).setCell ⟨w.heap.size, 1, none⟩ (.bool false)) (w.heap.size + 1) [.int .i64 0, .int .i64 0, .slice none 0 0, .slice none 0 0, .int .i64 0, .int .i64 0, .slice none 0 0, .slice none 0 0] := ((X2_3.out.other (p := ⟨w.heap.size + 3, 1, none⟩) (show w.heap.size + 3 ≠ w.heap.size + 1 by omega) (.int .i64 0)).other2 (show w.heap.size ≠ w.heap.size + 1 by omega) (.slice A2 t2.length c2) (.bool false))
  have Y3 : BoxL (((w3.setCell ⟨w.heap.size + 3, 1, none⟩ (.int .i64 0)).setCell ⟨w.heap.size, 0, none⟩ (.slice A2 t2.length c2)).setCell ⟨w.heap.size, 1, none⟩ (.bool false)) (w.heap.size + 2) [.slice none 0 0, .bool false] := ((X3_3.out.other (p := ⟨w.heap.size + 3, 1, none⟩) (show w.heap.size + 3 ≠ w.heap.size + 2 by omega) (.int .i64 0)).other2 (show w.heap.size ≠ w.heap.size + 2 by omega) (.slice A2 t2.length c2) (.bool false))
  have Y4 : BoxL (((w3.setCell ⟨w.heap.size + 3, 1, none⟩ (.int .i64 0)).setCell ⟨w.heap.size, 0, none⟩ (.slice A2 t2.length c2)).setCell ⟨w.heap.size, 1, none⟩ (.bool false)) (w.heap.size + 3) [.int .i64 x, .int .i64 0, .slice none 0 0, .slice none 0 0, .int .i64 0, .int .i64 0, .slice none 0 0, .slice none 0 0] := ((X4_3.out.one (k := 1) rfl (.int .i64 0)).other2 (show w.heap.size ≠ w.heap.size + 3 by omega) (.slice A2 t2.length c2) (.bool false))
  have YK : Below w.heap.size w (((w3.setCell ⟨w.heap.size + 3, 1, none⟩ (.int .i64 0)).setCell ⟨w.heap.size, 0, none⟩ (.slice A2 t2.length c2)).setCell ⟨w.heap.size, 1, none⟩ (.bool false)) := (set2_below (k3.setCell (p := ⟨w.heap.size + 3, 1, none⟩) (show w.heap.size ≤ w.heap.size + 3 by omega) (.int .i64 0)) (show w.heap.size ≤ w.heap.size by omega) (.slice A2 t2.length c2) (.bool false))
  have YZ : w.heap.size + 4 ≤ ((((w3.setCell ⟨w.heap.size + 3, 1, none⟩ (.int .i64 0)).setCell ⟨w.heap.size, 0, none⟩ (.slice A2 t2.length c2)).setCell ⟨w.heap.size, 1, none⟩ (.bool false))).heap.size := by simpa using z3
  clear X1_3 X2_3 X3_3 X4_3 k3 z3
  obtain ⟨w4, hw4⟩ : ∃ wn, (((w3.setCell ⟨w.heap.size + 3, 1, none⟩ (.int .i64 0)).setCell ⟨w.heap.size, 0, none⟩ (.slice A2 t2.length c2)).setCell ⟨w.heap.size, 1, none⟩ (.bool false)) = wn := ⟨_, rfl⟩
  rw [hw4] at Y1 Y2 Y3 Y4 YK YZ ⊢
  have X1_4 := hid Y1
  have X2_4 := hid Y2
  have X3_4 := hid Y3
  have X4_4 := hid Y4
  have k4 := YK
  have z4 := YZ
  clear hw4 Y1 Y2 Y3 Y4 YK YZ
  obtain ⟨c1_0, c1_1, f1_0, f1_1⟩ := X1_4.out.two
  obtain ⟨⟨c4_0, c4_1, c4_2, c4_3, c4_4, c4_5, c4_6, c4_7⟩, f4_0, f4_1, f4_2, f4_3, f4_4, f4_5, f4_6, f4_7⟩ := X4_4.out.eight
  have HTH := hid (box_thr (o := 0) (n := 8) X2_4.out (by simp))
  go_wp2_with (refine wpList_many rfl 29 _ _ rfl (w.heap.size + 1) 0 #[.int .i64 x, .int .i64 0, .slice none 0 0, .slice none 0 0, .int .i64 0, .int .i64 0, .slice none 0 0, .slice none 0 0] rfl rfl HTH.out info_sn (by simp [Value.oneCell']) ?_)
  intro w5 hw5
  have hq5 : w5 = st8 w4 (w.heap.size + 1) (.int .i64 x) (.int .i64 0) (.slice none 0 0) (.slice none 0 0) (.int .i64 0) (.int .i64 0) (.slice none 0 0) (.slice none 0 0) := hw5.out
  have X1_5 : Hid (BoxL w5 (w.heap.size) [.slice A2 t2.length c2, .bool false]) := hid (by rw [hq5]; exact st8_other X1_4.out (by omega))
  clear X1_4
  have X2_5 : Hid (BoxL w5 (w.heap.size + 1) [.int .i64 x, .int .i64 0, .slice none 0 0, .slice none 0 0, .int .i64 0, .int .i64 0, .slice none 0 0, .slice none 0 0]) := hid (by rw [hq5]; exact st8_box X2_4.out)
  clear X2_4
  have X3_5 : Hid (BoxL w5 (w.heap.size + 2) [.slice none 0 0, .bool false]) := hid (by rw [hq5]; exact st8_other X3_4.out (by omega))
  clear X3_4
  have X4_5 : Hid (BoxL w5 (w.heap.size + 3) [.int .i64 x, .int .i64 0, .slice none 0 0, .slice none 0 0, .int .i64 0, .int .i64 0, .slice none 0 0, .slice none 0 0]) := hid (by rw [hq5]; exact st8_other X4_4.out (by omega))
  clear X4_4
  have k5 : Below w.heap.size w w5 := by rw [hq5]; exact st8_below k4 (by omega)
  have z5 : w.heap.size + 4 ≤ w5.heap.size := by rw [hq5]; simpa [st8] using z4
  clear k4 z4 hw5 hq5 HTH
  clear c1_0 c1_1 f1_0 f1_1 c4_0 f4_0 c4_1 f4_1 c4_2 f4_2 c4_3 f4_3 c4_4 f4_4 c4_5 f4_5 c4_6 f4_6 c4_7 f4_7
  obtain ⟨c3_0, c3_1, f3_0, f3_1⟩ := X3_5.out.two
  go_wp2_with fail
  clear c3_0 c3_1 f3_0 f3_1
  have Y1 : BoxL ((w5.setCell ⟨w.heap.size + 2, 0, none⟩ (.slice none 0 0)).setCell ⟨w.heap.size + 2, 1, none⟩ (.bool true)) (w.heap.size) [.slice A2 t2.length c2, .bool false] := (X1_5.out.other2 (show w.heap.size + 2 ≠ w.heap.size by omega) (.slice none 0 0) (.bool true))
  have Y2 : BoxL ((w5.setCell ⟨w.heap.size + 2, 0, none⟩ (.slice none 0 0)).setCell ⟨w.heap.size + 2, 1, none⟩ (.bool true)) (w.heap.size + 1) [.int .i64 x, .int .i64 0, .slice none 0 0, .slice none 0 0, .int .i64 0, .int .i64 0, .slice none 0 0, .slice none 0 0] := (X2_5.out.other2 (show w.heap.size + 2 ≠ w.heap.size + 1 by omega) (.slice none 0 0) (.bool true))
  have Y3 : BoxL ((w5.setCell ⟨w.heap.size + 2, 0, none⟩ (.slice none 0 0)).setCell ⟨w.heap.size + 2, 1, none⟩ (.bool true)) (w.heap.size + 2) [.slice none 0 0, .bool true] := (X3_5.out.set2 (.slice none 0 0) (.bool true))
  have Y4 : BoxL ((w5.setCell ⟨w.heap.size + 2, 0, none⟩ (.slice none 0 0)).setCell ⟨w.heap.size + 2, 1, none⟩ (.bool true)) (w.heap.size + 3) [.int .i64 x, .int .i64 0, .slice none 0 0, .slice none 0 0, .int .i64 0, .int .i64 0, .slice none 0 0, .slice none 0 0] := (X4_5.out.other2 (show w.heap.size + 2 ≠ w.heap.size + 3 by omega) (.slice none 0 0) (.bool true))
  have YK : Below w.heap.size w ((w5.setCell ⟨w.heap.size + 2, 0, none⟩ (.slice none 0 0)).setCell ⟨w.heap.size + 2, 1, none⟩ (.bool true)) := (set2_below k5 (show w.heap.size ≤ w.heap.size + 2 by omega) (.slice none 0 0) (.bool true))
  have YZ : w.heap.size + 4 ≤ (((w5.setCell ⟨w.heap.size + 2, 0, none⟩ (.slice none 0 0)).setCell ⟨w.heap.size + 2, 1, none⟩ (.bool true))).heap.size := by simpa using z5
  clear X1_5 X2_5 X3_5 X4_5 k5 z5
  obtain ⟨w6, hw6⟩ : ∃ wn, ((w5.setCell ⟨w.heap.size + 2, 0, none⟩ (.slice none 0 0)).setCell ⟨w.heap.size + 2, 1, none⟩ (.bool true)) = wn := ⟨_, rfl⟩
  rw [hw6] at Y1 Y2 Y3 Y4 YK YZ ⊢
  have X1_6 := hid Y1
  have X2_6 := hid Y2
  have X3_6 := hid Y3
  have X4_6 := hid Y4
  have k6 := YK
  have z6 := YZ
  clear hw6 Y1 Y2 Y3 Y4 YK YZ
  obtain ⟨⟨c2_0, c2_1, c2_2, c2_3, c2_4, c2_5, c2_6, c2_7⟩, f2_0, f2_1, f2_2, f2_3, f2_4, f2_5, f2_6, f2_7⟩ := X2_6.out.eight
  obtain ⟨c3_0, c3_1, f3_0, f3_1⟩ := X3_6.out.two
  refine bodyPost_ret (v := .tuple #[.agg #[.int .i64 x, .int .i64 0, .slice none 0 0, .slice none 0 0, .int .i64 0, .int .i64 0, .slice none 0 0, .slice none 0 0], .agg #[.slice none 0 0, .bool true]]) (by simp [results, Tryz.results18, go_sem, c2_0, c2_1, c2_2, c2_3, c2_4, c2_5, c2_6, c2_7, c3_0, c3_1]) rfl ⟨⟨none, 0, none, 0, none, 0, none, 0⟩, none, 0, rfl, TxP.nil _ _, ⟨RdF.nil _ _, RdF.nil _ _, RdF.nil _ _, RdF.nil _ _⟩, k6⟩
theorem sent_1 {A : Option Addr} {c B : Nat} (t : List Int) (b : Bool) (hl : t.length ≤ 70000) (w : World) (hB : B ≤ w.heap.size) (ut : U8s t) (ht : TxP w B t A c)  {x : Int} {N : Nat} {t1 t2 : List Int} {b1 : Bool} (hx : by1 (t, b) = (x, t1, b1)) (ut1 : U8s t1) (hn : num1 4096 (t1, b1) = ((N : Int), t2, false)) (hN1 : 1 ≤ N) (hN4 : N ≤ 4096) (ut2 : U8s t2) (h0 : x = 1) {L : List Int} {a E : Int} (hg : gixR (N : Int) t2 0 = (L, a, E)) (hE : E ≠ 0) :
    Calls Tryz.prog 18 #[.agg #[.slice A t.length c, .bool b]] w (OwnSn B (⟨1, (N : Int), [], [], 0, 0, [], []⟩, badT) w) := by
  subst h0
  have gE : (E != 0) = true := by simpa using hE
  have hnz : ((N : Int) == 0) = false := by simp; omega
  obtain ⟨HB1, HB2, HB3, HB4, k0, z0⟩ := boxes4 w [.slice A t.length c, .bool b] [.int .i64 0, .int .i64 0, .slice none 0 0, .slice none 0 0, .int .i64 0, .int .i64 0, .slice none 0 0, .slice none 0 0] [.slice none 0 0, .bool false] [.int .i64 0, .int .i64 0, .slice none 0 0, .slice none 0 0, .int .i64 0, .int .i64 0, .slice none 0 0, .slice none 0 0] 49 29 49 29 _ rfl
  go_enter Tryz.func18, Tryz.ntmps18
  go_wp2_with fail
  obtain ⟨w0, hw0⟩ : ∃ w0, (((w.alloc (.cells #[.slice A t.length c, .bool b] 49)).alloc (.cells #[.int .i64 0, .int .i64 0, .slice none 0 0, .slice none 0 0, .int .i64 0, .int .i64 0, .slice none 0 0, .slice none 0 0] 29)).alloc (.cells #[.slice none 0 0, .bool false] 49)).alloc (.cells #[.int .i64 0, .int .i64 0, .slice none 0 0, .slice none 0 0, .int .i64 0, .int .i64 0, .slice none 0 0, .slice none 0 0] 29) = w0 := ⟨_, rfl⟩
  rw [hw0] at HB1 HB2 HB3 HB4 k0 z0 ⊢
  have X1_0 := hid HB1
  have X2_0 := hid HB2
  have X3_0 := hid HB3
  have X4_0 := hid HB4
  clear HB1 HB2 HB3 HB4 hw0
  refine (byte1_is t b hx w0 (Nat.le_trans hB k0.size) ut (ht.fore k0 hB)).mono ?_
  rintro _ w1 ⟨A1, c1, rfl, ht1, hb1⟩
  have zb1 := z0
  have X1_1 := hid (X1_0.out.below hb1 (X1_0.out.lt (by simp)))
  clear X1_0
  have X2_1 := hid (X2_0.out.below hb1 (X2_0.out.lt (by simp)))
  clear X2_0
  have X3_1 := hid (X3_0.out.below hb1 (X3_0.out.lt (by simp)))
  clear X3_0
  have X4_1 := hid (X4_0.out.below hb1 (X4_0.out.lt (by simp)))
  clear X4_0
  have k1 := k0.trans (hb1.mono k0.size)
  have z1 : w.heap.size + 4 ≤ w1.heap.size := by have := hb1.size; omega
  clear k0 z0
  clear hb1
  have HT1 := hid (ht1.back k1 hB)
  clear ht1
  obtain ⟨c1_0, c1_1, f1_0, f1_1⟩ := X1_1.out.two
  obtain ⟨⟨c4_0, c4_1, c4_2, c4_3, c4_4, c4_5, c4_6, c4_7⟩, f4_0, f4_1, f4_2, f4_3, f4_4, f4_5, f4_6, f4_7⟩ := X4_1.out.eight
  go_wp2_with fail
  clear c1_0 c1_1 f1_0 f1_1 c4_0 c4_1 c4_2 c4_3 c4_4 c4_5 c4_6 c4_7 f4_0 f4_1 f4_2 f4_3 f4_4 f4_5 f4_6 f4_7
  have Y1 : BoxL (((w1.setCell ⟨w.heap.size + 3, 0, none⟩ (.int .i64 1)).setCell ⟨w.heap.size, 0, none⟩ (.slice A1 t1.length c1)).setCell ⟨w.heap.size, 1, none⟩ (.bool b1)) (w.heap.size) [.slice A1 t1.length c1, .bool b1] := ((X1_1.out.other (p := ⟨w.heap.size + 3, 0, none⟩) (show w.heap.size + 3 ≠ w.heap.size by omega) (.int .i64 1)).set2 (.slice A1 t1.length c1) (.bool b1))
  have Y2 : BoxL (((w1.setCell ⟨w.heap.size + 3, 0, none⟩ (.int .i64 1)).setCell ⟨w.heap.size, 0, none⟩ (.slice A1 t1.length c1)).setCell ⟨w.heap.size, 1, none⟩ (.bool b1)) (w.heap.size + 1) [.int .i64 0, .int .i64 0, .slice none 0 0, .slice none 0 0, .int .i64 0, .int .i64 0, .slice none 0 0, .slice none 0 0] := ((X2_1.out.other (p := ⟨w.heap.size + 3, 0, none⟩) (show w.heap.size + 3 ≠ w.heap.size + 1 by omega) (.int .i64 1)).other2 (show w.heap.size ≠ w.heap.size + 1 by omega) (.slice A1 t1.length c1) (.bool b1))
  have Y3 : BoxL (((w1.setCell ⟨w.heap.size + 3, 0, none⟩ (.int .i64 1)).setCell ⟨w.heap.size, 0, none⟩ (.slice A1 t1.length c1)).setCell ⟨w.heap.size, 1, none⟩ (.bool b1)) (w.heap.size + 2) [.slice none 0 0, .bool false] := ((X3_1.out.other (p := ⟨w.heap.size + 3, 0, none⟩) (show w.heap.size + 3 ≠ w.heap.size + 2 by omega) (.int .i64 1)).other2 (show w.heap.size ≠ w.heap.size + 2 by omega) (.slice A1 t1.length c1) (.bool b1))
  have Y4 : BoxL (((w1.setCell ⟨w.heap.size + 3, 0, none⟩ (.int .i64 1)).setCell ⟨w.heap.size, 0, none⟩ (.slice A1 t1.length c1)).setCell ⟨w.heap.size, 1, none⟩ (.bool b1)) (w.heap.size + 3) [.int .i64 1, .int .i64 0, .slice none 0 0, .slice none 0 0, .int .i64 0, .int .i64 0, .slice none 0 0, .slice none 0 0] := ((X4_1.out.one (k := 0) rfl (.int .i64 1)).other2 (show w.heap.size ≠ w.heap.size + 3 by omega) (.slice A1 t1.length c1) (.bool b1))
  have YK : Below w.heap.size w (((w1.setCell ⟨w.heap.size + 3, 0, none⟩ (.int .i64 1)).setCell ⟨w.heap.size, 0, none⟩ (.slice A1 t1.length c1)).setCell ⟨w.heap.size, 1, none⟩ (.bool b1)) := (set2_below (k1.setCell (p := ⟨w.heap.size + 3, 0, none⟩) (show w.heap.size ≤ w.heap.size + 3 by omega) (.int .i64 1)) (show w.heap.size ≤ w.heap.size by omega) (.slice A1 t1.length c1) (.bool b1))
  have YZ : w.heap.size + 4 ≤ ((((w1.setCell ⟨w.heap.size + 3, 0, none⟩ (.int .i64 1)).setCell ⟨w.heap.size, 0, none⟩ (.slice A1 t1.length c1)).setCell ⟨w.heap.size, 1, none⟩ (.bool b1))).heap.size := by simpa using z1
  clear X1_1 X2_1 X3_1 X4_1 k1 z1
  obtain ⟨w2, hw2⟩ : ∃ wn, (((w1.setCell ⟨w.heap.size + 3, 0, none⟩ (.int .i64 1)).setCell ⟨w.heap.size, 0, none⟩ (.slice A1 t1.length c1)).setCell ⟨w.heap.size, 1, none⟩ (.bool b1)) = wn := ⟨_, rfl⟩
  rw [hw2] at Y1 Y2 Y3 Y4 YK YZ ⊢
  have X1_2 := hid Y1
  have X2_2 := hid Y2
  have X3_2 := hid Y3
  have X4_2 := hid Y4
  have k2 := YK
  have z2 := YZ
  clear hw2 Y1 Y2 Y3 Y4 YK YZ
  refine (number_is 4096 (by decide) (by decide) t1 b1 hn w2 (Nat.le_trans hB k2.size) ut1 (HT1.out.fore k2 hB)).mono ?_
  rintro _ w3 ⟨A2, c2, rfl, ht2, hb3⟩
  have zb3 := z2
  have X1_3 := hid (X1_2.out.below hb3 (X1_2.out.lt (by simp)))
  clear X1_2
  have X2_3 := hid (X2_2.out.below hb3 (X2_2.out.lt (by simp)))
  clear X2_2
  have X3_3 := hid (X3_2.out.below hb3 (X3_2.out.lt (by simp)))
  clear X3_2
  have X4_3 := hid (X4_2.out.below hb3 (X4_2.out.lt (by simp)))
  clear X4_2
  have k3 := k2.trans (hb3.mono k2.size)
  have z3 : w.heap.size + 4 ≤ w3.heap.size := by have := hb3.size; omega
  clear k2 z2
  clear hb3
  have HT2 := hid (ht2.back k3 hB)
  clear ht2 HT1
  obtain ⟨c1_0, c1_1, f1_0, f1_1⟩ := X1_3.out.two
  obtain ⟨⟨c4_0, c4_1, c4_2, c4_3, c4_4, c4_5, c4_6, c4_7⟩, f4_0, f4_1, f4_2, f4_3, f4_4, f4_5, f4_6, f4_7⟩ := X4_3.out.eight
  go_upto_region 4 with fail
  clear c1_0 c1_1 f1_0 f1_1 c4_0 c4_1 c4_2 c4_3 c4_4 c4_5 c4_6 c4_7 f4_0 f4_1 f4_2 f4_3 f4_4 f4_5 f4_6 f4_7
  have Y1 : BoxL (((w3.setCell ⟨w.heap.size + 3, 1, none⟩ (.int .i64 (N : Int))).setCell ⟨w.heap.size, 0, none⟩ (.slice A2 t2.length c2)).setCell ⟨w.heap.size, 1, none⟩ (.bool false)) (w.heap.size) [.slice A2 t2.length c2, .bool false] := ((X1_3.out.other (p := ⟨w.heap.size + 3, 1, none⟩) (show w.heap.size + 3 ≠ w.heap.size by omega) (.int .i64 (N : Int))).set2 (.slice A2 t2.length c2) (.bool false))
  have Y2 : BoxL (((w3.setCell ⟨w.heap.size + 3, 1, none⟩ (.int .i64 (N : Int))).setCell ⟨w.heap.size, 0, none⟩ (.slice A2 t2.length c2)).setCell ⟨w.heap.size, 1, none⟩ (.bool false)) (w.heap.size + 1) [.int .i64 0, .int .i64 0, .slice none 0 0, .slice none 0 0, .int .i64 0, .int .i64 0, .slice none 0 0, .slice none 0 0] := ((X2_3.out.other (p := ⟨w.heap.size + 3, 1, none⟩) (show w.heap.size + 3 ≠ w.heap.size + 1 by omega) (.int .i64 (N : Int))).other2 (show w.heap.size ≠ w.heap.size + 1 by omega) (.slice A2 t2.length c2) (.bool false))
  have Y3 : BoxL (((w3.setCell ⟨w.heap.size + 3, 1, none⟩ (.int .i64 (N : Int))).setCell ⟨w.heap.size, 0, none⟩ (.slice A2 t2.length c2)).setCell ⟨w.heap.size, 1, none⟩ (.bool false)) (w.heap.size + 2) [.slice none 0 0, .bool false] := ((X3_3.out.other (p := ⟨w.heap.size + 3, 1, none⟩) (show w.heap.size + 3 ≠ w.heap.size + 2 by omega) (.int .i64 (N : Int))).other2 (show w.heap.size ≠ w.heap.size + 2 by omega) (.slice A2 t2.length c2) (.bool false))
  have Y4 : BoxL (((w3.setCell ⟨w.heap.size + 3, 1, none⟩ (.int .i64 (N : Int))).setCell ⟨w.heap.size, 0, none⟩ (.slice A2 t2.length c2)).setCell ⟨w.heap.size, 1, none⟩ (.bool false)) (w.heap.size + 3) [.int .i64 1, .int .i64 (N : Int), .slice none 0 0, .slice none 0 0, .int .i64 0, .int .i64 0, .slice none 0 0, .slice none 0 0] := ((X4_3.out.one (k := 1) rfl (.int .i64 (N : Int))).other2 (show w.heap.size ≠ w.heap.size + 3 by omega) (.slice A2 t2.length c2) (.bool false))
  have YK : Below w.heap.size w (((w3.setCell ⟨w.heap.size + 3, 1, none⟩ (.int .i64 (N : Int))).setCell ⟨w.heap.size, 0, none⟩ (.slice A2 t2.length c2)).setCell ⟨w.heap.size, 1, none⟩ (.bool false)) := (set2_below (k3.setCell (p := ⟨w.heap.size + 3, 1, none⟩) (show w.heap.size ≤ w.heap.size + 3 by omega) (.int .i64 (N : Int))) (show w.heap.size ≤ w.heap.size by omega) (.slice A2 t2.length c2) (.bool false))
  have YZ : w.heap.size + 4 ≤ ((((w3.setCell ⟨w.heap.size + 3, 1, none⟩ (.int .i64 (N : Int))).setCell ⟨w.heap.size, 0, none⟩ (.slice A2 t2.length c2)).setCell ⟨w.heap.size, 1, none⟩ (.bool false))).heap.size := by simpa using z3
  clear X1_3 X2_3 X3_3 X4_3 k3 z3
  obtain ⟨w4, hw4⟩ : ∃ wn, (((w3.setCell ⟨w.heap.size + 3, 1, none⟩ (.int .i64 (N : Int))).setCell ⟨w.heap.size, 0, none⟩ (.slice A2 t2.length c2)).setCell ⟨w.heap.size, 1, none⟩ (.bool false)) = wn := ⟨_, rfl⟩
  rw [hw4] at Y1 Y2 Y3 Y4 YK YZ ⊢
  have X1_4 := hid Y1
  have X2_4 := hid Y2
  have X3_4 := hid Y3
  have X4_4 := hid Y4
  have k4 := YK
  have z4 := YZ
  clear hw4 Y1 Y2 Y3 Y4 YK YZ
  obtain ⟨c1_0, c1_1, f1_0, f1_1⟩ := X1_4.out.two
  obtain ⟨⟨c4_0, c4_1, c4_2, c4_3, c4_4, c4_5, c4_6, c4_7⟩, f4_0, f4_1, f4_2, f4_3, f4_4, f4_5, f4_6, f4_7⟩ := X4_4.out.eight
  go_wp2_with fail
  clear c1_0 c1_1 f1_0 f1_1 c4_0 c4_1 c4_2 c4_3 c4_4 c4_5 c4_6 c4_7 f4_0 f4_1 f4_2 f4_3 f4_4 f4_5 f4_6 f4_7
  refine (get_is (N : Int) t2 hg (by unfold I64; omega) HT2.out.2.1 HT2.out.2.2 ut2 w4 ((HT2.out.fore k4 hB).1.more (by omega))).mono ?_
  rintro _ w5 ⟨AL, cL, rfl, hv, hb5⟩
  have zb5 := z4
  have X1_5 := hid (X1_4.out.below hb5 (X1_4.out.lt (by simp)))
  clear X1_4
  have X2_5 := hid (X2_4.out.below hb5 (X2_4.out.lt (by simp)))
  clear X2_4
  have X3_5 := hid (X3_4.out.below hb5 (X3_4.out.lt (by simp)))
  clear X3_4
  have X4_5 := hid (X4_4.out.below hb5 (X4_4.out.lt (by simp)))
  clear X4_4
  have k5 := k4.trans (hb5.mono k4.size)
  have z5 : w.heap.size + 4 ≤ w5.heap.size := by have := hb5.size; omega
  clear k4 z4
  clear hb5
  clear hv
  obtain ⟨⟨c4_0, c4_1, c4_2, c4_3, c4_4, c4_5, c4_6, c4_7⟩, f4_0, f4_1, f4_2, f4_3, f4_4, f4_5, f4_6, f4_7⟩ := X4_5.out.eight
  have HTH := hid (box_thr (o := 0) (n := 8) X2_5.out (by simp))
  go_wp2_with (refine wpList_many rfl 29 _ _ rfl (w.heap.size + 1) 0 #[.int .i64 1, .int .i64 (N : Int), .slice none 0 0, .slice none 0 0, .int .i64 0, .int .i64 0, .slice none 0 0, .slice none 0 0] rfl rfl HTH.out info_sn (by simp [Value.oneCell']) ?_)
  intro w6 hw6
  have hq6 : w6 = st8 w5 (w.heap.size + 1) (.int .i64 1) (.int .i64 (N : Int)) (.slice none 0 0) (.slice none 0 0) (.int .i64 0) (.int .i64 0) (.slice none 0 0) (.slice none 0 0) := hw6.out
  have X1_6 : Hid (BoxL w6 (w.heap.size) [.slice A2 t2.length c2, .bool false]) := hid (by rw [hq6]; exact st8_other X1_5.out (by omega))
  clear X1_5
  have X2_6 : Hid (BoxL w6 (w.heap.size + 1) [.int .i64 1, .int .i64 (N : Int), .slice none 0 0, .slice none 0 0, .int .i64 0, .int .i64 0, .slice none 0 0, .slice none 0 0]) := hid (by rw [hq6]; exact st8_box X2_5.out)
  clear X2_5
  have X3_6 : Hid (BoxL w6 (w.heap.size + 2) [.slice none 0 0, .bool false]) := hid (by rw [hq6]; exact st8_other X3_5.out (by omega))
  clear X3_5
  have X4_6 : Hid (BoxL w6 (w.heap.size + 3) [.int .i64 1, .int .i64 (N : Int), .slice none 0 0, .slice none 0 0, .int .i64 0, .int .i64 0, .slice none 0 0, .slice none 0 0]) := hid (by rw [hq6]; exact st8_other X4_5.out (by omega))
  clear X4_5
  have k6 : Below w.heap.size w w6 := by rw [hq6]; exact st8_below k5 (by omega)
  have z6 : w.heap.size + 4 ≤ w6.heap.size := by rw [hq6]; simpa [st8] using z5
  clear k5 z5 hw6 hq6 HTH
  clear c4_0 f4_0 c4_1 f4_1 c4_2 f4_2 c4_3 f4_3 c4_4 f4_4 c4_5 f4_5 c4_6 f4_6 c4_7 f4_7
  obtain ⟨c3_0, c3_1, f3_0, f3_1⟩ := X3_6.out.two
  go_wp2_with fail
  clear c3_0 c3_1 f3_0 f3_1
  have Y1 : BoxL ((w6.setCell ⟨w.heap.size + 2, 0, none⟩ (.slice none 0 0)).setCell ⟨w.heap.size + 2, 1, none⟩ (.bool true)) (w.heap.size) [.slice A2 t2.length c2, .bool false] := (X1_6.out.other2 (show w.heap.size + 2 ≠ w.heap.size by omega) (.slice none 0 0) (.bool true))
  have Y2 : BoxL ((w6.setCell ⟨w.heap.size + 2, 0, none⟩ (.slice none 0 0)).setCell ⟨w.heap.size + 2, 1, none⟩ (.bool true)) (w.heap.size + 1) [.int .i64 1, .int .i64 (N : Int), .slice none 0 0, .slice none 0 0, .int .i64 0, .int .i64 0, .slice none 0 0, .slice none 0 0] := (X2_6.out.other2 (show w.heap.size + 2 ≠ w.heap.size + 1 by omega) (.slice none 0 0) (.bool true))
  have Y3 : BoxL ((w6.setCell ⟨w.heap.size + 2, 0, none⟩ (.slice none 0 0)).setCell ⟨w.heap.size + 2, 1, none⟩ (.bool true)) (w.heap.size + 2) [.slice none 0 0, .bool true] := (X3_6.out.set2 (.slice none 0 0) (.bool true))
  have Y4 : BoxL ((w6.setCell ⟨w.heap.size + 2, 0, none⟩ (.slice none 0 0)).setCell ⟨w.heap.size + 2, 1, none⟩ (.bool true)) (w.heap.size + 3) [.int .i64 1, .int .i64 (N : Int), .slice none 0 0, .slice none 0 0, .int .i64 0, .int .i64 0, .slice none 0 0, .slice none 0 0] := (X4_6.out.other2 (show w.heap.size + 2 ≠ w.heap.size + 3 by omega) (.slice none 0 0) (.bool true))
  have YK : Below w.heap.size w ((w6.setCell ⟨w.heap.size + 2, 0, none⟩ (.slice none 0 0)).setCell ⟨w.heap.size + 2, 1, none⟩ (.bool true)) := (set2_below k6 (show w.heap.size ≤ w.heap.size + 2 by omega) (.slice none 0 0) (.bool true))
  have YZ : w.heap.size + 4 ≤ (((w6.setCell ⟨w.heap.size + 2, 0, none⟩ (.slice none 0 0)).setCell ⟨w.heap.size + 2, 1, none⟩ (.bool true))).heap.size := by simpa using z6
  clear X1_6 X2_6 X3_6 X4_6 k6 z6
  obtain ⟨w7, hw7⟩ : ∃ wn, ((w6.setCell ⟨w.heap.size + 2, 0, none⟩ (.slice none 0 0)).setCell ⟨w.heap.size + 2, 1, none⟩ (.bool true)) = wn := ⟨_, rfl⟩
  rw [hw7] at Y1 Y2 Y3 Y4 YK YZ ⊢
  have X1_7 := hid Y1
  have X2_7 := hid Y2
  have X3_7 := hid Y3
  have X4_7 := hid Y4
  have k7 := YK
  have z7 := YZ
  clear hw7 Y1 Y2 Y3 Y4 YK YZ
  obtain ⟨⟨c2_0, c2_1, c2_2, c2_3, c2_4, c2_5, c2_6, c2_7⟩, f2_0, f2_1, f2_2, f2_3, f2_4, f2_5, f2_6, f2_7⟩ := X2_7.out.eight
  obtain ⟨c3_0, c3_1, f3_0, f3_1⟩ := X3_7.out.two
  refine bodyPost_ret (v := .tuple #[.agg #[.int .i64 1, .int .i64 (N : Int), .slice none 0 0, .slice none 0 0, .int .i64 0, .int .i64 0, .slice none 0 0, .slice none 0 0], .agg #[.slice none 0 0, .bool true]]) (by simp [results, Tryz.results18, go_sem, c2_0, c2_1, c2_2, c2_3, c2_4, c2_5, c2_6, c2_7, c3_0, c3_1]) rfl ⟨⟨none, 0, none, 0, none, 0, none, 0⟩, none, 0, rfl, TxP.nil _ _, ⟨RdF.nil _ _, RdF.nil _ _, RdF.nil _ _, RdF.nil _ _⟩, k7⟩
theorem sent_3 {A : Option Addr} {c B : Nat} (t : List Int) (b : Bool) (hl : t.length ≤ 70000) (w : World) (hB : B ≤ w.heap.size) (ut : U8s t) (ht : TxP w B t A c)  {x : Int} {N : Nat} {t1 t2 : List Int} {b1 : Bool} (hx : by1 (t, b) = (x, t1, b1)) (ut1 : U8s t1) (hn : num1 4096 (t1, b1) = ((N : Int), t2, false)) (hN1 : 1 ≤ N) (hN4 : N ≤ 4096) (ut2 : U8s t2) (h0 : x = 0) {V t3 : List Int} {b3 : Bool} (hs : sgd1 N [] (t2, false) = (V, t3, b3)) :
    Calls Tryz.prog 18 #[.agg #[.slice A t.length c, .bool b]] w (OwnSn B (⟨0, (N : Int), [], V, 0, 0, [], []⟩, (t3, b3)) w) := by
  subst h0
  have hnz : ((N : Int) == 0) = false := by simp; omega
  obtain ⟨HB1, HB2, HB3, HB4, k0, z0⟩ := boxes4 w [.slice A t.length c, .bool b] [.int .i64 0, .int .i64 0, .slice none 0 0, .slice none 0 0, .int .i64 0, .int .i64 0, .slice none 0 0, .slice none 0 0] [.slice none 0 0, .bool false] [.int .i64 0, .int .i64 0, .slice none 0 0, .slice none 0 0, .int .i64 0, .int .i64 0, .slice none 0 0, .slice none 0 0] 49 29 49 29 _ rfl
  go_enter Tryz.func18, Tryz.ntmps18
  go_wp2_with fail
  obtain ⟨w0, hw0⟩ : ∃ w0, (((w.alloc (.cells #[.slice A t.length c, .bool b] 49)).alloc (.cells #[.int .i64 0, .int .i64 0, .slice none 0 0, .slice none 0 0, .int .i64 0, .int .i64 0, .slice none 0 0, .slice none 0 0] 29)).alloc (.cells #[.slice none 0 0, .bool false] 49)).alloc (.cells #[.int .i64 0, .int .i64 0, .slice none 0 0, .slice none 0 0, .int .i64 0, .int .i64 0, .slice none 0 0, .slice none 0 0] 29) = w0 := ⟨_, rfl⟩
  rw [hw0] at HB1 HB2 HB3 HB4 k0 z0 ⊢
  have X1_0 := hid HB1
  have X2_0 := hid HB2
  have X3_0 := hid HB3
  have X4_0 := hid HB4
  clear HB1 HB2 HB3 HB4 hw0
  refine (byte1_is t b hx w0 (Nat.le_trans hB k0.size) ut (ht.fore k0 hB)).mono ?_
  rintro _ w1 ⟨A1, c1, rfl, ht1, hb1⟩
  have zb1 := z0
  have X1_1 := hid (X1_0.out.below hb1 (X1_0.out.lt (by simp)))
  clear X1_0
  have X2_1 := hid (X2_0.out.below hb1 (X2_0.out.lt (by simp)))
  clear X2_0
  have X3_1 := hid (X3_0.out.below hb1 (X3_0.out.lt (by simp)))
  clear X3_0
  have X4_1 := hid (X4_0.out.below hb1 (X4_0.out.lt (by simp)))
  clear X4_0
  have k1 := k0.trans (hb1.mono k0.size)
  have z1 : w.heap.size + 4 ≤ w1.heap.size := by have := hb1.size; omega
  clear k0 z0
  clear hb1
  have HT1 := hid (ht1.back k1 hB)
  clear ht1
  obtain ⟨c1_0, c1_1, f1_0, f1_1⟩ := X1_1.out.two
  obtain ⟨⟨c4_0, c4_1, c4_2, c4_3, c4_4, c4_5, c4_6, c4_7⟩, f4_0, f4_1, f4_2, f4_3, f4_4, f4_5, f4_6, f4_7⟩ := X4_1.out.eight
  go_wp2_with fail
  clear c1_0 c1_1 f1_0 f1_1 c4_0 c4_1 c4_2 c4_3 c4_4 c4_5 c4_6 c4_7 f4_0 f4_1 f4_2 f4_3 f4_4 f4_5 f4_6 f4_7
  have Y1 : BoxL (((w1.setCell ⟨w.heap.size + 3, 0, none⟩ (.int .i64 0)).setCell ⟨w.heap.size, 0, none⟩ (.slice A1 t1.length c1)).setCell ⟨w.heap.size, 1, none⟩ (.bool b1)) (w.heap.size) [.slice A1 t1.length c1, .bool b1] := ((X1_1.out.other (p := ⟨w.heap.size + 3, 0, none⟩) (show w.heap.size + 3 ≠ w.heap.size by omega) (.int .i64 0)).set2 (.slice A1 t1.length c1) (.bool b1))
  have Y2 : BoxL (((w1.setCell ⟨w.heap.size + 3, 0, none⟩ (.int .i64 0)).setCell ⟨w.heap.size, 0, none⟩ (.slice A1 t1.length c1)).setCell ⟨w.heap.size, 1, none⟩ (.bool b1)) (w.heap.size + 1) [.int .i64 0, .int .i64 0, .slice none 0 0, .slice none 0 0, .int .i64 0, .int .i64 0, .slice none 0 0, .slice none 0 0] := ((X2_1.out.other (p := ⟨w.heap.size + 3, 0, none⟩) (show w.heap.size + 3 ≠ w.heap.size + 1 by omega) (.int .i64 0)).other2 (show w.heap.size ≠ w.heap.size + 1 by omega) (.slice A1 t1.length c1) (.bool b1))
  have Y3 : BoxL (((w1.setCell ⟨w.heap.size + 3, 0, none⟩ (.int .i64 0)).setCell ⟨w.heap.size, 0, none⟩ (.slice A1 t1.length c1)).setCell ⟨w.heap.size, 1, none⟩ (.bool b1)) (w.heap.size + 2) [.slice none 0 0, .bool false] := ((X3_1.out.other (p := ⟨w.heap.size + 3, 0, none⟩) (show w.heap.size + 3 ≠ w.heap.size + 2 by omega) (.int .i64 0)).other2 (show w.heap.size ≠ w.heap.size + 2 by omega) (.slice A1 t1.length c1) (.bool b1))
  have Y4 : BoxL (((w1.setCell ⟨w.heap.size + 3, 0, none⟩ (.int .i64 0)).setCell ⟨w.heap.size, 0, none⟩ (.slice A1 t1.length c1)).setCell ⟨w.heap.size, 1, none⟩ (.bool b1)) (w.heap.size + 3) [.int .i64 0, .int .i64 0, .slice none 0 0, .slice none 0 0, .int .i64 0, .int .i64 0, .slice none 0 0, .slice none 0 0] := ((X4_1.out.one (k := 0) rfl (.int .i64 0)).other2 (show w.heap.size ≠ w.heap.size + 3 by omega) (.slice A1 t1.length c1) (.bool b1))
  have YK : Below w.heap.size w (((w1.setCell ⟨w.heap.size + 3, 0, none⟩ (.int .i64 0)).setCell ⟨w.heap.size, 0, none⟩ (.slice A1 t1.length c1)).setCell ⟨w.heap.size, 1, none⟩ (.bool b1)) := (set2_below (k1.setCell (p := ⟨w.heap.size + 3, 0, none⟩) (show w.heap.size ≤ w.heap.size + 3 by omega) (.int .i64 0)) (show w.heap.size ≤ w.heap.size by omega) (.slice A1 t1.length c1) (.bool b1))
  have YZ : w.heap.size + 4 ≤ ((((w1.setCell ⟨w.heap.size + 3, 0, none⟩ (.int .i64 0)).setCell ⟨w.heap.size, 0, none⟩ (.slice A1 t1.length c1)).setCell ⟨w.heap.size, 1, none⟩ (.bool b1))).heap.size := by simpa using z1
  clear X1_1 X2_1 X3_1 X4_1 k1 z1
  obtain ⟨w2, hw2⟩ : ∃ wn, (((w1.setCell ⟨w.heap.size + 3, 0, none⟩ (.int .i64 0)).setCell ⟨w.heap.size, 0, none⟩ (.slice A1 t1.length c1)).setCell ⟨w.heap.size, 1, none⟩ (.bool b1)) = wn := ⟨_, rfl⟩
  rw [hw2] at Y1 Y2 Y3 Y4 YK YZ ⊢
  have X1_2 := hid Y1
  have X2_2 := hid Y2
  have X3_2 := hid Y3
  have X4_2 := hid Y4
  have k2 := YK
  have z2 := YZ
  clear hw2 Y1 Y2 Y3 Y4 YK YZ
  refine (number_is 4096 (by decide) (by decide) t1 b1 hn w2 (Nat.le_trans hB k2.size) ut1 (HT1.out.fore k2 hB)).mono ?_
  rintro _ w3 ⟨A2, c2, rfl, ht2, hb3⟩
  have zb3 := z2
  have X1_3 := hid (X1_2.out.below hb3 (X1_2.out.lt (by simp)))
  clear X1_2
  have X2_3 := hid (X2_2.out.below hb3 (X2_2.out.lt (by simp)))
  clear X2_2
  have X3_3 := hid (X3_2.out.below hb3 (X3_2.out.lt (by simp)))
  clear X3_2
  have X4_3 := hid (X4_2.out.below hb3 (X4_2.out.lt (by simp)))
  clear X4_2
  have k3 := k2.trans (hb3.mono k2.size)
  have z3 : w.heap.size + 4 ≤ w3.heap.size := by have := hb3.size; omega
  clear k2 z2
  clear hb3
  have HT2 := hid (ht2.back k3 hB)
  clear ht2 HT1
  obtain ⟨c1_0, c1_1, f1_0, f1_1⟩ := X1_3.out.two
  obtain ⟨⟨c4_0, c4_1, c4_2, c4_3, c4_4, c4_5, c4_6, c4_7⟩, f4_0, f4_1, f4_2, f4_3, f4_4, f4_5, f4_6, f4_7⟩ := X4_3.out.eight
  go_upto_region 4 with fail
  clear c1_0 c1_1 f1_0 f1_1 c4_0 c4_1 c4_2 c4_3 c4_4 c4_5 c4_6 c4_7 f4_0 f4_1 f4_2 f4_3 f4_4 f4_5 f4_6 f4_7
  have Y1 : BoxL (((w3.setCell ⟨w.heap.size + 3, 1, none⟩ (.int .i64 (N : Int))).setCell ⟨w.heap.size, 0, none⟩ (.slice A2 t2.length c2)).setCell ⟨w.heap.size, 1, none⟩ (.bool false)) (w.heap.size) [.slice A2 t2.length c2, .bool false] := ((X1_3.out.other (p := ⟨w.heap.size + 3, 1, none⟩) (show w.heap.size + 3 ≠ w.heap.size by omega) (.int .i64 (N : Int))).set2 (.slice A2 t2.length c2) (.bool false))
  have Y2 : BoxL (((w3.setCell ⟨w.heap.size + 3, 1, none⟩ (.int .i64 (N : Int))).setCell ⟨w.heap.size, 0, none⟩ (.slice A2 t2.length c2)).setCell ⟨w.heap.size, 1, none⟩ (.bool false)) (w.heap.size + 1) [.int .i64 0, .int .i64 0, .slice none 0 0, .slice none 0 0, .int .i64 0, .int .i64 0, .slice none 0 0, .slice none 0 0] := ((X2_3.out.other (p := ⟨w.heap.size + 3, 1, none⟩) (show w.heap.size + 3 ≠ w.heap.size + 1 by omega) (.int .i64 (N : Int))).other2 (show w.heap.size ≠ w.heap.size + 1 by omega) (.slice A2 t2.length c2) (.bool false))
  have Y3 : BoxL (((w3.setCell ⟨w.heap.size + 3, 1, none⟩ (.int .i64 (N : Int))).setCell ⟨w.heap.size, 0, none⟩ (.slice A2 t2.length c2)).setCell ⟨w.heap.size, 1, none⟩ (.bool false)) (w.heap.size + 2) [.slice none 0 0, .bool false] := ((X3_3.out.other (p := ⟨w.heap.size + 3, 1, none⟩) (show w.heap.size + 3 ≠ w.heap.size + 2 by omega) (.int .i64 (N : Int))).other2 (show w.heap.size ≠ w.heap.size + 2 by omega) (.slice A2 t2.length c2) (.bool false))
  have Y4 : BoxL (((w3.setCell ⟨w.heap.size + 3, 1, none⟩ (.int .i64 (N : Int))).setCell ⟨w.heap.size, 0, none⟩ (.slice A2 t2.length c2)).setCell ⟨w.heap.size, 1, none⟩ (.bool false)) (w.heap.size + 3) [.int .i64 0, .int .i64 (N : Int), .slice none 0 0, .slice none 0 0, .int .i64 0, .int .i64 0, .slice none 0 0, .slice none 0 0] := ((X4_3.out.one (k := 1) rfl (.int .i64 (N : Int))).other2 (show w.heap.size ≠ w.heap.size + 3 by omega) (.slice A2 t2.length c2) (.bool false))
  have YK : Below w.heap.size w (((w3.setCell ⟨w.heap.size + 3, 1, none⟩ (.int .i64 (N : Int))).setCell ⟨w.heap.size, 0, none⟩ (.slice A2 t2.length c2)).setCell ⟨w.heap.size, 1, none⟩ (.bool false)) := (set2_below (k3.setCell (p := ⟨w.heap.size + 3, 1, none⟩) (show w.heap.size ≤ w.heap.size + 3 by omega) (.int .i64 (N : Int))) (show w.heap.size ≤ w.heap.size by omega) (.slice A2 t2.length c2) (.bool false))
  have YZ : w.heap.size + 4 ≤ ((((w3.setCell ⟨w.heap.size + 3, 1, none⟩ (.int .i64 (N : Int))).setCell ⟨w.heap.size, 0, none⟩ (.slice A2 t2.length c2)).setCell ⟨w.heap.size, 1, none⟩ (.bool false))).heap.size := by simpa using z3
  clear X1_3 X2_3 X3_3 X4_3 k3 z3
  obtain ⟨w4, hw4⟩ : ∃ wn, (((w3.setCell ⟨w.heap.size + 3, 1, none⟩ (.int .i64 (N : Int))).setCell ⟨w.heap.size, 0, none⟩ (.slice A2 t2.length c2)).setCell ⟨w.heap.size, 1, none⟩ (.bool false)) = wn := ⟨_, rfl⟩
  rw [hw4] at Y1 Y2 Y3 Y4 YK YZ ⊢
  have X1_4 := hid Y1
  have X2_4 := hid Y2
  have X3_4 := hid Y3
  have X4_4 := hid Y4
  have k4 := YK
  have z4 := YZ
  clear hw4 Y1 Y2 Y3 Y4 YK YZ
  obtain ⟨c1_0, c1_1, f1_0, f1_1⟩ := X1_4.out.two
  obtain ⟨⟨c4_0, c4_1, c4_2, c4_3, c4_4, c4_5, c4_6, c4_7⟩, f4_0, f4_1, f4_2, f4_3, f4_4, f4_5, f4_6, f4_7⟩ := X4_4.out.eight
  go_wp2_with fail
  clear c1_0 c1_1 f1_0 f1_1 c4_0 c4_1 c4_2 c4_3 c4_4 c4_5 c4_6 c4_7 f4_0 f4_1 f4_2 f4_3 f4_4 f4_5 f4_6 f4_7
  refine (signed_is N (by omega) t2 false hs w4 (Nat.le_trans hB k4.size) ut2 (HT2.out.fore k4 hB)).mono ?_
  rintro _ w5 ⟨A3, c3, AV, cV, rfl, hv, ht3, hb5⟩
  have zb5 := z4
  have X1_5 := hid (X1_4.out.below hb5 (X1_4.out.lt (by simp)))
  clear X1_4
  have X2_5 := hid (X2_4.out.below hb5 (X2_4.out.lt (by simp)))
  clear X2_4
  have X3_5 := hid (X3_4.out.below hb5 (X3_4.out.lt (by simp)))
  clear X3_4
  have X4_5 := hid (X4_4.out.below hb5 (X4_4.out.lt (by simp)))
  clear X4_4
  have k5 := k4.trans (hb5.mono k4.size)
  have z5 : w.heap.size + 4 ≤ w5.heap.size := by have := hb5.size; omega
  clear k4 z4
  clear hb5
  have HT3 := hid (ht3.back k5 hB)
  clear ht3 HT2
  have HOV_5 := hid (own_base hv zb5)
  clear hv
  obtain ⟨c1_0, c1_1, f1_0, f1_1⟩ := X1_5.out.two
  obtain ⟨⟨c4_0, c4_1, c4_2, c4_3, c4_4, c4_5, c4_6, c4_7⟩, f4_0, f4_1, f4_2, f4_3, f4_4, f4_5, f4_6, f4_7⟩ := X4_5.out.eight
  go_upto_region 16 with fail
  clear c1_0 c1_1 f1_0 f1_1 c4_0 c4_1 c4_2 c4_3 c4_4 c4_5 c4_6 c4_7 f4_0 f4_1 f4_2 f4_3 f4_4 f4_5 f4_6 f4_7
  have Y1 : BoxL (((w5.setCell ⟨w.heap.size + 3, 3, none⟩ (.slice AV V.length cV)).setCell ⟨w.heap.size, 0, none⟩ (.slice A3 t3.length c3)).setCell ⟨w.heap.size, 1, none⟩ (.bool b3)) (w.heap.size) [.slice A3 t3.length c3, .bool b3] := ((X1_5.out.other (p := ⟨w.heap.size + 3, 3, none⟩) (show w.heap.size + 3 ≠ w.heap.size by omega) (.slice AV V.length cV)).set2 (.slice A3 t3.length c3) (.bool b3))
  have Y2 : BoxL (((w5.setCell ⟨w.heap.size + 3, 3, none⟩ (.slice AV V.length cV)).setCell ⟨w.heap.size, 0, none⟩ (.slice A3 t3.length c3)).setCell ⟨w.heap.size, 1, none⟩ (.bool b3)) (w.heap.size + 1) [.int .i64 0, .int .i64 0, .slice none 0 0, .slice none 0 0, .int .i64 0, .int .i64 0, .slice none 0 0, .slice none 0 0] := ((X2_5.out.other (p := ⟨w.heap.size + 3, 3, none⟩) (show w.heap.size + 3 ≠ w.heap.size + 1 by omega) (.slice AV V.length cV)).other2 (show w.heap.size ≠ w.heap.size + 1 by omega) (.slice A3 t3.length c3) (.bool b3))
  have Y3 : BoxL (((w5.setCell ⟨w.heap.size + 3, 3, none⟩ (.slice AV V.length cV)).setCell ⟨w.heap.size, 0, none⟩ (.slice A3 t3.length c3)).setCell ⟨w.heap.size, 1, none⟩ (.bool b3)) (w.heap.size + 2) [.slice none 0 0, .bool false] := ((X3_5.out.other (p := ⟨w.heap.size + 3, 3, none⟩) (show w.heap.size + 3 ≠ w.heap.size + 2 by omega) (.slice AV V.length cV)).other2 (show w.heap.size ≠ w.heap.size + 2 by omega) (.slice A3 t3.length c3) (.bool b3))
  have Y4 : BoxL (((w5.setCell ⟨w.heap.size + 3, 3, none⟩ (.slice AV V.length cV)).setCell ⟨w.heap.size, 0, none⟩ (.slice A3 t3.length c3)).setCell ⟨w.heap.size, 1, none⟩ (.bool b3)) (w.heap.size + 3) [.int .i64 0, .int .i64 (N : Int), .slice none 0 0, .slice AV V.length cV, .int .i64 0, .int .i64 0, .slice none 0 0, .slice none 0 0] := ((X4_5.out.one (k := 3) rfl (.slice AV V.length cV)).other2 (show w.heap.size ≠ w.heap.size + 3 by omega) (.slice A3 t3.length c3) (.bool b3))
  have YO0 := (set2_own (own_set HOV_5.out (p := ⟨w.heap.size + 3, 3, none⟩) (show w.heap.size + 3 < w.heap.size + 4 by omega) (.slice AV V.length cV)) (show w.heap.size < w.heap.size + 4 by omega) (.slice A3 t3.length c3) (.bool b3))
  have YK : Below w.heap.size w (((w5.setCell ⟨w.heap.size + 3, 3, none⟩ (.slice AV V.length cV)).setCell ⟨w.heap.size, 0, none⟩ (.slice A3 t3.length c3)).setCell ⟨w.heap.size, 1, none⟩ (.bool b3)) := (set2_below (k5.setCell (p := ⟨w.heap.size + 3, 3, none⟩) (show w.heap.size ≤ w.heap.size + 3 by omega) (.slice AV V.length cV)) (show w.heap.size ≤ w.heap.size by omega) (.slice A3 t3.length c3) (.bool b3))
  have YZ : w.heap.size + 4 ≤ ((((w5.setCell ⟨w.heap.size + 3, 3, none⟩ (.slice AV V.length cV)).setCell ⟨w.heap.size, 0, none⟩ (.slice A3 t3.length c3)).setCell ⟨w.heap.size, 1, none⟩ (.bool b3))).heap.size := by simpa using z5
  clear X1_5 X2_5 X3_5 X4_5 HOV_5 k5 z5
  obtain ⟨w6, hw6⟩ : ∃ wn, (((w5.setCell ⟨w.heap.size + 3, 3, none⟩ (.slice AV V.length cV)).setCell ⟨w.heap.size, 0, none⟩ (.slice A3 t3.length c3)).setCell ⟨w.heap.size, 1, none⟩ (.bool b3)) = wn := ⟨_, rfl⟩
  rw [hw6] at Y1 Y2 Y3 Y4 YO0 YK YZ ⊢
  have X1_6 := hid Y1
  have X2_6 := hid Y2
  have X3_6 := hid Y3
  have X4_6 := hid Y4
  have HOV_6 := hid YO0
  have k6 := YK
  have z6 := YZ
  clear hw6 Y1 Y2 Y3 Y4 YO0 YK YZ
  obtain ⟨c1_0, c1_1, f1_0, f1_1⟩ := X1_6.out.two
  obtain ⟨⟨c2_0, c2_1, c2_2, c2_3, c2_4, c2_5, c2_6, c2_7⟩, f2_0, f2_1, f2_2, f2_3, f2_4, f2_5, f2_6, f2_7⟩ := X2_6.out.eight
  obtain ⟨c3_0, c3_1, f3_0, f3_1⟩ := X3_6.out.two
  obtain ⟨⟨c4_0, c4_1, c4_2, c4_3, c4_4, c4_5, c4_6, c4_7⟩, f4_0, f4_1, f4_2, f4_3, f4_4, f4_5, f4_6, f4_7⟩ := X4_6.out.eight
  go_region
  clear c1_0 c1_1 f1_0 f1_1 c2_0 c2_1 c2_2 c2_3 c2_4 c2_5 c2_6 c2_7 f2_0 f2_1 f2_2 f2_3 f2_4 f2_5 f2_6 f2_7 c3_0 c3_1 f3_0 f3_1 c4_0 c4_1 c4_2 c4_3 c4_4 c4_5 c4_6 c4_7 f4_0 f4_1 f4_2 f4_3 f4_4 f4_5 f4_6 f4_7
  have Y1 : BoxL ((((((((((w6.setCell ⟨w.heap.size + 1, 0, none⟩ (.int .i64 0)).setCell ⟨w.heap.size + 1, 1, none⟩ (.int .i64 (N : Int))).setCell ⟨w.heap.size + 1, 2, none⟩ (.slice none 0 0)).setCell ⟨w.heap.size + 1, 3, none⟩ (.slice AV V.length cV)).setCell ⟨w.heap.size + 1, 4, none⟩ (.int .i64 0)).setCell ⟨w.heap.size + 1, 5, none⟩ (.int .i64 0)).setCell ⟨w.heap.size + 1, 6, none⟩ (.slice none 0 0)).setCell ⟨w.heap.size + 1, 7, none⟩ (.slice none 0 0)).setCell ⟨w.heap.size + 2, 0, none⟩ (.slice A3 t3.length c3)).setCell ⟨w.heap.size + 2, 1, none⟩ (.bool b3)) (w.heap.size) [.slice A3 t3.length c3, .bool b3] := (((((((((X1_6.out.other (p := ⟨w.heap.size + 1, 0, none⟩) (show w.heap.size + 1 ≠ w.heap.size by omega) (.int .i64 0)).other (p := ⟨w.heap.size + 1, 1, none⟩) (show w.heap.size + 1 ≠ w.heap.size by omega) (.int .i64 (N : Int))).other (p := ⟨w.heap.size + 1, 2, none⟩) (show w.heap.size + 1 ≠ w.heap.size by omega) (.slice none 0 0)).other (p := ⟨w.heap.size + 1, 3, none⟩) (show w.heap.size + 1 ≠ w.heap.size by omega) (.slice AV V.length cV)).other (p := ⟨w.heap.size + 1, 4, none⟩) (show w.heap.size + 1 ≠ w.heap.size by omega) (.int .i64 0)).other (p := ⟨w.heap.size + 1, 5, none⟩) (show w.heap.size + 1 ≠ w.heap.size by omega) (.int .i64 0)).other (p := ⟨w.heap.size + 1, 6, none⟩) (show w.heap.size + 1 ≠ w.heap.size by omega) (.slice none 0 0)).other (p := ⟨w.heap.size + 1, 7, none⟩) (show w.heap.size + 1 ≠ w.heap.size by omega) (.slice none 0 0)).other2 (show w.heap.size + 2 ≠ w.heap.size by omega) (.slice A3 t3.length c3) (.bool b3))
  have Y2 : BoxL ((((((((((w6.setCell ⟨w.heap.size + 1, 0, none⟩ (.int .i64 0)).setCell ⟨w.heap.size + 1, 1, none⟩ (.int .i64 (N : Int))).setCell ⟨w.heap.size + 1, 2, none⟩ (.slice none 0 0)).setCell ⟨w.heap.size + 1, 3, none⟩ (.slice AV V.length cV)).setCell ⟨w.heap.size + 1, 4, none⟩ (.int .i64 0)).setCell ⟨w.heap.size + 1, 5, none⟩ (.int .i64 0)).setCell ⟨w.heap.size + 1, 6, none⟩ (.slice none 0 0)).setCell ⟨w.heap.size + 1, 7, none⟩ (.slice none 0 0)).setCell ⟨w.heap.size + 2, 0, none⟩ (.slice A3 t3.length c3)).setCell ⟨w.heap.size + 2, 1, none⟩ (.bool b3)) (w.heap.size + 1) [.int .i64 0, .int .i64 (N : Int), .slice none 0 0, .slice AV V.length cV, .int .i64 0, .int .i64 0, .slice none 0 0, .slice none 0 0] := (((((((((X2_6.out.one (k := 0) rfl (.int .i64 0)).one (k := 1) rfl (.int .i64 (N : Int))).one (k := 2) rfl (.slice none 0 0)).one (k := 3) rfl (.slice AV V.length cV)).one (k := 4) rfl (.int .i64 0)).one (k := 5) rfl (.int .i64 0)).one (k := 6) rfl (.slice none 0 0)).one (k := 7) rfl (.slice none 0 0)).other2 (show w.heap.size + 2 ≠ w.heap.size + 1 by omega) (.slice A3 t3.length c3) (.bool b3))
  have Y3 : BoxL ((((((((((w6.setCell ⟨w.heap.size + 1, 0, none⟩ (.int .i64 0)).setCell ⟨w.heap.size + 1, 1, none⟩ (.int .i64 (N : Int))).setCell ⟨w.heap.size + 1, 2, none⟩ (.slice none 0 0)).setCell ⟨w.heap.size + 1, 3, none⟩ (.slice AV V.length cV)).setCell ⟨w.heap.size + 1, 4, none⟩ (.int .i64 0)).setCell ⟨w.heap.size + 1, 5, none⟩ (.int .i64 0)).setCell ⟨w.heap.size + 1, 6, none⟩ (.slice none 0 0)).setCell ⟨w.heap.size + 1, 7, none⟩ (.slice none 0 0)).setCell ⟨w.heap.size + 2, 0, none⟩ (.slice A3 t3.length c3)).setCell ⟨w.heap.size + 2, 1, none⟩ (.bool b3)) (w.heap.size + 2) [.slice A3 t3.length c3, .bool b3] := (((((((((X3_6.out.other (p := ⟨w.heap.size + 1, 0, none⟩) (show w.heap.size + 1 ≠ w.heap.size + 2 by omega) (.int .i64 0)).other (p := ⟨w.heap.size + 1, 1, none⟩) (show w.heap.size + 1 ≠ w.heap.size + 2 by omega) (.int .i64 (N : Int))).other (p := ⟨w.heap.size + 1, 2, none⟩) (show w.heap.size + 1 ≠ w.heap.size + 2 by omega) (.slice none 0 0)).other (p := ⟨w.heap.size + 1, 3, none⟩) (show w.heap.size + 1 ≠ w.heap.size + 2 by omega) (.slice AV V.length cV)).other (p := ⟨w.heap.size + 1, 4, none⟩) (show w.heap.size + 1 ≠ w.heap.size + 2 by omega) (.int .i64 0)).other (p := ⟨w.heap.size + 1, 5, none⟩) (show w.heap.size + 1 ≠ w.heap.size + 2 by omega) (.int .i64 0)).other (p := ⟨w.heap.size + 1, 6, none⟩) (show w.heap.size + 1 ≠ w.heap.size + 2 by omega) (.slice none 0 0)).other (p := ⟨w.heap.size + 1, 7, none⟩) (show w.heap.size + 1 ≠ w.heap.size + 2 by omega) (.slice none 0 0)).set2 (.slice A3 t3.length c3) (.bool b3))
  have Y4 : BoxL ((((((((((w6.setCell ⟨w.heap.size + 1, 0, none⟩ (.int .i64 0)).setCell ⟨w.heap.size + 1, 1, none⟩ (.int .i64 (N : Int))).setCell ⟨w.heap.size + 1, 2, none⟩ (.slice none 0 0)).setCell ⟨w.heap.size + 1, 3, none⟩ (.slice AV V.length cV)).setCell ⟨w.heap.size + 1, 4, none⟩ (.int .i64 0)).setCell ⟨w.heap.size + 1, 5, none⟩ (.int .i64 0)).setCell ⟨w.heap.size + 1, 6, none⟩ (.slice none 0 0)).setCell ⟨w.heap.size + 1, 7, none⟩ (.slice none 0 0)).setCell ⟨w.heap.size + 2, 0, none⟩ (.slice A3 t3.length c3)).setCell ⟨w.heap.size + 2, 1, none⟩ (.bool b3)) (w.heap.size + 3) [.int .i64 0, .int .i64 (N : Int), .slice none 0 0, .slice AV V.length cV, .int .i64 0, .int .i64 0, .slice none 0 0, .slice none 0 0] := (((((((((X4_6.out.other (p := ⟨w.heap.size + 1, 0, none⟩) (show w.heap.size + 1 ≠ w.heap.size + 3 by omega) (.int .i64 0)).other (p := ⟨w.heap.size + 1, 1, none⟩) (show w.heap.size + 1 ≠ w.heap.size + 3 by omega) (.int .i64 (N : Int))).other (p := ⟨w.heap.size + 1, 2, none⟩) (show w.heap.size + 1 ≠ w.heap.size + 3 by omega) (.slice none 0 0)).other (p := ⟨w.heap.size + 1, 3, none⟩) (show w.heap.size + 1 ≠ w.heap.size + 3 by omega) (.slice AV V.length cV)).other (p := ⟨w.heap.size + 1, 4, none⟩) (show w.heap.size + 1 ≠ w.heap.size + 3 by omega) (.int .i64 0)).other (p := ⟨w.heap.size + 1, 5, none⟩) (show w.heap.size + 1 ≠ w.heap.size + 3 by omega) (.int .i64 0)).other (p := ⟨w.heap.size + 1, 6, none⟩) (show w.heap.size + 1 ≠ w.heap.size + 3 by omega) (.slice none 0 0)).other (p := ⟨w.heap.size + 1, 7, none⟩) (show w.heap.size + 1 ≠ w.heap.size + 3 by omega) (.slice none 0 0)).other2 (show w.heap.size + 2 ≠ w.heap.size + 3 by omega) (.slice A3 t3.length c3) (.bool b3))
  have YO0 := (set2_own (own_set (own_set (own_set (own_set (own_set (own_set (own_set (own_set HOV_6.out (p := ⟨w.heap.size + 1, 0, none⟩) (show w.heap.size + 1 < w.heap.size + 4 by omega) (.int .i64 0)) (p := ⟨w.heap.size + 1, 1, none⟩) (show w.heap.size + 1 < w.heap.size + 4 by omega) (.int .i64 (N : Int))) (p := ⟨w.heap.size + 1, 2, none⟩) (show w.heap.size + 1 < w.heap.size + 4 by omega) (.slice none 0 0)) (p := ⟨w.heap.size + 1, 3, none⟩) (show w.heap.size + 1 < w.heap.size + 4 by omega) (.slice AV V.length cV)) (p := ⟨w.heap.size + 1, 4, none⟩) (show w.heap.size + 1 < w.heap.size + 4 by omega) (.int .i64 0)) (p := ⟨w.heap.size + 1, 5, none⟩) (show w.heap.size + 1 < w.heap.size + 4 by omega) (.int .i64 0)) (p := ⟨w.heap.size + 1, 6, none⟩) (show w.heap.size + 1 < w.heap.size + 4 by omega) (.slice none 0 0)) (p := ⟨w.heap.size + 1, 7, none⟩) (show w.heap.size + 1 < w.heap.size + 4 by omega) (.slice none 0 0)) (show w.heap.size + 2 < w.heap.size + 4 by omega) (.slice A3 t3.length c3) (.bool b3))
  have YK : Below w.heap.size w ((((((((((w6.setCell ⟨w.heap.size + 1, 0, none⟩ (.int .i64 0)).setCell ⟨w.heap.size + 1, 1, none⟩ (.int .i64 (N : Int))).setCell ⟨w.heap.size + 1, 2, none⟩ (.slice none 0 0)).setCell ⟨w.heap.size + 1, 3, none⟩ (.slice AV V.length cV)).setCell ⟨w.heap.size + 1, 4, none⟩ (.int .i64 0)).setCell ⟨w.heap.size + 1, 5, none⟩ (.int .i64 0)).setCell ⟨w.heap.size + 1, 6, none⟩ (.slice none 0 0)).setCell ⟨w.heap.size + 1, 7, none⟩ (.slice none 0 0)).setCell ⟨w.heap.size + 2, 0, none⟩ (.slice A3 t3.length c3)).setCell ⟨w.heap.size + 2, 1, none⟩ (.bool b3)) := (set2_below ((((((((k6.setCell (p := ⟨w.heap.size + 1, 0, none⟩) (show w.heap.size ≤ w.heap.size + 1 by omega) (.int .i64 0)).setCell (p := ⟨w.heap.size + 1, 1, none⟩) (show w.heap.size ≤ w.heap.size + 1 by omega) (.int .i64 (N : Int))).setCell (p := ⟨w.heap.size + 1, 2, none⟩) (show w.heap.size ≤ w.heap.size + 1 by omega) (.slice none 0 0)).setCell (p := ⟨w.heap.size + 1, 3, none⟩) (show w.heap.size ≤ w.heap.size + 1 by omega) (.slice AV V.length cV)).setCell (p := ⟨w.heap.size + 1, 4, none⟩) (show w.heap.size ≤ w.heap.size + 1 by omega) (.int .i64 0)).setCell (p := ⟨w.heap.size + 1, 5, none⟩) (show w.heap.size ≤ w.heap.size + 1 by omega) (.int .i64 0)).setCell (p := ⟨w.heap.size + 1, 6, none⟩) (show w.heap.size ≤ w.heap.size + 1 by omega) (.slice none 0 0)).setCell (p := ⟨w.heap.size + 1, 7, none⟩) (show w.heap.size ≤ w.heap.size + 1 by omega) (.slice none 0 0)) (show w.heap.size ≤ w.heap.size + 2 by omega) (.slice A3 t3.length c3) (.bool b3))
  have YZ : w.heap.size + 4 ≤ (((((((((((w6.setCell ⟨w.heap.size + 1, 0, none⟩ (.int .i64 0)).setCell ⟨w.heap.size + 1, 1, none⟩ (.int .i64 (N : Int))).setCell ⟨w.heap.size + 1, 2, none⟩ (.slice none 0 0)).setCell ⟨w.heap.size + 1, 3, none⟩ (.slice AV V.length cV)).setCell ⟨w.heap.size + 1, 4, none⟩ (.int .i64 0)).setCell ⟨w.heap.size + 1, 5, none⟩ (.int .i64 0)).setCell ⟨w.heap.size + 1, 6, none⟩ (.slice none 0 0)).setCell ⟨w.heap.size + 1, 7, none⟩ (.slice none 0 0)).setCell ⟨w.heap.size + 2, 0, none⟩ (.slice A3 t3.length c3)).setCell ⟨w.heap.size + 2, 1, none⟩ (.bool b3))).heap.size := by simpa using z6
  clear X1_6 X2_6 X3_6 X4_6 HOV_6 k6 z6
  obtain ⟨w7, hw7⟩ : ∃ wn, ((((((((((w6.setCell ⟨w.heap.size + 1, 0, none⟩ (.int .i64 0)).setCell ⟨w.heap.size + 1, 1, none⟩ (.int .i64 (N : Int))).setCell ⟨w.heap.size + 1, 2, none⟩ (.slice none 0 0)).setCell ⟨w.heap.size + 1, 3, none⟩ (.slice AV V.length cV)).setCell ⟨w.heap.size + 1, 4, none⟩ (.int .i64 0)).setCell ⟨w.heap.size + 1, 5, none⟩ (.int .i64 0)).setCell ⟨w.heap.size + 1, 6, none⟩ (.slice none 0 0)).setCell ⟨w.heap.size + 1, 7, none⟩ (.slice none 0 0)).setCell ⟨w.heap.size + 2, 0, none⟩ (.slice A3 t3.length c3)).setCell ⟨w.heap.size + 2, 1, none⟩ (.bool b3)) = wn := ⟨_, rfl⟩
  rw [hw7] at Y1 Y2 Y3 Y4 YO0 YK YZ ⊢
  have X1_7 := hid Y1
  have X2_7 := hid Y2
  have X3_7 := hid Y3
  have X4_7 := hid Y4
  have HOV_7 := hid YO0
  have k7 := YK
  have z7 := YZ
  clear hw7 Y1 Y2 Y3 Y4 YO0 YK YZ
  have hb8 : Below w7.heap.size w7 w7.drew := (Below.refl _ _).drew
  obtain ⟨w8, hw8⟩ : ∃ wn, w7.drew = wn := ⟨_, rfl⟩
  rw [hw8] at hb8 ⊢
  clear hw8
  have X1_8 := hid (X1_7.out.below hb8 (X1_7.out.lt (by simp)))
  clear X1_7
  have X2_8 := hid (X2_7.out.below hb8 (X2_7.out.lt (by simp)))
  clear X2_7
  have X3_8 := hid (X3_7.out.below hb8 (X3_7.out.lt (by simp)))
  clear X3_7
  have X4_8 := hid (X4_7.out.below hb8 (X4_7.out.lt (by simp)))
  clear X4_7
  have HOV_8 := hid (own_on HOV_7.out hb8)
  clear HOV_7
  have k8 := k7.trans (hb8.mono k7.size)
  have z8 : w.heap.size + 4 ≤ w8.heap.size := by have := hb8.size; omega
  clear k7 z7
  clear hb8
  obtain ⟨⟨c2_0, c2_1, c2_2, c2_3, c2_4, c2_5, c2_6, c2_7⟩, f2_0, f2_1, f2_2, f2_3, f2_4, f2_5, f2_6, f2_7⟩ := X2_8.out.eight
  obtain ⟨c3_0, c3_1, f3_0, f3_1⟩ := X3_8.out.two
  go_wp2_with fail
  refine bodyPost_ret (v := .tuple #[.agg #[.int .i64 0, .int .i64 (N : Int), .slice none 0 0, .slice AV V.length cV, .int .i64 0, .int .i64 0, .slice none 0 0, .slice none 0 0], .agg #[.slice A3 t3.length c3, .bool b3]]) (by simp [results, Tryz.results18, go_sem, c2_0, c2_1, c2_2, c2_3, c2_4, c2_5, c2_6, c2_7, c3_0, c3_1]) rfl ⟨⟨none, 0, AV, cV, none, 0, none, 0⟩, A3, c3, rfl, HT3.out.fore k8 hB, ⟨RdF.nil _ _, (RdF.of_own HOV_8.out).less (by omega), RdF.nil _ _, RdF.nil _ _⟩, k8⟩
theorem sent_4a {A : Option Addr} {c B : Nat} (t : List Int) (b : Bool) (hl : t.length ≤ 70000) (w : World) (hB : B ≤ w.heap.size) (ut : U8s t) (ht : TxP w B t A c)  {x : Int} {N : Nat} {t1 t2 : List Int} {b1 : Bool} (hx : by1 (t, b) = (x, t1, b1)) (ut1 : U8s t1) (hn : num1 4096 (t1, b1) = ((N : Int), t2, false)) (hN1 : 1 ≤ N) (hN4 : N ≤ 4096) (ut2 : U8s t2) (h0 : x = 2) {sc : Int} {t3 : List Int} {b3 : Bool} (hsc : num1 9223372036854775807 (t2, false) = (sc, t3, b3)) (ut3 : U8s t3) {t4 : List Int} {b4 : Bool} {wd : Int} (hwd : by1 (t3, b3) = (wd, t4, b4)) (hw1 : wd < 1) :
    Calls Tryz.prog 18 #[.agg #[.slice A t.length c, .bool b]] w (OwnSn B (⟨2, (N : Int), [], [], sc, wd, [], []⟩, badT) w) := by
  subst h0
  have hnz : ((N : Int) == 0) = false := by simp; omega
  obtain ⟨HB1, HB2, HB3, HB4, k0, z0⟩ := boxes4 w [.slice A t.length c, .bool b] [.int .i64 0, .int .i64 0, .slice none 0 0, .slice none 0 0, .int .i64 0, .int .i64 0, .slice none 0 0, .slice none 0 0] [.slice none 0 0, .bool false] [.int .i64 0, .int .i64 0, .slice none 0 0, .slice none 0 0, .int .i64 0, .int .i64 0, .slice none 0 0, .slice none 0 0] 49 29 49 29 _ rfl
  go_enter Tryz.func18, Tryz.ntmps18
  go_wp2_with fail
  obtain ⟨w0, hw0⟩ : ∃ w0, (((w.alloc (.cells #[.slice A t.length c, .bool b] 49)).alloc (.cells #[.int .i64 0, .int .i64 0, .slice none 0 0, .slice none 0 0, .int .i64 0, .int .i64 0, .slice none 0 0, .slice none 0 0] 29)).alloc (.cells #[.slice none 0 0, .bool false] 49)).alloc (.cells #[.int .i64 0, .int .i64 0, .slice none 0 0, .slice none 0 0, .int .i64 0, .int .i64 0, .slice none 0 0, .slice none 0 0] 29) = w0 := ⟨_, rfl⟩
  rw [hw0] at HB1 HB2 HB3 HB4 k0 z0 ⊢
  have X1_0 := hid HB1
  have X2_0 := hid HB2
  have X3_0 := hid HB3
  have X4_0 := hid HB4
  clear HB1 HB2 HB3 HB4 hw0
  refine (byte1_is t b hx w0 (Nat.le_trans hB k0.size) ut (ht.fore k0 hB)).mono ?_
  rintro _ w1 ⟨A1, c1, rfl, ht1, hb1⟩
  have zb1 := z0
  have X1_1 := hid (X1_0.out.below hb1 (X1_0.out.lt (by simp)))
  clear X1_0
  have X2_1 := hid (X2_0.out.below hb1 (X2_0.out.lt (by simp)))
  clear X2_0
  have X3_1 := hid (X3_0.out.below hb1 (X3_0.out.lt (by simp)))
  clear X3_0
  have X4_1 := hid (X4_0.out.below hb1 (X4_0.out.lt (by simp)))
  clear X4_0
  have k1 := k0.trans (hb1.mono k0.size)
  have z1 : w.heap.size + 4 ≤ w1.heap.size := by have := hb1.size; omega
  clear k0 z0
  clear hb1
  have HT1 := hid (ht1.back k1 hB)
  clear ht1
  obtain ⟨c1_0, c1_1, f1_0, f1_1⟩ := X1_1.out.two
  obtain ⟨⟨c4_0, c4_1, c4_2, c4_3, c4_4, c4_5, c4_6, c4_7⟩, f4_0, f4_1, f4_2, f4_3, f4_4, f4_5, f4_6, f4_7⟩ := X4_1.out.eight
  go_wp2_with fail
  clear c1_0 c1_1 f1_0 f1_1 c4_0 c4_1 c4_2 c4_3 c4_4 c4_5 c4_6 c4_7 f4_0 f4_1 f4_2 f4_3 f4_4 f4_5 f4_6 f4_7
  have Y1 : BoxL (((w1.setCell ⟨w.heap.size + 3, 0, none⟩ (.int .i64 2)).setCell ⟨w.heap.size, 0, none⟩ (.slice A1 t1.length c1)).setCell ⟨w.heap.size, 1, none⟩ (.bool b1)) (w.heap.size) [.slice A1 t1.length c1, .bool b1] := ((X1_1.out.other (p := ⟨w.heap.size + 3, 0, none⟩) (show w.heap.size + 3 ≠ w.heap.size by omega) (.int .i64 2)).set2 (.slice A1 t1.length c1) (.bool b1))
  have Y2 : BoxL (((w1.setCell ⟨w.heap.size + 3, 0, none⟩ (.int .i64 2)).setCell ⟨w.heap.size, 0, none⟩ (.slice A1 t1.length c1)).setCell ⟨w.heap.size, 1, none⟩ (.bool b1)) (w.heap.size + 1) [.int .i64 0, .int .i64 0, .slice none 0 0, .slice none 0 0, .int .i64 0, .int .i64 0, .slice none 0 0, .slice none 0 0] := ((X2_1.out.other (p := ⟨w.heap.size + 3, 0, none⟩) (show w.heap.size + 3 ≠ w.heap.size + 1 by omega) (.int .i64 2)).other2 (show w.heap.size ≠ w.heap.size + 1 by omega) (.slice A1 t1.length c1) (.bool b1))
  have Y3 : BoxL (((w1.setCell ⟨w.heap.size + 3, 0, none⟩ (.int .i64 2)).setCell ⟨w.heap.size, 0, none⟩ (.slice A1 t1.length c1)).setCell ⟨w.heap.size, 1, none⟩ (.bool b1)) (w.heap.size + 2) [.slice none 0 0, .bool false] := ((X3_1.out.other (p := ⟨w.heap.size + 3, 0, none⟩) (show w.heap.size + 3 ≠ w.heap.size + 2 by omega) (.int .i64 2)).other2 (show w.heap.size ≠ w.heap.size + 2 by omega) (.slice A1 t1.length c1) (.bool b1))
  have Y4 : BoxL (((w1.setCell ⟨w.heap.size + 3, 0, none⟩ (.int .i64 2)).setCell ⟨w.heap.size, 0, none⟩ (.slice A1 t1.length c1)).setCell ⟨w.heap.size, 1, none⟩ (.bool b1)) (w.heap.size + 3) [.int .i64 2, .int .i64 0, .slice none 0 0, .slice none 0 0, .int .i64 0, .int .i64 0, .slice none 0 0, .slice none 0 0] := ((X4_1.out.one (k := 0) rfl (.int .i64 2)).other2 (show w.heap.size ≠ w.heap.size + 3 by omega) (.slice A1 t1.length c1) (.bool b1))
  have YK : Below w.heap.size w (((w1.setCell ⟨w.heap.size + 3, 0, none⟩ (.int .i64 2)).setCell ⟨w.heap.size, 0, none⟩ (.slice A1 t1.length c1)).setCell ⟨w.heap.size, 1, none⟩ (.bool b1)) := (set2_below (k1.setCell (p := ⟨w.heap.size + 3, 0, none⟩) (show w.heap.size ≤ w.heap.size + 3 by omega) (.int .i64 2)) (show w.heap.size ≤ w.heap.size by omega) (.slice A1 t1.length c1) (.bool b1))
  have YZ : w.heap.size + 4 ≤ ((((w1.setCell ⟨w.heap.size + 3, 0, none⟩ (.int .i64 2)).setCell ⟨w.heap.size, 0, none⟩ (.slice A1 t1.length c1)).setCell ⟨w.heap.size, 1, none⟩ (.bool b1))).heap.size := by simpa using z1
  clear X1_1 X2_1 X3_1 X4_1 k1 z1
  obtain ⟨w2, hw2⟩ : ∃ wn, (((w1.setCell ⟨w.heap.size + 3, 0, none⟩ (.int .i64 2)).setCell ⟨w.heap.size, 0, none⟩ (.slice A1 t1.length c1)).setCell ⟨w.heap.size, 1, none⟩ (.bool b1)) = wn := ⟨_, rfl⟩
  rw [hw2] at Y1 Y2 Y3 Y4 YK YZ ⊢
  have X1_2 := hid Y1
  have X2_2 := hid Y2
  have X3_2 := hid Y3
  have X4_2 := hid Y4
  have k2 := YK
  have z2 := YZ
  clear hw2 Y1 Y2 Y3 Y4 YK YZ
  refine (number_is 4096 (by decide) (by decide) t1 b1 hn w2 (Nat.le_trans hB k2.size) ut1 (HT1.out.fore k2 hB)).mono ?_
  rintro _ w3 ⟨A2, c2, rfl, ht2, hb3⟩
  have zb3 := z2
  have X1_3 := hid (X1_2.out.below hb3 (X1_2.out.lt (by simp)))
  clear X1_2
  have X2_3 := hid (X2_2.out.below hb3 (X2_2.out.lt (by simp)))
  clear X2_2
  have X3_3 := hid (X3_2.out.below hb3 (X3_2.out.lt (by simp)))
  clear X3_2
  have X4_3 := hid (X4_2.out.below hb3 (X4_2.out.lt (by simp)))
  clear X4_2
  have k3 := k2.trans (hb3.mono k2.size)
  have z3 : w.heap.size + 4 ≤ w3.heap.size := by have := hb3.size; omega
  clear k2 z2
  clear hb3
  have HT2 := hid (ht2.back k3 hB)
  clear ht2 HT1
  obtain ⟨c1_0, c1_1, f1_0, f1_1⟩ := X1_3.out.two
  obtain ⟨⟨c4_0, c4_1, c4_2, c4_3, c4_4, c4_5, c4_6, c4_7⟩, f4_0, f4_1, f4_2, f4_3, f4_4, f4_5, f4_6, f4_7⟩ := X4_3.out.eight
  go_upto_region 4 with fail
  clear c1_0 c1_1 f1_0 f1_1 c4_0 c4_1 c4_2 c4_3 c4_4 c4_5 c4_6 c4_7 f4_0 f4_1 f4_2 f4_3 f4_4 f4_5 f4_6 f4_7
  have Y1 : BoxL (((w3.setCell ⟨w.heap.size + 3, 1, none⟩ (.int .i64 (N : Int))).setCell ⟨w.heap.size, 0, none⟩ (.slice A2 t2.length c2)).setCell ⟨w.heap.size, 1, none⟩ (.bool false)) (w.heap.size) [.slice A2 t2.length c2, .bool false] := ((X1_3.out.other (p := ⟨w.heap.size + 3, 1, none⟩) (show w.heap.size + 3 ≠ w.heap.size by omega) (.int .i64 (N : Int))).set2 (.slice A2 t2.length c2) (.bool false))
  have Y2 : BoxL (((w3.setCell ⟨w.heap.size + 3, 1, none⟩ (.int .i64 (N : Int))).setCell ⟨w.heap.size, 0, none⟩ (.slice A2 t2.length c2)).setCell ⟨w.heap.size, 1, none⟩ (.bool false)) (w.heap.size + 1) [.int .i64 0, .int .i64 0, .slice none 0 0, .slice none 0 0, .int .i64 0, .int .i64 0, .slice none 0 0, .slice none 0 0] := ((X2_3.out.other (p := ⟨w.heap.size + 3, 1, none⟩) (show w.heap.size + 3 ≠ w.heap.size + 1 by omega) (.int .i64 (N : Int))).other2 (show w.heap.size ≠ w.heap.size + 1 by omega) (.slice A2 t2.length c2) (.bool false))
  have Y3 : BoxL (((w3.setCell ⟨w.heap.size + 3, 1, none⟩ (.int .i64 (N : Int))).setCell ⟨w.heap.size, 0, none⟩ (.slice A2 t2.length c2)).setCell ⟨w.heap.size, 1, none⟩ (.bool false)) (w.heap.size + 2) [.slice none 0 0, .bool false] := ((X3_3.out.other (p := ⟨w.heap.size + 3, 1, none⟩) (show w.heap.size + 3 ≠ w.heap.size + 2 by omega) (.int .i64 (N : Int))).other2 (show w.heap.size ≠ w.heap.size + 2 by omega) (.slice A2 t2.length c2) (.bool false))
  have Y4 : BoxL (((w3.setCell ⟨w.heap.size + 3, 1, none⟩ (.int .i64 (N : Int))).setCell ⟨w.heap.size, 0, none⟩ (.slice A2 t2.length c2)).setCell ⟨w.heap.size, 1, none⟩ (.bool false)) (w.heap.size + 3) [.int .i64 2, .int .i64 (N : Int), .slice none 0 0, .slice none 0 0, .int .i64 0, .int .i64 0, .slice none 0 0, .slice none 0 0] := ((X4_3.out.one (k := 1) rfl (.int .i64 (N : Int))).other2 (show w.heap.size ≠ w.heap.size + 3 by omega) (.slice A2 t2.length c2) (.bool false))
  have YK : Below w.heap.size w (((w3.setCell ⟨w.heap.size + 3, 1, none⟩ (.int .i64 (N : Int))).setCell ⟨w.heap.size, 0, none⟩ (.slice A2 t2.length c2)).setCell ⟨w.heap.size, 1, none⟩ (.bool false)) := (set2_below (k3.setCell (p := ⟨w.heap.size + 3, 1, none⟩) (show w.heap.size ≤ w.heap.size + 3 by omega) (.int .i64 (N : Int))) (show w.heap.size ≤ w.heap.size by omega) (.slice A2 t2.length c2) (.bool false))
  have YZ : w.heap.size + 4 ≤ ((((w3.setCell ⟨w.heap.size + 3, 1, none⟩ (.int .i64 (N : Int))).setCell ⟨w.heap.size, 0, none⟩ (.slice A2 t2.length c2)).setCell ⟨w.heap.size, 1, none⟩ (.bool false))).heap.size := by simpa using z3
  clear X1_3 X2_3 X3_3 X4_3 k3 z3
  obtain ⟨w4, hw4⟩ : ∃ wn, (((w3.setCell ⟨w.heap.size + 3, 1, none⟩ (.int .i64 (N : Int))).setCell ⟨w.heap.size, 0, none⟩ (.slice A2 t2.length c2)).setCell ⟨w.heap.size, 1, none⟩ (.bool false)) = wn := ⟨_, rfl⟩
  rw [hw4] at Y1 Y2 Y3 Y4 YK YZ ⊢
  have X1_4 := hid Y1
  have X2_4 := hid Y2
  have X3_4 := hid Y3
  have X4_4 := hid Y4
  have k4 := YK
  have z4 := YZ
  clear hw4 Y1 Y2 Y3 Y4 YK YZ
  obtain ⟨c1_0, c1_1, f1_0, f1_1⟩ := X1_4.out.two
  obtain ⟨⟨c4_0, c4_1, c4_2, c4_3, c4_4, c4_5, c4_6, c4_7⟩, f4_0, f4_1, f4_2, f4_3, f4_4, f4_5, f4_6, f4_7⟩ := X4_4.out.eight
  go_wp2_with fail
  clear c1_0 c1_1 f1_0 f1_1 c4_0 c4_1 c4_2 c4_3 c4_4 c4_5 c4_6 c4_7 f4_0 f4_1 f4_2 f4_3 f4_4 f4_5 f4_6 f4_7
  refine (number_is 9223372036854775807 (by decide) (by decide) t2 false hsc w4 (Nat.le_trans hB k4.size) ut2 (HT2.out.fore k4 hB)).mono ?_
  rintro _ w5 ⟨A3, c3, rfl, ht3, hb5⟩
  have zb5 := z4
  have X1_5 := hid (X1_4.out.below hb5 (X1_4.out.lt (by simp)))
  clear X1_4
  have X2_5 := hid (X2_4.out.below hb5 (X2_4.out.lt (by simp)))
  clear X2_4
  have X3_5 := hid (X3_4.out.below hb5 (X3_4.out.lt (by simp)))
  clear X3_4
  have X4_5 := hid (X4_4.out.below hb5 (X4_4.out.lt (by simp)))
  clear X4_4
  have k5 := k4.trans (hb5.mono k4.size)
  have z5 : w.heap.size + 4 ≤ w5.heap.size := by have := hb5.size; omega
  clear k4 z4
  clear hb5
  have HT3 := hid (ht3.back k5 hB)
  clear ht3 HT2
  obtain ⟨c1_0, c1_1, f1_0, f1_1⟩ := X1_5.out.two
  obtain ⟨⟨c4_0, c4_1, c4_2, c4_3, c4_4, c4_5, c4_6, c4_7⟩, f4_0, f4_1, f4_2, f4_3, f4_4, f4_5, f4_6, f4_7⟩ := X4_5.out.eight
  go_wp2_with fail
  clear c1_0 c1_1 f1_0 f1_1 c4_0 c4_1 c4_2 c4_3 c4_4 c4_5 c4_6 c4_7 f4_0 f4_1 f4_2 f4_3 f4_4 f4_5 f4_6 f4_7
  have Y1 : BoxL (((w5.setCell ⟨w.heap.size, 0, none⟩ (.slice A3 t3.length c3)).setCell ⟨w.heap.size, 1, none⟩ (.bool b3)).setCell ⟨w.heap.size + 3, 4, none⟩ (.int .i64 sc)) (w.heap.size) [.slice A3 t3.length c3, .bool b3] := ((X1_5.out.set2 (.slice A3 t3.length c3) (.bool b3)).other (p := ⟨w.heap.size + 3, 4, none⟩) (show w.heap.size + 3 ≠ w.heap.size by omega) (.int .i64 sc))
  have Y2 : BoxL (((w5.setCell ⟨w.heap.size, 0, none⟩ (.slice A3 t3.length c3)).setCell ⟨w.heap.size, 1, none⟩ (.bool b3)).setCell ⟨w.heap.size + 3, 4, none⟩ (.int .i64 sc)) (w.heap.size + 1) [.int .i64 0, .int .i64 0, .slice none 0 0, .slice none 0 0, .int .i64 0, .int .i64 0, .slice none 0 0, .slice none 0 0] := ((X2_5.out.other2 (show w.heap.size ≠ w.heap.size + 1 by omega) (.slice A3 t3.length c3) (.bool b3)).other (p := ⟨w.heap.size + 3, 4, none⟩) (show w.heap.size + 3 ≠ w.heap.size + 1 by omega) (.int .i64 sc))
  have Y3 : BoxL (((w5.setCell ⟨w.heap.size, 0, none⟩ (.slice A3 t3.length c3)).setCell ⟨w.heap.size, 1, none⟩ (.bool b3)).setCell ⟨w.heap.size + 3, 4, none⟩ (.int .i64 sc)) (w.heap.size + 2) [.slice none 0 0, .bool false] := ((X3_5.out.other2 (show w.heap.size ≠ w.heap.size + 2 by omega) (.slice A3 t3.length c3) (.bool b3)).other (p := ⟨w.heap.size + 3, 4, none⟩) (show w.heap.size + 3 ≠ w.heap.size + 2 by omega) (.int .i64 sc))
  have Y4 : BoxL (((w5.setCell ⟨w.heap.size, 0, none⟩ (.slice A3 t3.length c3)).setCell ⟨w.heap.size, 1, none⟩ (.bool b3)).setCell ⟨w.heap.size + 3, 4, none⟩ (.int .i64 sc)) (w.heap.size + 3) [.int .i64 2, .int .i64 (N : Int), .slice none 0 0, .slice none 0 0, .int .i64 sc, .int .i64 0, .slice none 0 0, .slice none 0 0] := ((X4_5.out.other2 (show w.heap.size ≠ w.heap.size + 3 by omega) (.slice A3 t3.length c3) (.bool b3)).one (k := 4) rfl (.int .i64 sc))
  have YK : Below w.heap.size w (((w5.setCell ⟨w.heap.size, 0, none⟩ (.slice A3 t3.length c3)).setCell ⟨w.heap.size, 1, none⟩ (.bool b3)).setCell ⟨w.heap.size + 3, 4, none⟩ (.int .i64 sc)) := ((set2_below k5 (show w.heap.size ≤ w.heap.size by omega) (.slice A3 t3.length c3) (.bool b3)).setCell (p := ⟨w.heap.size + 3, 4, none⟩) (show w.heap.size ≤ w.heap.size + 3 by omega) (.int .i64 sc))
  have YZ : w.heap.size + 4 ≤ ((((w5.setCell ⟨w.heap.size, 0, none⟩ (.slice A3 t3.length c3)).setCell ⟨w.heap.size, 1, none⟩ (.bool b3)).setCell ⟨w.heap.size + 3, 4, none⟩ (.int .i64 sc))).heap.size := by simpa using z5
  clear X1_5 X2_5 X3_5 X4_5 k5 z5
  obtain ⟨w6, hw6⟩ : ∃ wn, (((w5.setCell ⟨w.heap.size, 0, none⟩ (.slice A3 t3.length c3)).setCell ⟨w.heap.size, 1, none⟩ (.bool b3)).setCell ⟨w.heap.size + 3, 4, none⟩ (.int .i64 sc)) = wn := ⟨_, rfl⟩
  rw [hw6] at Y1 Y2 Y3 Y4 YK YZ ⊢
  have X1_6 := hid Y1
  have X2_6 := hid Y2
  have X3_6 := hid Y3
  have X4_6 := hid Y4
  have k6 := YK
  have z6 := YZ
  clear hw6 Y1 Y2 Y3 Y4 YK YZ
  refine (byte1_is t3 b3 hwd w6 (Nat.le_trans hB k6.size) ut3 (HT3.out.fore k6 hB)).mono ?_
  rintro _ w7 ⟨A4, c4, rfl, ht4, hb7⟩
  have zb7 := z6
  have X1_7 := hid (X1_6.out.below hb7 (X1_6.out.lt (by simp)))
  clear X1_6
  have X2_7 := hid (X2_6.out.below hb7 (X2_6.out.lt (by simp)))
  clear X2_6
  have X3_7 := hid (X3_6.out.below hb7 (X3_6.out.lt (by simp)))
  clear X3_6
  have X4_7 := hid (X4_6.out.below hb7 (X4_6.out.lt (by simp)))
  clear X4_6
  have k7 := k6.trans (hb7.mono k6.size)
  have z7 : w.heap.size + 4 ≤ w7.heap.size := by have := hb7.size; omega
  clear k6 z6
  clear hb7
  have HT4 := hid (ht4.back k7 hB)
  clear ht4 HT3
  obtain ⟨c1_0, c1_1, f1_0, f1_1⟩ := X1_7.out.two
  obtain ⟨⟨c4_0, c4_1, c4_2, c4_3, c4_4, c4_5, c4_6, c4_7⟩, f4_0, f4_1, f4_2, f4_3, f4_4, f4_5, f4_6, f4_7⟩ := X4_7.out.eight
  go_upto_region 21 with fail
  clear c1_0 c1_1 f1_0 f1_1 c4_0 c4_1 c4_2 c4_3 c4_4 c4_5 c4_6 c4_7 f4_0 f4_1 f4_2 f4_3 f4_4 f4_5 f4_6 f4_7
  have Y1 : BoxL (((w7.setCell ⟨w.heap.size + 3, 5, none⟩ (.int .i64 wd)).setCell ⟨w.heap.size, 0, none⟩ (.slice A4 t4.length c4)).setCell ⟨w.heap.size, 1, none⟩ (.bool b4)) (w.heap.size) [.slice A4 t4.length c4, .bool b4] := ((X1_7.out.other (p := ⟨w.heap.size + 3, 5, none⟩) (show w.heap.size + 3 ≠ w.heap.size by omega) (.int .i64 wd)).set2 (.slice A4 t4.length c4) (.bool b4))
  have Y2 : BoxL (((w7.setCell ⟨w.heap.size + 3, 5, none⟩ (.int .i64 wd)).setCell ⟨w.heap.size, 0, none⟩ (.slice A4 t4.length c4)).setCell ⟨w.heap.size, 1, none⟩ (.bool b4)) (w.heap.size + 1) [.int .i64 0, .int .i64 0, .slice none 0 0, .slice none 0 0, .int .i64 0, .int .i64 0, .slice none 0 0, .slice none 0 0] := ((X2_7.out.other (p := ⟨w.heap.size + 3, 5, none⟩) (show w.heap.size + 3 ≠ w.heap.size + 1 by omega) (.int .i64 wd)).other2 (show w.heap.size ≠ w.heap.size + 1 by omega) (.slice A4 t4.length c4) (.bool b4))
  have Y3 : BoxL (((w7.setCell ⟨w.heap.size + 3, 5, none⟩ (.int .i64 wd)).setCell ⟨w.heap.size, 0, none⟩ (.slice A4 t4.length c4)).setCell ⟨w.heap.size, 1, none⟩ (.bool b4)) (w.heap.size + 2) [.slice none 0 0, .bool false] := ((X3_7.out.other (p := ⟨w.heap.size + 3, 5, none⟩) (show w.heap.size + 3 ≠ w.heap.size + 2 by omega) (.int .i64 wd)).other2 (show w.heap.size ≠ w.heap.size + 2 by omega) (.slice A4 t4.length c4) (.bool b4))
  have Y4 : BoxL (((w7.setCell ⟨w.heap.size + 3, 5, none⟩ (.int .i64 wd)).setCell ⟨w.heap.size, 0, none⟩ (.slice A4 t4.length c4)).setCell ⟨w.heap.size, 1, none⟩ (.bool b4)) (w.heap.size + 3) [.int .i64 2, .int .i64 (N : Int), .slice none 0 0, .slice none 0 0, .int .i64 sc, .int .i64 wd, .slice none 0 0, .slice none 0 0] := ((X4_7.out.one (k := 5) rfl (.int .i64 wd)).other2 (show w.heap.size ≠ w.heap.size + 3 by omega) (.slice A4 t4.length c4) (.bool b4))
  have YK : Below w.heap.size w (((w7.setCell ⟨w.heap.size + 3, 5, none⟩ (.int .i64 wd)).setCell ⟨w.heap.size, 0, none⟩ (.slice A4 t4.length c4)).setCell ⟨w.heap.size, 1, none⟩ (.bool b4)) := (set2_below (k7.setCell (p := ⟨w.heap.size + 3, 5, none⟩) (show w.heap.size ≤ w.heap.size + 3 by omega) (.int .i64 wd)) (show w.heap.size ≤ w.heap.size by omega) (.slice A4 t4.length c4) (.bool b4))
  have YZ : w.heap.size + 4 ≤ ((((w7.setCell ⟨w.heap.size + 3, 5, none⟩ (.int .i64 wd)).setCell ⟨w.heap.size, 0, none⟩ (.slice A4 t4.length c4)).setCell ⟨w.heap.size, 1, none⟩ (.bool b4))).heap.size := by simpa using z7
  clear X1_7 X2_7 X3_7 X4_7 k7 z7
  obtain ⟨w8, hw8⟩ : ∃ wn, (((w7.setCell ⟨w.heap.size + 3, 5, none⟩ (.int .i64 wd)).setCell ⟨w.heap.size, 0, none⟩ (.slice A4 t4.length c4)).setCell ⟨w.heap.size, 1, none⟩ (.bool b4)) = wn := ⟨_, rfl⟩
  rw [hw8] at Y1 Y2 Y3 Y4 YK YZ ⊢
  have X1_8 := hid Y1
  have X2_8 := hid Y2
  have X3_8 := hid Y3
  have X4_8 := hid Y4
  have k8 := YK
  have z8 := YZ
  clear hw8 Y1 Y2 Y3 Y4 YK YZ
  obtain ⟨c1_0, c1_1, f1_0, f1_1⟩ := X1_8.out.two
  obtain ⟨⟨c4_0, c4_1, c4_2, c4_3, c4_4, c4_5, c4_6, c4_7⟩, f4_0, f4_1, f4_2, f4_3, f4_4, f4_5, f4_6, f4_7⟩ := X4_8.out.eight
  have HTH := hid (box_thr (o := 0) (n := 8) X2_8.out (by simp))
  go_wp2_with (refine wpList_many rfl 29 _ _ rfl (w.heap.size + 1) 0 #[.int .i64 2, .int .i64 (N : Int), .slice none 0 0, .slice none 0 0, .int .i64 sc, .int .i64 wd, .slice none 0 0, .slice none 0 0] rfl rfl HTH.out info_sn (by simp [Value.oneCell']) ?_)
  intro w9 hw9
  have hq9 : w9 = st8 w8 (w.heap.size + 1) (.int .i64 2) (.int .i64 (N : Int)) (.slice none 0 0) (.slice none 0 0) (.int .i64 sc) (.int .i64 wd) (.slice none 0 0) (.slice none 0 0) := hw9.out
  have X1_9 : Hid (BoxL w9 (w.heap.size) [.slice A4 t4.length c4, .bool b4]) := hid (by rw [hq9]; exact st8_other X1_8.out (by omega))
  clear X1_8
  have X2_9 : Hid (BoxL w9 (w.heap.size + 1) [.int .i64 2, .int .i64 (N : Int), .slice none 0 0, .slice none 0 0, .int .i64 sc, .int .i64 wd, .slice none 0 0, .slice none 0 0]) := hid (by rw [hq9]; exact st8_box X2_8.out)
  clear X2_8
  have X3_9 : Hid (BoxL w9 (w.heap.size + 2) [.slice none 0 0, .bool false]) := hid (by rw [hq9]; exact st8_other X3_8.out (by omega))
  clear X3_8
  have X4_9 : Hid (BoxL w9 (w.heap.size + 3) [.int .i64 2, .int .i64 (N : Int), .slice none 0 0, .slice none 0 0, .int .i64 sc, .int .i64 wd, .slice none 0 0, .slice none 0 0]) := hid (by rw [hq9]; exact st8_other X4_8.out (by omega))
  clear X4_8
  have k9 : Below w.heap.size w w9 := by rw [hq9]; exact st8_below k8 (by omega)
  have z9 : w.heap.size + 4 ≤ w9.heap.size := by rw [hq9]; simpa [st8] using z8
  clear k8 z8 hw9 hq9 HTH
  clear c1_0 c1_1 f1_0 f1_1 c4_0 f4_0 c4_1 f4_1 c4_2 f4_2 c4_3 f4_3 c4_4 f4_4 c4_5 f4_5 c4_6 f4_6 c4_7 f4_7
  obtain ⟨c3_0, c3_1, f3_0, f3_1⟩ := X3_9.out.two
  go_wp2_with fail
  clear c3_0 c3_1 f3_0 f3_1
  have Y1 : BoxL ((w9.setCell ⟨w.heap.size + 2, 0, none⟩ (.slice none 0 0)).setCell ⟨w.heap.size + 2, 1, none⟩ (.bool true)) (w.heap.size) [.slice A4 t4.length c4, .bool b4] := (X1_9.out.other2 (show w.heap.size + 2 ≠ w.heap.size by omega) (.slice none 0 0) (.bool true))
  have Y2 : BoxL ((w9.setCell ⟨w.heap.size + 2, 0, none⟩ (.slice none 0 0)).setCell ⟨w.heap.size + 2, 1, none⟩ (.bool true)) (w.heap.size + 1) [.int .i64 2, .int .i64 (N : Int), .slice none 0 0, .slice none 0 0, .int .i64 sc, .int .i64 wd, .slice none 0 0, .slice none 0 0] := (X2_9.out.other2 (show w.heap.size + 2 ≠ w.heap.size + 1 by omega) (.slice none 0 0) (.bool true))
  have Y3 : BoxL ((w9.setCell ⟨w.heap.size + 2, 0, none⟩ (.slice none 0 0)).setCell ⟨w.heap.size + 2, 1, none⟩ (.bool true)) (w.heap.size + 2) [.slice none 0 0, .bool true] := (X3_9.out.set2 (.slice none 0 0) (.bool true))
  have Y4 : BoxL ((w9.setCell ⟨w.heap.size + 2, 0, none⟩ (.slice none 0 0)).setCell ⟨w.heap.size + 2, 1, none⟩ (.bool true)) (w.heap.size + 3) [.int .i64 2, .int .i64 (N : Int), .slice none 0 0, .slice none 0 0, .int .i64 sc, .int .i64 wd, .slice none 0 0, .slice none 0 0] := (X4_9.out.other2 (show w.heap.size + 2 ≠ w.heap.size + 3 by omega) (.slice none 0 0) (.bool true))
  have YK : Below w.heap.size w ((w9.setCell ⟨w.heap.size + 2, 0, none⟩ (.slice none 0 0)).setCell ⟨w.heap.size + 2, 1, none⟩ (.bool true)) := (set2_below k9 (show w.heap.size ≤ w.heap.size + 2 by omega) (.slice none 0 0) (.bool true))
  have YZ : w.heap.size + 4 ≤ (((w9.setCell ⟨w.heap.size + 2, 0, none⟩ (.slice none 0 0)).setCell ⟨w.heap.size + 2, 1, none⟩ (.bool true))).heap.size := by simpa using z9
  clear X1_9 X2_9 X3_9 X4_9 k9 z9
  obtain ⟨w10, hw10⟩ : ∃ wn, ((w9.setCell ⟨w.heap.size + 2, 0, none⟩ (.slice none 0 0)).setCell ⟨w.heap.size + 2, 1, none⟩ (.bool true)) = wn := ⟨_, rfl⟩
  rw [hw10] at Y1 Y2 Y3 Y4 YK YZ ⊢
  have X1_10 := hid Y1
  have X2_10 := hid Y2
  have X3_10 := hid Y3
  have X4_10 := hid Y4
  have k10 := YK
  have z10 := YZ
  clear hw10 Y1 Y2 Y3 Y4 YK YZ
  obtain ⟨⟨c2_0, c2_1, c2_2, c2_3, c2_4, c2_5, c2_6, c2_7⟩, f2_0, f2_1, f2_2, f2_3, f2_4, f2_5, f2_6, f2_7⟩ := X2_10.out.eight
  obtain ⟨c3_0, c3_1, f3_0, f3_1⟩ := X3_10.out.two
  refine bodyPost_ret (v := .tuple #[.agg #[.int .i64 2, .int .i64 (N : Int), .slice none 0 0, .slice none 0 0, .int .i64 sc, .int .i64 wd, .slice none 0 0, .slice none 0 0], .agg #[.slice none 0 0, .bool true]]) (by simp [results, Tryz.results18, go_sem, c2_0, c2_1, c2_2, c2_3, c2_4, c2_5, c2_6, c2_7, c3_0, c3_1]) rfl ⟨⟨none, 0, none, 0, none, 0, none, 0⟩, none, 0, rfl, TxP.nil _ _, ⟨RdF.nil _ _, RdF.nil _ _, RdF.nil _ _, RdF.nil _ _⟩, k10⟩
theorem sent_4b {A : Option Addr} {c B : Nat} (t : List Int) (b : Bool) (hl : t.length ≤ 70000) (w : World) (hB : B ≤ w.heap.size) (ut : U8s t) (ht : TxP w B t A c)  {x : Int} {N : Nat} {t1 t2 : List Int} {b1 : Bool} (hx : by1 (t, b) = (x, t1, b1)) (ut1 : U8s t1) (hn : num1 4096 (t1, b1) = ((N : Int), t2, false)) (hN1 : 1 ≤ N) (hN4 : N ≤ 4096) (ut2 : U8s t2) (h0 : x = 2) {sc : Int} {t3 : List Int} {b3 : Bool} (hsc : num1 9223372036854775807 (t2, false) = (sc, t3, b3)) (ut3 : U8s t3) {t4 : List Int} {b4 : Bool} {wd : Int} (hwd : by1 (t3, b3) = (wd, t4, b4)) (hw1 : ¬ wd < 1) (hw8 : 8 < wd) :
    Calls Tryz.prog 18 #[.agg #[.slice A t.length c, .bool b]] w (OwnSn B (⟨2, (N : Int), [], [], sc, wd, [], []⟩, badT) w) := by
  subst h0
  have hnz : ((N : Int) == 0) = false := by simp; omega
  obtain ⟨HB1, HB2, HB3, HB4, k0, z0⟩ := boxes4 w [.slice A t.length c, .bool b] [.int .i64 0, .int .i64 0, .slice none 0 0, .slice none 0 0, .int .i64 0, .int .i64 0, .slice none 0 0, .slice none 0 0] [.slice none 0 0, .bool false] [.int .i64 0, .int .i64 0, .slice none 0 0, .slice none 0 0, .int .i64 0, .int .i64 0, .slice none 0 0, .slice none 0 0] 49 29 49 29 _ rfl
  go_enter Tryz.func18, Tryz.ntmps18
  go_wp2_with fail
  obtain ⟨w0, hw0⟩ : ∃ w0, (((w.alloc (.cells #[.slice A t.length c, .bool b] 49)).alloc (.cells #[.int .i64 0, .int .i64 0, .slice none 0 0, .slice none 0 0, .int .i64 0, .int .i64 0, .slice none 0 0, .slice none 0 0] 29)).alloc (.cells #[.slice none 0 0, .bool false] 49)).alloc (.cells #[.int .i64 0, .int .i64 0, .slice none 0 0, .slice none 0 0, .int .i64 0, .int .i64 0, .slice none 0 0, .slice none 0 0] 29) = w0 := ⟨_, rfl⟩
  rw [hw0] at HB1 HB2 HB3 HB4 k0 z0 ⊢
  have X1_0 := hid HB1
  have X2_0 := hid HB2
  have X3_0 := hid HB3
  have X4_0 := hid HB4
  clear HB1 HB2 HB3 HB4 hw0
  refine (byte1_is t b hx w0 (Nat.le_trans hB k0.size) ut (ht.fore k0 hB)).mono ?_
  rintro _ w1 ⟨A1, c1, rfl, ht1, hb1⟩
  have zb1 := z0
  have X1_1 := hid (X1_0.out.below hb1 (X1_0.out.lt (by simp)))
  clear X1_0
  have X2_1 := hid (X2_0.out.below hb1 (X2_0.out.lt (by simp)))
  clear X2_0
  have X3_1 := hid (X3_0.out.below hb1 (X3_0.out.lt (by simp)))
  clear X3_0
  have X4_1 := hid (X4_0.out.below hb1 (X4_0.out.lt (by simp)))
  clear X4_0
  have k1 := k0.trans (hb1.mono k0.size)
  have z1 : w.heap.size + 4 ≤ w1.heap.size := by have := hb1.size; omega
  clear k0 z0
  clear hb1
  have HT1 := hid (ht1.back k1 hB)
  clear ht1
  obtain ⟨c1_0, c1_1, f1_0, f1_1⟩ := X1_1.out.two
  obtain ⟨⟨c4_0, c4_1, c4_2, c4_3, c4_4, c4_5, c4_6, c4_7⟩, f4_0, f4_1, f4_2, f4_3, f4_4, f4_5, f4_6, f4_7⟩ := X4_1.out.eight
  go_wp2_with fail
  clear c1_0 c1_1 f1_0 f1_1 c4_0 c4_1 c4_2 c4_3 c4_4 c4_5 c4_6 c4_7 f4_0 f4_1 f4_2 f4_3 f4_4 f4_5 f4_6 f4_7
  have Y1 : BoxL (((w1.setCell ⟨w.heap.size + 3, 0, none⟩ (.int .i64 2)).setCell ⟨w.heap.size, 0, none⟩ (.slice A1 t1.length c1)).setCell ⟨w.heap.size, 1, none⟩ (.bool b1)) (w.heap.size) [.slice A1 t1.length c1, .bool b1] := ((X1_1.out.other (p := ⟨w.heap.size + 3, 0, none⟩) (show w.heap.size + 3 ≠ w.heap.size by omega) (.int .i64 2)).set2 (.slice A1 t1.length c1) (.bool b1))
  have Y2 : BoxL (((w1.setCell ⟨w.heap.size + 3, 0, none⟩ (.int .i64 2)).setCell ⟨w.heap.size, 0, none⟩ (.slice A1 t1.length c1)).setCell ⟨w.heap.size, 1, none⟩ (.bool b1)) (w.heap.size + 1) [.int .i64 0, .int .i64 0, .slice none 0 0, .slice none 0 0, .int .i64 0, .int .i64 0, .slice none 0 0, .slice none 0 0] := ((X2_1.out.other (p := ⟨w.heap.size + 3, 0, none⟩) (show w.heap.size + 3 ≠ w.heap.size + 1 by omega) (.int .i64 2)).other2 (show w.heap.size ≠ w.heap.size + 1 by omega) (.slice A1 t1.length c1) (.bool b1))
  have Y3 : BoxL (((w1.setCell ⟨w.heap.size + 3, 0, none⟩ (.int .i64 2)).setCell ⟨w.heap.size, 0, none⟩ (.slice A1 t1.length c1)).setCell ⟨w.heap.size, 1, none⟩ (.bool b1)) (w.heap.size + 2) [.slice none 0 0, .bool false] := ((X3_1.out.other (p := ⟨w.heap.size + 3, 0, none⟩) (show w.heap.size + 3 ≠ w.heap.size + 2 by omega) (.int .i64 2)).other2 (show w.heap.size ≠ w.heap.size + 2 by omega) (.slice A1 t1.length c1) (.bool b1))
  have Y4 : BoxL (((w1.setCell ⟨w.heap.size + 3, 0, none⟩ (.int .i64 2)).setCell ⟨w.heap.size, 0, none⟩ (.slice A1 t1.length c1)).setCell ⟨w.heap.size, 1, none⟩ (.bool b1)) (w.heap.size + 3) [.int .i64 2, .int .i64 0, .slice none 0 0, .slice none 0 0, .int .i64 0, .int .i64 0, .slice none 0 0, .slice none 0 0] := ((X4_1.out.one (k := 0) rfl (.int .i64 2)).other2 (show w.heap.size ≠ w.heap.size + 3 by omega) (.slice A1 t1.length c1) (.bool b1))
  have YK : Below w.heap.size w (((w1.setCell ⟨w.heap.size + 3, 0, none⟩ (.int .i64 2)).setCell ⟨w.heap.size, 0, none⟩ (.slice A1 t1.length c1)).setCell ⟨w.heap.size, 1, none⟩ (.bool b1)) := (set2_below (k1.setCell (p := ⟨w.heap.size + 3, 0, none⟩) (show w.heap.size ≤ w.heap.size + 3 by omega) (.int .i64 2)) (show w.heap.size ≤ w.heap.size by omega) (.slice A1 t1.length c1) (.bool b1))
  have YZ : w.heap.size + 4 ≤ ((((w1.setCell ⟨w.heap.size + 3, 0, none⟩ (.int .i64 2)).setCell ⟨w.heap.size, 0, none⟩ (.slice A1 t1.length c1)).setCell ⟨w.heap.size, 1, none⟩ (.bool b1))).heap.size := by simpa using z1
  clear X1_1 X2_1 X3_1 X4_1 k1 z1
  obtain ⟨w2, hw2⟩ : ∃ wn, (((w1.setCell ⟨w.heap.size + 3, 0, none⟩ (.int .i64 2)).setCell ⟨w.heap.size, 0, none⟩ (.slice A1 t1.length c1)).setCell ⟨w.heap.size, 1, none⟩ (.bool b1)) = wn := ⟨_, rfl⟩
  rw [hw2] at Y1 Y2 Y3 Y4 YK YZ ⊢
  have X1_2 := hid Y1
  have X2_2 := hid Y2
  have X3_2 := hid Y3
  have X4_2 := hid Y4
  have k2 := YK
  have z2 := YZ
  clear hw2 Y1 Y2 Y3 Y4 YK YZ
  refine (number_is 4096 (by decide) (by decide) t1 b1 hn w2 (Nat.le_trans hB k2.size) ut1 (HT1.out.fore k2 hB)).mono ?_
  rintro _ w3 ⟨A2, c2, rfl, ht2, hb3⟩
  have zb3 := z2
  have X1_3 := hid (X1_2.out.below hb3 (X1_2.out.lt (by simp)))
  clear X1_2
  have X2_3 := hid (X2_2.out.below hb3 (X2_2.out.lt (by simp)))
  clear X2_2
  have X3_3 := hid (X3_2.out.below hb3 (X3_2.out.lt (by simp)))
  clear X3_2
  have X4_3 := hid (X4_2.out.below hb3 (X4_2.out.lt (by simp)))
  clear X4_2
  have k3 := k2.trans (hb3.mono k2.size)
  have z3 : w.heap.size + 4 ≤ w3.heap.size := by have := hb3.size; omega
  clear k2 z2
  clear hb3
  have HT2 := hid (ht2.back k3 hB)
  clear ht2 HT1
  obtain ⟨c1_0, c1_1, f1_0, f1_1⟩ := X1_3.out.two
  obtain ⟨⟨c4_0, c4_1, c4_2, c4_3, c4_4, c4_5, c4_6, c4_7⟩, f4_0, f4_1, f4_2, f4_3, f4_4, f4_5, f4_6, f4_7⟩ := X4_3.out.eight
  go_upto_region 4 with fail
  clear c1_0 c1_1 f1_0 f1_1 c4_0 c4_1 c4_2 c4_3 c4_4 c4_5 c4_6 c4_7 f4_0 f4_1 f4_2 f4_3 f4_4 f4_5 f4_6 f4_7
  have Y1 : BoxL (((w3.setCell ⟨w.heap.size + 3, 1, none⟩ (.int .i64 (N : Int))).setCell ⟨w.heap.size, 0, none⟩ (.slice A2 t2.length c2)).setCell ⟨w.heap.size, 1, none⟩ (.bool false)) (w.heap.size) [.slice A2 t2.length c2, .bool false] := ((X1_3.out.other (p := ⟨w.heap.size + 3, 1, none⟩) (show w.heap.size + 3 ≠ w.heap.size by omega) (.int .i64 (N : Int))).set2 (.slice A2 t2.length c2) (.bool false))
  have Y2 : BoxL (((w3.setCell ⟨w.heap.size + 3, 1, none⟩ (.int .i64 (N : Int))).setCell ⟨w.heap.size, 0, none⟩ (.slice A2 t2.length c2)).setCell ⟨w.heap.size, 1, none⟩ (.bool false)) (w.heap.size + 1) [.int .i64 0, .int .i64 0, .slice none 0 0, .slice none 0 0, .int .i64 0, .int .i64 0, .slice none 0 0, .slice none 0 0] := ((X2_3.out.other (p := ⟨w.heap.size + 3, 1, none⟩) (show w.heap.size + 3 ≠ w.heap.size + 1 by omega) (.int .i64 (N : Int))).other2 (show w.heap.size ≠ w.heap.size + 1 by omega) (.slice A2 t2.length c2) (.bool false))
  have Y3 : BoxL (((w3.setCell ⟨w.heap.size + 3, 1, none⟩ (.int .i64 (N : Int))).setCell ⟨w.heap.size, 0, none⟩ (.slice A2 t2.length c2)).setCell ⟨w.heap.size, 1, none⟩ (.bool false)) (w.heap.size + 2) [.slice none 0 0, .bool false] := ((X3_3.out.other (p := ⟨w.heap.size + 3, 1, none⟩) (show w.heap.size + 3 ≠ w.heap.size + 2 by omega) (.int .i64 (N : Int))).other2 (show w.heap.size ≠ w.heap.size + 2 by omega) (.slice A2 t2.length c2) (.bool false))
  have Y4 : BoxL (((w3.setCell ⟨w.heap.size + 3, 1, none⟩ (.int .i64 (N : Int))).setCell ⟨w.heap.size, 0, none⟩ (.slice A2 t2.length c2)).setCell ⟨w.heap.size, 1, none⟩ (.bool false)) (w.heap.size + 3) [.int .i64 2, .int .i64 (N : Int), .slice none 0 0, .slice none 0 0, .int .i64 0, .int .i64 0, .slice none 0 0, .slice none 0 0] := ((X4_3.out.one (k := 1) rfl (.int .i64 (N : Int))).other2 (show w.heap.size ≠ w.heap.size + 3 by omega) (.slice A2 t2.length c2) (.bool false))
  have YK : Below w.heap.size w (((w3.setCell ⟨w.heap.size + 3, 1, none⟩ (.int .i64 (N : Int))).setCell ⟨w.heap.size, 0, none⟩ (.slice A2 t2.length c2)).setCell ⟨w.heap.size, 1, none⟩ (.bool false)) := (set2_below (k3.setCell (p := ⟨w.heap.size + 3, 1, none⟩) (show w.heap.size ≤ w.heap.size + 3 by omega) (.int .i64 (N : Int))) (show w.heap.size ≤ w.heap.size by omega) (.slice A2 t2.length c2) (.bool false))
  have YZ : w.heap.size + 4 ≤ ((((w3.setCell ⟨w.heap.size + 3, 1, none⟩ (.int .i64 (N : Int))).setCell ⟨w.heap.size, 0, none⟩ (.slice A2 t2.length c2)).setCell ⟨w.heap.size, 1, none⟩ (.bool false))).heap.size := by simpa using z3
  clear X1_3 X2_3 X3_3 X4_3 k3 z3
  obtain ⟨w4, hw4⟩ : ∃ wn, (((w3.setCell ⟨w.heap.size + 3, 1, none⟩ (.int .i64 (N : Int))).setCell ⟨w.heap.size, 0, none⟩ (.slice A2 t2.length c2)).setCell ⟨w.heap.size, 1, none⟩ (.bool false)) = wn := ⟨_, rfl⟩
  rw [hw4] at Y1 Y2 Y3 Y4 YK YZ ⊢
  have X1_4 := hid Y1
  have X2_4 := hid Y2
  have X3_4 := hid Y3
  have X4_4 := hid Y4
  have k4 := YK
  have z4 := YZ
  clear hw4 Y1 Y2 Y3 Y4 YK YZ
  obtain ⟨c1_0, c1_1, f1_0, f1_1⟩ := X1_4.out.two
  obtain ⟨⟨c4_0, c4_1, c4_2, c4_3, c4_4, c4_5, c4_6, c4_7⟩, f4_0, f4_1, f4_2, f4_3, f4_4, f4_5, f4_6, f4_7⟩ := X4_4.out.eight
  go_wp2_with fail
  clear c1_0 c1_1 f1_0 f1_1 c4_0 c4_1 c4_2 c4_3 c4_4 c4_5 c4_6 c4_7 f4_0 f4_1 f4_2 f4_3 f4_4 f4_5 f4_6 f4_7
  refine (number_is 9223372036854775807 (by decide) (by decide) t2 false hsc w4 (Nat.le_trans hB k4.size) ut2 (HT2.out.fore k4 hB)).mono ?_
  rintro _ w5 ⟨A3, c3, rfl, ht3, hb5⟩
  have zb5 := z4
  have X1_5 := hid (X1_4.out.below hb5 (X1_4.out.lt (by simp)))
  clear X1_4
  have X2_5 := hid (X2_4.out.below hb5 (X2_4.out.lt (by simp)))
  clear X2_4
  have X3_5 := hid (X3_4.out.below hb5 (X3_4.out.lt (by simp)))
  clear X3_4
  have X4_5 := hid (X4_4.out.below hb5 (X4_4.out.lt (by simp)))
  clear X4_4
  have k5 := k4.trans (hb5.mono k4.size)
  have z5 : w.heap.size + 4 ≤ w5.heap.size := by have := hb5.size; omega
  clear k4 z4
  clear hb5
  have HT3 := hid (ht3.back k5 hB)
  clear ht3 HT2
  obtain ⟨c1_0, c1_1, f1_0, f1_1⟩ := X1_5.out.two
  obtain ⟨⟨c4_0, c4_1, c4_2, c4_3, c4_4, c4_5, c4_6, c4_7⟩, f4_0, f4_1, f4_2, f4_3, f4_4, f4_5, f4_6, f4_7⟩ := X4_5.out.eight
  go_wp2_with fail
  clear c1_0 c1_1 f1_0 f1_1 c4_0 c4_1 c4_2 c4_3 c4_4 c4_5 c4_6 c4_7 f4_0 f4_1 f4_2 f4_3 f4_4 f4_5 f4_6 f4_7
  have Y1 : BoxL (((w5.setCell ⟨w.heap.size, 0, none⟩ (.slice A3 t3.length c3)).setCell ⟨w.heap.size, 1, none⟩ (.bool b3)).setCell ⟨w.heap.size + 3, 4, none⟩ (.int .i64 sc)) (w.heap.size) [.slice A3 t3.length c3, .bool b3] := ((X1_5.out.set2 (.slice A3 t3.length c3) (.bool b3)).other (p := ⟨w.heap.size + 3, 4, none⟩) (show w.heap.size + 3 ≠ w.heap.size by omega) (.int .i64 sc))
  have Y2 : BoxL (((w5.setCell ⟨w.heap.size, 0, none⟩ (.slice A3 t3.length c3)).setCell ⟨w.heap.size, 1, none⟩ (.bool b3)).setCell ⟨w.heap.size + 3, 4, none⟩ (.int .i64 sc)) (w.heap.size + 1) [.int .i64 0, .int .i64 0, .slice none 0 0, .slice none 0 0, .int .i64 0, .int .i64 0, .slice none 0 0, .slice none 0 0] := ((X2_5.out.other2 (show w.heap.size ≠ w.heap.size + 1 by omega) (.slice A3 t3.length c3) (.bool b3)).other (p := ⟨w.heap.size + 3, 4, none⟩) (show w.heap.size + 3 ≠ w.heap.size + 1 by omega) (.int .i64 sc))
  have Y3 : BoxL (((w5.setCell ⟨w.heap.size, 0, none⟩ (.slice A3 t3.length c3)).setCell ⟨w.heap.size, 1, none⟩ (.bool b3)).setCell ⟨w.heap.size + 3, 4, none⟩ (.int .i64 sc)) (w.heap.size + 2) [.slice none 0 0, .bool false] := ((X3_5.out.other2 (show w.heap.size ≠ w.heap.size + 2 by omega) (.slice A3 t3.length c3) (.bool b3)).other (p := ⟨w.heap.size + 3, 4, none⟩) (show w.heap.size + 3 ≠ w.heap.size + 2 by omega) (.int .i64 sc))
  have Y4 : BoxL (((w5.setCell ⟨w.heap.size, 0, none⟩ (.slice A3 t3.length c3)).setCell ⟨w.heap.size, 1, none⟩ (.bool b3)).setCell ⟨w.heap.size + 3, 4, none⟩ (.int .i64 sc)) (w.heap.size + 3) [.int .i64 2, .int .i64 (N : Int), .slice none 0 0, .slice none 0 0, .int .i64 sc, .int .i64 0, .slice none 0 0, .slice none 0 0] := ((X4_5.out.other2 (show w.heap.size ≠ w.heap.size + 3 by omega) (.slice A3 t3.length c3) (.bool b3)).one (k := 4) rfl (.int .i64 sc))
  have YK : Below w.heap.size w (((w5.setCell ⟨w.heap.size, 0, none⟩ (.slice A3 t3.length c3)).setCell ⟨w.heap.size, 1, none⟩ (.bool b3)).setCell ⟨w.heap.size + 3, 4, none⟩ (.int .i64 sc)) := ((set2_below k5 (show w.heap.size ≤ w.heap.size by omega) (.slice A3 t3.length c3) (.bool b3)).setCell (p := ⟨w.heap.size + 3, 4, none⟩) (show w.heap.size ≤ w.heap.size + 3 by omega) (.int .i64 sc))
  have YZ : w.heap.size + 4 ≤ ((((w5.setCell ⟨w.heap.size, 0, none⟩ (.slice A3 t3.length c3)).setCell ⟨w.heap.size, 1, none⟩ (.bool b3)).setCell ⟨w.heap.size + 3, 4, none⟩ (.int .i64 sc))).heap.size := by simpa using z5
  clear X1_5 X2_5 X3_5 X4_5 k5 z5
  obtain ⟨w6, hw6⟩ : ∃ wn, (((w5.setCell ⟨w.heap.size, 0, none⟩ (.slice A3 t3.length c3)).setCell ⟨w.heap.size, 1, none⟩ (.bool b3)).setCell ⟨w.heap.size + 3, 4, none⟩ (.int .i64 sc)) = wn := ⟨_, rfl⟩
  rw [hw6] at Y1 Y2 Y3 Y4 YK YZ ⊢
  have X1_6 := hid Y1
  have X2_6 := hid Y2
  have X3_6 := hid Y3
  have X4_6 := hid Y4
  have k6 := YK
  have z6 := YZ
  clear hw6 Y1 Y2 Y3 Y4 YK YZ
  refine (byte1_is t3 b3 hwd w6 (Nat.le_trans hB k6.size) ut3 (HT3.out.fore k6 hB)).mono ?_
  rintro _ w7 ⟨A4, c4, rfl, ht4, hb7⟩
  have zb7 := z6
  have X1_7 := hid (X1_6.out.below hb7 (X1_6.out.lt (by simp)))
  clear X1_6
  have X2_7 := hid (X2_6.out.below hb7 (X2_6.out.lt (by simp)))
  clear X2_6
  have X3_7 := hid (X3_6.out.below hb7 (X3_6.out.lt (by simp)))
  clear X3_6
  have X4_7 := hid (X4_6.out.below hb7 (X4_6.out.lt (by simp)))
  clear X4_6
  have k7 := k6.trans (hb7.mono k6.size)
  have z7 : w.heap.size + 4 ≤ w7.heap.size := by have := hb7.size; omega
  clear k6 z6
  clear hb7
  have HT4 := hid (ht4.back k7 hB)
  clear ht4 HT3
  obtain ⟨c1_0, c1_1, f1_0, f1_1⟩ := X1_7.out.two
  obtain ⟨⟨c4_0, c4_1, c4_2, c4_3, c4_4, c4_5, c4_6, c4_7⟩, f4_0, f4_1, f4_2, f4_3, f4_4, f4_5, f4_6, f4_7⟩ := X4_7.out.eight
  go_upto_region 21 with fail
  clear c1_0 c1_1 f1_0 f1_1 c4_0 c4_1 c4_2 c4_3 c4_4 c4_5 c4_6 c4_7 f4_0 f4_1 f4_2 f4_3 f4_4 f4_5 f4_6 f4_7
  have Y1 : BoxL (((w7.setCell ⟨w.heap.size + 3, 5, none⟩ (.int .i64 wd)).setCell ⟨w.heap.size, 0, none⟩ (.slice A4 t4.length c4)).setCell ⟨w.heap.size, 1, none⟩ (.bool b4)) (w.heap.size) [.slice A4 t4.length c4, .bool b4] := ((X1_7.out.other (p := ⟨w.heap.size + 3, 5, none⟩) (show w.heap.size + 3 ≠ w.heap.size by omega) (.int .i64 wd)).set2 (.slice A4 t4.length c4) (.bool b4))
  have Y2 : BoxL (((w7.setCell ⟨w.heap.size + 3, 5, none⟩ (.int .i64 wd)).setCell ⟨w.heap.size, 0, none⟩ (.slice A4 t4.length c4)).setCell ⟨w.heap.size, 1, none⟩ (.bool b4)) (w.heap.size + 1) [.int .i64 0, .int .i64 0, .slice none 0 0, .slice none 0 0, .int .i64 0, .int .i64 0, .slice none 0 0, .slice none 0 0] := ((X2_7.out.other (p := ⟨w.heap.size + 3, 5, none⟩) (show w.heap.size + 3 ≠ w.heap.size + 1 by omega) (.int .i64 wd)).other2 (show w.heap.size ≠ w.heap.size + 1 by omega) (.slice A4 t4.length c4) (.bool b4))
  have Y3 : BoxL (((w7.setCell ⟨w.heap.size + 3, 5, none⟩ (.int .i64 wd)).setCell ⟨w.heap.size, 0, none⟩ (.slice A4 t4.length c4)).setCell ⟨w.heap.size, 1, none⟩ (.bool b4)) (w.heap.size + 2) [.slice none 0 0, .bool false] := ((X3_7.out.other (p := ⟨w.heap.size + 3, 5, none⟩) (show w.heap.size + 3 ≠ w.heap.size + 2 by omega) (.int .i64 wd)).other2 (show w.heap.size ≠ w.heap.size + 2 by omega) (.slice A4 t4.length c4) (.bool b4))
  have Y4 : BoxL (((w7.setCell ⟨w.heap.size + 3, 5, none⟩ (.int .i64 wd)).setCell ⟨w.heap.size, 0, none⟩ (.slice A4 t4.length c4)).setCell ⟨w.heap.size, 1, none⟩ (.bool b4)) (w.heap.size + 3) [.int .i64 2, .int .i64 (N : Int), .slice none 0 0, .slice none 0 0, .int .i64 sc, .int .i64 wd, .slice none 0 0, .slice none 0 0] := ((X4_7.out.one (k := 5) rfl (.int .i64 wd)).other2 (show w.heap.size ≠ w.heap.size + 3 by omega) (.slice A4 t4.length c4) (.bool b4))
  have YK : Below w.heap.size w (((w7.setCell ⟨w.heap.size + 3, 5, none⟩ (.int .i64 wd)).setCell ⟨w.heap.size, 0, none⟩ (.slice A4 t4.length c4)).setCell ⟨w.heap.size, 1, none⟩ (.bool b4)) := (set2_below (k7.setCell (p := ⟨w.heap.size + 3, 5, none⟩) (show w.heap.size ≤ w.heap.size + 3 by omega) (.int .i64 wd)) (show w.heap.size ≤ w.heap.size by omega) (.slice A4 t4.length c4) (.bool b4))
  have YZ : w.heap.size + 4 ≤ ((((w7.setCell ⟨w.heap.size + 3, 5, none⟩ (.int .i64 wd)).setCell ⟨w.heap.size, 0, none⟩ (.slice A4 t4.length c4)).setCell ⟨w.heap.size, 1, none⟩ (.bool b4))).heap.size := by simpa using z7
  clear X1_7 X2_7 X3_7 X4_7 k7 z7
  obtain ⟨w8, hw8⟩ : ∃ wn, (((w7.setCell ⟨w.heap.size + 3, 5, none⟩ (.int .i64 wd)).setCell ⟨w.heap.size, 0, none⟩ (.slice A4 t4.length c4)).setCell ⟨w.heap.size, 1, none⟩ (.bool b4)) = wn := ⟨_, rfl⟩
  rw [hw8] at Y1 Y2 Y3 Y4 YK YZ ⊢
  have X1_8 := hid Y1
  have X2_8 := hid Y2
  have X3_8 := hid Y3
  have X4_8 := hid Y4
  have k8 := YK
  have z8 := YZ
  clear hw8 Y1 Y2 Y3 Y4 YK YZ
  obtain ⟨c1_0, c1_1, f1_0, f1_1⟩ := X1_8.out.two
  obtain ⟨⟨c4_0, c4_1, c4_2, c4_3, c4_4, c4_5, c4_6, c4_7⟩, f4_0, f4_1, f4_2, f4_3, f4_4, f4_5, f4_6, f4_7⟩ := X4_8.out.eight
  have HTH := hid (box_thr (o := 0) (n := 8) X2_8.out (by simp))
  go_wp2_with (refine wpList_many rfl 29 _ _ rfl (w.heap.size + 1) 0 #[.int .i64 2, .int .i64 (N : Int), .slice none 0 0, .slice none 0 0, .int .i64 sc, .int .i64 wd, .slice none 0 0, .slice none 0 0] rfl rfl HTH.out info_sn (by simp [Value.oneCell']) ?_)
  intro w9 hw9
  have hq9 : w9 = st8 w8 (w.heap.size + 1) (.int .i64 2) (.int .i64 (N : Int)) (.slice none 0 0) (.slice none 0 0) (.int .i64 sc) (.int .i64 wd) (.slice none 0 0) (.slice none 0 0) := hw9.out
  have X1_9 : Hid (BoxL w9 (w.heap.size) [.slice A4 t4.length c4, .bool b4]) := hid (by rw [hq9]; exact st8_other X1_8.out (by omega))
  clear X1_8
  have X2_9 : Hid (BoxL w9 (w.heap.size + 1) [.int .i64 2, .int .i64 (N : Int), .slice none 0 0, .slice none 0 0, .int .i64 sc, .int .i64 wd, .slice none 0 0, .slice none 0 0]) := hid (by rw [hq9]; exact st8_box X2_8.out)
  clear X2_8
  have X3_9 : Hid (BoxL w9 (w.heap.size + 2) [.slice none 0 0, .bool false]) := hid (by rw [hq9]; exact st8_other X3_8.out (by omega))
  clear X3_8
  have X4_9 : Hid (BoxL w9 (w.heap.size + 3) [.int .i64 2, .int .i64 (N : Int), .slice none 0 0, .slice none 0 0, .int .i64 sc, .int .i64 wd, .slice none 0 0, .slice none 0 0]) := hid (by rw [hq9]; exact st8_other X4_8.out (by omega))
  clear X4_8
  have k9 : Below w.heap.size w w9 := by rw [hq9]; exact st8_below k8 (by omega)
  have z9 : w.heap.size + 4 ≤ w9.heap.size := by rw [hq9]; simpa [st8] using z8
  clear k8 z8 hw9 hq9 HTH
  clear c1_0 c1_1 f1_0 f1_1 c4_0 f4_0 c4_1 f4_1 c4_2 f4_2 c4_3 f4_3 c4_4 f4_4 c4_5 f4_5 c4_6 f4_6 c4_7 f4_7
  obtain ⟨c3_0, c3_1, f3_0, f3_1⟩ := X3_9.out.two
  go_wp2_with fail
  clear c3_0 c3_1 f3_0 f3_1
  have Y1 : BoxL ((w9.setCell ⟨w.heap.size + 2, 0, none⟩ (.slice none 0 0)).setCell ⟨w.heap.size + 2, 1, none⟩ (.bool true)) (w.heap.size) [.slice A4 t4.length c4, .bool b4] := (X1_9.out.other2 (show w.heap.size + 2 ≠ w.heap.size by omega) (.slice none 0 0) (.bool true))
  have Y2 : BoxL ((w9.setCell ⟨w.heap.size + 2, 0, none⟩ (.slice none 0 0)).setCell ⟨w.heap.size + 2, 1, none⟩ (.bool true)) (w.heap.size + 1) [.int .i64 2, .int .i64 (N : Int), .slice none 0 0, .slice none 0 0, .int .i64 sc, .int .i64 wd, .slice none 0 0, .slice none 0 0] := (X2_9.out.other2 (show w.heap.size + 2 ≠ w.heap.size + 1 by omega) (.slice none 0 0) (.bool true))
  have Y3 : BoxL ((w9.setCell ⟨w.heap.size + 2, 0, none⟩ (.slice none 0 0)).setCell ⟨w.heap.size + 2, 1, none⟩ (.bool true)) (w.heap.size + 2) [.slice none 0 0, .bool true] := (X3_9.out.set2 (.slice none 0 0) (.bool true))
  have Y4 : BoxL ((w9.setCell ⟨w.heap.size + 2, 0, none⟩ (.slice none 0 0)).setCell ⟨w.heap.size + 2, 1, none⟩ (.bool true)) (w.heap.size + 3) [.int .i64 2, .int .i64 (N : Int), .slice none 0 0, .slice none 0 0, .int .i64 sc, .int .i64 wd, .slice none 0 0, .slice none 0 0] := (X4_9.out.other2 (show w.heap.size + 2 ≠ w.heap.size + 3 by omega) (.slice none 0 0) (.bool true))
  have YK : Below w.heap.size w ((w9.setCell ⟨w.heap.size + 2, 0, none⟩ (.slice none 0 0)).setCell ⟨w.heap.size + 2, 1, none⟩ (.bool true)) := (set2_below k9 (show w.heap.size ≤ w.heap.size + 2 by omega) (.slice none 0 0) (.bool true))
  have YZ : w.heap.size + 4 ≤ (((w9.setCell ⟨w.heap.size + 2, 0, none⟩ (.slice none 0 0)).setCell ⟨w.heap.size + 2, 1, none⟩ (.bool true))).heap.size := by simpa using z9
  clear X1_9 X2_9 X3_9 X4_9 k9 z9
  obtain ⟨w10, hw10⟩ : ∃ wn, ((w9.setCell ⟨w.heap.size + 2, 0, none⟩ (.slice none 0 0)).setCell ⟨w.heap.size + 2, 1, none⟩ (.bool true)) = wn := ⟨_, rfl⟩
  rw [hw10] at Y1 Y2 Y3 Y4 YK YZ ⊢
  have X1_10 := hid Y1
  have X2_10 := hid Y2
  have X3_10 := hid Y3
  have X4_10 := hid Y4
  have k10 := YK
  have z10 := YZ
  clear hw10 Y1 Y2 Y3 Y4 YK YZ
  obtain ⟨⟨c2_0, c2_1, c2_2, c2_3, c2_4, c2_5, c2_6, c2_7⟩, f2_0, f2_1, f2_2, f2_3, f2_4, f2_5, f2_6, f2_7⟩ := X2_10.out.eight
  obtain ⟨c3_0, c3_1, f3_0, f3_1⟩ := X3_10.out.two
  refine bodyPost_ret (v := .tuple #[.agg #[.int .i64 2, .int .i64 (N : Int), .slice none 0 0, .slice none 0 0, .int .i64 sc, .int .i64 wd, .slice none 0 0, .slice none 0 0], .agg #[.slice none 0 0, .bool true]]) (by simp [results, Tryz.results18, go_sem, c2_0, c2_1, c2_2, c2_3, c2_4, c2_5, c2_6, c2_7, c3_0, c3_1]) rfl ⟨⟨none, 0, none, 0, none, 0, none, 0⟩, none, 0, rfl, TxP.nil _ _, ⟨RdF.nil _ _, RdF.nil _ _, RdF.nil _ _, RdF.nil _ _⟩, k10⟩
end Go.Proofs.YtngdgbicjhlnaaaGreat
