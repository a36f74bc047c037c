
/- RFrP: texts joined: FrP. -/
import Derived.Test.YtngdgbicjhlnaaaGreatRe
import Derived.Test.YtngdgbicjhlnaaaGreatRFsO
import Derived.Test.YtngdgbicjhlnaaaGreatRc
/- The document's reader of a frame. -/
namespace Go.Proofs.YtngdgbicjhlnaaaGreat
open Go.RowKit
set_option maxHeartbeats 8000000
set_option maxRecDepth 100000
set_option linter.unusedVariables false
theorem sgd1_le : ∀ (k : Nat) (O : List Int) (t : Tx), (sgd1 k O t).1.length ≤ O.length + k
  | 0, O, t => by rw [sgd1]; exact Nat.le_refl _
  | k + 1, O, t => by
    rw [sgd1]
    split
    · simp
    · have := sgd1_le k (O ++ [zagI (getN t.1 0)]) (t.1.drop (getA t.1 0).toNat, false)
      rw [List.length_append, List.length_singleton] at this
      omega
theorem bitV1_le (m : Int) (b : List Int) : (bitV 1 m b).length ≤ 4096 := by
  unfold bitV
  split
  · rename_i h
    have := bys_ok (bitE_ok h).1
    rw [mkB_len]
    rw [show (1 : Int).toNat = 1 from rfl]
    omega
  · simp
theorem uwv_le (w m : Int) (b : List Int) : (uwvV w m b).length ≤ 4096 := by
  by_cases h : bitE w m b = 0
  · have := bys_ok (bitE_ok h).1
    have := uwv_len h
    omega
  · unfold uwvV
    rw [if_neg h]
    simp
theorem neg1_ln {s : SentV} (t : Tx) (h : lnS 100000 s) : lnS 100000 (neg1 s t).1 := by
  unfold neg1
  exact ⟨h.1, h.2.1, h.2.2.1, by have := bitV1_le s.dim (prt1 ((s.dim + 7) / 8) t).1; show (bitV 1 s.dim _).length ≤ 100000; omega⟩
theorem sent1_ln {t : List Int} (b : Bool) (ut : U8s t) : lnS 100000 (sent1 (t, b)).1 := by
  obtain ⟨x, t1, b1, hx⟩ : ∃ x t1 b1, by1 (t, b) = (x, t1, b1) := ⟨_, _, _, rfl⟩
  obtain ⟨ut1, l1, hx0, hx255⟩ := by1_all ut hx
  obtain ⟨n, t2, b2, hn⟩ : ∃ n t2 b2, num1 4096 (t1, b1) = (n, t2, b2) := ⟨_, _, _, rfl⟩
  obtain ⟨ut2, l2, hn0, hn4⟩ := num1_all (by decide) ut1 hn
  have nil : ∀ a b c d, lnS 100000 ⟨a, b, [], [], c, d, [], []⟩ := fun a b c d => ⟨by show 0 ≤ 100000; decide, by show 0 ≤ 100000; decide, by show 0 ≤ 100000; decide, by show 0 ≤ 100000; decide⟩
  unfold sent1
  rw [hx]
  simp only [hn]
  split
  · exact nil _ _ _ _
  · unfold rest1
    split
    · unfold top1
      split
      · exact nil _ _ _ _
      · have h1 := gix_len n t2 0
        have h2 := sgd1_le (gixR n t2 0).1.length [] (t2.drop (gixR n t2 0).2.1.toNat, false)
        have h3 : (sgd1 (gixR n t2 0).1.length [] (t2.drop (gixR n t2 0).2.1.toNat, false)).1.length ≤ 100000 := by simp only [List.length_nil] at h2; omega
        exact ⟨Nat.le_trans h1 (by decide), h3, by show 0 ≤ 100000; decide, by show 0 ≤ 100000; decide⟩
    · split
      · unfold dns1
        have h2 := sgd1_le n.toNat [] (t2, b2)
        have h3 : (sgd1 n.toNat [] (t2, b2)).1.length ≤ 100000 := by simp only [List.length_nil] at h2; omega
        exact ⟨by show 0 ≤ 100000; decide, h3, by show 0 ≤ 100000; decide, by show 0 ≤ 100000; decide⟩
      · split
        · unfold lev1
          split
          · exact nil _ _ _ _
          · split
            · exact nil _ _ _ _
            · refine neg1_ln _ ⟨by show 0 ≤ 100000; decide, by show 0 ≤ 100000; decide, ?_, by show 0 ≤ 100000; decide⟩
              exact Nat.le_trans (uwv_le (by1 (num1 top63 (t2, b2)).2).1 n (prt1 (((by1 (num1 top63 (t2, b2)).2).1 * n + 7) / 8) (by1 (num1 top63 (t2, b2)).2).2).1) (by decide)
        · exact neg1_ln _ (nil _ _ _ _)
theorem opn_len (b : List Int) : (openV b).length ≤ b.length := openV_len b
theorem read_bad {A : Option Addr} {c : Nat} (b : List Int) (hb : b.length ≤ 70000) (hcap : b.length ≤ c) (hc : c ≤ 9223372036854775807) (ub : U8s b) (w : World) (ra : Rd (Value.int .u8) w w.heap.size A b) (he : openE b ≠ 0) :
    Calls Tryz.prog 6 #[.slice A b.length c] w (OwnFr (zeroF, openE b) w) := by
  have CO := hid (fun W (h : Below w.heap.size w W) => ref_Open (A := A) (c := c) b (by omega) hcap ub W ((ra.below h).more h.size))
  have HZ0 : Hid (BoxL (w.alloc (.cells #[.int .i64 0, .int .i64 0, .int .i64 0, .int .i64 0, .int .i64 0, .slice none 0 0, .slice none 0 0, .int .i64 0, .int .i64 0, .slice none 0 0, .slice none 0 0] 31)) w.heap.size (cellsG zeroF bareP)) := hid (BoxL.new w _ _)
  obtain ⟨V, hV⟩ : ∃ V, openV b = V := ⟨_, rfl⟩
  obtain ⟨E, hE⟩ : ∃ E, openE b = E := ⟨_, rfl⟩
  rw [hV, hE] at CO
  rw [hE] at he ⊢
  have gE : (E != 0) = true := by simpa using he
  clear hV hE he ra ub
  go_enter Tryz.func6, Tryz.ntmps6
  go_wp2_with fail
  refine (CO.out _ (by go_grown)).mono ?_
  rintro _ w1 ⟨A1, c1, rfl, ho1, hb1⟩
  have k1 : Below w.heap.size w w1 := Below.trans (by go_grown) (hb1.mono (by simp))
  have hz1 : w.heap.size < w1.heap.size := Nat.lt_of_lt_of_le (by simp) hb1.size
  have HZ1 := hid (HZ0.out.below hb1 (by simp))
  clear hb1 HZ0 CO ho1
  have hT11 := hid (box_there (o := 0) (n := 11) HZ1.out (by simp [cellsG]))
  have HG7 := hid (And.intro HZ1.out k1)
  go_wp2_with (refine wpList_st rfl 31 _ _ rfl w.heap.size 0 #[.int .i64 0, .int .i64 0, .int .i64 0, .int .i64 0, .int .i64 0, .slice none 0 0, .slice none 0 0, .int .i64 0, .int .i64 0, .slice none 0 0, .slice none 0 0] rfl rfl hT11.out info_frame (by simp [Value.oneCell']) ?_)
  intro W8 hW8
  have HG8 : Hid (BoxL W8 w.heap.size (cellsG zeroF bareP) ∧ Below w.heap.size w W8) := hid (by
    rw [hW8.out]
    obtain ⟨hz7, k7⟩ := HG7.out
    exact ⟨lay11_box hz7 zeroF bareP, k7.trans ((lay11_off w1 w.heap.size zeroF bareP).below (Nat.le_refl _) (Nat.le_refl _) k7.size)⟩)
  clear hW8 HG7 hT11
  obtain ⟨z0, z1, z2, z3, z4, z5, z6, z7, z8, z9, z10⟩ := (box_G HG8.out.1).1
  go_wp2_with fail
  refine bodyPost_ret (v := .tuple #[encF zeroF bareP, .int .i64 E]) (by simp [results, Tryz.results6, go_sem, z0, z1, z2, z3, z4, z5, z6, z7, z8, z9, z10, zeroF, zeroS, bareP]) rfl ⟨bareP, rfl, ⟨Rd.none_, Rd.none_, Rd.none_, Rd.none_⟩, HG8.out.2⟩
theorem read_none {A : Option Addr} {c : Nat} (b : List Int) (hb : b.length ≤ 70000) (hcap : b.length ≤ c) (hc : c ≤ 9223372036854775807) (ub : U8s b) (w : World) (ra : Rd (Value.int .u8) w w.heap.size A b) (he : openE b = 0) {ver : Int} {o1 : List Int} {v1 : Bool} (hv : by1 (openV b, false) = (ver, o1, v1)) (uo1 : U8s o1) {knd : Int} {o2 : List Int} {v2 : Bool} (hk : by1 (o1, v1) = (knd, o2, v2)) (uo2 : U8s o2) {frm : Int} {o3 : List Int} {v3 : Bool} (hf : num1 63 (o2, v2) = (frm, o3, v3)) (uo3 : U8s o3) {stp : Int} {o4 : List Int} {v4 : Bool} (hs : num1 1073741824 (o3, v3) = (stp, o4, v4)) (uo4 : U8s o4) (lo4 : o4.length ≤ 70000) (hk1 : knd ≠ 1) (hwf : wfF ⟨knd, frm, stp, zeroS⟩) :
    Calls Tryz.prog 6 #[.slice A b.length c] w (OwnFr (endR ver (⟨knd, frm, stp, zeroS⟩, (o4, v4))) w) := by
  have CO := hid (fun W (h : Below w.heap.size w W) => ref_Open (A := A) (c := c) b (by omega) hcap ub W ((ra.below h).more h.size))
  have HZ0 : Hid (BoxL (w.alloc (.cells #[.int .i64 0, .int .i64 0, .int .i64 0, .int .i64 0, .int .i64 0, .slice none 0 0, .slice none 0 0, .int .i64 0, .int .i64 0, .slice none 0 0, .slice none 0 0] 31)) w.heap.size (cellsG zeroF bareP)) := hid (BoxL.new w _ _)
  have uo := openV_u8 ub
  have hol : (openV b).length ≤ 70000 := by have := openV_len b; omega
  rw [he] at CO
  obtain ⟨o, ho⟩ : ∃ o, openV b = o := ⟨_, rfl⟩
  rw [ho] at uo hol CO hv
  have HE : Hid ((v4 = true ∨ o4 ≠ [] ∨ ver ≠ 1 ∨ chkF (⟨knd, frm, stp, zeroS⟩ : FrameV) ≠ 0 → endR ver ((⟨knd, frm, stp, zeroS⟩ : FrameV), (o4, v4)) = (zeroF, 6)) ∧ (v4 = false → o4 = [] → ver = 1 → chkF (⟨knd, frm, stp, zeroS⟩ : FrameV) = 0 → endR ver ((⟨knd, frm, stp, zeroS⟩ : FrameV), (o4, v4)) = ((⟨knd, frm, stp, zeroS⟩ : FrameV), 0))) := hid ⟨fun h => if_pos h, fun h1 h2 h3 h4 => if_neg (by simp [h1, h2, h3, h4])⟩
  obtain ⟨r, hr⟩ : ∃ r, endR ver ((⟨knd, frm, stp, zeroS⟩ : FrameV), (o4, v4)) = r := ⟨_, rfl⟩
  rw [hr] at HE ⊢
  clear hr
  have gk : (knd == 1) = false := by simpa using hk1
  have CK := hid (fun W (hS : RdS W W.heap.size zeroS bareP) => ref_CheckF ⟨knd, frm, stp, zeroS⟩ bareP (ln_zero _) hwf W (B := W.heap.size) (Nat.le_refl _) hS)
  obtain ⟨C, hC⟩ : ∃ C, chkF ⟨knd, frm, stp, zeroS⟩ = C := ⟨_, rfl⟩
  rw [hC] at CK HE
  clear hC hwf he ra ub ho hb
  go_enter Tryz.func6, Tryz.ntmps6
  go_wp2_with fail
  refine (CO.out _ (by go_grown)).mono ?_
  rintro _ w1 ⟨A1, c1, rfl, ho1, hb1⟩
  have k1 : Below w.heap.size w w1 := Below.trans (by go_grown) (hb1.mono (by simp))
  have hz1 : w.heap.size < w1.heap.size := Nat.lt_of_lt_of_le (by simp) hb1.size
  have HZ1 := hid (HZ0.out.below hb1 (by simp))
  have HO1 := hid (own_rd ho1)
  have hc1 := own_cap ho1
  have HT0 : Hid (TxP w1 w1.heap.size o A1 c1) := hid ⟨HO1.out, hc1.1, hc1.2⟩
  clear hb1 HZ0 CO ho1 HO1 hc1
  go_wp2_with fail
  have q2 : Below w1.heap.size w1 (w1.alloc (.cells #[.int .i64 0, .int .i64 0, .int .i64 0, .int .i64 0, .int .i64 0, .slice none 0 0, .slice none 0 0, .int .i64 0, .int .i64 0, .slice none 0 0, .slice none 0 0] 31)) := grow1 _ _
  have Y6 : BoxL (w1.alloc (.cells #[.int .i64 0, .int .i64 0, .int .i64 0, .int .i64 0, .int .i64 0, .slice none 0 0, .slice none 0 0, .int .i64 0, .int .i64 0, .slice none 0 0, .slice none 0 0] 31)) w1.heap.size [.int .i64 0, .int .i64 0, .int .i64 0, .int .i64 0, .int .i64 0, .slice none 0 0, .slice none 0 0, .int .i64 0, .int .i64 0, .slice none 0 0, .slice none 0 0] := BoxL.new w1 _ _
  obtain ⟨w2, hw2⟩ : ∃ wn, (w1.alloc (.cells #[.int .i64 0, .int .i64 0, .int .i64 0, .int .i64 0, .int .i64 0, .slice none 0 0, .slice none 0 0, .int .i64 0, .int .i64 0, .slice none 0 0, .slice none 0 0] 31)) = wn := ⟨_, rfl⟩
  rw [hw2] at q2 Y6 ⊢
  clear hw2
  have X6_2 := hid Y6
  clear Y6
  refine (byte1_is o false hv w2 q2.size uo (HT0.out.fore q2 (Nat.le_refl _))).mono ?_
  rintro _ w3 ⟨A3, c3, rfl, ht3, hb3⟩
  have X6_3 := hid (X6_2.out.below hb3 (X6_2.out.lt (by simp)))
  clear X6_2
  have q3 := q2.trans (hb3.mono q2.size)
  clear q2
  clear hb3
  have HT3 := hid (ht3.back q3 (Nat.le_refl _))
  clear ht3 HT0
  go_wp2_with fail
  have hg4 : Below w3.heap.size w3 (w3.alloc (.cells #[.slice A3 o1.length c3, .bool v1] 49)) := grow1 _ _
  have hn4 : BoxL (w3.alloc (.cells #[.slice A3 o1.length c3, .bool v1] 49)) w3.heap.size [.slice A3 o1.length c3, .bool v1] := BoxL.new w3 _ _
  have hl3 := X6_3.out.lt (by simp)
  obtain ⟨w4, hw4⟩ : ∃ wn, (w3.alloc (.cells #[.slice A3 o1.length c3, .bool v1] 49)) = wn := ⟨_, rfl⟩
  rw [hw4] at hg4 hn4 ⊢
  clear hw4
  obtain ⟨G8, hG8⟩ : ∃ G, w3.heap.size = G := ⟨_, rfl⟩
  rw [hG8] at hn4 hl3 ⊢
  have X6_4 := hid (X6_3.out.below hg4 (X6_3.out.lt (by simp)))
  clear X6_3
  have q4 := q3.trans (hg4.mono q3.size)
  clear q3
  have X8_4 := hid hn4
  clear hn4 hg4 hG8
  refine (byte1_is o1 v1 hk w4 q4.size uo1 (HT3.out.fore q4 (Nat.le_refl _))).mono ?_
  rintro _ w5 ⟨A5, c5, rfl, ht5, hb5⟩
  have X6_5 := hid (X6_4.out.below hb5 (X6_4.out.lt (by simp)))
  clear X6_4
  have X8_5 := hid (X8_4.out.below hb5 (X8_4.out.lt (by simp)))
  clear X8_4
  have q5 := q4.trans (hb5.mono q4.size)
  clear q4
  clear hb5
  have HT5 := hid (ht5.back q5 (Nat.le_refl _))
  clear ht5 HT3
  obtain ⟨c0, f0⟩ := X6_5.out 0 _ rfl
  obtain ⟨c1, f1⟩ := X6_5.out 1 _ rfl
  obtain ⟨c2, f2⟩ := X6_5.out 2 _ rfl
  obtain ⟨c3, f3⟩ := X6_5.out 3 _ rfl
  obtain ⟨c4, f4⟩ := X6_5.out 4 _ rfl
  obtain ⟨c5, f5⟩ := X6_5.out 5 _ rfl
  obtain ⟨c6, f6⟩ := X6_5.out 6 _ rfl
  obtain ⟨c7, f7⟩ := X6_5.out 7 _ rfl
  obtain ⟨c8, f8⟩ := X6_5.out 8 _ rfl
  obtain ⟨c9, f9⟩ := X6_5.out 9 _ rfl
  obtain ⟨c10, f10⟩ := X6_5.out 10 _ rfl
  obtain ⟨e0, e1, g0, g1⟩ := X8_5.out.two
  go_wp2_with fail
  clear c0 f0 c1 f1 c2 f2 c3 f3 c4 f4 c5 f5 c6 f6 c7 f7 c8 f8 c9 f9 c10 f10
  clear e0 e1 g0 g1
  have Y6 : BoxL (((w5.setCell ⟨w1.heap.size, 0, none⟩ (.int .i64 knd)).setCell ⟨G8, 0, none⟩ (.slice A5 o2.length c5)).setCell ⟨G8, 1, none⟩ (.bool v2)) w1.heap.size [.int .i64 knd, .int .i64 0, .int .i64 0, .int .i64 0, .int .i64 0, .slice none 0 0, .slice none 0 0, .int .i64 0, .int .i64 0, .slice none 0 0, .slice none 0 0] := ((BoxL.one X6_5.out (k := 0) rfl (.int .i64 knd)).other2 (show G8 ≠ w1.heap.size by omega) (.slice A5 o2.length c5) (.bool v2))
  have Y8 : BoxL (((w5.setCell ⟨w1.heap.size, 0, none⟩ (.int .i64 knd)).setCell ⟨G8, 0, none⟩ (.slice A5 o2.length c5)).setCell ⟨G8, 1, none⟩ (.bool v2)) G8 [.slice A5 o2.length c5, .bool v2] := ((X8_5.out.other (p := ⟨w1.heap.size, 0, none⟩) (show w1.heap.size ≠ G8 by omega) (.int .i64 knd)).set2 (.slice A5 o2.length c5) (.bool v2))
  have YK : Below w1.heap.size w1 (((w5.setCell ⟨w1.heap.size, 0, none⟩ (.int .i64 knd)).setCell ⟨G8, 0, none⟩ (.slice A5 o2.length c5)).setCell ⟨G8, 1, none⟩ (.bool v2)) := (set2_below (q5.setCell (p := ⟨w1.heap.size, 0, none⟩) (Nat.le_refl _) (.int .i64 knd)) (show w1.heap.size ≤ G8 by omega) (.slice A5 o2.length c5) (.bool v2))
  clear X6_5 X8_5 q5
  obtain ⟨w6, hw6⟩ : ∃ wn, (((w5.setCell ⟨w1.heap.size, 0, none⟩ (.int .i64 knd)).setCell ⟨G8, 0, none⟩ (.slice A5 o2.length c5)).setCell ⟨G8, 1, none⟩ (.bool v2)) = wn := ⟨_, rfl⟩
  rw [hw6] at Y6 Y8 YK ⊢
  clear hw6
  have X6_6 := hid Y6
  have X8_6 := hid Y8
  have q6 := YK
  clear Y6 Y8 YK
  refine (number_is 63 (by decide) (by decide) o2 v2 hf w6 q6.size uo2 (HT5.out.fore q6 (Nat.le_refl _))).mono ?_
  rintro _ w7 ⟨A7, c7, rfl, ht7, hb7⟩
  have X6_7 := hid (X6_6.out.below hb7 (X6_6.out.lt (by simp)))
  clear X6_6
  have X8_7 := hid (X8_6.out.below hb7 (X8_6.out.lt (by simp)))
  clear X8_6
  have q7 := q6.trans (hb7.mono q6.size)
  clear q6
  clear hb7
  have HT7 := hid (ht7.back q7 (Nat.le_refl _))
  clear ht7 HT5
  obtain ⟨c0, f0⟩ := X6_7.out 0 _ rfl
  obtain ⟨c1, f1⟩ := X6_7.out 1 _ rfl
  obtain ⟨c2, f2⟩ := X6_7.out 2 _ rfl
  obtain ⟨c3, f3⟩ := X6_7.out 3 _ rfl
  obtain ⟨c4, f4⟩ := X6_7.out 4 _ rfl
  obtain ⟨c5, f5⟩ := X6_7.out 5 _ rfl
  obtain ⟨c6, f6⟩ := X6_7.out 6 _ rfl
  obtain ⟨c7, f7⟩ := X6_7.out 7 _ rfl
  obtain ⟨c8, f8⟩ := X6_7.out 8 _ rfl
  obtain ⟨c9, f9⟩ := X6_7.out 9 _ rfl
  obtain ⟨c10, f10⟩ := X6_7.out 10 _ rfl
  obtain ⟨e0, e1, g0, g1⟩ := X8_7.out.two
  go_wp2_with fail
  clear c0 f0 c1 f1 c2 f2 c3 f3 c4 f4 c5 f5 c6 f6 c7 f7 c8 f8 c9 f9 c10 f10
  clear e0 e1 g0 g1
  have Y6 : BoxL (((w7.setCell ⟨w1.heap.size, 1, none⟩ (.int .i64 frm)).setCell ⟨G8, 0, none⟩ (.slice A7 o3.length c7)).setCell ⟨G8, 1, none⟩ (.bool v3)) w1.heap.size [.int .i64 knd, .int .i64 frm, .int .i64 0, .int .i64 0, .int .i64 0, .slice none 0 0, .slice none 0 0, .int .i64 0, .int .i64 0, .slice none 0 0, .slice none 0 0] := ((BoxL.one X6_7.out (k := 1) rfl (.int .i64 frm)).other2 (show G8 ≠ w1.heap.size by omega) (.slice A7 o3.length c7) (.bool v3))
  have Y8 : BoxL (((w7.setCell ⟨w1.heap.size, 1, none⟩ (.int .i64 frm)).setCell ⟨G8, 0, none⟩ (.slice A7 o3.length c7)).setCell ⟨G8, 1, none⟩ (.bool v3)) G8 [.slice A7 o3.length c7, .bool v3] := ((X8_7.out.other (p := ⟨w1.heap.size, 1, none⟩) (show w1.heap.size ≠ G8 by omega) (.int .i64 frm)).set2 (.slice A7 o3.length c7) (.bool v3))
  have YK : Below w1.heap.size w1 (((w7.setCell ⟨w1.heap.size, 1, none⟩ (.int .i64 frm)).setCell ⟨G8, 0, none⟩ (.slice A7 o3.length c7)).setCell ⟨G8, 1, none⟩ (.bool v3)) := (set2_below (q7.setCell (p := ⟨w1.heap.size, 1, none⟩) (Nat.le_refl _) (.int .i64 frm)) (show w1.heap.size ≤ G8 by omega) (.slice A7 o3.length c7) (.bool v3))
  clear X6_7 X8_7 q7
  obtain ⟨w8, hw8⟩ : ∃ wn, (((w7.setCell ⟨w1.heap.size, 1, none⟩ (.int .i64 frm)).setCell ⟨G8, 0, none⟩ (.slice A7 o3.length c7)).setCell ⟨G8, 1, none⟩ (.bool v3)) = wn := ⟨_, rfl⟩
  rw [hw8] at Y6 Y8 YK ⊢
  clear hw8
  have X6_8 := hid Y6
  have X8_8 := hid Y8
  have q8 := YK
  clear Y6 Y8 YK
  refine (number_is 1073741824 (by decide) (by decide) o3 v3 hs w8 q8.size uo3 (HT7.out.fore q8 (Nat.le_refl _))).mono ?_
  rintro _ w9 ⟨A9, c9, rfl, ht9, hb9⟩
  have X6_9 := hid (X6_8.out.below hb9 (X6_8.out.lt (by simp)))
  clear X6_8
  have X8_9 := hid (X8_8.out.below hb9 (X8_8.out.lt (by simp)))
  clear X8_8
  have q9 := q8.trans (hb9.mono q8.size)
  clear q8
  clear hb9
  have HT9 := hid (ht9.back q9 (Nat.le_refl _))
  clear ht9 HT7
  obtain ⟨c0, f0⟩ := X6_9.out 0 _ rfl
  obtain ⟨c1, f1⟩ := X6_9.out 1 _ rfl
  obtain ⟨c2, f2⟩ := X6_9.out 2 _ rfl
  obtain ⟨c3, f3⟩ := X6_9.out 3 _ rfl
  obtain ⟨c4, f4⟩ := X6_9.out 4 _ rfl
  obtain ⟨c5, f5⟩ := X6_9.out 5 _ rfl
  obtain ⟨c6, f6⟩ := X6_9.out 6 _ rfl
  obtain ⟨c7, f7⟩ := X6_9.out 7 _ rfl
  obtain ⟨c8, f8⟩ := X6_9.out 8 _ rfl
  obtain ⟨c9, f9⟩ := X6_9.out 9 _ rfl
  obtain ⟨c10, f10⟩ := X6_9.out 10 _ rfl
  obtain ⟨e0, e1, g0, g1⟩ := X8_9.out.two
  go_upto_region 9 with fail
  clear c0 f0 c1 f1 c2 f2 c3 f3 c4 f4 c5 f5 c6 f6 c7 f7 c8 f8 c9 f9 c10 f10
  clear e0 e1 g0 g1
  have Y6 : BoxL (((w9.setCell ⟨w1.heap.size, 2, none⟩ (.int .i64 stp)).setCell ⟨G8, 0, none⟩ (.slice A9 o4.length c9)).setCell ⟨G8, 1, none⟩ (.bool v4)) w1.heap.size [.int .i64 knd, .int .i64 frm, .int .i64 stp, .int .i64 0, .int .i64 0, .slice none 0 0, .slice none 0 0, .int .i64 0, .int .i64 0, .slice none 0 0, .slice none 0 0] := ((BoxL.one X6_9.out (k := 2) rfl (.int .i64 stp)).other2 (show G8 ≠ w1.heap.size by omega) (.slice A9 o4.length c9) (.bool v4))
  have Y8 : BoxL (((w9.setCell ⟨w1.heap.size, 2, none⟩ (.int .i64 stp)).setCell ⟨G8, 0, none⟩ (.slice A9 o4.length c9)).setCell ⟨G8, 1, none⟩ (.bool v4)) G8 [.slice A9 o4.length c9, .bool v4] := ((X8_9.out.other (p := ⟨w1.heap.size, 2, none⟩) (show w1.heap.size ≠ G8 by omega) (.int .i64 stp)).set2 (.slice A9 o4.length c9) (.bool v4))
  have YK : Below w1.heap.size w1 (((w9.setCell ⟨w1.heap.size, 2, none⟩ (.int .i64 stp)).setCell ⟨G8, 0, none⟩ (.slice A9 o4.length c9)).setCell ⟨G8, 1, none⟩ (.bool v4)) := (set2_below (q9.setCell (p := ⟨w1.heap.size, 2, none⟩) (Nat.le_refl _) (.int .i64 stp)) (show w1.heap.size ≤ G8 by omega) (.slice A9 o4.length c9) (.bool v4))
  clear X6_9 X8_9 q9
  obtain ⟨w10, hw10⟩ : ∃ wn, (((w9.setCell ⟨w1.heap.size, 2, none⟩ (.int .i64 stp)).setCell ⟨G8, 0, none⟩ (.slice A9 o4.length c9)).setCell ⟨G8, 1, none⟩ (.bool v4)) = wn := ⟨_, rfl⟩
  rw [hw10] at Y6 Y8 YK ⊢
  clear hw10
  have X6_10 := hid Y6
  have X8_10 := hid Y8
  have q10 := YK
  clear Y6 Y8 YK
  cases v4 with
  | true =>
    have hr := HE.out.1 (Or.inl rfl)
    subst hr
    obtain ⟨c0, f0⟩ := X6_10.out 0 _ rfl
    obtain ⟨c1, f1⟩ := X6_10.out 1 _ rfl
    obtain ⟨c2, f2⟩ := X6_10.out 2 _ rfl
    obtain ⟨c3, f3⟩ := X6_10.out 3 _ rfl
    obtain ⟨c4, f4⟩ := X6_10.out 4 _ rfl
    obtain ⟨c5, f5⟩ := X6_10.out 5 _ rfl
    obtain ⟨c6, f6⟩ := X6_10.out 6 _ rfl
    obtain ⟨c7, f7⟩ := X6_10.out 7 _ rfl
    obtain ⟨c8, f8⟩ := X6_10.out 8 _ rfl
    obtain ⟨c9, f9⟩ := X6_10.out 9 _ rfl
    obtain ⟨c10, f10⟩ := X6_10.out 10 _ rfl
    obtain ⟨e0, e1, g0, g1⟩ := X8_10.out.two
    have HZn := hid (HZ1.out.below q10 hz1)
    have kn := k1.trans (q10.mono k1.size)
    have hT11 := hid (box_there (o := 0) (n := 11) HZn.out (by simp [cellsG]))
    have HG7 := hid (And.intro HZn.out kn)
    go_wp2_with (refine wpList_st rfl 31 _ _ rfl w.heap.size 0 #[.int .i64 0, .int .i64 0, .int .i64 0, .int .i64 0, .int .i64 0, .slice none 0 0, .slice none 0 0, .int .i64 0, .int .i64 0, .slice none 0 0, .slice none 0 0] rfl rfl hT11.out info_frame (by simp [Value.oneCell']) ?_)
    intro W8 hW8
    have HG8 : Hid (BoxL W8 w.heap.size (cellsG zeroF bareP) ∧ Below w.heap.size w W8) := hid (by
      rw [hW8.out]
      obtain ⟨hz7, k7⟩ := HG7.out
      exact ⟨lay11_box hz7 zeroF bareP, k7.trans ((lay11_off w10 w.heap.size zeroF bareP).below (Nat.le_refl _) (Nat.le_refl _) k7.size)⟩)
    clear hW8 HG7 hT11
    obtain ⟨z0, z1, z2, z3, z4, z5, z6, z7, z8, z9, z10⟩ := (box_G HG8.out.1).1
    go_wp2_with fail
    refine bodyPost_ret (v := .tuple #[encF zeroF bareP, .int .i64 6]) (by simp [results, Tryz.results6, go_sem, z0, z1, z2, z3, z4, z5, z6, z7, z8, z9, z10, zeroF, zeroS, bareP]) rfl ⟨bareP, rfl, ⟨Rd.none_, Rd.none_, Rd.none_, Rd.none_⟩, HG8.out.2⟩
  | false =>
    by_cases hl0 : 0 < o4.length
    · have hr := HE.out.1 (Or.inr (Or.inl (by intro h; rw [h] at hl0; simp at hl0)))
      subst hr
      have hli : (0 : Int) < (o4.length : Int) := by omega
      obtain ⟨c0, f0⟩ := X6_10.out 0 _ rfl
      obtain ⟨c1, f1⟩ := X6_10.out 1 _ rfl
      obtain ⟨c2, f2⟩ := X6_10.out 2 _ rfl
      obtain ⟨c3, f3⟩ := X6_10.out 3 _ rfl
      obtain ⟨c4, f4⟩ := X6_10.out 4 _ rfl
      obtain ⟨c5, f5⟩ := X6_10.out 5 _ rfl
      obtain ⟨c6, f6⟩ := X6_10.out 6 _ rfl
      obtain ⟨c7, f7⟩ := X6_10.out 7 _ rfl
      obtain ⟨c8, f8⟩ := X6_10.out 8 _ rfl
      obtain ⟨c9, f9⟩ := X6_10.out 9 _ rfl
      obtain ⟨c10, f10⟩ := X6_10.out 10 _ rfl
      obtain ⟨e0, e1, g0, g1⟩ := X8_10.out.two
      have HZn := hid (HZ1.out.below q10 hz1)
      have kn := k1.trans (q10.mono k1.size)
      have hT11 := hid (box_there (o := 0) (n := 11) HZn.out (by simp [cellsG]))
      have HG7 := hid (And.intro HZn.out kn)
      go_wp2_with (refine wpList_st rfl 31 _ _ rfl w.heap.size 0 #[.int .i64 0, .int .i64 0, .int .i64 0, .int .i64 0, .int .i64 0, .slice none 0 0, .slice none 0 0, .int .i64 0, .int .i64 0, .slice none 0 0, .slice none 0 0] rfl rfl hT11.out info_frame (by simp [Value.oneCell']) ?_)
      intro W8 hW8
      have HG8 : Hid (BoxL W8 w.heap.size (cellsG zeroF bareP) ∧ Below w.heap.size w W8) := hid (by
        rw [hW8.out]
        obtain ⟨hz7, k7⟩ := HG7.out
        exact ⟨lay11_box hz7 zeroF bareP, k7.trans ((lay11_off w10 w.heap.size zeroF bareP).below (Nat.le_refl _) (Nat.le_refl _) k7.size)⟩)
      clear hW8 HG7 hT11
      obtain ⟨z0, z1, z2, z3, z4, z5, z6, z7, z8, z9, z10⟩ := (box_G HG8.out.1).1
      go_wp2_with fail
      refine bodyPost_ret (v := .tuple #[encF zeroF bareP, .int .i64 6]) (by simp [results, Tryz.results6, go_sem, z0, z1, z2, z3, z4, z5, z6, z7, z8, z9, z10, zeroF, zeroS, bareP]) rfl ⟨bareP, rfl, ⟨Rd.none_, Rd.none_, Rd.none_, Rd.none_⟩, HG8.out.2⟩
    · have hnil : o4 = [] := List.length_eq_zero_iff.1 (by omega)
      subst hnil
      by_cases hver : ver = 1
      · by_cases hch : C = 0
        · have hr := HE.out.2 rfl rfl hver hch
          subst hr
          subst hver
          subst hch
          obtain ⟨c0, f0⟩ := X6_10.out 0 _ rfl
          obtain ⟨c1, f1⟩ := X6_10.out 1 _ rfl
          obtain ⟨c2, f2⟩ := X6_10.out 2 _ rfl
          obtain ⟨c3, f3⟩ := X6_10.out 3 _ rfl
          obtain ⟨c4, f4⟩ := X6_10.out 4 _ rfl
          obtain ⟨c5, f5⟩ := X6_10.out 5 _ rfl
          obtain ⟨c6, f6⟩ := X6_10.out 6 _ rfl
          obtain ⟨c7, f7⟩ := X6_10.out 7 _ rfl
          obtain ⟨c8, f8⟩ := X6_10.out 8 _ rfl
          obtain ⟨c9, f9⟩ := X6_10.out 9 _ rfl
          obtain ⟨c10, f10⟩ := X6_10.out 10 _ rfl
          obtain ⟨e0, e1, g0, g1⟩ := X8_10.out.two
          go_wp2_with fail
          refine (CK.out w10 ⟨Rd.none_, Rd.none_, Rd.none_, Rd.none_⟩).mono ?_
          rintro _ wc ⟨rfl, hbc⟩
          clear c0 f0 c1 f1 c2 f2 c3 f3 c4 f4 c5 f5 c6 f6 c7 f7 c8 f8 c9 f9 c10 f10
          clear e0 e1 g0 g1
          have XC := hid (X6_10.out.below hbc (X6_10.out.lt (by simp)))
          have kc := q10.trans (hbc.mono q10.size)
          have HZn := hid (HZ1.out.below kc hz1)
          have kn := k1.trans (kc.mono k1.size)
          obtain ⟨c0, f0⟩ := XC.out 0 _ rfl
          obtain ⟨c1, f1⟩ := XC.out 1 _ rfl
          obtain ⟨c2, f2⟩ := XC.out 2 _ rfl
          obtain ⟨c3, f3⟩ := XC.out 3 _ rfl
          obtain ⟨c4, f4⟩ := XC.out 4 _ rfl
          obtain ⟨c5, f5⟩ := XC.out 5 _ rfl
          obtain ⟨c6, f6⟩ := XC.out 6 _ rfl
          obtain ⟨c7, f7⟩ := XC.out 7 _ rfl
          obtain ⟨c8, f8⟩ := XC.out 8 _ rfl
          obtain ⟨c9, f9⟩ := XC.out 9 _ rfl
          obtain ⟨c10, f10⟩ := XC.out 10 _ rfl
          have hT11 := hid (box_there (o := 0) (n := 11) HZn.out (by simp [cellsG]))
          have HG7 := hid (And.intro HZn.out kn)
          go_wp2_with (refine wpList_st rfl 31 _ _ rfl w.heap.size 0 #[.int .i64 knd, .int .i64 frm, .int .i64 stp, .int .i64 0, .int .i64 0, .slice none 0 0, .slice none 0 0, .int .i64 0, .int .i64 0, .slice none 0 0, .slice none 0 0] rfl rfl hT11.out info_frame (by simp [Value.oneCell']) ?_)
          intro W8 hW8
          have HG8 : Hid (BoxL W8 w.heap.size (cellsG (⟨knd, frm, stp, zeroS⟩ : FrameV) bareP) ∧ Below w.heap.size w W8 ∧ RdS W8 W8.heap.size (⟨knd, frm, stp, zeroS⟩ : FrameV).S bareP) := hid (by
            rw [hW8.out]
            obtain ⟨hz7, k7⟩ := HG7.out
            have oa := lay11_off wc w.heap.size (⟨knd, frm, stp, zeroS⟩ : FrameV) bareP
            exact ⟨lay11_box hz7 (⟨knd, frm, stp, zeroS⟩ : FrameV) bareP, k7.trans (oa.below (Nat.le_refl _) (Nat.le_refl _) k7.size), ⟨Rd.none_, Rd.none_, Rd.none_, Rd.none_⟩⟩)
          clear hW8 HG7 hT11
          obtain ⟨z0, z1, z2, z3, z4, z5, z6, z7, z8, z9, z10⟩ := (box_G HG8.out.1).1
          go_wp2_with fail
          refine bodyPost_ret (v := .tuple #[encF (⟨knd, frm, stp, zeroS⟩ : FrameV) bareP, .int .i64 0]) (by simp [results, Tryz.results6, go_sem, z0, z1, z2, z3, z4, z5, z6, z7, z8, z9, z10]) rfl ⟨bareP, rfl, HG8.out.2.2, HG8.out.2.1⟩
        · have hr := HE.out.1 (Or.inr (Or.inr (Or.inr hch)))
          subst hr
          subst hver
          have gC : (C != 0) = true := by simpa using hch
          obtain ⟨c0, f0⟩ := X6_10.out 0 _ rfl
          obtain ⟨c1, f1⟩ := X6_10.out 1 _ rfl
          obtain ⟨c2, f2⟩ := X6_10.out 2 _ rfl
          obtain ⟨c3, f3⟩ := X6_10.out 3 _ rfl
          obtain ⟨c4, f4⟩ := X6_10.out 4 _ rfl
          obtain ⟨c5, f5⟩ := X6_10.out 5 _ rfl
          obtain ⟨c6, f6⟩ := X6_10.out 6 _ rfl
          obtain ⟨c7, f7⟩ := X6_10.out 7 _ rfl
          obtain ⟨c8, f8⟩ := X6_10.out 8 _ rfl
          obtain ⟨c9, f9⟩ := X6_10.out 9 _ rfl
          obtain ⟨c10, f10⟩ := X6_10.out 10 _ rfl
          obtain ⟨e0, e1, g0, g1⟩ := X8_10.out.two
          go_wp2_with fail
          refine (CK.out w10 ⟨Rd.none_, Rd.none_, Rd.none_, Rd.none_⟩).mono ?_
          rintro _ wc ⟨rfl, hbc⟩
          clear c0 f0 c1 f1 c2 f2 c3 f3 c4 f4 c5 f5 c6 f6 c7 f7 c8 f8 c9 f9 c10 f10
          clear e0 e1 g0 g1
          have XC := hid (X6_10.out.below hbc (X6_10.out.lt (by simp)))
          have kc := q10.trans (hbc.mono q10.size)
          have HZn := hid (HZ1.out.below kc hz1)
          have kn := k1.trans (kc.mono k1.size)
          have hT11 := hid (box_there (o := 0) (n := 11) HZn.out (by simp [cellsG]))
          have HG7 := hid (And.intro HZn.out kn)
          go_wp2_with (refine wpList_st rfl 31 _ _ rfl w.heap.size 0 #[.int .i64 0, .int .i64 0, .int .i64 0, .int .i64 0, .int .i64 0, .slice none 0 0, .slice none 0 0, .int .i64 0, .int .i64 0, .slice none 0 0, .slice none 0 0] rfl rfl hT11.out info_frame (by simp [Value.oneCell']) ?_)
          intro W8 hW8
          have HG8 : Hid (BoxL W8 w.heap.size (cellsG zeroF bareP) ∧ Below w.heap.size w W8) := hid (by
            rw [hW8.out]
            obtain ⟨hz7, k7⟩ := HG7.out
            exact ⟨lay11_box hz7 zeroF bareP, k7.trans ((lay11_off wc w.heap.size zeroF bareP).below (Nat.le_refl _) (Nat.le_refl _) k7.size)⟩)
          clear hW8 HG7 hT11
          obtain ⟨z0, z1, z2, z3, z4, z5, z6, z7, z8, z9, z10⟩ := (box_G HG8.out.1).1
          go_wp2_with fail
          refine bodyPost_ret (v := .tuple #[encF zeroF bareP, .int .i64 6]) (by simp [results, Tryz.results6, go_sem, z0, z1, z2, z3, z4, z5, z6, z7, z8, z9, z10, zeroF, zeroS, bareP]) rfl ⟨bareP, rfl, ⟨Rd.none_, Rd.none_, Rd.none_, Rd.none_⟩, HG8.out.2⟩
      · have hr := HE.out.1 (Or.inr (Or.inr (Or.inl hver)))
        subst hr
        have gv : (ver != 1) = true := by simpa using hver
        obtain ⟨c0, f0⟩ := X6_10.out 0 _ rfl
        obtain ⟨c1, f1⟩ := X6_10.out 1 _ rfl
        obtain ⟨c2, f2⟩ := X6_10.out 2 _ rfl
        obtain ⟨c3, f3⟩ := X6_10.out 3 _ rfl
        obtain ⟨c4, f4⟩ := X6_10.out 4 _ rfl
        obtain ⟨c5, f5⟩ := X6_10.out 5 _ rfl
        obtain ⟨c6, f6⟩ := X6_10.out 6 _ rfl
        obtain ⟨c7, f7⟩ := X6_10.out 7 _ rfl
        obtain ⟨c8, f8⟩ := X6_10.out 8 _ rfl
        obtain ⟨c9, f9⟩ := X6_10.out 9 _ rfl
        obtain ⟨c10, f10⟩ := X6_10.out 10 _ rfl
        obtain ⟨e0, e1, g0, g1⟩ := X8_10.out.two
        have HZn := hid (HZ1.out.below q10 hz1)
        have kn := k1.trans (q10.mono k1.size)
        have hT11 := hid (box_there (o := 0) (n := 11) HZn.out (by simp [cellsG]))
        have HG7 := hid (And.intro HZn.out kn)
        go_wp2_with (refine wpList_st rfl 31 _ _ rfl w.heap.size 0 #[.int .i64 0, .int .i64 0, .int .i64 0, .int .i64 0, .int .i64 0, .slice none 0 0, .slice none 0 0, .int .i64 0, .int .i64 0, .slice none 0 0, .slice none 0 0] rfl rfl hT11.out info_frame (by simp [Value.oneCell']) ?_)
        intro W8 hW8
        have HG8 : Hid (BoxL W8 w.heap.size (cellsG zeroF bareP) ∧ Below w.heap.size w W8) := hid (by
          rw [hW8.out]
          obtain ⟨hz7, k7⟩ := HG7.out
          exact ⟨lay11_box hz7 zeroF bareP, k7.trans ((lay11_off w10 w.heap.size zeroF bareP).below (Nat.le_refl _) (Nat.le_refl _) k7.size)⟩)
        clear hW8 HG7 hT11
        obtain ⟨z0, z1, z2, z3, z4, z5, z6, z7, z8, z9, z10⟩ := (box_G HG8.out.1).1
        go_wp2_with fail
        refine bodyPost_ret (v := .tuple #[encF zeroF bareP, .int .i64 6]) (by simp [results, Tryz.results6, go_sem, z0, z1, z2, z3, z4, z5, z6, z7, z8, z9, z10, zeroF, zeroS, bareP]) rfl ⟨bareP, rfl, ⟨Rd.none_, Rd.none_, Rd.none_, Rd.none_⟩, HG8.out.2⟩
theorem read_some {A : Option Addr} {c : Nat} (b : List Int) (hb : b.length ≤ 70000) (hcap : b.length ≤ c) (hc : c ≤ 9223372036854775807) (ub : U8s b) (w : World) (ra : Rd (Value.int .u8) w w.heap.size A b) (he : openE b = 0) {ver : Int} {o1 : List Int} {v1 : Bool} (hv : by1 (openV b, false) = (ver, o1, v1)) (uo1 : U8s o1) {knd : Int} {o2 : List Int} {v2 : Bool} (hk : by1 (o1, v1) = (knd, o2, v2)) (uo2 : U8s o2) {frm : Int} {o3 : List Int} {v3 : Bool} (hf : num1 63 (o2, v2) = (frm, o3, v3)) (uo3 : U8s o3) {stp : Int} {o4 : List Int} {v4 : Bool} (hs : num1 1073741824 (o3, v3) = (stp, o4, v4)) (uo4 : U8s o4) (lo4 : o4.length ≤ 70000) (hk1 : knd = 1) {S : SentV} {t : List Int} {z : Bool} (hS : sent1 (o4, v4) = (S, t, z)) (lnq : lnS 100000 S) (hwf : z = false → wfF ⟨1, frm, stp, S⟩) :
    Calls Tryz.prog 6 #[.slice A b.length c] w (OwnFr (endR ver (⟨1, frm, stp, S⟩, (t, z))) w) := by
  subst hk1
  have CO := hid (fun W (h : Below w.heap.size w W) => ref_Open (A := A) (c := c) b (by omega) hcap ub W ((ra.below h).more h.size))
  have HZ0 : Hid (BoxL (w.alloc (.cells #[.int .i64 0, .int .i64 0, .int .i64 0, .int .i64 0, .int .i64 0, .slice none 0 0, .slice none 0 0, .int .i64 0, .int .i64 0, .slice none 0 0, .slice none 0 0] 31)) w.heap.size (cellsG zeroF bareP)) := hid (BoxL.new w _ _)
  have uo := openV_u8 ub
  have hol : (openV b).length ≤ 70000 := by have := openV_len b; omega
  rw [he] at CO
  obtain ⟨o, ho⟩ : ∃ o, openV b = o := ⟨_, rfl⟩
  rw [ho] at uo hol CO hv
  have HE : Hid ((z = true ∨ t ≠ [] ∨ ver ≠ 1 ∨ chkF (⟨1, frm, stp, S⟩ : FrameV) ≠ 0 → endR ver ((⟨1, frm, stp, S⟩ : FrameV), (t, z)) = (zeroF, 6)) ∧ (z = false → t = [] → ver = 1 → chkF (⟨1, frm, stp, S⟩ : FrameV) = 0 → endR ver ((⟨1, frm, stp, S⟩ : FrameV), (t, z)) = ((⟨1, frm, stp, S⟩ : FrameV), 0))) := hid ⟨fun h => if_pos h, fun h1 h2 h3 h4 => if_neg (by simp [h1, h2, h3, h4])⟩
  obtain ⟨r, hr⟩ : ∃ r, endR ver ((⟨1, frm, stp, S⟩ : FrameV), (t, z)) = r := ⟨_, rfl⟩
  rw [hr] at HE ⊢
  clear hr
  have CK := hid (fun (p : SentP) (hz : z = false) W (hS : RdS W W.heap.size S p) => ref_CheckF ⟨1, frm, stp, S⟩ p lnq (hwf hz) W (B := W.heap.size) (Nat.le_refl _) hS)
  obtain ⟨C, hC⟩ : ∃ C, chkF ⟨1, frm, stp, S⟩ = C := ⟨_, rfl⟩
  rw [hC] at CK HE
  clear hC hwf he ra ub ho hb
  go_enter Tryz.func6, Tryz.ntmps6
  go_wp2_with fail
  refine (CO.out _ (by go_grown)).mono ?_
  rintro _ w1 ⟨A1, c1, rfl, ho1, hb1⟩
  have k1 : Below w.heap.size w w1 := Below.trans (by go_grown) (hb1.mono (by simp))
  have hz1 : w.heap.size < w1.heap.size := Nat.lt_of_lt_of_le (by simp) hb1.size
  have HZ1 := hid (HZ0.out.below hb1 (by simp))
  have HO1 := hid (own_rd ho1)
  have hc1 := own_cap ho1
  have HT0 : Hid (TxP w1 w1.heap.size o A1 c1) := hid ⟨HO1.out, hc1.1, hc1.2⟩
  clear hb1 HZ0 CO ho1 HO1 hc1
  go_wp2_with fail
  have q2 : Below w1.heap.size w1 (w1.alloc (.cells #[.int .i64 0, .int .i64 0, .int .i64 0, .int .i64 0, .int .i64 0, .slice none 0 0, .slice none 0 0, .int .i64 0, .int .i64 0, .slice none 0 0, .slice none 0 0] 31)) := grow1 _ _
  have Y6 : BoxL (w1.alloc (.cells #[.int .i64 0, .int .i64 0, .int .i64 0, .int .i64 0, .int .i64 0, .slice none 0 0, .slice none 0 0, .int .i64 0, .int .i64 0, .slice none 0 0, .slice none 0 0] 31)) w1.heap.size [.int .i64 0, .int .i64 0, .int .i64 0, .int .i64 0, .int .i64 0, .slice none 0 0, .slice none 0 0, .int .i64 0, .int .i64 0, .slice none 0 0, .slice none 0 0] := BoxL.new w1 _ _
  obtain ⟨w2, hw2⟩ : ∃ wn, (w1.alloc (.cells #[.int .i64 0, .int .i64 0, .int .i64 0, .int .i64 0, .int .i64 0, .slice none 0 0, .slice none 0 0, .int .i64 0, .int .i64 0, .slice none 0 0, .slice none 0 0] 31)) = wn := ⟨_, rfl⟩
  rw [hw2] at q2 Y6 ⊢
  clear hw2
  have X6_2 := hid Y6
  clear Y6
  refine (byte1_is o false hv w2 q2.size uo (HT0.out.fore q2 (Nat.le_refl _))).mono ?_
  rintro _ w3 ⟨A3, c3, rfl, ht3, hb3⟩
  have X6_3 := hid (X6_2.out.below hb3 (X6_2.out.lt (by simp)))
  clear X6_2
  have q3 := q2.trans (hb3.mono q2.size)
  clear q2
  clear hb3
  have HT3 := hid (ht3.back q3 (Nat.le_refl _))
  clear ht3 HT0
  go_wp2_with fail
  have hg4 : Below w3.heap.size w3 (w3.alloc (.cells #[.slice A3 o1.length c3, .bool v1] 49)) := grow1 _ _
  have hn4 : BoxL (w3.alloc (.cells #[.slice A3 o1.length c3, .bool v1] 49)) w3.heap.size [.slice A3 o1.length c3, .bool v1] := BoxL.new w3 _ _
  have hl3 := X6_3.out.lt (by simp)
  obtain ⟨w4, hw4⟩ : ∃ wn, (w3.alloc (.cells #[.slice A3 o1.length c3, .bool v1] 49)) = wn := ⟨_, rfl⟩
  rw [hw4] at hg4 hn4 ⊢
  clear hw4
  obtain ⟨G8, hG8⟩ : ∃ G, w3.heap.size = G := ⟨_, rfl⟩
  rw [hG8] at hn4 hl3 ⊢
  have X6_4 := hid (X6_3.out.below hg4 (X6_3.out.lt (by simp)))
  clear X6_3
  have q4 := q3.trans (hg4.mono q3.size)
  clear q3
  have X8_4 := hid hn4
  clear hn4 hg4 hG8
  refine (byte1_is o1 v1 hk w4 q4.size uo1 (HT3.out.fore q4 (Nat.le_refl _))).mono ?_
  rintro _ w5 ⟨A5, c5, rfl, ht5, hb5⟩
  have X6_5 := hid (X6_4.out.below hb5 (X6_4.out.lt (by simp)))
  clear X6_4
  have X8_5 := hid (X8_4.out.below hb5 (X8_4.out.lt (by simp)))
  clear X8_4
  have q5 := q4.trans (hb5.mono q4.size)
  clear q4
  clear hb5
  have HT5 := hid (ht5.back q5 (Nat.le_refl _))
  clear ht5 HT3
  obtain ⟨c0, f0⟩ := X6_5.out 0 _ rfl
  obtain ⟨c1, f1⟩ := X6_5.out 1 _ rfl
  obtain ⟨c2, f2⟩ := X6_5.out 2 _ rfl
  obtain ⟨c3, f3⟩ := X6_5.out 3 _ rfl
  obtain ⟨c4, f4⟩ := X6_5.out 4 _ rfl
  obtain ⟨c5, f5⟩ := X6_5.out 5 _ rfl
  obtain ⟨c6, f6⟩ := X6_5.out 6 _ rfl
  obtain ⟨c7, f7⟩ := X6_5.out 7 _ rfl
  obtain ⟨c8, f8⟩ := X6_5.out 8 _ rfl
  obtain ⟨c9, f9⟩ := X6_5.out 9 _ rfl
  obtain ⟨c10, f10⟩ := X6_5.out 10 _ rfl
  obtain ⟨e0, e1, g0, g1⟩ := X8_5.out.two
  go_wp2_with fail
  clear c0 f0 c1 f1 c2 f2 c3 f3 c4 f4 c5 f5 c6 f6 c7 f7 c8 f8 c9 f9 c10 f10
  clear e0 e1 g0 g1
  have Y6 : BoxL (((w5.setCell ⟨w1.heap.size, 0, none⟩ (.int .i64 1)).setCell ⟨G8, 0, none⟩ (.slice A5 o2.length c5)).setCell ⟨G8, 1, none⟩ (.bool v2)) w1.heap.size [.int .i64 1, .int .i64 0, .int .i64 0, .int .i64 0, .int .i64 0, .slice none 0 0, .slice none 0 0, .int .i64 0, .int .i64 0, .slice none 0 0, .slice none 0 0] := ((BoxL.one X6_5.out (k := 0) rfl (.int .i64 1)).other2 (show G8 ≠ w1.heap.size by omega) (.slice A5 o2.length c5) (.bool v2))
  have Y8 : BoxL (((w5.setCell ⟨w1.heap.size, 0, none⟩ (.int .i64 1)).setCell ⟨G8, 0, none⟩ (.slice A5 o2.length c5)).setCell ⟨G8, 1, none⟩ (.bool v2)) G8 [.slice A5 o2.length c5, .bool v2] := ((X8_5.out.other (p := ⟨w1.heap.size, 0, none⟩) (show w1.heap.size ≠ G8 by omega) (.int .i64 1)).set2 (.slice A5 o2.length c5) (.bool v2))
  have YK : Below w1.heap.size w1 (((w5.setCell ⟨w1.heap.size, 0, none⟩ (.int .i64 1)).setCell ⟨G8, 0, none⟩ (.slice A5 o2.length c5)).setCell ⟨G8, 1, none⟩ (.bool v2)) := (set2_below (q5.setCell (p := ⟨w1.heap.size, 0, none⟩) (Nat.le_refl _) (.int .i64 1)) (show w1.heap.size ≤ G8 by omega) (.slice A5 o2.length c5) (.bool v2))
  clear X6_5 X8_5 q5
  obtain ⟨w6, hw6⟩ : ∃ wn, (((w5.setCell ⟨w1.heap.size, 0, none⟩ (.int .i64 1)).setCell ⟨G8, 0, none⟩ (.slice A5 o2.length c5)).setCell ⟨G8, 1, none⟩ (.bool v2)) = wn := ⟨_, rfl⟩
  rw [hw6] at Y6 Y8 YK ⊢
  clear hw6
  have X6_6 := hid Y6
  have X8_6 := hid Y8
  have q6 := YK
  clear Y6 Y8 YK
  refine (number_is 63 (by decide) (by decide) o2 v2 hf w6 q6.size uo2 (HT5.out.fore q6 (Nat.le_refl _))).mono ?_
  rintro _ w7 ⟨A7, c7, rfl, ht7, hb7⟩
  have X6_7 := hid (X6_6.out.below hb7 (X6_6.out.lt (by simp)))
  clear X6_6
  have X8_7 := hid (X8_6.out.below hb7 (X8_6.out.lt (by simp)))
  clear X8_6
  have q7 := q6.trans (hb7.mono q6.size)
  clear q6
  clear hb7
  have HT7 := hid (ht7.back q7 (Nat.le_refl _))
  clear ht7 HT5
  obtain ⟨c0, f0⟩ := X6_7.out 0 _ rfl
  obtain ⟨c1, f1⟩ := X6_7.out 1 _ rfl
  obtain ⟨c2, f2⟩ := X6_7.out 2 _ rfl
  obtain ⟨c3, f3⟩ := X6_7.out 3 _ rfl
  obtain ⟨c4, f4⟩ := X6_7.out 4 _ rfl
  obtain ⟨c5, f5⟩ := X6_7.out 5 _ rfl
  obtain ⟨c6, f6⟩ := X6_7.out 6 _ rfl
  obtain ⟨c7, f7⟩ := X6_7.out 7 _ rfl
  obtain ⟨c8, f8⟩ := X6_7.out 8 _ rfl
  obtain ⟨c9, f9⟩ := X6_7.out 9 _ rfl
  obtain ⟨c10, f10⟩ := X6_7.out 10 _ rfl
  obtain ⟨e0, e1, g0, g1⟩ := X8_7.out.two
  go_wp2_with fail
  clear c0 f0 c1 f1 c2 f2 c3 f3 c4 f4 c5 f5 c6 f6 c7 f7 c8 f8 c9 f9 c10 f10
  clear e0 e1 g0 g1
  have Y6 : BoxL (((w7.setCell ⟨w1.heap.size, 1, none⟩ (.int .i64 frm)).setCell ⟨G8, 0, none⟩ (.slice A7 o3.length c7)).setCell ⟨G8, 1, none⟩ (.bool v3)) w1.heap.size [.int .i64 1, .int .i64 frm, .int .i64 0, .int .i64 0, .int .i64 0, .slice none 0 0, .slice none 0 0, .int .i64 0, .int .i64 0, .slice none 0 0, .slice none 0 0] := ((BoxL.one X6_7.out (k := 1) rfl (.int .i64 frm)).other2 (show G8 ≠ w1.heap.size by omega) (.slice A7 o3.length c7) (.bool v3))
  have Y8 : BoxL (((w7.setCell ⟨w1.heap.size, 1, none⟩ (.int .i64 frm)).setCell ⟨G8, 0, none⟩ (.slice A7 o3.length c7)).setCell ⟨G8, 1, none⟩ (.bool v3)) G8 [.slice A7 o3.length c7, .bool v3] := ((X8_7.out.other (p := ⟨w1.heap.size, 1, none⟩) (show w1.heap.size ≠ G8 by omega) (.int .i64 frm)).set2 (.slice A7 o3.length c7) (.bool v3))
  have YK : Below w1.heap.size w1 (((w7.setCell ⟨w1.heap.size, 1, none⟩ (.int .i64 frm)).setCell ⟨G8, 0, none⟩ (.slice A7 o3.length c7)).setCell ⟨G8, 1, none⟩ (.bool v3)) := (set2_below (q7.setCell (p := ⟨w1.heap.size, 1, none⟩) (Nat.le_refl _) (.int .i64 frm)) (show w1.heap.size ≤ G8 by omega) (.slice A7 o3.length c7) (.bool v3))
  clear X6_7 X8_7 q7
  obtain ⟨w8, hw8⟩ : ∃ wn, (((w7.setCell ⟨w1.heap.size, 1, none⟩ (.int .i64 frm)).setCell ⟨G8, 0, none⟩ (.slice A7 o3.length c7)).setCell ⟨G8, 1, none⟩ (.bool v3)) = wn := ⟨_, rfl⟩
  rw [hw8] at Y6 Y8 YK ⊢
  clear hw8
  have X6_8 := hid Y6
  have X8_8 := hid Y8
  have q8 := YK
  clear Y6 Y8 YK
  refine (number_is 1073741824 (by decide) (by decide) o3 v3 hs w8 q8.size uo3 (HT7.out.fore q8 (Nat.le_refl _))).mono ?_
  rintro _ w9 ⟨A9, c9, rfl, ht9, hb9⟩
  have X6_9 := hid (X6_8.out.below hb9 (X6_8.out.lt (by simp)))
  clear X6_8
  have X8_9 := hid (X8_8.out.below hb9 (X8_8.out.lt (by simp)))
  clear X8_8
  have q9 := q8.trans (hb9.mono q8.size)
  clear q8
  clear hb9
  have HT9 := hid (ht9.back q9 (Nat.le_refl _))
  clear ht9 HT7
  obtain ⟨c0, f0⟩ := X6_9.out 0 _ rfl
  obtain ⟨c1, f1⟩ := X6_9.out 1 _ rfl
  obtain ⟨c2, f2⟩ := X6_9.out 2 _ rfl
  obtain ⟨c3, f3⟩ := X6_9.out 3 _ rfl
  obtain ⟨c4, f4⟩ := X6_9.out 4 _ rfl
  obtain ⟨c5, f5⟩ := X6_9.out 5 _ rfl
  obtain ⟨c6, f6⟩ := X6_9.out 6 _ rfl
  obtain ⟨c7, f7⟩ := X6_9.out 7 _ rfl
  obtain ⟨c8, f8⟩ := X6_9.out 8 _ rfl
  obtain ⟨c9, f9⟩ := X6_9.out 9 _ rfl
  obtain ⟨c10, f10⟩ := X6_9.out 10 _ rfl
  obtain ⟨e0, e1, g0, g1⟩ := X8_9.out.two
  go_upto_region 9 with fail
  clear c0 f0 c1 f1 c2 f2 c3 f3 c4 f4 c5 f5 c6 f6 c7 f7 c8 f8 c9 f9 c10 f10
  clear e0 e1 g0 g1
  have Y6 : BoxL (((w9.setCell ⟨w1.heap.size, 2, none⟩ (.int .i64 stp)).setCell ⟨G8, 0, none⟩ (.slice A9 o4.length c9)).setCell ⟨G8, 1, none⟩ (.bool v4)) w1.heap.size [.int .i64 1, .int .i64 frm, .int .i64 stp, .int .i64 0, .int .i64 0, .slice none 0 0, .slice none 0 0, .int .i64 0, .int .i64 0, .slice none 0 0, .slice none 0 0] := ((BoxL.one X6_9.out (k := 2) rfl (.int .i64 stp)).other2 (show G8 ≠ w1.heap.size by omega) (.slice A9 o4.length c9) (.bool v4))
  have Y8 : BoxL (((w9.setCell ⟨w1.heap.size, 2, none⟩ (.int .i64 stp)).setCell ⟨G8, 0, none⟩ (.slice A9 o4.length c9)).setCell ⟨G8, 1, none⟩ (.bool v4)) G8 [.slice A9 o4.length c9, .bool v4] := ((X8_9.out.other (p := ⟨w1.heap.size, 2, none⟩) (show w1.heap.size ≠ G8 by omega) (.int .i64 stp)).set2 (.slice A9 o4.length c9) (.bool v4))
  have YK : Below w1.heap.size w1 (((w9.setCell ⟨w1.heap.size, 2, none⟩ (.int .i64 stp)).setCell ⟨G8, 0, none⟩ (.slice A9 o4.length c9)).setCell ⟨G8, 1, none⟩ (.bool v4)) := (set2_below (q9.setCell (p := ⟨w1.heap.size, 2, none⟩) (Nat.le_refl _) (.int .i64 stp)) (show w1.heap.size ≤ G8 by omega) (.slice A9 o4.length c9) (.bool v4))
  clear X6_9 X8_9 q9
  obtain ⟨w10, hw10⟩ : ∃ wn, (((w9.setCell ⟨w1.heap.size, 2, none⟩ (.int .i64 stp)).setCell ⟨G8, 0, none⟩ (.slice A9 o4.length c9)).setCell ⟨G8, 1, none⟩ (.bool v4)) = wn := ⟨_, rfl⟩
  rw [hw10] at Y6 Y8 YK ⊢
  clear hw10
  have X6_10 := hid Y6
  have X8_10 := hid Y8
  have q10 := YK
  clear Y6 Y8 YK
  obtain ⟨c0, f0⟩ := X6_10.out 0 _ rfl
  obtain ⟨c1, f1⟩ := X6_10.out 1 _ rfl
  obtain ⟨c2, f2⟩ := X6_10.out 2 _ rfl
  obtain ⟨c3, f3⟩ := X6_10.out 3 _ rfl
  obtain ⟨c4, f4⟩ := X6_10.out 4 _ rfl
  obtain ⟨c5, f5⟩ := X6_10.out 5 _ rfl
  obtain ⟨c6, f6⟩ := X6_10.out 6 _ rfl
  obtain ⟨c7, f7⟩ := X6_10.out 7 _ rfl
  obtain ⟨c8, f8⟩ := X6_10.out 8 _ rfl
  obtain ⟨c9, f9⟩ := X6_10.out 9 _ rfl
  obtain ⟨c10, f10⟩ := X6_10.out 10 _ rfl
  obtain ⟨e0, e1, g0, g1⟩ := X8_10.out.two
  go_wp2_with fail
  clear c0 f0 c1 f1 c2 f2 c3 f3 c4 f4 c5 f5 c6 f6 c7 f7 c8 f8 c9 f9 c10 f10
  clear e0 e1 g0 g1
  have hl8 := X8_10.out.lt (by simp)
  have hl6 := X6_10.out.lt (by simp)
  have CSn := ref_sent o4 v4 lo4 w10 q10.size uo4 (HT9.out.fore q10 (Nat.le_refl _))
  rw [hS] at CSn
  refine CSn.mono ?_
  rintro _ w11 ⟨ps, At, ct, rfl, htx, hrd, hb11⟩
  have hsz := q10.size
  clear CSn
  have X6_11 := hid (X6_10.out.below hb11 (X6_10.out.lt (by simp)))
  clear X6_10
  have X8_11 := hid (X8_10.out.below hb11 (X8_10.out.lt (by simp)))
  clear X8_10
  have q11 := q10.trans (hb11.mono q10.size)
  clear q10
  clear hb11 htx
  obtain ⟨e0, e1, g0, g1⟩ := X8_11.out.two
  have hT8 := hid (box_there (o := 3) (n := 8) X6_11.out (by simp))
  go_wp2_with (refine wpList_st rfl 29 _ _ rfl w1.heap.size 3 #[.int .i64 S.sch, .int .i64 S.dim, .slice ps.AL S.L.length ps.cL, .slice ps.AV S.V.length ps.cV, .int .i64 S.scale, .int .i64 S.wide, .slice ps.AE S.lev.length ps.cE, .slice ps.AN S.neg.length ps.cN] rfl rfl hT8.out info_sent (by simp [Value.oneCell']) ?_)
  intro w12 hw12
  have hG8l := X8_11.out.lt (by simp)
  have HH : Hid (BoxL w12 w1.heap.size (cellsG ⟨1, frm, stp, S⟩ ps) ∧ BoxL w12 G8 [.slice A9 o4.length c9, .bool v4] ∧ Below w1.heap.size w1 w12 ∧ RdFS w12 w10.heap.size S ps) := hid (by
    rw [hw12.out]
    have oa := lay8o_off w11 w1.heap.size S ps
    exact ⟨lay8o_box (K := 1) (F := frm) (T := stp) X6_11.out S ps, oa.box X8_11.out (by simp) (by omega) (by omega), q11.trans (oa.below (Nat.le_refl _) (Nat.le_refl _) q11.size), hrd.1.off oa (by omega) (by omega), hrd.2.1.off oa (by omega) (by omega), hrd.2.2.1.off oa (by omega) (by omega), hrd.2.2.2.off oa (by omega) (by omega)⟩)
  clear e0 e1 g0 g1
  have X6_12 := hid HH.out.1
  have X8_12 := hid HH.out.2.1
  have q12 := HH.out.2.2.1
  have hrd12 := HH.out.2.2.2
  clear X6_11 X8_11 q11 hw12 HH hrd hT8 hG8l
  obtain ⟨e0, e1, g0, g1⟩ := X8_12.out.two
  go_upto_region 11 with fail
  clear e0 e1 g0 g1
  have Y6 : BoxL ((w12.setCell ⟨G8, 0, none⟩ (.slice At t.length ct)).setCell ⟨G8, 1, none⟩ (.bool z)) w1.heap.size [.int .i64 1, .int .i64 frm, .int .i64 stp, .int .i64 S.sch, .int .i64 S.dim, .slice ps.AL S.L.length ps.cL, .slice ps.AV S.V.length ps.cV, .int .i64 S.scale, .int .i64 S.wide, .slice ps.AE S.lev.length ps.cE, .slice ps.AN S.neg.length ps.cN] := (X6_12.out.other2 (show G8 ≠ w1.heap.size by omega) (.slice At t.length ct) (.bool z))
  have Y8 : BoxL ((w12.setCell ⟨G8, 0, none⟩ (.slice At t.length ct)).setCell ⟨G8, 1, none⟩ (.bool z)) G8 [.slice At t.length ct, .bool z] := (X8_12.out.set2 (.slice At t.length ct) (.bool z))
  have YK : Below w1.heap.size w1 ((w12.setCell ⟨G8, 0, none⟩ (.slice At t.length ct)).setCell ⟨G8, 1, none⟩ (.bool z)) := (set2_below q12 (show w1.heap.size ≤ G8 by omega) (.slice At t.length ct) (.bool z))
  clear X6_12 X8_12 q12
  have YR : RdFS ((w12.setCell ⟨G8, 0, none⟩ (.slice At t.length ct)).setCell ⟨G8, 1, none⟩ (.bool z)) w10.heap.size S ps := ⟨hrd12.1.off ((Off.set 0 _).trans (Off.set 1 _)) (by omega) (by omega), hrd12.2.1.off ((Off.set 0 _).trans (Off.set 1 _)) (by omega) (by omega), hrd12.2.2.1.off ((Off.set 0 _).trans (Off.set 1 _)) (by omega) (by omega), hrd12.2.2.2.off ((Off.set 0 _).trans (Off.set 1 _)) (by omega) (by omega)⟩
  obtain ⟨w13, hw13⟩ : ∃ wn, ((w12.setCell ⟨G8, 0, none⟩ (.slice At t.length ct)).setCell ⟨G8, 1, none⟩ (.bool z)) = wn := ⟨_, rfl⟩
  rw [hw13] at Y6 Y8 YK YR ⊢
  clear hw13
  have X6_13 := hid Y6
  have X8_13 := hid Y8
  have q13 := YK
  clear Y6 Y8 YK
  have hrf := hid YR
  clear YR hrd12
  cases z with
  | true =>
    have hr := HE.out.1 (Or.inl rfl)
    subst hr
    obtain ⟨c0, f0⟩ := X6_13.out 0 _ rfl
    obtain ⟨c1, f1⟩ := X6_13.out 1 _ rfl
    obtain ⟨c2, f2⟩ := X6_13.out 2 _ rfl
    obtain ⟨c3, f3⟩ := X6_13.out 3 _ rfl
    obtain ⟨c4, f4⟩ := X6_13.out 4 _ rfl
    obtain ⟨c5, f5⟩ := X6_13.out 5 _ rfl
    obtain ⟨c6, f6⟩ := X6_13.out 6 _ rfl
    obtain ⟨c7, f7⟩ := X6_13.out 7 _ rfl
    obtain ⟨c8, f8⟩ := X6_13.out 8 _ rfl
    obtain ⟨c9, f9⟩ := X6_13.out 9 _ rfl
    obtain ⟨c10, f10⟩ := X6_13.out 10 _ rfl
    obtain ⟨e0, e1, g0, g1⟩ := X8_13.out.two
    have HZn := hid (HZ1.out.below q13 hz1)
    have kn := k1.trans (q13.mono k1.size)
    have hT11 := hid (box_there (o := 0) (n := 11) HZn.out (by simp [cellsG]))
    have HG7 := hid (And.intro HZn.out kn)
    go_wp2_with (refine wpList_st rfl 31 _ _ rfl w.heap.size 0 #[.int .i64 0, .int .i64 0, .int .i64 0, .int .i64 0, .int .i64 0, .slice none 0 0, .slice none 0 0, .int .i64 0, .int .i64 0, .slice none 0 0, .slice none 0 0] rfl rfl hT11.out info_frame (by simp [Value.oneCell']) ?_)
    intro W8 hW8
    have HG8 : Hid (BoxL W8 w.heap.size (cellsG zeroF bareP) ∧ Below w.heap.size w W8) := hid (by
      rw [hW8.out]
      obtain ⟨hz7, k7⟩ := HG7.out
      exact ⟨lay11_box hz7 zeroF bareP, k7.trans ((lay11_off w13 w.heap.size zeroF bareP).below (Nat.le_refl _) (Nat.le_refl _) k7.size)⟩)
    clear hW8 HG7 hT11
    obtain ⟨z0, z1, z2, z3, z4, z5, z6, z7, z8, z9, z10⟩ := (box_G HG8.out.1).1
    go_wp2_with fail
    refine bodyPost_ret (v := .tuple #[encF zeroF bareP, .int .i64 6]) (by simp [results, Tryz.results6, go_sem, z0, z1, z2, z3, z4, z5, z6, z7, z8, z9, z10, zeroF, zeroS, bareP]) rfl ⟨bareP, rfl, ⟨Rd.none_, Rd.none_, Rd.none_, Rd.none_⟩, HG8.out.2⟩
  | false =>
    by_cases hl0 : 0 < t.length
    · have hr := HE.out.1 (Or.inr (Or.inl (by intro h; rw [h] at hl0; simp at hl0)))
      subst hr
      have hli : (0 : Int) < (t.length : Int) := by omega
      obtain ⟨c0, f0⟩ := X6_13.out 0 _ rfl
      obtain ⟨c1, f1⟩ := X6_13.out 1 _ rfl
      obtain ⟨c2, f2⟩ := X6_13.out 2 _ rfl
      obtain ⟨c3, f3⟩ := X6_13.out 3 _ rfl
      obtain ⟨c4, f4⟩ := X6_13.out 4 _ rfl
      obtain ⟨c5, f5⟩ := X6_13.out 5 _ rfl
      obtain ⟨c6, f6⟩ := X6_13.out 6 _ rfl
      obtain ⟨c7, f7⟩ := X6_13.out 7 _ rfl
      obtain ⟨c8, f8⟩ := X6_13.out 8 _ rfl
      obtain ⟨c9, f9⟩ := X6_13.out 9 _ rfl
      obtain ⟨c10, f10⟩ := X6_13.out 10 _ rfl
      obtain ⟨e0, e1, g0, g1⟩ := X8_13.out.two
      have HZn := hid (HZ1.out.below q13 hz1)
      have kn := k1.trans (q13.mono k1.size)
      have hT11 := hid (box_there (o := 0) (n := 11) HZn.out (by simp [cellsG]))
      have HG7 := hid (And.intro HZn.out kn)
      go_wp2_with (refine wpList_st rfl 31 _ _ rfl w.heap.size 0 #[.int .i64 0, .int .i64 0, .int .i64 0, .int .i64 0, .int .i64 0, .slice none 0 0, .slice none 0 0, .int .i64 0, .int .i64 0, .slice none 0 0, .slice none 0 0] rfl rfl hT11.out info_frame (by simp [Value.oneCell']) ?_)
      intro W8 hW8
      have HG8 : Hid (BoxL W8 w.heap.size (cellsG zeroF bareP) ∧ Below w.heap.size w W8) := hid (by
        rw [hW8.out]
        obtain ⟨hz7, k7⟩ := HG7.out
        exact ⟨lay11_box hz7 zeroF bareP, k7.trans ((lay11_off w13 w.heap.size zeroF bareP).below (Nat.le_refl _) (Nat.le_refl _) k7.size)⟩)
      clear hW8 HG7 hT11
      obtain ⟨z0, z1, z2, z3, z4, z5, z6, z7, z8, z9, z10⟩ := (box_G HG8.out.1).1
      go_wp2_with fail
      refine bodyPost_ret (v := .tuple #[encF zeroF bareP, .int .i64 6]) (by simp [results, Tryz.results6, go_sem, z0, z1, z2, z3, z4, z5, z6, z7, z8, z9, z10, zeroF, zeroS, bareP]) rfl ⟨bareP, rfl, ⟨Rd.none_, Rd.none_, Rd.none_, Rd.none_⟩, HG8.out.2⟩
    · have hnil : t = [] := List.length_eq_zero_iff.1 (by omega)
      subst hnil
      by_cases hver : ver = 1
      · by_cases hch : C = 0
        · have hr := HE.out.2 rfl rfl hver hch
          subst hr
          subst hver
          subst hch
          obtain ⟨c0, f0⟩ := X6_13.out 0 _ rfl
          obtain ⟨c1, f1⟩ := X6_13.out 1 _ rfl
          obtain ⟨c2, f2⟩ := X6_13.out 2 _ rfl
          obtain ⟨c3, f3⟩ := X6_13.out 3 _ rfl
          obtain ⟨c4, f4⟩ := X6_13.out 4 _ rfl
          obtain ⟨c5, f5⟩ := X6_13.out 5 _ rfl
          obtain ⟨c6, f6⟩ := X6_13.out 6 _ rfl
          obtain ⟨c7, f7⟩ := X6_13.out 7 _ rfl
          obtain ⟨c8, f8⟩ := X6_13.out 8 _ rfl
          obtain ⟨c9, f9⟩ := X6_13.out 9 _ rfl
          obtain ⟨c10, f10⟩ := X6_13.out 10 _ rfl
          obtain ⟨e0, e1, g0, g1⟩ := X8_13.out.two
          go_wp2_with fail
          refine (CK.out ps (by first | rfl | trivial) w13 ⟨hrf.out.1.rd, hrf.out.2.1.rd, hrf.out.2.2.1.rd, hrf.out.2.2.2.rd⟩).mono ?_
          rintro _ wc ⟨rfl, hbc⟩
          clear c0 f0 c1 f1 c2 f2 c3 f3 c4 f4 c5 f5 c6 f6 c7 f7 c8 f8 c9 f9 c10 f10
          clear e0 e1 g0 g1
          have XC := hid (X6_13.out.below hbc (X6_13.out.lt (by simp)))
          have kc := q13.trans (hbc.mono q13.size)
          have HZn := hid (HZ1.out.below kc hz1)
          have kn := k1.trans (kc.mono k1.size)
          obtain ⟨c0, f0⟩ := XC.out 0 _ rfl
          obtain ⟨c1, f1⟩ := XC.out 1 _ rfl
          obtain ⟨c2, f2⟩ := XC.out 2 _ rfl
          obtain ⟨c3, f3⟩ := XC.out 3 _ rfl
          obtain ⟨c4, f4⟩ := XC.out 4 _ rfl
          obtain ⟨c5, f5⟩ := XC.out 5 _ rfl
          obtain ⟨c6, f6⟩ := XC.out 6 _ rfl
          obtain ⟨c7, f7⟩ := XC.out 7 _ rfl
          obtain ⟨c8, f8⟩ := XC.out 8 _ rfl
          obtain ⟨c9, f9⟩ := XC.out 9 _ rfl
          obtain ⟨c10, f10⟩ := XC.out 10 _ rfl
          have hT11 := hid (box_there (o := 0) (n := 11) HZn.out (by simp [cellsG]))
          have HG7 := hid (And.intro HZn.out kn)
          go_wp2_with (refine wpList_st rfl 31 _ _ rfl w.heap.size 0 #[.int .i64 1, .int .i64 frm, .int .i64 stp, .int .i64 S.sch, .int .i64 S.dim, .slice ps.AL S.L.length ps.cL, .slice ps.AV S.V.length ps.cV, .int .i64 S.scale, .int .i64 S.wide, .slice ps.AE S.lev.length ps.cE, .slice ps.AN S.neg.length ps.cN] rfl rfl hT11.out info_frame (by simp [Value.oneCell']) ?_)
          intro W8 hW8
          have HG8 : Hid (BoxL W8 w.heap.size (cellsG (⟨1, frm, stp, S⟩ : FrameV) ps) ∧ Below w.heap.size w W8 ∧ RdS W8 W8.heap.size (⟨1, frm, stp, S⟩ : FrameV).S ps) := hid (by
            rw [hW8.out]
            obtain ⟨hz7, k7⟩ := HG7.out
            have oa := lay11_off wc w.heap.size (⟨1, frm, stp, S⟩ : FrameV) ps
            exact ⟨lay11_box hz7 (⟨1, frm, stp, S⟩ : FrameV) ps, k7.trans (oa.below (Nat.le_refl _) (Nat.le_refl _) k7.size), ⟨((hrf.out.1.below hbc).off oa (by omega) (by omega)).rd, ((hrf.out.2.1.below hbc).off oa (by omega) (by omega)).rd, ((hrf.out.2.2.1.below hbc).off oa (by omega) (by omega)).rd, ((hrf.out.2.2.2.below hbc).off oa (by omega) (by omega)).rd⟩⟩)
          clear hW8 HG7 hT11
          obtain ⟨z0, z1, z2, z3, z4, z5, z6, z7, z8, z9, z10⟩ := (box_G HG8.out.1).1
          go_wp2_with fail
          refine bodyPost_ret (v := .tuple #[encF (⟨1, frm, stp, S⟩ : FrameV) ps, .int .i64 0]) (by simp [results, Tryz.results6, go_sem, z0, z1, z2, z3, z4, z5, z6, z7, z8, z9, z10]) rfl ⟨ps, rfl, HG8.out.2.2, HG8.out.2.1⟩
        · have hr := HE.out.1 (Or.inr (Or.inr (Or.inr hch)))
          subst hr
          subst hver
          have gC : (C != 0) = true := by simpa using hch
          obtain ⟨c0, f0⟩ := X6_13.out 0 _ rfl
          obtain ⟨c1, f1⟩ := X6_13.out 1 _ rfl
          obtain ⟨c2, f2⟩ := X6_13.out 2 _ rfl
          obtain ⟨c3, f3⟩ := X6_13.out 3 _ rfl
          obtain ⟨c4, f4⟩ := X6_13.out 4 _ rfl
          obtain ⟨c5, f5⟩ := X6_13.out 5 _ rfl
          obtain ⟨c6, f6⟩ := X6_13.out 6 _ rfl
          obtain ⟨c7, f7⟩ := X6_13.out 7 _ rfl
          obtain ⟨c8, f8⟩ := X6_13.out 8 _ rfl
          obtain ⟨c9, f9⟩ := X6_13.out 9 _ rfl
          obtain ⟨c10, f10⟩ := X6_13.out 10 _ rfl
          obtain ⟨e0, e1, g0, g1⟩ := X8_13.out.two
          go_wp2_with fail
          refine (CK.out ps (by first | rfl | trivial) w13 ⟨hrf.out.1.rd, hrf.out.2.1.rd, hrf.out.2.2.1.rd, hrf.out.2.2.2.rd⟩).mono ?_
          rintro _ wc ⟨rfl, hbc⟩
          clear c0 f0 c1 f1 c2 f2 c3 f3 c4 f4 c5 f5 c6 f6 c7 f7 c8 f8 c9 f9 c10 f10
          clear e0 e1 g0 g1
          have XC := hid (X6_13.out.below hbc (X6_13.out.lt (by simp)))
          have kc := q13.trans (hbc.mono q13.size)
          have HZn := hid (HZ1.out.below kc hz1)
          have kn := k1.trans (kc.mono k1.size)
          have hT11 := hid (box_there (o := 0) (n := 11) HZn.out (by simp [cellsG]))
          have HG7 := hid (And.intro HZn.out kn)
          go_wp2_with (refine wpList_st rfl 31 _ _ rfl w.heap.size 0 #[.int .i64 0, .int .i64 0, .int .i64 0, .int .i64 0, .int .i64 0, .slice none 0 0, .slice none 0 0, .int .i64 0, .int .i64 0, .slice none 0 0, .slice none 0 0] rfl rfl hT11.out info_frame (by simp [Value.oneCell']) ?_)
          intro W8 hW8
          have HG8 : Hid (BoxL W8 w.heap.size (cellsG zeroF bareP) ∧ Below w.heap.size w W8) := hid (by
            rw [hW8.out]
            obtain ⟨hz7, k7⟩ := HG7.out
            exact ⟨lay11_box hz7 zeroF bareP, k7.trans ((lay11_off wc w.heap.size zeroF bareP).below (Nat.le_refl _) (Nat.le_refl _) k7.size)⟩)
          clear hW8 HG7 hT11
          obtain ⟨z0, z1, z2, z3, z4, z5, z6, z7, z8, z9, z10⟩ := (box_G HG8.out.1).1
          go_wp2_with fail
          refine bodyPost_ret (v := .tuple #[encF zeroF bareP, .int .i64 6]) (by simp [results, Tryz.results6, go_sem, z0, z1, z2, z3, z4, z5, z6, z7, z8, z9, z10, zeroF, zeroS, bareP]) rfl ⟨bareP, rfl, ⟨Rd.none_, Rd.none_, Rd.none_, Rd.none_⟩, HG8.out.2⟩
      · have hr := HE.out.1 (Or.inr (Or.inr (Or.inl hver)))
        subst hr
        have gv : (ver != 1) = true := by simpa using hver
        obtain ⟨c0, f0⟩ := X6_13.out 0 _ rfl
        obtain ⟨c1, f1⟩ := X6_13.out 1 _ rfl
        obtain ⟨c2, f2⟩ := X6_13.out 2 _ rfl
        obtain ⟨c3, f3⟩ := X6_13.out 3 _ rfl
        obtain ⟨c4, f4⟩ := X6_13.out 4 _ rfl
        obtain ⟨c5, f5⟩ := X6_13.out 5 _ rfl
        obtain ⟨c6, f6⟩ := X6_13.out 6 _ rfl
        obtain ⟨c7, f7⟩ := X6_13.out 7 _ rfl
        obtain ⟨c8, f8⟩ := X6_13.out 8 _ rfl
        obtain ⟨c9, f9⟩ := X6_13.out 9 _ rfl
        obtain ⟨c10, f10⟩ := X6_13.out 10 _ rfl
        obtain ⟨e0, e1, g0, g1⟩ := X8_13.out.two
        have HZn := hid (HZ1.out.below q13 hz1)
        have kn := k1.trans (q13.mono k1.size)
        have hT11 := hid (box_there (o := 0) (n := 11) HZn.out (by simp [cellsG]))
        have HG7 := hid (And.intro HZn.out kn)
        go_wp2_with (refine wpList_st rfl 31 _ _ rfl w.heap.size 0 #[.int .i64 0, .int .i64 0, .int .i64 0, .int .i64 0, .int .i64 0, .slice none 0 0, .slice none 0 0, .int .i64 0, .int .i64 0, .slice none 0 0, .slice none 0 0] rfl rfl hT11.out info_frame (by simp [Value.oneCell']) ?_)
        intro W8 hW8
        have HG8 : Hid (BoxL W8 w.heap.size (cellsG zeroF bareP) ∧ Below w.heap.size w W8) := hid (by
          rw [hW8.out]
          obtain ⟨hz7, k7⟩ := HG7.out
          exact ⟨lay11_box hz7 zeroF bareP, k7.trans ((lay11_off w13 w.heap.size zeroF bareP).below (Nat.le_refl _) (Nat.le_refl _) k7.size)⟩)
        clear hW8 HG7 hT11
        obtain ⟨z0, z1, z2, z3, z4, z5, z6, z7, z8, z9, z10⟩ := (box_G HG8.out.1).1
        go_wp2_with fail
        refine bodyPost_ret (v := .tuple #[encF zeroF bareP, .int .i64 6]) (by simp [results, Tryz.results6, go_sem, z0, z1, z2, z3, z4, z5, z6, z7, z8, z9, z10, zeroF, zeroS, bareP]) rfl ⟨bareP, rfl, ⟨Rd.none_, Rd.none_, Rd.none_, Rd.none_⟩, HG8.out.2⟩
end Go.Proofs.YtngdgbicjhlnaaaGreat
