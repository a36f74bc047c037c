
/-
  SignTurned answers true for every input. No condition.
-/
import Derived.Test.YtkcckncglbjjdaaNg
import Derived.Test.YtkcckncglbjjdaaNf
import Derived.Test.YtkcckncglbjjdaaNd
import Derived.Test.YtkcckncglbjjdaaNd
namespace Go.Proofs.Ytkcckncglbjjdaa.SignTurned
open Go.ChangeShapes Go.WideShapes Go.ChangeAt Go.RowKit
set_option maxHeartbeats 400000
set_option linter.unusedVariables false
open Go.Proofs.Ytkcckncglbjjdaa
theorem sum_one {v : List Int} {x : Int} (h : x ∈ v) : szN x ≤ sumS v := by
  induction v with
  | nil => simp at h
  | cons y t ih =>
    rw [sumS_cons]
    rcases List.mem_cons.1 h with rfl | h
    · omega
    · have := ih h; omega
theorem ngL_snoc {v : List Int} {k : Nat} {x : Int} (hx : v[k]? = some x) : ngL (v.take (k + 1)) = ngL (v.take k) ++ [ngW x] := by
  rw [List.take_add_one, hx]
  unfold ngL
  rw [List.map_append]
  rfl
/-- Turned, and what was loosened: the same mean, signs as they are to be. -/
theorem turns_ok {v X : List Int} (uv : ∀ x ∈ v, I64 x) (hE : mnE v = 0) {M : Nat} (hM : mnN v = M) (hX : lsgL (M : Int) (sgN v) = X) :
    mnE (ngL v) = 0 ∧ mnV (ngL v) = (M : Int) ∧ mnE X = 0 ∧ mnV X = (M : Int) ∧ X.length = v.length ∧ M ≤ 9223372036854775807 ∧ (∀ y ∈ X, I64 y) ∧
    ∀ (k : Nat) (x : Int), v[k]? = some x → ∃ (z zt zu : Bool), (sgN v)[k]? = some z ∧ (sgN (ngL v))[k]? = some zt ∧ (sgN X)[k]? = some zu ∧ (x ≠ 0 → z ≠ zt) ∧ (0 < M → zu = z) := by
  obtain ⟨z1, z2, z3, z4, z5, z6⟩ := sg_loose hE
  obtain ⟨h0, h1⟩ := mnE_ok.1 hE
  obtain ⟨s1, s2, s3⟩ := sizeV_is h1
  obtain ⟨a1, a2⟩ := mn_alike (ngL_len v) (sumS_ng uv)
  rw [z3, hM, hX] at z4
  rw [hM] at z3 z5 z6
  have hl : 0 < v.length := List.length_pos_iff.2 h0
  have hXl : X.length = v.length := by rw [← hX]; unfold lsgL; rw [List.length_map, sgN_len]
  have hXs : sizeE X = 0 := by rw [sizeE_is (by omega), if_pos (by omega)]
  have hXE : mnE X = 0 := mnE_ok.2 ⟨fun e => by rw [e] at hXl; simp at hXl; omega, hXs⟩
  have hXN : mnN X = M := by unfold mnN; rw [z4, hXl, Nat.mul_div_cancel_left M hl]
  have hMb : M ≤ 9223372036854775807 := by
    have h2 : 1 * M ≤ v.length * M := Nat.mul_le_mul_right M hl
    omega
  refine ⟨by rw [a1]; exact hE, by rw [a2, z3], hXE, by unfold mnV; rw [if_pos hXE, hXN], hXl, hMb, ?_, fun k x hx => ?_⟩
  · rw [← hX]
    intro y hy
    unfold lsgL at hy
    obtain ⟨b, _, rfl⟩ := List.mem_map.1 hy
    unfold I64
    split <;> omega
  · have hxi := uv x (List.mem_of_getElem? hx)
    have hsz := sum_one (List.mem_of_getElem? hx)
    have hn : (ngL v)[k]? = some (ngW x) := by unfold ngL; rw [List.getElem?_map, hx]; rfl
    have hxx : X[k]? = some (if x < 0 then -(M : Int) else (M : Int)) := by
      rw [← hX]
      unfold lsgL
      rw [List.getElem?_map, sgN_at hx]
      simp
    refine ⟨decide (x < 0), decide (ngW x < 0), decide ((if x < 0 then -(M : Int) else (M : Int)) < 0), sgN_at hx, sgN_at hn, sgN_at hxx, fun h2 e => ?_, fun h2 => ?_⟩
    · have e2 : (x < 0) ↔ ngW x < 0 := decide_eq_decide.1 e
      unfold szN at hsz
      unfold ngW wrap64 at e2
      unfold I64 at hxi
      omega
    · refine decide_eq_decide.2 ?_
      split <;> omega
set_option maxHeartbeats 8000000 in
set_option maxRecDepth 100000 in
theorem walk (Av : Option Addr) (v : List Int) (cv : Nat) (w : World) (rv : Rd (Value.int .i64) w w.heap.size Av v) (uv : I64s v) (lv : v.length ≤ cv) (mv : cv ≤ 9223372036854775807) :
    Calls Try.prog 6 #[.slice Av v.length cv] w fun e w' => e = .returned (.bool true) ∧ Below w.heap.size w w' := by
  have HV := hid rv
  have hv : v.length ≤ 9223372036854775807 := by omega
  have CF := hid (fun W => sg_few (A := Av) (c := cv) (B := none) (d := 0) [] hv (by simp) (by simp) W (RdBs.nil W W.heap.size none))
  rw [show ([] : List (List Bool)).length = 0 from rfl] at CF
  by_cases hf : fewS v.length [] = true
  · rw [hf] at CF
    have CP := hid (fun (Y : List Int) (uY : I64s Y) (lY : Y.length ≤ 9223372036854775807) (A : Option Addr) (c : Nat) W (h1 : Rd (Value.int .i64) W W.heap.size A Y) => sn_Press (A := A) (c := c) Y uY lY W h1)
    by_cases hE : mnE v = 0
    · have CQ := hid (fun W h1 => (CP.out v uv hv Av cv W h1).mono fun e w' => gs_parts hE)
      obtain ⟨z1, z2, z3, _, _, _⟩ := sg_loose hE
      have hlv := (sizeV_is (mnE_ok.1 hE).2).1
      obtain ⟨M, hM⟩ : ∃ M, mnN v = M := ⟨_, rfl⟩
      rw [hM] at z3
      obtain ⟨X, hX⟩ : ∃ X, lsgL (M : Int) (sgN v) = X := ⟨_, rfl⟩
      obtain ⟨o1, o2, o3, o4, o5, o6, uX, o7⟩ := turns_ok uv hE hM hX
      have HK := hid o7
      have CO := hid (fun A1 c1 W (h2 : RdS W W.heap.size (sgS v) ⟨none, 0, none, 0, none, 0, A1, c1⟩) => sn_Loosen (sgS v) ⟨none, 0, none, 0, none, 0, A1, c1⟩ ((sgS_ln v).more (by decide)) sgS_wf W h2)
      rw [z1, z2, z3, hX] at CO
      have HRA := hid (fun (base : Nat) (w' : World) (A : Option Addr) (c : Nat) o => gs_rd (base := base) (w' := w') (A := A) (c := c) hE o)
      have HRB := hid (fun (base : Nat) (w' : World) (A : Option Addr) (c : Nat) o => gs_rd (base := base) (w' := w') (A := A) (c := c) o1 o)
      have HRC := hid (fun (base : Nat) (w' : World) (A : Option Addr) (c : Nat) o => gs_rd (base := base) (w' := w') (A := A) (c := c) o3 o)
      obtain ⟨V, hV⟩ : ∃ V, ngL v = V := ⟨_, rfl⟩
      have lV : V.length = v.length := by rw [← hV, ngL_len]
      have uV : I64s V := by rw [← hV]; exact ngL_i64 v
      have HNE := hid (show ngL (v.take v.length) = V by rw [List.take_length, hV])
      rw [hV] at o1 o2 HK HRB
      have CQ2 := hid (fun A c W h1 => (CP.out V uV (by omega) A c W h1).mono fun e w' => gs_parts o1)
      have CQ3 := hid (fun A c W h1 => (CP.out X uX (by omega) A c W h1).mono fun e w' => gs_parts o3)
      have p1 := sgS_parts hE
      have p2 := sgS_parts o1
      have p3 := sgS_parts o3
      rw [z3] at CQ p1
      rw [o2] at CQ2 p2
      rw [o4] at CQ3 p3
      rw [p1] at HRA CO
      rw [p2] at HRB
      rw [p3] at HRC
      have e2 := sgN_len v
      have CO := hid (fun A1 c1 W h2 => show Calls Try.prog 16 #[.agg #[.int .i64 3, .int .i64 (v.length : Int), .slice none 0 0, .slice none 0 0, .int .i64 (M : Int), .int .i64 0, .slice none 0 0, .slice A1 v.length c1]] W (OwnE 2 .i64 W.heap.size X 0 W) by
        have h := CO.out A1 c1 W h2
        simp only [encT, e2, List.length_nil] at h
        exact h)
      obtain ⟨NA, hNA⟩ : ∃ L, sgN v = L := ⟨_, rfl⟩
      obtain ⟨NB, hNB⟩ : ∃ L, sgN V = L := ⟨_, rfl⟩
      obtain ⟨NC, hNC⟩ : ∃ L, sgN X = L := ⟨_, rfl⟩
      rw [hNA] at CQ HRA CO HK
      rw [hNB] at CQ2 HRB HK
      rw [hNC] at CQ3 HRC HK
      have HSN := hid (fun (j : Nat) (x : Int) (hx : v[j]? = some x) => ngL_snoc hx)
      have HTL := hid (fun j => show (ngL (v.take j)).length ≤ 4096 by rw [ngL_len, List.length_take]; omega)
      have HT0 : Hid (ngL (v.take 0) = []) := rfl
      have LS := hid lV
      have LX := hid o5
      clear hf hE z1 z2 z3 hM hX o1 o2 o3 o4 o5 o7 uX hV lV uV p1 p2 p3 e2 hNA hNB hNC CP uv rv
      go_enter Try.func6, Try.ntmps6
      go_wp2_with fail
      refine (sg_live _).mono ?_
      rintro _ w1 ⟨rfl, k1⟩
      go_wp2_with fail
      refine (CF.out w1).mono ?_
      rintro _ _ ⟨rfl, rfl⟩
      clear CF
      go_wp2_with fail
      refine (CQ.out w1 (HV.out.on k1)).mono ?_
      rintro _ w2 ⟨A2, c2, rfl, o1, hb2⟩
      have k2 := k1.trans (hb2.mono k1.size)
      have RD := hid (HRA.out _ w2 A2 c2 o1)
      have g2 := sg_grow w2 (.cells #[.int .i64 3, .int .i64 (v.length : Int), .slice none 0 0, .slice none 0 0, .int .i64 (M : Int), .int .i64 0, .slice none 0 0, .slice A2 v.length c2] 27)
      have n2 : BoxL (w2.alloc (.cells #[.int .i64 3, .int .i64 (v.length : Int), .slice none 0 0, .slice none 0 0, .int .i64 (M : Int), .int .i64 0, .slice none 0 0, .slice A2 v.length c2] 27)) w2.heap.size [.int .i64 3, .int .i64 (v.length : Int), .slice none 0 0, .slice none 0 0, .int .i64 (M : Int), .int .i64 0, .slice none 0 0, .slice A2 v.length c2] := BoxL.new w2 [.int .i64 3, .int .i64 (v.length : Int), .slice none 0 0, .slice none 0 0, .int .i64 (M : Int), .int .i64 0, .slice none 0 0, .slice A2 v.length c2] 27
      obtain ⟨w3, hw3⟩ : ∃ w3, w2.alloc (.cells #[.int .i64 3, .int .i64 (v.length : Int), .slice none 0 0, .slice none 0 0, .int .i64 (M : Int), .int .i64 0, .slice none 0 0, .slice A2 v.length c2] 27) = w3 := ⟨_, rfl⟩
      rw [hw3] at g2 n2
      have k3 := k2.trans (g2.mono k2.size)
      have RA3 := hid (RD.out.on g2)
      have XA := hid n2
      clear o1 hb2 HRA CQ g2 n2 RD k1 k2
      go_upto_region 7 with fail
      try rw [hw3]
      clear hw3
      go_wp2_with fail
      go_loopw [6, 8, 34] (fun x6 x8 i wr => ∃ (j : Nat) (S : List Int) (A2 : Option Addr) (c2 : Nat), j ≤ v.length ∧ i = .int .i64 j ∧ x6 = .slice A2 S.length c2 ∧ S = ngL (v.take j) ∧ wr.ownsRow w3.heap.size 2 1 (.slice A2 S.length c2) S.length (S.map (Value.int .i64)) ∧ Below w3.heap.size w3 wr) (fun _ _ i _ => v.length - (intOf i).toNat)
      case atStart => exact ⟨0, [], none, 0, by omega, rfl, rfl, HT0.out.symm, own_nil _ _ _, Below.refl _ _⟩
      case round =>
        obtain ⟨j, S, A3, c3, hj, rfl, rfl, hS, ho, hbel⟩ := hrel
        have HS := hid hS
        have HO := hid ho
        have hSl : S.length ≤ 4096 := by rw [hS]; exact HTL.out j
        have kw := k3.trans (hbel.mono k3.size)
        clear hS ho
        by_cases hlt : j < v.length
        · obtain ⟨b1, o1, x, rfl, l1, ex, d1⟩ := (HV.out.on kw).at_ hlt
          have HSJ := hid (HSN.out j x ex)
          obtain ⟨z, hz⟩ : ∃ z, ngW x = z := ⟨_, rfl⟩
          rw [hz] at HSJ
          have hz1 : wrap64 (-x) = z := hz
          have hz2 : IntKind.i64.wrap (-x) = z := by rw [← hz1, IntKind.wrap_i64, wrap64_eq]
          have hr0 : Rd (Value.int .i64) (wr.alloc (.cells #[.int .i64 z] 2)) _ (some ⟨wr.heap.size, 0, none⟩) [z] := rd_one (one_cell wr (.int .i64 z) 2).1
          have hz0 := (one_cell wr (.int .i64 z) 2).2
          have h0' := own_on HO.out hz0
          clear ex hz
          go_wp2_with (at_builtin; refine wpList_app (Value.int .i64) (fun _ => rfl) _ rfl _ _ 22 rfl w3.heap.size 2 (.int .i64 0) 8 Try.underlying22 info_i64 rfl S A3 c3 rfl h0' [z] _ 1 _ rfl hr0 (by simp [maxLen]; omega) (by simp; omega) (by have := hbel.size; simp; omega) ?_)
          rintro S' A' c' w4 hS' ho4 hb4 _
          have HO4 := hid ho4
          have HEQ := hid hS'
          clear hS' ho4 h0' hr0 hz1 hz2
          go_wp2_with fail
          go_roundw
          case rel => exact ⟨j + 1, S', A', c', by omega, by go_num, rfl, by rw [HEQ.out, HSJ.out, HS.out], HO4.out, (hbel.alloc hbel.size _).trans hb4⟩
          case measure => simp [intOf]; omega
        · have hje : j = v.length := by omega
          have hSe : S = V := by rw [HS.out, hje]; exact HNE.out
          subst hSe
          have RV := hid (own_rd HO.out)
          have XAw := hid (XA.out.below hbel (XA.out.lt (by simp)))
          have RAw := hid (RA3.out.on hbel)
          clear HS HO HSN HNE HTL HT0 hje hbel XA RA3 k3
          go_wp2_with fail
          refine (CQ2.out _ _ wr RV.out).mono ?_
          rintro _ w4 ⟨A4, c4, rfl, o1, hb4⟩
          have k4 := kw.trans (hb4.mono kw.size)
          have RB4 := hid (HRB.out _ w4 A4 c4 o1)
          have g4 := sg_grow w4 (.cells #[.int .i64 3, .int .i64 (S.length : Int), .slice none 0 0, .slice none 0 0, .int .i64 (M : Int), .int .i64 0, .slice none 0 0, .slice A4 S.length c4] 27)
          have n4 : BoxL (w4.alloc (.cells #[.int .i64 3, .int .i64 (S.length : Int), .slice none 0 0, .slice none 0 0, .int .i64 (M : Int), .int .i64 0, .slice none 0 0, .slice A4 S.length c4] 27)) w4.heap.size [.int .i64 3, .int .i64 (S.length : Int), .slice none 0 0, .slice none 0 0, .int .i64 (M : Int), .int .i64 0, .slice none 0 0, .slice A4 S.length c4] := BoxL.new w4 [.int .i64 3, .int .i64 (S.length : Int), .slice none 0 0, .slice none 0 0, .int .i64 (M : Int), .int .i64 0, .slice none 0 0, .slice A4 S.length c4] 27
          obtain ⟨w5, hw5⟩ : ∃ wn, w4.alloc (.cells #[.int .i64 3, .int .i64 (S.length : Int), .slice none 0 0, .slice none 0 0, .int .i64 (M : Int), .int .i64 0, .slice none 0 0, .slice A4 S.length c4] 27) = wn := ⟨_, rfl⟩
          rw [hw5] at g4 n4
          have k5 := k4.trans (g4.mono k4.size)
          have XA5 := hid ((XAw.out.below hb4 (XAw.out.lt (by simp))).below g4 (by have := XAw.out.lt (by simp); have := hb4.size; omega))
          have RA5 := hid ((RAw.out.on hb4).on g4)
          have RB5 := hid (RB4.out.on g4)
          have XB5 := hid n4
          clear o1 hb4 g4 k4 kw RV RAw RB4 XAw n4 HRB CQ2
          go_upto_region 16 with fail
          try rw [hw5]
          clear hw5
          obtain ⟨⟨f0, f1, f2, f3, f4, f5, f6, f7⟩, _⟩ := XA5.out.eight
          go_wp2_with fail
          refine (CO.out _ _ w5 RA5.out).mono ?_
          rintro _ w6 ⟨A6, c6, rfl, o6, hb6⟩
          have k6 := k5.trans (hb6.mono k5.size)
          have RX6 := hid (own_rd o6)
          have XA6 := hid (XA5.out.below hb6 (XA5.out.lt (by simp)))
          have XB6 := hid (XB5.out.below hb6 (XB5.out.lt (by simp)))
          have RA6 := hid (RA5.out.on hb6)
          have RB6 := hid (RB5.out.on hb6)
          clear o6 hb6 k5 XA5 XB5 RA5 RB5 CO f0 f1 f2 f3 f4 f5 f6 f7
          go_wp2_with fail
          refine (CQ3.out _ _ w6 RX6.out).mono ?_
          rintro _ w8 ⟨A8, c8, rfl, o8, hb8⟩
          have k8 := k6.trans (hb8.mono k6.size)
          have RC8 := hid (HRC.out _ w8 A8 c8 o8)
          have g8 := sg_grow w8 (.cells #[.int .i64 3, .int .i64 (X.length : Int), .slice none 0 0, .slice none 0 0, .int .i64 (M : Int), .int .i64 0, .slice none 0 0, .slice A8 X.length c8] 27)
          have n8 : BoxL (w8.alloc (.cells #[.int .i64 3, .int .i64 (X.length : Int), .slice none 0 0, .slice none 0 0, .int .i64 (M : Int), .int .i64 0, .slice none 0 0, .slice A8 X.length c8] 27)) w8.heap.size [.int .i64 3, .int .i64 (X.length : Int), .slice none 0 0, .slice none 0 0, .int .i64 (M : Int), .int .i64 0, .slice none 0 0, .slice A8 X.length c8] := BoxL.new w8 [.int .i64 3, .int .i64 (X.length : Int), .slice none 0 0, .slice none 0 0, .int .i64 (M : Int), .int .i64 0, .slice none 0 0, .slice A8 X.length c8] 27
          obtain ⟨w9, hw9⟩ : ∃ wn, w8.alloc (.cells #[.int .i64 3, .int .i64 (X.length : Int), .slice none 0 0, .slice none 0 0, .int .i64 (M : Int), .int .i64 0, .slice none 0 0, .slice A8 X.length c8] 27) = wn := ⟨_, rfl⟩
          rw [hw9] at g8 n8
          have k9 := k8.trans (g8.mono k8.size)
          have XA9 := hid ((XA6.out.below hb8 (XA6.out.lt (by simp))).below g8 (by have := XA6.out.lt (by simp); have := hb8.size; omega))
          have XB9 := hid ((XB6.out.below hb8 (XB6.out.lt (by simp))).below g8 (by have := XB6.out.lt (by simp); have := hb8.size; omega))
          have XC9 := hid n8
          have RA9 := hid ((RA6.out.on hb8).on g8)
          have RB9 := hid ((RB6.out.on hb8).on g8)
          have RC9 := hid (RC8.out.on g8)
          have HV9 := hid (HV.out.on k9)
          clear o8 hb8 g8 k8 k6 RX6 XA6 XB6 RA6 RB6 RC8 n8 HRC CQ3
          go_upto_region 18 with fail
          try rw [hw9]
          clear hw9
          obtain ⟨⟨f0, f1, f2, f3, f4, f5, f6, f7⟩, _⟩ := XA9.out.eight
          obtain ⟨⟨g0, g1, g2, g3, g4, g5, g6, g7⟩, _⟩ := XB9.out.eight
          obtain ⟨⟨h0, h1, h2, h3, h4, h5, h6, h7⟩, _⟩ := XC9.out.eight
          have i3 : ((S.length : Int) != (v.length : Int)) = false := bne_eq_false_iff_eq.2 (by have := LS.out; omega)
          have i4 : (S.length != v.length) = false := bne_eq_false_iff_eq.2 LS.out
          have i5 : ((X.length : Int) != (v.length : Int)) = false := bne_eq_false_iff_eq.2 (by have := LX.out; omega)
          have i6 : (X.length != v.length) = false := bne_eq_false_iff_eq.2 LX.out
          have i7 : ((M : Int) != (M : Int)) = false := by simp
          have i8 : ((v.length : Int) != (v.length : Int)) = false := by simp
          go_wp2_with fail
          clear f0 f1 f2 f3 f4 f5 f6 f7 g0 g1 g2 g3 g4 g5 g6 g7 h0 h1 h2 h3 h4 h5 h6 h7 i3 i4 i5 i6 i7 i8
          go_loopw [15, 16, 109] (fun x15 x16 i wt => ∃ j : Nat, j ≤ v.length ∧ i = .int .i64 j ∧ ∃ n, wt = w9.drewN n) (fun _ _ i _ => v.length - (intOf i).toNat)
          case atStart => exact ⟨0, by omega, rfl, 0, rfl⟩
          case round =>
            obtain ⟨k, hk, rfl, m, rfl⟩ := hrel
            have kd := belowN w9.heap.size w9 m
            have kz := k9.trans (kd.mono k9.size)
            by_cases hlt : k < v.length
            · obtain ⟨b1, o1, x, rfl, l1, ex, d1⟩ := HV9.out.at_ hlt
              obtain ⟨z, zt, zu, q1, q2, q3, q4, q5⟩ := HK.out k x ex
              obtain ⟨b5, o5, y5, rfl, l5, ey5, d5⟩ := RA9.out.2.2.2.at_ (List.getElem?_eq_some_iff.1 q1).1
              obtain rfl : z = y5 := by rw [q1] at ey5; injection ey5
              obtain ⟨b6, o6, y6, rfl, l6, ey6, d6⟩ := RB9.out.2.2.2.at_ (List.getElem?_eq_some_iff.1 q2).1
              obtain rfl : zt = y6 := by rw [q2] at ey6; injection ey6
              obtain ⟨b7, o7, y7, rfl, l7, ey7, d7⟩ := RC9.out.2.2.2.at_ (List.getElem?_eq_some_iff.1 q3).1
              obtain rfl : zu = y7 := by rw [q3] at ey7; injection ey7
              have hkS : k < S.length := by rw [LS.out]; exact hlt
              have hkX : k < X.length := by rw [LX.out]; exact hlt
              have a4 := (XA9.out 4 _ rfl).1
              have a7 := (XA9.out 7 _ rfl).1
              have p7 := (XB9.out 7 _ rfl).1
              have r7 := (XC9.out 7 _ rfl).1
              have Q4 := hid q4
              have Q5 := hid q5
              clear ex ey5 ey6 ey7 q1 q2 q3 q4 q5
              have key : ∀ (hx : (x != 0) = false ∨ ((x != 0) = true ∧ (zt == z) = false)), True := fun _ => trivial
              by_cases hm0 : 0 < M
              · have hu := Q5.out hm0
                subst hu
                have m1 : decide ((M : Int) > 0) = true := decide_eq_true (by omega)
                have tz : (zu != zu) = false := by simp
                clear Q5 key
                by_cases hx0 : x = 0
                · have t0 : (x != 0) = false := bne_eq_false_iff_eq.2 hx0
                  clear hx0 Q4
                  go_wp2_with fail
                  go_quiet (fail)
                  go_wp2_with fail
                  go_roundw
                  case rel => exact ⟨k + 1, by omega, by go_num, _, rfl⟩
                  case measure => simp [intOf]; omega
                · have t0 : (x != 0) = true := bne_iff_ne.2 hx0
                  have t1 : (zt == zu) = false := beq_eq_false_iff_ne.2 (fun e => Q4.out hx0 e.symm)
                  clear hx0 Q4
                  go_wp2_with fail
                  go_quiet (fail)
                  go_wp2_with fail
                  go_roundw
                  case rel => exact ⟨k + 1, by omega, by go_num, _, rfl⟩
                  case measure => simp [intOf]; omega
              · have m1 : decide ((M : Int) > 0) = false := decide_eq_false (by omega)
                clear Q5 key
                by_cases hx0 : x = 0
                · have t0 : (x != 0) = false := bne_eq_false_iff_eq.2 hx0
                  clear hx0 Q4
                  go_wp2_with fail
                  go_quiet (fail)
                  go_wp2_with fail
                  go_roundw
                  case rel => exact ⟨k + 1, by omega, by go_num, _, rfl⟩
                  case measure => simp [intOf]; omega
                · have t0 : (x != 0) = true := bne_iff_ne.2 hx0
                  have t1 : (zt == z) = false := beq_eq_false_iff_ne.2 (fun e => Q4.out hx0 e.symm)
                  clear hx0 Q4
                  go_wp2_with fail
                  go_quiet (fail)
                  go_wp2_with fail
                  go_roundw
                  case rel => exact ⟨k + 1, by omega, by go_num, _, rfl⟩
                  case measure => simp [intOf]; omega
            · go_wp2_with fail
              go_ret
              exact ⟨rfl, kz⟩
    · have CQ := hid (fun W h1 => (CP.out v uv hv Av cv W h1).mono fun e w' => gs_none hE)
      obtain ⟨E, hEE⟩ : ∃ E, mnE v = E := ⟨_, rfl⟩
      rw [hEE] at CQ hE
      have hne : (E != 0) = true := by simpa using hE
      clear hf hE hEE CP uv rv
      go_enter Try.func6, Try.ntmps6
      go_wp2_with fail
      refine (sg_live _).mono ?_
      rintro _ w1 ⟨rfl, k1⟩
      go_wp2_with fail
      refine (CF.out w1).mono ?_
      rintro _ _ ⟨rfl, rfl⟩
      clear CF
      go_wp2_with fail
      refine (CQ.out w1 (HV.out.on k1)).mono ?_
      rintro _ w2 ⟨A2, c2, rfl, hb2⟩
      have k2 := k1.trans (hb2.mono k1.size)
      have k3 := k2.trans ((sg_grow w2 (.cells #[.int .i64 0, .int .i64 0, .slice none 0 0, .slice none 0 0, .int .i64 0, .int .i64 0, .slice none 0 0, .slice A2 0 c2] 27)).mono k2.size)
      go_wp2_with fail
      go_ret
      exact ⟨rfl, k3⟩
  · rw [Bool.eq_false_iff.2 hf] at CF
    clear hf rv uv
    go_enter Try.func6, Try.ntmps6
    go_wp2_with fail
    refine (sg_live _).mono ?_
    rintro _ w1 ⟨rfl, k1⟩
    go_wp2_with fail
    refine (CF.out w1).mono ?_
    rintro _ _ ⟨rfl, rfl⟩
    clear CF
    go_wp2_with fail
    go_ret
    exact ⟨rfl, k1⟩
theorem law_types : ∀ t ∈ Try.f6.params.toList, Try.prog.readableRec t = true ∧ t < Try.prog.types.size := by
  have h : (Try.f6.params.toList.all fun t => Try.prog.readableRec t && decide (t < Try.prog.types.size)) = true := by kernel_rfl
  intro t ht
  simpa using List.all_eq_true.1 h t ht
set_option maxRecDepth 100000 in
theorem lifted (os : Os) (started : os.Started) (H : Type) (enc : TypeId × Value → H) :
    ReturnsInHanded {} Try.checked os 6 .any (Rows.signTurnedSpec.pre6 enc Try.prog Try.f6 Rows.signTurnedRow.domain false) (Rows.signTurnedSpec.post enc Try.prog Try.f6 false true false false) := by
  refine returnsInHanded_of_change (C := Try.checked) own started (by kernel_rfl) Try.func6
    (ChangeSpec.witness6 (enc := enc) (C := Try.checked) false ⟨#[], #[.slice none 0 0], []⟩ 8 (by kernel_rfl) (by kernel_rfl) (by kernel_rfl) (by kernel_rfl)) ?_
  intro W base args ds gs before hval0 hW hcnd _
  have hval : ∀ (j : Nat) t v, Try.f6.params[j]? = some t → args[j]? = some v → Value.okWide Try.prog W .any base t v := hval0
  have hW' := hW
  obtain ⟨p, q, hA0, hV, rfl, hfz, hnd⟩ := hW
  have hA : DataW.TrodAll enc Try.prog W 0 (fun _ => true) true Try.f6.params.toList args.toList ds p := hA0
  rw [Try.params6] at hA hval
  obtain ⟨v0, vs0, d0, ds0, p0, q0, hargs, rfl, rfl, h0, r0⟩ := trodAll_cons hA
  obtain ⟨rfl, rfl, rfl⟩ := trodAll_nil r0
  obtain rfl : args = #[v0] := by cases args; simp_all
  obtain ⟨rfl, rfl⟩ := trodVars_none hV
  obtain ⟨Av, v, cv, rfl, rdv, iv, lcv, lmv⟩ := open_nums Try.underlying22 Try.underlying2 cells_i64' (hval 0 22 v0 rfl rfl) h0
  clear hA0 hval0
  refine (walk Av v cv W rdv (fun x hx => I64.of_wf (iv x hx)) lcv lmv).mono fun e W' ⟨he, hb⟩ => ?_
  subst he
  exact ⟨_, rfl, law_post laid (fun t ht => law_types t ht) rfl hW' ⟨rfl, rfl, rfl⟩ (by kernel_rfl) Try.underlying4 hb⟩

theorem over : Rows.signTurnedRow.holds Try.pinned (OpenSpec.ofChange Rows.signTurnedSpec) :=
  OpenClaim.holds_of_wide 6 Try.f6 rfl rfl rfl rfl rfl rfl rfl ⟨rfl, rfl, rfl, rfl, rfl⟩ rfl rfl rfl rfl rfl (by kernel_rfl) Try.func6 (by kernel_rfl)
    (of_decide_eq_true (by kernel_rfl)) (by unfold Func.isWrapper; first | (rw [if_pos (by decide +kernel)]; kernel_rfl) | (rw [if_neg (by decide +kernel)]; exact ⟨rfl, rfl⟩))
    (fun os started H enc _ => lifted os started H enc)

theorem proved : Rows.SignTurnedSaid := over
end Go.Proofs.Ytkcckncglbjjdaa.SignTurned
