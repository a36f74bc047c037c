
/-
  QuantNear answers true for every input. No condition.
-/
import Derived.Test.YtbkoapdeglmopaaJg
import Derived.Test.YtbkoapdeglmopaaJe
import Derived.Test.YtbkoapdeglmopaaJd
namespace Go.Proofs.Ytbkoapdeglmopaa.QuantNear
open Go.ChangeShapes Go.WideShapes Go.ChangeAt Go.RowKit
set_option maxHeartbeats 400000
set_option linter.unusedVariables false
open Go.Proofs.Ytbkoapdeglmopaa
/-- What is asked of each number, in plain words. -/
theorem off_ok {v X : List Int} {wide : Int} {s : Nat} {n : List Int} (hE : prqE v wide = 0) (uv : ∀ x ∈ v, I64 x) (hX : loqL (prqS v wide s n) v.length = X) {M t : Nat} (hM : mostV v = (M : Int)) (ht : topQ wide = t) {k : Nat} {x y : Int} (hx : v[k]? = some x) (hy : X[k]? = some y) :
    ∃ O : Nat, absI (x - y) = (O : Int) ∧ (O : Int) ≤ (M : Int) / (t : Int) + 1 ∧ wrap64 (x - y) = x - y ∧ I64 (x - y) ∧ I64 (absI (x - y)) ∧ ¬ (0 < y ∧ x < 0) ∧ ¬ (y < 0 ∧ 0 < x) ∧ (szN y : Int) ≤ (M : Int) ∧ I64 y := by
  have hk := (List.getElem?_eq_some_iff.1 hx).1
  have hxi := uv x (List.mem_of_getElem? hx)
  rw [← hX, loqL_at _ hk] at hy
  obtain ⟨h1, h2, h3, h4⟩ := prq_off (seed := s) (n := n) hE hk (Option.some.inj hy)
  rw [getD_of hx] at h1 h2 h3
  obtain ⟨m1, m2, m3, m4, m5⟩ := mostq_ok (prqE_ok.1 hE).2.2
  clear m5
  have hxM := m4 x (List.mem_of_getElem? hx)
  rw [hM, Int.toNat_natCast] at h1 h4
  rw [ht] at h1
  rw [hM] at m3 hxM
  have htb := topQ_bd (prqE_ok.1 hE).1
  rw [ht] at htb
  have hd : M / t ≤ M := Nat.div_le_self M t
  unfold szN at h4 hxM
  have e : ((M / t : Nat) : Int) = (M : Int) / (t : Int) := by simp
  have hxy : I64 (x - y) := by
    unfold I64 at hxi ⊢
    omega
  have ha : absI (x - y) = ((x - y).natAbs : Int) := by unfold absI; split <;> omega
  have hay : I64 (absI (x - y)) := by
    rw [ha]
    unfold I64 at hxi ⊢
    omega
  refine ⟨(x - y).natAbs, ha, by rw [← e]; omega, I64.wrap_in hxy, hxy, hay, h2, h3, by unfold szN; omega, ?_⟩
  unfold I64
  omega
/-- vec.Size of one number, behind a draw. -/
theorem size_any1d (n : Int) (hn : I64 n) (w : World) :
    Calls Try.prog 27 #[.slice (some ⟨w.heap.size, 0, none⟩) 1 1] (w.alloc (.cells #[.int .i64 n] 2)).drew fun e w' => e = .returned (.tuple #[.int .i64 (ckV (absI n)), .int .i64 (ckE (absI n))]) ∧ Below w.heap.size w w' := by
  have hr : Rd (Value.int .i64) (w.alloc (.cells #[.int .i64 n] 2)).drew (w.alloc (.cells #[.int .i64 n] 2)).drew.heap.size (some ⟨w.heap.size, 0, none⟩) [n] := rd_new (enc := Value.int .i64) w 2 [n]
  have h := Size_any (A := some ⟨w.heap.size, 0, none⟩) (c := 1) [n] (by simp) (by intro x hx; simp at hx; rw [hx]; exact hn) _ hr
  rw [(size_one n).1, (size_one n).2] at h
  refine h.mono ?_
  rintro _ w1 ⟨rfl, hb⟩
  exact ⟨rfl, Below.trans (qu_grow w _).drew (hb.mono (by simp))⟩
set_option maxHeartbeats 8000000 in
set_option maxRecDepth 100000 in
theorem walk (Av : Option Addr) (v : List Int) (cv : Nat) (wide seed : Int) (An : Option Addr) (n : List Int) (cn : Nat) (w : World) (rv : Rd (Value.int .i64) w w.heap.size Av v) (uv : I64s v) (lv : v.length ≤ cv) (mv : cv ≤ 9223372036854775807) (hw : I64 wide) (hs : U64 seed)
    (rn : Rd (Value.int .i64) w w.heap.size An n) (un : I64s n) (ln : n.length ≤ cn) (mn : cn ≤ 9223372036854775807) :
    Calls Try.prog 5 #[.slice Av v.length cv, .int .i64 wide, .int .u64 seed, .slice An n.length cn] w fun e w' => e = .returned (.bool true) ∧ Below w.heap.size w w' := by
  have HV := hid rv
  have HN := hid rn
  obtain ⟨s, rfl⟩ := Int.eq_ofNat_of_zero_le hs.1
  have hs2 : s < 2 ^ 64 := by have := hs.2; omega
  have hv : v.length ≤ 9223372036854775807 := by omega
  have hn : n.length ≤ 9223372036854775807 := by omega
  have CF := hid (fun W => qu_few (A := Av) (c := cv) (B := An) (d := cn) v n hv hn W)
  by_cases hf : fewU v n = true
  · rw [hf] at CF
    have h5 : v.length ≤ 5000 ∧ n.length ≤ 50 := by
      unfold fewU at hf
      have := of_decide_eq_true hf
      omega
    have CP := hid (fun W (h1 : Rd (Value.int .i64) W W.heap.size Av v) (h2 : Rd (Value.int .i64) W W.heap.size An n) => qp_Press (A := Av) (B := An) (c := cv) (d := cn) v uv hv wide hw s hs2 n un (by omega) W h1 h2)
    by_cases hE : prqE v wide = 0
    · have CQ := hid (fun W h1 h2 => (CP.out W h1 h2).mono fun e w' => sl_parts hE)
      obtain ⟨m1, m2, m3, m4, m5⟩ := mostq_ok (prqE_ok.1 hE).2.2
      clear m5
      obtain ⟨M, hM⟩ := Int.eq_ofNat_of_zero_le m2
      have htb := topQ_bd (prqE_ok.1 hE).1
      have hst := (prqE_ok.1 hE).1
      have CS := hid (fun W => qp_Steps wide hw W)
      rw [hst, show stsV wide = topQ wide from if_pos hst] at CS
      have hln := prqS_ln (v := v) (wide := wide) (s := s) (n := n)
      have hwf := prqS_wf (v := v) (s := s) (n := n) hw
      have hpl := (prq_loose (seed := s) (n := n) hE)
      have HRD := hid (fun (base : Nat) (w' : World) (A A' : Option Addr) (c c' : Nat) o1 o2 => sl_rd (base := base) (w' := w') (A := A) (A' := A') (c := c) (c' := c') (s := s) (n := n) hE o1 o2)
      have CN := hid (fun A1 A2 c1 c2 W (h1 : Rd (Value.int .i64) W W.heap.size Av v) (h2 : RdS W W.heap.size (prqS v wide s n) ⟨none, 0, none, 0, A1, c1, A2, c2⟩) => qp_Near (A := Av) (c := cv) v uv hv (prqS v wide s n) ⟨none, 0, none, 0, A1, c1, A2, c2⟩ (hln.more (by decide)) hwf W h1 h2)
      rw [prq_near hE] at CN
      have CM := hid (fun A1 A2 c1 c2 W (h2 : RdS W W.heap.size (prqS v wide s n) ⟨none, 0, none, 0, A1, c1, A2, c2⟩) => fs_May (prqS v wide s n) ⟨none, 0, none, 0, A1, c1, A2, c2⟩ (hln.more (by decide)) hwf W h2)
      rw [prq_may hE] at CM
      have CO := hid (fun A1 A2 c1 c2 W (h2 : RdS W W.heap.size (prqS v wide s n) ⟨none, 0, none, 0, A1, c1, A2, c2⟩) => qp_Loosen (prqS v wide s n) ⟨none, 0, none, 0, A1, c1, A2, c2⟩ (hln.more (by decide)) hwf W h2)
      rw [hpl.1, hpl.2.1] at CO
      have HOF := hid (fun (X : List Int) (t : Nat) hX (ht : topQ wide = t) k x y (hx : v[k]? = some x) (hy : X[k]? = some y) => off_ok (s := s) (n := n) hE uv hX hM ht hx hy)
      obtain ⟨X, hX⟩ : ∃ X, loqL (prqS v wide s n) v.length = X := ⟨_, rfl⟩
      obtain ⟨t, ht⟩ : ∃ t, topQ wide = t := ⟨_, rfl⟩
      have HK := hid (fun k x y (hx : v[k]? = some x) (hy : X[k]? = some y) => HOF.out X t hX ht k x y hx hy)
      have hXl : X.length = v.length := by rw [← hX, loqL_len]
      have HXL := hid hXl
      rw [ht] at htb CS
      rw [hX] at CO
      have hP := prq_parts (seed := s) (n := n) hE
      have e1 := levQ_len v wide s n v.length
      have e2 := negQ_len v v.length
      rw [hM] at CQ hP m3
      rw [hP] at CN CM CO HRD
      have CN := hid (fun A1 A2 c1 c2 W h1 h2 => show Calls Try.prog 24 #[.slice Av v.length cv, .agg #[.int .i64 2, .int .i64 (v.length : Int), .slice none 0 0, .slice none 0 0, .int .i64 (M : Int), .int .i64 wide, .slice A1 v.length c1, .slice A2 v.length c2]] W fun e w' => e = .returned (.bool true) ∧ Below W.heap.size W w' by
        have h := CN.out A1 A2 c1 c2 W h1 h2
        simp only [encT, e1, e2, List.length_nil] at h
        exact h)
      have CM := hid (fun A1 A2 c1 c2 W h2 => show Calls Try.prog 26 #[.agg #[.int .i64 2, .int .i64 (v.length : Int), .slice none 0 0, .slice none 0 0, .int .i64 (M : Int), .int .i64 wide, .slice A1 v.length c1, .slice A2 v.length c2]] W fun e w' => e = .returned (.bool true) ∧ Below W.heap.size W w' by
        have h := CM.out A1 A2 c1 c2 W h2
        simp only [encT, e1, e2, List.length_nil] at h
        exact h)
      have CO := hid (fun A1 A2 c1 c2 W h2 => show Calls Try.prog 20 #[.agg #[.int .i64 2, .int .i64 (v.length : Int), .slice none 0 0, .slice none 0 0, .int .i64 (M : Int), .int .i64 wide, .slice A1 v.length c1, .slice A2 v.length c2]] W (OwnE 2 .i64 W.heap.size X 0 W) by
        have h := CO.out A1 A2 c1 c2 W h2
        simp only [encT, e1, e2, List.length_nil] at h
        exact h)
      have CZ := hid (fun (y : Int) (hy : I64 y) W => ref_Size9 y hy W)
      have CY := hid (fun (z : Int) (hz : I64 z) W => size_any1d z hz W)
      obtain ⟨LV, hLV⟩ : ∃ L, levQ v wide s n v.length = L := ⟨_, rfl⟩
      obtain ⟨NG, hNG⟩ : ∃ L, negQ v v.length = L := ⟨_, rfl⟩
      rw [hLV] at CN CM CO HRD CQ
      rw [hNG] at CN CM CO HRD CQ
      obtain ⟨Dq, hDq⟩ : ∃ Dq : Nat, M / t = Dq := ⟨_, rfl⟩
      have hDi : (M : Int) / (t : Int) = (Dq : Int) := by rw [← hDq]; simp
      rw [hDi] at HK
      have hDb : Dq ≤ M := by rw [← hDq]; exact Nat.div_le_self M t
      have ti : (t : Int) ≠ 0 := by omega
      clear hf hE m2 m4 hM hst hln hwf hpl hX ht hXl hP e1 e2 hLV hNG hDq HOF CP uv rv rn un hw hs hs2
      go_enter Try.func5, Try.ntmps5
      go_wp2_with fail
      refine (qu_live _).mono ?_
      rintro _ w1 ⟨rfl, k1⟩
      go_wp2_with fail
      refine (CF.out w1).mono ?_
      rintro _ _ ⟨rfl, rfl⟩
      clear CF
      go_wp2_with fail
      refine (CQ.out w1 (HV.out.on k1) (HN.out.on k1)).mono ?_
      rintro _ w2 ⟨A2, c2, B2, d2, rfl, o1, o2, hb2⟩
      have k2 := k1.trans (hb2.mono k1.size)
      have RD := hid (HRD.out _ w2 A2 B2 c2 d2 o1 o2)
      have g2 := qu_grow w2 (.cells #[.int .i64 2, .int .i64 (v.length : Int), .slice none 0 0, .slice none 0 0, .int .i64 (M : Int), .int .i64 wide, .slice A2 v.length c2, .slice B2 v.length d2] 37)
      have n2 : BoxL (w2.alloc (.cells #[.int .i64 2, .int .i64 (v.length : Int), .slice none 0 0, .slice none 0 0, .int .i64 (M : Int), .int .i64 wide, .slice A2 v.length c2, .slice B2 v.length d2] 37)) w2.heap.size [.int .i64 2, .int .i64 (v.length : Int), .slice none 0 0, .slice none 0 0, .int .i64 (M : Int), .int .i64 wide, .slice A2 v.length c2, .slice B2 v.length d2] := BoxL.new w2 [.int .i64 2, .int .i64 (v.length : Int), .slice none 0 0, .slice none 0 0, .int .i64 (M : Int), .int .i64 wide, .slice A2 v.length c2, .slice B2 v.length d2] 37
      go_wp2_with fail
      obtain ⟨w3, hw3⟩ : ∃ w3, w2.alloc (.cells #[.int .i64 2, .int .i64 (v.length : Int), .slice none 0 0, .slice none 0 0, .int .i64 (M : Int), .int .i64 wide, .slice A2 v.length c2, .slice B2 v.length d2] 37) = w3 := ⟨_, rfl⟩
      rw [hw3] at g2 n2 ⊢
      clear hw3 o1 o2 hb2 HRD CQ HN
      have k3 := k2.trans (g2.mono k2.size)
      have RD3 := hid (RD.out.on g2)
      have XB := hid n2
      clear g2 n2 RD k1 k2
      refine (CO.out _ _ _ _ w3 RD3.out).mono ?_
      rintro _ w4 ⟨A4, c4, rfl, o4, hb4⟩
      have k4 := k3.trans (hb4.mono k3.size)
      have RX := hid (own_rd o4)
      have RD4 := hid (RD3.out.on hb4)
      have XB4 := hid (XB.out.below hb4 (XB.out.lt (by simp)))
      clear o4 hb4 k3 RD3 XB CO
      go_wp2_with fail
      refine (CS.out _).mono ?_
      rintro _ _ ⟨rfl, rfl⟩
      clear CS
      obtain ⟨⟨f0, f1, f2, f3, f4, f5, f6, f7⟩, _⟩ := XB4.out.eight
      go_wp2_with fail
      refine (CN.out _ _ _ _ w4 (HV.out.on k4) RD4.out).mono ?_
      rintro _ w5 ⟨rfl, hb5⟩
      have k5 := k4.trans (hb5.mono k4.size)
      have RX5 := hid (RX.out.on hb5)
      have RD5 := hid (RD4.out.on hb5)
      have XB5 := hid (XB4.out.below hb5 (XB4.out.lt (by simp)))
      clear hb5 k4 RX RD4 XB4 CN f0 f1 f2 f3 f4 f5 f6 f7
      obtain ⟨⟨f0, f1, f2, f3, f4, f5, f6, f7⟩, _⟩ := XB5.out.eight
      have tl : ((X.length : Int) != (v.length : Int)) = false := bne_eq_false_iff_eq.2 (by have := HXL.out; omega)
      have tl2 : (X.length != v.length) = false := bne_eq_false_iff_eq.2 HXL.out
      go_wp2_with fail
      refine (CM.out _ _ _ _ w5 RD5.out).mono ?_
      rintro _ w6 ⟨rfl, hb6⟩
      have k6 := k5.trans (hb6.mono k5.size)
      have RX6 := hid (RX5.out.on hb6)
      have XB6 := hid (XB5.out.below hb6 (XB5.out.lt (by simp)))
      clear hb6 k5 RX5 RD5 XB5 CM f0 f1 f2 f3 f4 f5 f6 f7
      go_wp2_with fail
      clear tl tl2
      go_loopw [16, 17, 18, 79] (fun x16 x17 x18 i wr => ∃ k : Nat, k ≤ v.length ∧ i = .int .i64 k ∧ Below w6.heap.size w6 wr) (fun _ _ _ i _ => v.length - (intOf i).toNat)
      case atStart => exact ⟨0, by omega, rfl, Below.refl _ _⟩
      case round =>
        obtain ⟨k, hk, rfl, hbr⟩ := hrel
        by_cases hlt : k < v.length
        · have kw := k6.trans (hbr.mono k6.size)
          have XR := hid (XB6.out.below hbr (XB6.out.lt (by simp)))
          obtain ⟨b1, o1, x, rfl, l1, ex, d1⟩ := (HV.out.on kw).at_ hlt
          obtain ⟨b2, o2, y, rfl, l2, ey, d2⟩ := (RX6.out.on hbr).at_ (k := k) (by rw [HXL.out]; exact hlt)
          obtain ⟨O, h1, h2, h3, h4, h5, h6, h7, h8, h9⟩ := HK.out k x y ex ey
          have hkX : k < X.length := by rw [HXL.out]; exact hlt
          obtain ⟨D, hD⟩ : ∃ D, x - y = D := ⟨_, rfl⟩
          rw [hD] at h1 h3 h4 h5
          have hD2 : IntKind.i64.wrap (x - y) = D := by rw [hD, IntKind.wrap_i64]; unfold I64 at h4; omega
          have CYD := hid (fun W => CY.out D h4 W)
          rw [ckV_in h5, ckE_in h5, h1] at CYD
          have CZY := hid (fun W => CZ.out y h9 W)
          obtain ⟨z, hz⟩ : ∃ z, szN y = z := ⟨_, rfl⟩
          rw [hz] at CZY h8
          have f4 := (XR.out 4 _ rfl).1
          clear ex ey h1 h3 h4 h5 h9 hD hz
          go_wp2_with fail
          go_region_law (first | (go_simp; go_at_call 27; refine (CYD.out _).mono ?_; rintro _ w7 ⟨rfl, hb7⟩) | fail)
          all_goals (
            have k7 := hbr.trans (hb7.mono hbr.size)
            have kw7 := kw.trans (hb7.mono kw.size)
            have XR7 := hid (XR.out.below hb7 (XR.out.lt (by simp)))
            have e1 : w7.cell? ⟨b1, o1 + k, none⟩ = some (.int .i64 x) := by rw [hb7.cell (p := ⟨b1, o1 + k, none⟩) (lt_of_cell d1)]; exact d1
            have e2 : w7.cell? ⟨b2, o2 + k, none⟩ = some (.int .i64 y) := by rw [hb7.cell (p := ⟨b2, o2 + k, none⟩) (lt_of_cell d2)]; exact d2
            have h2' : ¬ (O : Int) > (Dq : Int) + 1 := by omega
            have hzM : ¬ (z : Int) > (M : Int) := by omega
            have q0 : decide ((z : Int) > (M : Int)) = false := decide_eq_false hzM
            clear d1 d2 f4 XR hb7 CYD hD2
            have f4 := (XR7.out 4 _ rfl).1
            by_cases y0 : y > 0
            · have x0 : ¬ x < 0 := fun h => h6 ⟨y0, h⟩
              have y1 : ¬ y < 0 := by omega
              have q1 : decide (y > 0) = true := decide_eq_true y0
              have q2 : decide (x < 0) = false := decide_eq_false x0
              have q3 : decide (y < 0) = false := decide_eq_false y1
              clear h6 h7
              go_wp2_with fail
              go_quiet ((go_at_call 28; exact quietL CZY _))
              go_wp2_with fail
              go_roundw
              case rel => exact ⟨k + 1, by omega, by go_num, k7.trans (belowN _ _ _)⟩
              case measure => simp [intOf]; omega
            · by_cases y1 : y < 0
              · have x0 : ¬ x > 0 := fun h => h7 ⟨y1, h⟩
                have q1 : decide (y > 0) = false := decide_eq_false y0
                have q2 : decide (x > 0) = false := decide_eq_false x0
                have q3 : decide (y < 0) = true := decide_eq_true y1
                clear h6 h7
                go_wp2_with fail
                go_quiet ((go_at_call 28; exact quietL CZY _))
                go_wp2_with fail
                go_roundw
                case rel => exact ⟨k + 1, by omega, by go_num, k7.trans (belowN _ _ _)⟩
                case measure => simp [intOf]; omega
              · have q1 : decide (y > 0) = false := decide_eq_false y0
                have q3 : decide (y < 0) = false := decide_eq_false y1
                clear h6 h7
                go_wp2_with fail
                go_quiet ((go_at_call 28; exact quietL CZY _))
                go_wp2_with fail
                go_roundw
                case rel => exact ⟨k + 1, by omega, by go_num, k7.trans (belowN _ _ _)⟩
                case measure => simp [intOf]; omega)
        · have kw := k6.trans (hbr.mono k6.size)
          go_wp2_with fail
          go_ret
          exact ⟨rfl, kw⟩
    · have CQ := hid (fun W h1 h2 => (CP.out W h1 h2).mono fun e w' => sl_none hE)
      obtain ⟨E, hEE⟩ : ∃ E, prqE v wide = E := ⟨_, rfl⟩
      rw [hEE] at CQ hE
      have hne : (E != 0) = true := by simpa using hE
      clear hf hE hEE CP uv rv rn un hw hs hs2
      go_enter Try.func5, Try.ntmps5
      go_wp2_with fail
      refine (qu_live _).mono ?_
      rintro _ w1 ⟨rfl, k1⟩
      go_wp2_with fail
      refine (CF.out w1).mono ?_
      rintro _ _ ⟨rfl, rfl⟩
      clear CF
      go_wp2_with fail
      refine (CQ.out w1 (HV.out.on k1) (HN.out.on k1)).mono ?_
      rintro _ w2 ⟨A2, c2, B2, d2, rfl, hb2⟩
      have k2 := k1.trans (hb2.mono k1.size)
      have k3 := k2.trans ((qu_grow w2 (.cells #[.int .i64 0, .int .i64 0, .slice none 0 0, .slice none 0 0, .int .i64 0, .int .i64 0, .slice A2 0 c2, .slice B2 0 d2] 37)).mono k2.size)
      go_wp2_with fail
      go_ret
      exact ⟨by simp, k3⟩
  · rw [Bool.eq_false_iff.2 hf] at CF
    clear hf rv uv hw hs rn un
    go_enter Try.func5, Try.ntmps5
    go_wp2_with fail
    refine (qu_live _).mono ?_
    rintro _ w1 ⟨rfl, k1⟩
    go_wp2_with fail
    refine (CF.out w1).mono ?_
    rintro _ _ ⟨rfl, rfl⟩
    clear CF
    go_wp2_with fail
    go_ret
    exact ⟨rfl, k1⟩
theorem law_types : ∀ t ∈ Try.f5.params.toList, Try.prog.readableRec t = true ∧ t < Try.prog.types.size := by
  have h : (Try.f5.params.toList.all fun t => Try.prog.readableRec t && decide (t < Try.prog.types.size)) = true := by kernel_rfl
  intro t ht
  simpa using List.all_eq_true.1 h t ht
set_option maxRecDepth 100000 in
theorem lifted (os : Os) (started : os.Started) (H : Type) (enc : TypeId × Value → H) :
    ReturnsInHanded {} Try.checked os 5 .any (Rows.quantNearSpec.pre6 enc Try.prog Try.f5 Rows.quantNearRow.domain false) (Rows.quantNearSpec.post enc Try.prog Try.f5 false true false false) := by
  refine returnsInHanded_of_change (C := Try.checked) own started (by kernel_rfl) Try.func5
    (ChangeSpec.witness6 (enc := enc) (C := Try.checked) false ⟨#[], #[.slice none 0 0, .int .i64 0, .int .u64 0, .slice none 0 0], []⟩ 8 (by kernel_rfl) (by kernel_rfl) (by kernel_rfl) (by kernel_rfl)) ?_
  intro W base args ds gs before hval0 hW hcnd _
  have hval : ∀ (j : Nat) t v, Try.f5.params[j]? = some t → args[j]? = some v → Value.okWide Try.prog W .any base t v := hval0
  have hW' := hW
  obtain ⟨p, q, hA0, hV, rfl, hfz, hnd⟩ := hW
  have hA : DataW.TrodAll enc Try.prog W 0 (fun _ => true) true Try.f5.params.toList args.toList ds p := hA0
  rw [Try.params5] at hA hval
  obtain ⟨v0, vs0, d0, ds0, p0, q0, hargs, rfl, rfl, h0, r0⟩ := trodAll_cons hA
  obtain ⟨v1, vs1, d1, ds1, p1, q1, rfl, rfl, rfl, h1, r1⟩ := trodAll_cons r0
  obtain ⟨v2, vs2, d2, ds2, p2, q2, rfl, rfl, rfl, h2, r2⟩ := trodAll_cons r1
  obtain ⟨v3, vs3, d3, ds3, p3, q3, rfl, rfl, rfl, h3, r3⟩ := trodAll_cons r2
  obtain ⟨rfl, rfl, rfl⟩ := trodAll_nil r3
  obtain rfl : args = #[v0, v1, v2, v3] := by cases args; simp_all
  obtain ⟨rfl, rfl⟩ := trodVars_none hV
  obtain ⟨Av, v, cv, rfl, rdv, iv, lcv, lmv⟩ := open_nums Try.underlying32 Try.underlying2 cells_i64' (hval 0 32 v0 rfl rfl) h0
  obtain ⟨wide, rfl, rfl, rfl, w1⟩ := open_int Try.underlying3 (hval 1 3 v1 rfl rfl) h1
  obtain ⟨seed, rfl, rfl, rfl, w2⟩ := open_int Try.underlying22 (hval 2 22 v2 rfl rfl) h2
  obtain ⟨Al, l, cl, rfl, rdl, il, lcl, lml⟩ := open_nums Try.underlying33 Try.underlying3 cells_int (hval 3 33 v3 rfl rfl) h3
  clear hA0 hval0
  refine (walk Av v cv wide seed Al l cl W rdv (fun x hx => I64.of_wf (iv x hx)) lcv lmv (I64.of_wf w1) (U64.of_wf w2) rdl (fun x hx => I64.of_wf (il x hx)) lcl lml).mono fun e W' ⟨he, hb⟩ => ?_
  subst he
  exact ⟨_, rfl, law_post laid (fun t ht => law_types t ht) rfl hW' ⟨rfl, rfl, rfl⟩ (by kernel_rfl) Try.underlying4 hb⟩

theorem over : Rows.quantNearRow.holds Try.pinned (OpenSpec.ofChange Rows.quantNearSpec) :=
  OpenClaim.holds_of_wide 5 Try.f5 rfl rfl rfl rfl rfl rfl rfl ⟨rfl, rfl, rfl, rfl, rfl⟩ rfl rfl rfl rfl rfl (by kernel_rfl) Try.func5 (by kernel_rfl)
    (of_decide_eq_true (by kernel_rfl)) (by unfold Func.isWrapper; first | (rw [if_pos (by decide +kernel)]; kernel_rfl) | (rw [if_neg (by decide +kernel)]; exact ⟨rfl, rfl⟩))
    (fun os started H enc _ => lifted os started H enc)

theorem proved : Rows.QuantNearSaid := over
end Go.Proofs.Ytbkoapdeglmopaa.QuantNear
