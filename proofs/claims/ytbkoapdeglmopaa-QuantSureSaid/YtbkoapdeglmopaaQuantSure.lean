
/-
  QuantSure answers true for every input. No condition.
-/
import Derived.Test.YtbkoapdeglmopaaJg
import Derived.Test.YtbkoapdeglmopaaJe
import Derived.Test.YtbkoapdeglmopaaJd
namespace Go.Proofs.Ytbkoapdeglmopaa.QuantSure
open Go.ChangeShapes Go.WideShapes Go.ChangeAt Go.RowKit
set_option maxHeartbeats 400000
set_option linter.unusedVariables false
open Go.Proofs.Ytbkoapdeglmopaa
/-- What is asked of each number, in plain words. -/
theorem sure_ok {v X LA LB : List Int} {NG : List Bool} {wide : Int} {s s' M : Nat} (hE : prqE v wide = 0) (hX : loqL (prqS v wide s []) v.length = X) (hM : mostV v = (M : Int)) (hA : levQ v wide s [] v.length = LA) (hB : levQ v wide s' [] v.length = LB) (hN : negQ v v.length = NG) {k : Nat} {x : Int} (hx : v[k]? = some x) :
    ∃ (y : Int) (la lb : Nat) (d : Bool), X[k]? = some y ∧ LA[k]? = some (la : Int) ∧ LB[k]? = some (lb : Int) ∧ NG[k]? = some d ∧ (lvlR x (M : Int) wide = 0 → la = lb) ∧ (x = (M : Int) ∨ x = -(M : Int) ∨ x = 0 → y = x) ∧ lvlE x (M : Int) wide = 0 := by
  have hk := (List.getElem?_eq_some_iff.1 hx).1
  have h1 := prq_lvl hE hk
  have h2 := prq_ends (seed := s) (n := []) hE hk
  rw [getD_of hx] at h1 h2
  refine ⟨loQ (prqS v wide s []) k, plQ (mostV v) wide s [] k x, plQ (mostV v) wide s' [] k x, decide (x < 0), ?_, ?_, ?_, ?_, ?_, ?_, ?_⟩
  · rw [← hX]; exact loqL_at _ hk
  · rw [← hA, levQ_at v wide s [] hk, getD_of hx]
  · rw [← hB, levQ_at v wide s' [] hk, getD_of hx]
  · rw [← hN, negQ_at v hk, getD_of hx]
  · intro h
    rw [← hM] at h
    rw [plQ_sure h, plQ_sure h]
  · intro h
    rw [← hM] at h
    exact h2 h
  · rw [← hM]; exact h1
set_option maxHeartbeats 8000000 in
set_option maxRecDepth 100000 in
theorem walk (Av : Option Addr) (v : List Int) (cv : Nat) (wide a b : Int) (w : World) (rv : Rd (Value.int .i64) w w.heap.size Av v) (uv : I64s v) (lv : v.length ≤ cv) (mv : cv ≤ 9223372036854775807) (hw : I64 wide) (ha : U64 a) (hb : U64 b) :
    Calls Try.prog 6 #[.slice Av v.length cv, .int .i64 wide, .int .u64 a, .int .u64 b] w fun e w' => e = .returned (.bool true) ∧ Below w.heap.size w w' := by
  have HV := hid rv
  obtain ⟨s, rfl⟩ := Int.eq_ofNat_of_zero_le ha.1
  obtain ⟨s', rfl⟩ := Int.eq_ofNat_of_zero_le hb.1
  have hs2 : s < 2 ^ 64 := by have := ha.2; omega
  have hs3 : s' < 2 ^ 64 := by have := hb.2; omega
  have hv : v.length ≤ 9223372036854775807 := by omega
  have CF := hid (fun W => qu_few (A := Av) (c := cv) (B := none) (d := 0) v [] hv (by simp) W)
  rw [show ([] : List Int).length = 0 from rfl] at CF
  by_cases hf : fewU v [] = true
  · rw [hf] at CF
    have h5 : v.length ≤ 5000 := by
      unfold fewU at hf
      have := of_decide_eq_true hf
      omega
    have CP := hid (fun (s : Nat) (hs : s < 2 ^ 64) W (h1 : Rd (Value.int .i64) W W.heap.size Av v) => qp_Press (A := Av) (B := none) (c := cv) (d := 0) v uv hv wide hw s hs [] (by simp) (by simp) W h1 Rd.none_)
    by_cases hE : prqE v wide = 0
    · have CQ := hid (fun s hs W h1 => (CP.out s hs W h1).mono fun e w' => sl_parts hE)
      obtain ⟨m1, m2, m3, m4, m5⟩ := mostq_ok (prqE_ok.1 hE).2.2
      clear m5
      obtain ⟨M, hM⟩ := Int.eq_ofNat_of_zero_le m2
      have hln := fun s => prqS_ln (v := v) (wide := wide) (s := s) (n := [])
      have hwf := fun s => prqS_wf (v := v) (s := s) (n := []) hw
      have hpl := (prq_loose (seed := s) (n := []) hE)
      have HRD := hid (fun (s : Nat) (base : Nat) (w' : World) (A A' : Option Addr) (c c' : Nat) o1 o2 => sl_rd (base := base) (w' := w') (A := A) (A' := A') (c := c) (c' := c') (s := s) (n := []) hE o1 o2)
      have CM := hid (fun s A1 A2 c1 c2 W (h2 : RdS W W.heap.size (prqS v wide s []) ⟨none, 0, none, 0, A1, c1, A2, c2⟩) => fs_May (prqS v wide s []) ⟨none, 0, none, 0, A1, c1, A2, c2⟩ ((hln s).more (by decide)) (hwf s) W h2)
      have HMY := fun s => prq_may (seed := s) (n := []) hE
      have CO := hid (fun A1 A2 c1 c2 W (h2 : RdS W W.heap.size (prqS v wide s []) ⟨none, 0, none, 0, A1, c1, A2, c2⟩) => qp_Loosen (prqS v wide s []) ⟨none, 0, none, 0, A1, c1, A2, c2⟩ ((hln s).more (by decide)) (hwf s) W h2)
      rw [hpl.1, hpl.2.1] at CO
      have CL := hid (fun x (hx : x ∈ v) W => qp_Level x (mostV v) wide (uv x hx) (most_i64 v) hw W)
      obtain ⟨X, hX⟩ : ∃ X, loqL (prqS v wide s []) v.length = X := ⟨_, rfl⟩
      have hXl : X.length = v.length := by rw [← hX, loqL_len]
      have HXL := hid hXl
      rw [hX] at CO
      have hP := fun s => prq_parts (seed := s) (n := []) hE
      have e1 := fun s => levQ_len v wide s [] v.length
      have e2 := negQ_len v v.length
      rw [hM] at CQ m3 CL
      have hP2 : ∀ s, prqS v wide s [] = ⟨2, v.length, [], [], (M : Int), wide, levQ v wide s [] v.length, negQ v v.length⟩ := fun s => by rw [hP s, hM]
      obtain ⟨LA, hLA⟩ : ∃ L, levQ v wide s [] v.length = L := ⟨_, rfl⟩
      obtain ⟨LB, hLB⟩ : ∃ L, levQ v wide s' [] v.length = L := ⟨_, rfl⟩
      obtain ⟨NG, hNG⟩ : ∃ L, negQ v v.length = L := ⟨_, rfl⟩
      have HK := hid (fun k x (hx : v[k]? = some x) => sure_ok hE hX hM hLA hLB hNG hx)
      have l1 : LA.length = v.length := by rw [← hLA]; exact e1 s
      have l2 : LB.length = v.length := by rw [← hLB]; exact e1 s'
      have l3 : NG.length = v.length := by rw [← hNG]; exact e2
      have HLS := hid (And.intro l1 (And.intro l2 l3))
      have CMA := hid (fun A1 A2 c1 c2 W h2 => show Calls Try.prog 26 #[.agg #[.int .i64 2, .int .i64 (v.length : Int), .slice none 0 0, .slice none 0 0, .int .i64 (M : Int), .int .i64 wide, .slice A1 v.length c1, .slice A2 v.length c2]] W fun e w' => e = .returned (.bool true) ∧ Below W.heap.size W w' by
        have h := CM.out s A1 A2 c1 c2 W h2
        rw [HMY s, hP2 s] at h
        simp only [encT, e1, e2, List.length_nil] at h
        exact h)
      have CMB := hid (fun A1 A2 c1 c2 W h2 => show Calls Try.prog 26 #[.agg #[.int .i64 2, .int .i64 (v.length : Int), .slice none 0 0, .slice none 0 0, .int .i64 (M : Int), .int .i64 wide, .slice A1 v.length c1, .slice A2 v.length c2]] W fun e w' => e = .returned (.bool true) ∧ Below W.heap.size W w' by
        have h := CM.out s' A1 A2 c1 c2 W h2
        rw [HMY s', hP2 s'] at h
        simp only [encT, e1, e2, List.length_nil] at h
        exact h)
      have CO := hid (fun A1 A2 c1 c2 W h2 => show Calls Try.prog 20 #[.agg #[.int .i64 2, .int .i64 (v.length : Int), .slice none 0 0, .slice none 0 0, .int .i64 (M : Int), .int .i64 wide, .slice A1 v.length c1, .slice A2 v.length c2]] W (OwnE 2 .i64 W.heap.size X 0 W) by
        have h := CO.out A1 A2 c1 c2 W h2
        rw [hP2 s] at h
        simp only [encT, e1, e2, List.length_nil] at h
        exact h)
      have CQA := hid (fun W h1 => CQ.out s hs2 W h1)
      have CQB := hid (fun W h1 => CQ.out s' hs3 W h1)
      have HRA := hid (HRD.out s)
      have HRB := hid (HRD.out s')
      have HLL := hid (fun x => lvlL_le9 x (M : Int) wide)
      have HLR := hid (fun x => lvlR_lt9 (n := x) (wide := wide) m3)
      rw [hP2 s] at CMA CO HRA
      rw [hP2 s'] at CMB HRB
      rw [hLA] at CMA CO HRA CQA
      rw [hLB] at CMB HRB CQB
      rw [hNG] at CMA CO HRA CQA CMB HRB CQB
      obtain ⟨N, hN⟩ : ∃ N, -(M : Int) = N := ⟨_, rfl⟩
      rw [hN] at HK
      have hneg : IntKind.i64.wrap (-(M : Int)) = N := by rw [IntKind.wrap_i64]; omega
      have hneg2 : wrap64 (-(M : Int)) = N := by rw [wrap64_eq]; omega
      clear hN
      clear hf hE m2 m4 hM hln hwf hpl hX hXl hP hP2 e1 e2 hLA hLB hNG CP CQ CM HMY HRD uv rv hw ha hb hs2 hs3 l1 l2 l3
      go_enter Try.func6, Try.ntmps6
      go_wp2_with fail
      refine (qu_live _).mono ?_
      rintro _ w1 ⟨rfl, k1⟩
      go_wp2_with fail
      refine (CF.out w1).mono ?_
      rintro _ _ ⟨rfl, rfl⟩
      clear CF
      go_wp2_with fail
      refine (CQA.out w1 (HV.out.on k1)).mono ?_
      rintro _ w2 ⟨A2, c2, B2, d2, rfl, o1, o2, hb2⟩
      have k2 := k1.trans (hb2.mono k1.size)
      have RD2 := hid (HRA.out _ w2 A2 B2 c2 d2 o1 o2)
      have g2 := qu_grow w2 (.cells #[.int .i64 2, .int .i64 (v.length : Int), .slice none 0 0, .slice none 0 0, .int .i64 (M : Int), .int .i64 wide, .slice A2 v.length c2, .slice B2 v.length d2] 37)
      have n2 : BoxL (w2.alloc (.cells #[.int .i64 2, .int .i64 (v.length : Int), .slice none 0 0, .slice none 0 0, .int .i64 (M : Int), .int .i64 wide, .slice A2 v.length c2, .slice B2 v.length d2] 37)) w2.heap.size [.int .i64 2, .int .i64 (v.length : Int), .slice none 0 0, .slice none 0 0, .int .i64 (M : Int), .int .i64 wide, .slice A2 v.length c2, .slice B2 v.length d2] := BoxL.new w2 [.int .i64 2, .int .i64 (v.length : Int), .slice none 0 0, .slice none 0 0, .int .i64 (M : Int), .int .i64 wide, .slice A2 v.length c2, .slice B2 v.length d2] 37
      obtain ⟨w3, hw3⟩ : ∃ wn, w2.alloc (.cells #[.int .i64 2, .int .i64 (v.length : Int), .slice none 0 0, .slice none 0 0, .int .i64 (M : Int), .int .i64 wide, .slice A2 v.length c2, .slice B2 v.length d2] 37) = wn := ⟨_, rfl⟩
      rw [hw3] at g2 n2
      have k3 := k2.trans (g2.mono k2.size)
      have RD3 := hid (RD2.out.on g2)
      have XA := hid n2
      clear o1 o2 n2 RD2 k1 k2 CQA HRA
      go_wp2_with fail
      refine (CQB.out w3 (HV.out.on k3)).mono ?_
      rintro _ w4 ⟨A4, c4, B4, d4, rfl, o1, o2, hb4⟩
      have k4 := k3.trans (hb4.mono k3.size)
      have RD4 := hid (HRB.out _ w4 A4 B4 c4 d4 o1 o2)
      have g4 := qu_grow w4 (.cells #[.int .i64 2, .int .i64 (v.length : Int), .slice none 0 0, .slice none 0 0, .int .i64 (M : Int), .int .i64 wide, .slice A4 v.length c4, .slice B4 v.length d4] 37)
      have n4 : BoxL (w4.alloc (.cells #[.int .i64 2, .int .i64 (v.length : Int), .slice none 0 0, .slice none 0 0, .int .i64 (M : Int), .int .i64 wide, .slice A4 v.length c4, .slice B4 v.length d4] 37)) w4.heap.size [.int .i64 2, .int .i64 (v.length : Int), .slice none 0 0, .slice none 0 0, .int .i64 (M : Int), .int .i64 wide, .slice A4 v.length c4, .slice B4 v.length d4] := BoxL.new w4 [.int .i64 2, .int .i64 (v.length : Int), .slice none 0 0, .slice none 0 0, .int .i64 (M : Int), .int .i64 wide, .slice A4 v.length c4, .slice B4 v.length d4] 37
      obtain ⟨w5, hw5⟩ : ∃ wn, w4.alloc (.cells #[.int .i64 2, .int .i64 (v.length : Int), .slice none 0 0, .slice none 0 0, .int .i64 (M : Int), .int .i64 wide, .slice A4 v.length c4, .slice B4 v.length d4] 37) = wn := ⟨_, rfl⟩
      rw [hw5] at g4 n4
      have k5 := k4.trans (g4.mono k4.size)
      have RD5 := hid (RD4.out.on g4)
      have XB := hid n4
      have XA4 := hid (XA.out.below hb4 (XA.out.lt (by simp)))
      have XA5 := hid (XA4.out.below g4 (XA4.out.lt (by simp)))
      have RA5 := hid ((RD3.out.on hb4).on g4)
      clear o1 o2 n4 RD4 RD3 g2 hb2 hb4 g4 k3 k4 XA XA4 CQB HRB hw3
      obtain ⟨⟨p0, p1, p2, p3, p4, p5, p6, p7⟩, _⟩ := XA5.out.eight
      obtain ⟨⟨q0, q1, q2, q3, q4, q5, q6, q7⟩, _⟩ := XB.out.eight
      go_wp2_with fail
      refine (CO.out _ _ _ _ w5 RA5.out).mono ?_
      rintro _ w6 ⟨A6, c6, rfl, o6, hb6⟩
      have k6 := k5.trans (hb6.mono k5.size)
      have RX := hid (own_rd o6)
      have RA6 := hid (RA5.out.on hb6)
      have RB6 := hid (RD5.out.on hb6)
      have XA6 := hid (XA5.out.below hb6 (XA5.out.lt (by simp)))
      have XB6 := hid (XB.out.below hb6 (XB.out.lt (by simp)))
      clear o6 hb6 k5 RA5 RD5 XA5 XB CO p0 p1 p2 p3 p4 p5 p6 p7 q0 q1 q2 q3 q4 q5 q6 q7 hw5
      obtain ⟨⟨p0, p1, p2, p3, p4, p5, p6, p7⟩, _⟩ := XA6.out.eight
      have tl : ((X.length : Int) != (v.length : Int)) = false := bne_eq_false_iff_eq.2 (by have := HXL.out; omega)
      have tl2 : (X.length != v.length) = false := bne_eq_false_iff_eq.2 HXL.out
      go_wp2_with fail
      refine (CMA.out _ _ _ _ w6 RA6.out).mono ?_
      rintro _ w7 ⟨rfl, hb7⟩
      have k7 := k6.trans (hb7.mono k6.size)
      have RX7 := hid (RX.out.on hb7)
      have RA7 := hid (RA6.out.on hb7)
      have RB7 := hid (RB6.out.on hb7)
      have XA7 := hid (XA6.out.below hb7 (XA6.out.lt (by simp)))
      have XB7 := hid (XB6.out.below hb7 (XB6.out.lt (by simp)))
      clear hb7 k6 RX RA6 RB6 XA6 XB6 CMA p0 p1 p2 p3 p4 p5 p6 p7
      obtain ⟨⟨q0, q1, q2, q3, q4, q5, q6, q7⟩, _⟩ := XB7.out.eight
      go_wp2_with fail
      refine (CMB.out _ _ _ _ w7 RB7.out).mono ?_
      rintro _ w8 ⟨rfl, hb8⟩
      have k8 := k7.trans (hb8.mono k7.size)
      have RX8 := hid (RX7.out.on hb8)
      have RA8 := hid (RA7.out.on hb8)
      have RB8 := hid (RB7.out.on hb8)
      have XA8 := hid (XA7.out.below hb8 (XA7.out.lt (by simp)))
      have XB8 := hid (XB7.out.below hb8 (XB7.out.lt (by simp)))
      clear hb8 k7 RX7 RA7 RB7 XA7 XB7 CMB q0 q1 q2 q3 q4 q5 q6 q7
      obtain ⟨⟨p0, p1, p2, p3, p4, p5, p6, p7⟩, _⟩ := XA8.out.eight
      obtain ⟨⟨q0, q1, q2, q3, q4, q5, q6, q7⟩, _⟩ := XB8.out.eight
      go_wp2_with fail
      clear tl tl2 p0 p1 p2 p3 p4 p5 p6 p7 q0 q1 q2 q3 q4 q5 q6 q7
      go_loopw [16, 17, 18, 19, 20, 127] (fun x16 x17 x18 x19 x20 i wr => ∃ k : Nat, k ≤ v.length ∧ i = .int .i64 k ∧ Below w8.heap.size w8 wr) (fun _ _ _ _ _ i _ => v.length - (intOf i).toNat)
      case atStart => exact ⟨0, by omega, rfl, Below.refl _ _⟩
      case round =>
        obtain ⟨k, hk, rfl, hbr⟩ := hrel
        have kw := k8.trans (hbr.mono k8.size)
        have YA := hid (XA8.out.below hbr (XA8.out.lt (by simp)))
        have YB := hid (XB8.out.below hbr (XB8.out.lt (by simp)))
        by_cases hlt : k < v.length
        · obtain ⟨b1, o1, x, rfl, l1, ex, d1⟩ := (HV.out.on kw).at_ hlt
          obtain ⟨y, la, lb, z, hy, hla, hlb, hz, h1, h2, h3⟩ := HK.out k x ex
          obtain ⟨b2, o2, y2, rfl, l2, ey, e2⟩ := (RX8.out.on hbr).at_ (k := k) (by rw [HXL.out]; exact hlt)
          obtain rfl : y = y2 := by rw [hy] at ey; injection ey
          obtain ⟨b3, o3, la2, rfl, l3, ey3, e3⟩ := (RA8.out.on hbr).2.2.1.at_ (k := k) (by rw [HLS.out.1]; exact hlt)
          obtain rfl : (la : Int) = la2 := by rw [hla] at ey3; injection ey3
          obtain ⟨b4, o4, lb2, rfl, l4, ey4, e4⟩ := (RB8.out.on hbr).2.2.1.at_ (k := k) (by rw [HLS.out.2.1]; exact hlt)
          obtain rfl : (lb : Int) = lb2 := by rw [hlb] at ey4; injection ey4
          obtain ⟨b5, o5, z2, rfl, l5, ey5, e5⟩ := (RA8.out.on hbr).2.2.2.at_ (k := k) (by rw [HLS.out.2.2]; exact hlt)
          obtain rfl : z = z2 := by rw [hz] at ey5; injection ey5
          obtain ⟨b6, o6, z3, rfl, l6, ey6, e6⟩ := (RB8.out.on hbr).2.2.2.at_ (k := k) (by rw [HLS.out.2.2]; exact hlt)
          obtain rfl : z = z3 := by rw [hz] at ey6; injection ey6
          have C := hid (CL.out x (List.mem_of_getElem? ex) wr)
          have hll := HLL.out x
          have hlr := HLR.out x
          obtain ⟨l, hl1⟩ : ∃ l, lvlL x (M : Int) wide = l := ⟨_, rfl⟩
          obtain ⟨r, hr1⟩ : ∃ r, lvlR x (M : Int) wide = r := ⟨_, rfl⟩
          rw [hl1, hr1, h3] at C
          rw [hl1] at hll
          rw [hr1] at hlr h1
          have hkX : k < X.length := by rw [HXL.out]; exact hlt
          have H1 := hid h1
          have H2 := hid h2
          have q4 := (YA.out 4 _ rfl).1
          clear hy hla hlb hz ey ey3 ey4 ey5 ey6 ex h1 h2 h3 hl1 hr1
          go_wp2_with fail
          refine C.out.mono ?_
          rintro _ w9 ⟨rfl, hb9⟩
          clear q4
          have k9 := hbr.trans (hb9.mono hbr.size)
          have ZA := hid (YA.out.below hb9 (YA.out.lt (by simp)))
          have ZB := hid (YB.out.below hb9 (YB.out.lt (by simp)))
          have E1 : w9.cell? ⟨b2, o2 + k, none⟩ = some (.int .i64 y) := by rw [hb9.cell (p := ⟨b2, o2 + k, none⟩) (lt_of_cell e2)]; exact e2
          have E3 : w9.cell? ⟨b3, o3 + k, none⟩ = some (.int .u64 (la : Int)) := by rw [hb9.cell (p := ⟨b3, o3 + k, none⟩) (lt_of_cell e3)]; exact e3
          have E4 : w9.cell? ⟨b4, o4 + k, none⟩ = some (.int .u64 (lb : Int)) := by rw [hb9.cell (p := ⟨b4, o4 + k, none⟩) (lt_of_cell e4)]; exact e4
          have E5 : w9.cell? ⟨b5, o5 + k, none⟩ = some (.bool z) := by rw [hb9.cell (p := ⟨b5, o5 + k, none⟩) (lt_of_cell e5)]; exact e5
          have E6 : w9.cell? ⟨b6, o6 + k, none⟩ = some (.bool z) := by rw [hb9.cell (p := ⟨b6, o6 + k, none⟩) (lt_of_cell e6)]; exact e6
          clear e2 e3 e4 e5 e6 d1 hb9 C
          have a4 := (ZA.out 4 _ rfl).1
          have a6 := (ZA.out 6 _ rfl).1
          have a7 := (ZA.out 7 _ rfl).1
          have b6' := (ZB.out 6 _ rfl).1
          have b7' := (ZB.out 7 _ rfl).1
          go_wp2_with fail
          have tz : (z != z) = false := by simp
          by_cases hr : r = 0
          · have hl : la = lb := H1.out hr
            subst hr hl
            have tla : ((la : Int) != (la : Int)) = false := by simp
            by_cases x1 : x = (M : Int)
            · have t1 : (x == (M : Int)) = true := beq_iff_eq.2 x1
              have t4 : (y != x) = false := bne_eq_false_iff_eq.2 (H2.out (.inl x1))
              clear x1 H1 H2
              go_quiet (fail)
              go_wp2_with fail
              go_roundw
              case rel => exact ⟨k + 1, by omega, by go_num, k9.trans (belowN _ _ _)⟩
              case measure => simp [intOf]; omega
            · have t1 : (x == (M : Int)) = false := beq_eq_false_iff_ne.2 x1
              by_cases x2 : x = N
              · have t2 : (x == N) = true := beq_iff_eq.2 x2
                have t4 : (y != x) = false := bne_eq_false_iff_eq.2 (H2.out (.inr (.inl x2)))
                clear x1 x2 H1 H2
                go_quiet (fail)
                go_wp2_with fail
                go_roundw
                case rel => exact ⟨k + 1, by omega, by go_num, k9.trans (belowN _ _ _)⟩
                case measure => simp [intOf]; omega
              · have t2 : (x == N) = false := beq_eq_false_iff_ne.2 x2
                by_cases x3 : x = 0
                · have t3 : (x == 0) = true := beq_iff_eq.2 x3
                  have t4 : (y != x) = false := bne_eq_false_iff_eq.2 (H2.out (.inr (.inr x3)))
                  clear x1 x2 x3 H1 H2
                  go_quiet (fail)
                  go_wp2_with fail
                  go_roundw
                  case rel => exact ⟨k + 1, by omega, by go_num, k9.trans (belowN _ _ _)⟩
                  case measure => simp [intOf]; omega
                · have t3 : (x == 0) = false := beq_eq_false_iff_ne.2 x3
                  clear x1 x2 x3 H1 H2
                  go_quiet (fail)
                  go_wp2_with fail
                  go_roundw
                  case rel => exact ⟨k + 1, by omega, by go_num, k9.trans (belowN _ _ _)⟩
                  case measure => simp [intOf]; omega
          · have tr : ((r : Int) == 0) = false := beq_eq_false_iff_ne.2 (by omega)
            have tr2 : (r == 0) = false := beq_eq_false_iff_ne.2 hr
            clear hr
            by_cases x1 : x = (M : Int)
            · have t1 : (x == (M : Int)) = true := beq_iff_eq.2 x1
              have t4 : (y != x) = false := bne_eq_false_iff_eq.2 (H2.out (.inl x1))
              clear x1 H1 H2
              go_quiet (fail)
              go_wp2_with fail
              go_roundw
              case rel => exact ⟨k + 1, by omega, by go_num, k9.trans (belowN _ _ _)⟩
              case measure => simp [intOf]; omega
            · have t1 : (x == (M : Int)) = false := beq_eq_false_iff_ne.2 x1
              by_cases x2 : x = N
              · have t2 : (x == N) = true := beq_iff_eq.2 x2
                have t4 : (y != x) = false := bne_eq_false_iff_eq.2 (H2.out (.inr (.inl x2)))
                clear x1 x2 H1 H2
                go_quiet (fail)
                go_wp2_with fail
                go_roundw
                case rel => exact ⟨k + 1, by omega, by go_num, k9.trans (belowN _ _ _)⟩
                case measure => simp [intOf]; omega
              · have t2 : (x == N) = false := beq_eq_false_iff_ne.2 x2
                by_cases x3 : x = 0
                · have t3 : (x == 0) = true := beq_iff_eq.2 x3
                  have t4 : (y != x) = false := bne_eq_false_iff_eq.2 (H2.out (.inr (.inr x3)))
                  clear x1 x2 x3 H1 H2
                  go_quiet (fail)
                  go_wp2_with fail
                  go_roundw
                  case rel => exact ⟨k + 1, by omega, by go_num, k9.trans (belowN _ _ _)⟩
                  case measure => simp [intOf]; omega
                · have t3 : (x == 0) = false := beq_eq_false_iff_ne.2 x3
                  clear x1 x2 x3 H1 H2
                  go_quiet (fail)
                  go_wp2_with fail
                  go_roundw
                  case rel => exact ⟨k + 1, by omega, by go_num, k9.trans (belowN _ _ _)⟩
                  case measure => simp [intOf]; omega
        · have fa := (YA.out 4 _ rfl).1
          have fb := (YB.out 4 _ rfl).1
          go_wp2_with fail
          go_ret
          exact ⟨by simp, kw⟩
    · have CQ := hid (fun s hs W h1 => (CP.out s hs W h1).mono fun e w' => sl_none hE)
      obtain ⟨E, hEE⟩ : ∃ E, prqE v wide = E := ⟨_, rfl⟩
      rw [hEE] at CQ hE
      have hne : (E != 0) = true := by simpa using hE
      clear hf hE hEE CP uv rv hw ha hb
      go_enter Try.func6, Try.ntmps6
      go_wp2_with fail
      refine (qu_live _).mono ?_
      rintro _ w1 ⟨rfl, k1⟩
      go_wp2_with fail
      refine (CF.out w1).mono ?_
      rintro _ _ ⟨rfl, rfl⟩
      clear CF
      go_wp2_with fail
      refine (CQ.out s hs2 w1 (HV.out.on k1)).mono ?_
      rintro _ w2 ⟨A2, c2, B2, d2, rfl, hb2⟩
      have k2 := k1.trans (hb2.mono k1.size)
      have k3 := k2.trans ((qu_grow w2 (.cells #[.int .i64 0, .int .i64 0, .slice none 0 0, .slice none 0 0, .int .i64 0, .int .i64 0, .slice A2 0 c2, .slice B2 0 d2] 37)).mono k2.size)
      obtain ⟨w3, hw3⟩ : ∃ w3, w2.alloc (.cells #[.int .i64 0, .int .i64 0, .slice none 0 0, .slice none 0 0, .int .i64 0, .int .i64 0, .slice A2 0 c2, .slice B2 0 d2] 37) = w3 := ⟨_, rfl⟩
      rw [hw3] at k3
      go_wp2_with fail
      refine (CQ.out s' hs3 w3 (HV.out.on k3)).mono ?_
      rintro _ w4 ⟨A4, c4, B4, d4, rfl, hb4⟩
      have k4 := k3.trans (hb4.mono k3.size)
      have k5 := k4.trans ((qu_grow w4 (.cells #[.int .i64 0, .int .i64 0, .slice none 0 0, .slice none 0 0, .int .i64 0, .int .i64 0, .slice A4 0 c4, .slice B4 0 d4] 37)).mono k4.size)
      go_wp2_with fail
      go_ret
      exact ⟨by simp, k5⟩
  · rw [Bool.eq_false_iff.2 hf] at CF
    clear hf rv uv hw ha hb
    go_enter Try.func6, Try.ntmps6
    go_wp2_with fail
    refine (qu_live _).mono ?_
    rintro _ w1 ⟨rfl, k1⟩
    go_wp2_with fail
    refine (CF.out w1).mono ?_
    rintro _ _ ⟨rfl, rfl⟩
    clear CF
    go_wp2_with fail
    go_ret
    exact ⟨rfl, k1⟩
theorem law_types : ∀ t ∈ Try.f6.params.toList, Try.prog.readableRec t = true ∧ t < Try.prog.types.size := by
  have h : (Try.f6.params.toList.all fun t => Try.prog.readableRec t && decide (t < Try.prog.types.size)) = true := by kernel_rfl
  intro t ht
  simpa using List.all_eq_true.1 h t ht
set_option maxRecDepth 100000 in
theorem lifted (os : Os) (started : os.Started) (H : Type) (enc : TypeId × Value → H) :
    ReturnsInHanded {} Try.checked os 6 .any (Rows.quantSureSpec.pre6 enc Try.prog Try.f6 Rows.quantSureRow.domain false) (Rows.quantSureSpec.post enc Try.prog Try.f6 false true false false) := by
  refine returnsInHanded_of_change (C := Try.checked) own started (by kernel_rfl) Try.func6
    (ChangeSpec.witness6 (enc := enc) (C := Try.checked) false ⟨#[], #[.slice none 0 0, .int .i64 0, .int .u64 0, .int .u64 0], []⟩ 8 (by kernel_rfl) (by kernel_rfl) (by kernel_rfl) (by kernel_rfl)) ?_
  intro W base args ds gs before hval0 hW hcnd _
  have hval : ∀ (j : Nat) t v, Try.f6.params[j]? = some t → args[j]? = some v → Value.okWide Try.prog W .any base t v := hval0
  have hW' := hW
  obtain ⟨p, q, hA0, hV, rfl, hfz, hnd⟩ := hW
  have hA : DataW.TrodAll enc Try.prog W 0 (fun _ => true) true Try.f6.params.toList args.toList ds p := hA0
  rw [Try.params6] at hA hval
  obtain ⟨v0, vs0, d0, ds0, p0, q0, hargs, rfl, rfl, h0, r0⟩ := trodAll_cons hA
  obtain ⟨v1, vs1, d1, ds1, p1, q1, rfl, rfl, rfl, h1, r1⟩ := trodAll_cons r0
  obtain ⟨v2, vs2, d2, ds2, p2, q2, rfl, rfl, rfl, h2, r2⟩ := trodAll_cons r1
  obtain ⟨v3, vs3, d3, ds3, p3, q3, rfl, rfl, rfl, h3, r3⟩ := trodAll_cons r2
  obtain ⟨rfl, rfl, rfl⟩ := trodAll_nil r3
  obtain rfl : args = #[v0, v1, v2, v3] := by cases args; simp_all
  obtain ⟨rfl, rfl⟩ := trodVars_none hV
  obtain ⟨Av, v, cv, rfl, rdv, iv, lcv, lmv⟩ := open_nums Try.underlying32 Try.underlying2 cells_i64' (hval 0 32 v0 rfl rfl) h0
  obtain ⟨wide, rfl, rfl, rfl, w1⟩ := open_int Try.underlying3 (hval 1 3 v1 rfl rfl) h1
  obtain ⟨a, rfl, rfl, rfl, w2⟩ := open_int Try.underlying22 (hval 2 22 v2 rfl rfl) h2
  obtain ⟨b, rfl, rfl, rfl, w3⟩ := open_int Try.underlying22 (hval 3 22 v3 rfl rfl) h3
  clear hA0 hval0
  refine (walk Av v cv wide a b W rdv (fun x hx => I64.of_wf (iv x hx)) lcv lmv (I64.of_wf w1) (U64.of_wf w2) (U64.of_wf w3)).mono fun e W' ⟨he, hb⟩ => ?_
  subst he
  exact ⟨_, rfl, law_post laid (fun t ht => law_types t ht) rfl hW' ⟨rfl, rfl, rfl⟩ (by kernel_rfl) Try.underlying4 hb⟩

theorem over : Rows.quantSureRow.holds Try.pinned (OpenSpec.ofChange Rows.quantSureSpec) :=
  OpenClaim.holds_of_wide 6 Try.f6 rfl rfl rfl rfl rfl rfl rfl ⟨rfl, rfl, rfl, rfl, rfl⟩ rfl rfl rfl rfl rfl (by kernel_rfl) Try.func6 (by kernel_rfl)
    (of_decide_eq_true (by kernel_rfl)) (by unfold Func.isWrapper; first | (rw [if_pos (by decide +kernel)]; kernel_rfl) | (rw [if_neg (by decide +kernel)]; exact ⟨rfl, rfl⟩))
    (fun os started H enc _ => lifted os started H enc)

theorem proved : Rows.QuantSureSaid := over
end Go.Proofs.Ytbkoapdeglmopaa.QuantSure
