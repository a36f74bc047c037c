
/-
  TopkScaled answers true for every input. No condition.
-/
import Derived.Test.YtjkhdfncahhnoaaTf
import Derived.Test.YtjkhdfncahhnoaaTe
import Derived.Test.YtjkhdfncahhnoaaTd
import Derived.Test.YtjkhdfncahhnoaaTTkS
import Derived.Test.YtjkhdfncahhnoaaTIxP
import Derived.Test.YtjkhdfncahhnoaaTc
import Derived.Test.YtjkhdfncahhnoaaTb
namespace Go.Proofs.Ytjkhdfncahhnoaa.TopkScaled
open Go.ChangeShapes Go.WideShapes Go.ChangeAt Go.RowKit
set_option maxHeartbeats 400000
set_option linter.unusedVariables false
open Go.Proofs.Ytjkhdfncahhnoaa
set_option maxHeartbeats 4000000 in
set_option maxRecDepth 100000 in
theorem walk (k : Int) (Av : Option Addr) (v : List Int) (cv : Nat) (by_ : Int) (w : World) (hk : I64 k) (rv : Rd (Value.int .i64) w w.heap.size Av v) (uv : I64s v) (lv : v.length ≤ cv) (mv : cv ≤ 9223372036854775807) (hby : I64 by_) :
    Calls Try.prog 7 #[.int .i64 k, .slice Av v.length cv, .int .i64 by_] w fun e w' => e = .returned (.bool true) ∧ Below w.heap.size w w' := by
  have HV := hid rv
  have hv : v.length ≤ 9223372036854775807 := by omega
  have CF := hid (fun W => tk_few (A := Av) (c := cv) v hv W)
  by_cases hl : fewT v = true ∧ v.length ≤ 4096 ∧ v.length ≠ 0
  · have h4 := hl.2.1
    have h0 := hl.2.2
    rw [hl.1] at CF
    have h4' : ¬ (v.length : Int) > 4096 := by omega
    have h00 : v ≠ [] := fun e => h0 (by rw [e]; rfl)
    have t2 : ((v.length : Int) == 0) = false := beq_eq_false_iff_ne.2 (by omega)
    have t3 : (v.length == 0) = false := beq_eq_false_iff_ne.2 h0
    -- how many times
    obtain ⟨r, hr⟩ : ∃ r, Int.tmod by_ 1000 = r := ⟨_, rfl⟩
    have hr1 : -1000 < r ∧ r < 1000 := by
      rw [← hr]
      have a1 := Int.tmod_lt_of_pos by_ (show (0 : Int) < 1000 by omega)
      have a2 := Int.lt_tmod_of_pos by_ (show (0 : Int) < 1000 by omega)
      omega
    obtain ⟨B0, hB0⟩ : ∃ B0 : Nat, (r + 1000) % 1000 = (B0 : Int) := ⟨((r + 1000) % 1000).toNat, by omega⟩
    have hB1 : (B0 : Int) < 1000 := by omega
    obtain ⟨B, hB⟩ : ∃ B : Int, 1 + (B0 : Int) = B := ⟨_, rfl⟩
    have hB2 : 1 ≤ B := by omega
    have hB3 : B ≤ 1000 := by omega
    -- how many
    obtain ⟨q, hq⟩ : ∃ q, Int.tmod k ((v.length : Int) + 1) = q := ⟨_, rfl⟩
    have hq1 : -((v.length : Int) + 1) < q ∧ q < (v.length : Int) + 1 := by
      rw [← hq]
      have a1 := Int.tmod_lt_of_pos k (show (0 : Int) < (v.length : Int) + 1 by omega)
      have a2 := Int.lt_tmod_of_pos k (show (0 : Int) < (v.length : Int) + 1 by omega)
      omega
    obtain ⟨K, hK⟩ : ∃ K : Nat, (q + v.length + 1) % ((v.length : Int) + 1) = (K : Int) := ⟨((q + v.length + 1) % ((v.length : Int) + 1)).toNat, by have := Int.emod_nonneg (q + v.length + 1) (show (v.length : Int) + 1 ≠ 0 by omega); omega⟩
    have hKv : K ≤ v.length := by have := Int.emod_lt_of_pos (q + v.length + 1) (show (0 : Int) < (v.length : Int) + 1 by omega); omega
    have iz : (v.length : Int) + 1 ≠ 0 := by omega
    have hp : pikE v (K : Int) = 0 := pikE_ok.2 (by omega)
    have hkI : I64 (K : Int) := by unfold I64; omega
    obtain ⟨p1, p2⟩ := prs_ok h00 hp
    have hpl := pikV_len hp
    have hck := pik_plc hp h00
    have C1 := hid (fun W (h : Rd (Value.int .i64) W W.heap.size Av v) => tk_Press (c := cv) (K : Int) hkI v uv (by omega) W h)
    rw [p1, p2] at C1
    have hwp := tmL_pik (c := B) (by omega) v (K : Int)
    have hw0 : tmL B v ≠ [] := fun e => h0 (by have := tmL_len B v; rw [e] at this; exact this.symm)
    obtain ⟨p3, p4⟩ := prs_ok hw0 (hwp.1.trans hp)
    have hwl := tmL_len B v
    have C2 := hid (fun (hb : ∀ x ∈ v, -1125899906842624 ≤ x ∧ x ≤ 1125899906842624) (A : Option Addr) (c : Nat) W (h : Rd (Value.int .i64) W W.heap.size A (tmL B v)) => tk_Press (A := A) (c := c) (K : Int) hkI (tmL B v) (tmL_i64 hB2 hB3 hb) (by omega) W h)
    rw [p3, p4, hwp.2, hwl, tmL_at] at C2
    obtain ⟨L, hL⟩ : ∃ L, pikV v (K : Int) = L := ⟨_, rfl⟩
    rw [hL] at C1 C2 hpl hck
    have hLl : L.length ≤ 4096 := by omega
    obtain ⟨X, hX⟩ : ∃ X, spV v.length L (atL v L) = X := ⟨_, rfl⟩
    obtain ⟨a1, a2, a3, a4, a5⟩ := pik_again h00 hp hL hX
    have hX0 : X ≠ [] := fun e => h0 (by rw [← a2, e]; rfl)
    have uX : ∀ x ∈ X, I64 x := by rw [← hX]; exact spr_i64 uv hck
    obtain ⟨p5, p6⟩ := prs_ok hX0 a3
    have hcx := pik_plc a3 hX0
    have hxl := pikV_le X (K : Int)
    have C3 := hid (fun (A A' : Option Addr) (c c' : Nat) W (h1 : Rd (Value.int .i64) W W.heap.size A L) (h2 : Rd (Value.int .i64) W W.heap.size A' (atL v L)) => ix_Spread (A := A) (B := A') (c := c) (d := c') (v.length : Int) L (atL v L) (by unfold I64; omega) (by omega) (by rw [atL_len]; omega) W h1 h2)
    rw [a1, hX] at C3
    have C4 := hid (fun (A : Option Addr) (c : Nat) W (h : Rd (Value.int .i64) W W.heap.size A X) => tk_Press (A := A) (c := c) (K : Int) hkI X uX (by omega) W h)
    rw [p5, p6, a2] at C4
    have C5 := hid (fun (A A' : Option Addr) (c c' : Nat) W (h1 : Rd (Value.int .i64) W W.heap.size A (pikV X (K : Int))) (h2 : Rd (Value.int .i64) W W.heap.size A' (atL X (pikV X (K : Int)))) => ix_Spread (A := A) (B := A') (c := c) (d := c') (v.length : Int) (pikV X (K : Int)) (atL X (pikV X (K : Int))) (by unfold I64; omega) (by omega) (by rw [atL_len]; omega) W h1 h2)
    rw [a4, a5] at C5
    have HVl := hid (atL_len v L)
    have HWl := hid (show (tmL B (atL v L)).length = L.length by rw [tmL_len, atL_len])
    have HMX := hid (fun (hb : ∀ x ∈ v, -1125899906842624 ≤ x ∧ x ≤ 1125899906842624) (j : Nat) (x : Int) (hx : (atL v L)[j]? = some x) => show (tmL B (atL v L))[j]? = some (B * x) ∧ wrap64 (B * x) = B * x ∧ I64 (B * x) by
      have h2 : (tmL B (atL v L))[j]? = some (B * x) := by unfold tmL; rw [List.getElem?_map, hx]; rfl
      have h3 : I64 (B * x) := by
        rw [← tmL_at] at h2
        unfold atL at h2
        rw [List.getElem?_map] at h2
        cases hn : L[j]? with
        | none => rw [hn] at h2; cases h2
        | some n =>
          rw [hn] at h2
          injection h2 with h2
          rw [← h2]
          exact getD_i64 (tmL_i64 hB2 hB3 hb) n.toNat
      exact ⟨h2, I64.wrap_in h3, h3⟩)
    obtain ⟨V, hV⟩ : ∃ V, atL v L = V := ⟨_, rfl⟩
    rw [hV] at C1 C2 C3 HVl HWl HMX
    obtain ⟨T, hT⟩ : ∃ T, tmL B V = T := ⟨_, rfl⟩
    rw [hT] at C2 HWl HMX
    obtain ⟨L2, hL2⟩ : ∃ L2, pikV X (K : Int) = L2 := ⟨_, rfl⟩
    rw [hL2] at C4 C5
    obtain ⟨V2, hV2⟩ : ∃ V2, atL X L2 = V2 := ⟨_, rfl⟩
    rw [hV2] at C4 C5
    have CQ := hid (fun (A B : Option Addr) (c d : Nat) (W : World) (h1 : Rd (Value.int .i64) W W.heap.size A L) (h2 : Rd (Value.int .i64) W W.heap.size B L) => equal_me (X := L) (by omega) (A := A) (B := B) (c := c) (d := d) W h1 h2)
    have HSN := hid (fun (j : Nat) (x : Int) (hx : v[j]? = some x) => tmL_snoc (c := B) hx)
    have HTE := hid (show tmL B (v.take v.length) = tmL B v by rw [List.take_length])
    have HTL := hid (fun j => show (tmL B (v.take j)).length ≤ 4096 by rw [tmL_len, List.length_take]; omega)
    have HT0 : Hid (tmL B (v.take 0) = []) := rfl
    have HI := hid (fun (x : Int) (h1 : -1125899906842624 ≤ x) (h2 : x ≤ 1125899906842624) => show I64 (B * x) from tmL_i64 (v := [x]) hB2 hB3 (by intro y hy; simp at hy; omega) (B * x) (by unfold tmL; simp))
    have HWL := hid hwl
    have HXL := hid a2
    clear p1 p2 p3 p4 p5 p6 hwp hw0 hwl hL hX a1 a2 a3 a4 a5 hX0 uX hcx hxl hV hT hL2 hV2 hck hpl hp hkI uv rv h00 hl h0
    go_enter Try.func7, Try.ntmps7
    go_wp2_with fail
    refine (tk_live _).mono ?_
    rintro _ w1 ⟨rfl, k1⟩
    go_wp2_with fail
    refine (CF.out w1).mono ?_
    rintro _ _ ⟨rfl, rfl⟩
    clear CF
    go_wp2_with fail
    rw [hK, hB0]
    clear hK hB0
    go_loopw [6, 8, 10, 61, 71] (fun x6 x8 x10 i x71 wr => ∃ (j : Nat) (S : List Int) (A2 : Option Addr) (c2 : Nat), j ≤ v.length ∧ i = .int .i64 j ∧ x8 = .slice A2 S.length c2 ∧ S = tmL B (v.take j) ∧ (∀ x ∈ v.take j, -1125899906842624 ≤ x ∧ x ≤ 1125899906842624) ∧ wr.ownsRow w1.heap.size 2 1 (.slice A2 S.length c2) S.length (S.map (Value.int .i64)) ∧ Below w1.heap.size w1 wr) (fun _ _ _ i _ _ => v.length - (intOf i).toNat)
    case atStart => exact ⟨0, [], none, 0, by omega, rfl, rfl, HT0.out.symm, by simp, own_nil _ _ _, Below.refl _ _⟩
    case round =>
      obtain ⟨j, S, A2, c2, hj, rfl, rfl, hS, hb, ho, hbel⟩ := hrel
      have HS := hid hS
      have HBD := hid hb
      have HO := hid ho
      have hSl : S.length ≤ 4096 := by rw [hS]; exact HTL.out j
      have kw := k1.trans (hbel.mono k1.size)
      clear hS hb ho
      by_cases hlt : j < v.length
      · obtain ⟨b1, o1, x, rfl, l1, ex, d1⟩ := (HV.out.below kw).at_ hlt
        by_cases hx1 : x > 1125899906842624
        · clear ex
          go_wp2_with fail
          go_ret
          exact ⟨rfl, kw⟩
        · by_cases hx2 : x < -1125899906842624
          · clear ex
            go_wp2_with fail
            go_ret
            exact ⟨rfl, kw⟩
          · have HN := hid (HSN.out j x ex)
            have hI := HI.out x (by omega) (by omega)
            have HBD2 := hid (show ∀ y ∈ v.take (j + 1), -1125899906842624 ≤ y ∧ y ≤ 1125899906842624 by
              rw [take_snoc ex]
              intro y hy
              rcases List.mem_append.1 hy with hy | hy
              · exact HBD.out y hy
              · simp at hy; omega)
            have hw := I64.wrap_in hI
            obtain ⟨z, hz⟩ : ∃ z, B * x = z := ⟨_, rfl⟩
            rw [hz] at HN hI hw
            unfold I64 at hI
            have hw2 : IntKind.i64.wrap z = z := by rw [IntKind.wrap_i64]; omega
            have hr0 : Rd (Value.int .i64) (wr.alloc (.cells #[.int .i64 z] 2)) _ (some ⟨wr.heap.size, 0, none⟩) [z] := rd_one (one_cell wr (.int .i64 z) 2).1
            have hz0 := (one_cell wr (.int .i64 z) 2).2
            have h0' := own_on HO.out hz0
            clear ex
            go_wp2_with (at_builtin; refine wpList_app (Value.int .i64) (fun _ => rfl) _ rfl _ _ 22 rfl w1.heap.size 2 (.int .i64 0) 8 Try.underlying22 info_i64 rfl S A2 c2 rfl h0' [z] _ 1 _ rfl hr0 (by simp [maxLen]; omega) (by simp; omega) (by have := hbel.size; simp; omega) ?_)
            rintro S' A' c' w4 hS' ho4 hb4 _
            have HO4 := hid ho4
            have HEQ := hid hS'
            clear hS' ho4 h0' hr0
            go_wp2_with fail
            go_roundw
            case rel => exact ⟨j + 1, S', A', c', by omega, by go_num, rfl, by rw [HEQ.out, HN.out, HS.out], HBD2.out, HO4.out, (hbel.alloc hbel.size _).trans hb4⟩
            case measure => simp [intOf]; omega
      · have hje : j = v.length := by omega
        have hbd : ∀ x ∈ v, -1125899906842624 ≤ x ∧ x ≤ 1125899906842624 := by have h := HBD.out; rw [hje, List.take_length] at h; exact h
        have hSe : S = tmL B v := by rw [HS.out, hje, HTE.out]
        have hSv : S.length = v.length := by rw [hSe, HWL.out]
        have RS := own_rd HO.out
        have HM := hid (HMX.out hbd)
        have D2 := hid (fun (A : Option Addr) (c : Nat) W (h : Rd (Value.int .i64) W W.heap.size A S) => C2.out hbd A c W (by rw [← hSe]; exact h))
        have RS' := hid RS
        rw [hSv]
        clear HS HBD HO hje hbd hSe RS C2 HMX HSN HTE HTL HT0 HI HWL
        have HSv := hid hSv
        clear hSv
        go_wp2_with fail
        refine (C1.out wr (HV.out.on kw)).mono ?_
        rintro _ w4 ⟨A4, c4, A5, c5, rfl, _, _, hoL, hoV, hb4⟩
        have RL := hid (own_rd hoL)
        have RV := hid (own_rd hoV)
        have k4 := kw.trans (hb4.mono kw.size)
        have RSa := hid (RS'.out.on hb4)
        clear hoL hoV hb4 RS' C1 kw
        go_wp2_with fail
        have g4 : Below w4.heap.size w4 (w4.alloc (.cells #[.int .i64 1, .int .i64 (v.length : Int), .slice A4 L.length c4, .slice A5 V.length c5, .int .i64 0, .int .i64 0, .slice none 0 0, .slice none 0 0] 27)) := tk_grow _ _
        have n4 : BoxL (w4.alloc (.cells #[.int .i64 1, .int .i64 (v.length : Int), .slice A4 L.length c4, .slice A5 V.length c5, .int .i64 0, .int .i64 0, .slice none 0 0, .slice none 0 0] 27)) w4.heap.size [.int .i64 1, .int .i64 (v.length : Int), .slice A4 L.length c4, .slice A5 V.length c5, .int .i64 0, .int .i64 0, .slice none 0 0, .slice none 0 0] := BoxL.new w4 [.int .i64 1, .int .i64 (v.length : Int), .slice A4 L.length c4, .slice A5 V.length c5, .int .i64 0, .int .i64 0, .slice none 0 0, .slice none 0 0] 27
        obtain ⟨w5, hw5⟩ : ∃ wn, (w4.alloc (.cells #[.int .i64 1, .int .i64 (v.length : Int), .slice A4 L.length c4, .slice A5 V.length c5, .int .i64 0, .int .i64 0, .slice none 0 0, .slice none 0 0] 27)) = wn := ⟨_, rfl⟩
        rw [hw5] at g4 n4 ⊢
        clear hw5
        have XA := hid n4
        clear n4
        have RL5 := hid (RL.out.on g4)
        have RV5 := hid (RV.out.on g4)
        have RS5 := hid (RSa.out.on g4)
        have k5 := k4.trans (g4.mono k4.size)
        clear RL RV RSa g4 k4
        refine (D2.out A2 c2 w5 RS5.out).mono ?_
        rintro _ w6 ⟨A6, c6, A7, c7, rfl, _, _, hoL, hoV, hb6⟩
        have RL6 := hid (RL5.out.on hb6)
        have RV6 := hid (RV5.out.on hb6)
        have RM6 := hid (own_rd hoL)
        have RT6 := hid (own_rd hoV)
        have XA6 := hid (XA.out.below hb6 (XA.out.lt (by simp)))
        have k6 := k5.trans (hb6.mono k5.size)
        clear hoL hoV hb6 RL5 RV5 RS5 XA D2 k5
        have g6 : Below w6.heap.size w6 (w6.alloc (.cells #[.int .i64 1, .int .i64 (v.length : Int), .slice A6 L.length c6, .slice A7 T.length c7, .int .i64 0, .int .i64 0, .slice none 0 0, .slice none 0 0] 27)) := tk_grow _ _
        have n6 : BoxL (w6.alloc (.cells #[.int .i64 1, .int .i64 (v.length : Int), .slice A6 L.length c6, .slice A7 T.length c7, .int .i64 0, .int .i64 0, .slice none 0 0, .slice none 0 0] 27)) w6.heap.size [.int .i64 1, .int .i64 (v.length : Int), .slice A6 L.length c6, .slice A7 T.length c7, .int .i64 0, .int .i64 0, .slice none 0 0, .slice none 0 0] := BoxL.new w6 [.int .i64 1, .int .i64 (v.length : Int), .slice A6 L.length c6, .slice A7 T.length c7, .int .i64 0, .int .i64 0, .slice none 0 0, .slice none 0 0] 27
        have m6 : BoxL (w6.alloc (.cells #[.int .i64 1, .int .i64 (v.length : Int), .slice A6 L.length c6, .slice A7 T.length c7, .int .i64 0, .int .i64 0, .slice none 0 0, .slice none 0 0] 27)) w4.heap.size _ := XA6.out.below g6 (XA6.out.lt (by simp))
        obtain ⟨⟨a0, a1, a2, a3, a4, a5, a6, a7⟩, _⟩ := m6.eight
        obtain ⟨⟨b0, b1, b2, b3, b4, b5, b6, b7⟩, _⟩ := n6.eight
        have XA7 := hid m6
        have XB := hid n6
        clear m6 n6
        go_wp2_with fail
        clear a0 a1 a2 a3 a4 a5 a6 a7 b0 b1 b2 b3 b4 b5 b6 b7
        obtain ⟨w7, hw7⟩ : ∃ wn, (w6.alloc (.cells #[.int .i64 1, .int .i64 (v.length : Int), .slice A6 L.length c6, .slice A7 T.length c7, .int .i64 0, .int .i64 0, .slice none 0 0, .slice none 0 0] 27)) = wn := ⟨_, rfl⟩
        rw [hw7] at g6 XA7 XB ⊢
        clear hw7
        have RL7 := hid (RL6.out.on g6)
        have RV7 := hid (RV6.out.on g6)
        have RM7 := hid (RM6.out.on g6)
        have RT7 := hid (RT6.out.on g6)
        have k7 := k6.trans (g6.mono k6.size)
        clear RL6 RV6 RM6 RT6 XA6 g6 k6
        refine (CQ.out _ _ _ _ w7 RL7.out RM7.out).mono ?_
        rintro _ w8 ⟨rfl, hb8⟩
        have RL8 := hid (RL7.out.on hb8)
        have RV8 := hid (RV7.out.on hb8)
        have RT8 := hid (RT7.out.on hb8)
        have XA8 := hid (XA7.out.below hb8 (XA7.out.lt (by simp)))
        have XB8 := hid (XB.out.below hb8 (XB.out.lt (by simp)))
        have k8 := k7.trans (hb8.mono k7.size)
        clear hb8 RL7 RV7 RM7 RT7 XA7 XB k7 CQ
        obtain ⟨⟨a0, a1, a2, a3, a4, a5, a6, a7⟩, _⟩ := XA8.out.eight
        obtain ⟨⟨b0, b1, b2, b3, b4, b5, b6, b7⟩, _⟩ := XB8.out.eight
        have hVl4 : V.length ≤ 4096 := by have e1 := HVl.out; omega
        have u1 : ((V.length : Int) != (T.length : Int)) = false := bne_eq_false_iff_eq.2 (by have e1 := HVl.out; have e2 := HWl.out; omega)
        have u2 : (V.length != T.length) = false := bne_eq_false_iff_eq.2 (by have e1 := HVl.out; have e2 := HWl.out; omega)
        go_wp2_with fail
        go_loop [6, 15, 16, 117] (fun x6 x15 x16 i => ∃ j : Nat, j ≤ V.length ∧ i = .int .i64 j) (fun _ _ _ i => V.length - (intOf i).toNat)
        case atStart => exact ⟨0, by omega, rfl⟩
        case round =>
          obtain ⟨j, hj, rfl⟩ := hrel
          by_cases hlt : j < V.length
          · obtain ⟨d1, o1, x, rfl, l1, ex, e1⟩ := RV8.out.at_ hlt
            have hjT : j < T.length := by have e1 := HVl.out; have e2 := HWl.out; omega
            obtain ⟨d2, o2, y, rfl, l2, ey, e2⟩ := RT8.out.at_ hjT
            obtain ⟨h1, h2, h3⟩ := HM.out j x ex
            obtain rfl : y = B * x := by rw [h1] at ey; injection ey with ey; exact ey.symm
            obtain ⟨z, hz⟩ : ∃ z, B * x = z := ⟨_, rfl⟩
            rw [hz] at h2 h3 e2
            unfold I64 at h3
            have hw2 : IntKind.i64.wrap z = z := by rw [IntKind.wrap_i64]; omega
            have hjT' : (j : Int) < (T.length : Int) := by omega
            clear ex ey h1
            go_wp2_with fail
            go_round
            case rel => exact ⟨j + 1, by omega, by go_num⟩
            case measure => simp [intOf]; omega
          · clear u1 u2
            go_wp2_with fail
            refine (C3.out _ _ _ _ w8 RL8.out RV8.out).mono ?_
            rintro _ w9 ⟨A9, c9, rfl, ho9, hb9⟩
            have RX9 := hid (own_rd ho9)
            have k9 := k8.trans (hb9.mono k8.size)
            clear ho9 hb9 RL8 RV8 RT8 XA8 XB8 C3 k8 a0 a1 a2 a3 a4 a5 a6 a7 b0 b1 b2 b3 b4 b5 b6 b7 HM HVl HWl
            rw [HXL.out]
            have D4 := hid (fun A c W (h : Rd (Value.int .i64) W W.heap.size A X) => C4.out A c W h)
            go_wp2_with fail
            refine (D4.out A9 c9 w9 RX9.out).mono ?_
            rintro _ w10 ⟨A10, c10, A11, c11, rfl, _, _, hoL, hoV, hb10⟩
            have RL10 := hid (own_rd hoL)
            have RV10 := hid (own_rd hoV)
            have RX10 := hid (RX9.out.on hb10)
            have k10 := k9.trans (hb10.mono k9.size)
            clear hoL hoV hb10 RX9 C4 D4 k9
            have g10 : Below w10.heap.size w10 (w10.alloc (.cells #[.int .i64 1, .int .i64 (v.length : Int), .slice A10 L2.length c10, .slice A11 V2.length c11, .int .i64 0, .int .i64 0, .slice none 0 0, .slice none 0 0] 27)) := tk_grow _ _
            have n10 : BoxL (w10.alloc (.cells #[.int .i64 1, .int .i64 (v.length : Int), .slice A10 L2.length c10, .slice A11 V2.length c11, .int .i64 0, .int .i64 0, .slice none 0 0, .slice none 0 0] 27)) w10.heap.size [.int .i64 1, .int .i64 (v.length : Int), .slice A10 L2.length c10, .slice A11 V2.length c11, .int .i64 0, .int .i64 0, .slice none 0 0, .slice none 0 0] := BoxL.new w10 [.int .i64 1, .int .i64 (v.length : Int), .slice A10 L2.length c10, .slice A11 V2.length c11, .int .i64 0, .int .i64 0, .slice none 0 0, .slice none 0 0] 27
            obtain ⟨⟨b0, b1, b2, b3, b4, b5, b6, b7⟩, _⟩ := n10.eight
            go_wp2_with fail
            clear b0 b1 b2 b3 b4 b5 b6 b7 n10
            obtain ⟨w11, hw11⟩ : ∃ wn, (w10.alloc (.cells #[.int .i64 1, .int .i64 (v.length : Int), .slice A10 L2.length c10, .slice A11 V2.length c11, .int .i64 0, .int .i64 0, .slice none 0 0, .slice none 0 0] 27)) = wn := ⟨_, rfl⟩
            rw [hw11] at g10 ⊢
            clear hw11
            have RL11 := hid (RL10.out.on g10)
            have RV11 := hid (RV10.out.on g10)
            have RX11 := hid (RX10.out.on g10)
            have k11 := k10.trans (g10.mono k10.size)
            clear RL10 RV10 RX10 g10 k10
            refine (C5.out _ _ _ _ w11 RL11.out RV11.out).mono ?_
            rintro _ w12 ⟨A12, c12, rfl, ho12, hb12⟩
            have RX12 := hid (RX11.out.on hb12)
            have RY12 := hid (own_rd ho12)
            have k12 := k11.trans (hb12.mono k11.size)
            clear ho12 hb12 RL11 RV11 RX11 C5 k11
            rw [HXL.out]
            have hXl := HXL.out
            go_wp2_with fail
            go_loopw [6, 23, 177] (fun x6 x23 i wr => ∃ j : Nat, j ≤ v.length ∧ i = .int .i64 j ∧ ∃ n, wr = w12.drewN n) (fun _ _ i _ => v.length - (intOf i).toNat)
            case atStart => exact ⟨0, by omega, rfl, 0, rfl⟩
            case round =>
              obtain ⟨j, hj, rfl, n, rfl⟩ := hrel
              by_cases hlt : j < v.length
              · have hlX : j < X.length := by omega
                obtain ⟨d1, o1, x, rfl, l1, ex, e1⟩ := RX12.out.at_ hlX
                obtain ⟨d2, o2, y, rfl, l2, ey, e2⟩ := RY12.out.at_ hlX
                obtain rfl : x = y := by rw [ex] at ey; injection ey
                have hj1 : (j : Int) < (v.length : Int) := by omega
                clear ex ey hXl
                go_wp2_with fail
                go_quiet (fail)
                go_wp2_with fail
                go_roundw
                case rel => exact ⟨j + 1, by omega, by go_num, _, rfl⟩
                case measure => simp [intOf]; omega
              · go_wp2_with fail
                go_ret
                exact ⟨rfl, k12.trans (belowN _ _ _)⟩
  · have hc : fewT v = false ∨ (fewT v = true ∧ v.length = 0) ∨ (fewT v = true ∧ v.length ≠ 0 ∧ (v.length : Int) > 4096) := by
      cases hf : fewT v with
      | false => exact .inl rfl
      | true =>
        by_cases h1 : v.length = 0
        · exact .inr (.inl ⟨rfl, h1⟩)
        · refine .inr (.inr ⟨rfl, h1, ?_⟩)
          have : ¬ v.length ≤ 4096 := fun h => hl ⟨hf, h, h1⟩
          omega
    clear rv uv hl
    rcases hc with hf | ⟨hf, h1⟩ | ⟨hf, h1, h2⟩
    · rw [hf] at CF
      clear hf
      go_enter Try.func7, Try.ntmps7
      go_wp2_with fail
      refine (tk_live _).mono ?_
      rintro _ w1 ⟨rfl, k1⟩
      go_wp2_with fail
      refine (CF.out w1).mono ?_
      rintro _ _ ⟨rfl, rfl⟩
      clear CF
      go_wp2_with fail
      go_ret
      exact ⟨rfl, k1⟩
    · rw [hf] at CF
      have t1 : ((v.length : Int) == 0) = true := beq_iff_eq.2 (by omega)
      have t2 : (v.length == 0) = true := beq_iff_eq.2 h1
      have H1 := hid h1
      clear hf h1
      go_enter Try.func7, Try.ntmps7
      go_wp2_with fail
      refine (tk_live _).mono ?_
      rintro _ w1 ⟨rfl, k1⟩
      go_wp2_with fail
      refine (CF.out w1).mono ?_
      rintro _ _ ⟨rfl, rfl⟩
      clear CF
      go_wp2_with fail
      go_ret
      exact ⟨rfl, k1⟩
    · rw [hf] at CF
      have t1 : ((v.length : Int) == 0) = false := beq_eq_false_iff_ne.2 (by omega)
      have t2 : (v.length == 0) = false := beq_eq_false_iff_ne.2 h1
      clear hf h1
      go_enter Try.func7, Try.ntmps7
      go_wp2_with fail
      refine (tk_live _).mono ?_
      rintro _ w1 ⟨rfl, k1⟩
      go_wp2_with fail
      refine (CF.out w1).mono ?_
      rintro _ _ ⟨rfl, rfl⟩
      clear CF
      go_wp2_with fail
      go_ret
      exact ⟨rfl, k1⟩
theorem law_types : ∀ t ∈ Try.f7.params.toList, Try.prog.readableRec t = true ∧ t < Try.prog.types.size := by
  have h : (Try.f7.params.toList.all fun t => Try.prog.readableRec t && decide (t < Try.prog.types.size)) = true := by kernel_rfl
  intro t ht
  simpa using List.all_eq_true.1 h t ht
set_option maxRecDepth 100000 in
theorem lifted (os : Os) (started : os.Started) (H : Type) (enc : TypeId × Value → H) :
    ReturnsInHanded {} Try.checked os 7 .any (Rows.topkScaledSpec.pre6 enc Try.prog Try.f7 Rows.topkScaledRow.domain false) (Rows.topkScaledSpec.post enc Try.prog Try.f7 false true false false) := by
  refine returnsInHanded_of_change (C := Try.checked) own started (by kernel_rfl) Try.func7
    (ChangeSpec.witness6 (enc := enc) (C := Try.checked) false ⟨#[], #[.int .i64 0, .slice none 0 0, .int .i64 0], []⟩ 8 (by kernel_rfl) (by kernel_rfl) (by kernel_rfl) (by kernel_rfl)) ?_
  intro W base args ds gs before hval0 hW hcnd _
  have hval : ∀ (j : Nat) t v, Try.f7.params[j]? = some t → args[j]? = some v → Value.okWide Try.prog W .any base t v := hval0
  have hW' := hW
  obtain ⟨p, q, hA0, hV, rfl, hfz, hnd⟩ := hW
  have hA : DataW.TrodAll enc Try.prog W 0 (fun _ => true) true Try.f7.params.toList args.toList ds p := hA0
  rw [Try.params7] at hA hval
  obtain ⟨v0, vs0, d0, ds0, p0, q0, hargs, rfl, rfl, h0, r0⟩ := trodAll_cons hA
  obtain ⟨v1, vs1, d1, ds1, p1, q1, rfl, rfl, rfl, h1, r1⟩ := trodAll_cons r0
  obtain ⟨v2, vs2, d2, ds2, p2, q2, rfl, rfl, rfl, h2, r2⟩ := trodAll_cons r1
  obtain ⟨rfl, rfl, rfl⟩ := trodAll_nil r2
  obtain rfl : args = #[v0, v1, v2] := by cases args; simp_all
  obtain ⟨rfl, rfl⟩ := trodVars_none hV
  obtain ⟨k, rfl, rfl, rfl, w0⟩ := open_int Try.underlying3 (hval 0 3 v0 rfl rfl) h0
  obtain ⟨Av, v, cv, rfl, rdv, iv, lcv, lmv⟩ := open_nums Try.underlying22 Try.underlying2 cells_i64' (hval 1 22 v1 rfl rfl) h1
  obtain ⟨by_, rfl, rfl, rfl, w2⟩ := open_int Try.underlying2 (hval 2 2 v2 rfl rfl) h2
  clear hA0 hval0
  refine (walk k Av v cv by_ W (I64.of_wf w0) rdv (fun x hx => I64.of_wf (iv x hx)) lcv lmv (I64.of_wf w2)).mono fun e W' ⟨he, hb⟩ => ?_
  subst he
  exact ⟨_, rfl, law_post laid (fun t ht => law_types t ht) rfl hW' ⟨rfl, rfl, rfl⟩ (by kernel_rfl) Try.underlying4 hb⟩

theorem over : Rows.topkScaledRow.holds Try.pinned (OpenSpec.ofChange Rows.topkScaledSpec) :=
  OpenClaim.holds_of_wide 7 Try.f7 rfl rfl rfl rfl rfl rfl rfl ⟨rfl, rfl, rfl, rfl, rfl⟩ rfl rfl rfl rfl rfl (by kernel_rfl) Try.func7 (by kernel_rfl)
    (of_decide_eq_true (by kernel_rfl)) (by unfold Func.isWrapper; first | (rw [if_pos (by decide +kernel)]; kernel_rfl) | (rw [if_neg (by decide +kernel)]; exact ⟨rfl, rfl⟩))
    (fun os started H enc _ => lifted os started H enc)

theorem proved : Rows.TopkScaledSaid := over
end Go.Proofs.Ytjkhdfncahhnoaa.TopkScaled
