
/-
  QuantTurned answers true for every input. No condition.
-/
import Derived.Test.YtbkoapdeglmopaaJg
import Derived.Test.YtbkoapdeglmopaaJe
import Derived.Test.YtbkoapdeglmopaaJd
namespace Go.Proofs.Ytbkoapdeglmopaa.QuantTurned
open Go.ChangeShapes Go.WideShapes Go.ChangeAt Go.RowKit
set_option maxHeartbeats 400000
set_option linter.unusedVariables false
open Go.Proofs.Ytbkoapdeglmopaa
/-- What is asked of each number, in plain words. -/
theorem turn_ok {v : List Int} (hl : v.length ≤ 200) (uv : ∀ x ∈ v, I64 x) {wide : Int} {s : Nat} {n : List Int} (hE : prqE v wide = 0) {k : Nat} {x : Int} (hx : v[k]? = some x) :
    ∃ (la : Nat) (z zt : Bool), (levQ v wide s n v.length)[k]? = some (la : Int) ∧ (levQ (ngL v) wide s n (ngL v).length)[k]? = some (la : Int) ∧ (levQ (v ++ ngL v) wide s n (v ++ ngL v).length)[k]? = some (la : Int) ∧
      (negQ v v.length)[k]? = some z ∧ (negQ (ngL v) (ngL v).length)[k]? = some zt ∧ (negQ (v ++ ngL v) (v ++ ngL v).length)[k]? = some z ∧ (x ≠ 0 → z ≠ zt) := by
  have hk := (List.getElem?_eq_some_iff.1 hx).1
  have hxi := uv x (List.mem_of_getElem? hx)
  obtain ⟨e1, e2, e3⟩ := turn_most hl uv
  obtain ⟨m1, m2⟩ := e3 (prqE_ok.1 hE).2.2
  obtain ⟨q1, q2, q3⟩ := turn_all hl uv wide s n
  obtain ⟨_, _, _, _, _, _, _, _, q4⟩ := q3 hE
  have q5 := (q4 k hk).2.2.2
  have l1 : k < (ngL v).length := by rw [ngL_len]; exact hk
  have l2 : k < (v ++ ngL v).length := by rw [List.length_append]; omega
  have g1 : (v ++ ngL v).getD k 0 = x := by rw [List.getD_eq_getElem?_getD, List.getElem?_append_left hk, hx]; rfl
  have g2 : (ngL v).getD k 0 = ngW x := by rw [ngL_getD, getD_of hx]
  refine ⟨plQ (mostV v) wide s n k x, decide (x < 0), decide (ngW x < 0), ?_, ?_, ?_, ?_, ?_, ?_, ?_⟩
  · rw [levQ_at v wide s n hk, getD_of hx]
  · rw [levQ_at (ngL v) wide s n l1, g2, m1, plQ_size (ngW_sz hxi)]
  · rw [levQ_at (v ++ ngL v) wide s n l2, g1, m2]
  · rw [negQ_at v hk, getD_of hx]
  · rw [negQ_at (ngL v) l1, g2]
  · rw [negQ_at (v ++ ngL v) l2, g1]
  · intro h0
    have h1 := q5 (by rw [getD_of hx]; exact h0)
    rw [prq_parts hE, prq_parts (v := ngL v) (by rw [q1]; exact hE)] at h1
    have h2 : (negQ (ngL v) (ngL v).length).getD k false ≠ (negQ v v.length).getD k false := h1
    rw [negq_getD (ngL v) l1, negq_getD v hk, g2, getD_of hx] at h2
    exact fun e => h2 e.symm
theorem ngL_snoc {v : List Int} {k : Nat} {x : Int} (hx : v[k]? = some x) : ngL (v.take (k + 1)) = ngL (v.take k) ++ [ngW x] := by
  rw [List.take_add_one, hx]
  unfold ngL
  rw [List.map_append]
  rfl
set_option maxHeartbeats 8000000 in
set_option maxRecDepth 100000 in
theorem walk (Av : Option Addr) (v : List Int) (cv : Nat) (wide seed : Int) (An : Option Addr) (n : List Int) (cn : Nat) (w : World) (rv : Rd (Value.int .i64) w w.heap.size Av v) (uv : I64s v) (lv : v.length ≤ cv) (mv : cv ≤ 9223372036854775807) (hw : I64 wide) (hs : U64 seed)
    (rn : Rd (Value.int .i64) w w.heap.size An n) (un : I64s n) (ln : n.length ≤ cn) (mn : cn ≤ 9223372036854775807) :
    Calls Try.prog 8 #[.slice Av v.length cv, .int .i64 wide, .int .u64 seed, .slice An n.length cn] w fun e w' => e = .returned (.bool true) ∧ Below w.heap.size w w' := by
  have HV := hid rv
  have HN := hid rn
  obtain ⟨s, rfl⟩ := Int.eq_ofNat_of_zero_le hs.1
  have hs2 : s < 2 ^ 64 := by have := hs.2; omega
  have hv : v.length ≤ 9223372036854775807 := by omega
  have hn : n.length ≤ 9223372036854775807 := by omega
  have CF := hid (fun W => qu_few (A := Av) (c := cv) (B := An) (d := cn) v n hv hn W)
  by_cases hf : fewU v n = true
  · rw [hf] at CF
    by_cases hl2 : v.length ≤ 200
    · have h5 : n.length ≤ 50 := by
        unfold fewU at hf
        have := of_decide_eq_true hf
        omega
      have hgt : ¬ (v.length : Int) > 200 := by omega
      obtain ⟨V, hV⟩ : ∃ V, ngL v = V := ⟨_, rfl⟩
      obtain ⟨U, hU⟩ : ∃ U, v ++ V = U := ⟨_, rfl⟩
      have lV : V.length = v.length := by rw [← hV, ngL_len]
      have uV : I64s V := by rw [← hV]; exact ngL_i64 v
      have uU : I64s U := by
        rw [← hU]
        intro x hx
        rcases List.mem_append.1 hx with h | h
        · exact uv x h
        · exact uV x h
      obtain ⟨N2, hN2⟩ : ∃ N2, U.length = N2 := ⟨_, rfl⟩
      have lU : N2 = v.length + v.length := by rw [← hN2, ← hU, List.length_append, lV]
      have ht := turn_all hl2 uv wide s n
      rw [hV, hU] at ht
      have hm := turn_most hl2 uv
      rw [hV, hU] at hm
      have CP := hid (fun (Y : List Int) (uY : I64s Y) (lY : Y.length ≤ 9223372036854775807) (A : Option Addr) (c : Nat) W (h1 : Rd (Value.int .i64) W W.heap.size A Y) (h2 : Rd (Value.int .i64) W W.heap.size An n) => qp_Press (A := A) (B := An) (c := c) (d := cn) Y uY lY wide hw s hs2 n un (by omega) W h1 h2)
      have HSN := hid (fun (j : Nat) (x : Int) (hx : v[j]? = some x) => ngL_snoc hx)
      have HNE := hid (show ngL (v.take v.length) = V by rw [List.take_length, hV])
      have HTL := hid (fun j => show (ngL (v.take j)).length ≤ 200 by rw [ngL_len, List.length_take]; omega)
      have HT0 : Hid (ngL (v.take 0) = []) := rfl
      by_cases hE : prqE v wide = 0
      · obtain ⟨q1, q2, q3⟩ := ht
        have hE2 : prqE V wide = 0 := q1.trans hE
        have hE3 : prqE U wide = 0 := q2.trans hE
        obtain ⟨_, _, hm3⟩ := hm
        obtain ⟨hM2, hM3⟩ := hm3 (prqE_ok.1 hE).2.2
        obtain ⟨m1, m2, m3, m4, m5⟩ := mostq_ok (prqE_ok.1 hE).2.2
        clear m5 m4 m1 hm3 q3
        obtain ⟨M, hM⟩ := Int.eq_ofNat_of_zero_le m2
        have HK := hid (fun k x (hx : v[k]? = some x) => turn_ok hl2 uv (s := s) (n := n) hE hx)
        rw [hV, hU] at HK
        have CQ1 := hid (fun W h1 h2 => (CP.out v uv hv Av cv W h1 h2).mono fun e w' => sl_parts hE)
        have CQ2 := hid (fun A c W h1 h2 => (CP.out V uV (by omega) A c W h1 h2).mono fun e w' => sl_parts hE2)
        have CQ3 := hid (fun A c W h1 h2 => (CP.out U uU (by omega) A c W h1 h2).mono fun e w' => sl_parts hE3)
        have HRA := hid (fun (base : Nat) (w' : World) (A A' : Option Addr) (c c' : Nat) o1 o2 => sl_rd (base := base) (w' := w') (A := A) (A' := A') (c := c) (c' := c') (s := s) (n := n) hE o1 o2)
        have HRB := hid (fun (base : Nat) (w' : World) (A A' : Option Addr) (c c' : Nat) o1 o2 => sl_rd (base := base) (w' := w') (A := A) (A' := A') (c := c) (c' := c') (s := s) (n := n) hE2 o1 o2)
        have HRC := hid (fun (base : Nat) (w' : World) (A A' : Option Addr) (c c' : Nat) o1 o2 => sl_rd (base := base) (w' := w') (A := A) (A' := A') (c := c) (c' := c') (s := s) (n := n) hE3 o1 o2)
        rw [prq_parts hE] at HRA
        rw [prq_parts hE2] at HRB
        rw [prq_parts hE3] at HRC
        rw [hM2] at CQ2 HRB
        rw [hM3] at CQ3 HRC
        rw [hM] at CQ1 CQ2 CQ3 HRA HRB HRC m3
        rw [hN2] at CQ3 HRC HK
        obtain ⟨LA, hLA⟩ : ∃ L, levQ v wide s n v.length = L := ⟨_, rfl⟩
        obtain ⟨LB, hLB⟩ : ∃ L, levQ V wide s n V.length = L := ⟨_, rfl⟩
        obtain ⟨LC, hLC⟩ : ∃ L, levQ U wide s n N2 = L := ⟨_, rfl⟩
        obtain ⟨NA, hNA⟩ : ∃ L, negQ v v.length = L := ⟨_, rfl⟩
        obtain ⟨NB, hNB⟩ : ∃ L, negQ V V.length = L := ⟨_, rfl⟩
        obtain ⟨NC, hNC⟩ : ∃ L, negQ U N2 = L := ⟨_, rfl⟩
        rw [hLA, hNA] at CQ1 HRA
        rw [hLB, hNB] at CQ2 HRB
        rw [hLC, hNC] at CQ3 HRC
        rw [hLA, hLB, hLC, hNA, hNB, hNC] at HK
        have HU := hid hU
        have HN2 := hid hN2
        have LS := hid lV
        have LU := hid lU
        have hN4 : N2 ≤ 400 := by omega
        clear hLA hLB hLC hNA hNB hNC hE hE2 hE3 hM hM2 hM3 m2 q1 q2 hf hV hU lV uV uU hN2 lU CP uv rv rn un hw hs hs2
        go_enter Try.func8, Try.ntmps8
        go_wp2_with fail
        refine (qu_live _).mono ?_
        rintro _ w1 ⟨rfl, k1⟩
        go_wp2_with fail
        refine (CF.out w1).mono ?_
        rintro _ _ ⟨rfl, rfl⟩
        clear CF
        go_wp2_with fail
        refine (CQ1.out w1 (HV.out.on k1) (HN.out.on k1)).mono ?_
        rintro _ w2 ⟨A2, c2, B2, d2, rfl, o1, o2, hb2⟩
        have k2 := k1.trans (hb2.mono k1.size)
        have RD := hid (HRA.out _ w2 A2 B2 c2 d2 o1 o2)
        have g2 := qu_grow w2 (.cells #[.int .i64 2, .int .i64 (v.length : Int), .slice none 0 0, .slice none 0 0, .int .i64 (M : Int), .int .i64 wide, .slice A2 v.length c2, .slice B2 v.length d2] 37)
        have n2 : BoxL (w2.alloc (.cells #[.int .i64 2, .int .i64 (v.length : Int), .slice none 0 0, .slice none 0 0, .int .i64 (M : Int), .int .i64 wide, .slice A2 v.length c2, .slice B2 v.length d2] 37)) w2.heap.size [.int .i64 2, .int .i64 (v.length : Int), .slice none 0 0, .slice none 0 0, .int .i64 (M : Int), .int .i64 wide, .slice A2 v.length c2, .slice B2 v.length d2] := BoxL.new w2 [.int .i64 2, .int .i64 (v.length : Int), .slice none 0 0, .slice none 0 0, .int .i64 (M : Int), .int .i64 wide, .slice A2 v.length c2, .slice B2 v.length d2] 37
        obtain ⟨w3, hw3⟩ : ∃ w3, w2.alloc (.cells #[.int .i64 2, .int .i64 (v.length : Int), .slice none 0 0, .slice none 0 0, .int .i64 (M : Int), .int .i64 wide, .slice A2 v.length c2, .slice B2 v.length d2] 37) = w3 := ⟨_, rfl⟩
        rw [hw3] at g2 n2
        have k3 := k2.trans (g2.mono k2.size)
        have RD3 := hid (RD.out.on g2)
        have XA := hid n2
        clear o1 o2 hb2 HRA CQ1 g2 n2 RD k1 k2
        go_wp2_with fail
        clear hw3
        go_loopw [12, 14, 44] (fun x12 x14 i wr => ∃ (j : Nat) (S : List Int) (A2 : Option Addr) (c2 : Nat), j ≤ v.length ∧ i = .int .i64 j ∧ x12 = .slice A2 S.length c2 ∧ S = ngL (v.take j) ∧ wr.ownsRow w3.heap.size 2 1 (.slice A2 S.length c2) S.length (S.map (Value.int .i64)) ∧ Below w3.heap.size w3 wr) (fun _ _ i _ => v.length - (intOf i).toNat)
        case atStart => exact ⟨0, [], none, 0, by omega, rfl, rfl, HT0.out.symm, own_nil _ _ _, Below.refl _ _⟩
        case round =>
          obtain ⟨j, S, A3, c3, hj, rfl, rfl, hS, ho, hbel⟩ := hrel
          have HS := hid hS
          have HO := hid ho
          have hSl : S.length ≤ 200 := by rw [hS]; exact HTL.out j
          have kw := k3.trans (hbel.mono k3.size)
          clear hS ho
          by_cases hlt : j < v.length
          · obtain ⟨b1, o1, x, rfl, l1, ex, d1⟩ := (HV.out.on kw).at_ hlt
            have HSJ := hid (HSN.out j x ex)
            obtain ⟨z, hz⟩ : ∃ z, ngW x = z := ⟨_, rfl⟩
            rw [hz] at HSJ
            have hz1 : wrap64 (-x) = z := hz
            have hz2 : IntKind.i64.wrap (-x) = z := by rw [← hz1, IntKind.wrap_i64, wrap64_eq]
            have hr0 : Rd (Value.int .i64) (wr.alloc (.cells #[.int .i64 z] 2)) _ (some ⟨wr.heap.size, 0, none⟩) [z] := rd_one (one_cell wr (.int .i64 z) 2).1
            have hz0 := (one_cell wr (.int .i64 z) 2).2
            have h0' := own_on HO.out hz0
            clear ex hz
            go_wp2_with (at_builtin; refine wpList_app (Value.int .i64) (fun _ => rfl) _ rfl _ _ 32 rfl w3.heap.size 2 (.int .i64 0) 8 Try.underlying32 info_i64 rfl S A3 c3 rfl h0' [z] _ 1 _ rfl hr0 (by simp [maxLen]; omega) (by simp; omega) (by have := hbel.size; simp; omega) ?_)
            rintro S' A' c' w4 hS' ho4 hb4 _
            have HO4 := hid ho4
            have HEQ := hid hS'
            clear hS' ho4 h0' hr0 hz1 hz2
            go_wp2_with fail
            go_roundw
            case rel => exact ⟨j + 1, S', A', c', by omega, by go_num, rfl, by rw [HEQ.out, HSJ.out, HS.out], HO4.out, (hbel.alloc hbel.size _).trans hb4⟩
            case measure => simp [intOf]; omega
          · have hje : j = v.length := by omega
            have hSe : S = V := by rw [HS.out, hje]; exact HNE.out
            subst hSe
            have RV := hid (own_rd HO.out)
            clear HS HO HSN HNE HTL HT0 hje
            have HVw := hid (HV.out.on kw)
            have HNw := hid (HN.out.on kw)
            have XAw := hid (XA.out.below hbel (XA.out.lt (by simp)))
            have RAw := hid (RD3.out.on hbel)
            clear XA RD3
            clear hbel k3
            go_wp2_with fail
            refine (CQ2.out _ _ wr RV.out HNw.out).mono ?_
            rintro _ w4 ⟨A4, c4, B4, d4, rfl, o1, o2, hb4⟩
            have k4 := kw.trans (hb4.mono kw.size)
            have RB4 := hid (HRB.out _ w4 A4 B4 c4 d4 o1 o2)
            clear o1 o2 HRB
            have g4 := qu_grow w4 (.cells #[.int .i64 2, .int .i64 (S.length : Int), .slice none 0 0, .slice none 0 0, .int .i64 (M : Int), .int .i64 wide, .slice A4 S.length c4, .slice B4 S.length d4] 37)
            have n4 : BoxL (w4.alloc (.cells #[.int .i64 2, .int .i64 (S.length : Int), .slice none 0 0, .slice none 0 0, .int .i64 (M : Int), .int .i64 wide, .slice A4 S.length c4, .slice B4 S.length d4] 37)) w4.heap.size [.int .i64 2, .int .i64 (S.length : Int), .slice none 0 0, .slice none 0 0, .int .i64 (M : Int), .int .i64 wide, .slice A4 S.length c4, .slice B4 S.length d4] := BoxL.new w4 [.int .i64 2, .int .i64 (S.length : Int), .slice none 0 0, .slice none 0 0, .int .i64 (M : Int), .int .i64 wide, .slice A4 S.length c4, .slice B4 S.length d4] 37
            obtain ⟨w5, hw5⟩ : ∃ wn, w4.alloc (.cells #[.int .i64 2, .int .i64 (S.length : Int), .slice none 0 0, .slice none 0 0, .int .i64 (M : Int), .int .i64 wide, .slice A4 S.length c4, .slice B4 S.length d4] 37) = wn := ⟨_, rfl⟩
            rw [hw5] at g4 n4
            have k5 := k4.trans (g4.mono k4.size)
            have HV5 := hid ((HVw.out.on hb4).on g4)
            have HN5 := hid ((HNw.out.on hb4).on g4)
            have RV5 := hid ((RV.out.on hb4).on g4)
            have XA5 := hid ((XAw.out.below hb4 (XAw.out.lt (by simp))).below g4 (by have := XAw.out.lt (by simp); have := hb4.size; omega))
            have RA5 := hid ((RAw.out.on hb4).on g4)
            have RB5 := hid (RB4.out.on g4)
            have XB5 := hid n4
            clear n4 XAw RAw RB4
            clear hb4 g4 k4 kw HVw HNw RV CQ2
            go_upto_region 14 with fail
            try rw [hw5]
            clear hw5
            go_wp2_with (at_builtin; (refine wpList_app (Value.int .i64) (fun _ => rfl) _ rfl _ _ 32 rfl w5.heap.size 2 (.int .i64 0) 8 Try.underlying32 info_i64 rfl [] none 0 rfl (own_nil _ _ _) v Av cv w5.heap.size rfl HV5.out (by simp [maxLen]; omega) (by simp; omega) (Nat.le_refl _) ?_))
            rintro Q A6 c6 w6 hQ ho6 hb6 _
            obtain rfl : v = Q := hQ.symm
            have HO6 := hid ho6
            have RV6 := hid (RV5.out.on hb6)
            clear ho6 RV5
            go_wp2_with (at_builtin; refine wpList_app (Value.int .i64) (fun _ => rfl) _ rfl _ _ 32 rfl w5.heap.size 2 (.int .i64 0) 8 Try.underlying32 info_i64 rfl v A6 c6 rfl HO6.out S A3 c3 w6.heap.size rfl RV6.out (by unfold maxLen; omega) (by omega) hb6.size ?_)
            rintro Q A7 c7 w7 hQ ho7 hb7 _
            obtain rfl : U = Q := by rw [hQ, ← HU.out]
            have RU := hid (own_rd ho7)
            have b57 := hb6.trans hb7
            have k7 := k5.trans (b57.mono k5.size)
            have HV7 := hid (HV5.out.on b57)
            have HN7 := hid (HN5.out.on b57)
            have XA7 := hid (XA5.out.below b57 (XA5.out.lt (by simp)))
            have RA7 := hid (RA5.out.on b57)
            have RB7 := hid (RB5.out.on b57)
            have XB7 := hid (XB5.out.below b57 (XB5.out.lt (by simp)))
            clear XA5 RA5 RB5 XB5
            clear hQ ho7 HO6 hb6 hb7 b57 HV5 HN5 RV6 k5
            go_wp2_with fail
            rw [HN2.out]
            refine (CQ3.out _ _ w7 RU.out HN7.out).mono ?_
            rintro _ w8 ⟨A8, c8, B8, d8, rfl, o1, o2, hb8⟩
            have k8 := k7.trans (hb8.mono k7.size)
            have RC8 := hid (HRC.out _ w8 A8 B8 c8 d8 o1 o2)
            clear o1 o2 HRC
            have g8 := qu_grow w8 (.cells #[.int .i64 2, .int .i64 (N2 : Int), .slice none 0 0, .slice none 0 0, .int .i64 (M : Int), .int .i64 wide, .slice A8 N2 c8, .slice B8 N2 d8] 37)
            have n8 : BoxL (w8.alloc (.cells #[.int .i64 2, .int .i64 (N2 : Int), .slice none 0 0, .slice none 0 0, .int .i64 (M : Int), .int .i64 wide, .slice A8 N2 c8, .slice B8 N2 d8] 37)) w8.heap.size [.int .i64 2, .int .i64 (N2 : Int), .slice none 0 0, .slice none 0 0, .int .i64 (M : Int), .int .i64 wide, .slice A8 N2 c8, .slice B8 N2 d8] := BoxL.new w8 [.int .i64 2, .int .i64 (N2 : Int), .slice none 0 0, .slice none 0 0, .int .i64 (M : Int), .int .i64 wide, .slice A8 N2 c8, .slice B8 N2 d8] 37
            obtain ⟨w9, hw9⟩ : ∃ wn, w8.alloc (.cells #[.int .i64 2, .int .i64 (N2 : Int), .slice none 0 0, .slice none 0 0, .int .i64 (M : Int), .int .i64 wide, .slice A8 N2 c8, .slice B8 N2 d8] 37) = wn := ⟨_, rfl⟩
            rw [hw9] at g8 n8
            have k9 := k8.trans (g8.mono k8.size)
            have HV9 := hid ((HV7.out.on hb8).on g8)
            have XA9 := hid ((XA7.out.below hb8 (XA7.out.lt (by simp))).below g8 (by have := XA7.out.lt (by simp); have := hb8.size; omega))
            have RA9 := hid ((RA7.out.on hb8).on g8)
            have RB9 := hid ((RB7.out.on hb8).on g8)
            have XB9 := hid ((XB7.out.below hb8 (XB7.out.lt (by simp))).below g8 (by have := XB7.out.lt (by simp); have := hb8.size; omega))
            have RC9 := hid (RC8.out.on g8)
            have XC9 := hid n8
            clear n8 XA7 RA7 RB7 XB7 RC8
            clear hb8 g8 k8 k7 HV7 HN7 RU CQ3
            go_upto_region 15 with fail
            try rw [hw9]
            clear hw9
            obtain ⟨⟨p0, p1, p2, p3, p4, p5, p6, p7⟩, _⟩ := XA9.out.eight
            obtain ⟨⟨q0, q1, q2, q3, q4, q5, q6, q7⟩, _⟩ := XB9.out.eight
            obtain ⟨⟨r0, r1, r2, r3, r4, r5, r6, r7⟩, _⟩ := XC9.out.eight
            have i2 : (2 : Int) * (v.length : Int) = (N2 : Int) := by have := LU.out; omega
            have i3 : ((S.length : Int) != (v.length : Int)) = false := bne_eq_false_iff_eq.2 (by have := LS.out; omega)
            have i4 : (S.length != v.length) = false := bne_eq_false_iff_eq.2 LS.out
            have i5 : ((N2 : Int) != (N2 : Int)) = false := by simp
            go_wp2_with fail
            clear p0 p1 p2 p3 p4 p5 p6 p7 q0 q1 q2 q3 q4 q5 q6 q7 r0 r1 r2 r3 r4 r5 r6 r7 i2 i3 i4 i5

            go_loopw [19, 20, 148] (fun x19 x20 i wt => ∃ j : Nat, j ≤ v.length ∧ i = .int .i64 j ∧ ∃ n, wt = w9.drewN n) (fun _ _ i _ => v.length - (intOf i).toNat)
            case atStart => exact ⟨0, by omega, rfl, 0, rfl⟩
            case round =>
              obtain ⟨k, hk, rfl, m, rfl⟩ := hrel
              have kd := belowN w9.heap.size w9 m
              have kz := k9.trans (kd.mono k9.size)
              by_cases hlt : k < v.length
              · obtain ⟨b1, o1, x, rfl, l1, ex, d1⟩ := HV9.out.at_ hlt
                obtain ⟨la, z, zt, q1, q2, q3, q4, q5, q6, q7⟩ := HK.out k x ex
                obtain ⟨b2, o2, y2, rfl, l2, ey2, d2⟩ := RA9.out.2.2.1.at_ (List.getElem?_eq_some_iff.1 q1).1
                obtain rfl : (la : Int) = y2 := by rw [q1] at ey2; injection ey2
                obtain ⟨b3, o3, y3, rfl, l3, ey3, d3⟩ := RB9.out.2.2.1.at_ (List.getElem?_eq_some_iff.1 q2).1
                obtain rfl : (la : Int) = y3 := by rw [q2] at ey3; injection ey3
                obtain ⟨b4, o4, y4, rfl, l4, ey4, d4⟩ := RC9.out.2.2.1.at_ (List.getElem?_eq_some_iff.1 q3).1
                obtain rfl : (la : Int) = y4 := by rw [q3] at ey4; injection ey4
                obtain ⟨b5, o5, y5, rfl, l5, ey5, d5⟩ := RA9.out.2.2.2.at_ (List.getElem?_eq_some_iff.1 q4).1
                obtain rfl : z = y5 := by rw [q4] at ey5; injection ey5
                obtain ⟨b6, o6, y6, rfl, l6, ey6, d6⟩ := RB9.out.2.2.2.at_ (List.getElem?_eq_some_iff.1 q5).1
                obtain rfl : zt = y6 := by rw [q5] at ey6; injection ey6
                obtain ⟨b7, o7, y7, rfl, l7, ey7, d7⟩ := RC9.out.2.2.2.at_ (List.getElem?_eq_some_iff.1 q6).1
                obtain rfl : z = y7 := by rw [q6] at ey7; injection ey7
                have hkS : k < S.length := by rw [LS.out]; exact hlt
                have hkN : k < N2 := by have := LU.out; omega
                have a6 := (XA9.out 6 _ rfl).1
                have a7 := (XA9.out 7 _ rfl).1
                have p6 := (XB9.out 6 _ rfl).1
                have p7 := (XB9.out 7 _ rfl).1
                have r6 := (XC9.out 6 _ rfl).1
                have r7 := (XC9.out 7 _ rfl).1
                have tl : ((la : Int) != (la : Int)) = false := by simp
                have tz : (z != z) = false := by simp
                by_cases hx0 : x = 0
                · have t0 : (x != 0) = false := bne_eq_false_iff_eq.2 hx0
                  clear ex ey2 ey3 ey4 ey5 ey6 ey7 q1 q2 q3 q4 q5 q6 q7 hx0
                  go_wp2_with fail
                  go_quiet (fail)
                  go_wp2_with fail
                  go_roundw
                  case rel => exact ⟨k + 1, by omega, by go_num, _, rfl⟩
                  case measure => simp [intOf]; omega
                · have t0 : (x != 0) = true := bne_iff_ne.2 hx0
                  have t1 : (z == zt) = false := beq_eq_false_iff_ne.2 (q7 hx0)
                  clear ex ey2 ey3 ey4 ey5 ey6 ey7 q1 q2 q3 q4 q5 q6 q7 hx0
                  go_wp2_with fail
                  go_quiet (fail)
                  go_wp2_with fail
                  go_roundw
                  case rel => exact ⟨k + 1, by omega, by go_num, _, rfl⟩
                  case measure => simp [intOf]; omega
              · go_wp2_with fail
                go_ret
                exact ⟨rfl, kz⟩
      · have q1 := ht.1
        have q2 := ht.2.1
        have CQ1 := hid (fun W h1 h2 => (CP.out v uv hv Av cv W h1 h2).mono fun e w' => sl_none hE)
        have CQ2 := hid (fun A c W h1 h2 => (CP.out V uV (by omega) A c W h1 h2).mono fun e w' => sl_none (by rw [q1]; exact hE))
        have CQ3 := hid (fun A c W h1 h2 => (CP.out U uU (by omega) A c W h1 h2).mono fun e w' => sl_none (by rw [q2]; exact hE))
        rw [q1] at CQ2
        rw [q2] at CQ3
        obtain ⟨E, hEE⟩ : ∃ E, prqE v wide = E := ⟨_, rfl⟩
        rw [hEE] at CQ1 CQ2 CQ3 hE
        rw [hN2] at CQ3
        have hne : (E != 0) = true := by simpa using hE
        have hee : (E != E) = false := by simp
        have HU := hid hU
        have HN2 := hid hN2
        have LS := hid lV
        have LU := hid lU
        have hN4 : N2 ≤ 400 := by omega
        clear hf hE hEE CP uv rv rn un hw hs hs2 ht hm q1 q2 hV hU lV uV uU hN2 lU
        go_enter Try.func8, Try.ntmps8
        go_wp2_with fail
        refine (qu_live _).mono ?_
        rintro _ w1 ⟨rfl, k1⟩
        go_wp2_with fail
        refine (CF.out w1).mono ?_
        rintro _ _ ⟨rfl, rfl⟩
        clear CF
        go_wp2_with fail
        refine (CQ1.out w1 (HV.out.on k1) (HN.out.on k1)).mono ?_
        rintro _ w2 ⟨A2, c2, B2, d2, rfl, hb2⟩
        have k2 := k1.trans (hb2.mono k1.size)
        have k3 := k2.trans ((qu_grow w2 (.cells #[.int .i64 0, .int .i64 0, .slice none 0 0, .slice none 0 0, .int .i64 0, .int .i64 0, .slice A2 0 c2, .slice B2 0 d2] 37)).mono k2.size)
        obtain ⟨w3, hw3⟩ : ∃ w3, w2.alloc (.cells #[.int .i64 0, .int .i64 0, .slice none 0 0, .slice none 0 0, .int .i64 0, .int .i64 0, .slice A2 0 c2, .slice B2 0 d2] 37) = w3 := ⟨_, rfl⟩
        rw [hw3] at k3
        clear hb2 CQ1 k1 k2
        go_wp2_with fail
        clear hw3
        go_loopw [12, 14, 44] (fun x12 x14 i wr => ∃ (j : Nat) (S : List Int) (A2 : Option Addr) (c2 : Nat), j ≤ v.length ∧ i = .int .i64 j ∧ x12 = .slice A2 S.length c2 ∧ S = ngL (v.take j) ∧ wr.ownsRow w3.heap.size 2 1 (.slice A2 S.length c2) S.length (S.map (Value.int .i64)) ∧ Below w3.heap.size w3 wr) (fun _ _ i _ => v.length - (intOf i).toNat)
        case atStart => exact ⟨0, [], none, 0, by omega, rfl, rfl, HT0.out.symm, own_nil _ _ _, Below.refl _ _⟩
        case round =>
          obtain ⟨j, S, A3, c3, hj, rfl, rfl, hS, ho, hbel⟩ := hrel
          have HS := hid hS
          have HO := hid ho
          have hSl : S.length ≤ 200 := by rw [hS]; exact HTL.out j
          have kw := k3.trans (hbel.mono k3.size)
          clear hS ho
          by_cases hlt : j < v.length
          · obtain ⟨b1, o1, x, rfl, l1, ex, d1⟩ := (HV.out.on kw).at_ hlt
            have HSJ := hid (HSN.out j x ex)
            obtain ⟨z, hz⟩ : ∃ z, ngW x = z := ⟨_, rfl⟩
            rw [hz] at HSJ
            have hz1 : wrap64 (-x) = z := hz
            have hz2 : IntKind.i64.wrap (-x) = z := by rw [← hz1, IntKind.wrap_i64, wrap64_eq]
            have hr0 : Rd (Value.int .i64) (wr.alloc (.cells #[.int .i64 z] 2)) _ (some ⟨wr.heap.size, 0, none⟩) [z] := rd_one (one_cell wr (.int .i64 z) 2).1
            have hz0 := (one_cell wr (.int .i64 z) 2).2
            have h0' := own_on HO.out hz0
            clear ex hz
            go_wp2_with (at_builtin; refine wpList_app (Value.int .i64) (fun _ => rfl) _ rfl _ _ 32 rfl w3.heap.size 2 (.int .i64 0) 8 Try.underlying32 info_i64 rfl S A3 c3 rfl h0' [z] _ 1 _ rfl hr0 (by simp [maxLen]; omega) (by simp; omega) (by have := hbel.size; simp; omega) ?_)
            rintro S' A' c' w4 hS' ho4 hb4 _
            have HO4 := hid ho4
            have HEQ := hid hS'
            clear hS' ho4 h0' hr0 hz1 hz2
            go_wp2_with fail
            go_roundw
            case rel => exact ⟨j + 1, S', A', c', by omega, by go_num, rfl, by rw [HEQ.out, HSJ.out, HS.out], HO4.out, (hbel.alloc hbel.size _).trans hb4⟩
            case measure => simp [intOf]; omega
          · have hje : j = v.length := by omega
            have hSe : S = V := by rw [HS.out, hje]; exact HNE.out
            subst hSe
            have RV := hid (own_rd HO.out)
            clear HS HO HSN HNE HTL HT0 hje
            have HVw := hid (HV.out.on kw)
            have HNw := hid (HN.out.on kw)
            clear hbel k3
            go_wp2_with fail
            refine (CQ2.out _ _ wr RV.out HNw.out).mono ?_
            rintro _ w4 ⟨A4, c4, B4, d4, rfl, hb4⟩
            have k4 := kw.trans (hb4.mono kw.size)
            have g4 := qu_grow w4 (.cells #[.int .i64 0, .int .i64 0, .slice none 0 0, .slice none 0 0, .int .i64 0, .int .i64 0, .slice A4 0 c4, .slice B4 0 d4] 37)
            have n4 : BoxL (w4.alloc (.cells #[.int .i64 0, .int .i64 0, .slice none 0 0, .slice none 0 0, .int .i64 0, .int .i64 0, .slice A4 0 c4, .slice B4 0 d4] 37)) w4.heap.size [.int .i64 0, .int .i64 0, .slice none 0 0, .slice none 0 0, .int .i64 0, .int .i64 0, .slice A4 0 c4, .slice B4 0 d4] := BoxL.new w4 [.int .i64 0, .int .i64 0, .slice none 0 0, .slice none 0 0, .int .i64 0, .int .i64 0, .slice A4 0 c4, .slice B4 0 d4] 37
            obtain ⟨w5, hw5⟩ : ∃ wn, w4.alloc (.cells #[.int .i64 0, .int .i64 0, .slice none 0 0, .slice none 0 0, .int .i64 0, .int .i64 0, .slice A4 0 c4, .slice B4 0 d4] 37) = wn := ⟨_, rfl⟩
            rw [hw5] at g4 n4
            have k5 := k4.trans (g4.mono k4.size)
            have HV5 := hid ((HVw.out.on hb4).on g4)
            have HN5 := hid ((HNw.out.on hb4).on g4)
            have RV5 := hid ((RV.out.on hb4).on g4)
            clear hb4 g4 k4 kw HVw HNw RV CQ2
            go_upto_region 14 with fail
            try rw [hw5]
            clear hw5
            go_wp2_with (at_builtin; (refine wpList_app (Value.int .i64) (fun _ => rfl) _ rfl _ _ 32 rfl w5.heap.size 2 (.int .i64 0) 8 Try.underlying32 info_i64 rfl [] none 0 rfl (own_nil _ _ _) v Av cv w5.heap.size rfl HV5.out (by simp [maxLen]; omega) (by simp; omega) (Nat.le_refl _) ?_))
            rintro Q A6 c6 w6 hQ ho6 hb6 _
            obtain rfl : v = Q := hQ.symm
            have HO6 := hid ho6
            have RV6 := hid (RV5.out.on hb6)
            clear ho6 RV5
            go_wp2_with (at_builtin; refine wpList_app (Value.int .i64) (fun _ => rfl) _ rfl _ _ 32 rfl w5.heap.size 2 (.int .i64 0) 8 Try.underlying32 info_i64 rfl v A6 c6 rfl HO6.out S A3 c3 w6.heap.size rfl RV6.out (by unfold maxLen; omega) (by omega) hb6.size ?_)
            rintro Q A7 c7 w7 hQ ho7 hb7 _
            obtain rfl : U = Q := by rw [hQ, ← HU.out]
            have RU := hid (own_rd ho7)
            have b57 := hb6.trans hb7
            have k7 := k5.trans (b57.mono k5.size)
            have HV7 := hid (HV5.out.on b57)
            have HN7 := hid (HN5.out.on b57)
            clear hQ ho7 HO6 hb6 hb7 b57 HV5 HN5 RV6 k5
            go_wp2_with fail
            rw [HN2.out]
            refine (CQ3.out _ _ w7 RU.out HN7.out).mono ?_
            rintro _ w8 ⟨A8, c8, B8, d8, rfl, hb8⟩
            have k8 := k7.trans (hb8.mono k7.size)
            have g8 := qu_grow w8 (.cells #[.int .i64 0, .int .i64 0, .slice none 0 0, .slice none 0 0, .int .i64 0, .int .i64 0, .slice A8 0 c8, .slice B8 0 d8] 37)
            have n8 : BoxL (w8.alloc (.cells #[.int .i64 0, .int .i64 0, .slice none 0 0, .slice none 0 0, .int .i64 0, .int .i64 0, .slice A8 0 c8, .slice B8 0 d8] 37)) w8.heap.size [.int .i64 0, .int .i64 0, .slice none 0 0, .slice none 0 0, .int .i64 0, .int .i64 0, .slice A8 0 c8, .slice B8 0 d8] := BoxL.new w8 [.int .i64 0, .int .i64 0, .slice none 0 0, .slice none 0 0, .int .i64 0, .int .i64 0, .slice A8 0 c8, .slice B8 0 d8] 37
            obtain ⟨w9, hw9⟩ : ∃ wn, w8.alloc (.cells #[.int .i64 0, .int .i64 0, .slice none 0 0, .slice none 0 0, .int .i64 0, .int .i64 0, .slice A8 0 c8, .slice B8 0 d8] 37) = wn := ⟨_, rfl⟩
            rw [hw9] at g8 n8
            have k9 := k8.trans (g8.mono k8.size)
            have HV9 := hid ((HV7.out.on hb8).on g8)
            clear hb8 g8 k8 k7 HV7 HN7 RU CQ3
            go_upto_region 15 with fail
            try rw [hw9]
            clear hw9
            clear n4 n8
            go_wp2_with fail
            go_ret
            exact ⟨rfl, k9⟩
    · have hgt : (v.length : Int) > 200 := by omega
      clear hf hl2 uv hw hs rn un rv
      go_enter Try.func8, Try.ntmps8
      go_wp2_with fail
      refine (qu_live _).mono ?_
      rintro _ w1 ⟨rfl, k1⟩
      go_wp2_with fail
      refine (CF.out w1).mono ?_
      rintro _ _ ⟨rfl, rfl⟩
      clear CF
      go_wp2_with fail
      go_ret
      exact ⟨rfl, k1⟩
  · rw [Bool.eq_false_iff.2 hf] at CF
    clear hf rv uv hw hs rn un
    go_enter Try.func8, Try.ntmps8
    go_wp2_with fail
    refine (qu_live _).mono ?_
    rintro _ w1 ⟨rfl, k1⟩
    go_wp2_with fail
    refine (CF.out w1).mono ?_
    rintro _ _ ⟨rfl, rfl⟩
    clear CF
    go_wp2_with fail
    go_ret
    exact ⟨rfl, k1⟩
theorem law_types : ∀ t ∈ Try.f8.params.toList, Try.prog.readableRec t = true ∧ t < Try.prog.types.size := by
  have h : (Try.f8.params.toList.all fun t => Try.prog.readableRec t && decide (t < Try.prog.types.size)) = true := by kernel_rfl
  intro t ht
  simpa using List.all_eq_true.1 h t ht
set_option maxRecDepth 100000 in
theorem lifted (os : Os) (started : os.Started) (H : Type) (enc : TypeId × Value → H) :
    ReturnsInHanded {} Try.checked os 8 .any (Rows.quantTurnedSpec.pre6 enc Try.prog Try.f8 Rows.quantTurnedRow.domain false) (Rows.quantTurnedSpec.post enc Try.prog Try.f8 false true false false) := by
  refine returnsInHanded_of_change (C := Try.checked) own started (by kernel_rfl) Try.func8
    (ChangeSpec.witness6 (enc := enc) (C := Try.checked) false ⟨#[], #[.slice none 0 0, .int .i64 0, .int .u64 0, .slice none 0 0], []⟩ 8 (by kernel_rfl) (by kernel_rfl) (by kernel_rfl) (by kernel_rfl)) ?_
  intro W base args ds gs before hval0 hW hcnd _
  have hval : ∀ (j : Nat) t v, Try.f8.params[j]? = some t → args[j]? = some v → Value.okWide Try.prog W .any base t v := hval0
  have hW' := hW
  obtain ⟨p, q, hA0, hV, rfl, hfz, hnd⟩ := hW
  have hA : DataW.TrodAll enc Try.prog W 0 (fun _ => true) true Try.f8.params.toList args.toList ds p := hA0
  rw [Try.params8] at hA hval
  obtain ⟨v0, vs0, d0, ds0, p0, q0, hargs, rfl, rfl, h0, r0⟩ := trodAll_cons hA
  obtain ⟨v1, vs1, d1, ds1, p1, q1, rfl, rfl, rfl, h1, r1⟩ := trodAll_cons r0
  obtain ⟨v2, vs2, d2, ds2, p2, q2, rfl, rfl, rfl, h2, r2⟩ := trodAll_cons r1
  obtain ⟨v3, vs3, d3, ds3, p3, q3, rfl, rfl, rfl, h3, r3⟩ := trodAll_cons r2
  obtain ⟨rfl, rfl, rfl⟩ := trodAll_nil r3
  obtain rfl : args = #[v0, v1, v2, v3] := by cases args; simp_all
  obtain ⟨rfl, rfl⟩ := trodVars_none hV
  obtain ⟨Av, v, cv, rfl, rdv, iv, lcv, lmv⟩ := open_nums Try.underlying32 Try.underlying2 cells_i64' (hval 0 32 v0 rfl rfl) h0
  obtain ⟨wide, rfl, rfl, rfl, w1⟩ := open_int Try.underlying3 (hval 1 3 v1 rfl rfl) h1
  obtain ⟨seed, rfl, rfl, rfl, w2⟩ := open_int Try.underlying22 (hval 2 22 v2 rfl rfl) h2
  obtain ⟨Al, l, cl, rfl, rdl, il, lcl, lml⟩ := open_nums Try.underlying33 Try.underlying3 cells_int (hval 3 33 v3 rfl rfl) h3
  clear hA0 hval0
  refine (walk Av v cv wide seed Al l cl W rdv (fun x hx => I64.of_wf (iv x hx)) lcv lmv (I64.of_wf w1) (U64.of_wf w2) rdl (fun x hx => I64.of_wf (il x hx)) lcl lml).mono fun e W' ⟨he, hb⟩ => ?_
  subst he
  exact ⟨_, rfl, law_post laid (fun t ht => law_types t ht) rfl hW' ⟨rfl, rfl, rfl⟩ (by kernel_rfl) Try.underlying4 hb⟩

theorem over : Rows.quantTurnedRow.holds Try.pinned (OpenSpec.ofChange Rows.quantTurnedSpec) :=
  OpenClaim.holds_of_wide 8 Try.f8 rfl rfl rfl rfl rfl rfl rfl ⟨rfl, rfl, rfl, rfl, rfl⟩ rfl rfl rfl rfl rfl (by kernel_rfl) Try.func8 (by kernel_rfl)
    (of_decide_eq_true (by kernel_rfl)) (by unfold Func.isWrapper; first | (rw [if_pos (by decide +kernel)]; kernel_rfl) | (rw [if_neg (by decide +kernel)]; exact ⟨rfl, rfl⟩))
    (fun os started H enc _ => lifted os started H enc)

theorem proved : Rows.QuantTurnedSaid := over
end Go.Proofs.Ytbkoapdeglmopaa.QuantTurned
