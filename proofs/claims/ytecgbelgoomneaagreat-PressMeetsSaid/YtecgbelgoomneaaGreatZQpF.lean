
/- ZQpF: texts joined: QpF. -/
import Derived.Test.YtecgbelgoomneaaGreatZf
import Derived.Test.YtecgbelgoomneaaGreatZc
import Derived.BigRegion
/- Pressed to levels, by the program. -/
namespace Go.Proofs.YtecgbelgoomneaaGreat
open Go.RowKit
set_option maxHeartbeats 1000000
set_option maxRecDepth 100000
set_option linter.unusedVariables false
theorem lvlL_le9 (n scale wide : Int) : lvlL n scale wide ≤ 255 := by
  unfold lvlL
  split
  · rename_i h
    obtain ⟨h1, h2, h3⟩ := lvlE_ok.1 h
    exact Nat.le_trans (lvQ_le (by omega) _) (topQ_bd h1).2
  · omega
theorem lvlR_lt9 {n scale wide : Int} (hs : scale ≤ 9223372036854775807) : lvlR n scale wide ≤ 9223372036854775807 := by
  unfold lvlR
  split
  · rename_i h
    obtain ⟨h1, h2, h3⟩ := lvlE_ok.1 h
    rcases Nat.eq_zero_or_pos scale.toNat with e | e
    · rw [show szN n = 0 by omega, e, (lvQ_none _).2]; omega
    · exact Nat.le_trans (Nat.le_of_lt (rsQ_lt e)) (by omega)
  · omega
theorem plQ_cha {x scale wide : Int} {seed : Nat} {n : List Int} {i : Nat} (h : lvlE x scale wide = 0) :
    plQ scale wide seed n i x = if chaB (lvlR x scale wide) scale.toNat seed (n ++ [(i : Int)]) = true then lvlL x scale wide + 1 else lvlL x scale wide := by
  have hb : (chaB (lvlR x scale wide) scale.toNat seed (n ++ [(i : Int)]) = true) ↔ (0 < lvlR x scale wide ∧ belV scale.toNat seed (n ++ [(i : Int)]) < lvlR x scale wide) := by
    obtain ⟨h1, h2, h3⟩ := lvlE_ok.1 h
    have hr : lvlR x scale wide = szN x * topQ wide % scale.toNat := if_pos h
    rcases Nat.eq_zero_or_pos scale.toNat with h0 | h0
    · have hz : szN x = 0 := by omega
      have hr0 : lvlR x scale wide = 0 := by rw [hr, hz]; simp
      rw [hr0]
      unfold chaB
      rw [if_pos (.inl h0)]
      simp
    · have hlt : lvlR x scale wide < scale.toNat := by rw [hr]; exact Nat.mod_lt _ h0
      unfold chaB belV
      rw [if_neg (by omega), if_neg (by omega), decide_eq_true_iff]
      constructor
      · intro h4; exact ⟨by omega, h4⟩
      · intro h4; exact h4.2
  unfold plQ
  by_cases hc : 0 < lvlR x scale wide ∧ belV scale.toNat seed (n ++ [(i : Int)]) < lvlR x scale wide
  · rw [if_pos hc, if_pos (hb.2 hc)]
  · rw [if_neg hc, if_neg (fun h5 => hc (hb.1 h5))]
theorem own_levs {w' : World} {b B N : Nat} {e : TypeId} {f : Nat → Int} {L : List Int} (h : w'.rowIs b e N (fun j => .int .u64 (f j))) (hB : B ≤ b) (hM : N ≤ 4096) (hL : L = (List.range N).map f) :
    w'.ownsRow B e 1 (.slice (some ⟨b, 0, none⟩) L.length N) L.length (L.map (Value.int .u64)) := by
  have h2 := own_made (w' := w') h hB (by unfold maxLen; omega)
  subst hL
  rw [List.length_map, List.length_range, List.map_map]
  exact h2
theorem own_sgns {w' : World} {b B N : Nat} {e : TypeId} {f : Nat → Bool} {L : List Bool} (h : w'.rowIs b e N (fun j => .bool (f j))) (hB : B ≤ b) (hM : N ≤ 4096) (hL : L = (List.range N).map f) :
    w'.ownsRow B e 1 (.slice (some ⟨b, 0, none⟩) L.length N) L.length (L.map Value.bool) := by
  have h2 := own_made (w' := w') h hB (by unfold maxLen; omega)
  subst hL
  rw [List.length_map, List.length_range, List.map_map]
  exact h2
set_option maxHeartbeats 16000000 in
theorem qp_Press {A B : Option Addr} {c d : Nat} (v : List Int) (uv : ∀ x ∈ v, I64 x) (hl : v.length ≤ 9223372036854775807) (wide : Int) (hw : I64 wide) (s : Nat) (hs : s < 2 ^ 64) (n : List Int) (un : ∀ x ∈ n, I64 x) (hn : n.length ≤ 1000) (w : World) (ra : Rd (Value.int .i64) w w.heap.size A v) (rb : Rd (Value.int .i64) w w.heap.size B n) :
    Calls Tryz.prog 121 #[.slice A v.length c, .int .i64 wide, .int .u64 (s : Int), .slice B n.length d] w (OwnSl w.heap.size (prqS v wide s n) (prqE v wide) w) := by
  have C1 := hid (fun W => qp_Steps wide hw W)
  have C2 := hid (fun W (h : Below w.heap.size w W) => Most_any (A := A) (c := c) v hl uv W (ra.on h))
  by_cases h1 : stsE wide = 0
  · rw [h1] at C1
    by_cases h0 : v = []
    · have he : prqE v wide = 1 := if_pos (.inr h0)
      have hS : prqS v wide s n = zeroS := if_neg (by rw [he]; decide)
      rw [he, hS]
      subst h0
      clear he hS ra rb uv un hl C2
      go_enter Tryz.func121, Tryz.ntmps121
      go_wp2_with fail
      refine (C1.out _).mono ?_
      rintro _ _ ⟨rfl, rfl⟩
      go_wp2_with fail
      refine bodyPost_ret (v := .tuple #[encT zeroS zeroP, .int .i64 1]) (by simp [results, Tryz.results121, go_sem, zeroS, zeroP]) rfl ⟨none, 0, none, 0, rfl, rfl, rfl, own_nil _ _ _, own_nil _ _ _, apt_none _, by go_grown⟩
    · have h0' : ¬ v.length = 0 := fun h => h0 (List.length_eq_zero_iff.1 h)
      have t1 : ((v.length : Int) == 0) = false := beq_eq_false_iff_ne.2 (by omega)
      have t2 : (v.length == 0) = false := beq_eq_false_iff_ne.2 h0'
      have hp : prqE v wide = mostE v := if_neg (by rw [h1]; simp [h0])
      by_cases hm : mostE v = 0
      · have hS : prqS v wide s n = ⟨2, v.length, [], [], mostV v, wide, levQ v wide s n v.length, negQ v v.length⟩ := if_pos (hp.trans hm)
        rw [hp, hS, hm]
        rw [hm] at C2
        obtain ⟨m1, m2, m3, m4, _⟩ := mostq_ok hm
        have CL := hid (fun x (hx : x ∈ v) W => qp_levelOf x (mostV v) wide (uv x hx) (most_i64 v) hw W)
        have HLL := hid (fun x (hx : x ∈ v) => lvlL_le9 x (mostV v) wide)
        have HLR := hid (fun x (hx : x ∈ v) => lvlR_lt9 (n := x) (wide := wide) m3)
        have HPQ := hid (fun (i : Nat) (x : Int) (hx : x ∈ v) => plQ_cha (seed := s) (n := n) (i := i) (lvlE_most hm h1 hx))
        obtain ⟨PQ, hPQ⟩ : ∃ f : Nat → Int, (fun i => (plQ (mostV v) wide s n i (v.getD i 0) : Int)) = f := ⟨_, rfl⟩
        obtain ⟨SG, hSG⟩ : ∃ f : Nat → Bool, (fun i => decide (v.getD i 0 < 0)) = f := ⟨_, rfl⟩
        have HP1 := hid (fun (i : Nat) (x : Int) (hx : v[i]? = some x) => show PQ i = (plQ (mostV v) wide s n i x : Int) by rw [← hPQ]; simp only; rw [getD_of hx])
        have HS1 := hid (fun (i : Nat) (x : Int) (hx : v[i]? = some x) => show SG i = decide (x < 0) by rw [← hSG]; simp only; rw [getD_of hx])
        have HLV : Hid (levQ v wide s n v.length = (List.range v.length).map PQ) := hid (by rw [← hPQ]; rfl)
        have HNG : Hid (negQ v v.length = (List.range v.length).map SG) := hid (by rw [← hSG]; rfl)
        obtain ⟨M, hM⟩ := Int.eq_ofNat_of_zero_le m2
        rw [hM] at C2 CL HPQ HLR m3 HP1 HLL ⊢
        rw [Int.toNat_natCast] at HPQ
        obtain ⟨LV, hLV⟩ : ∃ L, levQ v wide s n v.length = L := ⟨_, rfl⟩
        obtain ⟨NG, hNG⟩ : ∃ L, negQ v v.length = L := ⟨_, rfl⟩
        rw [hLV] at HLV ⊢
        rw [hNG] at HNG ⊢
        have CH := hid (fun W (h : Below w.heap.size w W) => qp_chance (B := B) (d := d) M s n hn W (rb.on h))
        have CX := hid (fun (q g b c9 i r : Nat) (hi : i ≤ 100000) (hr : r ≤ 9223372036854775807) W (K : ChK W q g b c9 M s B d n) => chance_cl i r hi (by omega) (by omega) hs un hn W K)
        have hmkE := fun (N : Nat) (hN : N ≤ 4096) W => run_make_row' (P := Tryz.prog) 29 25 (.int .u64 0) 8 Tryz.underlying29 info_u64 rfl .i64 .i64 N (by omega) (by omega) W
        have hmkB := fun (N : Nat) (hN : N ≤ 4096) W => run_make_row' (P := Tryz.prog) 30 4 (.bool false) 1 Tryz.underlying30 info_bool rfl .i64 .i64 N (by omega) (by omega) W
        have hmkE1 := hmkE v.length m1
        have hmkB1 := hmkB v.length m1
        have RA := hid ra
        clear hmkE hmkB hS hp hm m2 m4 hM h0 h0' ra rb uv un hPQ hSG hLV hNG
        go_enter Tryz.func121, Tryz.ntmps121
        go_wp2_with fail
        have B0 := BoxL.new w [.int .i64 0, .int .i64 0, .slice none 0 0, .slice none 0 0, .int .i64 0, .int .i64 0, .slice none 0 0, .slice none 0 0] 32
        refine (C1.out _).mono ?_
        rintro _ _ ⟨rfl, rfl⟩
        go_wp2_with fail
        refine (C2.out _ (by go_grown)).mono ?_
        rintro _ w1 ⟨rfl, hb⟩
        have HB1 := hid (B0.below hb (by simp))
        have k1 : Below w.heap.size w w1 := Below.trans (by go_grown) (hb.mono (by simp))
        have hg1 : w.heap.size < w1.heap.size := by have := hb.size; simp at this; omega
        clear B0 hb C1 C2
        go_wp2_with fail
        go_region
        all_goals go_wp2_with fail
        · obtain ⟨w2, hw2⟩ : ∃ w2, ((w1.alloc (.cells (madeCells #[.int .u64 0] v.length) 25)).alloc (.cells (madeCells #[.bool false] v.length) 4)).drew = w2 := ⟨_, rfl⟩
          have rE2 : w2.rowIs w1.heap.size 25 v.length (fun _ => .int .u64 0) := by
            rw [← hw2]
            exact ((World.rowIs_made w1 (.int .u64 0) v.length _).alloc _).drew
          have rB2 : w2.rowIs (w1.heap.size + 1) 4 v.length (fun _ => .bool false) := by
            rw [← hw2]
            have h := (World.rowIs_made (w1.alloc (.cells (madeCells #[.int .u64 0] v.length) 25)) (.bool false) v.length 4).drew
            rw [show (w1.alloc (.cells (madeCells #[.int .u64 0] v.length) 25)).heap.size = w1.heap.size + 1 by simp] at h
            exact h
          have z2 : Below w1.heap.size w1 w2 := by
            rw [← hw2]
            exact (((Below.refl _ _).alloc (Nat.le_refl _) _).alloc (by simp) _).drew
          have HZ2 : Hid (w2.heap.size = w1.heap.size + 2) := hid (by rw [← hw2]; simp)
          rw [hw2]
          clear hw2 hmkE1 hmkB1
          refine (CH.out w2 (k1.trans (z2.mono k1.size))).mono ?_
          rintro _ w3 ⟨g, b, c9, rfl, hK3, hb3⟩
          have q0 : Below w1.heap.size w1 w3 := z2.trans (hb3.mono z2.size)
          have rE3 := row_below rE2 hb3 (by have := HZ2.out; omega)
          have rB3 := row_below rB2 hb3 (by have := HZ2.out; omega)
          have HK3 := hid hK3
          have HE3 := hid rE3
          have HB3 := hid rB3
          clear rE2 rB2 z2 CH hb3 hK3 rE3 rB3
          go_wp2_with fail
          go_loopw [17, 18, 19, 20, 56] (fun x17 x18 x19 x20 i wr => ∃ k : Nat, k ≤ v.length ∧ i = .int .i64 k ∧ wr.rowIs w1.heap.size 25 v.length (fun j => .int .u64 (if j < k then PQ j else 0)) ∧ wr.rowIs (w1.heap.size + 1) 4 v.length (fun j => .bool (if j < k then SG j else false)) ∧ ChK wr w2.heap.size g b c9 M s B d n ∧ Below w1.heap.size w1 wr) (fun _ _ _ _ i _ => v.length - (intOf i).toNat)
          case atStart => exact ⟨0, by omega, rfl, by simpa using HE3.out, by simpa using HB3.out, HK3.out, q0⟩
          case round =>
            clear HK3 HE3 HB3 q0
            obtain ⟨k, hk, rfl, hrE, hrB, hK, hbr⟩ := hrel
            have HE := hid hrE
            have HBB := hid hrB
            have HK := hid hK
            clear hrE hrB hK
            by_cases hlt : k < v.length
            · have kw := k1.trans (hbr.mono k1.size)
              obtain ⟨b1, o1, x, rfl, l1, ex, d1⟩ := (RA.out.below kw).at_ hlt
              have hx := List.mem_of_getElem? ex
              have C := hid (CL.out x hx wr)
              have hll := HLL.out x hx
              have hlr := HLR.out x hx
              have hpq := HPQ.out k x hx
              have hp1 := HP1.out k x ex
              have hs1 := HS1.out k x ex
              obtain ⟨l, hl1⟩ : ∃ l, lvlL x (M : Int) wide = l := ⟨_, rfl⟩
              obtain ⟨r, hr1⟩ : ∃ r, lvlR x (M : Int) wide = r := ⟨_, rfl⟩
              rw [hl1, hr1] at C hpq
              rw [hl1] at hll
              rw [hr1] at hlr
              rw [hpq] at hp1
              obtain ⟨u, hu⟩ : ∃ u, chaB r M s (n ++ [(k : Int)]) = u := ⟨_, rfl⟩
              rw [hu] at hp1
              have HU := hid hu
              have HP := hid hp1
              have HS := hid hs1
              clear ex hx hl1 hr1 hpq hp1 hs1 hu
              go_wp2_with fail
              refine C.out.mono ?_
              rintro _ w4 ⟨rfl, hb4⟩
              have hK4 := HK.out.below hb4 HK.out.2.2.1 (Nat.le_refl _)
              have CC := CX.out w2.heap.size g b c9 k r (by omega) hlr w4 hK4
              rw [HU.out] at CC
              have CC := hid CC
              have rE4 := hid (row_below HE.out hb4 HE.out.lt)
              have rB4 := hid (row_below HBB.out hb4 HBB.out.lt)
              have k4 : Below w1.heap.size w1 w4 := hbr.trans (hb4.mono hbr.size)
              clear hK4 hb4 HK HE HBB hbr C
              go_wp2_with fail
              refine CC.out.mono ?_
              rintro _ w5 ⟨rfl, hK5, hb5⟩
              have k5 : Below w1.heap.size w1 w5 := k4.trans (hb5.mono (by have := HZ2.out; omega))
              have rE5 := row_below rE4.out hb5 (by have := HZ2.out; omega)
              have rB5 := row_below rB4.out hb5 (by have := HZ2.out; omega)
              have HK5 := hid hK5
              clear rE4 rB4 k4 hK5 hb5 CC
              cases u with
              | true =>
                obtain ⟨P, hl9⟩ : ∃ P, l + 1 = P := ⟨_, rfl⟩
                have hl2 : (l : Int) + 1 = (P : Int) := by omega
                have HPK : Hid (PQ k = (P : Int)) := hid (by rw [HP.out, ← hl9]; simp)
                have c1 := rE5.cell hlt
                have f1 := rE5.frozen k
                obtain ⟨W6, hW6⟩ : ∃ W, w5.setCell ⟨w1.heap.size, k, none⟩ (.int .u64 (P : Int)) = W := ⟨_, rfl⟩
                have rE6 := rE5.set k (.int .u64 (P : Int))
                rw [hW6] at rE6
                have rB6 := rB5.setOther (a := ⟨w1.heap.size, k, none⟩) (by show (w1.heap.size + 1) ≠ w1.heap.size; omega) (.int .u64 (P : Int))
                rw [hW6] at rB6
                have c2 := rB6.cell hlt
                have f2 := rB6.frozen k
                have K6 : ChK W6 w2.heap.size g b c9 M s B d n := by rw [← hW6]; exact HK5.out.set (by show w1.heap.size < _; have := HZ2.out; omega) _
                have k6 : Below w1.heap.size w1 W6 := by rw [← hW6]; exact k5.setCell (by show _ ≤ w1.heap.size; omega) _
                have HE6 := hid rE6
                have HB6 := hid rB6
                have HK6 := hid K6
                clear rE5 rB5 HK5 k5 rE6 rB6 K6
                go_wp2_with fail
                go_roundw
                case rel =>
                  refine ⟨k + 1, by omega, by go_num, (HE6.out.setOther (by show w1.heap.size ≠ (w1.heap.size + 1); omega) _).congr fun j hj => ?_, (HB6.out.set k _).congr fun j hj => ?_, HK6.out.set (by show (w1.heap.size + 1) < _; have := HZ2.out; omega) _, k6.setCell (by show _ ≤ (w1.heap.size + 1); omega) _⟩
                  · by_cases e : j = k
                    · rw [if_pos e, if_pos (by omega), e, HPK.out]
                    · by_cases e2 : j < k
                      · rw [if_neg e, if_pos e2, if_pos (by omega)]
                      · rw [if_neg e, if_neg e2, if_neg (by omega)]
                  · by_cases e : j = k
                    · rw [if_pos e, if_pos (by omega), e, HS.out]
                    · by_cases e2 : j < k
                      · rw [if_neg e, if_pos e2, if_pos (by omega)]
                      · rw [if_neg e, if_neg e2, if_neg (by omega)]
                case measure => simp [intOf]; omega
              | false =>
                have HPK : Hid (PQ k = (l : Int)) := hid (by rw [HP.out]; simp)
                have c1 := rE5.cell hlt
                have f1 := rE5.frozen k
                obtain ⟨W6, hW6⟩ : ∃ W, w5.setCell ⟨w1.heap.size, k, none⟩ (.int .u64 (l : Int)) = W := ⟨_, rfl⟩
                have rE6 := rE5.set k (.int .u64 (l : Int))
                rw [hW6] at rE6
                have rB6 := rB5.setOther (a := ⟨w1.heap.size, k, none⟩) (by show (w1.heap.size + 1) ≠ w1.heap.size; omega) (.int .u64 (l : Int))
                rw [hW6] at rB6
                have c2 := rB6.cell hlt
                have f2 := rB6.frozen k
                have K6 : ChK W6 w2.heap.size g b c9 M s B d n := by rw [← hW6]; exact HK5.out.set (by show w1.heap.size < _; have := HZ2.out; omega) _
                have k6 : Below w1.heap.size w1 W6 := by rw [← hW6]; exact k5.setCell (by show _ ≤ w1.heap.size; omega) _
                have HE6 := hid rE6
                have HB6 := hid rB6
                have HK6 := hid K6
                clear rE5 rB5 HK5 k5 rE6 rB6 K6
                go_wp2_with fail
                go_roundw
                case rel =>
                  refine ⟨k + 1, by omega, by go_num, (HE6.out.setOther (by show w1.heap.size ≠ (w1.heap.size + 1); omega) _).congr fun j hj => ?_, (HB6.out.set k _).congr fun j hj => ?_, HK6.out.set (by show (w1.heap.size + 1) < _; have := HZ2.out; omega) _, k6.setCell (by show _ ≤ (w1.heap.size + 1); omega) _⟩
                  · by_cases e : j = k
                    · rw [if_pos e, if_pos (by omega), e, HPK.out]
                    · by_cases e2 : j < k
                      · rw [if_neg e, if_pos e2, if_pos (by omega)]
                      · rw [if_neg e, if_neg e2, if_neg (by omega)]
                  · by_cases e : j = k
                    · rw [if_pos e, if_pos (by omega), e, HS.out]
                    · by_cases e2 : j < k
                      · rw [if_neg e, if_pos e2, if_pos (by omega)]
                      · rw [if_neg e, if_neg e2, if_neg (by omega)]
                case measure => simp [intOf]; omega
            · obtain rfl : k = v.length := by omega
              have kw := k1.trans (hbr.mono k1.size)
              obtain ⟨⟨g0, g1, g2, g3, g4, g5, g6, g7⟩, n0, n1, n2, n3, n4, n5, n6, n7⟩ := (HB1.out.below hbr hg1).eight
              have oE := own_levs (B := w1.heap.size) (HE.out.congr (g := fun j => .int .u64 (PQ j)) fun j hj => by rw [if_pos hj]) (by omega) m1 HLV.out
              have oB := own_sgns (B := w1.heap.size) (HBB.out.congr (g := fun j => .bool (SG j)) fun j hj => by rw [if_pos hj]) (by omega) m1 HNG.out
              have lE : LV.length = v.length := by rw [HLV.out]; simp
              have lB : NG.length = v.length := by rw [HNG.out]; simp
              have OE := hid oE
              have OB := hid oB
              have LE := hid lE
              have LB := hid lB
              clear hlt HE HBB HK oE oB lE lB hbr
              go_wp2_with fail
              refine bodyPost_ret (v := .tuple #[encT ⟨2, v.length, [], [], (M : Int), wide, LV, NG⟩ ⟨none, 0, none, 0, some ⟨w1.heap.size, 0, none⟩, v.length, some ⟨w1.heap.size + 1, 0, none⟩, v.length⟩, .int .i64 0]) (by simp [results, Tryz.results121, go_sem, g0, g1, g2, g3, g4, g5, g6, g7, LE.out, LB.out]) rfl ?_
              refine ⟨_, _, _, _, rfl, rfl, rfl, ?_, ?_, ?_, ?_⟩
              · exact own_base (own_set (own_set (own_set (own_set (own_set (own_set (own_set (own_set OE.out hg1 _) hg1 _) hg1 _) hg1 _) hg1 _) hg1 _) hg1 _) hg1 _) (by omega)
              · exact own_base (own_set (own_set (own_set (own_set (own_set (own_set (own_set (own_set OB.out hg1 _) hg1 _) hg1 _) hg1 _) hg1 _) hg1 _) hg1 _) hg1 _) (by omega)
              · intro y hy1 hy2
                simp at hy1 hy2
                omega
              · exact (((((((kw.setCell (by simp) _).setCell (by simp) _).setCell (by simp) _).setCell (by simp) _).setCell (by simp) _).setCell (by simp) _).setCell (by simp) _).setCell (by simp) _
        · obtain ⟨w2, hw2⟩ : ∃ w2, ((w1.alloc (.cells (madeCells #[.bool false] v.length) 4)).alloc (.cells (madeCells #[.int .u64 0] v.length) 25)).drew = w2 := ⟨_, rfl⟩
          have rE2 : w2.rowIs (w1.heap.size + 1) 25 v.length (fun _ => .int .u64 0) := by
            rw [← hw2]
            have h := (World.rowIs_made (w1.alloc (.cells (madeCells #[.bool false] v.length) 4)) (.int .u64 0) v.length 25).drew
            rw [show (w1.alloc (.cells (madeCells #[.bool false] v.length) 4)).heap.size = w1.heap.size + 1 by simp] at h
            exact h
          have rB2 : w2.rowIs w1.heap.size 4 v.length (fun _ => .bool false) := by
            rw [← hw2]
            exact ((World.rowIs_made w1 (.bool false) v.length _).alloc _).drew
          have z2 : Below w1.heap.size w1 w2 := by
            rw [← hw2]
            exact (((Below.refl _ _).alloc (Nat.le_refl _) _).alloc (by simp) _).drew
          have HZ2 : Hid (w2.heap.size = w1.heap.size + 2) := hid (by rw [← hw2]; simp)
          rw [hw2]
          clear hw2 hmkE1 hmkB1
          refine (CH.out w2 (k1.trans (z2.mono k1.size))).mono ?_
          rintro _ w3 ⟨g, b, c9, rfl, hK3, hb3⟩
          have q0 : Below w1.heap.size w1 w3 := z2.trans (hb3.mono z2.size)
          have rE3 := row_below rE2 hb3 (by have := HZ2.out; omega)
          have rB3 := row_below rB2 hb3 (by have := HZ2.out; omega)
          have HK3 := hid hK3
          have HE3 := hid rE3
          have HB3 := hid rB3
          clear rE2 rB2 z2 CH hb3 hK3 rE3 rB3
          go_wp2_with fail
          go_loopw [17, 18, 19, 20, 56] (fun x17 x18 x19 x20 i wr => ∃ k : Nat, k ≤ v.length ∧ i = .int .i64 k ∧ wr.rowIs (w1.heap.size + 1) 25 v.length (fun j => .int .u64 (if j < k then PQ j else 0)) ∧ wr.rowIs w1.heap.size 4 v.length (fun j => .bool (if j < k then SG j else false)) ∧ ChK wr w2.heap.size g b c9 M s B d n ∧ Below w1.heap.size w1 wr) (fun _ _ _ _ i _ => v.length - (intOf i).toNat)
          case atStart => exact ⟨0, by omega, rfl, by simpa using HE3.out, by simpa using HB3.out, HK3.out, q0⟩
          case round =>
            clear HK3 HE3 HB3 q0
            obtain ⟨k, hk, rfl, hrE, hrB, hK, hbr⟩ := hrel
            have HE := hid hrE
            have HBB := hid hrB
            have HK := hid hK
            clear hrE hrB hK
            by_cases hlt : k < v.length
            · have kw := k1.trans (hbr.mono k1.size)
              obtain ⟨b1, o1, x, rfl, l1, ex, d1⟩ := (RA.out.below kw).at_ hlt
              have hx := List.mem_of_getElem? ex
              have C := hid (CL.out x hx wr)
              have hll := HLL.out x hx
              have hlr := HLR.out x hx
              have hpq := HPQ.out k x hx
              have hp1 := HP1.out k x ex
              have hs1 := HS1.out k x ex
              obtain ⟨l, hl1⟩ : ∃ l, lvlL x (M : Int) wide = l := ⟨_, rfl⟩
              obtain ⟨r, hr1⟩ : ∃ r, lvlR x (M : Int) wide = r := ⟨_, rfl⟩
              rw [hl1, hr1] at C hpq
              rw [hl1] at hll
              rw [hr1] at hlr
              rw [hpq] at hp1
              obtain ⟨u, hu⟩ : ∃ u, chaB r M s (n ++ [(k : Int)]) = u := ⟨_, rfl⟩
              rw [hu] at hp1
              have HU := hid hu
              have HP := hid hp1
              have HS := hid hs1
              clear ex hx hl1 hr1 hpq hp1 hs1 hu
              go_wp2_with fail
              refine C.out.mono ?_
              rintro _ w4 ⟨rfl, hb4⟩
              have hK4 := HK.out.below hb4 HK.out.2.2.1 (Nat.le_refl _)
              have CC := CX.out w2.heap.size g b c9 k r (by omega) hlr w4 hK4
              rw [HU.out] at CC
              have CC := hid CC
              have rE4 := hid (row_below HE.out hb4 HE.out.lt)
              have rB4 := hid (row_below HBB.out hb4 HBB.out.lt)
              have k4 : Below w1.heap.size w1 w4 := hbr.trans (hb4.mono hbr.size)
              clear hK4 hb4 HK HE HBB hbr C
              go_wp2_with fail
              refine CC.out.mono ?_
              rintro _ w5 ⟨rfl, hK5, hb5⟩
              have k5 : Below w1.heap.size w1 w5 := k4.trans (hb5.mono (by have := HZ2.out; omega))
              have rE5 := row_below rE4.out hb5 (by have := HZ2.out; omega)
              have rB5 := row_below rB4.out hb5 (by have := HZ2.out; omega)
              have HK5 := hid hK5
              clear rE4 rB4 k4 hK5 hb5 CC
              cases u with
              | true =>
                obtain ⟨P, hl9⟩ : ∃ P, l + 1 = P := ⟨_, rfl⟩
                have hl2 : (l : Int) + 1 = (P : Int) := by omega
                have HPK : Hid (PQ k = (P : Int)) := hid (by rw [HP.out, ← hl9]; simp)
                have c1 := rE5.cell hlt
                have f1 := rE5.frozen k
                obtain ⟨W6, hW6⟩ : ∃ W, w5.setCell ⟨w1.heap.size + 1, k, none⟩ (.int .u64 (P : Int)) = W := ⟨_, rfl⟩
                have rE6 := rE5.set k (.int .u64 (P : Int))
                rw [hW6] at rE6
                have rB6 := rB5.setOther (a := ⟨w1.heap.size + 1, k, none⟩) (by show w1.heap.size ≠ (w1.heap.size + 1); omega) (.int .u64 (P : Int))
                rw [hW6] at rB6
                have c2 := rB6.cell hlt
                have f2 := rB6.frozen k
                have K6 : ChK W6 w2.heap.size g b c9 M s B d n := by rw [← hW6]; exact HK5.out.set (by show (w1.heap.size + 1) < _; have := HZ2.out; omega) _
                have k6 : Below w1.heap.size w1 W6 := by rw [← hW6]; exact k5.setCell (by show _ ≤ (w1.heap.size + 1); omega) _
                have HE6 := hid rE6
                have HB6 := hid rB6
                have HK6 := hid K6
                clear rE5 rB5 HK5 k5 rE6 rB6 K6
                go_wp2_with fail
                go_roundw
                case rel =>
                  refine ⟨k + 1, by omega, by go_num, (HE6.out.setOther (by show (w1.heap.size + 1) ≠ w1.heap.size; omega) _).congr fun j hj => ?_, (HB6.out.set k _).congr fun j hj => ?_, HK6.out.set (by show w1.heap.size < _; have := HZ2.out; omega) _, k6.setCell (by show _ ≤ w1.heap.size; omega) _⟩
                  · by_cases e : j = k
                    · rw [if_pos e, if_pos (by omega), e, HPK.out]
                    · by_cases e2 : j < k
                      · rw [if_neg e, if_pos e2, if_pos (by omega)]
                      · rw [if_neg e, if_neg e2, if_neg (by omega)]
                  · by_cases e : j = k
                    · rw [if_pos e, if_pos (by omega), e, HS.out]
                    · by_cases e2 : j < k
                      · rw [if_neg e, if_pos e2, if_pos (by omega)]
                      · rw [if_neg e, if_neg e2, if_neg (by omega)]
                case measure => simp [intOf]; omega
              | false =>
                have HPK : Hid (PQ k = (l : Int)) := hid (by rw [HP.out]; simp)
                have c1 := rE5.cell hlt
                have f1 := rE5.frozen k
                obtain ⟨W6, hW6⟩ : ∃ W, w5.setCell ⟨w1.heap.size + 1, k, none⟩ (.int .u64 (l : Int)) = W := ⟨_, rfl⟩
                have rE6 := rE5.set k (.int .u64 (l : Int))
                rw [hW6] at rE6
                have rB6 := rB5.setOther (a := ⟨w1.heap.size + 1, k, none⟩) (by show w1.heap.size ≠ (w1.heap.size + 1); omega) (.int .u64 (l : Int))
                rw [hW6] at rB6
                have c2 := rB6.cell hlt
                have f2 := rB6.frozen k
                have K6 : ChK W6 w2.heap.size g b c9 M s B d n := by rw [← hW6]; exact HK5.out.set (by show (w1.heap.size + 1) < _; have := HZ2.out; omega) _
                have k6 : Below w1.heap.size w1 W6 := by rw [← hW6]; exact k5.setCell (by show _ ≤ (w1.heap.size + 1); omega) _
                have HE6 := hid rE6
                have HB6 := hid rB6
                have HK6 := hid K6
                clear rE5 rB5 HK5 k5 rE6 rB6 K6
                go_wp2_with fail
                go_roundw
                case rel =>
                  refine ⟨k + 1, by omega, by go_num, (HE6.out.setOther (by show (w1.heap.size + 1) ≠ w1.heap.size; omega) _).congr fun j hj => ?_, (HB6.out.set k _).congr fun j hj => ?_, HK6.out.set (by show w1.heap.size < _; have := HZ2.out; omega) _, k6.setCell (by show _ ≤ w1.heap.size; omega) _⟩
                  · by_cases e : j = k
                    · rw [if_pos e, if_pos (by omega), e, HPK.out]
                    · by_cases e2 : j < k
                      · rw [if_neg e, if_pos e2, if_pos (by omega)]
                      · rw [if_neg e, if_neg e2, if_neg (by omega)]
                  · by_cases e : j = k
                    · rw [if_pos e, if_pos (by omega), e, HS.out]
                    · by_cases e2 : j < k
                      · rw [if_neg e, if_pos e2, if_pos (by omega)]
                      · rw [if_neg e, if_neg e2, if_neg (by omega)]
                case measure => simp [intOf]; omega
            · obtain rfl : k = v.length := by omega
              have kw := k1.trans (hbr.mono k1.size)
              obtain ⟨⟨g0, g1, g2, g3, g4, g5, g6, g7⟩, n0, n1, n2, n3, n4, n5, n6, n7⟩ := (HB1.out.below hbr hg1).eight
              have oE := own_levs (B := w1.heap.size) (HE.out.congr (g := fun j => .int .u64 (PQ j)) fun j hj => by rw [if_pos hj]) (by omega) m1 HLV.out
              have oB := own_sgns (B := w1.heap.size) (HBB.out.congr (g := fun j => .bool (SG j)) fun j hj => by rw [if_pos hj]) (by omega) m1 HNG.out
              have lE : LV.length = v.length := by rw [HLV.out]; simp
              have lB : NG.length = v.length := by rw [HNG.out]; simp
              have OE := hid oE
              have OB := hid oB
              have LE := hid lE
              have LB := hid lB
              clear hlt HE HBB HK oE oB lE lB hbr
              go_wp2_with fail
              refine bodyPost_ret (v := .tuple #[encT ⟨2, v.length, [], [], (M : Int), wide, LV, NG⟩ ⟨none, 0, none, 0, some ⟨w1.heap.size + 1, 0, none⟩, v.length, some ⟨w1.heap.size, 0, none⟩, v.length⟩, .int .i64 0]) (by simp [results, Tryz.results121, go_sem, g0, g1, g2, g3, g4, g5, g6, g7, LE.out, LB.out]) rfl ?_
              refine ⟨_, _, _, _, rfl, rfl, rfl, ?_, ?_, ?_, ?_⟩
              · exact own_base (own_set (own_set (own_set (own_set (own_set (own_set (own_set (own_set OE.out hg1 _) hg1 _) hg1 _) hg1 _) hg1 _) hg1 _) hg1 _) hg1 _) (by omega)
              · exact own_base (own_set (own_set (own_set (own_set (own_set (own_set (own_set (own_set OB.out hg1 _) hg1 _) hg1 _) hg1 _) hg1 _) hg1 _) hg1 _) hg1 _) (by omega)
              · intro y hy1 hy2
                simp at hy1 hy2
                omega
              · exact (((((((kw.setCell (by simp) _).setCell (by simp) _).setCell (by simp) _).setCell (by simp) _).setCell (by simp) _).setCell (by simp) _).setCell (by simp) _).setCell (by simp) _
      · have hS : prqS v wide s n = zeroS := if_neg (by rw [hp]; exact hm)
        rw [hp, hS]
        obtain ⟨E, hE⟩ : ∃ E, mostE v = E := ⟨_, rfl⟩
        obtain ⟨V, hV⟩ : ∃ E, mostV v = E := ⟨_, rfl⟩
        rw [hE, hV] at C2
        rw [hE] at hm ⊢
        have hne : (E != 0) = true := by simpa using hm
        clear hS hp hm hE hV h0 h0' ra rb uv un
        go_enter Tryz.func121, Tryz.ntmps121
        go_wp2_with fail
        have B0 := BoxL.new w [.int .i64 0, .int .i64 0, .slice none 0 0, .slice none 0 0, .int .i64 0, .int .i64 0, .slice none 0 0, .slice none 0 0] 32
        refine (C1.out _).mono ?_
        rintro _ _ ⟨rfl, rfl⟩
        go_wp2_with fail
        refine (C2.out _ (by go_grown)).mono ?_
        rintro _ w1 ⟨rfl, hb⟩
        have B1 := B0.below hb (by simp)
        have k1 : Below w.heap.size w w1 := Below.trans (by go_grown) (hb.mono (by simp))
        obtain ⟨⟨g0, g1, g2, g3, g4, g5, g6, g7⟩, n0, n1, n2, n3, n4, n5, n6, n7⟩ := B1.eight
        clear B0 B1 hb C1 C2
        go_wp2_with fail
        refine bodyPost_ret (v := .tuple #[encT zeroS zeroP, .int .i64 E]) (by simp [results, Tryz.results121, go_sem, zeroS, zeroP, g0, g1, g2, g3, g4, g5, g6, g7]) rfl ⟨none, 0, none, 0, rfl, rfl, rfl, own_nil _ _ _, own_nil _ _ _, apt_none _, ?_⟩
        exact (((((((k1.setCell (by simp) _).setCell (by simp) _).setCell (by simp) _).setCell (by simp) _).setCell (by simp) _).setCell (by simp) _).setCell (by simp) _).setCell (by simp) _
  · have he : prqE v wide = 1 := if_pos (.inl h1)
    have hS : prqS v wide s n = zeroS := if_neg (by rw [he]; decide)
    rw [he, hS]
    rw [(stsE_no h1).1] at C1
    clear he hS h1 ra rb uv un hl C2
    go_enter Tryz.func121, Tryz.ntmps121
    go_wp2_with fail
    refine (C1.out _).mono ?_
    rintro _ _ ⟨rfl, rfl⟩
    go_wp2_with fail
    refine bodyPost_ret (v := .tuple #[encT zeroS zeroP, .int .i64 1]) (by simp [results, Tryz.results121, go_sem, zeroS, zeroP]) rfl ⟨none, 0, none, 0, rfl, rfl, rfl, own_nil _ _ _, own_nil _ _ _, apt_none _, by go_grown⟩
end Go.Proofs.YtecgbelgoomneaaGreat
