
/- TIxP: texts joined: IxP. -/
import Derived.Test.YtjkhdfncahhnoaaTd
import Derived.Sort.OwnSortedInts
import Derived.Lib.AppendZerosOnto
import Derived.Lib.Walk
import Derived.Lib.SlicesCompact
import Derived.Shelf.Slices.In.SortNone
import Derived.Test.YtjkhdfncahhnoaaTa
/- The program's places: numbers spread and gathered, what is left, lists together. -/
namespace Go.Proofs.Ytjkhdfncahhnoaa
open Go.RowKit
set_option maxHeartbeats 400000
set_option maxRecDepth 100000
set_option linter.unusedVariables false
theorem ix_Spread {A B : Option Addr} {c d : Nat} (dim : Int) (l v : List Int) (hd : I64 dim) (hl : l.length ≤ 100000) (hv : v.length ≤ 100000) (w : World) (ra : Rd (Value.int .i64) w w.heap.size A l) (rv : Rd (Value.int .i64) w w.heap.size B v) :
    Calls Try.prog 28 #[.int .i64 dim, .slice A l.length c, .slice B v.length d] w (OwnE 2 .i64 w.heap.size (spV dim l v) (spE dim l v) w) := by
  have C := hid (ix_Check (A := A) (c := c) dim l hd hl w ra)
  by_cases h : chkE dim l = 0
  · have hp := chk_ok.1 h
    have hE : spE dim l v = if l.length = v.length then 0 else 4 := by unfold spE; rw [if_pos h]
    rw [h] at C
    by_cases hlv : l.length = v.length
    · rw [if_pos hlv] at hE
      have hV : spV dim l v = (upI dim.toNat).map (spF l v) := by unfold spV; rw [if_pos hE]
      obtain ⟨K, rfl⟩ := Int.eq_ofNat_of_zero_le (show 0 ≤ dim by have := hp.1; omega)
      rw [hE, hV, Int.toNat_natCast, sp_map]
      have hK4 : K ≤ 4096 := by have := hp.2.1; omega
      have hK1 : 1 ≤ K := by have := hp.1; omega
      have hmk := fun W => run_make_row' (P := Try.prog) 22 2 (.int .i64 0) 8 Try.underlying22 info_i64 rfl .i64 .i64 K (by omega) (by omega) W
      have HF : Hid (∀ k n x, l[k]? = some n → v[k]? = some x → ∀ j, spF (l.take (k + 1)) (v.take (k + 1)) j = if j = n then x else spF (l.take k) (v.take k) j) := hid (fun k n x h1 h2 j => spF_step h1 h2 j)
      have HF0 : Hid (∀ j, spF (l.take 0) (v.take 0) j = 0) := hid (fun j => rfl)
      have HFe : Hid (∀ k, l.length ≤ k → ∀ j, spF (l.take k) (v.take k) j = spF l v j) := hid (fun k hk j => by rw [List.take_of_length_le hk, List.take_of_length_le (by omega)])
      have HP : Hid (∀ (k : Nat) (n : Int), l[k]? = some n → 0 ≤ n ∧ n < K) := hid (fun k n h => hp.2.2.2 n (List.mem_of_getElem? h))
      have h1 : ((l.length : Int) != (v.length : Int)) = false := by simp; omega
      have h2 : (l.length != v.length) = false := by simp; omega
      have RA := hid ra
      have RV := hid rv
      have HLV := hid hlv
      clear h hp hE hV ra rv hd hlv
      go_enter Try.func28, Try.ntmps28
      go_wp2_with fail
      refine C.out.mono ?_
      rintro _ w1 ⟨rfl, k1⟩
      have HK := hid k1
      have RA1 := hid (RA.out.on k1)
      have RV1 := hid (RV.out.on k1)
      clear k1 C RA RV
      go_wp2_with fail
      clear h1 h2
      go_loopw [10, 11, 27] (fun i0 n0 i wr => ∃ k : Nat, k ≤ l.length ∧ i = .int .i64 k ∧ wr.rowIs w1.heap.size 2 K (fun j => .int .i64 (spF (l.take k) (v.take k) (j : Int))) ∧ Below w1.heap.size w1 wr) (fun _ _ i _ => l.length - (intOf i).toNat)
      case atStart => exact ⟨0, by omega, rfl, (World.rowIs_made w1 (.int .i64 0) K _).congr (fun j hj => by rw [HF0.out]), by go_grown⟩
      case round =>
        obtain ⟨k, hk, rfl, hrow, hbel⟩ := hrel
        have HR := hid hrow
        clear hmk
        by_cases hlt : k < l.length
        · obtain ⟨b1, o1, n, rfl, l1, en, c1⟩ := (RA1.out.below hbel).at_ hlt
          obtain ⟨b2, o2, x, rfl, l2, ex, c2⟩ := (RV1.out.below hbel).at_ (k := k) (by rw [← HLV.out]; exact hlt)
          have hlt2 : k < v.length := by rw [← HLV.out]; exact hlt
          have hn := HP.out k n en
          have HS := hid (HF.out k n x en ex)
          obtain ⟨m, rfl⟩ := Int.eq_ofNat_of_zero_le hn.1
          have hm : m < K := by omega
          have f1 := hrow.frozen m
          have c3 := hrow.cell hm
          clear en ex hrow
          go_wp2_with fail
          first | go_region | skip
          go_wp2_with fail
          go_roundw
          case rel =>
            refine ⟨k + 1, by omega, by go_num, ?_, by first | exact hbel.setCell (Nat.le_refl _) _ | exact (hbel.setCell (Nat.le_refl _) _).drew⟩
            refine World.rowIs.congr (HR.out.set m (.int .i64 x)) fun j hj => ?_
            rw [HS.out]
            by_cases e : j = m
            · rw [if_pos e, if_pos (by omega)]
            · rw [if_neg e, if_neg (by omega)]
          case measure => simp [intOf]; omega
        · have HE := HFe.out k (by omega)
          have HR2 : Hid (wr.rowIs w1.heap.size 2 K (fun j => .int .i64 (spF l v (j : Int)))) := hid (HR.out.congr fun j hj => by rw [HE])
          have k1 := HK.out
          clear hrow HE HR
          go_wp2_with fail
          go_ret2
          have h := own_made (w' := wr) HR2.out (show w.heap.size ≤ w1.heap.size from k1.size) (by unfold maxLen; omega)
          refine ⟨some ⟨w1.heap.size, 0, none⟩, K, ?_, ?_, k1.trans (hbel.mono k1.size)⟩
          · rw [List.length_map, List.length_range]; rfl
          · rw [List.length_map, List.length_range, List.map_map]; exact h
    · rw [if_neg hlv] at hE
      have hV : spV dim l v = [] := by unfold spV; rw [if_neg (by rw [hE]; decide)]
      rw [hE, hV]
      have h1 : ((l.length : Int) != (v.length : Int)) = true := by simp; omega
      have h2 : (l.length != v.length) = true := by simp; omega
      clear h hp hE hV ra rv hlv
      go_enter Try.func28, Try.ntmps28
      go_wp2_with fail
      refine C.out.mono ?_
      rintro _ _ ⟨rfl, hb1⟩
      go_wp2_with fail
      go_ret2
      exact .nil hb1
  · have e : spE dim l v = chkE dim l := if_neg h
    have e2 : spV dim l v = [] := if_neg (by rw [e]; exact h)
    rw [e, e2]
    obtain ⟨E, hE⟩ : ∃ E, chkE dim l = E := ⟨_, rfl⟩
    rw [hE] at C h ⊢
    have hne : (E != 0) = true := by simpa using h
    clear h e e2 hE ra rv
    go_enter Try.func28, Try.ntmps28
    go_wp2_with fail
    refine C.out.mono ?_
    rintro _ _ ⟨rfl, hb1⟩
    go_wp2_with fail
    go_ret2
    exact .nil hb1
theorem ix_Left {A : Option Addr} {c : Nat} (dim : Int) (l : List Int) (hd : I64 dim) (hl : l.length ≤ 100000) (w : World) (ra : Rd (Value.int .i64) w w.heap.size A l) :
    Calls Try.prog 23 #[.int .i64 dim, .slice A l.length c] w (OwnE 3 .i64 w.heap.size (lfV dim l) (chkE dim l) w) := by
  have C := hid (ix_Check (A := A) (c := c) dim l hd hl w ra)
  by_cases h : chkE dim l = 0
  · have hp := chk_ok.1 h
    obtain ⟨K, rfl⟩ := Int.eq_ofNat_of_zero_le (show 0 ≤ dim by have := hp.1; omega)
    have hV : lfV (K : Int) l = lfF K l := by unfold lfV; rw [if_pos h, Int.toNat_natCast]
    rw [h] at C
    rw [h, hV]
    have hK4 : K ≤ 4096 := by have := hp.2.1; omega
    have hlen := plc_le hp
    have CI := hid (fun (n : Int) W (hW : Rd (Value.int .i64) W W.heap.size A l) => ix_Has (A := A) (c := c) l n hp.2.2.1 hl W hW)
    have HS : Hid (∀ k : Nat, (hasB l k = true → lfF (k + 1) l = lfF k l) ∧ (hasB l k = false → lfF (k + 1) l = lfF k l ++ [(k : Int)])) := hid (fun k => by
      have h := lfF_step k l
      unfold hasB
      by_cases hm : (k : Int) ∈ l
      · rw [if_pos hm, List.append_nil] at h
        exact ⟨fun _ => h, fun hf => by simp [hm] at hf⟩
      · rw [if_neg hm] at h
        exact ⟨fun hf => by simp [hm] at hf, fun _ => h⟩)
    have HL : Hid (∀ k, (lfF k l).length ≤ k) := hid (fun k => by unfold lfF; have := List.length_filter_le (fun x => !decide (x ∈ l)) (upI k); rw [upI_len] at this; exact this)
    have RA := hid ra
    obtain ⟨F, hF⟩ : ∃ F : Nat → List Int, (fun k => lfF k l) = F := ⟨_, rfl⟩
    have hF' : ∀ k, lfF k l = F k := fun k => by rw [← hF]
    simp only [hF'] at HS HL ⊢
    have HF0 : Hid (F 0 = []) := hid (by rw [← hF]; rfl)
    obtain ⟨D, hD⟩ : ∃ D : Nat, (K : Int) - (l.length : Int) = D := ⟨((K : Int) - (l.length : Int)).toNat, by omega⟩
    have hD4 : D ≤ 4096 := by omega
    have hmk := fun W => run_room (P := Try.prog) 23 3 (.int .i64 0) 8 Try.underlying23 info_int rfl D (by omega) (by omega) W
    have HRm := hid (fun (W : World) (hW : w.heap.size ≤ W.heap.size) => own_room W 3 (.int .i64 0) D (by simp [maxLen]; omega) hW)
    clear h hp hV ra hd hF hF' hlen
    go_enter Try.func23, Try.ntmps23
    go_wp2_with fail
    refine C.out.mono ?_
    rintro _ w1 ⟨rfl, k1⟩
    have hrun := hmk w1
    have ho1 := HRm.out w1 k1.size
    obtain ⟨w2, hw2⟩ : ∃ w2, w1.alloc (.cells (madeCells #[.int .i64 0] D) 3) = w2 := ⟨_, rfl⟩
    have k2 : Below w.heap.size w w2 := by rw [← hw2]; exact k1.alloc k1.size _
    rw [hw2] at hrun ho1
    have HO1 := hid ho1
    clear hw2 hmk HRm ho1 C k1
    go_wp2_with fail
    clear hrun
    go_loopw [7, 8, 9, 10, 23] (fun t n0 x9 x10 i wr => ∃ (k : Nat) (S : List Int) (A2 : Option Addr) (c2 : Nat), k ≤ K ∧ i = .int .i64 k ∧ t = .slice A2 S.length c2 ∧ S = F k ∧ wr.ownsRow w.heap.size 3 1 (.slice A2 S.length c2) S.length (S.map (Value.int .i64)) ∧ Below w.heap.size w wr) (fun _ _ _ _ i _ => K - (intOf i).toNat)
    case atStart => exact ⟨0, [], _, _, by omega, rfl, rfl, HF0.out.symm, HO1.out, k2⟩
    case round =>
      clear k2 HO1
      obtain ⟨k, S, A2, c2, hk, rfl, rfl, hS, ho, hbel⟩ := hrel
      have hSl : S.length ≤ 4096 := by rw [hS]; have := HL.out k; omega
      have HSk := hid hS
      have HO := hid ho
      clear hS ho
      by_cases hlt : k < K
      · have CI1 := CI.out (k : Int) wr (RA.out.on hbel)
        have hs := HS.out k
        obtain ⟨v, hv⟩ : ∃ v, hasB l (k : Int) = v := ⟨_, rfl⟩
        obtain ⟨I, hI⟩ : ∃ I, hasI l (k : Int) = I := ⟨_, rfl⟩
        rw [hv, hI] at CI1
        rw [hv] at hs
        have CI2 := hid CI1
        have HS2 := hid hs
        clear CI1 hs hv hI
        cases v with
        | true =>
          have h2 := hid (HS2.out.1 rfl)
          clear HS2
          go_wp2_with fail
          refine CI2.out.mono ?_
          rintro _ w3 ⟨rfl, hb3⟩
          have HO3 := hid (own_on HO.out hb3)
          have k3 := hbel.trans (hb3.mono hbel.size)
          clear HO hb3
          go_wp2_with fail
          go_roundw
          case rel => exact ⟨k + 1, S, A2, c2, by omega, by go_num, rfl, by rw [h2.out, HSk.out], HO3.out, k3⟩
          case measure => simp [intOf]; omega
        | false =>
          have h2 := hid (HS2.out.2 rfl)
          clear HS2
          go_wp2_with fail
          refine CI2.out.mono ?_
          rintro _ w3 ⟨rfl, hb3⟩
          have HO3 := hid (own_on HO.out hb3)
          have k3 := hbel.trans (hb3.mono hbel.size)
          clear HO hb3
          have hr0 : Rd (Value.int .i64) (w3.alloc (.cells #[.int .i64 (k : Int)] 3)) _ (some ⟨w3.heap.size, 0, none⟩) [(k : Int)] := rd_one (one_cell w3 (.int .i64 (k : Int)) 3).1
          have h0' := own_on HO3.out ((Below.refl w3.heap.size w3).alloc (Nat.le_refl _) (.cells #[.int .i64 (k : Int)] 3))
          go_wp2_with (at_builtin; refine wpList_app (Value.int .i64) (fun _ => rfl) _ rfl _ _ 23 rfl w.heap.size 3 (.int .i64 0) 8 Try.underlying23 info_int rfl S _ _ rfl h0' [(k : Int)] _ 1 _ rfl hr0 (by simp [maxLen]; omega) (by simp; omega) (by have := k3.size; simp; omega) ?_)
          rintro S' A' c' w4 hS' ho hb4 _
          have HS' := hid hS'
          have HO' := hid ho
          clear hS' ho h0' hr0
          go_wp2_with fail
          go_roundw
          case rel => exact ⟨k + 1, S', A', c', by omega, by go_num, rfl, by rw [HS'.out, h2.out, HSk.out], HO'.out, (k3.alloc k3.size _).trans hb4⟩
          case measure => simp [intOf]; omega
      · obtain rfl : k = K := by omega
        go_wp2_with fail
        go_ret2
        rw [← HSk.out]
        exact ⟨A2, c2, rfl, HO.out, hbel⟩
  · have e : lfV dim l = [] := if_neg h
    rw [e]
    obtain ⟨E, hE⟩ : ∃ E, chkE dim l = E := ⟨_, rfl⟩
    rw [hE] at C h ⊢
    have hne : (E != 0) = true := by simpa using h
    clear h e hE ra
    go_enter Try.func23, Try.ntmps23
    go_wp2_with fail
    refine C.out.mono ?_
    rintro _ _ ⟨rfl, hb1⟩
    go_wp2_with fail
    go_ret2
    exact .nil hb1
theorem ix_Gather {A B : Option Addr} {c d : Nat} (l v : List Int) (hl : l.length ≤ 100000) (hv : v.length ≤ 9223372036854775807) (w : World) (ra : Rd (Value.int .i64) w w.heap.size A l) (rv : Rd (Value.int .i64) w w.heap.size B v) :
    Calls Try.prog 37 #[.slice A l.length c, .slice B v.length d] w (OwnE 2 .i64 w.heap.size (gatV l v) (gatE l v) w) := by
  have CS := hid (ix_stray (v.length : Int) w)
  have CC := hid (fun W h1 h2 => stray_contains (A := A) (c := c) (p := w.heap.size + 1) (q := w.heap.size) (B := w.heap.size) (by omega) (by omega) (by omega) (v.length : Int) l (by omega) W h1 h2)
  have RA := hid ra
  have RV := hid rv
  by_cases h : gatP l v
  · have e1 : gdB (v.length : Int) l = true := decide_eq_true h
    have e2 : gatV l v = l.map fun n => v.getD n.toNat 0 := if_pos (gat_ok.2 h)
    rw [e1] at CC
    rw [gat_ok.2 h, e2]
    have HI : Hid (∀ (k : Nat) (n : Int), l[k]? = some n → 0 ≤ n ∧ n < v.length) := hid (fun k n hn => h.2 n (List.mem_of_getElem? hn))
    have HG : Hid (∀ (k : Nat) (n x : Int), l[k]? = some n → v[n.toNat]? = some x → (l.map fun n => v.getD n.toNat 0).take (k + 1) = (l.map fun n => v.getD n.toNat 0).take k ++ [x]) := hid (fun k n x hn hx => take_snoc (by rw [List.getElem?_map, hn, Option.map_some, getD_of hx]))
    have HGl : Hid ((l.map fun n => v.getD n.toNat 0).length = l.length) := hid (by simp)
    obtain ⟨G, hG⟩ : ∃ G, (l.map fun n => v.getD n.toNat 0) = G := ⟨_, rfl⟩
    rw [hG] at HG HGl ⊢
    obtain ⟨N, hN⟩ : ∃ N, l.length = N := ⟨_, rfl⟩
    have HN := hid hN
    rw [hN] at HGl CC hl ⊢
    have hmk := fun W => run_make_row' (P := Try.prog) 22 2 (.int .i64 0) 8 Try.underlying22 info_i64 rfl .i64 .i64 N (by omega) (by omega) W
    clear h e1 e2 hG hN ra rv
    go_enter Try.func37, Try.ntmps37
    go_wp2_with fail
    refine CS.out.mono ?_
    rintro _ w1 ⟨rfl, hk1, hb1⟩
    have C := hid (CC.out w1 (RA.out.below hb1) hk1)
    clear CC CS hk1
    go_wp2_with fail
    refine C.out.mono ?_
    rintro _ w2 ⟨rfl, hb2⟩
    have k2 := hb1.trans hb2
    have hrun := hmk w2
    clear C hb1 hb2 hmk
    go_wp2_with fail
    clear hrun
    have RA2 := hid (RA.out.on k2)
    have RV2 := hid (RV.out.on k2)
    have hks := k2.size
    clear RA RV
    go_loopw [7, 8, 19] (fun x7 x8 i wr => ∃ k : Nat, k ≤ N ∧ i = .int .i64 k ∧ wr.rowIs w2.heap.size 2 N (fun j => .int .i64 ((G.take k).getD j 0)) ∧ Below w2.heap.size w2 wr) (fun _ _ i _ => N - (intOf i).toNat)
    case atStart => exact ⟨0, by omega, rfl, (World.rowIs_made w2 (.int .i64 0) N _).congr (fun j hj => by simp [List.getD]), by go_grown⟩
    case round =>
      obtain ⟨k, hk, rfl, hrow, hbel⟩ := hrel
      have HR := hid hrow
      by_cases hlt : k < N
      · obtain ⟨b1, o1, n, rfl, l1, en, c1⟩ := (RA2.out.below hbel).at_ (k := k) (by rw [HN.out]; exact hlt)
        have hn := HI.out k n en
        obtain ⟨m, rfl⟩ := Int.eq_ofNat_of_zero_le hn.1
        have hmi := hn.2
        have hm : m < v.length := by omega
        obtain ⟨b2, o2, x, rfl, l2, ex, c2⟩ := (RV2.out.below hbel).at_ hm
        have HS := hid (HG.out k m x en (by rw [Int.toNat_natCast]; exact ex))
        have f1 := hrow.frozen k
        have c3 := hrow.cell hlt
        have hgl : (G.take k).length = k := by rw [List.length_take, HGl.out]; omega
        have HL := hid hgl
        clear en ex hrow hn hgl
        go_wp2_with fail
        go_roundw
        case rel =>
          refine ⟨k + 1, by omega, by go_num, ?_, by first | exact hbel.setCell (Nat.le_refl _) _ | exact (hbel.setCell (Nat.le_refl _) _).drew⟩
          refine World.rowIs.congr (HR.out.set k (.int .i64 x)) fun j hj => ?_
          rw [HS.out, getD_snoc, HL.out]
          by_cases e : j = k
          · rw [if_pos e, if_pos (by omega)]
          · rw [if_neg e, if_neg (by omega)]
        case measure => simp [intOf]; omega
      · obtain rfl : k = N := by omega
        clear hrow
        have HR2 : Hid (wr.rowIs w2.heap.size 2 G.length (fun j => .int .i64 (G.getD j 0))) := hid (by
          have h := HR.out
          rw [List.take_of_length_le (by rw [HGl.out]; omega)] at h
          rw [HGl.out]; exact h)
        clear HR
        go_wp2_with fail
        go_ret2
        refine ⟨some ⟨w2.heap.size, 0, none⟩, G.length, by rw [HGl.out]; rfl, own_fill HR2.out hks (by rw [HGl.out]; unfold maxLen; omega), k2.trans (hbel.mono hks)⟩
  · have e1 : gdB (v.length : Int) l = false := decide_eq_false h
    have e2 : gatV l v = [] := if_neg (by rw [gat_no h]; decide)
    rw [e1] at CC
    rw [gat_no h, e2]
    clear h e1 e2 ra rv
    go_enter Try.func37, Try.ntmps37
    go_wp2_with fail
    refine CS.out.mono ?_
    rintro _ w1 ⟨rfl, hk1, hb1⟩
    have C := hid (CC.out w1 (RA.out.below hb1) hk1)
    clear CC CS hk1
    go_wp2_with fail
    refine C.out.mono ?_
    rintro _ w2 ⟨rfl, hb2⟩
    go_wp2_with fail
    go_ret2
    exact .nil (hb1.trans hb2)
/-- Room made ahead for so many places. -/
theorem ix_grow (n : Nat) (hn : n ≤ 3000000) (w : World) :
    Calls Try.prog 64 #[.slice none 0 0, .int .i64 (n : Int)] w fun e w' => ∃ A c, e = .returned (.slice A 0 c) ∧ w'.ownsRow w.heap.size 3 1 (.slice A 0 c) 0 [] ∧ Below w.heap.size w w' := by
  by_cases h0 : n = 0
  · subst h0
    go_enter Try.func64, Try.ntmps64
    go_wp2_with fail
    go_ret
    exact ⟨none, 0, rfl, own_nil _ _ _, Below.refl _ _⟩
  · obtain ⟨i, hi, hzz⟩ := Option.map_eq_some_iff.1 info_int
    simp only [Prod.mk.injEq] at hzz
    obtain ⟨hz, hs, hb⟩ := hzz
    have hold : (Builtin.firstCells i.size 0 (.slice none 0 0)).run Try.prog w.drew = .ok (#[] : Array Value) w.drew := run_firstCells_none w.drew i.size 0 0 0
    have hrz : ∀ ty, (Builtin.append_ #[23, 3] ty #[.slice none 0 0, .int .i64 (n : Int)]).run Try.prog w =
        .ok (.slice (some ⟨w.heap.size, 0, none⟩) n (grownCap w n 0 3)) (w.drew.alloc (.cells (#[] ++ Builtin.zeroCells #[.int .i64 0] n ++ Builtin.zeroCells #[.int .i64 0] (grownCap w n 0 3 - n)) 3)) := fun ty => by
      have h := Lib.run_append_grow_zeros w 23 3 ty 3 i (.int .i64 0) .i64 .i64 Try.underlying23 Try.underlying3 hi hz none 0 0 [] hold n (by omega) (by omega) (by omega) (by omega) (by rw [hb]; omega) (by rw [Nat.zero_add]; exact growslice_fits (by omega) (by rw [hb]; omega))
      rw [Nat.zero_add] at h
      exact h
    have hGn : n ≤ grownCap w n 0 3 := grownCap_ge w _ _ _
    have hGm := grownCap_le_maxLen w n 0 3 (by unfold maxLen; omega)
    obtain ⟨G, hG⟩ : ∃ G, G = grownCap w n 0 3 := ⟨_, rfl⟩
    rw [← hG] at hrz hGn hGm
    have hG63 : G ≤ 9223372036854775807 := by unfold maxLen at hGm; omega
    clear hold hG
    have hn0 : 0 < n := by omega
    have HM := hid hGm
    clear hGm h0
    go_enter Try.func64, Try.ntmps64
    go_wp2_with (at_builtin; refine Lib.wpList_append_run _ rfl _ _ _ _ rfl _ _ rfl rfl _ _ (hrz _) ?_)
    go_ret
    exact ⟨_, _, rfl, World.ownsRow_made _ _ G (Nat.le_refl _) HM.out (by simp [Builtin.zeroCells]; omega), ((Below.refl _ _).drew).alloc (Nat.le_refl _) _⟩
theorem cat_step {ls : List (List Int)} {k : Nat} {x : List Int} (h : ls[k]? = some x) : (ls.take (k + 1)).flatten = (ls.take k).flatten ++ x := by
  rw [List.take_add_one, h, List.flatten_append]
  simp
theorem cat_take (ls : List (List Int)) (k : Nat) : (ls.take k).flatten.length ≤ ls.flatten.length := by
  have h := congrArg List.length (congrArg List.flatten (List.take_append_drop k ls))
  rw [List.flatten_append, List.length_append] at h
  omega
theorem ix_concat {A : Option Addr} {c : Nat} (ls : List (List Int)) (hl : ls.length ≤ 100000) (hf : ls.flatten.length ≤ 100000) (w : World) (ra : RdRows w w.heap.size A ls) :
    Calls Try.prog 47 #[.slice A ls.length c] w (OwnOf 3 .i64 w.heap.size ls.flatten w) := by
  have CG := hid (fun n hn => ix_grow n hn)
  have HA := hid ra
  have HF : Hid (∀ k x, ls[k]? = some x → (ls.take (k + 1)).flatten = (ls.take k).flatten ++ x) := hid (fun k x h => cat_step h)
  have HL : Hid (∀ k, (ls.take k).flatten.length ≤ 100000) := hid (fun k => by have := cat_take ls k; omega)
  have HF0 : Hid ((ls.take 0).flatten = []) := hid rfl
  have HFe : Hid (∀ k, ls.length ≤ k → (ls.take k).flatten = ls.flatten) := hid (fun k hk => by rw [List.take_of_length_le hk])
  obtain ⟨F, hF⟩ : ∃ F : Nat → List Int, (fun k => (ls.take k).flatten) = F := ⟨_, rfl⟩
  have hF' : ∀ k, (ls.take k).flatten = F k := fun k => by rw [← hF]
  simp only [hF'] at HF HL HF0 HFe
  obtain ⟨R, hR⟩ : ∃ R, ls.flatten = R := ⟨_, rfl⟩
  rw [hR] at HFe ⊢
  obtain ⟨N, hN⟩ : ∃ N, ls.length = N := ⟨_, rfl⟩
  have HN := hid hN
  rw [hN] at HFe hl ⊢
  clear ra hR hf hF hF' hN
  go_enter Try.func47, Try.ntmps47
  go_wp2_with fail
  go_loop [3, 5, 11] (fun s x i => ∃ (k T : Nat), k ≤ N ∧ i = .int .i64 k ∧ s = .int .i64 T ∧ T = (F k).length) (fun _ _ i => N - (intOf i).toNat)
  case atStart => exact ⟨0, 0, by omega, rfl, rfl, by rw [HF0.out]; rfl⟩
  case round =>
    obtain ⟨k, T, hk, rfl, rfl, hT⟩ := hrel
    have hTb : T ≤ 100000 := by rw [hT]; exact HL.out k
    have HT := hid hT
    clear hT
    by_cases hlt : k < N
    · obtain ⟨b1, o1, Ax, cx, rfl, l1, c1, rx⟩ := HA.out k _ (List.getElem?_eq_getElem (by rw [HN.out]; exact hlt))
      have hx0 : ls[k]? = some (ls[k]'(by rw [HN.out]; exact hlt)) := List.getElem?_eq_getElem (by rw [HN.out]; exact hlt)
      have HS := hid (HF.out k _ hx0)
      have hb := HL.out (k + 1)
      obtain ⟨x, hx⟩ : ∃ x, (ls[k]'(by rw [HN.out]; exact hlt)) = x := ⟨_, rfl⟩
      rw [hx] at HS c1
      rw [HS.out, List.length_append] at hb
      obtain ⟨X, hX⟩ : ∃ X, x.length = X := ⟨_, rfl⟩
      have HX := hid hX
      rw [hX] at c1 hb
      have hXb : X ≤ 100000 := by omega
      clear hX hb hx hx0 rx
      go_wp2_with fail
      go_round
      case rel => exact ⟨k + 1, T + X, by omega, by go_num, by go_num, by rw [HS.out, List.length_append, HT.out, HX.out]⟩
      case measure => simp [intOf]; omega
    · obtain rfl : k = N := by omega
      have CG1 := hid (CG.out T (by omega) w)
      clear CG HT
      go_wp2_with fail
      refine CG1.out.mono ?_
      rintro _ w1 ⟨A1, c1, rfl, ho, hb1⟩
      have HO := hid ho
      clear ho CG1
      go_wp2_with fail
      go_loopw [6, 8, 27] (fun t x i wr => ∃ (j : Nat) (S : List Int) (A2 : Option Addr) (c2 : Nat), j ≤ k ∧ i = .int .i64 j ∧ t = .slice A2 S.length c2 ∧ S = F j ∧ wr.ownsRow w.heap.size 3 1 (.slice A2 S.length c2) S.length (S.map (Value.int .i64)) ∧ Below w.heap.size w wr) (fun _ _ i _ => k - (intOf i).toNat)
      case atStart => exact ⟨0, [], A1, c1, by omega, rfl, rfl, HF0.out.symm, HO.out, hb1⟩
      case round =>
        clear HO hb1
        obtain ⟨j, S, A2, c2, hj, rfl, rfl, hS, ho, hbel⟩ := hrel
        have hSl : S.length ≤ 100000 := by rw [hS]; exact HL.out j
        have HSj := hid hS
        have HO := hid ho
        clear hS ho
        by_cases hjl : j < k
        · obtain ⟨b1, o1, Ax, cx, rfl, l1, c1, rx⟩ := HA.out j _ (List.getElem?_eq_getElem (by rw [HN.out]; exact hjl))
          have hx0 : ls[j]? = some (ls[j]'(by rw [HN.out]; exact hjl)) := List.getElem?_eq_getElem (by rw [HN.out]; exact hjl)
          have HS := hid (HF.out j _ hx0)
          have hb := HL.out (j + 1)
          obtain ⟨x, hx⟩ : ∃ x, (ls[j]'(by rw [HN.out]; exact hjl)) = x := ⟨_, rfl⟩
          rw [hx] at HS c1 rx
          rw [HS.out, List.length_append, ← HSj.out] at hb
          have c1' := (hbel.cell (p := ⟨b1, o1 + j, none⟩) l1).trans c1
          have hrx := rx.below hbel
          have h0 := HO.out
          have hbs := hbel.size
          clear hx hx0 rx c1
          go_wp2_with (at_builtin; refine wpList_app (Value.int .i64) (fun _ => rfl) _ rfl _ _ 23 rfl w.heap.size 3 (.int .i64 0) 8 Try.underlying23 info_int rfl S _ _ rfl h0 x _ cx _ rfl hrx (by simp [maxLen]; omega) (by omega) hbs ?_)
          rintro S' A' c' w4 hS' ho hb4 _
          have HS' := hid hS'
          have HO' := hid ho
          clear hS' ho h0 hrx
          go_wp2_with fail
          go_roundw
          case rel => exact ⟨j + 1, S', A', c', by omega, by go_num, rfl, by rw [HS'.out, HS.out, HSj.out], HO'.out, hbel.trans hb4⟩
          case measure => simp [intOf]; omega
        · obtain rfl : j = k := by omega
          have HR := hid (HFe.out j (Nat.le_refl _))
          go_wp2_with fail
          go_ret
          have e : S = R := by rw [HSj.out, HR.out]
          rw [← e]
          exact ⟨A2, c2, rfl, HO.out, hbel⟩
def srtI (zs : List Int) : List Int := zs.mergeSort fun x y => decide (x ≤ y)
theorem ix_sort {A : Option Addr} {c base : Nat} (zs : List Int) (hz : zs.length ≤ 100000) (w : World) (hB : base ≤ w.heap.size) (ho : w.ownsRow base 3 1 (.slice A zs.length c) zs.length (zs.map (Value.int .i64))) :
    Calls Try.prog 32 #[.slice A zs.length c] w fun e w' => e = .returned (.tuple #[]) ∧ w'.ownsRow base 3 1 (.slice A zs.length c) zs.length ((srtI zs).map (Value.int .i64)) ∧ Below base w w' := by
  have hlen : (srtI zs).length = zs.length := by unfold srtI; simp
  rcases ho.2 with ⟨he, h0⟩ | ⟨g, cap, cur, he, hg, hh, h1, h2, h3, h4⟩
  · simp only [Value.slice.injEq] at he
    obtain ⟨rfl, _, rfl⟩ := he
    obtain rfl : zs = [] := List.length_eq_zero_iff.1 h0
    refine (Any.slices_Sort_int_none Try.lays189 none 0 w).mono ?_
    rintro _ _ ⟨rfl, rfl⟩
    rw [show srtI [] = [] by unfold srtI; simp]
    exact ⟨rfl, own_nil _ _ _, Below.refl _ _⟩
  · simp only [Value.slice.injEq] at he
    obtain ⟨rfl, _, rfl⟩ := he
    rw [Nat.mul_one] at h4
    have hgl := (Array.getElem?_eq_some_iff.1 hh).1
    refine (Try.slices_Sort_int g 0 c zs w (holds_of_blockI hh h4) hgl (by omega)).mono ?_
    rintro _ _ ⟨rfl, n, os, rfl⟩
    refine ⟨rfl, ?_, (Below.refl base w).grown (grownBy_sortedI _) hB (fun k hk => by cases hk; exact hg)⟩
    exact ownsRow_sortedI hlen hg hh h1 h2 h3
theorem ix_compact {A : Option Addr} {c base : Nat} (zs : List Int) (hz : zs.length ≤ 100000) (w : World) (hB : base ≤ w.heap.size) (ho : w.ownsRow base 3 1 (.slice A zs.length c) zs.length (zs.map (Value.int .i64))) :
    Calls Try.prog 48 #[.slice A zs.length c] w fun e w' => e = .returned (.slice A (Lib.compact zs).length c) ∧ w'.ownsRow base 3 1 (.slice A (Lib.compact zs).length c) (Lib.compact zs).length ((Lib.compact zs).map (Value.int .i64)) ∧ Below base w w' := by
  have hlen : (Lib.compact zs).length ≤ zs.length := by
    unfold Lib.compact Lib.compactUpTo
    rw [List.length_map]
    have := List.length_filter_le (Lib.keeps zs.toArray) (List.range zs.length)
    rwa [List.length_range] at this
  rcases ho.2 with ⟨he, h0⟩ | ⟨g, cap, cur, he, hg, hh, h1, h2, h3, h4⟩
  · simp only [Value.slice.injEq] at he
    obtain ⟨rfl, _, rfl⟩ := he
    obtain rfl : zs = [] := List.length_eq_zero_iff.1 h0
    refine (Try.slices_Compact_int_empty none 0 w).mono ?_
    rintro _ _ ⟨rfl, rfl⟩
    exact ⟨rfl, own_nil _ _ _, Below.refl _ _⟩
  · simp only [Value.slice.injEq] at he
    obtain ⟨rfl, _, rfl⟩ := he
    rw [Nat.mul_one] at h4
    refine (Try.slices_Compact_int g 0 c zs w (holds_of_blockI hh h4) (by omega) h1).mono ?_
    rintro _ _ ⟨rfl, q, rfl⟩
    obtain ⟨ts, hts⟩ : ∃ ts, Lib.compact zs ++ List.replicate (zs.length - (Lib.compact zs).length) 0 = ts := ⟨_, rfl⟩
    have hl2 : ts.length = zs.length := by rw [← hts, List.length_append, List.length_replicate]; omega
    rw [hts]
    have e := Go.Sort.grow_empty (Go.Sort.putRow (Value.int .i64) (Sort.ahead w q) g 0 ts.toArray)
    have ho2 := ownsRow_sortedI (n := q) (os := #[]) (ts := ts) hl2 hg hh h1 h2 h3
    rw [e] at ho2
    have hgr := grownBy_sortedI (w := w) (g := g) (n := q) (os := #[]) ts.toArray
    rw [e] at hgr
    refine ⟨rfl, ?_, (Below.refl base w).grown hgr hB (fun k hk => by cases hk; exact hg)⟩
    rcases ho2.2 with ⟨he, _⟩ | ⟨g', cap', cur', he, hg', hh', h1', h2', h3', h4'⟩
    · simp at he
    · simp only [Value.slice.injEq, Option.some.injEq, Addr.mk.injEq] at he
      obtain ⟨⟨rfl, _⟩, _, rfl⟩ := he
      refine ⟨by simp, .inr ⟨g, c, cur', rfl, hg, hh', by omega, h2', h3', ?_⟩⟩
      rw [Nat.mul_one] at h4' ⊢
      have h5 := congrArg (List.take (Lib.compact zs).length) h4'
      rw [List.take_take, Nat.min_eq_left hlen] at h5
      rw [h5, ← hts, ← List.map_take, List.take_left]
theorem compact_srt (l : List Int) : risP (Lib.compact (srtI l)) ∧ ∀ x, x ∈ Lib.compact (srtI l) ↔ x ∈ l := by
  have hs : (srtI l).Pairwise (fun a b => a ≤ b) := by
    have := List.pairwise_mergeSort (le := fun x y : Int => decide (x ≤ y)) (fun a b c h1 h2 => by simp at *; omega) (fun a b => by simp; omega) l
    exact List.Pairwise.imp (fun h => by simpa using h) this
  have hm : ∀ x, x ∈ srtI l ↔ x ∈ l := fun x => List.mem_mergeSort
  obtain ⟨z, hz⟩ : ∃ z, srtI l = z := ⟨_, rfl⟩
  rw [hz] at hs hm ⊢
  have hle : ∀ i j, i < j → j < z.length → z.toArray[i]! ≤ z.toArray[j]! := fun i j hij hj => by
    have := List.pairwise_iff_getElem.1 hs i j (by omega) hj hij
    simpa [show i < z.length by omega, hj] using this
  constructor
  · unfold risP Lib.compact Lib.compactUpTo
    rw [List.pairwise_map]
    refine List.Pairwise.imp_of_mem ?_ (List.Pairwise.filter _ List.pairwise_lt_range)
    intro i j hi hj hij
    rw [List.mem_filter, List.mem_range] at hi hj
    have hk := hj.2
    unfold Lib.keeps at hk
    rw [decide_eq_true_eq] at hk
    have hne : z.toArray[j]! ≠ z.toArray[j - 1]! := by rcases hk with h | h; omega; exact h
    have h2 := hle (j - 1) j (by omega) hj.1
    by_cases e : i = j - 1
    · subst e; omega
    · have := hle i (j - 1) (by omega) (by omega)
      omega
  · intro x
    rw [← hm]
    unfold Lib.compact Lib.compactUpTo
    rw [List.mem_map]
    constructor
    · rintro ⟨i, hi, rfl⟩
      rw [List.mem_filter, List.mem_range] at hi
      simp [hi.1]
    · intro hx
      obtain ⟨i, hi, e⟩ := List.getElem_of_mem hx
      have key : ∀ i, i < z.length → z.toArray[i]! = x → ∃ a, a ∈ List.filter (Lib.keeps z.toArray) (List.range z.length) ∧ z.toArray[a]! = x := by
        intro i
        induction i with
        | zero => exact fun h e => ⟨0, by rw [List.mem_filter, List.mem_range]; exact ⟨h, Lib.keeps_lt_one _ _ (by omega)⟩, e⟩
        | succ i ih =>
          intro h e
          by_cases hk : z.toArray[i + 1]! = z.toArray[i]!
          · exact ih (by omega) (by rw [← hk]; exact e)
          · exact ⟨i + 1, by rw [List.mem_filter, List.mem_range]; exact ⟨h, Lib.keeps_pos (by simpa using hk)⟩, e⟩
      exact key i hi (by simp [hi, e])
theorem ix_Merge {A : Option Addr} {c : Nat} (ls : List (List Int)) (hl : ls.length ≤ 100000) (hf : ls.flatten.length ≤ 100000) (w : World) (ra : RdRows w w.heap.size A ls) :
    Calls Try.prog 27 #[.slice A ls.length c] w (OwnOf 3 .i64 w.heap.size (mrgV ls) w) := by
  have C1 := hid (ix_concat (A := A) (c := c) ls hl hf w ra)
  have hM : Lib.compact (srtI ls.flatten) = mrgV ls := mrgV_eq (compact_srt _).1 fun x => by rw [(compact_srt _).2, List.mem_flatten]
  have hsl : (srtI ls.flatten).length = ls.flatten.length := by unfold srtI; simp
  rw [← hM]
  have C2 := hid (fun A c W h1 h2 => ix_sort (A := A) (c := c) (base := w.heap.size) ls.flatten hf W h1 h2)
  have C3 := hid (fun A c W h1 h2 => ix_compact (A := A) (c := c) (base := w.heap.size) (srtI ls.flatten) (by omega) W h1 h2)
  rw [hsl] at C3
  obtain ⟨R, hR⟩ : ∃ R, Lib.compact (srtI ls.flatten) = R := ⟨_, rfl⟩
  rw [hR] at C3 ⊢
  obtain ⟨Z, hZ⟩ : ∃ Z, srtI ls.flatten = Z := ⟨_, rfl⟩
  rw [hZ] at C2 C3
  obtain ⟨L, hL⟩ : ∃ L, ls.flatten = L := ⟨_, rfl⟩
  rw [hL] at C1 C2 C3
  clear hM hsl hR hZ hL ra hf
  go_enter Try.func27, Try.ntmps27
  go_wp2_with fail
  refine C1.out.mono ?_
  rintro _ w1 ⟨A1, c1, rfl, ho1, hb1⟩
  have C2' := hid (C2.out A1 c1 w1 hb1.size ho1)
  clear C1 C2 ho1
  go_wp2_with fail
  refine C2'.out.mono ?_
  rintro _ w2 ⟨rfl, ho2, hb2⟩
  have k2 := hb1.trans hb2
  have C3' := hid (C3.out A1 c1 w2 k2.size ho2)
  clear C2' C3 ho2 hb1 hb2
  go_wp2_with fail
  refine C3'.out.mono ?_
  rintro _ w3 ⟨rfl, ho3, hb3⟩
  have HO := hid ho3
  clear ho3 C3'
  go_wp2_with fail
  go_ret
  exact ⟨A1, c1, rfl, HO.out, k2.trans hb3⟩
end Go.Proofs.Ytjkhdfncahhnoaa
