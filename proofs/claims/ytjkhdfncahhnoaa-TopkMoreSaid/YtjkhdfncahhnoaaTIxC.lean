
/- TIxC: texts joined: IxC. -/
import Derived.Test.YtjkhdfncahhnoaaTa
/- Numbers spread and gathered, other places, lists together, by the document. -/
namespace Go.Proofs.Ytjkhdfncahhnoaa
open Go.RowKit
set_option maxHeartbeats 400000
set_option maxRecDepth 100000
set_option linter.unusedVariables false
theorem sp_map {k : Nat} {l v : List Int} : (upI k).map (spF l v) = (List.range k).map fun j : Nat => spF l v (j : Int) := by
  unfold upI
  rw [List.map_map]
  rfl
/-- The numbers ahead of some place of lists. -/
def upto (ls : List (List Int)) (i j : Nat) : List Int := (ls.take i).flatten ++ (ls.getD i []).take j
theorem upto_next {ls : List (List Int)} {i : Nat} {x : List Int} (h : ls[i]? = some x) : upto ls i x.length = upto ls (i + 1) 0 := by
  unfold upto
  rw [List.take_add_one, h, List.getD_eq_getElem?_getD, h, Option.getD_some, List.take_length, List.flatten_append, List.take_zero, List.append_nil]
  simp
theorem upto_step {ls : List (List Int)} {i j : Nat} {x : List Int} {n : Int} (h : ls[i]? = some x) (hj : x[j]? = some n) : upto ls i (j + 1) = upto ls i j ++ [n] := by
  unfold upto
  rw [List.getD_eq_getElem?_getD, h, Option.getD_some, take_snoc hj, List.append_assoc]
theorem upto_end (ls : List (List Int)) {i : Nat} (h : ls.length ≤ i) : upto ls i 0 = ls.flatten := by
  unfold upto
  rw [List.take_of_length_le h, List.take_zero, List.append_nil]
theorem upto_len {ls : List (List Int)} {i j : Nat} : (upto ls i j).length ≤ ls.flatten.length := by
  unfold upto
  conv => rhs; rw [← List.take_append_drop i ls, List.flatten_append]
  rw [List.length_append, List.length_append]
  have : ((ls.getD i []).take j).length ≤ (ls.drop i).flatten.length := by
    by_cases hi : i < ls.length
    · rw [List.drop_eq_getElem_cons hi, List.flatten_cons, List.length_append, List.getD_eq_getElem?_getD, List.getElem?_eq_getElem hi, Option.getD_some, List.length_take]
      omega
    · rw [List.getD_eq_getElem?_getD, List.getElem?_eq_none (by omega)]
      simp
  omega
theorem ins_len (out : List Int) (n : Int) : (insI out n).length ≤ out.length + 1 := by
  unfold insI
  split
  · omega
  · rw [List.length_append, List.length_append]
    have h : (out.filter fun m => decide (m < n)).length + (out.filter fun m => decide (n < m)).length ≤ out.length := by
      have h1 := filter_both (fun m => decide (m < n)) out
      have h2 : (out.filter fun m => decide (n < m)).length ≤ (out.filter fun x => !decide (x < n)).length := by
        rw [← List.countP_eq_length_filter, ← List.countP_eq_length_filter]
        exact List.countP_mono_left fun x _ hx => by simp at hx ⊢; omega
      omega
    simp
    omega
theorem mrgF_len : ∀ (l out : List Int), (mrgF out l).length ≤ out.length + l.length
  | [], out => by simp [mrgF]
  | n :: l, out => by
    have h1 := mrgF_len l (insI out n)
    have h2 := ins_len out n
    show (mrgF (insI out n) l).length ≤ _
    rw [List.length_cons]
    omega
theorem filter_snoc {l : List Int} {k : Nat} {x : Int} (h : l[k]? = some x) (p : Int → Bool) : (l.take (k + 1)).filter p = (l.take k).filter p ++ if p x = true then [x] else [] := by
  rw [take_snoc h, List.filter_append]
  congr 1
  cases hp : p x <;> simp [hp]
set_option maxHeartbeats 2000000 in
theorem ref_Merge {A : Option Addr} {c : Nat} (ls : List (List Int)) (hl : ls.length ≤ 100000) (hf : ls.flatten.length ≤ 100000) (w : World) (ra : RdRows w w.heap.size A ls) :
    Calls Try.prog 33 #[.slice A ls.length c] w (OwnOf 3 .i64 w.heap.size (mrgV ls) w) := by
  have RA := hid ra
  have HL := hid (fun i j => (mrgF_len (upto ls i j) []))
  have HU := hid (fun i j => upto_len (ls := ls) (i := i) (j := j))
  have HE : Hid (mrgF [] (upto ls ls.length 0) = mrgV ls) := hid (by rw [upto_end ls (Nat.le_refl _)]; rfl)
  have HN : Hid (∀ i x, ls[i]? = some x → upto ls i x.length = upto ls (i + 1) 0) := hid (fun i x h => upto_next h)
  have HS : Hid (∀ i j x n, ls[i]? = some x → x[j]? = some n → mrgF [] (upto ls i (j + 1)) = insI (mrgF [] (upto ls i j)) n) := hid (fun i j x n h hj => by rw [upto_step h hj, mrg_snoc])
  have H0 : Hid (mrgF [] (upto ls 0 0) = []) := hid (by unfold upto; simp [mrgF])
  clear ra
  go_enter Try.func33, Try.ntmps33
  go_wp2_with fail
  go_loopw [3, 5, 7, 8, 10, 12, 15] (fun t x5 x7 x8 x10 x12 i wr => ∃ (k : Nat) (S : List Int) (A2 : Option Addr) (c2 : Nat), k ≤ ls.length ∧ i = .int .i64 k ∧ t = .slice A2 S.length c2 ∧ S = mrgF [] (upto ls k 0) ∧ wr.ownsRow w.heap.size 3 1 (.slice A2 S.length c2) S.length (S.map (Value.int .i64)) ∧ Below w.heap.size w wr) (fun _ _ _ _ _ _ i _ => ls.length - (intOf i).toNat)
  case atStart => exact ⟨0, [], none, 0, by omega, rfl, rfl, H0.out.symm, own_nil _ _ _, Below.refl _ _⟩
  case round =>
    obtain ⟨k, S, A2, c2, hk, rfl, rfl, hS, ho, hbel⟩ := hrel
    have HSk := hid hS
    have HO := hid ho
    clear hS ho
    by_cases hlt : k < ls.length
    · have hx0 : ls[k]? = some ls[k] := List.getElem?_eq_getElem hlt
      obtain ⟨x, hx⟩ : ∃ x, ls[k] = x := ⟨_, rfl⟩
      rw [hx] at hx0
      obtain ⟨b1, o1, Ax, cx, rfl, l1, c0, rx⟩ := RA.out k x hx0
      have c1 := (hbel.cell (p := ⟨b1, o1 + k, none⟩) l1).trans c0
      have RX := hid rx
      have HX := hid hx0
      have HNx := hid (HN.out k x hx0)
      have hxl : x.length ≤ 100000 := by
        have h1 := upto_len (ls := ls) (i := k) (j := x.length)
        unfold upto at h1
        rw [List.getD_eq_getElem?_getD, hx0, Option.getD_some, List.take_length, List.length_append] at h1
        omega
      clear hx hx0 rx c0
      go_wp2_with fail
      go_loopw [3, 7, 8, 10, 12, 21] (fun t x7 x8 x10 x12 i wr => ∃ (j : Nat) (S : List Int) (A2 : Option Addr) (c2 : Nat), j ≤ x.length ∧ i = .int .i64 j ∧ t = .slice A2 S.length c2 ∧ S = mrgF [] (upto ls k j) ∧ wr.ownsRow w.heap.size 3 1 (.slice A2 S.length c2) S.length (S.map (Value.int .i64)) ∧ Below w.heap.size w wr) (fun _ _ _ _ _ i _ => x.length - (intOf i).toNat)
      case atStart => exact ⟨0, S, A2, c2, by omega, rfl, rfl, HSk.out, HO.out, hbel⟩
      case round =>
        clear c1 hbel HSk HO
        obtain ⟨j, S, A2, c2s, hj, rfl, rfl, hS, ho, hbel⟩ := hrel
        have hSl : S.length ≤ 100000 := by
          rw [hS]
          have h1 := HL.out k j
          have h2 := HU.out k j
          simp at h1
          omega
        have HSj := hid hS
        have HO := hid ho
        clear hS ho
        by_cases hjl : j < x.length
        · obtain ⟨b2, o2, n, rfl, l2, en, c2⟩ := (RX.out.below hbel).at_ hjl
          have CI := hid (ref_in (A := A2) (c := c2s) S n (by omega) wr (own_rd HO.out))
          have HSn := hid (HS.out k j x n HX.out en)
          have HSj2 : Hid (S = mrgF [] (upto ls k j)) := HSj
          have HI1 : Hid (hasB S n = true → insI S n = S) := hid (fun h => by unfold insI; rw [if_pos (by unfold hasB at h; simpa using h)])
          have HI0 : Hid (hasB S n = false → insI S n = S.filter (fun m => decide (m < n)) ++ [n] ++ S.filter (fun m => decide (n < m))) := hid (fun h => by unfold insI; rw [if_neg (by unfold hasB at h; simpa using h)])
          obtain ⟨v, hv⟩ : ∃ v, hasB S n = v := ⟨_, rfl⟩
          rw [hv] at CI HI1 HI0
          clear en hv
          cases v with
          | true =>
            have HR : Hid (S = mrgF [] (upto ls k (j + 1))) := hid (by rw [HSn.out, ← HSj.out, HI1.out rfl])
            go_wp2_with fail
            refine CI.out.mono ?_
            rintro _ _ ⟨rfl, rfl⟩
            go_wp2_with fail
            go_roundw
            case rel => exact ⟨j + 1, S, A2, c2s, by omega, by go_num, rfl, HR.out, HO.out, hbel⟩
            case measure => simp [intOf]; omega
          | false =>
            have HR : Hid (S.filter (fun m => decide (m < n)) ++ [n] ++ S.filter (fun m => decide (n < m)) = mrgF [] (upto ls k (j + 1))) := hid (by rw [HSn.out, ← HSj.out, HI0.out rfl])
            have RS := hid (own_rd HO.out)
            have HW := hid hbel
            have hws := hbel.size
            clear HI1 HI0 HSn HSj2 HO hbel
            go_wp2_with fail
            refine CI.out.mono ?_
            rintro _ w2 ⟨rfl, hw2⟩
            have hw3 := hw2.symm
            subst hw3
            clear CI c2
            go_wp2_with fail
            go_loopw [8, 10, 30] (fun t x0 i wr => ∃ (q : Nat) (O : List Int) (A3 : Option Addr) (c3 : Nat), q ≤ S.length ∧ i = .int .i64 q ∧ t = .slice A3 O.length c3 ∧ O = (S.take q).filter (fun m => decide (m < n)) ∧ wr.ownsRow w2.heap.size 3 1 (.slice A3 O.length c3) O.length (O.map (Value.int .i64)) ∧ Below w2.heap.size w2 wr) (fun _ _ i _ => S.length - (intOf i).toNat)
            case atStart => exact ⟨0, [], none, 0, by omega, rfl, rfl, rfl, own_nil _ _ _, Below.refl _ _⟩
            case round =>
              obtain ⟨q, O, A3, c3, hq, rfl, rfl, hO, ho3, hb3⟩ := hrel
              have hOl : O.length ≤ 100000 := by rw [hO]; have := List.length_filter_le (fun m => decide (m < n)) (S.take q); rw [List.length_take] at this; omega
              have HOq := hid hO
              have HO3 := hid ho3
              clear hO ho3
              by_cases hql : q < S.length
              · obtain ⟨b4, o4, y, rfl, l4, ey, c4⟩ := (RS.out.below hb3).at_ hql
                have HF := hid (filter_snoc ey (fun m => decide (m < n)))
                clear ey
                by_cases hyn : y < n
                · have HF2 : Hid ((S.take (q + 1)).filter (fun m => decide (m < n)) = (S.take q).filter (fun m => decide (m < n)) ++ [y]) := hid (by rw [HF.out]; simp [hyn])
                  have hr0 : Rd (Value.int .i64) (wr.alloc (.cells #[.int .i64 y] 3)) _ (some ⟨wr.heap.size, 0, none⟩) [y] := rd_one (one_cell wr (.int .i64 y) 3).1
                  have h0' := own_on HO3.out ((Below.refl wr.heap.size wr).alloc (Nat.le_refl _) (.cells #[.int .i64 y] 3))
                  go_wp2_with (at_builtin; refine wpList_app (Value.int .i64) (fun _ => rfl) _ rfl _ _ 23 rfl w2.heap.size 3 (.int .i64 0) 8 Try.underlying23 info_int rfl O _ _ rfl h0' [y] _ 1 _ rfl hr0 (by simp [maxLen]; omega) (by simp; omega) (by have := hb3.size; simp; omega) ?_)
                  rintro O' A' c' w4 hO' ho4 hb4 _
                  have HO4 := hid ho4
                  have HEQ := hid hO'
                  clear hO' ho4 h0' hr0
                  go_wp2_with fail
                  go_roundw
                  case rel => exact ⟨q + 1, O', A', c', by omega, by go_num, rfl, by rw [HEQ.out, HF2.out, HOq.out], HO4.out, (hb3.alloc hb3.size _).trans hb4⟩
                  case measure => simp [intOf]; omega
                · have HF2 : Hid ((S.take (q + 1)).filter (fun m => decide (m < n)) = (S.take q).filter (fun m => decide (m < n))) := hid (by rw [HF.out]; simp [hyn])
                  go_wp2_with fail
                  go_roundw
                  case rel => exact ⟨q + 1, O, A3, c3, by omega, by go_num, rfl, by rw [HF2.out, HOq.out], HO3.out, hb3⟩
                  case measure => simp [intOf]; omega
              · have HOe : Hid (O = S.filter (fun m => decide (m < n))) := hid (by rw [HOq.out, List.take_of_length_le (by omega)])
                clear HOq
                have hr0 : Rd (Value.int .i64) (wr.alloc (.cells #[.int .i64 n] 3)) _ (some ⟨wr.heap.size, 0, none⟩) [n] := rd_one (one_cell wr (.int .i64 n) 3).1
                have h0' := own_on HO3.out ((Below.refl wr.heap.size wr).alloc (Nat.le_refl _) (.cells #[.int .i64 n] 3))
                go_wp2_with (at_builtin; refine wpList_app (Value.int .i64) (fun _ => rfl) _ rfl _ _ 23 rfl w2.heap.size 3 (.int .i64 0) 8 Try.underlying23 info_int rfl O _ _ rfl h0' [n] _ 1 _ rfl hr0 (by simp [maxLen]; omega) (by simp; omega) (by have := hb3.size; simp; omega) ?_)
                rintro O' A' c' w4 hO' ho4 hb4 _
                have HO4 := hid ho4
                have HEQ := hid hO'
                clear hO' ho4 h0' hr0
                go_wp2_with fail
                have hOl' : O'.length ≤ 100001 := by rw [HEQ.out, List.length_append, List.length_singleton]; omega
                have HP1 : Hid (O' = S.filter (fun m => decide (m < n)) ++ [n]) := hid (by rw [HEQ.out, HOe.out])
                have hb5 := (hb3.alloc hb3.size (.cells #[.int .i64 n] 3)).trans hb4
                clear HEQ HOe HO3 hb4
                go_loopw [8, 12, 48] (fun t x0 i wr => ∃ (q : Nat) (O : List Int) (A3 : Option Addr) (c3 : Nat), q ≤ S.length ∧ i = .int .i64 q ∧ t = .slice A3 O.length c3 ∧ O = S.filter (fun m => decide (m < n)) ++ [n] ++ (S.take q).filter (fun m => decide (n < m)) ∧ wr.ownsRow w2.heap.size 3 1 (.slice A3 O.length c3) O.length (O.map (Value.int .i64)) ∧ Below w2.heap.size w2 wr) (fun _ _ i _ => S.length - (intOf i).toNat)
                case atStart => exact ⟨0, O', A', c', by omega, rfl, rfl, by rw [HP1.out]; simp, HO4.out, hb5⟩
                case round =>
                  clear HO4 hb5 hb3
                  obtain ⟨q, O, A3, c3, hq, rfl, rfl, hO, ho3, hb3⟩ := hrel
                  have hOl : O.length ≤ 300000 := by
                    rw [hO, List.length_append, List.length_append]
                    have h1 := List.length_filter_le (fun m => decide (m < n)) S
                    have h2 := List.length_filter_le (fun m => decide (n < m)) (S.take q)
                    rw [List.length_take] at h2
                    simp
                    omega
                  have HOq := hid hO
                  have HO3 := hid ho3
                  clear hO ho3
                  by_cases hql : q < S.length
                  · obtain ⟨b4, o4, y, rfl, l4, ey, c4⟩ := (RS.out.below hb3).at_ hql
                    have HF := hid (filter_snoc ey (fun m => decide (n < m)))
                    clear ey
                    by_cases hyn : n < y
                    · have HF2 : Hid ((S.take (q + 1)).filter (fun m => decide (n < m)) = (S.take q).filter (fun m => decide (n < m)) ++ [y]) := hid (by rw [HF.out]; simp [hyn])
                      have hr0 : Rd (Value.int .i64) (wr.alloc (.cells #[.int .i64 y] 3)) _ (some ⟨wr.heap.size, 0, none⟩) [y] := rd_one (one_cell wr (.int .i64 y) 3).1
                      have h0' := own_on HO3.out ((Below.refl wr.heap.size wr).alloc (Nat.le_refl _) (.cells #[.int .i64 y] 3))
                      go_wp2_with (at_builtin; refine wpList_app (Value.int .i64) (fun _ => rfl) _ rfl _ _ 23 rfl w2.heap.size 3 (.int .i64 0) 8 Try.underlying23 info_int rfl O _ _ rfl h0' [y] _ 1 _ rfl hr0 (by simp [maxLen]; omega) (by simp; omega) (by have := hb3.size; simp; omega) ?_)
                      rintro O' A' c' w4 hO' ho4 hb4 _
                      have HO4 := hid ho4
                      have HEQ := hid hO'
                      clear hO' ho4 h0' hr0
                      go_wp2_with fail
                      go_roundw
                      case rel => exact ⟨q + 1, O', A', c', by omega, by go_num, rfl, by rw [HEQ.out, HF2.out, HOq.out, List.append_assoc], HO4.out, (hb3.alloc hb3.size _).trans hb4⟩
                      case measure => simp [intOf]; omega
                    · have HF2 : Hid ((S.take (q + 1)).filter (fun m => decide (n < m)) = (S.take q).filter (fun m => decide (n < m))) := hid (by rw [HF.out]; simp [hyn])
                      go_wp2_with fail
                      go_roundw
                      case rel => exact ⟨q + 1, O, A3, c3, by omega, by go_num, rfl, by rw [HF2.out, HOq.out], HO3.out, hb3⟩
                      case measure => simp [intOf]; omega
                  · have HOe : Hid (O = mrgF [] (upto ls k (j + 1))) := hid (by rw [HOq.out, List.take_of_length_le (by omega), HR.out])
                    have HO5 := hid (own_base HO3.out hws)
                    have k5 := HW.out.trans (hb3.mono hws)
                    clear HOq HO3
                    go_wp2_with fail
                    go_roundw
                    case rel => exact ⟨j + 1, O, A3, c3, by omega, by go_num, rfl, HOe.out, HO5.out, k5⟩
                    case measure => simp [intOf]; omega
        · obtain rfl : j = x.length := by omega
          have HS2 : Hid (S = mrgF [] (upto ls (k + 1) 0)) := hid (by rw [HSj.out, HNx.out])
          go_wp2_with fail
          go_roundw
          case rel => exact ⟨k + 1, S, A2, c2s, by omega, by go_num, rfl, HS2.out, HO.out, hbel⟩
          case measure => simp [intOf]; omega
    · obtain rfl : k = ls.length := by omega
      have h := HSk.out
      rw [HE.out] at h
      subst h
      go_wp2_with fail
      go_ret
      exact ⟨A2, c2, rfl, HO.out, hbel⟩
end Go.Proofs.Ytjkhdfncahhnoaa
