
/- Numbers put and got, one behind the other, by the program and by the document. -/
import Derived.Test.YtgdkmgepconnpaaLebB
namespace Go.Proofs.Ytgdkmgepconnpaa
open Go.RowKit
set_option maxHeartbeats 400000
set_option linter.unusedVariables false
theorem encs_step {l : List Int} {k : Nat} {x : Int} (h : l[k]? = some x) : encs (l.take (k + 1)) = encs (l.take k) ++ lebI x := by
  rw [List.take_add_one, h, encs_app]
  congr 1
  exact encs_one x
theorem encs_take {l : List Int} (h : U64s l) (k : Nat) : (encs (l.take k)).length ≤ 10 * l.length := by
  have h1 := encs_len (h.take k)
  have : (l.take k).length ≤ l.length := by rw [List.length_take]; omega
  omega
theorem ref_code (n : Int) (hn : U64 n) : ∀ w : World, Calls Try.prog 48 #[.int .u64 n] w (OwnOf 5 .u8 w.heap.size (lebI n) w) := by
  have key := leb_ind (p := fun n => n ≤ 18446744073709551615 → ∀ w : World, Calls Try.prog 48 #[.int .u64 n] w (OwnOf 5 .u8 w.heap.size (lebI n) w)) ?_ ?_ n hn.1 hn.2
  · exact key
  · intro n h0 h1 _ w
    have e1 : n % 256 = n := by omega
    have HL := hid (lebI_last h0 h1)
    go_enter Try.func48, Try.ntmps48
    go_wp2_with fail
    go_ret
    rw [HL.out]
    exact ⟨_, _, rfl, own_new (enc := Value.int .u8) w 5 [n] (by simp [maxLen]) (Nat.le_refl _), (one_cell w _ _).2⟩
  · intro n h1 ih h2 w
    have IH := hid (ih (by omega))
    have HT := hid (lebI_ten (n := n / 128) (by unfold U64; omega))
    have HL := hid (lebI_more h1)
    clear ih
    have e1 : n % 128 % 256 = n % 128 := by omega
    go_enter Try.func48, Try.ntmps48
    go_wp2_with fail
    refine (IH.out _).mono ?_
    rintro _ w1 ⟨A, c, rfl, ho, hb⟩
    have h0 := own_on (own_new (enc := Value.int .u8) w 5 [n % 128 + 128] (by simp [maxLen]) (Nat.le_refl _)) hb
    have hr := own_rd ho
    have HO := hid ho
    clear ho
    have hlt : (lebI (n / 128)).length ≤ 10 := HT.out
    have hz := (one_cell w (.int .u8 (n % 128 + 128)) 5).2.trans (hb.mono (by simp))
    go_wp2_with (at_builtin; refine wpList_app (Value.int .u8) (fun _ => rfl) _ rfl _ _ 23 rfl w.heap.size 5 (.int .u8 0) 1 Try.underlying23 info_u8 rfl [n % 128 + 128] _ _ rfl h0 (lebI (n / 128)) _ c _ rfl hr (by simp [maxLen]; omega) (by simp; omega) hz.size ?_)
    rintro S' A' c' w2 hS' ho hb1 _
    have HS' := hid hS'
    have HO' := hid ho
    clear hS' ho
    go_wp2_with fail
    go_ret
    rw [HL.out]
    have e : S' = (n % 128 + 128) :: lebI (n / 128) := HS'.out
    rw [← e]
    exact ⟨A', c', rfl, HO'.out, hz.trans hb1⟩
theorem leb_Put {A B : Option Addr} {c d : Nat} (b l : List Int) (hb : b.length ≤ 50000) (hl : l.length ≤ 5000) (ul : U64s l) (w : World) (ra : Rd (Value.int .u8) w w.heap.size A b) (rl : Rd (Value.int .u64) w w.heap.size B l) :
    Calls Try.prog 31 #[.slice A b.length c, .slice B l.length d] w (OwnOf 5 .u8 w.heap.size (b ++ encs l) w) := by
  have HA := hid ra
  have HL := hid rl
  have UL := hid ul
  have HT : Hid (∀ k, (encs (l.take k)).length ≤ 10 * l.length) := encs_take ul
  clear ra rl ul
  go_enter Try.func31, Try.ntmps31
  go_wp2_with fail
  go_loop [5, 15] (fun s i => ∃ (k T : Nat), k ≤ l.length ∧ i = .int .i64 k ∧ s = .int .i64 T ∧ T = b.length + (encs (l.take k)).length) (fun _ i => l.length - (intOf i).toNat)
  case atStart => exact ⟨0, b.length, by omega, rfl, rfl, by rw [List.take_zero]; rfl⟩
  case round =>
    obtain ⟨k, T, hk, rfl, rfl, hT⟩ := hrel
    have hTb : T ≤ 100000 := by have := HT.out k; omega
    have HTT := hid hT
    clear hT
    by_cases hlt : k < l.length
    · obtain ⟨b1, o1, x, rfl, l1, ex, c1⟩ := HL.out.at_ hlt
      have CS := hid (leb_Size x (UL.out.at_ ex))
      have ht : (lebI x).length ≤ 10 := lebI_ten (UL.out.at_ ex)
      obtain ⟨y, hy⟩ : ∃ y, (lebI x).length = y := ⟨_, rfl⟩
      rw [hy] at CS ht
      have HY := hid hy
      have EX := hid ex
      clear hy ex
      go_wp2_with fail
      refine (CS.out _).mono ?_
      rintro _ _ ⟨rfl, rfl⟩
      go_wp2_with fail
      go_round
      case rel => exact ⟨k + 1, T + y, by omega, by go_num, by go_num, by rw [encs_step EX.out, List.length_append, HTT.out, HY.out]; omega⟩
      case measure => simp [intOf]; omega
    · have hk2 : k = l.length := by omega
      clear HTT hk2 hk
      have hmk := fun W => run_room (P := Try.prog) 23 5 (.int .u8 0) 1 Try.underlying23 info_u8 rfl T (by omega) (by omega) W
      have h0 := own_room w 5 (.int .u8 0) T (by simp [maxLen]; omega) (Nat.le_refl _)
      have hb0 : Below w.heap.size w (w.alloc (.cells (madeCells #[.int .u8 0] T) 5)) := (Below.refl _ _).alloc (Nat.le_refl _) _
      have hr0 := HA.out.below hb0
      go_wp2_with (at_builtin; refine wpList_app (Value.int .u8) (fun _ => rfl) _ rfl _ _ 23 rfl w.heap.size 5 (.int .u8 0) 1 Try.underlying23 info_u8 rfl [] _ T rfl h0 b _ c _ rfl hr0 (by simp [maxLen]; omega) (by simp; omega) (by simp) ?_)
      rintro S A' c' w1 hS ho hb1 _
      have hb2 := hb0.trans hb1
      have HO := hid ho
      have HS := hid hS
      clear hS ho hmk h0 hr0 hb1 hb0
      go_wp2_with fail
      go_loopw [8, 30] (fun t i wr => ∃ (k : Nat) (S : List Int) (A2 : Option Addr) (c2 : Nat), k ≤ l.length ∧ i = .int .i64 k ∧ t = .slice A2 S.length c2 ∧ S = b ++ encs (l.take k) ∧ wr.ownsRow w.heap.size 5 1 (.slice A2 S.length c2) S.length (S.map (Value.int .u8)) ∧ Below w.heap.size w wr) (fun _ i _ => l.length - (intOf i).toNat)
      case atStart => exact ⟨0, S, A', c', by omega, rfl, rfl, by rw [HS.out]; simp [encs], HO.out, hb2⟩
      case round =>
        obtain ⟨k, S, A2, c2, hk, rfl, rfl, hS, ho, hb3⟩ := hrel
        have hSl : S.length ≤ 100000 := by have := HT.out k; rw [hS, List.length_append]; omega
        have HS := hid hS
        have HO := hid ho
        clear hS ho
        by_cases hlt : k < l.length
        · obtain ⟨b1, o1, x, rfl, l1, ex, c1⟩ := (HL.out.below hb3).at_ hlt
          have CC := hid (code_any w.heap.size S x A2 c2 wr HO.out hSl (UL.out.at_ ex) hb3.size)
          obtain ⟨R, hR⟩ : ∃ R, S ++ lebI x = R := ⟨_, rfl⟩
          rw [hR] at CC
          have HR := hid hR
          have EX := hid ex
          clear hR ex
          go_wp2_with fail
          refine CC.out.mono ?_
          rintro _ w4 ⟨A4, c4, rfl, ho, hb4⟩
          have HO4 := hid ho
          clear ho
          go_wp2_with fail
          go_roundw
          case rel => exact ⟨k + 1, R, A4, c4, by omega, by go_num, rfl, by rw [encs_step EX.out, ← HR.out, HS.out, List.append_assoc], HO4.out, hb3.trans hb4⟩
          case measure => simp [intOf]; omega
        · obtain rfl : k = l.length := by omega
          go_wp2_with fail
          go_ret
          have e : S = b ++ encs l := by rw [HS.out, List.take_length]
          rw [← e]
          exact ⟨A2, c2, rfl, HO.out, hb3⟩
end Go.Proofs.Ytgdkmgepconnpaa
