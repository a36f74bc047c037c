
/- Signed numbers put; numbers put by the document; one got signed; many got; lists that are the same. -/
import Derived.Test.YtgdkmgepconnpaaLebC
namespace Go.Proofs.Ytgdkmgepconnpaa
open Go.RowKit
set_option maxHeartbeats 400000
set_option linter.unusedVariables false
theorem ref_Put {A B : Option Addr} {c d : Nat} (b l : List Int) (hb : b.length ≤ 50000) (hl : l.length ≤ 2000) (ul : U64s l) (w : World) (ra : Rd (Value.int .u8) w w.heap.size A b) (rl : Rd (Value.int .u64) w w.heap.size B l) :
    Calls Try.prog 33 #[.slice A b.length c, .slice B l.length d] w (OwnOf 5 .u8 w.heap.size (b ++ encs l) w) := by
  have HA := hid ra
  have HL := hid rl
  have UL := hid ul
  have HT : Hid (∀ k, (encs (l.take k)).length ≤ 10 * l.length) := encs_take ul
  clear ra rl ul
  go_enter Try.func33, Try.ntmps33
  go_wp2_with (at_builtin; refine wpList_app (Value.int .u8) (fun _ => rfl) _ rfl _ _ 23 rfl w.heap.size 5 (.int .u8 0) 1 Try.underlying23 info_u8 rfl [] _ 0 rfl (own_nil _ _ _) b _ c _ rfl HA.out (by simp [maxLen]; omega) (by simp; omega) (Nat.le_refl _) ?_)
  rintro S A' c' w1 hS ho hb2 _
  have HO := hid ho
  have HS := hid hS
  clear hS ho
  go_wp2_with fail
  go_loopw [5, 12] (fun t i wr => ∃ (k : Nat) (S : List Int) (A2 : Option Addr) (c2 : Nat), k ≤ l.length ∧ i = .int .i64 k ∧ t = .slice A2 S.length c2 ∧ S = b ++ encs (l.take k) ∧ wr.ownsRow w.heap.size 5 1 (.slice A2 S.length c2) S.length (S.map (Value.int .u8)) ∧ Below w.heap.size w wr) (fun _ i _ => l.length - (intOf i).toNat)
  case atStart => exact ⟨0, S, A', c', by omega, rfl, rfl, by rw [HS.out]; simp [encs], HO.out, hb2⟩
  case round =>
    obtain ⟨k, S, A2, c2, hk, rfl, rfl, hS, ho, hb3⟩ := hrel
    have hSl : S.length ≤ 100000 := by have := HT.out k; rw [hS, List.length_append]; omega
    have HS := hid hS
    have HO := hid ho
    clear hS ho
    by_cases hlt : k < l.length
    · obtain ⟨b1, o1, x, rfl, l1, ex, c1⟩ := (HL.out.below hb3).at_ hlt
      have CC := hid (ref_code x (UL.out.at_ ex))
      have hRl : (lebI x).length ≤ 10 := lebI_ten (UL.out.at_ ex)
      obtain ⟨R, hR⟩ : ∃ R, lebI x = R := ⟨_, rfl⟩
      rw [hR] at CC hRl
      have HR := hid hR
      have EX := hid ex
      clear hR ex
      go_wp2_with fail
      refine (CC.out _).mono ?_
      rintro _ w4 ⟨A4, c4, rfl, ho, hb4⟩
      have hr4 := own_rd ho
      have h4 := own_on HO.out hb4
      have hb5 := hb3.trans (hb4.mono hb3.size)
      clear ho
      go_wp2_with (at_builtin; refine wpList_app (Value.int .u8) (fun _ => rfl) _ rfl _ _ 23 rfl w.heap.size 5 (.int .u8 0) 1 Try.underlying23 info_u8 rfl S _ _ rfl h4 R _ c4 _ rfl hr4 (by simp [maxLen]; omega) (by simp; omega) hb5.size ?_)
      rintro S' A' c' w5 hS' ho hb6 _
      have HS' := hid hS'
      have HO' := hid ho
      clear hS' ho
      go_wp2_with fail
      go_roundw
      case rel => exact ⟨k + 1, S', A', c', by omega, by go_num, rfl, by rw [encs_step EX.out, HR.out, HS'.out, HS.out, List.append_assoc], HO'.out, hb5.trans hb6⟩
      case measure => simp [intOf]; omega
    · obtain rfl : k = l.length := by omega
      go_wp2_with fail
      go_ret
      have e : S = b ++ encs l := by rw [HS.out, List.take_length]
      rw [← e]
      exact ⟨A2, c2, rfl, HO.out, hb3⟩
theorem encs_zig_step {l : List Int} {k : Nat} {x : Int} (h : l[k]? = some x) : encs ((l.take (k + 1)).map zigI) = encs ((l.take k).map zigI) ++ lebI (zigI x) := by
  rw [List.take_add_one, h, List.map_append, encs_app]
  congr 1
  exact encs_one _
end Go.Proofs.Ytgdkmgepconnpaa
