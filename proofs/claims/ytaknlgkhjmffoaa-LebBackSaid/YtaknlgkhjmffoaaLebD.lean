
/- Signed numbers put; numbers put by the document; one got signed; many got; lists that are the same. -/
import Derived.Test.YtaknlgkhjmffoaaLebC
namespace Go.Proofs.Ytaknlgkhjmffoaa
open Go.RowKit
set_option maxHeartbeats 400000
set_option linter.unusedVariables false
theorem ref_Put {A B : Option Addr} {c d : Nat} (b l : List Int) (hb : b.length ≤ 50000) (hl : l.length ≤ 2000) (ul : U64s l) (w : World) (ra : Rd (Value.int .u8) w w.heap.size A b) (rl : Rd (Value.int .u64) w w.heap.size B l) :
    Calls Try.prog 14 #[.slice A b.length c, .slice B l.length d] w (OwnOf 5 .u8 w.heap.size (b ++ encs l) w) := by
  have HA := hid ra
  have HL := hid rl
  have UL := hid ul
  have HT : Hid (∀ k, (encs (l.take k)).length ≤ 10 * l.length) := encs_take ul
  clear ra rl ul
  go_enter Try.func14, Try.ntmps14
  go_wp2_with (at_builtin; refine wpList_app (Value.int .u8) (fun _ => rfl) _ rfl _ _ 22 rfl w.heap.size 5 (.int .u8 0) 1 Try.underlying22 info_u8 rfl [] _ 0 rfl (own_nil _ _ _) b _ c _ rfl HA.out (by simp [maxLen]; omega) (by simp; omega) (Nat.le_refl _) ?_)
  rintro S A' c' w1 hS ho hb2 _
  have HO := hid ho
  have HS := hid hS
  clear hS ho
  go_wp2_with fail
  go_loopw [5, 12] (fun t i wr => ∃ (k : Nat) (S : List Int) (A2 : Option Addr) (c2 : Nat), k ≤ l.length ∧ i = .int .i64 k ∧ t = .slice A2 S.length c2 ∧ S = b ++ encs (l.take k) ∧ wr.ownsRow w.heap.size 5 1 (.slice A2 S.length c2) S.length (S.map (Value.int .u8)) ∧ Below w.heap.size w wr) (fun _ i _ => l.length - (intOf i).toNat)
  case atStart => exact ⟨0, S, A', c', by omega, rfl, rfl, by rw [HS.out]; simp [encs], HO.out, hb2⟩
  case round =>
    obtain ⟨k, S, A2, c2, hk, rfl, rfl, hS, ho, hb3⟩ := hrel
    have hSl : S.length ≤ 100000 := by have := HT.out k; rw [hS, List.length_append]; omega
    have HS := hid hS
    have HO := hid ho
    clear hS ho
    by_cases hlt : k < l.length
    · obtain ⟨b1, o1, x, rfl, l1, ex, c1⟩ := (HL.out.below hb3).at_ hlt
      have CC := hid (ref_code x (UL.out.at_ ex))
      have hRl : (lebI x).length ≤ 10 := lebI_ten (UL.out.at_ ex)
      obtain ⟨R, hR⟩ : ∃ R, lebI x = R := ⟨_, rfl⟩
      rw [hR] at CC hRl
      have HR := hid hR
      have EX := hid ex
      clear hR ex
      go_wp2_with fail
      refine (CC.out _).mono ?_
      rintro _ w4 ⟨A4, c4, rfl, ho, hb4⟩
      have hr4 := own_rd ho
      have h4 := own_on HO.out hb4
      have hb5 := hb3.trans (hb4.mono hb3.size)
      clear ho
      go_wp2_with (at_builtin; refine wpList_app (Value.int .u8) (fun _ => rfl) _ rfl _ _ 22 rfl w.heap.size 5 (.int .u8 0) 1 Try.underlying22 info_u8 rfl S _ _ rfl h4 R _ c4 _ rfl hr4 (by simp [maxLen]; omega) (by simp; omega) hb5.size ?_)
      rintro S' A' c' w5 hS' ho hb6 _
      have HS' := hid hS'
      have HO' := hid ho
      clear hS' ho
      go_wp2_with fail
      go_roundw
      case rel => exact ⟨k + 1, S', A', c', by omega, by go_num, rfl, by rw [encs_step EX.out, HR.out, HS'.out, HS.out, List.append_assoc], HO'.out, hb5.trans hb6⟩
      case measure => simp [intOf]; omega
    · obtain rfl : k = l.length := by omega
      go_wp2_with fail
      go_ret
      have e : S = b ++ encs l := by rw [HS.out, List.take_length]
      rw [← e]
      exact ⟨A2, c2, rfl, HO.out, hb3⟩
theorem encs_zig_step {l : List Int} {k : Nat} {x : Int} (h : l[k]? = some x) : encs ((l.take (k + 1)).map zigI) = encs ((l.take k).map zigI) ++ lebI (zigI x) := by
  rw [List.take_add_one, h, List.map_append, encs_app]
  congr 1
  exact encs_one _
theorem ref_Signed {A B : Option Addr} {c d : Nat} (b l : List Int) (hb : b.length ≤ 50000) (hl : l.length ≤ 2000) (ul : I64s l) (w : World) (ra : Rd (Value.int .u8) w w.heap.size A b) (rl : Rd (Value.int .i64) w w.heap.size B l) :
    Calls Try.prog 15 #[.slice A b.length c, .slice B l.length d] w (OwnOf 5 .u8 w.heap.size (b ++ encs (l.map zigI)) w) := by
  have HA := hid ra
  have HL := hid rl
  have UL := hid ul
  have HT : Hid (∀ k, (encs ((l.take k).map zigI)).length ≤ 10 * l.length) := fun k => by
    have := encs_take (zigs_u64 ul) k
    rwa [List.length_map, ← List.map_take] at this
  clear ra rl ul
  go_enter Try.func15, Try.ntmps15
  go_wp2_with (at_builtin; refine wpList_app (Value.int .u8) (fun _ => rfl) _ rfl _ _ 22 rfl w.heap.size 5 (.int .u8 0) 1 Try.underlying22 info_u8 rfl [] _ 0 rfl (own_nil _ _ _) b _ c _ rfl HA.out (by simp [maxLen]; omega) (by simp; omega) (Nat.le_refl _) ?_)
  rintro S A' c' w1 hS ho hb2 _
  have HO := hid ho
  have HS := hid hS
  clear hS ho
  go_wp2_with fail
  go_loopw [5, 12] (fun t i wr => ∃ (k : Nat) (S : List Int) (A2 : Option Addr) (c2 : Nat), k ≤ l.length ∧ i = .int .i64 k ∧ t = .slice A2 S.length c2 ∧ S = b ++ encs ((l.take k).map zigI) ∧ wr.ownsRow w.heap.size 5 1 (.slice A2 S.length c2) S.length (S.map (Value.int .u8)) ∧ Below w.heap.size w wr) (fun _ i _ => l.length - (intOf i).toNat)
  case atStart => exact ⟨0, S, A', c', by omega, rfl, rfl, by rw [HS.out]; simp [encs], HO.out, hb2⟩
  case round =>
    obtain ⟨k, S, A2, c2, hk, rfl, rfl, hS, ho, hb3⟩ := hrel
    have hSl : S.length ≤ 100000 := by have := HT.out k; rw [hS, List.length_append]; omega
    have HS := hid hS
    have HO := hid ho
    clear hS ho
    by_cases hlt : k < l.length
    · obtain ⟨b1, o1, x, rfl, l1, ex, c1⟩ := (HL.out.below hb3).at_ hlt
      have CZ := hid (ref_Zig x (UL.out.at_ ex))
      have hz := zig_u64 (UL.out.at_ ex)
      obtain ⟨z, hzz⟩ : ∃ z, zigI x = z := ⟨_, rfl⟩
      rw [hzz] at CZ hz
      have CC := hid (ref_code z hz)
      have hRl : (lebI z).length ≤ 10 := lebI_ten hz
      obtain ⟨R, hR⟩ : ∃ R, lebI z = R := ⟨_, rfl⟩
      rw [hR] at CC hRl
      have HR := hid hR
      have HZ := hid hzz
      have EX := hid ex
      clear hR ex hz hzz
      go_wp2_with fail
      refine (CZ.out _).mono ?_
      rintro _ _ ⟨rfl, rfl⟩
      go_wp2_with fail
      refine (CC.out _).mono ?_
      rintro _ w4 ⟨A4, c4, rfl, ho, hb4⟩
      have hr4 := own_rd ho
      have h4 := own_on HO.out hb4
      have hb5 := hb3.trans (hb4.mono hb3.size)
      clear ho
      go_wp2_with (at_builtin; refine wpList_app (Value.int .u8) (fun _ => rfl) _ rfl _ _ 22 rfl w.heap.size 5 (.int .u8 0) 1 Try.underlying22 info_u8 rfl S _ _ rfl h4 R _ c4 _ rfl hr4 (by simp [maxLen]; omega) (by simp; omega) hb5.size ?_)
      rintro S' A' c' w5 hS' ho hb6 _
      have HS' := hid hS'
      have HO' := hid ho
      clear hS' ho
      go_wp2_with fail
      go_roundw
      case rel => exact ⟨k + 1, S', A', c', by omega, by go_num, rfl, by rw [encs_zig_step EX.out, HZ.out, HR.out, HS'.out, HS.out, List.append_assoc], HO'.out, hb5.trans hb6⟩
      case measure => simp [intOf]; omega
    · obtain rfl : k = l.length := by omega
      go_wp2_with fail
      go_ret
      have e : S = b ++ encs (l.map zigI) := by rw [HS.out, List.take_length]
      rw [← e]
      exact ⟨A2, c2, rfl, HO.out, hb3⟩
theorem OwnOf.onto {t : TypeId} {k : IntKind} {xs : List Int} {B : Nat} {w wl w' : World} {e : Ending} (h : OwnOf t k wl.heap.size xs wl e w') (hb : Below B w wl) (hB : B ≤ wl.heap.size) : OwnOf t k B xs w e w' := by
  obtain ⟨A, c, he, ho, hk⟩ := h
  exact ⟨A, c, he, own_base ho hB, hb.trans (hk.mono hB)⟩
theorem leb_Signed {A B : Option Addr} {c d : Nat} (b l : List Int) (hb : b.length ≤ 50000) (hl : l.length ≤ 2000) (ul : I64s l) (w : World) (ra : Rd (Value.int .u8) w w.heap.size A b) (rl : Rd (Value.int .i64) w w.heap.size B l) :
    Calls Try.prog 12 #[.slice A b.length c, .slice B l.length d] w (OwnOf 5 .u8 w.heap.size (b ++ encs (l.map zigI)) w) := by
  obtain ⟨R, hR⟩ : ∃ R, b ++ encs (l.map zigI) = R := ⟨_, rfl⟩
  rw [hR]
  have HR := hid hR
  clear hR
  have HA := hid ra
  have HL := hid rl
  have UL := hid ul
  have hmk := fun W => run_make_row' (P := Try.prog) 23 25 (.int .u64 0) 8 Try.underlying23 info_u64 rfl .i64 .i64 l.length (by omega) (by omega) W
  clear ra rl ul
  go_enter Try.func12, Try.ntmps12
  go_wp2_with fail
  go_loopw [13] (fun i wr => ∃ k : Nat, k ≤ l.length ∧ i = .int .i64 k ∧ wr.rowIs w.heap.size 25 l.length (fun j => if j < k then .int .u64 (zigI (l.getD j 0)) else .int .u64 0) ∧ Below w.heap.size w wr) (fun i _ => l.length - (intOf i).toNat)
  case atStart => exact ⟨0, by omega, rfl, by simpa using World.rowIs_made w (.int .u64 0) l.length _, by go_grown⟩
  case round =>
    obtain ⟨k, hk, rfl, hrow, hbel⟩ := hrel
    have hz := hrow.lt
    clear hmk
    by_cases hlt : k < l.length
    · obtain ⟨b1, o1, x, rfl, l1, ex, c1⟩ := (HL.out.below hbel).at_ hlt
      have CZ := hid (leb_Zig x (UL.out.at_ ex))
      obtain ⟨z, hzz⟩ : ∃ z, zigI x = z := ⟨_, rfl⟩
      rw [hzz] at CZ
      have HZ : Hid (zigI (l.getD k 0) = z) := by rw [getD_of ex]; exact hzz
      have f1 := hrow.frozen k
      have c2 := hrow.cell hlt
      rw [if_neg (Nat.lt_irrefl k)] at c2
      clear ex hzz
      go_wp2_with fail
      refine (CZ.out _).mono ?_
      rintro _ _ ⟨rfl, rfl⟩
      go_wp2_with fail
      go_roundw
      case rel =>
        refine ⟨k + 1, by omega, by go_num, ?_, hbel.setCell (Nat.le_refl _) _⟩
        refine (hrow.set k (.int .u64 z)).congr fun j hj => ?_
        by_cases e : j = k
        · subst e
          rw [if_pos rfl, if_pos (by omega), HZ.out]
        · rw [if_neg e]
          by_cases e2 : j < k
          · rw [if_pos e2, if_pos (by omega)]
          · rw [if_neg e2, if_neg (by omega)]
      case measure => simp [intOf]; omega
    · obtain rfl : k = l.length := by omega
      have hr2 : Rd (Value.int .u64) wr wr.heap.size (some ⟨w.heap.size, 0, none⟩) (l.map zigI) := fun j y hy => by
        rw [List.getElem?_map, Option.map_eq_some_iff] at hy
        obtain ⟨x, hx, rfl⟩ := hy
        have hj := (List.getElem?_eq_some_iff.1 hx).1
        refine ⟨w.heap.size, 0, rfl, hz, ?_⟩
        rw [Nat.zero_add, hrow.cell hj, if_pos hj, getD_of hx]
      have CP := hid (leb_Put (c := c) (d := l.length) b (l.map zigI) hb (by simpa using hl) (zigs_u64 UL.out) wr (HA.out.on hbel) hr2)
      rw [List.length_map, HR.out] at CP
      clear hr2 hrow
      go_wp2_with fail
      refine CP.out.mono ?_
      rintro _ w3 ho3
      have HO := hid (OwnOf.onto ho3 hbel hbel.size)
      obtain ⟨A3, c3, rfl, _, _⟩ := ho3
      go_wp2_with fail
      go_ret
      exact HO.out
end Go.Proofs.Ytaknlgkhjmffoaa
