
/- Numbers unwoven, signs read, by the document; lists of signs that are the same. -/
import Derived.Test.YtgkkliibeiklbaaPlE
namespace Go.Proofs.Ytgkkliibeiklbaa
open Go.RowKit
set_option maxHeartbeats 400000
set_option linter.unusedVariables false
theorem ref_Unweave {A : Option Addr} {c : Nat} (wd many : Int) (b : List Int) (hw : I64 wd) (hm : I64 many) (hl : b.length ≤ 100000) (ub : U8s b) (w : World) (ra : Rd (Value.int .u8) w w.heap.size A b) :
    Calls Try.prog 35 #[.int .i64 wd, .int .i64 many, .slice A b.length c] w (OwnE 43 .u64 w.heap.size (uwvV wd many b) (bitE wd many b) w) := by
  have CB := hid (ref_bits (A := A) (c := c) wd many b hw hm hl ub w ra)
  by_cases h : bitE wd many b = 0
  · have hwm := bys_ok (bitE_ok h).1
    obtain ⟨k, rfl⟩ := Int.eq_ofNat_of_zero_le hwm.1.1
    obtain ⟨m, rfl⟩ := Int.eq_ofNat_of_zero_le hwm.2.1
    have hk : k ≤ 32 := by omega
    have hm4 : m ≤ 4096 := by omega
    have hV : bitV k m b = mkB (k * m) (fB b) := by unfold bitV; rw [if_pos h, Int.toNat_natCast, Int.toNat_natCast]
    have hU : uwvV k m b = (List.range m).map (fun i => nmF k fun t => fB b (t * m + i)) := by unfold uwvV; rw [if_pos h, Int.toNat_natCast, Int.toNat_natCast]
    rw [hV, h] at CB
    rw [hU, h]
    obtain ⟨f, hf⟩ : ∃ f, fB b = f := ⟨_, rfl⟩
    rw [hf] at CB ⊢
    obtain ⟨L, hL⟩ : ∃ L, mkB (k * m) f = L := ⟨_, rfl⟩
    have HLa : Hid (∀ i t, i < m → t < k → L[t * m + i]? = some (f (t * m + i))) := hid (fun i t hi ht => by rw [← hL]; exact mkB_at f (by have := place_lt ht hi; rw [Nat.mul_comm m k] at this; exact this))
    rw [hL] at CB
    have hmk := fun W => run_make_row' (P := Try.prog) 37 43 (.int .u64 0) 8 Try.underlying37 info_u64 rfl .i64 .i64 m (by omega) (by omega) W
    clear h hf ra ub hw hm hwm hV hU hL hl
    go_enter Try.func35, Try.ntmps35
    go_wp2_with fail
    refine CB.out.mono ?_
    rintro _ w1 ⟨A1, c1, rfl, hLc, hcm, hr, hb1⟩
    have RL := hid hr
    clear hr
    go_wp2_with fail
    go_loopw [11, 27] (fun i0 i wr => ∃ n : Nat, n ≤ m ∧ i = .int .i64 n ∧ wr.rowIs w1.heap.size 43 m (fun j => .int .u64 (if j < n then nmF k (fun t => f (t * m + j)) else 0)) ∧ Below w1.heap.size w1 wr) (fun _ i _ => m - (intOf i).toNat)
    case atStart => exact ⟨0, by omega, rfl, by simpa using World.rowIs_made w1 (.int .u64 0) m _, by go_grown⟩
    case round =>
      obtain ⟨n, hn, rfl, hrow, hbel⟩ := hrel
      have HR := hid hrow
      clear hmk
      by_cases hlt : n < m
      · have HLb := hid (fun t (ht : t < k) => HLa.out n t hlt ht)
        have HROW : Hid (wr.rowIs w1.heap.size 43 m (fun j => .int .u64 (if j = n then nmF 0 (fun t => f (t * m + n)) else if j < n then nmF k (fun t => f (t * m + j)) else 0))) := hid (HR.out.congr fun j hj => by
          by_cases e : j = n
          · rw [if_pos e, if_neg (by omega)]; rfl
          · rw [if_neg e])
        clear hrow HR
        go_wp2_with fail
        go_loopw [12, 31] (fun k0 s wr => ∃ t : Nat, t ≤ k ∧ s = .int .i64 t ∧ wr.rowIs w1.heap.size 43 m (fun j => .int .u64 (if j = n then nmF t (fun t => f (t * m + n)) else if j < n then nmF k (fun t => f (t * m + j)) else 0)) ∧ Below w1.heap.size w1 wr) (fun _ s _ => k - (intOf s).toNat)
        case atStart => exact ⟨0, by omega, rfl, HROW.out, hbel⟩
        case round =>
          obtain ⟨t, ht, rfl, hrow, hbel⟩ := hrel
          clear HROW
          have HR := hid hrow
          by_cases htl : t < k
          · have f1 := hrow.frozen n
            have c2 := hrow.cell hlt
            rw [if_pos rfl] at c2
            have hyb := nmF_32 (t := t) (k := k) ht hk (fun t => f (t * m + n))
            have HZ : Hid (nmF (t + 1) (fun t => f (t * m + n)) = 2 * nmF t (fun t => f (t * m + n)) + if f (t * m + n) = true then 1 else 0) := rfl
            obtain ⟨y, hy⟩ : ∃ y, nmF t (fun t => f (t * m + n)) = y := ⟨_, rfl⟩
            rw [hy] at c2 hyb HZ
            have hlb := HLb.out t htl
            obtain ⟨P, hP⟩ : ∃ P, t * m = P := ⟨_, rfl⟩
            have hmul : (t : Int) * (m : Int) = (P : Int) := by rw [← hP, Int.natCast_mul]
            have hPl : P ≤ 131072 := by
              have := Nat.mul_le_mul (show t ≤ 32 by omega) hm4
              omega
            rw [hP] at hlb HZ
            clear hP
            obtain ⟨v, hv⟩ : ∃ v, f (P + n) = v := ⟨_, rfl⟩
            rw [hv] at HZ hlb
            have hLt := (List.getElem?_eq_some_iff.1 hlb).1
            obtain ⟨b1, o1, e1, l1, c3⟩ := (RL.out.on hbel) (P + n) v hlb
            subst e1
            have hne : b1 ≠ w1.heap.size ∨ b1 = w1.heap.size := by omega
            have l2 : b1 < w1.heap.size := by
              obtain ⟨b2, o2, e2, l2, _⟩ := RL.out (P + n) v hlb
              injection e2 with e2
              injection e2 with e2 _
              omega
            clear hrow hy hv hlb hne
            cases v with
            | false =>
              go_wp2_with fail
              go_roundw
              case rel =>
                refine ⟨t + 1, by omega, by go_num, ?_, hbel.setCell (Nat.le_refl _) _⟩
                refine World.rowIs.congr (HR.out.set n (.int .u64 (y * 2))) fun j hj => ?_
                by_cases e : j = n
                · rw [if_pos e, if_pos e, HZ.out]
                  congr 1
                  simp
                  omega
                · rw [if_neg e, if_neg e, if_neg e]
              case measure => simp [intOf]; omega
            | true =>
              go_wp2_with fail
              go_roundw
              case rel =>
                refine ⟨t + 1, by omega, by go_num, ?_, (hbel.setCell (Nat.le_refl _) _).setCell (Nat.le_refl _) _⟩
                refine World.rowIs.congr ((HR.out.set n (.int .u64 (y * 2))).set n (.int .u64 (y * 2 + 1))) fun j hj => ?_
                by_cases e : j = n
                · rw [if_pos e, if_pos e, HZ.out]
                  congr 1
                  simp
                  omega
                · rw [if_neg e, if_neg e, if_neg e, if_neg e]
              case measure => simp [intOf]; omega
          · obtain rfl : t = k := by omega
            have HN2 : Hid (wr.rowIs w1.heap.size 43 m (fun j => .int .u64 (if j < n + 1 then nmF t (fun s => f (s * m + j)) else 0))) := hid (HR.out.congr fun j hj => by
              by_cases e : j = n
              · rw [if_pos e, if_pos (by omega), e]
              · rw [if_neg e]
                by_cases e2 : j < n
                · rw [if_pos e2, if_pos (by omega)]
                · rw [if_neg e2, if_neg (by omega)])
            clear hrow HR
            go_wp2_with fail
            go_roundw
            case rel => exact ⟨n + 1, by omega, by go_num, HN2.out, hbel⟩
            case measure => simp [intOf]; omega
      · obtain rfl : n = m := by omega
        have k1 := hb1.trans (hbel.mono hb1.size)
        clear hrow
        go_wp2_with fail
        go_ret2
        have h := own_made (w' := wr) HR.out (show w.heap.size ≤ w1.heap.size from hb1.size) (by unfold maxLen; omega)
        refine ⟨some ⟨w1.heap.size, 0, none⟩, n, ?_, ?_, k1⟩
        · rw [List.length_map, List.length_range]; rfl
        · rw [List.length_map, List.length_range, List.map_map]
          have e : (List.range n).map (Value.int .u64 ∘ fun i => nmF k fun t => f (t * n + i)) = (List.range n).map (fun j => .int .u64 (if j < n then nmF k (fun t => f (t * n + j)) else 0)) := List.map_congr_left fun j hj => by
            have := List.mem_range.1 hj
            show Value.int .u64 _ = _
            rw [if_pos this]
          rw [e]
          exact h
  · have e : uwvV wd many b = [] := if_neg h
    have e2 : bitV wd many b = [] := if_neg h
    rw [e]
    rw [e2] at CB
    obtain ⟨E, hE⟩ : ∃ E, bitE wd many b = E := ⟨_, rfl⟩
    rw [hE] at CB h ⊢
    have hne : (E != 0) = true := by simpa using h
    clear h e e2 hE ra ub
    go_enter Try.func35, Try.ntmps35
    go_wp2_with fail
    refine CB.out.mono ?_
    rintro _ w1 ⟨A1, c1, rfl, _, _, _, hb1⟩
    go_wp2_with fail
    go_ret2
    exact .nil hb1
theorem ref_Read {A : Option Addr} {c : Nat} (many : Int) (b : List Int) (hm : I64 many) (hl : b.length ≤ 100000) (ub : U8s b) (w : World) (ra : Rd (Value.int .u8) w w.heap.size A b) :
    Calls Try.prog 37 #[.int .i64 many, .slice A b.length c] w (RdE Value.bool (bitV 1 many b) (bitE 1 many b) w) := by
  have CB := hid (ref_bits (A := A) (c := c) 1 many b (by decide) hm hl ub w ra)
  obtain ⟨V, hV⟩ : ∃ V, bitV 1 many b = V := ⟨_, rfl⟩
  obtain ⟨E, hE⟩ : ∃ E, bitE 1 many b = E := ⟨_, rfl⟩
  rw [hV, hE] at CB ⊢
  clear hV hE ra ub
  go_enter Try.func37, Try.ntmps37
  go_wp2_with fail
  refine CB.out.mono ?_
  rintro _ w1 ⟨A1, c1, rfl, h1, h2, hr, hb1⟩
  have HR := hid hr
  clear hr
  go_wp2_with fail
  go_ret2
  exact ⟨A1, c1, rfl, h1, h2, HR.out, hb1⟩
theorem ref_SameSigns {A B : Option Addr} {c d : Nat} (xs : List Bool) (hx : xs.length ≤ 9223372036854775807) (w : World) (ra : Rd Value.bool w w.heap.size A xs) (rb : Rd Value.bool w w.heap.size B xs) :
    Calls Try.prog 41 #[.slice A xs.length c, .slice B xs.length d] w fun e w' => e = .returned (.bool true) ∧ Below w.heap.size w w' := by
  have HA := hid ra
  have HB := hid rb
  clear ra rb
  go_enter Try.func41, Try.ntmps41
  go_wp2_with fail
  go_loopw [13] (fun i wr => ∃ k : Nat, k ≤ xs.length ∧ i = .int .i64 k ∧ Below w.heap.size w wr) (fun i _ => xs.length - (intOf i).toNat)
  case atStart => exact ⟨0, by omega, rfl, Below.refl _ _⟩
  case round =>
    obtain ⟨k, hk, rfl, hb⟩ := hrel
    by_cases hlt : k < xs.length
    · obtain ⟨b1, o1, x, rfl, l1, ex, c1⟩ := (HA.out.below hb).at_ hlt
      obtain ⟨b2, o2, y, rfl, l2, ey, c2⟩ := (HB.out.below hb).at_ hlt
      obtain rfl : x = y := Option.some.inj (ex.symm.trans ey)
      have e' : (x != x) = false := by simp
      clear ex ey
      go_wp2_with fail
      go_quiet (fail)
      go_wp2_with fail
      go_roundw
      case rel => exact ⟨k + 1, by omega, by go_num, hb.trans (belowN _ _ _)⟩
      case measure => simp [intOf]; omega
    · go_wp2_with fail
      go_ret
      exact ⟨rfl, hb⟩
end Go.Proofs.Ytgkkliibeiklbaa
