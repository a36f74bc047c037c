
/- Numbers unpacked, unwoven; signs read, by the document; lists of signs that are the same. -/
import Derived.Test.YtgkkliibeiklbaaPlD
namespace Go.Proofs.Ytgkkliibeiklbaa
open Go.RowKit
set_option maxHeartbeats 400000
set_option linter.unusedVariables false
theorem nmF_32 {t k : Nat} (h : t ≤ k) (hk : k ≤ 32) (g : Nat → Bool) : 0 ≤ nmF t g ∧ nmF t g ≤ 4294967296 := by
  have h1 := nmF_lt t g
  have h2 : (2 : Int) ^ t ≤ 2 ^ 32 := by
    have := Nat.pow_le_pow_right (show 0 < 2 by decide) (show t ≤ 32 by omega)
    exact_mod_cast this
  have h3 : (2 : Int) ^ 32 = 4294967296 := by decide
  omega
theorem ref_Unpack {A : Option Addr} {c : Nat} (wd many : Int) (b : List Int) (hw : I64 wd) (hm : I64 many) (hl : b.length ≤ 100000) (ub : U8s b) (w : World) (ra : Rd (Value.int .u8) w w.heap.size A b) :
    Calls Try.prog 33 #[.int .i64 wd, .int .i64 many, .slice A b.length c] w (OwnE 43 .u64 w.heap.size (upkV wd many b) (bitE wd many b) w) := by
  have CB := hid (ref_bits (A := A) (c := c) wd many b hw hm hl ub w ra)
  by_cases h : bitE wd many b = 0
  · have hwm := bys_ok (bitE_ok h).1
    obtain ⟨k, rfl⟩ := Int.eq_ofNat_of_zero_le hwm.1.1
    obtain ⟨m, rfl⟩ := Int.eq_ofNat_of_zero_le hwm.2.1
    have hk : k ≤ 32 := by omega
    have hm4 : m ≤ 4096 := by omega
    have hV : bitV k m b = mkB (k * m) (fB b) := by unfold bitV; rw [if_pos h, Int.toNat_natCast, Int.toNat_natCast]
    have hU : upkV k m b = (List.range m).map (fun i => nmF k fun t => fB b (i * k + t)) := by unfold upkV; rw [if_pos h, Int.toNat_natCast, Int.toNat_natCast]
    rw [hV, h] at CB
    rw [hU, h]
    obtain ⟨f, hf⟩ : ∃ f, fB b = f := ⟨_, rfl⟩
    rw [hf] at CB ⊢
    obtain ⟨L, hL⟩ : ∃ L, mkB (k * m) f = L := ⟨_, rfl⟩
    have HLa : Hid (∀ i t, i < m → t < k → L[i * k + t]? = some (f (i * k + t))) := hid (fun i t hi ht => by rw [← hL]; exact mkB_at f (place_lt hi ht))
    rw [hL] at CB
    have hmk := fun W => run_make_row' (P := Try.prog) 37 43 (.int .u64 0) 8 Try.underlying37 info_u64 rfl .i64 .i64 m (by omega) (by omega) W
    clear h hf ra ub hw hm hwm hV hU hL hl
    go_enter Try.func33, Try.ntmps33
    go_wp2_with fail
    refine CB.out.mono ?_
    rintro _ w1 ⟨A1, c1, rfl, hLc, hcm, hr, hb1⟩
    have RL := hid hr
    clear hr
    go_wp2_with fail
    go_loopw [11, 27] (fun i0 i wr => ∃ n : Nat, n ≤ m ∧ i = .int .i64 n ∧ wr.rowIs w1.heap.size 43 m (fun j => .int .u64 (if j < n then nmF k (fun t => f (j * k + t)) else 0)) ∧ Below w1.heap.size w1 wr) (fun _ i _ => m - (intOf i).toNat)
    case atStart => exact ⟨0, by omega, rfl, by simpa using World.rowIs_made w1 (.int .u64 0) m _, by go_grown⟩
    case round =>
      obtain ⟨n, hn, rfl, hrow, hbel⟩ := hrel
      have HR := hid hrow
      clear hmk
      by_cases hlt : n < m
      · obtain ⟨P, hP⟩ : ∃ P, n * k = P := ⟨_, rfl⟩
        have hmul : (n : Int) * (k : Int) = (P : Int) := by rw [← hP, Int.natCast_mul]
        have hPl : P ≤ 131072 := by
          have := Nat.mul_le_mul (show n ≤ 4096 by omega) hk
          omega
        have HLb : Hid (∀ t, t < k → L[P + t]? = some (f (P + t))) := hid (fun t ht => by rw [← hP]; exact HLa.out n t hlt ht)
        have HP := hid hP
        have HROW : Hid (wr.rowIs w1.heap.size 43 m (fun j => .int .u64 (if j = n then nmF 0 (fun t => f (P + t)) else if j < n then nmF k (fun t => f (j * k + t)) else 0))) := hid (HR.out.congr fun j hj => by
          by_cases e : j = n
          · rw [if_pos e, if_neg (by omega)]; rfl
          · rw [if_neg e])
        clear hP hrow HR
        go_wp2_with fail
        go_loopw [12, 31] (fun k0 s wr => ∃ t : Nat, t ≤ k ∧ s = .int .i64 t ∧ wr.rowIs w1.heap.size 43 m (fun j => .int .u64 (if j = n then nmF t (fun t => f (P + t)) else if j < n then nmF k (fun t => f (j * k + t)) else 0)) ∧ Below w1.heap.size w1 wr) (fun _ s _ => k - (intOf s).toNat)
        case atStart => exact ⟨0, by omega, rfl, HROW.out, hbel⟩
        case round =>
          obtain ⟨t, ht, rfl, hrow, hbel⟩ := hrel
          clear HROW
          have HR := hid hrow
          by_cases htl : t < k
          · have f1 := hrow.frozen n
            have c2 := hrow.cell hlt
            rw [if_pos rfl] at c2
            have hyb := nmF_32 (t := t) (k := k) ht hk (fun t => f (P + t))
            have HZ : Hid (nmF (t + 1) (fun t => f (P + t)) = 2 * nmF t (fun t => f (P + t)) + if f (P + t) = true then 1 else 0) := rfl
            obtain ⟨y, hy⟩ : ∃ y, nmF t (fun t => f (P + t)) = y := ⟨_, rfl⟩
            rw [hy] at c2 hyb HZ
            have hlb := HLb.out t htl
            obtain ⟨v, hv⟩ : ∃ v, f (P + t) = v := ⟨_, rfl⟩
            rw [hv] at HZ hlb
            have hLt := (List.getElem?_eq_some_iff.1 hlb).1
            obtain ⟨b1, o1, e1, l1, c3⟩ := (RL.out.on hbel) (P + t) v hlb
            subst e1
            have hne : b1 ≠ w1.heap.size ∨ b1 = w1.heap.size := by omega
            have l2 : b1 < w1.heap.size := by
              obtain ⟨b2, o2, e2, l2, _⟩ := RL.out (P + t) v hlb
              injection e2 with e2
              injection e2 with e2 _
              omega
            clear hrow hy hv hlb hne
            cases v with
            | false =>
              go_wp2_with fail
              go_roundw
              case rel =>
                refine ⟨t + 1, by omega, by go_num, ?_, hbel.setCell (Nat.le_refl _) _⟩
                refine World.rowIs.congr (HR.out.set n (.int .u64 (y * 2))) fun j hj => ?_
                by_cases e : j = n
                · rw [if_pos e, if_pos e, HZ.out]
                  congr 1
                  simp
                  omega
                · rw [if_neg e, if_neg e, if_neg e]
              case measure => simp [intOf]; omega
            | true =>
              go_wp2_with fail
              go_roundw
              case rel =>
                refine ⟨t + 1, by omega, by go_num, ?_, (hbel.setCell (Nat.le_refl _) _).setCell (Nat.le_refl _) _⟩
                refine World.rowIs.congr ((HR.out.set n (.int .u64 (y * 2))).set n (.int .u64 (y * 2 + 1))) fun j hj => ?_
                by_cases e : j = n
                · rw [if_pos e, if_pos e, HZ.out]
                  congr 1
                  simp
                  omega
                · rw [if_neg e, if_neg e, if_neg e, if_neg e]
              case measure => simp [intOf]; omega
          · obtain rfl : t = k := by omega
            have HN2 : Hid (wr.rowIs w1.heap.size 43 m (fun j => .int .u64 (if j < n + 1 then nmF t (fun s => f (j * t + s)) else 0))) := hid (HR.out.congr fun j hj => by
              by_cases e : j = n
              · rw [if_pos e, if_pos (by omega), e, HP.out]
              · rw [if_neg e]
                by_cases e2 : j < n
                · rw [if_pos e2, if_pos (by omega)]
                · rw [if_neg e2, if_neg (by omega)])
            clear hrow HR
            go_wp2_with fail
            go_roundw
            case rel => exact ⟨n + 1, by omega, by go_num, HN2.out, hbel⟩
            case measure => simp [intOf]; omega
      · obtain rfl : n = m := by omega
        have k1 := hb1.trans (hbel.mono hb1.size)
        clear hrow
        go_wp2_with fail
        go_ret2
        have h := own_made (w' := wr) HR.out (show w.heap.size ≤ w1.heap.size from hb1.size) (by unfold maxLen; omega)
        refine ⟨some ⟨w1.heap.size, 0, none⟩, n, ?_, ?_, k1⟩
        · rw [List.length_map, List.length_range]; rfl
        · rw [List.length_map, List.length_range, List.map_map]
          have e : (List.range n).map (Value.int .u64 ∘ fun i => nmF k fun t => f (i * k + t)) = (List.range n).map (fun j => .int .u64 (if j < n then nmF k (fun t => f (j * k + t)) else 0)) := List.map_congr_left fun j hj => by
            have := List.mem_range.1 hj
            show Value.int .u64 _ = _
            rw [if_pos this]
          rw [e]
          exact h
  · have e : upkV wd many b = [] := if_neg h
    have e2 : bitV wd many b = [] := if_neg h
    rw [e]
    rw [e2] at CB
    obtain ⟨E, hE⟩ : ∃ E, bitE wd many b = E := ⟨_, rfl⟩
    rw [hE] at CB h ⊢
    have hne : (E != 0) = true := by simpa using h
    clear h e e2 hE ra ub
    go_enter Try.func33, Try.ntmps33
    go_wp2_with fail
    refine CB.out.mono ?_
    rintro _ w1 ⟨A1, c1, rfl, _, _, _, hb1⟩
    go_wp2_with fail
    go_ret2
    exact .nil hb1
end Go.Proofs.Ytgkkliibeiklbaa
