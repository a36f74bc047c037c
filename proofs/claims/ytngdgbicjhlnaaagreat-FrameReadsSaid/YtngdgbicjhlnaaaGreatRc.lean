
/- Rc: texts joined: PlF FrA FsA Fun IxQ PlO PlQ Box IxR PlG FsP CrcE BoxG Law Arg. -/
import Derived.Test.YtngdgbicjhlnaaaGreatRb
import Derived.Test.YtngdgbicjhlnaaaGreatRa
import Derived.RegionTactic
import Derived.Deep.RegionHeld3
import Derived.Test.YtngdgbicjhlnaaaGreatShelf
import Derived.Shelf.Slices.Empties
import Derived.ChangeAlike
import Derived.Deep.QuietTactic
import Derived.BigQuiet
import Derived.StillTailTactics
import Derived.Maps.OwnSet
import Derived.Laws.Cover3
import Derived.Test.YtngdgbicjhlnaaaGreatRows
import Derived.WalkKit
import Derived.ProofKit
import Derived.OpenShut
import Derived.Carry
/- Numbers unwoven, signs read, by the document; lists of signs that are the same. -/
namespace Go.Proofs.YtngdgbicjhlnaaaGreat
open Go.RowKit
set_option maxHeartbeats 400000
set_option maxRecDepth 100000
set_option linter.unusedVariables false
theorem ref_Unweave {A : Option Addr} {c : Nat} (wd many : Int) (b : List Int) (hw : I64 wd) (hm : I64 many) (hl : b.length ≤ 100000) (ub : U8s b) (w : World) (ra : Rd (Value.int .u8) w w.heap.size A b) :
    Calls Tryz.prog 35 #[.int .i64 wd, .int .i64 many, .slice A b.length c] w (OwnE 53 .u64 w.heap.size (uwvV wd many b) (bitE wd many b) w) := by
  have CB := hid (ref_bits (A := A) (c := c) wd many b hw hm hl ub w ra)
  by_cases h : bitE wd many b = 0
  · have hwm := bys_ok (bitE_ok h).1
    obtain ⟨k, rfl⟩ := Int.eq_ofNat_of_zero_le hwm.1.1
    obtain ⟨m, rfl⟩ := Int.eq_ofNat_of_zero_le hwm.2.1
    have hk : k ≤ 32 := by omega
    have hm4 : m ≤ 4096 := by omega
    have hV : bitV k m b = mkB (k * m) (fB b) := by unfold bitV; rw [if_pos h, Int.toNat_natCast, Int.toNat_natCast]
    have hU : uwvV k m b = (List.range m).map (fun i => nmF k fun t => fB b (t * m + i)) := by unfold uwvV; rw [if_pos h, Int.toNat_natCast, Int.toNat_natCast]
    rw [hV, h] at CB
    rw [hU, h]
    obtain ⟨f, hf⟩ : ∃ f, fB b = f := ⟨_, rfl⟩
    rw [hf] at CB ⊢
    obtain ⟨L, hL⟩ : ∃ L, mkB (k * m) f = L := ⟨_, rfl⟩
    have HLa : Hid (∀ i t, i < m → t < k → L[t * m + i]? = some (f (t * m + i))) := hid (fun i t hi ht => by rw [← hL]; exact mkB_at f (by have := place_lt ht hi; rw [Nat.mul_comm m k] at this; exact this))
    rw [hL] at CB
    have hmk := fun W => run_make_row' (P := Tryz.prog) 26 53 (.int .u64 0) 8 Tryz.underlying26 info_u64 rfl .i64 .i64 m (by omega) (by omega) W
    clear h hf ra ub hw hm hwm hV hU hL hl
    go_enter Tryz.func35, Tryz.ntmps35
    go_wp2_with fail
    refine CB.out.mono ?_
    rintro _ w1 ⟨A1, c1, rfl, hLc, hcm, hr, hb1⟩
    have RL := hid hr
    clear hr
    go_wp2_with fail
    go_loopw [11, 27] (fun i0 i wr => ∃ n : Nat, n ≤ m ∧ i = .int .i64 n ∧ wr.rowIs w1.heap.size 53 m (fun j => .int .u64 (if j < n then nmF k (fun t => f (t * m + j)) else 0)) ∧ Below w1.heap.size w1 wr) (fun _ i _ => m - (intOf i).toNat)
    case atStart => exact ⟨0, by omega, rfl, by simpa using World.rowIs_made w1 (.int .u64 0) m _, by go_grown⟩
    case round =>
      obtain ⟨n, hn, rfl, hrow, hbel⟩ := hrel
      have HR := hid hrow
      clear hmk
      by_cases hlt : n < m
      · have HLb := hid (fun t (ht : t < k) => HLa.out n t hlt ht)
        have HROW : Hid (wr.rowIs w1.heap.size 53 m (fun j => .int .u64 (if j = n then nmF 0 (fun t => f (t * m + n)) else if j < n then nmF k (fun t => f (t * m + j)) else 0))) := hid (HR.out.congr fun j hj => by
          by_cases e : j = n
          · rw [if_pos e, if_neg (by omega)]; rfl
          · rw [if_neg e])
        clear hrow HR
        go_wp2_with fail
        go_loopw [12, 31] (fun k0 s wr => ∃ t : Nat, t ≤ k ∧ s = .int .i64 t ∧ wr.rowIs w1.heap.size 53 m (fun j => .int .u64 (if j = n then nmF t (fun t => f (t * m + n)) else if j < n then nmF k (fun t => f (t * m + j)) else 0)) ∧ Below w1.heap.size w1 wr) (fun _ s _ => k - (intOf s).toNat)
        case atStart => exact ⟨0, by omega, rfl, HROW.out, hbel⟩
        case round =>
          obtain ⟨t, ht, rfl, hrow, hbel⟩ := hrel
          clear HROW
          have HR := hid hrow
          by_cases htl : t < k
          · have f1 := hrow.frozen n
            have c2 := hrow.cell hlt
            rw [if_pos rfl] at c2
            have hyb := nmF_32 (t := t) (k := k) ht hk (fun t => f (t * m + n))
            have HZ : Hid (nmF (t + 1) (fun t => f (t * m + n)) = 2 * nmF t (fun t => f (t * m + n)) + if f (t * m + n) = true then 1 else 0) := rfl
            obtain ⟨y, hy⟩ : ∃ y, nmF t (fun t => f (t * m + n)) = y := ⟨_, rfl⟩
            rw [hy] at c2 hyb HZ
            have hlb := HLb.out t htl
            obtain ⟨P, hP⟩ : ∃ P, t * m = P := ⟨_, rfl⟩
            have hmul : (t : Int) * (m : Int) = (P : Int) := by rw [← hP, Int.natCast_mul]
            have hPl : P ≤ 131072 := by
              have := Nat.mul_le_mul (show t ≤ 32 by omega) hm4
              omega
            rw [hP] at hlb HZ
            clear hP
            obtain ⟨v, hv⟩ : ∃ v, f (P + n) = v := ⟨_, rfl⟩
            rw [hv] at HZ hlb
            have hLt := (List.getElem?_eq_some_iff.1 hlb).1
            obtain ⟨b1, o1, e1, l1, c3⟩ := (RL.out.on hbel) (P + n) v hlb
            subst e1
            have hne : b1 ≠ w1.heap.size ∨ b1 = w1.heap.size := by omega
            have l2 : b1 < w1.heap.size := by
              obtain ⟨b2, o2, e2, l2, _⟩ := RL.out (P + n) v hlb
              injection e2 with e2
              injection e2 with e2 _
              omega
            clear hrow hy hv hlb hne
            cases v with
            | false =>
              go_wp2_with fail
              go_roundw
              case rel =>
                refine ⟨t + 1, by omega, by go_num, ?_, hbel.setCell (Nat.le_refl _) _⟩
                refine World.rowIs.congr (HR.out.set n (.int .u64 (y * 2))) fun j hj => ?_
                by_cases e : j = n
                · rw [if_pos e, if_pos e, HZ.out]
                  congr 1
                  simp
                  omega
                · rw [if_neg e, if_neg e, if_neg e]
              case measure => simp [intOf]; omega
            | true =>
              go_wp2_with fail
              go_roundw
              case rel =>
                refine ⟨t + 1, by omega, by go_num, ?_, (hbel.setCell (Nat.le_refl _) _).setCell (Nat.le_refl _) _⟩
                refine World.rowIs.congr ((HR.out.set n (.int .u64 (y * 2))).set n (.int .u64 (y * 2 + 1))) fun j hj => ?_
                by_cases e : j = n
                · rw [if_pos e, if_pos e, HZ.out]
                  congr 1
                  simp
                  omega
                · rw [if_neg e, if_neg e, if_neg e, if_neg e]
              case measure => simp [intOf]; omega
          · obtain rfl : t = k := by omega
            have HN2 : Hid (wr.rowIs w1.heap.size 53 m (fun j => .int .u64 (if j < n + 1 then nmF t (fun s => f (s * m + j)) else 0))) := hid (HR.out.congr fun j hj => by
              by_cases e : j = n
              · rw [if_pos e, if_pos (by omega), e]
              · rw [if_neg e]
                by_cases e2 : j < n
                · rw [if_pos e2, if_pos (by omega)]
                · rw [if_neg e2, if_neg (by omega)])
            clear hrow HR
            go_wp2_with fail
            go_roundw
            case rel => exact ⟨n + 1, by omega, by go_num, HN2.out, hbel⟩
            case measure => simp [intOf]; omega
      · obtain rfl : n = m := by omega
        have k1 := hb1.trans (hbel.mono hb1.size)
        clear hrow
        go_wp2_with fail
        go_ret2
        have h := own_made (w' := wr) HR.out (show w.heap.size ≤ w1.heap.size from hb1.size) (by unfold maxLen; omega)
        refine ⟨some ⟨w1.heap.size, 0, none⟩, n, ?_, ?_, k1⟩
        · rw [List.length_map, List.length_range]; rfl
        · rw [List.length_map, List.length_range, List.map_map]
          have e : (List.range n).map (Value.int .u64 ∘ fun i => nmF k fun t => f (t * n + i)) = (List.range n).map (fun j => .int .u64 (if j < n then nmF k (fun t => f (t * n + j)) else 0)) := List.map_congr_left fun j hj => by
            have := List.mem_range.1 hj
            show Value.int .u64 _ = _
            rw [if_pos this]
          rw [e]
          exact h
  · have e : uwvV wd many b = [] := if_neg h
    have e2 : bitV wd many b = [] := if_neg h
    rw [e]
    rw [e2] at CB
    obtain ⟨E, hE⟩ : ∃ E, bitE wd many b = E := ⟨_, rfl⟩
    rw [hE] at CB h ⊢
    have hne : (E != 0) = true := by simpa using h
    clear h e e2 hE ra ub
    go_enter Tryz.func35, Tryz.ntmps35
    go_wp2_with fail
    refine CB.out.mono ?_
    rintro _ w1 ⟨A1, c1, rfl, _, _, _, hb1⟩
    go_wp2_with fail
    go_ret2
    exact .nil hb1
theorem ref_Read {A : Option Addr} {c : Nat} (many : Int) (b : List Int) (hm : I64 many) (hl : b.length ≤ 100000) (ub : U8s b) (w : World) (ra : Rd (Value.int .u8) w w.heap.size A b) :
    Calls Tryz.prog 36 #[.int .i64 many, .slice A b.length c] w (RdE Value.bool (bitV 1 many b) (bitE 1 many b) w) := by
  have CB := hid (ref_bits (A := A) (c := c) 1 many b (by decide) hm hl ub w ra)
  obtain ⟨V, hV⟩ : ∃ V, bitV 1 many b = V := ⟨_, rfl⟩
  obtain ⟨E, hE⟩ : ∃ E, bitE 1 many b = E := ⟨_, rfl⟩
  rw [hV, hE] at CB ⊢
  clear hV hE ra ub
  go_enter Tryz.func36, Tryz.ntmps36
  go_wp2_with fail
  refine CB.out.mono ?_
  rintro _ w1 ⟨A1, c1, rfl, h1, h2, hr, hb1⟩
  have HR := hid hr
  clear hr
  go_wp2_with fail
  go_ret2
  exact ⟨A1, c1, rfl, h1, h2, HR.out, hb1⟩
theorem ref_SameSigns {A B : Option Addr} {c d : Nat} (xs : List Bool) (hx : xs.length ≤ 9223372036854775807) (w : World) (ra : Rd Value.bool w w.heap.size A xs) (rb : Rd Value.bool w w.heap.size B xs) :
    Calls Tryz.prog 43 #[.slice A xs.length c, .slice B xs.length d] w fun e w' => e = .returned (.bool true) ∧ Below w.heap.size w w' := by
  have HA := hid ra
  have HB := hid rb
  clear ra rb
  go_enter Tryz.func43, Tryz.ntmps43
  go_wp2_with fail
  go_loopw [13] (fun i wr => ∃ k : Nat, k ≤ xs.length ∧ i = .int .i64 k ∧ Below w.heap.size w wr) (fun i _ => xs.length - (intOf i).toNat)
  case atStart => exact ⟨0, by omega, rfl, Below.refl _ _⟩
  case round =>
    obtain ⟨k, hk, rfl, hb⟩ := hrel
    by_cases hlt : k < xs.length
    · obtain ⟨b1, o1, x, rfl, l1, ex, c1⟩ := (HA.out.below hb).at_ hlt
      obtain ⟨b2, o2, y, rfl, l2, ey, c2⟩ := (HB.out.below hb).at_ hlt
      obtain rfl : x = y := Option.some.inj (ex.symm.trans ey)
      have e' : (x != x) = false := by simp
      clear ex ey
      go_wp2_with fail
      go_quiet (fail)
      go_wp2_with fail
      go_roundw
      case rel => exact ⟨k + 1, by omega, by go_num, hb.trans (belowN _ _ _)⟩
      case measure => simp [intOf]; omega
    · go_wp2_with fail
      go_ret
      exact ⟨rfl, hb⟩
end Go.Proofs.YtngdgbicjhlnaaaGreat
/- Frames in memory; whether they are the same, by the document. -/
namespace Go.Proofs.YtngdgbicjhlnaaaGreat
open Go.RowKit
set_option maxHeartbeats 400000
set_option maxRecDepth 100000
set_option linter.unusedVariables false
/-- Where a vector's lists lie. -/
structure SentP where
  AL : Option Addr
  cL : Nat
  AV : Option Addr
  cV : Nat
  AE : Option Addr
  cE : Nat
  AN : Option Addr
  cN : Nat
def zeroP : SentP := ⟨none, 0, none, 0, none, 0, none, 0⟩
@[reducible] def encT (s : SentV) (p : SentP) : Value := .agg #[.int .i64 s.sch, .int .i64 s.dim, .slice p.AL s.L.length p.cL, .slice p.AV s.V.length p.cV, .int .i64 s.scale, .int .i64 s.wide, .slice p.AE s.lev.length p.cE, .slice p.AN s.neg.length p.cN]
/-- Its lists read so. -/
def RdS (w : World) (B : Nat) (s : SentV) (p : SentP) : Prop := Rd (Value.int .i64) w B p.AL s.L ∧ Rd (Value.int .i64) w B p.AV s.V ∧ Rd (Value.int .u64) w B p.AE s.lev ∧ Rd Value.bool w B p.AN s.neg
theorem RdS.below {w w' : World} {B : Nat} {s : SentV} {p : SentP} (h : RdS w B s p) (hb : Below B w w') : RdS w' B s p := ⟨h.1.below hb, h.2.1.below hb, h.2.2.1.below hb, h.2.2.2.below hb⟩
theorem RdS.more {w : World} {B B' : Nat} {s : SentV} {p : SentP} (h : RdS w B s p) (hB : B ≤ B') : RdS w B' s p := ⟨h.1.more hB, h.2.1.more hB, h.2.2.1.more hB, h.2.2.2.more hB⟩
theorem RdS.on {w w' : World} {s : SentV} {p : SentP} (h : RdS w w.heap.size s p) (hb : Below w.heap.size w w') : RdS w' w'.heap.size s p := (h.below hb).more hb.size
theorem RdS.zero (w : World) (B : Nat) : RdS w B zeroS zeroP := ⟨Rd.none_, Rd.none_, Rd.none_, Rd.none_⟩
/-- How long its lists are at the most. -/
def lnS (n : Nat) (s : SentV) : Prop := s.L.length ≤ n ∧ s.V.length ≤ n ∧ s.lev.length ≤ n ∧ s.neg.length ≤ n
theorem lnS.more {n m : Nat} {s : SentV} (h : lnS n s) (hm : n ≤ m) : lnS m s := ⟨by have := h.1; omega, by have := h.2.1; omega, by have := h.2.2.1; omega, by have := h.2.2.2; omega⟩
theorem ln_zero (n : Nat) : lnS n zeroS := ⟨by simp [zeroS], by simp [zeroS], by simp [zeroS], by simp [zeroS]⟩
theorem takeN_step {xs ys : List Bool} {k : Nat} {x y : Bool} (h : xs.take k = ys.take k) (hx : xs[k]? = some x) (hy : ys[k]? = some y) (e : x = y) : xs.take (k + 1) = ys.take (k + 1) := by
  rw [List.take_add_one, List.take_add_one, h, hx, hy, e]
theorem eqN_no {xs ys : List Bool} {k : Nat} {x y : Bool} (hx : xs[k]? = some x) (hy : ys[k]? = some y) (e : x ≠ y) : eqN xs ys = false := by
  unfold eqN
  rw [decide_eq_false_iff_not]
  rintro rfl
  rw [hx] at hy
  exact e (Option.some.inj hy)
theorem eqN_yes {xs ys : List Bool} {k : Nat} (h : xs.take k = ys.take k) (hx : k = xs.length) (hl : xs.length = ys.length) : eqN xs ys = true := by
  unfold eqN
  rw [List.take_of_length_le (by omega), List.take_of_length_le (by omega)] at h
  simpa using h
theorem eqN_len {xs ys : List Bool} (h : xs.length ≠ ys.length) : eqN xs ys = false := by
  unfold eqN
  rw [decide_eq_false_iff_not]
  rintro rfl
  exact h rfl
theorem ref_SignsEq {A B : Option Addr} {c d : Nat} (xs ys : List Bool) (hx : xs.length ≤ 9223372036854775807) (hy : ys.length ≤ 9223372036854775807) (w : World) {L M : Nat}
    (ra : Rd Value.bool w L A xs) (rb : Rd Value.bool w M B ys) :
    Calls Tryz.prog 43 #[.slice A xs.length c, .slice B ys.length d] w fun e w' => e = .returned (.bool (eqN xs ys)) ∧ ∃ n, w' = w.drewN n := by
  by_cases hl : xs.length = ys.length
  · have HA := hid ra
    have HB := hid rb
    clear ra rb
    have h1 : ((xs.length : Int) != (ys.length : Int)) = false := by simp; omega
    have h2 : (xs.length != ys.length) = false := by simp; omega
    have HL := hid hl
    clear hl
    go_enter Tryz.func43, Tryz.ntmps43
    go_wp2_with fail
    clear h1 h2
    go_loopw [13] (fun i wr => ∃ k : Nat, k ≤ xs.length ∧ i = .int .i64 k ∧ xs.take k = ys.take k ∧ ∃ n, wr = w.drewN n) (fun i _ => xs.length - (intOf i).toNat)
    case atStart => exact ⟨0, by omega, rfl, rfl, 0, rfl⟩
    case round =>
      obtain ⟨k, hk, rfl, ht, n, rfl⟩ := hrel
      have HT := hid ht
      clear ht
      by_cases hlt : k < xs.length
      · have hlt2 : k < ys.length := by have := HL.out; omega
        obtain ⟨b1, o1, x, rfl, l1, ex, c1⟩ := HA.out.at_ hlt
        obtain ⟨b2, o2, y, rfl, l2, ey, c2⟩ := HB.out.at_ hlt2
        have EX := hid ex
        have EY := hid ey
        clear ex ey
        by_cases e : x = y
        · have e' : (x == y) = true := by simpa using e
          have E := hid e
          clear e
          go_wp2_with fail
          go_quiet (fail)
          go_wp2_with fail
          go_roundw
          case rel => exact ⟨k + 1, by omega, by go_num, takeN_step HT.out EX.out EY.out E.out, _, rfl⟩
          case measure => simp [intOf]; omega
        · have e' : (x == y) = false := by simpa using e
          go_wp2_with fail
          go_quiet (fail)
          go_wp2_with fail
          go_ret
          rw [eqN_no EX.out EY.out e]
          exact ⟨rfl, drewN_two _ _ _⟩
      · have hke : k = xs.length := by omega
        have HK := hid hke
        clear hke
        go_wp2_with fail
        go_ret
        rw [eqN_yes HT.out HK.out HL.out]
        exact ⟨rfl, _, rfl⟩
  · rw [eqN_len hl]
    have h1 : ((xs.length : Int) != (ys.length : Int)) = true := by simp; omega
    have h2 : (xs.length != ys.length) = true := by simp; omega
    clear hl ra rb
    go_enter Tryz.func43, Tryz.ntmps43
    go_wp2_with fail
    go_ret
    exact ⟨rfl, 0, rfl⟩
theorem ref_NumsEq {A B : Option Addr} {c d : Nat} (xs ys : List Int) (hx : xs.length ≤ 9223372036854775807) (hy : ys.length ≤ 9223372036854775807) (w : World) {L M : Nat}
    (ra : Rd (Value.int .u64) w L A xs) (rb : Rd (Value.int .u64) w M B ys) :
    Calls Tryz.prog 42 #[.slice A xs.length c, .slice B ys.length d] w fun e w' => e = .returned (.bool (eqB xs ys)) ∧ ∃ n, w' = w.drewN n := by
  by_cases hl : xs.length = ys.length
  · have HA := hid ra
    have HB := hid rb
    clear ra rb
    have h1 : ((xs.length : Int) != (ys.length : Int)) = false := by simp; omega
    have h2 : (xs.length != ys.length) = false := by simp; omega
    have HL := hid hl
    clear hl
    go_enter Tryz.func42, Tryz.ntmps42
    go_wp2_with fail
    clear h1 h2
    go_loopw [13] (fun i wr => ∃ k : Nat, k ≤ xs.length ∧ i = .int .i64 k ∧ xs.take k = ys.take k ∧ ∃ n, wr = w.drewN n) (fun i _ => xs.length - (intOf i).toNat)
    case atStart => exact ⟨0, by omega, rfl, rfl, 0, rfl⟩
    case round =>
      obtain ⟨k, hk, rfl, ht, n, rfl⟩ := hrel
      have HT := hid ht
      clear ht
      by_cases hlt : k < xs.length
      · have hlt2 : k < ys.length := by have := HL.out; omega
        obtain ⟨b1, o1, x, rfl, l1, ex, c1⟩ := HA.out.at_ hlt
        obtain ⟨b2, o2, y, rfl, l2, ey, c2⟩ := HB.out.at_ hlt2
        have EX := hid ex
        have EY := hid ey
        clear ex ey
        by_cases e : x = y
        · have e' : (x != y) = false := by simpa using e
          have E := hid e
          clear e
          go_wp2_with fail
          go_quiet (fail)
          go_wp2_with fail
          go_roundw
          case rel => exact ⟨k + 1, by omega, by go_num, take_step HT.out EX.out EY.out E.out, _, rfl⟩
          case measure => simp [intOf]; omega
        · have e' : (x != y) = true := by simpa using e
          go_wp2_with fail
          go_quiet (fail)
          go_wp2_with fail
          go_ret
          rw [eqB_no EX.out EY.out e]
          exact ⟨rfl, drewN_two _ _ _⟩
      · have hke : k = xs.length := by omega
        have HK := hid hke
        clear hke
        go_wp2_with fail
        go_ret
        rw [eqB_yes HT.out HK.out HL.out]
        exact ⟨rfl, _, rfl⟩
  · rw [eqB_len hl]
    have h1 : ((xs.length : Int) != (ys.length : Int)) = true := by simp; omega
    have h2 : (xs.length != ys.length) = true := by simp; omega
    go_enter Tryz.func42, Tryz.ntmps42
    go_wp2_with fail
    go_ret
    exact ⟨rfl, 0, rfl⟩
theorem ref_SameSent (a b : SentV) (p q : SentP) (ha : lnS 100000 a) (hb : lnS 100000 b) (w : World) {B D : Nat} (hB : B ≤ w.heap.size) (hD : D ≤ w.heap.size) (ra : RdS w B a p) (rb : RdS w D b q) :
    Calls Tryz.prog 22 #[encT a p, encT b q] w fun e w' => e = .returned (.bool (sameS a b)) ∧ Below w.heap.size w w' := by
  have C1 := hid (fun W (h : Below w.heap.size w W) => ref_Equal (A := p.AL) (B := q.AL) (c := p.cL) (d := q.cL) a.L b.L (by have := ha.1; omega) (by have := hb.1; omega) W (ra.1.below (h.mono hB)) (rb.1.below (h.mono hD)))
  have C2 := hid (fun W (h : Below w.heap.size w W) => ref_Same64 (A := p.AV) (B := q.AV) (c := p.cV) (d := q.cV) a.V b.V (by have := ha.2.1; omega) (by have := hb.2.1; omega) W (ra.2.1.below (h.mono hB)) (rb.2.1.below (h.mono hD)))
  have C3 := hid (fun W (h : Below w.heap.size w W) => ref_NumsEq (A := p.AE) (B := q.AE) (c := p.cE) (d := q.cE) a.lev b.lev (by have := ha.2.2.1; omega) (by have := hb.2.2.1; omega) W (ra.2.2.1.below (h.mono hB)) (rb.2.2.1.below (h.mono hD)))
  have C4 := hid (fun W (h : Below w.heap.size w W) => ref_SignsEq (A := p.AN) (B := q.AN) (c := p.cN) (d := q.cN) a.neg b.neg (by have := ha.2.2.2; omega) (by have := hb.2.2.2; omega) W (ra.2.2.2.below (h.mono hB)) (rb.2.2.2.below (h.mono hD)))
  unfold sameS
  obtain ⟨vL, eL⟩ : ∃ v, eqB a.L b.L = v := ⟨_, rfl⟩
  obtain ⟨vV, eV⟩ : ∃ v, eqB a.V b.V = v := ⟨_, rfl⟩
  obtain ⟨vlev, elev⟩ : ∃ v, eqB a.lev b.lev = v := ⟨_, rfl⟩
  obtain ⟨vneg, eneg⟩ : ∃ v, eqN a.neg b.neg = v := ⟨_, rfl⟩
  rw [eL] at C1 ⊢
  rw [eV] at C2 ⊢
  rw [elev] at C3 ⊢
  rw [eneg] at C4 ⊢
  obtain ⟨vsch, hsch⟩ : ∃ v, (a.sch == b.sch) = v := ⟨_, rfl⟩
  obtain ⟨vdim, hdim⟩ : ∃ v, (a.dim == b.dim) = v := ⟨_, rfl⟩
  obtain ⟨vscale, hscale⟩ : ∃ v, (a.scale == b.scale) = v := ⟨_, rfl⟩
  obtain ⟨vwide, hwide⟩ : ∃ v, (a.wide == b.wide) = v := ⟨_, rfl⟩
  rw [hsch, hdim, hscale, hwide]
  have K : Hid (∀ n, Below w.heap.size w (((w.alloc (.cells #[.int .i64 a.sch, .int .i64 a.dim, .slice p.AL a.L.length p.cL, .slice p.AV a.V.length p.cV, .int .i64 a.scale, .int .i64 a.wide, .slice p.AE a.lev.length p.cE, .slice p.AN a.neg.length p.cN] 29)).alloc (.cells #[.int .i64 b.sch, .int .i64 b.dim, .slice q.AL b.L.length q.cL, .slice q.AV b.V.length q.cV, .int .i64 b.scale, .int .i64 b.wide, .slice q.AE b.lev.length q.cE, .slice q.AN b.neg.length q.cN] 29)).drewN n)) := hid (fun n => Below.trans (by go_grown) (belowN _ _ n))
  clear eL eV elev eneg ra rb ha hb
  go_enter Tryz.func22, Tryz.ntmps22
  go_wp2_with fail
  any_goals (go_ret; exact ⟨by simp [*], by go_grown⟩)
  refine (C1.out _ (by go_grown)).mono ?_
  rintro _ _ ⟨rfl, n1, rfl⟩
  go_wp2_with fail
  any_goals (go_ret; exact ⟨by simp [*], K.out _⟩)
  refine (C2.out _ (K.out _)).mono ?_
  rintro _ _ ⟨rfl, n2, rfl⟩
  go_wp2_with fail
  any_goals (go_ret; exact ⟨by simp [*], K.out _⟩)
  refine (C3.out _ (K.out _)).mono ?_
  rintro _ _ ⟨rfl, n3, rfl⟩
  go_wp2_with fail
  any_goals (go_ret; exact ⟨by simp [*], K.out _⟩)
  refine (C4.out _ (K.out _)).mono ?_
  rintro _ _ ⟨rfl, n4, rfl⟩
  go_wp2_with fail
  go_ret
  exact ⟨by simp [*], K.out _⟩
end Go.Proofs.YtngdgbicjhlnaaaGreat
/- Lists and arrays that are compared, by package slices; the program's view of a vector and of a frame. -/
namespace Go.Proofs.YtngdgbicjhlnaaaGreat
open Go.RowKit
set_option maxHeartbeats 400000
set_option maxRecDepth 100000
set_option linter.unusedVariables false
theorem equal_eight (a b c d e f g h a' b' c' d' e' f' g' h' : Int) (w : World) :
    (Op.equalIn 10000 111 (.agg #[.int .i64 a, .int .i64 b, .int .i64 c, .int .i64 d, .int .i64 e, .int .i64 f, .int .i64 g, .int .i64 h]) (.agg #[.int .i64 a', .int .i64 b', .int .i64 c', .int .i64 d', .int .i64 e', .int .i64 f', .int .i64 g', .int .i64 h'])).run Tryz.prog w = .ok (eqB [a, b, c, d, e, f, g, h] [a', b', c', d', e', f', g', h']) w := by
  have h0 : ∀ (x0 x1 x2 x3 x4 x5 x6 x7 : Int) (w : World), (part 2 #[.int .i64 x0, .int .i64 x1, .int .i64 x2, .int .i64 x3, .int .i64 x4, .int .i64 x5, .int .i64 x6, .int .i64 x7] 0).run Tryz.prog w = .ok (.int .i64 x0) w := fun _ _ _ _ _ _ _ _ _ => by kernel_rfl
  have h1 : ∀ (x0 x1 x2 x3 x4 x5 x6 x7 : Int) (w : World), (part 2 #[.int .i64 x0, .int .i64 x1, .int .i64 x2, .int .i64 x3, .int .i64 x4, .int .i64 x5, .int .i64 x6, .int .i64 x7] 1).run Tryz.prog w = .ok (.int .i64 x1) w := fun _ _ _ _ _ _ _ _ _ => by kernel_rfl
  have h2 : ∀ (x0 x1 x2 x3 x4 x5 x6 x7 : Int) (w : World), (part 2 #[.int .i64 x0, .int .i64 x1, .int .i64 x2, .int .i64 x3, .int .i64 x4, .int .i64 x5, .int .i64 x6, .int .i64 x7] 2).run Tryz.prog w = .ok (.int .i64 x2) w := fun _ _ _ _ _ _ _ _ _ => by kernel_rfl
  have h3 : ∀ (x0 x1 x2 x3 x4 x5 x6 x7 : Int) (w : World), (part 2 #[.int .i64 x0, .int .i64 x1, .int .i64 x2, .int .i64 x3, .int .i64 x4, .int .i64 x5, .int .i64 x6, .int .i64 x7] 3).run Tryz.prog w = .ok (.int .i64 x3) w := fun _ _ _ _ _ _ _ _ _ => by kernel_rfl
  have h4 : ∀ (x0 x1 x2 x3 x4 x5 x6 x7 : Int) (w : World), (part 2 #[.int .i64 x0, .int .i64 x1, .int .i64 x2, .int .i64 x3, .int .i64 x4, .int .i64 x5, .int .i64 x6, .int .i64 x7] 4).run Tryz.prog w = .ok (.int .i64 x4) w := fun _ _ _ _ _ _ _ _ _ => by kernel_rfl
  have h5 : ∀ (x0 x1 x2 x3 x4 x5 x6 x7 : Int) (w : World), (part 2 #[.int .i64 x0, .int .i64 x1, .int .i64 x2, .int .i64 x3, .int .i64 x4, .int .i64 x5, .int .i64 x6, .int .i64 x7] 5).run Tryz.prog w = .ok (.int .i64 x5) w := fun _ _ _ _ _ _ _ _ _ => by kernel_rfl
  have h6 : ∀ (x0 x1 x2 x3 x4 x5 x6 x7 : Int) (w : World), (part 2 #[.int .i64 x0, .int .i64 x1, .int .i64 x2, .int .i64 x3, .int .i64 x4, .int .i64 x5, .int .i64 x6, .int .i64 x7] 6).run Tryz.prog w = .ok (.int .i64 x6) w := fun _ _ _ _ _ _ _ _ _ => by kernel_rfl
  have h7 : ∀ (x0 x1 x2 x3 x4 x5 x6 x7 : Int) (w : World), (part 2 #[.int .i64 x0, .int .i64 x1, .int .i64 x2, .int .i64 x3, .int .i64 x4, .int .i64 x5, .int .i64 x6, .int .i64 x7] 7).run Tryz.prog w = .ok (.int .i64 x7) w := fun _ _ _ _ _ _ _ _ _ => by kernel_rfl
  have hs : (sizeOf 2).run Tryz.prog w = .ok 1 w := by kernel_rfl
  rw [show (10000 : Nat) = 9998 + 1 + 1 from rfl]
  unfold Op.equalIn
  simp only [Sem.run_bind, run_underlying Tryz.underlying111, Result.andThen_ok, hs]
  simp only [Std.Legacy.Range.forIn_eq_forIn_range', Std.Legacy.Range.size]
  simp only [Nat.sub_zero, Nat.reduceAdd, Nat.reduceSub, Nat.reduceDiv, List.range', List.forIn_cons, List.forIn_nil, Sem.run_bind]
  have hq : ∀ x y : Int, (Op.equalIn 9999 2 (.int .i64 x) (.int .i64 y)).run Tryz.prog w = .ok (x == y) w := fun x y => run_equalIn_int w 9998 _ _ _ _ _ Tryz.underlying2
  simp only [Nat.zero_mul, Nat.one_mul, h0, hq, Result.andThen_ok]
  unfold eqB
  by_cases e0 : a = a'
  · subst e0
    by_cases e1 : b = b'
    · subst e1
      by_cases e2 : c = c'
      · subst e2
        by_cases e3 : d = d'
        · subst e3
          by_cases e4 : e = e'
          · subst e4
            by_cases e5 : f = f'
            · subst e5
              by_cases e6 : g = g'
              · subst e6
                by_cases e7 : h = h' <;> simp [h1, h2, h3, h4, h5, h6, h7, hq, e7]
              · simp [h1, h2, h3, h4, h5, h6, hq, e6]
            · simp [h1, h2, h3, h4, h5, hq, e5]
          · simp [h1, h2, h3, h4, hq, e4]
        · simp [h1, h2, h3, hq, e3]
      · simp [h1, h2, hq, e2]
    · simp [h1, hq, e1]
  · simp [e0]
end Go.Proofs.YtngdgbicjhlnaaaGreat
/- Function values: a call of one enters its function. -/
namespace Go.Proofs.YtngdgbicjhlnaaaGreat
open Go.RowKit
set_option maxRecDepth 100000
set_option linter.unusedVariables false
theorem cl_enter (K : FuncId) (hK : (Tryz.prog.funcs[K]?).map (fun f => f.name == "runtime.NumGoroutine" || f.body.isNone) = some false) (args : Array Value) (W : World) : (callFunc K args).run Tryz.prog W = .ok (.enter K args) W := by
  obtain ⟨fn, hf, hb⟩ := Option.map_eq_some_iff.1 hK
  simp only [Bool.or_eq_false_iff] at hb
  have h1 : ¬ fn.name = "runtime.NumGoroutine" := by simpa using hb.1
  have h2 : ¬ fn.body = none := fun e => by simp [e] at hb
  simp [callFunc, hf, h1, h2, go_sem]
end Go.Proofs.YtngdgbicjhlnaaaGreat
/- The program's places: whether they may be, by a closure that keeps the place ahead. -/
namespace Go.Proofs.YtngdgbicjhlnaaaGreat
open Go.RowKit
set_option maxHeartbeats 400000
set_option maxRecDepth 100000
set_option linter.unusedVariables false
/-- Places that rise, below an end. -/
def gdP (E : Int) (l : List Int) : Prop := risP l ∧ ∀ n ∈ l, 0 ≤ n ∧ n < E
instance (E : Int) (l : List Int) : Decidable (gdP E l) := by unfold gdP; infer_instance
def gdB (E : Int) (l : List Int) : Bool := decide (gdP E l)
theorem gd_nil (E : Int) : gdP E [] := ⟨ris_nil, by simp⟩
theorem lastI_big : ∀ {l : List Int} {x : Int}, risP l → x ∈ l → x ≤ lastI (-1) l := by
  intro l x h hx
  rcases List.eq_nil_or_concat l with rfl | ⟨l', y, rfl⟩
  · simp at hx
  · rw [List.concat_eq_append] at *
    rw [lastI_snoc]
    rcases List.mem_append.1 hx with hx | hx
    · have := (ris_snoc.1 h).2 x hx; omega
    · simp at hx; omega
theorem lastI_from {l : List Int} {E : Int} (h : gdP E l) : -1 ≤ lastI (-1) l := by
  rcases lastI_mem l (-1) with ⟨e, _⟩ | hm
  · omega
  · have := h.2 _ hm; omega
theorem gd_step {E : Int} {l : List Int} {k : Nat} {x : Int} (h : gdP E (l.take k)) (hx : l[k]? = some x) : gdP E (l.take (k + 1)) ↔ lastI (-1) (l.take k) < x ∧ x < E := by
  rw [take_snoc hx]
  unfold gdP
  rw [ris_snoc]
  have hf := lastI_from h
  constructor
  · rintro ⟨⟨h1, h2⟩, h3⟩
    have hxE := h3 x (by simp)
    refine ⟨?_, hxE.2⟩
    rcases lastI_mem (l.take k) (-1) with ⟨e, _⟩ | hm
    · omega
    · exact h2 _ hm
  · rintro ⟨h1, h2⟩
    refine ⟨⟨h.1, fun y hy => ?_⟩, fun y hy => ?_⟩
    · have := lastI_big h.1 hy; omega
    · rcases List.mem_append.1 hy with hy | hy
      · exact h.2 y hy
      · simp at hy; omega
theorem gd_no {E : Int} {l : List Int} {k : Nat} {x : Int} (h : gdP E (l.take k)) (hx : l[k]? = some x) (hn : ¬ (lastI (-1) (l.take k) < x ∧ x < E)) : ¬ gdP E l := fun hg => by
  refine hn ((gd_step h hx).1 ⟨ris_take hg.1 _, fun n hm => hg.2 n (List.mem_of_mem_take hm)⟩)
/-- The closure's two cells. -/
def Kept (w : World) (p q : Nat) (a E : Int) : Prop := w.cell? ⟨p, 0, none⟩ = some (.int .i64 a) ∧ w.frozen? ⟨p, 0, none⟩ = false ∧ w.cell? ⟨q, 0, none⟩ = some (.int .i64 E)
theorem ix_may (dim : Int) (hd : I64 dim) (w : World) :
    Calls Tryz.prog 91 #[.int .i64 dim] w fun e w' => e = .returned (.bool (decide (1 ≤ dim ∧ dim ≤ 4096))) ∧ w = w' := by
  unfold I64 at hd
  by_cases h1 : 1 ≤ dim
  · by_cases h2 : dim ≤ 4096
    · rw [decide_eq_true ⟨h1, h2⟩]
      go_enter Tryz.func91, Tryz.ntmps91
      go_wp2_with fail
      go_ret
      exact ⟨rfl, rfl⟩
    · rw [decide_eq_false (fun h => h2 h.2)]
      go_enter Tryz.func91, Tryz.ntmps91
      go_wp2_with fail
      go_ret
      exact ⟨rfl, rfl⟩
  · rw [decide_eq_false (fun h => h1 h.1)]
    go_enter Tryz.func91, Tryz.ntmps91
    go_wp2_with fail
    go_ret
    exact ⟨rfl, rfl⟩
theorem ix_stray (E : Int) (w : World) :
    Calls Tryz.prog 99 #[.int .i64 E] w fun e w' => e = .returned (.func (.func 110) #[] #[.pointer (some ⟨w.heap.size + 1, 0, none⟩), .pointer (some ⟨w.heap.size, 0, none⟩)]) ∧ Kept w' (w.heap.size + 1) w.heap.size (-1) E ∧ Below w.heap.size w w' := by
  go_enter Tryz.func99, Tryz.ntmps99
  go_wp2_with fail
  go_ret
  refine ⟨rfl, ⟨?_, ?_, ?_⟩, ?_⟩
  · simp [go_sem]
  · simp [go_sem]
  · simp [go_sem]
  · go_grown
theorem Kept.below {w w' : World} {p q B : Nat} {a E : Int} (h : Kept w p q a E) (hb : Below B w w') (hp : p < B) (hq : q < B) : Kept w' p q a E :=
  ⟨(hb.cell (p := ⟨p, 0, none⟩) hp).trans h.1, (hb.frozen (p := ⟨p, 0, none⟩) hp).trans h.2.1, (hb.cell (p := ⟨q, 0, none⟩) hq).trans h.2.2⟩
/-- One place asked. -/
theorem stray_cl {p q B : Nat} (hpq : p ≠ q) (hB : B ≤ p) (a E x : Int) (w : World) (hk : Kept w p q a E) :
    Calls Tryz.prog 110 (#[.int .i64 x] ++ #[.pointer (some ⟨p, 0, none⟩), .pointer (some ⟨q, 0, none⟩)]) w fun e w' => e = .returned (.bool (!decide (a < x ∧ x < E))) ∧ Kept w' p q x E ∧ Below B w w' := by
  obtain ⟨c1, c2, c3⟩ := hk
  have key : ∀ n, Kept ((w.drewN n).setCell ⟨p, 0, none⟩ (.int .i64 x)) p q x E ∧ Below B w ((w.drewN n).setCell ⟨p, 0, none⟩ (.int .i64 x)) := fun n => by
    refine ⟨⟨World.cell?_setCell_same _ _ _ c1, ?_, ?_⟩, (belowN B w n).setCell hB _⟩
    · rw [World.frozen?_setCell]; exact c2
    · rw [World.cell?_setCell_other _ _ _ _ (by intro e; injection e with e1 e2; exact hpq e1)]; exact c3
  have HK := hid key
  clear key
  by_cases h1 : x ≤ a
  · rw [decide_eq_false (fun h => by omega)]
    go_enter Tryz.func110, Tryz.ntmps110
    go_wp2_with fail
    go_ret
    exact ⟨rfl, HK.out 0⟩
  · by_cases h2 : E ≤ x
    · rw [decide_eq_false (fun h => by omega)]
      go_enter Tryz.func110, Tryz.ntmps110
      go_wp2_with fail
      go_ret
      exact ⟨rfl, HK.out 0⟩
    · rw [decide_eq_true (show a < x ∧ x < E by omega)]
      go_enter Tryz.func110, Tryz.ntmps110
      go_wp2_with fail
      go_ret
      exact ⟨rfl, HK.out 0⟩
theorem stray_index {A : Option Addr} {c p q B : Nat} (hpq : p ≠ q) (hp : B ≤ p) (hq : B ≤ q) (E : Int) (l : List Int) (hl : l.length ≤ 9223372036854775807) (w : World) (ra : Rd (Value.int .i64) w B A l) (hk : Kept w p q (-1) E) :
    Calls Tryz.prog 109 #[.slice A l.length c, .func (.func 110) #[] #[.pointer (some ⟨p, 0, none⟩), .pointer (some ⟨q, 0, none⟩)]] w fun e w' => ∃ r : Int, e = .returned (.int .i64 r) ∧ decide (0 ≤ r) = !gdB E l ∧ Below B w w' := by
  have HC := hid (fun a x W h => stray_cl (p := p) (q := q) (B := B) hpq hp a E x W h)
  have hcl := cl_enter 110 (by kernel_rfl)
  have HA := hid ra
  have HY : Hid (gdP E l → gdB E l = true) := hid (fun h => decide_eq_true h)
  have HN : Hid (¬ gdP E l → gdB E l = false) := hid (fun h => decide_eq_false h)
  obtain ⟨R, hR⟩ : ∃ R, gdB E l = R := ⟨_, rfl⟩
  rw [hR] at HY HN ⊢
  clear ra hR
  have HK := hid hk
  clear hk
  go_enter Tryz.func109, Tryz.ntmps109
  go_wp2_with fail
  go_loopw [5, 8] (fun i0 i wr => ∃ k : Nat, k ≤ l.length ∧ i = .int .i64 k ∧ gdP E (l.take k) ∧ Kept wr p q (lastI (-1) (l.take k)) E ∧ Below B w wr) (fun _ i _ => l.length - (intOf i).toNat)
  case atStart => exact ⟨0, by omega, rfl, by rw [List.take_zero]; exact gd_nil E, HK.out, Below.refl _ _⟩
  case round =>
    obtain ⟨k, hk, rfl, hg, hkp, hb⟩ := hrel
    have HG := hid hg
    have HP := hid hkp
    clear hg hkp
    by_cases hlt : k < l.length
    · obtain ⟨b1, o1, x, rfl, l1, ex, c1⟩ := (HA.out.below hb).at_ hlt
      have C := hid (HC.out (lastI (-1) (l.take k)) x wr HP.out)
      have HL := hid (lastI_step ex)
      have HS := hid (gd_step HG.out ex)
      have HF := hid (gd_no HG.out ex)
      obtain ⟨t, ht⟩ : ∃ t, lastI (-1) (l.take k) = t := ⟨_, rfl⟩
      rw [ht] at C HS HF
      clear ex ht HP
      by_cases a : t < x ∧ x < E
      · rw [decide_eq_true a] at C
        have HG2 := hid (HS.out.2 a)
        clear a HS HF
        go_wp2_with fail
        refine C.out.mono ?_
        rintro _ w2 ⟨rfl, hk2, hb2⟩
        have HK2 := hid hk2
        clear hk2
        go_wp2_with fail
        go_roundw
        case rel => exact ⟨k + 1, by omega, by go_num, HG2.out, by rw [HL.out]; exact HK2.out, hb.trans hb2⟩
        case measure => simp [intOf]; omega
      · rw [decide_eq_false a] at C
        have hR := HN.out (HF.out a)
        subst hR
        clear a HS HF
        go_wp2_with fail
        refine C.out.mono ?_
        rintro _ w2 ⟨rfl, hk2, hb2⟩
        clear hk2
        go_wp2_with fail
        go_ret
        exact ⟨_, rfl, decide_eq_true (by omega), hb.trans hb2⟩
    · have hR := HY.out (by have h := HG.out; rw [List.take_of_length_le (by omega)] at h; exact h)
      subst hR
      go_wp2_with fail
      go_ret
      exact ⟨_, rfl, by decide, hb⟩
theorem stray_contains {A : Option Addr} {c p q B : Nat} (hpq : p ≠ q) (hp : B ≤ p) (hq : B ≤ q) (E : Int) (l : List Int) (hl : l.length ≤ 9223372036854775807) (w : World) (ra : Rd (Value.int .i64) w B A l) (hk : Kept w p q (-1) E) :
    Calls Tryz.prog 98 #[.slice A l.length c, .func (.func 110) #[] #[.pointer (some ⟨p, 0, none⟩), .pointer (some ⟨q, 0, none⟩)]] w fun e w' => e = .returned (.bool (!gdB E l)) ∧ Below B w w' := by
  have C := hid (stray_index (A := A) (c := c) hpq hp hq E l hl w ra hk)
  obtain ⟨R, hR⟩ : ∃ R, (!gdB E l) = R := ⟨_, rfl⟩
  rw [hR] at C ⊢
  clear hR ra hk
  go_enter Tryz.func98, Tryz.ntmps98
  go_wp2_with fail
  refine C.out.mono ?_
  rintro _ w2 ⟨r, rfl, hr, hb⟩
  go_wp2_with fail
  go_ret
  exact ⟨rfl, hb⟩
theorem ix_Check {A : Option Addr} {c : Nat} (dim : Int) (l : List Int) (hd : I64 dim) (hl : l.length ≤ 100000) (w : World) (ra : Rd (Value.int .i64) w w.heap.size A l) :
    Calls Tryz.prog 84 #[.int .i64 dim, .slice A l.length c] w fun e w' => e = .returned (.int .i64 (chkE dim l)) ∧ Below w.heap.size w w' := by
  have CM := hid (ix_may dim hd)
  have HA := hid ra
  by_cases h1 : 1 ≤ dim ∧ dim ≤ 4096
  · have e : chkE dim l = if gdB dim l = true then 0 else 1 := by
      by_cases g : gdP dim l
      · rw [chk_ok.2 ⟨h1.1, h1.2, g.1, g.2⟩, if_pos (show gdB dim l = true from decide_eq_true g)]
      · rw [chk_no (fun h => g ⟨h.2.2.1, h.2.2.2⟩), if_neg]
        unfold gdB
        simpa using g
    rw [decide_eq_true h1] at CM
    rw [e]
    have CS := hid (ix_stray dim w)
    have CC := hid (fun W h1 h2 => stray_contains (A := A) (c := c) (p := w.heap.size + 1) (q := w.heap.size) (B := w.heap.size) (by omega) (by omega) (by omega) dim l (by omega) W h1 h2)
    obtain ⟨R, hR⟩ : ∃ R, gdB dim l = R := ⟨_, rfl⟩
    rw [hR] at CC ⊢
    clear hR e ra h1
    go_enter Tryz.func84, Tryz.ntmps84
    go_wp2_with fail
    refine (CM.out w).mono ?_
    rintro _ _ ⟨rfl, rfl⟩
    go_wp2_with fail
    refine CS.out.mono ?_
    rintro _ w1 ⟨rfl, hk1, hb1⟩
    have C := hid (CC.out w1 (HA.out.below hb1) hk1)
    clear CC CS CM hk1
    cases R with
    | true =>
      go_wp2_with fail
      refine C.out.mono ?_
      rintro _ w2 ⟨rfl, hb2⟩
      go_wp2_with fail
      go_ret
      exact ⟨rfl, hb1.trans hb2⟩
    | false =>
      go_wp2_with fail
      refine C.out.mono ?_
      rintro _ w2 ⟨rfl, hb2⟩
      go_wp2_with fail
      go_ret
      exact ⟨rfl, hb1.trans hb2⟩
  · rw [decide_eq_false h1] at CM
    rw [chk_no (fun h => h1 ⟨h.1, h.2.1⟩)]
    clear ra h1
    go_enter Tryz.func84, Tryz.ntmps84
    go_wp2_with fail
    refine (CM.out w).mono ?_
    rintro _ _ ⟨rfl, rfl⟩
    go_wp2_with fail
    go_ret
    exact ⟨rfl, Below.refl _ _⟩
end Go.Proofs.YtngdgbicjhlnaaaGreat
/- Bits set one by one, wherever they go: plain mathematics. -/
namespace Go.Proofs.YtngdgbicjhlnaaaGreat
open Go.RowKit
set_option maxRecDepth 100000
set_option linter.unusedVariables false
theorem byF_congr {n : Nat} {f g : Nat → Bool} (h : ∀ k, k < n → f k = g k) (i : Nat) : byF n f i = byF n g i := by
  have e : ∀ p w, bv n f p w = bv n g p w := fun p w => by
    unfold bv
    by_cases hp : p < n
    · rw [h p hp]
    · rw [if_neg (by omega), if_neg (by omega)]
  unfold byF
  simp only [e]
theorem byF_same {n a i : Nat} {f g : Nat → Bool} (h : ∀ p, p < n → p ≠ a → g p = f p) (hi : i ≠ a / 8) : byF n g i = byF n f i := by
  have e : ∀ p w, p / 8 = i → bv n g p w = bv n f p w := fun p w hp => by
    unfold bv
    by_cases hn : p < n
    · rw [h p hn (by omega)]
    · rw [if_neg (by omega), if_neg (by omega)]
  unfold byF
  rw [e _ _ (by omega), e _ _ (by omega), e _ _ (by omega), e _ _ (by omega), e _ _ (by omega), e _ _ (by omega), e _ _ (by omega), e _ _ (by omega)]
theorem or8 : ∀ (r : Fin 8) (a b c d e f g h : Bool), [a, b, c, d, e, f, g, h].getD r.val false = false →
    bits BinOp.or IntKind.u8 (sum8 a b c d e f g h) (2 ^ (7 - r.val)) = sum8 (a || r.val == 0) (b || r.val == 1) (c || r.val == 2) (d || r.val == 3) (e || r.val == 4) (f || r.val == 5) (g || r.val == 6) (h || r.val == 7) := by decide +kernel
theorem byF_set {n a : Nat} {f g : Nat → Bool} (ha : a < n) (h0 : f a = false) (h1 : g a = true) (h : ∀ p, p < n → p ≠ a → g p = f p) :
    bits BinOp.or IntKind.u8 (byF n f (a / 8)) (2 ^ (7 - a % 8)) = byF n g (a / 8) := by
  have e : ∀ t, t < 8 → (decide (8 * (a / 8) + t < n) && g (8 * (a / 8) + t)) = ((decide (8 * (a / 8) + t < n) && f (8 * (a / 8) + t)) || a % 8 == t) := fun t ht => by
    by_cases he : a % 8 = t
    · rw [show 8 * (a / 8) + t = a by omega, h1]
      simp [ha, he]
    · by_cases hn : 8 * (a / 8) + t < n
      · rw [h _ hn (by omega)]
        simp [he]
      · simp [he, hn]
  have e0 := e 0 (by omega)
  rw [Nat.add_zero] at e0
  rw [byF_sum, byF_sum, e0, e 1 (by omega), e 2 (by omega), e 3 (by omega), e 4 (by omega), e 5 (by omega), e 6 (by omega), e 7 (by omega)]
  refine or8 ⟨a % 8, by omega⟩ _ _ _ _ _ _ _ _ ?_
  have ea : ∀ t, a % 8 = t → (decide (8 * (a / 8) + t < n) && f (8 * (a / 8) + t)) = false := fun t ht => by
    rw [show 8 * (a / 8) + t = a by omega, h0, Bool.and_false]
  have h8 : a % 8 < 8 := by omega
  show List.getD _ (a % 8) false = false
  obtain ⟨r, hr⟩ : ∃ r, a % 8 = r := ⟨_, rfl⟩
  rw [hr] at h8 ea ⊢
  match r, h8 with
  | 0, _ => exact ea 0 rfl
  | 1, _ => exact ea 1 rfl
  | 2, _ => exact ea 2 rfl
  | 3, _ => exact ea 3 rfl
  | 4, _ => exact ea 4 rfl
  | 5, _ => exact ea 5 rfl
  | 6, _ => exact ea 6 rfl
  | 7, _ => exact ea 7 rfl
/-- Where each bit of each number goes, and back. -/
def Places (k m : Nat) (pl : Nat → Nat → Nat) (nu bi : Nat → Nat) : Prop :=
  (∀ i j, i < m → j < k → nu (pl i j) = i ∧ bi (pl i j) = j ∧ pl i j < k * m) ∧ ∀ p, p < k * m → nu p < m ∧ bi p < k ∧ pl (nu p) (bi p) = p
theorem places_side (k m : Nat) : Places k m (fun i j => i * k + j) (fun p => p / k) (fun p => p % k) := by
  constructor
  · intro i j hi hj
    refine ⟨?_, ?_, place_lt hi hj⟩
    · show (i * k + j) / k = i
      rw [Nat.mul_comm, Nat.mul_add_div (by omega), Nat.div_eq_of_lt hj, Nat.add_zero]
    · show (i * k + j) % k = j
      rw [Nat.mul_comm, Nat.mul_add_mod, Nat.mod_eq_of_lt hj]
  · intro p hp
    have hk : 0 < k := Nat.pos_of_ne_zero (by rintro rfl; simp at hp)
    refine ⟨Nat.div_lt_of_lt_mul hp, Nat.mod_lt p hk, ?_⟩
    show p / k * k + p % k = p
    rw [Nat.mul_comm]; exact Nat.div_add_mod p k
theorem places_plane (k m : Nat) : Places k m (fun i j => j * m + i) (fun p => p % m) (fun p => p / m) := by
  constructor
  · intro i j hi hj
    refine ⟨?_, ?_, ?_⟩
    · show (j * m + i) % m = i
      rw [Nat.mul_comm, Nat.mul_add_mod, Nat.mod_eq_of_lt hi]
    · show (j * m + i) / m = j
      rw [Nat.mul_comm, Nat.mul_add_div (by omega), Nat.div_eq_of_lt hi, Nat.add_zero]
    · have := place_lt (w := m) (m := k) hj hi
      rw [Nat.mul_comm k m]; exact this
  · intro p hp
    have hm : 0 < m := Nat.pos_of_ne_zero (by rintro rfl; simp at hp)
    refine ⟨Nat.mod_lt p hm, Nat.div_lt_of_lt_mul (by rw [Nat.mul_comm]; exact hp), ?_⟩
    show p / m * m + p % m = p
    rw [Nat.mul_comm]; exact Nat.div_add_mod p m
/-- The bits that are set when all numbers ahead of i, and of i the bits ahead of j, are written. -/
def GB (f : Nat → Bool) (nu bi : Nat → Nat) (i j : Nat) : Nat → Bool := fun p => f p && decide (nu p < i ∨ nu p = i ∧ bi p < j)
section
variable {k m : Nat} {pl : Nat → Nat → Nat} {nu bi : Nat → Nat} {f : Nat → Bool}
theorem GB_zero (n x : Nat) : byF n (GB f nu bi 0 0) x = 0 := by
  rw [byF_congr (g := fun _ => false) (fun p _ => by unfold GB; simp)]
  unfold byF bv
  simp
theorem GB_next (h : Places k m pl nu bi) {i : Nat} (hi : i < m) (x : Nat) : byF (k * m) (GB f nu bi i k) x = byF (k * m) (GB f nu bi (i + 1) 0) x := byF_congr (fun p hp => by
  obtain ⟨h1, h2, h3⟩ := h.2 p hp
  unfold GB
  congr 1
  rw [decide_eq_decide]
  omega) x
theorem GB_end (h : Places k m pl nu bi) (x : Nat) : byF (k * m) (GB f nu bi m 0) x = byF (k * m) f x := byF_congr (fun p hp => by
  obtain ⟨h1, h2, h3⟩ := h.2 p hp
  unfold GB
  rw [decide_eq_true (Or.inl h1), Bool.and_true]) x
theorem GB_else (h : Places k m pl nu bi) {i j p : Nat} (hp : p < k * m) (he : p ≠ pl i j) : GB f nu bi i (j + 1) p = GB f nu bi i j p := by
  obtain ⟨h1, h2, h3⟩ := h.2 p hp
  unfold GB
  congr 1
  rw [decide_eq_decide]
  have : ¬ (nu p = i ∧ bi p = j) := by
    rintro ⟨rfl, rfl⟩
    exact he h3.symm
  omega
theorem GB_off (h : Places k m pl nu bi) {i j : Nat} (hf : f (pl i j) = false) (x : Nat) : byF (k * m) (GB f nu bi i (j + 1)) x = byF (k * m) (GB f nu bi i j) x := byF_congr (fun p hp => by
  by_cases he : p = pl i j
  · rw [he]; unfold GB; rw [hf]; rfl
  · exact GB_else h hp he) x
theorem GB_other (h : Places k m pl nu bi) {i j x : Nat} (hx : x ≠ pl i j / 8) : byF (k * m) (GB f nu bi i (j + 1)) x = byF (k * m) (GB f nu bi i j) x := byF_same (fun p hp he => GB_else h hp he) hx
theorem GB_on (h : Places k m pl nu bi) {i j : Nat} (hi : i < m) (hj : j < k) (hf : f (pl i j) = true) :
    bits BinOp.or IntKind.u8 (byF (k * m) (GB f nu bi i j) (pl i j / 8)) (2 ^ (7 - pl i j % 8)) = byF (k * m) (GB f nu bi i (j + 1)) (pl i j / 8) := by
  obtain ⟨h1, h2, h3⟩ := h.1 i j hi hj
  refine byF_set h3 ?_ ?_ (fun p hp he => GB_else h hp he)
  · unfold GB; rw [h1, h2]; simp
  · unfold GB; rw [h1, h2, hf]; simp
end
theorem or_none {x : Int} (h0 : 0 ≤ x) (h1 : x ≤ 255) : bits BinOp.or IntKind.u8 x 0 = x := by
  obtain ⟨n, rfl⟩ := Int.eq_ofNat_of_zero_le h0
  show IntKind.u8.wrap ((BitVec.ofInt 8 n ||| BitVec.ofInt 8 ((0 : Nat) : Int)).toNat : Int) = _
  rw [BitVec.toNat_or, BitVec.ofInt_natCast, BitVec.ofInt_natCast, BitVec.toNat_ofNat, BitVec.toNat_ofNat, Nat.mod_eq_of_lt (by omega), show 0 % 2 ^ 8 = 0 from rfl, Nat.or_zero]
  simp [IntKind.wrap, IntKind.bits, IntKind.signed]
  omega
/-- A bit as a number. -/
def b2 (v : Bool) : Int := if v then 1 else 0
theorem and_u8 {x : Int} (h0 : 0 ≤ x) (h1 : x ≤ 255) (s : Nat) : bits BinOp.and IntKind.u8 (x / 2 ^ s) 1 = b2 (bt x s) := by
  obtain ⟨n, hn⟩ := Int.eq_ofNat_of_zero_le (Int.ediv_nonneg h0 (show (0 : Int) ≤ 2 ^ s from Int.pow_nonneg (by decide)))
  have hle : x / 2 ^ s ≤ x := Int.ediv_le_self _ h0
  unfold bt b2
  rw [hn] at hle ⊢
  show IntKind.u8.wrap ((BitVec.ofInt 8 n &&& BitVec.ofInt 8 ((1 : Nat) : Int)).toNat : Int) = _
  rw [BitVec.toNat_and, BitVec.ofInt_natCast, BitVec.ofInt_natCast, BitVec.toNat_ofNat, BitVec.toNat_ofNat, Nat.mod_eq_of_lt (by omega), show 1 % 2 ^ 8 = 1 from rfl, Nat.and_one_is_mod]
  by_cases h : n % 2 = 1
  · rw [h, if_pos (by simp; omega)]; rfl
  · rw [show n % 2 = 0 by omega, if_neg (by simp; omega)]; rfl
theorem and_u64 {x : Int} (hx : U64 x) (s : Nat) : bits BinOp.and IntKind.u64 (x / 2 ^ s) 1 = b2 (bt x s) := by
  unfold U64 at hx
  have h0 := hx.1
  obtain ⟨n, hn⟩ := Int.eq_ofNat_of_zero_le (Int.ediv_nonneg h0 (show (0 : Int) ≤ 2 ^ s from Int.pow_nonneg (by decide)))
  have hle : x / 2 ^ s ≤ x := Int.ediv_le_self _ h0
  unfold bt b2
  rw [hn] at hle ⊢
  show IntKind.u64.wrap ((BitVec.ofInt 64 n &&& BitVec.ofInt 64 ((1 : Nat) : Int)).toNat : Int) = _
  rw [BitVec.toNat_and, BitVec.ofInt_natCast, BitVec.ofInt_natCast, BitVec.toNat_ofNat, BitVec.toNat_ofNat, Nat.mod_eq_of_lt (by omega), show 1 % 2 ^ 64 = 1 from rfl, Nat.and_one_is_mod]
  by_cases h : n % 2 = 1
  · rw [h, if_pos (by simp; omega)]; rfl
  · rw [show n % 2 = 0 by omega, if_neg (by simp; omega)]; rfl
theorem or_u64 {y : Int} (h0 : 0 ≤ y) (h1 : y ≤ 4294967296) (v : Bool) : bits BinOp.or IntKind.u64 (y * 2) (b2 v) = 2 * y + if v = true then 1 else 0 := by
  obtain ⟨n, rfl⟩ := Int.eq_ofNat_of_zero_le h0
  obtain ⟨t, ht, hv⟩ : ∃ t : Nat, t < 2 ∧ b2 v = t := by cases v; exact ⟨0, by decide, rfl⟩; exact ⟨1, by decide, rfl⟩
  have hv2 : (if v = true then 1 else 0 : Int) = t := hv
  rw [hv, hv2, show ((n : Int) * 2) = ((2 * n : Nat) : Int) by omega]
  show IntKind.u64.wrap ((BitVec.ofInt 64 _ ||| BitVec.ofInt 64 _).toNat : Int) = _
  rw [BitVec.toNat_or, BitVec.ofInt_natCast, BitVec.ofInt_natCast, BitVec.toNat_ofNat, BitVec.toNat_ofNat, Nat.mod_eq_of_lt (by omega), Nat.mod_eq_of_lt (by omega)]
  have e : 2 * n ||| t = 2 * n + t := by
    have := Nat.two_pow_add_eq_or_of_lt (i := 1) (b := t) ht n
    rw [Nat.pow_one] at this
    exact this.symm
  rw [e]
  simp [IntKind.wrap, IntKind.bits, IntKind.signed]
  omega
end Go.Proofs.YtngdgbicjhlnaaaGreat
/- The program's widths, bytes, single bits, and places as function values. -/
namespace Go.Proofs.YtngdgbicjhlnaaaGreat
open Go.RowKit
set_option maxHeartbeats 400000
set_option maxRecDepth 100000
set_option linter.unusedVariables false
theorem pl_Width (n : Int) (hn : U64 n) (w : World) :
    Calls Tryz.prog 102 #[.int .u64 n] w fun e w' => e = .returned (.int .i64 (wdt n : Int)) ∧ w = w' := by
  unfold U64 at hn
  have CL := hid (Tryz.bits_Len64 n w hn.1 hn.2)
  rw [show (Lib.bitLen n.toNat : Int) = (wdt n : Int) from rfl] at CL
  obtain ⟨R, hR⟩ : ∃ R, wdt n = R := ⟨_, rfl⟩
  rw [hR] at CL ⊢
  clear hR
  go_enter Tryz.func102, Tryz.ntmps102
  go_wp2_with fail
  refine CL.out.mono ?_
  rintro _ _ ⟨rfl, rfl⟩
  go_wp2_with fail
  go_ret
  exact ⟨rfl, rfl⟩
theorem pl_Bytes (wd many : Int) (hw : I64 wd) (hm : I64 many) (w : World) :
    Calls Tryz.prog 93 #[.int .i64 wd, .int .i64 many] w fun e w' => e = .returned (.tuple #[.int .i64 (bysV wd many), .int .i64 (bysE wd many)]) ∧ w = w' := by
  unfold I64 at hw hm
  unfold bysV bysE
  by_cases h1 : wd < 0 ∨ 32 < wd ∨ many < 0
  · rw [if_pos h1, if_neg (by decide)]
    by_cases a : wd < 0
    · clear h1
      go_enter Tryz.func93, Tryz.ntmps93
      go_wp2_with fail
      go_ret2
      exact ⟨rfl, rfl⟩
    · by_cases b : 32 < wd
      · clear h1
        go_enter Tryz.func93, Tryz.ntmps93
        go_wp2_with fail
        go_ret2
        exact ⟨rfl, rfl⟩
      · have c : many < 0 := by omega
        clear h1
        go_enter Tryz.func93, Tryz.ntmps93
        go_wp2_with fail
        go_ret2
        exact ⟨rfl, rfl⟩
  · rw [if_neg h1]
    have a : 0 ≤ wd := by omega
    have b : wd ≤ 32 := by omega
    have c : 0 ≤ many := by omega
    by_cases h2 : 4096 < many
    · rw [if_pos h2, if_neg (by decide)]
      clear h1
      go_enter Tryz.func93, Tryz.ntmps93
      go_wp2_with fail
      go_ret2
      exact ⟨rfl, rfl⟩
    · rw [if_neg h2, if_pos rfl]
      have hp : 0 ≤ wd * many ∧ wd * many ≤ 131072 := by
        have h3 := Int.mul_nonneg a c
        have h4 := Int.mul_le_mul b (show many ≤ 4096 by omega) c (by decide)
        omega
      obtain ⟨q, hq⟩ : ∃ q, wd * many = q := ⟨_, rfl⟩
      rw [hq] at hp ⊢
      have e8 : q + 8 - 1 = q + 7 := by omega
      clear h1
      go_enter Tryz.func93, Tryz.ntmps93
      go_wp2_with fail
      go_ret2
      exact ⟨rfl, rfl⟩
theorem pl_shift (p : Nat) (hp : p ≤ 1000000) (w : World) :
    Calls Tryz.prog 103 #[.int .i64 (p : Int)] w fun e w' => e = .returned (.int .i64 ((7 - p % 8 : Nat) : Int)) ∧ w = w' := by
  obtain ⟨s, hs⟩ : ∃ s, 7 - p % 8 = s := ⟨_, rfl⟩
  rw [hs]
  have e1 : (7 : Int) - (p : Int) % 8 = (s : Int) := by omega
  clear hs
  go_enter Tryz.func103, Tryz.ntmps103
  go_wp2_with fail
  go_ret
  exact ⟨rfl, rfl⟩
theorem pl_one {A : Option Addr} {c : Nat} (b : List Int) (hb : b.length ≤ 100000) (ub : U8s b) (p : Nat) (hp : p < 8 * b.length) (w : World) {B : Nat} (ra : Rd (Value.int .u8) w B A b) :
    Calls Tryz.prog 114 #[.slice A b.length c, .int .i64 (p : Int)] w fun e w' => e = .returned (.int .u8 (b2 (fB b p))) ∧ ∃ n, w' = w.drewN n := by
  obtain ⟨b1, o1, x, rfl, l1, ex, c1⟩ := ra.at_ (show p / 8 < b.length by omega)
  obtain ⟨x0, x1⟩ := ub.at_ ex
  have CS := hid (pl_shift p (by omega))
  have e1 := and_u8 x0 x1 (7 - p % 8)
  have e2 : bt x (7 - p % 8) = fB b p := by unfold fB; rw [getD_of ex]
  rw [e2] at e1
  obtain ⟨s, hs⟩ : ∃ s, 7 - p % 8 = s := ⟨_, rfl⟩
  have hs7 : s ≤ 7 := by omega
  obtain ⟨R, hR⟩ : ∃ R, b2 (fB b p) = R := ⟨_, rfl⟩
  rw [hs] at CS e1
  rw [hR] at e1 ⊢
  obtain ⟨n, hn⟩ : ∃ n, b.length = n := ⟨_, rfl⟩
  rw [hn] at hb hp ⊢
  have hq1 : (0 : Int) ≤ (p : Int) / 8 := by omega
  have hq2 : (p : Int) / 8 < (n : Int) := by omega
  clear ex hs hR e2 ra ub hn
  go_enter Tryz.func114, Tryz.ntmps114
  go_wp2_with fail
  go_quiet ((go_at_call 103; exact quietL CS.out _))
  go_wp2_with fail
  go_ret
  exact ⟨rfl, _, rfl⟩
theorem tlB_no {n : Nat} {b : List Int} {p : Nat} (h : fB b p = true) (h1 : n ≤ p) (h2 : p < 8 * b.length) : tlB n b = false := by
  cases ht : tlB n b with
  | false => rfl
  | true =>
    have := (tlB_iff n b).1 ht p h1 h2
    rw [h] at this
    exact this
theorem pl_left {A : Option Addr} {c : Nat} (b : List Int) (hb : b.length ≤ 100000) (ub : U8s b) (n : Nat) (hn : n ≤ 8 * b.length) (w : World) {B : Nat} (ra : Rd (Value.int .u8) w B A b) :
    Calls Tryz.prog 113 #[.slice A b.length c, .int .i64 (n : Int)] w fun e w' => e = .returned (.bool (!tlB n b)) ∧ ∃ m, w' = w.drewN m := by
  have HO := hid (fun p (hp : p < 8 * b.length) W hW => pl_one (A := A) (c := c) b hb ub p hp W (B := B) hW)
  have HT : Hid (∀ p, n ≤ p → p < 8 * b.length → fB b p = true → tlB n b = false) := hid (fun p h1 h2 h => tlB_no h h1 h2)
  have HY := hid (tlB_iff n b).2
  obtain ⟨R, hR⟩ : ∃ R, tlB n b = R := ⟨_, rfl⟩
  rw [hR] at HT HY ⊢
  obtain ⟨f, hf⟩ : ∃ f, fB b = f := ⟨_, rfl⟩
  rw [hf] at HT HO HY
  obtain ⟨N, hN⟩ : ∃ N, b.length = N := ⟨_, rfl⟩
  rw [hN] at HO HT HY hb hn ⊢
  have RA := hid ra
  clear hR hf hN ub ra
  go_enter Tryz.func113, Tryz.ntmps113
  go_wp2_with fail
  go_loopw [5] (fun s wr => ∃ p : Nat, n ≤ p ∧ p ≤ 8 * N ∧ s = .int .i64 p ∧ (∀ q, n ≤ q → q < p → f q = false) ∧ ∃ m, wr = w.drewN m) (fun s _ => 8 * N - (intOf s).toNat)
  case atStart => exact ⟨n, Nat.le_refl _, hn, rfl, by intro q h1 h2; omega, 0, rfl⟩
  case round =>
    obtain ⟨p, hp0, hp, rfl, hs, m, rfl⟩ := hrel
    have HS := hid hs
    clear hs
    by_cases hlt : p < 8 * N
    · have C := hid (HO.out p hlt (w.drewN m) RA.out)
      have hTp := HT.out p hp0 hlt
      obtain ⟨v, hv⟩ : ∃ v, f p = v := ⟨_, rfl⟩
      rw [hv] at C hTp
      have HV := hid hv
      clear hv
      cases v with
      | true =>
        have hR := hTp rfl
        subst hR
        go_wp2_with fail
        refine C.out.mono ?_
        rintro _ _ ⟨rfl, m2, rfl⟩
        go_wp2_with fail
        go_ret
        exact ⟨rfl, _, rfl⟩
      | false =>
        clear hTp
        go_wp2_with fail
        refine C.out.mono ?_
        rintro _ _ ⟨rfl, m2, rfl⟩
        go_wp2_with fail
        go_roundw
        case rel =>
          refine ⟨p + 1, by omega, by omega, by go_num, ?_, m + m2, by simp⟩
          intro q h1 h2
          by_cases e : q = p
          · rw [e]; exact HV.out
          · exact HS.out q h1 (by omega)
        case measure => simp [intOf]; omega
    · have hR : R = true := HY.out (fun q h1 h2 => HS.out q h1 (by omega))
      subst hR
      go_wp2_with fail
      go_ret
      exact ⟨rfl, _, rfl⟩
theorem side_cl {p i j k P : Nat} {w : World} (hc : w.cell? ⟨p, 0, none⟩ = some (.int .i64 (k : Int))) (hP : i * k + j = P) (h1 : P ≤ 1000000) :
    Calls Tryz.prog 115 (#[.int .i64 (i : Int), .int .i64 (j : Int)] ++ #[.pointer (some ⟨p, 0, none⟩)]) w fun e w' => e = .returned (.int .i64 (P : Int)) ∧ w = w' := by
  obtain ⟨q, hq⟩ : ∃ q, i * k = q := ⟨_, rfl⟩
  have hm : (i : Int) * (k : Int) = (q : Int) := by rw [← hq, Int.natCast_mul]
  have hs : (q : Int) + (j : Int) = (P : Int) := by omega
  clear hq hP
  go_enter Tryz.func115, Tryz.ntmps115
  go_wp2_with fail
  go_ret
  exact ⟨rfl, rfl⟩
theorem plane_cl {p i j m P : Nat} {w : World} (hc : w.cell? ⟨p, 0, none⟩ = some (.int .i64 (m : Int))) (hP : j * m + i = P) (h1 : P ≤ 1000000) :
    Calls Tryz.prog 104 (#[.int .i64 (i : Int), .int .i64 (j : Int)] ++ #[.pointer (some ⟨p, 0, none⟩)]) w fun e w' => e = .returned (.int .i64 (P : Int)) ∧ w = w' := by
  obtain ⟨q, hq⟩ : ∃ q, j * m = q := ⟨_, rfl⟩
  have hm : (j : Int) * (m : Int) = (q : Int) := by rw [← hq, Int.natCast_mul]
  have hs : (q : Int) + (i : Int) = (P : Int) := by omega
  clear hq hP
  go_enter Tryz.func104, Tryz.ntmps104
  go_wp2_with fail
  go_ret
  exact ⟨rfl, rfl⟩
theorem width_cl {p : Nat} {wd x : Int} {w : World} (hc : w.cell? ⟨p, 0, none⟩ = some (.int .i64 wd)) (ux : U64 x) :
    Calls Tryz.prog 101 (#[.int .u64 x] ++ #[.pointer (some ⟨p, 0, none⟩)]) w fun e w' => e = .returned (.bool (decide (wd < (wdt x : Int)))) ∧ ∃ n, w' = w.drewN n := by
  have CW := hid (fun W => pl_Width x ux W)
  obtain ⟨z, hz⟩ : ∃ z, wdt x = z := ⟨_, rfl⟩
  rw [hz] at CW ⊢
  clear hz
  go_enter Tryz.func101, Tryz.ntmps101
  go_wp2_with fail
  go_quiet ((go_at_call 102; exact quietL CW.out _))
  go_wp2_with fail
  go_ret
  exact ⟨rfl, _, rfl⟩
/-- The place of the first that is so, or -1. -/
def fidx (P : Int → Bool) (l : List Int) : Int := if l.any P = true then (l.findIdx P : Int) else -1
theorem fidx_at {P : Int → Bool} {l : List Int} {k : Nat} {x : Int} (hx : l[k]? = some x) (hp : P x = true) (h : ∀ y ∈ l.take k, P y = false) : fidx P l = k ∧ l.any P = true := by
  obtain ⟨hk, rfl⟩ := List.getElem?_eq_some_iff.1 hx
  have ha : l.any P = true := List.any_eq_true.2 ⟨l[k], List.getElem_mem hk, hp⟩
  refine ⟨?_, ha⟩
  unfold fidx
  rw [if_pos ha, (List.findIdx_eq hk).2 ⟨hp, fun j hj => h _ (by rw [List.mem_take_iff_getElem]; exact ⟨j, by omega, rfl⟩)⟩]
theorem fidx_no {P : Int → Bool} {l : List Int} (h : ∀ y ∈ l, P y = false) : fidx P l = -1 ∧ l.any P = false := by
  have ha : l.any P = false := by rw [List.any_eq_false]; intro y hy; rw [h y hy]; decide
  refine ⟨?_, ha⟩
  unfold fidx
  rw [ha]; rfl
theorem index_any {A : Option Addr} {c : Nat} (K : FuncId) (caps : Array Value) (l : List Int) (hl : l.length ≤ 100000) (P : Int → Bool) (w : World)
   (hK : ∀ (args : Array Value) (W : World), (callFunc K args).run Tryz.prog W = .ok (.enter K args) W) {B : Nat} (ra : Rd (Value.int .u64) w B A l)
   (H : ∀ x ∈ l, ∀ n, Calls Tryz.prog K (#[.int .u64 x] ++ caps) (w.drewN n) fun e w' => e = .returned (.bool (P x)) ∧ ∃ m, w' = (w.drewN n).drewN m) :
    Calls Tryz.prog 111 #[.slice A l.length c, .func (.func K) #[] caps] w fun e w' => e = .returned (.int .i64 (fidx P l)) ∧ ∃ n, w' = w.drewN n := by
  have HH := hid H
  have RA := hid ra
  have HF : Hid (∀ k x, l[k]? = some x → P x = true → (∀ y ∈ l.take k, P y = false) → fidx P l = k) := hid (fun k x h1 h2 h3 => (fidx_at h1 h2 h3).1)
  have HG : Hid ((∀ y ∈ l, P y = false) → fidx P l = -1) := hid (fun h => (fidx_no h).1)
  obtain ⟨R, hR⟩ : ∃ R, fidx P l = R := ⟨_, rfl⟩
  rw [hR] at HF HG ⊢
  obtain ⟨N, hN⟩ : ∃ N, l.length = N := ⟨_, rfl⟩
  have HN := hid hN
  rw [hN] at hl ⊢
  clear hR hN H ra
  go_enter Tryz.func111, Tryz.ntmps111
  go_wp2_with fail
  go_loopw [5, 8] (fun i0 i wr => ∃ k : Nat, k ≤ N ∧ i = .int .i64 k ∧ (∀ y ∈ l.take k, P y = false) ∧ ∃ m, wr = w.drewN m) (fun _ i _ => N - (intOf i).toNat)
  case atStart => exact ⟨0, by omega, rfl, by simp, 0, rfl⟩
  case round =>
    obtain ⟨k, hk, rfl, hs, m, rfl⟩ := hrel
    have HS := hid hs
    clear hs
    by_cases hlt : k < N
    · obtain ⟨b1, o1, x, rfl, l1, ex, c1⟩ := RA.out.at_ (k := k) (by rw [HN.out]; exact hlt)
      have C := hid (HH.out x (List.mem_of_getElem? ex) m)
      have hFk := HF.out k x ex
      obtain ⟨v, hv⟩ : ∃ v, P x = v := ⟨_, rfl⟩
      rw [hv] at C hFk
      have HV := hid hv
      have HE := hid ex
      clear hv ex
      cases v with
      | true =>
        have hR := hFk rfl HS.out
        subst hR
        go_wp2_with fail
        refine C.out.mono ?_
        rintro _ _ ⟨rfl, m2, rfl⟩
        go_wp2_with fail
        go_ret
        exact ⟨rfl, m + m2, by simp⟩
      | false =>
        clear hFk
        go_wp2_with fail
        refine C.out.mono ?_
        rintro _ _ ⟨rfl, m2, rfl⟩
        go_wp2_with fail
        go_roundw
        case rel =>
          refine ⟨k + 1, by omega, by go_num, ?_, m + m2, by simp⟩
          intro y hy
          rw [List.take_add_one, HE.out] at hy
          rcases List.mem_append.1 hy with h | h
          · exact HS.out y h
          · simp at h
            rw [h]; exact HV.out
        case measure => simp [intOf]; omega
    · have hR : R = -1 := HG.out (fun y hy => HS.out y (by rw [List.take_of_length_le (by rw [HN.out]; omega)]; exact hy))
      subst hR
      go_wp2_with fail
      go_ret
      exact ⟨rfl, _, rfl⟩
theorem contains_any {A : Option Addr} {c : Nat} (K : FuncId) (caps : Array Value) (l : List Int) (hl : l.length ≤ 100000) (P : Int → Bool) (w : World)
   (hK : ∀ (args : Array Value) (W : World), (callFunc K args).run Tryz.prog W = .ok (.enter K args) W) {B : Nat} (ra : Rd (Value.int .u64) w B A l)
   (H : ∀ x ∈ l, ∀ n, Calls Tryz.prog K (#[.int .u64 x] ++ caps) (w.drewN n) fun e w' => e = .returned (.bool (P x)) ∧ ∃ m, w' = (w.drewN n).drewN m) :
    Calls Tryz.prog 100 #[.slice A l.length c, .func (.func K) #[] caps] w fun e w' => e = .returned (.bool (l.any P)) ∧ ∃ n, w' = w.drewN n := by
  have C := hid (index_any (A := A) (c := c) K caps l hl P w hK ra H)
  have hge : decide (0 ≤ fidx P l) = l.any P := by
    unfold fidx
    by_cases h : l.any P = true
    · rw [if_pos h, h]; simp
    · rw [if_neg h]
      cases hb : l.any P with
      | true => exact absurd hb h
      | false => rfl
  obtain ⟨R, hR⟩ : ∃ R, fidx P l = R := ⟨_, rfl⟩
  obtain ⟨v, hv⟩ : ∃ v, l.any P = v := ⟨_, rfl⟩
  rw [hR, hv] at hge
  rw [hR] at C
  rw [hv]
  clear hR hv H ra
  go_enter Tryz.func100, Tryz.ntmps100
  go_wp2_with fail
  refine C.out.mono ?_
  rintro _ _ ⟨rfl, m, rfl⟩
  go_wp2_with fail
  go_ret
  exact ⟨rfl, _, rfl⟩
end Go.Proofs.YtngdgbicjhlnaaaGreat
/- A block of the call's own that holds these values, cell by cell: structs in boxes; what stores and calls leave of them. -/
namespace Go.Proofs.YtngdgbicjhlnaaaGreat
open Go.RowKit
set_option maxRecDepth 100000
set_option linter.unusedVariables false
/-- The cells of a block, none of them frozen. -/
def BoxL (w : World) (g : Nat) (vs : List Value) : Prop := ∀ (k : Nat) (v : Value), vs[k]? = some v → w.cell? ⟨g, k, none⟩ = some v ∧ w.frozen? ⟨g, k, none⟩ = false
section
variable {w w' : World} {g B : Nat} {vs : List Value}
theorem BoxL.below (h : BoxL w g vs) (hb : Below B w w') (hg : g < B) : BoxL w' g vs := fun k v hv =>
  ⟨(hb.cell (p := ⟨g, k, none⟩) hg).trans (h k v hv).1, (hb.frozen (p := ⟨g, k, none⟩) hg).trans (h k v hv).2⟩
theorem BoxL.new (w : World) (vs : List Value) (t : TypeId) : BoxL (w.alloc (.cells vs.toArray t)) w.heap.size vs := fun k v hv => by
  have hn := heap_alloc_new w (.cells vs.toArray t)
  refine ⟨?_, ?_⟩
  · rw [cell_of_row _ _ k _ t (0, 0) hn]
    simp [hv]
  · unfold World.frozen?
    simp only [hn]
    simp
theorem BoxL.one (h : BoxL w g vs) {k : Nat} {v : Value} (hv : vs[k]? = some v) (u : Value) : BoxL (w.setCell ⟨g, k, none⟩ u) g (vs.set k u) := fun j x hx => by
  refine ⟨?_, ?_⟩
  · by_cases e : j = k
    · subst e
      rw [List.getElem?_set_self (List.getElem?_eq_some_iff.1 hv).1] at hx
      obtain rfl : u = x := Option.some.inj hx
      exact World.cell?_setCell_same _ _ _ (h j v hv).1
    · rw [List.getElem?_set_ne (by omega)] at hx
      rw [World.cell?_setCell_other _ _ _ _ (by intro e'; injection e' with _ e2; exact e e2.symm)]
      exact (h j x hx).1
  · rw [World.frozen?_setCell]
    by_cases e : j = k
    · subst e; exact (h j v hv).2
    · rw [List.getElem?_set_ne (by omega)] at hx
      exact (h j x hx).2
theorem BoxL.other (h : BoxL w g vs) {p : Addr} (hp : p.block ≠ g) (u : Value) : BoxL (w.setCell p u) g vs := fun j x hx => by
  refine ⟨?_, ?_⟩
  · rw [World.cell?_setCell_other _ _ _ _ (by rintro rfl; exact hp rfl)]
    exact (h j x hx).1
  · rw [World.frozen?_setCell]; exact (h j x hx).2
theorem BoxL.drew (h : BoxL w g vs) : BoxL w.drew g vs := h
theorem BoxL.lt (h : BoxL w g vs) (h0 : 0 < vs.length) : g < w.heap.size := lt_of_cell (h 0 _ (List.getElem?_eq_getElem h0)).1
/-- The facts of two, eight, eleven cells. -/
theorem BoxL.two {a b : Value} (h : BoxL w g [a, b]) : w.cell? ⟨g, 0, none⟩ = some a ∧ w.cell? ⟨g, 1, none⟩ = some b ∧ w.frozen? ⟨g, 0, none⟩ = false ∧ w.frozen? ⟨g, 1, none⟩ = false :=
  ⟨(h 0 a rfl).1, (h 1 b rfl).1, (h 0 a rfl).2, (h 1 b rfl).2⟩
theorem BoxL.eight {a b c d e f i j : Value} (h : BoxL w g [a, b, c, d, e, f, i, j]) :
    (w.cell? ⟨g, 0, none⟩ = some a ∧ w.cell? ⟨g, 1, none⟩ = some b ∧ w.cell? ⟨g, 2, none⟩ = some c ∧ w.cell? ⟨g, 3, none⟩ = some d ∧ w.cell? ⟨g, 4, none⟩ = some e ∧ w.cell? ⟨g, 5, none⟩ = some f ∧ w.cell? ⟨g, 6, none⟩ = some i ∧ w.cell? ⟨g, 7, none⟩ = some j) ∧
    (w.frozen? ⟨g, 0, none⟩ = false ∧ w.frozen? ⟨g, 1, none⟩ = false ∧ w.frozen? ⟨g, 2, none⟩ = false ∧ w.frozen? ⟨g, 3, none⟩ = false ∧ w.frozen? ⟨g, 4, none⟩ = false ∧ w.frozen? ⟨g, 5, none⟩ = false ∧ w.frozen? ⟨g, 6, none⟩ = false ∧ w.frozen? ⟨g, 7, none⟩ = false) :=
  ⟨⟨(h 0 a rfl).1, (h 1 b rfl).1, (h 2 c rfl).1, (h 3 d rfl).1, (h 4 e rfl).1, (h 5 f rfl).1, (h 6 i rfl).1, (h 7 j rfl).1⟩, (h 0 a rfl).2, (h 1 b rfl).2, (h 2 c rfl).2, (h 3 d rfl).2, (h 4 e rfl).2, (h 5 f rfl).2, (h 6 i rfl).2, (h 7 j rfl).2⟩
theorem BoxL.cells11 {a b c d e f i j k l m : Value} (h : BoxL w g [a, b, c, d, e, f, i, j, k, l, m]) :
    w.cell? ⟨g, 0, none⟩ = some a ∧ w.cell? ⟨g, 1, none⟩ = some b ∧ w.cell? ⟨g, 2, none⟩ = some c ∧ w.cell? ⟨g, 3, none⟩ = some d ∧ w.cell? ⟨g, 4, none⟩ = some e ∧ w.cell? ⟨g, 5, none⟩ = some f ∧ w.cell? ⟨g, 6, none⟩ = some i ∧ w.cell? ⟨g, 7, none⟩ = some j ∧ w.cell? ⟨g, 8, none⟩ = some k ∧ w.cell? ⟨g, 9, none⟩ = some l ∧ w.cell? ⟨g, 10, none⟩ = some m :=
  ⟨(h 0 a rfl).1, (h 1 b rfl).1, (h 2 c rfl).1, (h 3 d rfl).1, (h 4 e rfl).1, (h 5 f rfl).1, (h 6 i rfl).1, (h 7 j rfl).1, (h 8 k rfl).1, (h 9 l rfl).1, (h 10 m rfl).1⟩
/-- Two cells laid at once; eight cells laid at once. -/
theorem BoxL.set2 {a b : Value} (h : BoxL w g [a, b]) (a' b' : Value) : BoxL ((w.setCell ⟨g, 0, none⟩ a').setCell ⟨g, 1, none⟩ b') g [a', b'] :=
  (h.one (k := 0) rfl a').one (k := 1) (v := b) rfl b'
theorem BoxL.other2 (h : BoxL w g vs) {g' : Nat} (hg : g' ≠ g) (a' b' : Value) : BoxL ((w.setCell ⟨g', 0, none⟩ a').setCell ⟨g', 1, none⟩ b') g vs :=
  (h.other (p := ⟨g', 0, none⟩) hg a').other (p := ⟨g', 1, none⟩) hg b'
end
end Go.Proofs.YtngdgbicjhlnaaaGreat
/- The program's places: their code put and got. -/
namespace Go.Proofs.YtngdgbicjhlnaaaGreat
open Go.RowKit
set_option maxHeartbeats 400000
set_option linter.unusedVariables false
theorem ix_numbers {A : Option Addr} {c : Nat} (dim : Int) (l : List Int) (hp : plcP dim l) (w : World) (ra : Rd (Value.int .i64) w w.heap.size A l) :
    Calls Tryz.prog 85 #[.slice A l.length c] w (OwnOf 53 .u64 w.heap.size (putL l) w) := by
  have hlen := plc_le hp
  have hd4 := hp.2.1
  have HL : Hid (∀ k x, l[k]? = some x → lastI (-1) (l.take (k + 1)) = x) := hid (fun k x h => lastI_step h)
  have HI : Hid (∀ k x, l[k]? = some x → -1 ≤ lastI (-1) (l.take k) ∧ lastI (-1) (l.take k) < x ∧ 0 ≤ x ∧ x < dim) := hid (fun k x h => lastI_lt hp h)
  have HG : Hid (∀ k x, l[k]? = some x → gapsF (-1) (l.take (k + 1)) = gapsF (-1) (l.take k) ++ [x - lastI (-1) (l.take k) - 1]) := hid (fun k x h => putL_step h)
  have HN0 : Hid (gapsF (-1) (l.take 0) = []) := hid rfl
  have HL0 : Hid (lastI (-1) (l.take 0) = -1) := hid rfl
  have HNl : Hid (∀ k, (gapsF (-1) (l.take k)).length ≤ l.length) := hid (fun k => by rw [gaps_len, List.length_take]; omega)
  have HE : Hid (∀ k, k = l.length → (l.length : Int) :: gapsF (-1) (l.take k) = putL l) := hid (fun k h => by rw [List.take_of_length_le (by omega)]; rfl)
  obtain ⟨R, hR⟩ : ∃ R, putL l = R := ⟨_, rfl⟩
  rw [hR] at HE ⊢
  obtain ⟨N, hN⟩ : ∃ N, l.length = N := ⟨_, rfl⟩
  have HN := hid hN
  rw [hN] at HE HNl hlen ⊢
  have RA := hid ra
  have hN4 : N ≤ 4096 := by omega
  have hmk := fun W => run_room (P := Tryz.prog) 26 53 (.int .u64 0) 8 Tryz.underlying26 info_u64 rfl (N + 1) (by omega) (by omega) W
  have h0 := own_room w 53 (.int .u64 0) (N + 1) (by simp [maxLen]; omega) (Nat.le_refl _)
  obtain ⟨w0, hw0⟩ : ∃ w0, w.alloc (.cells (madeCells #[.int .u64 0] (N + 1)) 53) = w0 := ⟨_, rfl⟩
  have hb0 : Below w.heap.size w w0 := by rw [← hw0]; exact (Below.refl _ _).alloc (Nat.le_refl _) _
  have hr0 : Rd (Value.int .u64) (w0.alloc (.cells #[.int .u64 (N : Int)] 53)) _ (some ⟨w0.heap.size, 0, none⟩) [(N : Int)] := rd_one (one_cell w0 (.int .u64 (N : Int)) 53).1
  have hrun := hmk w
  rw [hw0] at hrun h0
  rw [show ((N + 1 : Nat) : Int) = (N : Int) + 1 by omega] at hrun
  have h0' := own_on h0 ((Below.refl w0.heap.size w0).alloc (Nat.le_refl _) (.cells #[.int .u64 (N : Int)] 53))
  have hbw := hb0.alloc hb0.size (.cells #[.int .u64 (N : Int)] 53)
  clear hmk hw0 h0 hR hN ra hp hlen
  go_enter Tryz.func85, Tryz.ntmps85
  go_wp2_with (at_builtin; refine wpList_app (Value.int .u64) (fun _ => rfl) _ rfl _ _ 26 rfl w.heap.size 53 (.int .u64 0) 8 Tryz.underlying26 info_u64 rfl [] _ (N + 1) rfl h0' [(N : Int)] _ 1 _ rfl hr0 (by simp [maxLen]) (by simp) hbw.size ?_)
  rintro S A' c' w1 hS ho hb1 _
  have HS := hid hS
  have HO := hid ho
  have k1 := hbw.trans hb1
  clear hS ho hb1 hbw h0' hr0 hrun hb0
  go_wp2_with fail
  go_loopw [3, 4, 6, 18] (fun t p x0 i wr => ∃ (k : Nat) (S : List Int) (A2 : Option Addr) (c2 : Nat), k ≤ N ∧ i = .int .i64 k ∧ p = .int .i64 (lastI (-1) (l.take k) + 1) ∧ t = .slice A2 S.length c2 ∧ S = (N : Int) :: gapsF (-1) (l.take k) ∧ wr.ownsRow w.heap.size 53 1 (.slice A2 S.length c2) S.length (S.map (Value.int .u64)) ∧ Below w.heap.size w wr) (fun _ _ _ i _ => N - (intOf i).toNat)
  case atStart => exact ⟨0, S, A', c', by omega, rfl, by rw [HL0.out]; rfl, rfl, by rw [HS.out, HN0.out], HO.out, k1⟩
  case round =>
    clear HO k1 HS
    obtain ⟨k, S, A2, c2, hk, rfl, rfl, rfl, hS, ho, hbel⟩ := hrel
    have hSl : S.length ≤ 5000 := by have h1 := HNl.out k; rw [hS, List.length_cons]; omega
    have HS := hid hS
    have HO := hid ho
    clear hS ho
    by_cases hlt : k < N
    · obtain ⟨b1, o1, x, rfl, l1, ex, cx⟩ := (RA.out.below hbel).at_ (k := k) (by rw [HN.out]; exact hlt)
      have hi := HI.out k x ex
      have HGk := hid (HG.out k x ex)
      have HLk := hid (HL.out k x ex)
      obtain ⟨t, ht⟩ : ∃ t, lastI (-1) (l.take k) = t := ⟨_, rfl⟩
      obtain ⟨g, hg⟩ : ∃ g, x - t - 1 = g := ⟨_, rfl⟩
      rw [ht] at hi HGk
      rw [hg] at HGk
      have hg2 : x - (t + 1) = g := by omega
      have hgb : 0 ≤ g ∧ g ≤ 4096 := by omega
      have hr0 : Rd (Value.int .u64) (wr.alloc (.cells #[.int .u64 g] 53)) _ (some ⟨wr.heap.size, 0, none⟩) [g] := rd_one (one_cell wr (.int .u64 g) 53).1
      have h0' := own_on HO.out ((Below.refl wr.heap.size wr).alloc (Nat.le_refl _) (.cells #[.int .u64 g] 53))
      have hbs := hbel.size
      rw [ht]
      clear ex ht hg
      go_wp2_with (at_builtin; refine wpList_app (Value.int .u64) (fun _ => rfl) _ rfl _ _ 26 rfl w.heap.size 53 (.int .u64 0) 8 Tryz.underlying26 info_u64 rfl S _ _ rfl h0' [g] _ 1 _ rfl hr0 (by simp [maxLen]; omega) (by simp; omega) (by simp; omega) ?_)
      rintro S' A' c' w4 hS' ho hb4 _
      have HS' := hid hS'
      have HO' := hid ho
      clear hS' ho h0' hr0 hg2
      go_wp2_with fail
      go_roundw
      case rel => exact ⟨k + 1, S', A', c', by omega, by go_num, by rw [HLk.out], rfl, by rw [HS'.out, HS.out, HGk.out, List.cons_append], HO'.out, (hbel.alloc hbel.size _).trans hb4⟩
      case measure => simp [intOf]; omega
    · obtain rfl : k = N := by omega
      have HR : Hid (S = R) := hid (by rw [HS.out, HE.out k rfl])
      clear HS
      have h := HR.out
      subst h
      go_wp2_with fail
      go_ret
      exact ⟨A2, c2, rfl, HO.out, hbel⟩
theorem ix_Put {A : Option Addr} {c : Nat} (dim : Int) (l : List Int) (hd : I64 dim) (hl : l.length ≤ 100000) (w : World) (ra : Rd (Value.int .i64) w w.heap.size A l) :
    Calls Tryz.prog 67 #[.int .i64 dim, .slice A l.length c] w (OwnE 5 .u8 w.heap.size (pixV dim l) (chkE dim l) w) := by
  have C := hid (ix_Check (A := A) (c := c) dim l hd hl w ra)
  by_cases h : chkE dim l = 0
  · have hp := chk_ok.1 h
    have hlen := plc_le hp
    have hd4 := hp.2.1
    have e : pixV dim l = encs (putL l) := if_pos h
    rw [h] at C
    rw [h, e]
    have CN := hid (fun W h => ix_numbers (A := A) (c := c) dim l hp W h)
    have HPl : Hid ((putL l).length = l.length + 1) := hid (by unfold putL; rw [List.length_cons, gaps_len])
    have HPu := hid (putL_u64 hp)
    obtain ⟨P, hP⟩ : ∃ P, putL l = P := ⟨_, rfl⟩
    rw [hP] at CN HPl HPu ⊢
    have hPl : P.length ≤ 5000 := by rw [HPl.out]; omega
    have CP : Hid (∀ B d W, Rd (Value.int .u64) W W.heap.size B P → Calls Tryz.prog 23 #[.slice none 0 0, .slice B P.length d] W (OwnOf 5 .u8 W.heap.size (encs P) W)) := hid (fun B d W h => leb_Put (A := none) (B := B) (c := 0) (d := d) [] P (by decide) hPl HPu.out W Rd.none_ h)
    obtain ⟨R, hR⟩ : ∃ R, encs P = R := ⟨_, rfl⟩
    rw [hR] at CP ⊢
    have RA := hid ra
    clear h e hp hP hR ra hd HPl HPu hlen hd4
    go_enter Tryz.func67, Tryz.ntmps67
    go_wp2_with fail
    refine C.out.mono ?_
    rintro _ w1 ⟨rfl, hb1⟩
    have CN1 := hid (CN.out w1 (RA.out.on hb1))
    clear CN C
    go_wp2_with fail
    refine CN1.out.mono ?_
    rintro _ w2 ⟨A2, c2, rfl, ho2, hb2⟩
    have CP1 := hid (CP.out A2 c2 w2 (own_rd ho2))
    have k2 : Below w.heap.size w w2 := hb1.trans (hb2.mono hb1.size)
    clear CP CN1 ho2 hb2
    go_wp2_with fail
    refine CP1.out.mono ?_
    rintro _ w3 ⟨A3, c3, rfl, ho3, hb3⟩
    have HO := hid (own_base ho3 k2.size)
    clear ho3 CP1
    go_wp2_with fail
    go_ret2
    exact ⟨A3, c3, rfl, HO.out, k2.trans (hb3.mono k2.size)⟩
  · have e : pixV dim l = [] := if_neg h
    rw [e]
    obtain ⟨E, hE⟩ : ∃ E, chkE dim l = E := ⟨_, rfl⟩
    rw [hE] at C h ⊢
    have hne : (E != 0) = true := by simpa using h
    clear h e hE ra
    go_enter Tryz.func67, Tryz.ntmps67
    go_wp2_with fail
    refine C.out.mono ?_
    rintro _ _ ⟨rfl, hb1⟩
    go_wp2_with fail
    go_ret2
    exact .nil hb1
/-- A row that was made, filled place by place. -/
theorem own_fill {w' : World} {b B : Nat} {e : TypeId} {O : List Int} (h : w'.rowIs b e O.length (fun j => .int .i64 (O.getD j 0))) (hB : B ≤ b) (hn : O.length ≤ maxLen) :
    w'.ownsRow B e 1 (.slice (some ⟨b, 0, none⟩) O.length O.length) O.length (O.map (Value.int .i64)) := by
  have h2 := own_made (w' := w') h hB hn
  have e2 : (List.range O.length).map (fun j => Value.int .i64 (O.getD j 0)) = O.map (Value.int .i64) := by
    apply List.ext_getElem (by simp)
    intro i h1 h2
    simp at h1
    simp [List.getD, h1]
  rwa [e2] at h2
theorem getD_snoc (O : List Int) (z : Int) (j : Nat) : (O ++ [z]).getD j 0 = if j = O.length then z else O.getD j 0 := by
  unfold List.getD
  by_cases h : j < O.length
  · rw [List.getElem?_append_left h, if_neg (by omega)]
  · rw [List.getElem?_append_right (by omega)]
    by_cases e : j = O.length
    · rw [if_pos e, e]; simp
    · rw [if_neg e, List.getElem?_eq_none (by simp; omega), List.getElem?_eq_none (by omega)]
theorem ix_places {A : Option Addr} {c : Nat} (dim : Int) (M : Nat) (b : List Int) (h1' : 1 ≤ dim) (h2' : dim ≤ 4096) (hMd : (M : Int) ≤ dim) (hb : b.length ≤ c) (hc : c ≤ 9223372036854775807) (ub : U8s b) (a : Int) (ha : I64 a) (w : World) (ra : Rd (Value.int .u8) w w.heap.size A b) :
    Calls Tryz.prog 92 #[.int .i64 dim, .int .i64 (M : Int), .slice A b.length c, .int .i64 a] w (OwnG (ixL dim b M (-1) a) w) := by
  have HR : Hid (withL [] (ixL dim b (M - 0) (-1) a) = ixL dim b M (-1) a) := hid (by
    rw [Nat.sub_zero]
    exact withL_nil (fun h => ixL_bad _ _ _ _ _ h))
  obtain ⟨r, hr⟩ : ∃ r, ixL dim b M (-1) a = r := ⟨_, rfl⟩
  rw [hr] at HR ⊢
  have HA := hid ra
  have HU := hid ub
  have hmk := run_make_row' (P := Tryz.prog) 24 3 (.int .i64 0) 8 Tryz.underlying24 info_int rfl .i64 .i64 M (by omega) (by omega) w
  clear hr ra ub
  go_enter Tryz.func92, Tryz.ntmps92
  go_wp2_with fail
  go_loopw [3, 12, 13, 14, 15, 16, 21] (fun q p x13 x14 x15 x16 i wr => ∃ (k : Nat) (x y : Int) (O : List Int), k ≤ M ∧ i = .int .i64 k ∧ q = .int .i64 x ∧ I64 x ∧ p = .int .i64 (y + 1) ∧ -1 ≤ y ∧ y < dim ∧ O.length = k ∧ withL O (ixL dim b (M - k) y x) = r ∧ wr.rowIs w.heap.size 3 M (fun j => .int .i64 (O.getD j 0)) ∧ Below w.heap.size w wr) (fun _ _ _ _ _ _ i _ => M - (intOf i).toNat)
  case atStart => exact ⟨0, a, -1, [], by omega, rfl, rfl, ha, rfl, by omega, by omega, rfl, HR.out, (World.rowIs_made w (.int .i64 0) M _).congr (fun j hj => by simp [List.getD]), by go_grown⟩
  case round =>
    clear HR hmk
    obtain ⟨k, x, y, O, hk, rfl, rfl, hx, rfl, hy0, hy1, hOk, hs, hrow, hbel⟩ := hrel
    have HS := hid hs
    have HO := hid hrow
    have HK := hid hOk
    clear hs hOk hrow
    by_cases hlt : k < M
    · have CG2 := hid (fun W h => leb_Get (A := A) (c := c) b hb hc HU.out x hx W (B := w.heap.size) h)
      have HX2 := hid (fun h => getA_i64 (b := b) (a := x) (c := c) HU.out hb hc h)
      have HOK2 := hid (fun h => (get_ok (b := b) (a := x) HU.out h).2.1)
      have HM2 : Hid ((getE b x ≠ 0 → r = ([], 0, getE b x)) ∧ (getE b x = 0 → dim - y - 1 ≤ getN b x → r = ([], 0, 6)) ∧ (getE b x = 0 → getN b x < dim - y - 1 → withL (O ++ [y + getN b x + 1]) (ixL dim b (M - (k + 1)) (y + getN b x + 1) (getA b x)) = r)) := hid (by
        have h := HS.out
        rw [show M - k = (M - (k + 1)) + 1 by omega] at h
        exact ⟨fun e => by rw [← h]; exact withL_err e, fun e1 e2 => by rw [← h]; exact withL_form e1 e2, fun e1 e2 => by rw [← h]; exact (withL_step e1 e2).symm⟩)
      obtain ⟨N, hN⟩ : ∃ N, getN b x = N := ⟨_, rfl⟩
      obtain ⟨E, hE⟩ : ∃ N, getE b x = N := ⟨_, rfl⟩
      obtain ⟨X2, hX⟩ : ∃ N, getA b x = N := ⟨_, rfl⟩
      rw [hN, hE, hX] at HM2 CG2
      rw [hE, hX] at HX2
      rw [hN, hE] at HOK2
      clear hN hE hX
      have C := hid (CG2.out _ (HA.out.below hbel))
      clear CG2
      by_cases her : E = 0
      · have hX2 := HX2.out her
        have hN2 := HOK2.out her
        unfold U64 at hN2
        have hd1 : 0 ≤ dim - (y + 1) := by omega
        have hd2 : dim - (y + 1) ≤ 4096 := by omega
        by_cases hbig : dim - y - 1 ≤ N
        · have HR2 := hid (HM2.out.2.1 her hbig)
          have hbig2 : dim - (y + 1) ≤ N := by omega
          subst her
          clear HX2 HOK2 HM2 hbig
          go_wp2_with fail
          refine C.out.mono ?_
          rintro _ _ ⟨rfl, rfl⟩
          go_wp2_with fail
          go_ret3
          rw [HR2.out]
          exact OwnG.nil hbel
        · have HR2 := hid (HM2.out.2.2 her (by omega))
          have hsm : N < dim - (y + 1) := by omega
          subst her
          obtain ⟨z, hz⟩ : ∃ z, y + N + 1 = z := ⟨_, rfl⟩
          rw [hz] at HR2
          have hz2 : y + 1 + N = z := by omega
          have hzb : 0 ≤ z ∧ z < dim := by omega
          have f1 := HO.out.frozen k
          have c3 := HO.out.cell hlt
          clear hbig hz HX2 HOK2 HM2
          go_wp2_with fail
          refine C.out.mono ?_
          rintro _ _ ⟨rfl, rfl⟩
          go_wp2_with fail
          go_roundw
          case rel =>
            refine ⟨k + 1, X2, z, O ++ [z], by omega, by go_num, rfl, hX2, rfl, by omega, hzb.2, by rw [List.length_append, HK.out]; rfl, HR2.out, ?_, hbel.setCell (Nat.le_refl _) _⟩
            refine World.rowIs.congr (HO.out.set k (.int .i64 z)) fun j hj => ?_
            rw [getD_snoc, HK.out]
            by_cases e : j = k
            · rw [if_pos e, if_pos (by omega)]
            · rw [if_neg e, if_neg (by omega)]
          case measure => simp [intOf]; omega
      · have hne : (E != 0) = true := by simpa using her
        have HR2 := hid (HM2.out.1 her)
        clear HX2 HOK2 HM2
        go_wp2_with fail
        refine C.out.mono ?_
        rintro _ _ ⟨rfl, rfl⟩
        go_wp2_with fail
        go_ret3
        rw [HR2.out]
        exact OwnG.nil hbel
    · obtain rfl : k = M := by omega
      have HR2 : Hid (r = (O, x, 0)) := hid (by
        have h := HS.out
        rw [Nat.sub_self, withL_end] at h
        exact h.symm)
      go_wp2_with fail
      go_ret3
      rw [HR2.out]
      have HO2 := HO.out
      rw [← HK.out] at HO2
      refine ⟨some ⟨w.heap.size, 0, none⟩, O.length, by rw [HK.out]; rfl, own_fill HO2 (Nat.le_refl _) (by rw [HK.out]; simp [maxLen]; omega), hbel⟩
theorem ix_Get {A : Option Addr} {c : Nat} (dim : Int) (b : List Int) (hd : I64 dim) (hb : b.length ≤ c) (hc : c ≤ 9223372036854775807) (ub : U8s b) (a : Int) (ha : I64 a) (w : World) (ra : Rd (Value.int .u8) w w.heap.size A b) :
    Calls Tryz.prog 72 #[.int .i64 dim, .slice A b.length c, .int .i64 a] w (OwnG (gixR dim b a) w) := by
  have CM := hid (ix_may dim hd)
  unfold I64 at hd
  by_cases h1 : 1 ≤ dim ∧ dim ≤ 4096
  · have h1' := h1.1
    have h2' := h1.2
    rw [decide_eq_true h1] at CM
    have CG := hid (leb_Get (A := A) (c := c) b hb hc ub a ha w ra)
    have HOK := hid (fun h => (get_ok (b := b) (a := a) ub h).2.1)
    have HX := hid (fun h => getA_i64 (b := b) (a := a) (c := c) ub hb hc h)
    have HM := hid (gix_cases (b := b) (a := a) h1' h2')
    have CP : Hid (getE b a = 0 → ¬ dim < getN b a → Calls Tryz.prog 92 #[.int .i64 dim, .int .i64 (getN b a), .slice A b.length c, .int .i64 (getA b a)] w (OwnG (gixR dim b a) w)) := hid (fun he hn => by
      have hN := (get_ok (b := b) (a := a) ub he).2.1
      unfold U64 at hN
      obtain ⟨M, hM⟩ := Int.eq_ofNat_of_zero_le hN.1
      have h := ix_places (A := A) (c := c) dim M b h1' h2' (by omega) hb hc ub (getA b a) (getA_i64 ub hb hc he) w ra
      have e : gixR dim b a = ixL dim b M (-1) (getA b a) := by
        unfold gixR
        rw [if_neg (by omega), if_neg (by rw [he]; decide), if_neg hn, hM, Int.toNat_natCast]
      rw [e, hM]
      exact h)
    obtain ⟨r, hr⟩ : ∃ r, gixR dim b a = r := ⟨_, rfl⟩
    obtain ⟨N, hN⟩ : ∃ N, getN b a = N := ⟨_, rfl⟩
    obtain ⟨E, hE⟩ : ∃ E, getE b a = E := ⟨_, rfl⟩
    obtain ⟨X, hX⟩ : ∃ N, getA b a = N := ⟨_, rfl⟩
    rw [hr, hN, hE, hX] at HM CP
    rw [hN, hE, hX] at CG
    rw [hE, hX] at HX
    rw [hN, hE] at HOK
    rw [hr]
    clear hr hN hE hX ra ub h1
    by_cases her : E = 0
    · have hNu := HOK.out her
      unfold U64 at hNu
      by_cases hdim : dim < N
      · have HR := hid (HM.out.2.1 her hdim)
        subst her
        clear HM HOK HX CP
        go_enter Tryz.func72, Tryz.ntmps72
        go_wp2_with fail
        refine (CM.out w).mono ?_
        rintro _ _ ⟨rfl, rfl⟩
        go_wp2_with fail
        refine CG.out.mono ?_
        rintro _ _ ⟨rfl, rfl⟩
        go_wp2_with fail
        go_ret3
        rw [HR.out]
        exact OwnG.nil (Below.refl _ _)
      · have CQ := hid (CP.out her hdim)
        subst her
        clear HM HOK HX CP
        go_enter Tryz.func72, Tryz.ntmps72
        go_wp2_with fail
        refine (CM.out w).mono ?_
        rintro _ _ ⟨rfl, rfl⟩
        go_wp2_with fail
        refine CG.out.mono ?_
        rintro _ _ ⟨rfl, rfl⟩
        go_wp2_with fail
        refine CQ.out.mono ?_
        rintro _ w1 ⟨A2, c2, rfl, ho, hb1⟩
        have HO := hid ho
        clear ho
        go_wp2_with fail
        go_ret3
        exact ⟨A2, c2, rfl, HO.out, hb1⟩
    · have hne : (E != 0) = true := by simpa using her
      have HR := hid (HM.out.1 her)
      clear HM HOK HX CP
      go_enter Tryz.func72, Tryz.ntmps72
      go_wp2_with fail
      refine (CM.out w).mono ?_
      rintro _ _ ⟨rfl, rfl⟩
      go_wp2_with fail
      refine CG.out.mono ?_
      rintro _ _ ⟨rfl, rfl⟩
      go_wp2_with fail
      go_ret3
      rw [HR.out]
      exact OwnG.nil (Below.refl _ _)
  · rw [decide_eq_false h1] at CM
    have e : gixR dim b a = ([], 0, 1) := if_pos (by omega)
    rw [e]
    clear e ra ub h1
    go_enter Tryz.func72, Tryz.ntmps72
    go_wp2_with fail
    refine (CM.out w).mono ?_
    rintro _ _ ⟨rfl, rfl⟩
    go_wp2_with fail
    go_ret3
    exact OwnG.nil (Below.refl _ _)
end Go.Proofs.YtngdgbicjhlnaaaGreat
/- Bits and signs read by the document, in memory of the call's own. -/
namespace Go.Proofs.YtngdgbicjhlnaaaGreat
open Go.RowKit
set_option maxHeartbeats 400000
set_option maxRecDepth 100000
set_option linter.unusedVariables false
/-- The first things of a list of the call's own. -/
theorem own_cutE {α : Type} {enc : α → Value} {w : World} {base c k : Nat} {e : TypeId} {A : Option Addr} {L : List α} (h : w.ownsRow base e 1 (.slice A L.length c) L.length (L.map enc)) (hk : k ≤ L.length) :
    w.ownsRow base e 1 (.slice (cutA A 0 c) (L.take k).length c) (L.take k).length ((L.take k).map enc) := by
  have hlen : (L.take k).length = k := by rw [List.length_take]; omega
  refine ⟨by rw [List.length_map, Nat.mul_one], ?_⟩
  rcases h.2 with ⟨he, h0⟩ | ⟨g, cap, cur, he, hg, hb, h1, h2, h3, h4⟩
  · simp only [Value.slice.injEq] at he
    obtain ⟨rfl, h0', rfl⟩ := he
    left
    have : k = 0 := by omega
    subst this
    exact ⟨by simp [cutA], by simp⟩
  · simp only [Value.slice.injEq] at he
    obtain ⟨rfl, _, rfl⟩ := he
    right
    refine ⟨g, c, cur, ?_, hg, hb, by omega, h2, h3, ?_⟩
    · unfold cutA
      split <;> simp [Go.WideShapes.add_plain]
    · rw [Nat.mul_one] at h4 ⊢
      rw [hlen, List.map_take, ← h4, List.take_take, Nat.min_eq_left hk]
def OwnEB (base : Nat) (xs : List Bool) (er : Int) (w : World) (e : Ending) (w' : World) : Prop :=
  ∃ A c, e = .returned (.tuple #[.slice A xs.length c, .int .i64 er]) ∧ w'.ownsRow base 4 1 (.slice A xs.length c) xs.length (xs.map Value.bool) ∧ Below base w w'
theorem OwnEB.nil {base : Nat} {er : Int} {w w' : World} (hb : Below base w w') : OwnEB base [] er w (.returned (.tuple #[.slice none 0 0, .int .i64 er])) w' := ⟨none, 0, rfl, own_nil _ _ _, hb⟩
theorem ref_bitsO {A : Option Addr} {c : Nat} (wd many : Int) (b : List Int) (hw : I64 wd) (hm : I64 many) (hl : b.length ≤ 100000) (ub : U8s b) (w : World) (ra : Rd (Value.int .u8) w w.heap.size A b) :
    Calls Tryz.prog 61 #[.int .i64 wd, .int .i64 many, .slice A b.length c] w (OwnEB w.heap.size (bitV wd many b) (bitE wd many b) w) := by
  have CB := hid (ref_Bytes wd many hw hm)
  by_cases h : bysE wd many = 0
  · have hwm := bys_ok h
    obtain ⟨k, rfl⟩ := Int.eq_ofNat_of_zero_le hwm.1.1
    obtain ⟨m, rfl⟩ := Int.eq_ofNat_of_zero_le hwm.2.1
    have hbv := bys_nat h
    by_cases hlen : (b.length : Int) = bysV k m
    · have HXE : Hid ((tlB (k * m) b = true → bitE k m b = 0 ∧ bitV k m b = mkB (k * m) (fB b)) ∧ (tlB (k * m) b = false → bitE k m b = 6 ∧ bitV k m b = [])) := hid (by
        have e : bitE k m b = if tlB (k * m) b = true then 0 else 6 := by
          unfold bitE
          rw [if_pos h, if_pos hlen, Int.toNat_natCast, Int.toNat_natCast]
        constructor
        · intro ht
          rw [ht] at e
          refine ⟨e, ?_⟩
          unfold bitV
          rw [e, Int.toNat_natCast, Int.toNat_natCast]
          rfl
        · intro ht
          rw [ht] at e
          refine ⟨e, ?_⟩
          unfold bitV
          rw [e]
          rfl)
      obtain ⟨V, hV⟩ : ∃ V, bitV k m b = V := ⟨_, rfl⟩
      obtain ⟨E, hE⟩ : ∃ E, bitE k m b = E := ⟨_, rfl⟩
      rw [hV, hE] at HXE ⊢
      rw [h] at CB
      rw [← hlen] at CB
      have hkm : (k : Int) * (m : Int) = ((k * m : Nat) : Int) := by rw [Int.natCast_mul]
      obtain ⟨N, hN⟩ : ∃ N, k * m = N := ⟨_, rfl⟩
      rw [hN] at hkm HXE hbv
      have hN8 : N ≤ 8 * b.length := by omega
      have HF : Hid (∀ i x q j, b[i]? = some x → q + j + 1 = 8 → ((x / 2 ^ q).tmod 2 == 1) = fB b (8 * i + j)) := hid (fun i x q j hx hq => by
        rw [fB_at hx hq, beq_bt (ub.at_ hx).1])
      have HT := hid (tlB_iff N b)
      obtain ⟨f, hf⟩ : ∃ f, fB b = f := ⟨_, rfl⟩
      rw [hf] at HF HT HXE
      have RA := hid ra
      obtain ⟨n, hn⟩ : ∃ n, b.length = n := ⟨_, rfl⟩
      have HN := hid hn
      rw [hn] at CB hl hN8 HT ⊢
      clear h hV hE hbv hN hf ra ub hn hw hm hwm hlen
      go_enter Tryz.func61, Tryz.ntmps61
      go_wp2_with fail
      refine (CB.out _).mono ?_
      rintro _ _ ⟨rfl, rfl⟩
      go_wp2_with fail
      go_loopw [10, 12, 13, 31] (fun t x0 k0 i wr => ∃ (m : Nat) (S : List Bool) (A2 : Option Addr) (c2 : Nat), m ≤ n ∧ i = .int .i64 m ∧ t = .slice A2 S.length c2 ∧ S = mkB (8 * m) f ∧ wr.ownsRow w.heap.size 4 1 (.slice A2 S.length c2) S.length (S.map Value.bool) ∧ Below w.heap.size w wr) (fun _ _ _ i _ => n - (intOf i).toNat)
      case atStart => exact ⟨0, [], none, 0, by omega, rfl, rfl, rfl, own_nil _ _ _, Below.refl _ _⟩
      case round =>
        obtain ⟨m, S, A2, c2, hm, rfl, rfl, hS, ho, hbel⟩ := hrel
        have HS := hid hS
        have HO := hid ho
        clear hS ho
        by_cases hlt : m < n
        · obtain ⟨b1, o1, x, rfl, l1, ex, c1⟩ := (RA.out.below hbel).at_ (k := m) (by rw [HN.out]; exact hlt)
          have HX := hid (fun q j => HF.out m x q j ex)
          clear ex
          go_wp2_with fail
          go_loopw [10, 13] (fun t s wr => ∃ (j : Nat) (u : Int) (S : List Bool) (A2 : Option Addr) (c2 : Nat), -1 ≤ u ∧ s = .int .i64 u ∧ u + j + 1 = 8 ∧ t = .slice A2 S.length c2 ∧ S = mkB (8 * m + j) f ∧ wr.ownsRow w.heap.size 4 1 (.slice A2 S.length c2) S.length (S.map Value.bool) ∧ Below w.heap.size w wr) (fun _ s _ => (intOf s + 1).toNat)
          case atStart => exact ⟨0, 7, S, A2, c2, by omega, rfl, by omega, rfl, HS.out, HO.out, hbel⟩
          case round =>
            obtain ⟨j, u, S, A2, c2, hu, rfl, huj, rfl, hS, ho, hbel⟩ := hrel
            clear HS HO
            have hSl : S.length ≤ 900000 := by rw [hS, mkB_len]; omega
            have HS := hid hS
            have HO := hid ho
            clear hS ho
            by_cases hu0 : 0 ≤ u
            · obtain ⟨q, rfl⟩ := Int.eq_ofNat_of_zero_le hu0
              have e1 := HX.out q j (by omega)
              obtain ⟨v, hv⟩ : ∃ v, f (8 * m + j) = v := ⟨_, rfl⟩
              rw [hv] at e1
              have HV := hid hv
              have hq64 : q ≤ 7 := by omega
              have hr0 : Rd Value.bool (wr.alloc (.cells #[.bool v] 4)) _ (some ⟨wr.heap.size, 0, none⟩) [v] := rd_one (one_cell wr (.bool v) 4).1
              have h0' := own_on HO.out ((Below.refl wr.heap.size wr).alloc (Nat.le_refl _) (.cells #[.bool v] 4))
              clear hv
              go_wp2_with (at_builtin; refine wpList_app Value.bool (fun _ => rfl) _ rfl _ _ 27 rfl w.heap.size 4 (.bool false) 1 Tryz.underlying27 info_bool rfl S _ _ rfl h0' [v] _ 1 _ rfl hr0 (by simp [maxLen]; omega) (by simp; omega) (by have := hbel.size; simp; omega) ?_)
              rintro S' A' c' w4 hS' ho hb4 _
              have HS' := hid hS'
              have HO' := hid ho
              clear hS' ho h0' hr0
              go_wp2_with fail
              go_roundw
              case rel => exact ⟨j + 1, (q : Int) - 1, S', A', c', by omega, by go_num, by omega, rfl, by rw [HS'.out, HS.out, ← HV.out, ← Nat.add_assoc, mkB_succ], HO'.out, (hbel.alloc hbel.size _).trans hb4⟩
              case measure => first | (simp [intOf]; done) | (simp [intOf]; omega)
            · obtain rfl : u = -1 := by omega
              obtain rfl : j = 8 := by omega
              have HS2 : Hid (S = mkB (8 * (m + 1)) f) := hid (by rw [Nat.mul_add]; exact HS.out)
              go_wp2_with fail
              go_roundw
              case rel => exact ⟨m + 1, S, A2, c2, by omega, by go_num, rfl, HS2.out, HO.out, hbel⟩
              case measure => simp [intOf]; omega
        · obtain rfl : m = n := by omega
          have hcap := own_cap HO.out
          have hr := own_rd HO.out
          have hoc0 := fun h => own_cutE (k := N) HO.out h
          have hSl : S.length = 8 * m := by rw [HS.out, mkB_len]
          have hs1 := fun W => run_from (P := Tryz.prog) 27 Tryz.underlying27 Tryz.sizeOf4 A2 S.length c2 N (by omega) hcap.1 W
          have hs2 := fun W => run_upto (P := Tryz.prog) 27 Tryz.underlying27 Tryz.sizeOf4 A2 S.length c2 N (by omega) W
          have rT := hr.cut0 hcap.1 N
          have rD := hr.cut N hcap.1
          have lD : (S.drop N).length = S.length - N := by rw [List.length_drop]
          have HD : Hid (∀ j x, (S.drop N)[j]? = some x → x = f (N + j)) := hid (fun j x hx => by
            rw [List.getElem?_drop, HS.out] at hx
            have hlt2 := (List.getElem?_eq_some_iff.1 hx).1
            rw [mkB_len] at hlt2
            rw [mkB_at f hlt2] at hx
            exact (Option.some.inj hx).symm)
          have HTK : Hid (S.take N = mkB N f) := hid (by rw [HS.out, mkB_take f (by omega)])
          obtain ⟨D, hD⟩ : ∃ D, S.drop N = D := ⟨_, rfl⟩
          obtain ⟨T, hT⟩ : ∃ T, S.take N = T := ⟨_, rfl⟩
          obtain ⟨AD, hAD⟩ : ∃ A3, cutA A2 N c2 = A3 := ⟨_, rfl⟩
          obtain ⟨AT, hAT⟩ : ∃ A3, cutA A2 0 c2 = A3 := ⟨_, rfl⟩
          rw [hAD] at rD hs1
          rw [hAT] at rT hs2
          rw [hD] at rD lD HD
          have hoc := hoc0 (by rw [hSl]; omega)
          rw [hT, hAT] at hoc
          have HOC := hid hoc
          clear hoc0 hoc
          rw [hT] at rT HTK
          rw [← lD] at hs1
          have RD := hid rD
          have RT := hid rT
          have HLD : Hid (D.length + N = 8 * m) := hid (by omega)
          have hDl : D.length ≤ 900000 := by omega
          have hcm : N ≤ c2 := by omega
          have hc9 := hcap.2
          clear HO HS hr hSl lD hD hT hAD hAT rD rT hcap
          go_wp2_with fail
          go_loop [15, 54] (fun x0 i => ∃ k : Nat, k ≤ D.length ∧ i = .int .i64 k ∧ ∀ j, j < k → D[j]? = some false) (fun _ i => D.length - (intOf i).toNat)
          case atStart => exact ⟨0, by omega, rfl, fun j hj => by omega⟩
          case round =>
            obtain ⟨k, hk, rfl, hs⟩ := hrel
            have HS := hid hs
            clear hs
            by_cases hlt : k < D.length
            · obtain ⟨b1, o1, x, rfl, l1, ex, c1⟩ := RD.out.at_ hlt
              cases x with
              | true =>
                have HE : Hid (tlB N b = false) := hid (by
                  cases ht : tlB N b with
                  | false => rfl
                  | true =>
                    have h1 := HT.out.1 ht (N + k) (by omega) (by have := HLD.out; omega)
                    rw [← HD.out k true ex] at h1
                    cases h1)
                have HX := hid (HXE.out.2 HE.out)
                clear ex
                go_wp2_with fail
                go_ret2
                rw [HX.out.1, HX.out.2]
                exact .nil hbel
              | false =>
                have HN2 : Hid (∀ j, j < k + 1 → D[j]? = some false) := hid (fun j hj => by
                  by_cases e : j = k
                  · subst e; exact ex
                  · exact HS.out j (by omega))
                clear ex
                go_wp2_with fail
                go_round
                case rel => exact ⟨k + 1, by omega, by go_num, HN2.out⟩
                case measure => simp [intOf]; omega
            · have HE : Hid (tlB N b = true) := hid (HT.out.2 fun p h1 h2 => by
                have h3 := HS.out (p - N) (by have := HLD.out; omega)
                have h4 := HD.out _ _ h3
                rw [show N + (p - N) = p by omega] at h4
                exact h4.symm)
              have HX := hid (HXE.out.1 HE.out)
              obtain rfl : k = D.length := by omega
              go_wp2_with fail
              go_ret2
              rw [HX.out.1, HX.out.2]
              refine ⟨AT, c2, ?_, ?_, hbel⟩
              · rw [mkB_len]; rfl
              · rw [← HTK.out]; exact HOC.out
    · have e : bitE k m b = 4 := by unfold bitE; rw [if_pos h, if_neg hlen]
      have e2 : bitV k m b = [] := by unfold bitV; rw [e]; rfl
      rw [e, e2]
      rw [h] at CB
      obtain ⟨V, hV⟩ : ∃ V, bysV (k : Int) (m : Int) = V := ⟨_, rfl⟩
      rw [hV] at CB hlen
      have hne : ((b.length : Int) != V) = true := by simpa using hlen
      clear h e e2 hV ra ub hbv hlen
      go_enter Tryz.func61, Tryz.ntmps61
      go_wp2_with fail
      refine (CB.out _).mono ?_
      rintro _ _ ⟨rfl, rfl⟩
      go_wp2_with fail
      go_ret2
      exact .nil (Below.refl _ _)
  · have e : bitE wd many b = bysE wd many := if_neg h
    have e2 : bitV wd many b = [] := by unfold bitV; rw [e, if_neg h]
    rw [e, e2]
    obtain ⟨V, hV⟩ : ∃ V, bysV wd many = V := ⟨_, rfl⟩
    obtain ⟨E, hE⟩ : ∃ V, bysE wd many = V := ⟨_, rfl⟩
    rw [hE] at CB h ⊢
    rw [hV] at CB
    have hne : (E != 0) = true := by simpa using h
    clear h e e2 hV hE ra ub
    go_enter Tryz.func61, Tryz.ntmps61
    go_wp2_with fail
    refine (CB.out _).mono ?_
    rintro _ _ ⟨rfl, rfl⟩
    go_wp2_with fail
    go_ret2
    exact .nil (Below.refl _ _)
theorem ref_ReadO {A : Option Addr} {c : Nat} (many : Int) (b : List Int) (hm : I64 many) (hl : b.length ≤ 100000) (ub : U8s b) (w : World) (ra : Rd (Value.int .u8) w w.heap.size A b) :
    Calls Tryz.prog 36 #[.int .i64 many, .slice A b.length c] w (OwnEB w.heap.size (bitV 1 many b) (bitE 1 many b) w) := by
  have CB := hid (ref_bitsO (A := A) (c := c) 1 many b (by decide) hm hl ub w ra)
  obtain ⟨V, hV⟩ : ∃ V, bitV 1 many b = V := ⟨_, rfl⟩
  obtain ⟨E, hE⟩ : ∃ E, bitE 1 many b = E := ⟨_, rfl⟩
  rw [hV, hE] at CB ⊢
  clear hV hE ra ub
  go_enter Tryz.func36, Tryz.ntmps36
  go_wp2_with fail
  refine CB.out.mono ?_
  rintro _ w1 ⟨A1, c1, rfl, hr, hb1⟩
  have HR := hid hr
  clear hr
  go_wp2_with fail
  go_ret2
  exact ⟨A1, c1, rfl, HR.out, hb1⟩
end Go.Proofs.YtngdgbicjhlnaaaGreat
/- A map of four functions that a call makes, and looks into. -/
namespace Go.Proofs.YtngdgbicjhlnaaaGreat
open Go.RowKit Go.Maps
set_option maxHeartbeats 1000000
set_option maxRecDepth 100000
set_option linter.unusedVariables false
open Classical in
/-- How a function reads: by its number among four. -/
noncomputable def fnR (F0 F1 F2 F3 : Value) (v : Value) : Option (DataW Unit × List MemPlace) :=
  if v = F0 then some (.lit (.int .i64 0), []) else if v = F1 then some (.lit (.int .i64 1), []) else if v = F2 then some (.lit (.int .i64 2), []) else if v = F3 then some (.lit (.int .i64 3), []) else some (.lit (.int .i64 9), [])
theorem fnR_some (F0 F1 F2 F3 v : Value) : ∃ d ps, fnR F0 F1 F2 F3 v = some (d, ps) := by
  unfold fnR
  split
  · exact ⟨_, _, rfl⟩
  · split
    · exact ⟨_, _, rfl⟩
    · split
      · exact ⟨_, _, rfl⟩
      · split
        · exact ⟨_, _, rfl⟩
        · exact ⟨_, _, rfl⟩
theorem fnR_inv {F0 F1 F2 F3 v : Value} {d : DataW Unit} {ps : List MemPlace} (h : fnR F0 F1 F2 F3 v = some (d, ps)) : (d = .lit (.int .i64 0) → v = F0) ∧ (d = .lit (.int .i64 1) → v = F1) ∧ (d = .lit (.int .i64 2) → v = F2) ∧ (d = .lit (.int .i64 3) → v = F3) := by
  unfold fnR at h
  split at h
  · simp only [Option.some.injEq, Prod.mk.injEq] at h
    obtain ⟨rfl, _⟩ := h
    simp_all
  · split at h
    · simp only [Option.some.injEq, Prod.mk.injEq] at h
      obtain ⟨rfl, _⟩ := h
      simp_all
    · split at h
      · simp only [Option.some.injEq, Prod.mk.injEq] at h
        obtain ⟨rfl, _⟩ := h
        simp_all
      · split at h
        · simp only [Option.some.injEq, Prod.mk.injEq] at h
          obtain ⟨rfl, _⟩ := h
          simp_all
        · simp only [Option.some.injEq, Prod.mk.injEq] at h
          obtain ⟨rfl, _⟩ := h
          simp
def fnD : DataW Unit := .map [(.int .i64 0, .lit (.int .i64 0)), (.int .i64 1, .lit (.int .i64 1)), (.int .i64 2, .lit (.int .i64 2)), (.int .i64 3, .lit (.int .i64 3))]
theorem fnD_made : ((((DataW.map [] : DataW Unit).put (.int .i64 0) (.lit (.int .i64 0))).put (.int .i64 1) (.lit (.int .i64 1))).put (.int .i64 2) (.lit (.int .i64 2))).put (.int .i64 3) (.lit (.int .i64 3)) = fnD := by rfl
theorem fnD_has {x : Int} (h0 : x ≠ 0) (h1 : x ≠ 1) (h2 : x ≠ 2) (h3 : x ≠ 3) : Maps.has fnD (.int .i64 x) = false := by
  unfold Maps.has fnD
  simp [Lit.sameKey]
  omega
/-- What a block is good for that is such a map. -/
structure FnMap (P : Program) (t : TypeId) (b : Nat) (F0 F1 F2 F3 : Value) (W : World) : Prop where
  l0 : (Instr.lookup t (.map (some b)) (.int .i64 0) false).run P W = .ok F0 W
  l1 : (Instr.lookup t (.map (some b)) (.int .i64 1) false).run P W = .ok F1 W
  l2 : (Instr.lookup t (.map (some b)) (.int .i64 2) false).run P W = .ok F2 W
  l3 : (Instr.lookup t (.map (some b)) (.int .i64 3) false).run P W = .ok F3 W
  k0 : (Instr.lookup t (.map (some b)) (.int .i64 0) true).run P W = .ok (.tuple #[F0, .bool true]) W
  k1 : (Instr.lookup t (.map (some b)) (.int .i64 1) true).run P W = .ok (.tuple #[F1, .bool true]) W
  k2 : (Instr.lookup t (.map (some b)) (.int .i64 2) true).run P W = .ok (.tuple #[F2, .bool true]) W
  k3 : (Instr.lookup t (.map (some b)) (.int .i64 3) true).run P W = .ok (.tuple #[F3, .bool true]) W
  kx : ∀ x : Int, -9223372036854775808 ≤ x → x ≤ 9223372036854775807 → x ≠ 0 → x ≠ 1 → x ≠ 2 → x ≠ 3 → ∃ v, (Instr.lookup t (.map (some b)) (.int .i64 x) true).run P W = .ok (.tuple #[v, .bool false]) W
theorem fnmap {P : Program} {t k e : TypeId} (ht : P.underlying t = some (.map k e)) (hk : P.underlying k = some (.int .i64)) {z : Value} (hz : ∀ w, (zeroValue e).run P w = .ok z w) (F0 F1 F2 F3 : Value)
    (d10 : F1 ≠ F0) (d20 : F2 ≠ F0) (d21 : F2 ≠ F1) (d30 : F3 ≠ F0) (d31 : F3 ≠ F1) (d32 : F3 ≠ F2) (w : World) (b : Nat) (hb : b = w.heap.size) :
    ∃ W2 W3 W4 W5, (Instr.mapUpdate t (.map (some b)) (.int .i64 0) F0).run P (w.alloc (.map #[] 0)) = .ok () W2 ∧ (Instr.mapUpdate t (.map (some b)) (.int .i64 1) F1).run P W2 = .ok () W3 ∧
      (Instr.mapUpdate t (.map (some b)) (.int .i64 2) F2).run P W3 = .ok () W4 ∧ (Instr.mapUpdate t (.map (some b)) (.int .i64 3) F3).run P W4 = .ok () W5 ∧
      Below b w W2 ∧ Below b w W3 ∧ Below b w W4 ∧ Below b w W5 ∧ b < W5.heap.size ∧ (∀ W, W.heap[b]? = W5.heap[b]? → FnMap P t b F0 F1 F2 F3 W) := by
  subst hb
  have K : Keyed P k := int_keyed hk
  have hkey : ∀ x : Int, -9223372036854775808 ≤ x → x ≤ 9223372036854775807 → keyOf P k (.int .i64 x) = some (.int .i64 x) := fun x h0 h1 => keyOf_int_mk hk (WalkArith.wf_i64 ⟨h0, h1⟩)
  have o1 : (w.alloc (.map #[] 0)).ownsMap P k (fnR F0 F1 F2 F3) w.heap.size 0 (.map []) := World.ownsMap_made _ _ _ _
  have r0 : fnR F0 F1 F2 F3 F0 = some (.lit (.int .i64 0), []) := by unfold fnR; rw [if_pos rfl]
  have r1 : fnR F0 F1 F2 F3 F1 = some (.lit (.int .i64 1), []) := by unfold fnR; rw [if_neg d10, if_pos rfl]
  have r2 : fnR F0 F1 F2 F3 F2 = some (.lit (.int .i64 2), []) := by unfold fnR; rw [if_neg d20, if_neg d21, if_pos rfl]
  have r3 : fnR F0 F1 F2 F3 F3 = some (.lit (.int .i64 3), []) := by unfold fnR; rw [if_neg d30, if_neg d31, if_neg d32, if_pos rfl]
  obtain ⟨W2, u2, o2, g2⟩ := o1.update K ht (by decide) (hkey 0 (by omega) (by omega)) r0
  obtain ⟨W3, u3, o3, g3⟩ := o2.update K ht (by decide) (hkey 1 (by omega) (by omega)) r1
  obtain ⟨W4, u4, o4, g4⟩ := o3.update K ht (by decide) (hkey 2 (by omega) (by omega)) r2
  obtain ⟨W5, u5, o5, g5⟩ := o4.update K ht (by decide) (hkey 3 (by omega) (by omega)) r3
  rw [fnD_made] at o5
  have hs : ∀ k, some w.heap.size = some k → w.heap.size ≤ k := fun k hk => by cases hk; exact Nat.le_refl _
  have b1 : Below w.heap.size w (w.alloc (.map #[] 0)) := (Below.refl _ _).alloc (Nat.le_refl _) _
  have b2 := b1.grown g2 b1.size hs
  have b3 := b2.grown g3 b2.size hs
  have b4 := b3.grown g4 b3.size hs
  have b5 := b4.grown g5 b4.size hs
  refine ⟨W2, W3, W4, W5, u2, u3, u4, u5, b2, b3, b4, b5, o5.lt, fun W hW => ?_⟩
  have oW : W.ownsMap P k (fnR F0 F1 F2 F3) w.heap.size (0 + 1 + 1 + 1 + 1) fnD := by
    obtain ⟨es, clock, h1, h2⟩ := o5
    exact ⟨es, clock, hW.trans h1, h2⟩
  obtain ⟨zd, zp, hzd⟩ := fnR_some F0 F1 F2 F3 z
  have L := fun x h0 h1 => oW.lookup K ht (hz W) hzd (hkey x h0 h1)
  have M := fun x h0 h1 => oW.look_ok K ht (hz W) hzd (hkey x h0 h1)
  refine ⟨?_, ?_, ?_, ?_, ?_, ?_, ?_, ?_, ?_⟩
  · obtain ⟨v, ps, h1, h2⟩ := L 0 (by omega) (by omega)
    rw [(fnR_inv h2).1 rfl] at h1; exact h1
  · obtain ⟨v, ps, h1, h2⟩ := L 1 (by omega) (by omega)
    rw [(fnR_inv h2).2.1 rfl] at h1; exact h1
  · obtain ⟨v, ps, h1, h2⟩ := L 2 (by omega) (by omega)
    rw [(fnR_inv h2).2.2.1 rfl] at h1; exact h1
  · obtain ⟨v, ps, h1, h2⟩ := L 3 (by omega) (by omega)
    rw [(fnR_inv h2).2.2.2 rfl] at h1; exact h1
  · obtain ⟨v, ps, h1, h2⟩ := M 0 (by omega) (by omega)
    rw [(fnR_inv h2).1 rfl] at h1; exact h1
  · obtain ⟨v, ps, h1, h2⟩ := M 1 (by omega) (by omega)
    rw [(fnR_inv h2).2.1 rfl] at h1; exact h1
  · obtain ⟨v, ps, h1, h2⟩ := M 2 (by omega) (by omega)
    rw [(fnR_inv h2).2.2.1 rfl] at h1; exact h1
  · obtain ⟨v, ps, h1, h2⟩ := M 3 (by omega) (by omega)
    rw [(fnR_inv h2).2.2.2 rfl] at h1; exact h1
  · intro x h0 h1 n0 n1 n2 n3
    obtain ⟨v, ps, q1, q2⟩ := M x h0 h1
    rw [fnD_has n0 n1 n2 n3] at q1
    exact ⟨v, q1⟩
end Go.Proofs.YtngdgbicjhlnaaaGreat
/- A text opened, by the program and by the document. -/
namespace Go.Proofs.YtngdgbicjhlnaaaGreat
open Go.RowKit
set_option maxHeartbeats 400000
set_option maxRecDepth 100000
set_option linter.unusedVariables false
theorem equal_quad (a b c d a' b' c' d' : Int) (w : World) :
    (Op.equalIn 10000 56 (.agg #[.int .u8 a, .int .u8 b, .int .u8 c, .int .u8 d]) (.agg #[.int .u8 a', .int .u8 b', .int .u8 c', .int .u8 d'])).run Tryz.prog w = .ok (eqB [a, b, c, d] [a', b', c', d']) w := by
  have h0 : ∀ (x y z t : Int) (w : World), (part 5 #[.int .u8 x, .int .u8 y, .int .u8 z, .int .u8 t] 0).run Tryz.prog w = .ok (.int .u8 x) w := fun _ _ _ _ _ => by kernel_rfl
  have h1 : ∀ (x y z t : Int) (w : World), (part 5 #[.int .u8 x, .int .u8 y, .int .u8 z, .int .u8 t] 1).run Tryz.prog w = .ok (.int .u8 y) w := fun _ _ _ _ _ => by kernel_rfl
  have h2 : ∀ (x y z t : Int) (w : World), (part 5 #[.int .u8 x, .int .u8 y, .int .u8 z, .int .u8 t] 2).run Tryz.prog w = .ok (.int .u8 z) w := fun _ _ _ _ _ => by kernel_rfl
  have h3 : ∀ (x y z t : Int) (w : World), (part 5 #[.int .u8 x, .int .u8 y, .int .u8 z, .int .u8 t] 3).run Tryz.prog w = .ok (.int .u8 t) w := fun _ _ _ _ _ => by kernel_rfl
  have hs : (sizeOf 5).run Tryz.prog w = .ok 1 w := by kernel_rfl
  rw [show (10000 : Nat) = 9998 + 1 + 1 from rfl]
  unfold Op.equalIn
  simp only [Sem.run_bind, run_underlying Tryz.underlying56, Result.andThen_ok, hs]
  simp only [Std.Legacy.Range.forIn_eq_forIn_range', Std.Legacy.Range.size]
  simp only [Nat.sub_zero, Nat.reduceAdd, Nat.reduceSub, Nat.reduceDiv, List.range', List.forIn_cons, List.forIn_nil, Sem.run_bind]
  have h4 : ∀ x y : Int, (Op.equalIn 9999 5 (.int .u8 x) (.int .u8 y)).run Tryz.prog w = .ok (x == y) w := fun x y => run_equalIn_int w 9998 _ _ _ _ _ Tryz.underlying5
  simp only [Nat.zero_mul, Nat.one_mul, h0, h4, Result.andThen_ok]
  unfold eqB
  by_cases e0 : a = a'
  · subst e0
    by_cases e1 : b = b'
    · subst e1
      by_cases e2 : c = c'
      · subst e2
        by_cases e3 : d = d' <;> simp [h1, h2, h3, h4, e3]
      · simp [h1, h2, h4, e2]
    · simp [h1, h4, e1]
  · simp [e0]
attribute [local go_sem] equal_quad
theorem seen_four {b : List Int} {p : Nat} (hp : p + 4 = b.length) : ∃ x0 x1 x2 x3, b.drop p = [x0, x1, x2, x3] ∧ b[p]? = some x0 ∧ b[p + 1]? = some x1 ∧ b[p + 2]? = some x2 ∧ b[p + 3]? = some x3 := by
  have hl : (b.drop p).length = 4 := by rw [List.length_drop]; omega
  match hd : b.drop p, hl with
  | [x0, x1, x2, x3], _ =>
    have at_ : ∀ j, b[p + j]? = ([x0, x1, x2, x3] : List Int)[j]? := fun j => by rw [← hd, List.getElem?_drop]
    exact ⟨x0, x1, x2, x3, rfl, at_ 0, at_ 1, at_ 2, at_ 3⟩
theorem crc_Open {A : Option Addr} {c : Nat} (b : List Int) (hb : b.length ≤ 1000000) (hc : b.length ≤ c) (ub : U8s b) (w : World) (ra : Rd (Value.int .u8) w w.heap.size A b) :
    Calls Tryz.prog 12 #[.slice A b.length c] w (OwnE 5 .u8 w.heap.size (openV b) (openE b) w) := by
  unfold openV openE
  by_cases h : 65536 < b.length
  · rw [if_pos (Or.inl h), if_pos h]
    clear ra ub
    go_enter Tryz.func12, Tryz.ntmps12
    go_wp2_with fail
    go_ret2
    exact .nil (Below.refl _ _)
  by_cases h4 : b.length < 4
  · rw [if_pos (Or.inr (Or.inl h4)), if_neg h, if_pos h4]
    clear ra ub
    go_enter Tryz.func12, Tryz.ntmps12
    go_wp2_with fail
    go_ret2
    exact .nil (Below.refl _ _)
  obtain ⟨p, hp⟩ : ∃ p, p + 4 = b.length := ⟨b.length - 4, by omega⟩
  obtain ⟨x0, x1, x2, x3, hd, r0, r1, r2, r3⟩ := seen_four hp
  obtain ⟨b1, o1, _, rfl, l1, hr0, c0⟩ := ra.at_ (k := p) (by omega)
  obtain ⟨b2, o2, e2, _, c1⟩ := ra _ _ r1
  injection e2 with e2
  injection e2 with e2 e3
  subst e2 e3
  obtain ⟨b2, o2, e2, _, c2⟩ := ra _ _ r2
  injection e2 with e2
  injection e2 with e2 e3
  subst e2 e3
  obtain ⟨b2, o2, e2, _, c3⟩ := ra _ _ r3
  injection e2 with e2
  injection e2 with e2 e3
  subst e2 e3
  obtain rfl : x0 = _ := Option.some.inj (r0.symm.trans hr0)
  clear r0 r1 r2 r3 hr0
  have c1 : w.cell? ⟨b1, o1 + p + 1, none⟩ = some (.int .u8 x1) := c1
  have c2 : w.cell? ⟨b1, o1 + p + 2, none⟩ = some (.int .u8 x2) := c2
  have c3 : w.cell? ⟨b1, o1 + p + 3, none⟩ = some (.int .u8 x3) := c3
  have hpe : b.length - 4 = p := by omega
  have hcp : c ≠ p := by omega
  have hse : sealedB b = eqB [x0, x1, x2, x3] [tl (sumN (b.take p)) 4 0, tl (sumN (b.take p)) 4 1, tl (sumN (b.take p)) 4 2, tl (sumN (b.take p)) 4 3] := by
    unfold sealedB sealedB.eqL eqB
    rw [hpe, hd, tl4]
  rw [hpe, hse]
  clear hse hd hpe
  have hs1 := fun W => run_upto (P := Tryz.prog) 22 Tryz.underlying22 Tryz.sizeOf5 (some ⟨b1, o1, none⟩) b.length c p (by omega) W
  have hs2 := fun W => run_from (P := Tryz.prog) 22 Tryz.underlying22 Tryz.sizeOf5 (some ⟨b1, o1, none⟩) b.length c p (by omega) (by omega) W
  have e2 : cutA (some ⟨b1, o1, none⟩) p c = some ⟨b1, o1 + p, none⟩ := by unfold cutA; rw [if_neg hcp]; simp [Go.WideShapes.add_plain]
  rw [e2, show b.length - p = 4 by omega] at hs2
  have rT := ra.cut0 hc p
  have uT := ub.take p
  have lT : (b.take p).length = p := by rw [List.length_take]; omega
  obtain ⟨T, hT⟩ : ∃ T, b.take p = T := ⟨_, rfl⟩
  obtain ⟨A3, hA3⟩ : ∃ A3, cutA (some ⟨b1, o1, none⟩) 0 c = A3 := ⟨_, rfl⟩
  rw [hA3] at rT hs1
  rw [hT] at rT uT lT ⊢
  have CT := hid (fun W (hk : Below w.heap.size w W) => crc_tail (A := A3) (c := c) T (by omega) uT W ((rT.below hk).more hk.size))
  have CL := hid (fun W (hk : Below w.heap.size w W) => clone_any (A := A3) (c := c) T (by omega) W (rT.below hk))
  rw [lT] at CT CL
  obtain ⟨s, hs⟩ : ∃ s, sumN T = s := ⟨_, rfl⟩
  rw [hs] at CT ⊢
  obtain ⟨y0, e0⟩ : ∃ y, tl s 4 0 = y := ⟨_, rfl⟩
  obtain ⟨y1, e1⟩ : ∃ y, tl s 4 1 = y := ⟨_, rfl⟩
  obtain ⟨y2, e2⟩ : ∃ y, tl s 4 2 = y := ⟨_, rfl⟩
  obtain ⟨y3, e3⟩ : ∃ y, tl s 4 3 = y := ⟨_, rfl⟩
  rw [e0, e1, e2, e3] at CT ⊢
  have hm : (b.length : Int) - 4 = (p : Int) := by omega
  have LT := hid lT
  have HP := hid hp
  clear e0 e1 e2 e3 hs hT hA3 lT rT uT ra ub hp hcp
  obtain ⟨q, hq⟩ : ∃ q, eqB [y0, y1, y2, y3] [x0, x1, x2, x3] = q := ⟨_, rfl⟩
  have hq' : eqB [x0, x1, x2, x3] [y0, y1, y2, y3] = q := by rw [← hq]; unfold eqB; simp only [eq_comm]
  rw [hq']
  clear hq'
  have lx := l1
  have hat := fun W => run_arrayAt (P := Tryz.prog) W 56 _ 4 (some ⟨b1, o1 + p, none⟩) 4 (c - p) Tryz.underlying56 (by omega)
  cases q with
  | false =>
    rw [if_pos (Or.inr (Or.inr rfl)), if_neg h, if_neg h4, if_pos rfl]
    have h65 : ¬ 65536 < b.length := h
    go_enter Tryz.func12, Tryz.ntmps12
    go_wp2_with fail
    go_region_held3 (fun w' => w'.cell? ⟨b1, o1 + p, none⟩ = some (.int .u8 x0) ∧ w'.cell? ⟨b1, o1 + p + 1, none⟩ = some (.int .u8 x1) ∧ w'.cell? ⟨b1, o1 + p + 2, none⟩ = some (.int .u8 x2) ∧ w'.cell? ⟨b1, o1 + p + 3, none⟩ = some (.int .u8 x3) ∧ Below w.heap.size w w') (first | exact ⟨c0, c1, c2, c3, (Below.refl _ _).drew⟩ | (have hk := below_step ((Below.refl _ _).drew) hb1 (Nat.le_refl _); exact ⟨(hk.cell lx).trans c0, (hk.cell lx).trans c1, (hk.cell lx).trans c2, (hk.cell lx).trans c3, hk⟩) | go_keep)
      (first | (go_at_call 20; refine (CT.out _ (by go_grown)).mono ?_; rintro e w1 ⟨rfl, hb1⟩))
    all_goals
      have hk := below_step ((Below.refl _ _).drew) hb1 (Nat.le_refl _)
      clear c0 c1 c2 c3 hs1 hs2 hm hat hq e2
      go_wp2_with fail
      go_ret2
      exact .nil hk
  | true =>
    rw [if_neg (by simp only [Bool.true_eq_false, or_false]; omega), if_neg h, if_neg h4, if_neg (by simp)]
    go_enter Tryz.func12, Tryz.ntmps12
    go_wp2_with fail
    go_region_held3 (fun w' => w'.cell? ⟨b1, o1 + p, none⟩ = some (.int .u8 x0) ∧ w'.cell? ⟨b1, o1 + p + 1, none⟩ = some (.int .u8 x1) ∧ w'.cell? ⟨b1, o1 + p + 2, none⟩ = some (.int .u8 x2) ∧ w'.cell? ⟨b1, o1 + p + 3, none⟩ = some (.int .u8 x3) ∧ Below w.heap.size w w') (first | exact ⟨c0, c1, c2, c3, (Below.refl _ _).drew⟩ | (have hk := below_step ((Below.refl _ _).drew) hb1 (Nat.le_refl _); exact ⟨(hk.cell lx).trans c0, (hk.cell lx).trans c1, (hk.cell lx).trans c2, (hk.cell lx).trans c3, hk⟩) | go_keep)
      (first | (go_at_call 20; refine (CT.out _ (by go_grown)).mono ?_; rintro e w1 ⟨rfl, hb1⟩))
    all_goals
      have hk := below_step ((Below.refl _ _).drew) hb1 (Nat.le_refl _)
      clear c0 c1 c2 c3 hs1 hs2 hm hat hq e2
      go_wp2_with fail
      refine (CL.out _ hk).mono ?_
      rintro _ w3 ⟨A4, c4, rfl, ho, hb4⟩
      have HO := hid (own_base ho hk.size)
      clear ho
      go_wp2_with fail
      go_ret2
      exact ⟨A4, c4, rfl, HO.out, hk.trans (hb4.mono hk.size)⟩
theorem ref_Open {A : Option Addr} {c : Nat} (b : List Int) (hb : b.length ≤ 1000000) (hc : b.length ≤ c) (ub : U8s b) (w : World) (ra : Rd (Value.int .u8) w w.heap.size A b) :
    Calls Tryz.prog 15 #[.slice A b.length c] w (OwnE 5 .u8 w.heap.size (openV b) (openE b) w) := by
  unfold openV openE
  by_cases h : 65536 < b.length
  · rw [if_pos (Or.inl h), if_pos h]
    clear ra ub
    go_enter Tryz.func15, Tryz.ntmps15
    go_wp2_with fail
    go_ret2
    exact .nil (Below.refl _ _)
  by_cases h4 : b.length < 4
  · rw [if_pos (Or.inr (Or.inl h4)), if_neg h, if_pos h4]
    clear ra ub
    go_enter Tryz.func15, Tryz.ntmps15
    go_wp2_with fail
    go_ret2
    exact .nil (Below.refl _ _)
  obtain ⟨p, hp⟩ : ∃ p, p + 4 = b.length := ⟨b.length - 4, by omega⟩
  have hpe : b.length - 4 = p := by omega
  have hs1 := fun W => run_upto (P := Tryz.prog) 22 Tryz.underlying22 Tryz.sizeOf5 A b.length c p (by omega) W
  have rT := ra.cut0 hc p
  have uT := ub.take p
  have lT : (b.take p).length = p := by rw [List.length_take]; omega
  have hse : sealedB b = eqB (b.drop p) (le4 (sumN (b.take p))) := by unfold sealedB sealedB.eqL eqB; rw [hpe]
  have hsl : eqB (sealV (b.take p)) b = sealedB b := by
    rw [hse]
    unfold sealV eqB
    rw [if_neg (by rw [lT]; omega)]
    apply decide_eq_decide.2
    constructor
    · intro h
      have h2 := congrArg (List.drop p) h
      rw [List.drop_append_of_le_length (by omega), List.drop_eq_nil_of_le (by omega), List.nil_append] at h2
      exact h2.symm
    · intro h
      rw [← h, List.take_append_drop]
  have hsv : (sealV (b.take p)).length ≤ 1000000 := by
    unfold sealV
    split
    · simp
    · rw [List.length_append, le4_len]; omega
  have usv : U8s (sealV (b.take p)) := by
    unfold sealV
    split
    · intro x hx; simp at hx
    · exact uT.app (le4_bytes _)
  rw [hpe]
  clear hse
  obtain ⟨T, hT⟩ : ∃ T, b.take p = T := ⟨_, rfl⟩
  obtain ⟨A3, hA3⟩ : ∃ A3, cutA A 0 c = A3 := ⟨_, rfl⟩
  rw [hA3] at rT hs1
  rw [hT] at rT uT lT hsl hsv usv ⊢
  have hm : (b.length : Int) - 4 = (p : Int) := by omega
  have HSe := hid (fun (A4 : Option Addr) (c4 : Nat) W (h : Rd (Value.int .u8) W W.heap.size A4 T) => ref_Seal (A := A4) (c := c4) T (by omega) uT W h)
  have RA := hid ra
  have RT := hid rT
  have UB := hid ub
  have hap := own_nil w w.heap.size 5
  obtain ⟨V, hV⟩ : ∃ V, sealV T = V := ⟨_, rfl⟩
  obtain ⟨ve, hve⟩ : ∃ ve, sealE T = ve := ⟨_, rfl⟩
  rw [hV] at hsl hsv usv
  rw [hV, hve] at HSe
  have hst := str_eq usv ub
  rw [hsl] at hst
  have LT := hid lT
  have HT2 : Hid (T.length ≤ 65532) := hid (by rw [lT]; omega)
  have hTp : (p : Nat) = T.length := lT.symm
  clear hT hA3 rT uT ub ra hV hve hsl lT hpe hp
  subst hTp
  obtain ⟨q, hq⟩ : ∃ q, sealedB b = q := ⟨_, rfl⟩
  rw [hq] at hst ⊢
  clear hq
  obtain ⟨s1, hs1'⟩ : ∃ s, strOfNums V = s := ⟨_, rfl⟩
  obtain ⟨s2, hs2'⟩ : ∃ s, strOfNums b = s := ⟨_, rfl⟩
  rw [hs1', hs2'] at hst
  have HS1 := hid hs1'
  have HS2 := hid hs2'
  clear hs1' hs2'
  have hsz : T.length ≤ 65532 := HT2.out
  have HST := hid hst
  clear hst
  obtain ⟨X, hX⟩ : ∃ X, (if 65536 < b.length ∨ b.length < 4 ∨ q = false then [] else T) = X := ⟨_, rfl⟩
  obtain ⟨E, hE⟩ : ∃ E, (if 65536 < b.length then (3 : Int) else if b.length < 4 then 5 else if q = false then 7 else 0) = E := ⟨_, rfl⟩
  rw [hX, hE]
  rw [if_neg h, if_neg h4] at hE
  have HXE : Hid ((q = false → X = [] ∧ E = 7) ∧ (q = true → X = T ∧ E = 0)) := by
    constructor
    · rintro rfl
      exact ⟨by rw [← hX]; simp, by rw [← hE]; rfl⟩
    · rintro rfl
      exact ⟨by rw [← hX, if_neg (by simp only [Bool.true_eq_false, or_false]; omega)], by rw [← hE]; rfl⟩
  clear hX hE
  go_enter Tryz.func15, Tryz.ntmps15
  go_wp2_with (at_builtin; refine wpList_app (Value.int .u8) (fun _ => rfl) _ rfl _ _ 22 rfl w.heap.size 5 (.int .u8 0) 1 Tryz.underlying22 info_u8 rfl [] none 0 rfl hap T A3 c w.heap.size rfl RT.out (by simp [maxLen]; omega) (by simp; omega) (Nat.le_refl _) ?_)
  rintro S A4 c4 w4 hS ho hb4 _
  have hS : S = T := hS
  subst hS
  have HO4 := hid ho
  have hr4 := own_rd ho
  clear ho hap
  go_wp2_with fail
  refine (HSe.out _ _ _ hr4).mono ?_
  rintro _ w5 ⟨A5, c5, rfl, ho5, hb5⟩
  have hb45 : Below w.heap.size w w5 := hb4.trans (hb5.mono hb4.size)
  have e1 := run_bytes (P := Tryz.prog) (c := c5) Tryz.underlying22 Tryz.underlying5 Tryz.underlying9 (own_rd ho5)
  have e2 := run_bytes (P := Tryz.prog) (c := c) Tryz.underlying22 Tryz.underlying5 Tryz.underlying9 (RA.out.below hb45)
  rw [HS1.out] at e1
  rw [HS2.out] at e2
  have HO5 := hid (own_on HO4.out hb5)
  have hst := HST.out
  clear ho5 hr4 hs1 hm
  cases q with
  | false =>
    obtain ⟨hX, hE⟩ := HXE.out.1 rfl
    subst hX hE
    go_wp2_with fail
    go_ret2
    exact .nil hb45
  | true =>
    obtain ⟨hX, hE⟩ := HXE.out.2 rfl
    subst hX hE
    go_wp2_with fail
    go_ret2
    exact ⟨A4, c4, rfl, HO5.out, hb45⟩
end Go.Proofs.YtngdgbicjhlnaaaGreat
/- A frame's cells in a box. -/
namespace Go.Proofs.YtngdgbicjhlnaaaGreat
open Go.RowKit
set_option maxHeartbeats 4000000
set_option maxRecDepth 100000
set_option linter.unusedVariables false
def cellsG (f : FrameV) (p : SentP) : List Value := [.int .i64 f.knd, .int .i64 f.frm, .int .i64 f.stp, .int .i64 f.S.sch, .int .i64 f.S.dim, .slice p.AL f.S.L.length p.cL, .slice p.AV f.S.V.length p.cV, .int .i64 f.S.scale, .int .i64 f.S.wide, .slice p.AE f.S.lev.length p.cE, .slice p.AN f.S.neg.length p.cN]
theorem box_G {w : World} {h : Nat} {f : FrameV} {p : SentP} (hb : BoxL w h (cellsG f p)) : (w.cell? ⟨h, 0, none⟩ = some (.int .i64 f.knd) ∧ w.cell? ⟨h, 1, none⟩ = some (.int .i64 f.frm) ∧ w.cell? ⟨h, 2, none⟩ = some (.int .i64 f.stp) ∧ w.cell? ⟨h, 3, none⟩ = some (.int .i64 f.S.sch) ∧ w.cell? ⟨h, 4, none⟩ = some (.int .i64 f.S.dim) ∧ w.cell? ⟨h, 5, none⟩ = some (.slice p.AL f.S.L.length p.cL) ∧ w.cell? ⟨h, 6, none⟩ = some (.slice p.AV f.S.V.length p.cV) ∧ w.cell? ⟨h, 7, none⟩ = some (.int .i64 f.S.scale) ∧ w.cell? ⟨h, 8, none⟩ = some (.int .i64 f.S.wide) ∧ w.cell? ⟨h, 9, none⟩ = some (.slice p.AE f.S.lev.length p.cE) ∧ w.cell? ⟨h, 10, none⟩ = some (.slice p.AN f.S.neg.length p.cN)) ∧ (w.frozen? ⟨h, 0, none⟩ = false ∧ w.frozen? ⟨h, 1, none⟩ = false ∧ w.frozen? ⟨h, 2, none⟩ = false ∧ w.frozen? ⟨h, 3, none⟩ = false ∧ w.frozen? ⟨h, 4, none⟩ = false ∧ w.frozen? ⟨h, 5, none⟩ = false ∧ w.frozen? ⟨h, 6, none⟩ = false ∧ w.frozen? ⟨h, 7, none⟩ = false ∧ w.frozen? ⟨h, 8, none⟩ = false ∧ w.frozen? ⟨h, 9, none⟩ = false ∧ w.frozen? ⟨h, 10, none⟩ = false) :=
  ⟨⟨(hb 0 _ rfl).1, (hb 1 _ rfl).1, (hb 2 _ rfl).1, (hb 3 _ rfl).1, (hb 4 _ rfl).1, (hb 5 _ rfl).1, (hb 6 _ rfl).1, (hb 7 _ rfl).1, (hb 8 _ rfl).1, (hb 9 _ rfl).1, (hb 10 _ rfl).1⟩, (hb 0 _ rfl).2, (hb 1 _ rfl).2, (hb 2 _ rfl).2, (hb 3 _ rfl).2, (hb 4 _ rfl).2, (hb 5 _ rfl).2, (hb 6 _ rfl).2, (hb 7 _ rfl).2, (hb 8 _ rfl).2, (hb 9 _ rfl).2, (hb 10 _ rfl).2⟩
end Go.Proofs.YtngdgbicjhlnaaaGreat
/- A law's frame: where a call answers true and nothing that was there has turned, the given row's post holds, whatever the arguments are made of. -/
namespace Go.Proofs.YtngdgbicjhlnaaaGreat
open Go.ChangeShapes Go.WideShapes Go.ChangeAt Go.RowKit
set_option maxRecDepth 100000
set_option linter.unusedVariables false

theorem own : ownKnob Tryz.prog.godebug = none := by kernel_rfl
theorem laid : laidOutB Tryz.prog = true := by kernel_rfl

section
variable {H : Type} {enc : TypeId × Value → H} {P : Program}

theorem all_stay (hl : laidOutB P = true) {W W' : World} (hb : Below W.heap.size W W') {sp : Nat → Bool} :
    ∀ (ts : List TypeId) (vs : List Value) (ds : List (DataW H)) (ps : List MemPlace), (∀ t ∈ ts, P.readableRec t = true ∧ t < P.types.size) →
      DataW.TrodAll enc P W 0 (fun _ => true) true ts vs ds ps → (∀ x ∈ ps, x.block < W.heap.size) → (∀ x ∈ ps, sp x.block = true) → DataW.TrodAll enc P W' 0 sp true ts vs ds ps
  | [], [], [], ps, _, h, _, _ => h
  | [], [], _ :: _, _, _, h, _, _ => h.elim
  | [], _ :: _, _, _, _, h, _, _ => h.elim
  | _ :: _, [], _, _, _, h, _, _ => h.elim
  | _ :: _, _ :: _, [], _, _, h, _, _ => h.elim
  | t :: ts, v :: vs, d :: ds, ps, hr, h, hlt, hsp => by
    obtain ⟨p, q, h1, h2, rfl⟩ := h
    have ht := hr t (by simp)
    refine ⟨p, q, WideElems.Trod_stays hl ht.1 ht.2 h1 (fun x hx => hb.same (hlt x (by simp [hx]))) (fun x hx => hsp x (by simp [hx])), ?_, rfl⟩
    exact all_stay hl hb ts vs ds q (fun t' ht' => hr t' (by simp [ht'])) h2 (fun x hx => hlt x (by simp [hx])) (fun x hx => hsp x (by simp [hx]))

theorem law_post {f : Func} {s : ChangeSpec} {apart fresh handsOn again : Bool} {W W' : World} {args : Array Value} {ds gs : List (DataW H)} {before : List MemPlace} {tb : TypeId}
    (hl : laidOutB P = true) (hts : ∀ t ∈ f.params.toList, P.readableRec t = true ∧ t < P.types.size) (hv : s.vars = [])
    (hW : DataW.Whole enc P f.params.toList s.vars apart W args.toList ds gs before)
    (hs : (s.fn H (ds ++ gs)).results = [.lit (.bool true)] ∧ (s.fn H (ds ++ gs)).args = ds ∧ (s.fn H (ds ++ gs)).vars = [])
    (hr : f.resultTypes = #[tb]) (htb : P.underlying tb = some .bool) (hb : Below W.heap.size W W') :
    s.post enc P f apart fresh handsOn again W args (.bool true) W' := by
  have hlt : ∀ p ∈ before, p.block < W.heap.size := fun p hp => hW.lt p hp
  have hW0 := hW
  obtain ⟨p, q, h1, h2, e, hz, hn⟩ := hW
  rw [hv] at h2
  cases gs with
  | cons _ _ => exact h2.elim
  | nil =>
    have hq : q = [] := h2
    subst hq
    simp only [List.append_nil] at e
    subst e
    have stay : ∀ sp : Nat → Bool, (∀ x ∈ before, sp x.block = true) → DataW.TrodAll enc P W' 0 sp true f.params.toList args.toList (s.fn H (ds ++ [])).args before :=
      fun sp hsp => by rw [hs.2.1]; exact all_stay hl hb _ _ _ _ hts h1 hlt hsp
    have vars : ∀ sp : Nat → Bool, DataW.TrodVars enc P W' sp s.vars (s.fn H (ds ++ [])).vars [] := fun sp => by rw [hs.2.2, hv]; rfl
    have res : ∀ (b : Nat) (sp : Nat → Bool) (hd : Bool), DataW.TrodAll enc P W' b sp hd f.resultTypes.toList ((Value.bool true).resultList f.resultTypes.size) (s.fn H (ds ++ [])).results [] := by
      intro b sp hd
      rw [hs.1, hr]
      exact trodAll_mk1 (shut_bool htb true)
    refine ⟨ds, [], before, [], before, [], hW0, res _ _ _, stay _ (fun x hx => by simpa using hlt x hx), vars _, ?_, fun _ => ?_⟩
    · exact World.keptBut_mono (fun x hx => ⟨hx, by simpa using hx⟩) (hb.frame (· ∈ before))
    · refine ⟨?_, _, _, ([] ++ before) ++ [], ⟨[] ++ before, [], trodAll_append (stay _ (fun _ _ => rfl)) (res _ _ _), vars _, rfl, ?_, ?_⟩, ?_⟩
      · exact ok_one hr rfl (okWide_bool_mk htb true)
      · intro b off hp
        have hin : MemPlace.cell b off ∈ before := by simpa using hp
        rw [hb.frozen (hlt _ hin)]
        exact hz b off hin
      · intro ha
        simpa using hn ha
      · intro x hx _
        simpa using hx
end
end Go.Proofs.YtngdgbicjhlnaaaGreat
/- An argument that is a list of whole numbers of one kind, opened. -/
namespace Go.Proofs.YtngdgbicjhlnaaaGreat
open Go.ChangeShapes Go.WideShapes Go.ChangeAt Go.RowKit
set_option maxRecDepth 100000
set_option linter.unusedVariables false
section
variable {H : Type} {enc : TypeId × Value → H} {P : Program} {W : World}
theorem nums_rd {k : IntKind} {a : Addr} {zs xs : List Int} {m : Nat} (hm : xs = zs.take m) (hc : ∀ i, i < m → W.cell? (a.add i) = some (.int k (zs.getD i 0))) : Rd (Value.int k) W W.heap.size (some a) xs := fun j x hx => by
  subst hm
  have hk : j < (zs.take m).length := (List.getElem?_eq_some_iff.1 hx).1
  have hkm : j < m := by rw [List.length_take] at hk; omega
  obtain ⟨b, off, spot⟩ := a
  have hs : spot = none := by simpa [Addr.add] using World.cell?_spot (hc 0 (by omega))
  subst hs
  have h := hc j hkm
  rw [Go.WideShapes.add_plain] at h
  have hz : zs.getD j 0 = x := by
    rw [List.getElem?_take_of_lt hkm] at hx
    simp [List.getD, hx]
  rw [hz] at h
  exact ⟨b, off, rfl, lt_of_cell h, h⟩
theorem open_nums {k : IntKind} {r : Reach} {t e : TypeId} {v : Value} {d : DataW H} {ps : List MemPlace} (ht : P.underlying t = some (.slice e)) (he : P.underlying e = some (.int k)) (hc : P.cellsOf e = 1) {b0 : Nat}
    (hval : Value.okWide P W r b0 t v) (hd : DataW.Trod enc P W 0 (fun _ => true) true t v d ps) :
    ∃ A xs c, v = .slice A xs.length c ∧ Rd (Value.int k) W W.heap.size A xs ∧ (∀ x ∈ xs, (Lit.int k x).wf = true) ∧ xs.length ≤ c ∧ c ≤ 9223372036854775807 := by
  obtain ⟨A, len, cap, rfl⟩ := okWide_slice ht hval
  obtain ⟨fuel, hf⟩ := hd
  rcases open_ints ht he hc hf with ⟨hcs, _⟩ | ⟨a, len', cap', zs, hcs, _, hl, hm, hz, _, hcell, hwz⟩
  · simp [Value.cells] at hcs
    obtain ⟨rfl, rfl, rfl⟩ := hcs
    exact ⟨none, [], 0, rfl, Rd.none_, by intro x hx; simp at hx, by simp, by omega⟩
  · simp [Value.cells] at hcs
    obtain ⟨rfl, rfl, rfl⟩ := hcs
    simp only [if_true] at hz
    have hlen : (zs.take len).length = len := by rw [List.length_take]; omega
    refine ⟨some a, zs.take len, cap, by rw [hlen], nums_rd rfl fun i hi => hcell i (by omega), fun x hx => hwz x (List.mem_of_mem_take hx), by omega, by unfold maxLen at hm; omega⟩
/-- .. and the datum that it reads as is as long. -/
theorem open_numsd {k : IntKind} {r : Reach} {t e : TypeId} {v : Value} {d : DataW H} {ps : List MemPlace} (ht : P.underlying t = some (.slice e)) (he : P.underlying e = some (.int k)) (hc : P.cellsOf e = 1) {b0 : Nat}
    (hval : Value.okWide P W r b0 t v) (hd : DataW.Trod enc P W 0 (fun _ => true) true t v d ps) :
    ∃ A xs c, v = .slice A xs.length c ∧ Rd (Value.int k) W W.heap.size A xs ∧ (∀ x ∈ xs, (Lit.int k x).wf = true) ∧ xs.length ≤ c ∧ c ≤ 9223372036854775807 ∧ (xs = [] ∨ ∃ es sp, d = .slice es sp ∧ es.length = xs.length) := by
  obtain ⟨A, xs, c, rfl, h1, h2, h3, h4⟩ := open_nums ht he hc hval hd
  refine ⟨A, xs, c, rfl, h1, h2, h3, h4, ?_⟩
  obtain ⟨fuel, hf⟩ := hd
  rcases open_ints ht he hc hf with ⟨hcs, _⟩ | ⟨a, len', cap', zs, hcs, _, hl, hm, hz, hx, _, _⟩
  · left
    simp [Value.cells] at hcs
    exact List.length_eq_zero_iff.1 (by rw [hcs.2.1]; rfl)
  · right
    simp [Value.cells] at hcs
    obtain ⟨rfl, e1, rfl⟩ := hcs
    simp only [if_true] at hz
    injection hx with hx _
    refine ⟨_, _, hx, ?_⟩
    rw [e1]
    simp [lits, List.length_take]
    omega
theorem U64.of_wf {a : Int} (h : (Lit.int .u64 a).wf = true) : U64 a := by
  simp [Lit.wf, IntKind.min, IntKind.max, IntKind.signed, IntKind.bits] at h
  unfold U64; omega
theorem U32.of_wf {a : Int} (h : (Lit.int .u32 a).wf = true) : 0 ≤ a ∧ a ≤ 4294967295 := by
  simp [Lit.wf, IntKind.min, IntKind.max, IntKind.signed, IntKind.bits] at h
  omega
end
end Go.Proofs.YtngdgbicjhlnaaaGreat
