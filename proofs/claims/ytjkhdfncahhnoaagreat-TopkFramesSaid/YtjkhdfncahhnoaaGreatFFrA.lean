
/- FFrA: texts joined: FrA. -/
import Derived.Test.YtjkhdfncahhnoaaGreatFb
import Derived.Test.YtjkhdfncahhnoaaGreatFd
import Derived.Test.YtjkhdfncahhnoaaGreatFa
import Derived.RegionTactic
import Derived.Deep.RegionHeld3
/- Frames in memory; whether they are the same, by the document. -/
namespace Go.Proofs.YtjkhdfncahhnoaaGreat
open Go.RowKit
set_option maxHeartbeats 400000
set_option maxRecDepth 100000
set_option linter.unusedVariables false
/-- Where a vector's lists lie. -/
structure SentP where
  AL : Option Addr
  cL : Nat
  AV : Option Addr
  cV : Nat
  AE : Option Addr
  cE : Nat
  AN : Option Addr
  cN : Nat
def zeroP : SentP := ⟨none, 0, none, 0, none, 0, none, 0⟩
@[reducible] def encT (s : SentV) (p : SentP) : Value := .agg #[.int .i64 s.sch, .int .i64 s.dim, .slice p.AL s.L.length p.cL, .slice p.AV s.V.length p.cV, .int .i64 s.scale, .int .i64 s.wide, .slice p.AE s.lev.length p.cE, .slice p.AN s.neg.length p.cN]
/-- Its lists read so. -/
def RdS (w : World) (B : Nat) (s : SentV) (p : SentP) : Prop := Rd (Value.int .i64) w B p.AL s.L ∧ Rd (Value.int .i64) w B p.AV s.V ∧ Rd (Value.int .u64) w B p.AE s.lev ∧ Rd Value.bool w B p.AN s.neg
theorem RdS.below {w w' : World} {B : Nat} {s : SentV} {p : SentP} (h : RdS w B s p) (hb : Below B w w') : RdS w' B s p := ⟨h.1.below hb, h.2.1.below hb, h.2.2.1.below hb, h.2.2.2.below hb⟩
theorem RdS.more {w : World} {B B' : Nat} {s : SentV} {p : SentP} (h : RdS w B s p) (hB : B ≤ B') : RdS w B' s p := ⟨h.1.more hB, h.2.1.more hB, h.2.2.1.more hB, h.2.2.2.more hB⟩
theorem RdS.on {w w' : World} {s : SentV} {p : SentP} (h : RdS w w.heap.size s p) (hb : Below w.heap.size w w') : RdS w' w'.heap.size s p := (h.below hb).more hb.size
theorem RdS.zero (w : World) (B : Nat) : RdS w B zeroS zeroP := ⟨Rd.none_, Rd.none_, Rd.none_, Rd.none_⟩
/-- How long its lists are at the most. -/
def lnS (n : Nat) (s : SentV) : Prop := s.L.length ≤ n ∧ s.V.length ≤ n ∧ s.lev.length ≤ n ∧ s.neg.length ≤ n
theorem lnS.more {n m : Nat} {s : SentV} (h : lnS n s) (hm : n ≤ m) : lnS m s := ⟨by have := h.1; omega, by have := h.2.1; omega, by have := h.2.2.1; omega, by have := h.2.2.2; omega⟩
theorem ln_zero (n : Nat) : lnS n zeroS := ⟨by simp [zeroS], by simp [zeroS], by simp [zeroS], by simp [zeroS]⟩
theorem takeN_step {xs ys : List Bool} {k : Nat} {x y : Bool} (h : xs.take k = ys.take k) (hx : xs[k]? = some x) (hy : ys[k]? = some y) (e : x = y) : xs.take (k + 1) = ys.take (k + 1) := by
  rw [List.take_add_one, List.take_add_one, h, hx, hy, e]
theorem eqN_no {xs ys : List Bool} {k : Nat} {x y : Bool} (hx : xs[k]? = some x) (hy : ys[k]? = some y) (e : x ≠ y) : eqN xs ys = false := by
  unfold eqN
  rw [decide_eq_false_iff_not]
  rintro rfl
  rw [hx] at hy
  exact e (Option.some.inj hy)
theorem eqN_yes {xs ys : List Bool} {k : Nat} (h : xs.take k = ys.take k) (hx : k = xs.length) (hl : xs.length = ys.length) : eqN xs ys = true := by
  unfold eqN
  rw [List.take_of_length_le (by omega), List.take_of_length_le (by omega)] at h
  simpa using h
theorem eqN_len {xs ys : List Bool} (h : xs.length ≠ ys.length) : eqN xs ys = false := by
  unfold eqN
  rw [decide_eq_false_iff_not]
  rintro rfl
  exact h rfl
theorem ref_SignsEq {A B : Option Addr} {c d : Nat} (xs ys : List Bool) (hx : xs.length ≤ 9223372036854775807) (hy : ys.length ≤ 9223372036854775807) (w : World) {L M : Nat}
    (ra : Rd Value.bool w L A xs) (rb : Rd Value.bool w M B ys) :
    Calls Tryz.prog 28 #[.slice A xs.length c, .slice B ys.length d] w fun e w' => e = .returned (.bool (eqN xs ys)) ∧ ∃ n, w' = w.drewN n := by
  by_cases hl : xs.length = ys.length
  · have HA := hid ra
    have HB := hid rb
    clear ra rb
    have h1 : ((xs.length : Int) != (ys.length : Int)) = false := by simp; omega
    have h2 : (xs.length != ys.length) = false := by simp; omega
    have HL := hid hl
    clear hl
    go_enter Tryz.func28, Tryz.ntmps28
    go_wp2_with fail
    clear h1 h2
    go_loopw [13] (fun i wr => ∃ k : Nat, k ≤ xs.length ∧ i = .int .i64 k ∧ xs.take k = ys.take k ∧ ∃ n, wr = w.drewN n) (fun i _ => xs.length - (intOf i).toNat)
    case atStart => exact ⟨0, by omega, rfl, rfl, 0, rfl⟩
    case round =>
      obtain ⟨k, hk, rfl, ht, n, rfl⟩ := hrel
      have HT := hid ht
      clear ht
      by_cases hlt : k < xs.length
      · have hlt2 : k < ys.length := by have := HL.out; omega
        obtain ⟨b1, o1, x, rfl, l1, ex, c1⟩ := HA.out.at_ hlt
        obtain ⟨b2, o2, y, rfl, l2, ey, c2⟩ := HB.out.at_ hlt2
        have EX := hid ex
        have EY := hid ey
        clear ex ey
        by_cases e : x = y
        · have e' : (x == y) = true := by simpa using e
          have E := hid e
          clear e
          go_wp2_with fail
          go_quiet (fail)
          go_wp2_with fail
          go_roundw
          case rel => exact ⟨k + 1, by omega, by go_num, takeN_step HT.out EX.out EY.out E.out, _, rfl⟩
          case measure => simp [intOf]; omega
        · have e' : (x == y) = false := by simpa using e
          go_wp2_with fail
          go_quiet (fail)
          go_wp2_with fail
          go_ret
          rw [eqN_no EX.out EY.out e]
          exact ⟨rfl, drewN_two _ _ _⟩
      · have hke : k = xs.length := by omega
        have HK := hid hke
        clear hke
        go_wp2_with fail
        go_ret
        rw [eqN_yes HT.out HK.out HL.out]
        exact ⟨rfl, _, rfl⟩
  · rw [eqN_len hl]
    have h1 : ((xs.length : Int) != (ys.length : Int)) = true := by simp; omega
    have h2 : (xs.length != ys.length) = true := by simp; omega
    clear hl ra rb
    go_enter Tryz.func28, Tryz.ntmps28
    go_wp2_with fail
    go_ret
    exact ⟨rfl, 0, rfl⟩
theorem ref_NumsEq {A B : Option Addr} {c d : Nat} (xs ys : List Int) (hx : xs.length ≤ 9223372036854775807) (hy : ys.length ≤ 9223372036854775807) (w : World) {L M : Nat}
    (ra : Rd (Value.int .u64) w L A xs) (rb : Rd (Value.int .u64) w M B ys) :
    Calls Tryz.prog 27 #[.slice A xs.length c, .slice B ys.length d] w fun e w' => e = .returned (.bool (eqB xs ys)) ∧ ∃ n, w' = w.drewN n := by
  by_cases hl : xs.length = ys.length
  · have HA := hid ra
    have HB := hid rb
    clear ra rb
    have h1 : ((xs.length : Int) != (ys.length : Int)) = false := by simp; omega
    have h2 : (xs.length != ys.length) = false := by simp; omega
    have HL := hid hl
    clear hl
    go_enter Tryz.func27, Tryz.ntmps27
    go_wp2_with fail
    clear h1 h2
    go_loopw [13] (fun i wr => ∃ k : Nat, k ≤ xs.length ∧ i = .int .i64 k ∧ xs.take k = ys.take k ∧ ∃ n, wr = w.drewN n) (fun i _ => xs.length - (intOf i).toNat)
    case atStart => exact ⟨0, by omega, rfl, rfl, 0, rfl⟩
    case round =>
      obtain ⟨k, hk, rfl, ht, n, rfl⟩ := hrel
      have HT := hid ht
      clear ht
      by_cases hlt : k < xs.length
      · have hlt2 : k < ys.length := by have := HL.out; omega
        obtain ⟨b1, o1, x, rfl, l1, ex, c1⟩ := HA.out.at_ hlt
        obtain ⟨b2, o2, y, rfl, l2, ey, c2⟩ := HB.out.at_ hlt2
        have EX := hid ex
        have EY := hid ey
        clear ex ey
        by_cases e : x = y
        · have e' : (x != y) = false := by simpa using e
          have E := hid e
          clear e
          go_wp2_with fail
          go_quiet (fail)
          go_wp2_with fail
          go_roundw
          case rel => exact ⟨k + 1, by omega, by go_num, take_step HT.out EX.out EY.out E.out, _, rfl⟩
          case measure => simp [intOf]; omega
        · have e' : (x != y) = true := by simpa using e
          go_wp2_with fail
          go_quiet (fail)
          go_wp2_with fail
          go_ret
          rw [eqB_no EX.out EY.out e]
          exact ⟨rfl, drewN_two _ _ _⟩
      · have hke : k = xs.length := by omega
        have HK := hid hke
        clear hke
        go_wp2_with fail
        go_ret
        rw [eqB_yes HT.out HK.out HL.out]
        exact ⟨rfl, _, rfl⟩
  · rw [eqB_len hl]
    have h1 : ((xs.length : Int) != (ys.length : Int)) = true := by simp; omega
    have h2 : (xs.length != ys.length) = true := by simp; omega
    go_enter Tryz.func27, Tryz.ntmps27
    go_wp2_with fail
    go_ret
    exact ⟨rfl, 0, rfl⟩
theorem ref_SameSent (a b : SentV) (p q : SentP) (ha : lnS 100000 a) (hb : lnS 100000 b) (w : World) {B D : Nat} (hB : B ≤ w.heap.size) (hD : D ≤ w.heap.size) (ra : RdS w B a p) (rb : RdS w D b q) :
    Calls Tryz.prog 11 #[encT a p, encT b q] w fun e w' => e = .returned (.bool (sameS a b)) ∧ Below w.heap.size w w' := by
  have C1 := hid (fun W (h : Below w.heap.size w W) => ref_Equal (A := p.AL) (B := q.AL) (c := p.cL) (d := q.cL) a.L b.L (by have := ha.1; omega) (by have := hb.1; omega) W (ra.1.below (h.mono hB)) (rb.1.below (h.mono hD)))
  have C2 := hid (fun W (h : Below w.heap.size w W) => ref_Same64 (A := p.AV) (B := q.AV) (c := p.cV) (d := q.cV) a.V b.V (by have := ha.2.1; omega) (by have := hb.2.1; omega) W (ra.2.1.below (h.mono hB)) (rb.2.1.below (h.mono hD)))
  have C3 := hid (fun W (h : Below w.heap.size w W) => ref_NumsEq (A := p.AE) (B := q.AE) (c := p.cE) (d := q.cE) a.lev b.lev (by have := ha.2.2.1; omega) (by have := hb.2.2.1; omega) W (ra.2.2.1.below (h.mono hB)) (rb.2.2.1.below (h.mono hD)))
  have C4 := hid (fun W (h : Below w.heap.size w W) => ref_SignsEq (A := p.AN) (B := q.AN) (c := p.cN) (d := q.cN) a.neg b.neg (by have := ha.2.2.2; omega) (by have := hb.2.2.2; omega) W (ra.2.2.2.below (h.mono hB)) (rb.2.2.2.below (h.mono hD)))
  unfold sameS
  obtain ⟨vL, eL⟩ : ∃ v, eqB a.L b.L = v := ⟨_, rfl⟩
  obtain ⟨vV, eV⟩ : ∃ v, eqB a.V b.V = v := ⟨_, rfl⟩
  obtain ⟨vlev, elev⟩ : ∃ v, eqB a.lev b.lev = v := ⟨_, rfl⟩
  obtain ⟨vneg, eneg⟩ : ∃ v, eqN a.neg b.neg = v := ⟨_, rfl⟩
  rw [eL] at C1 ⊢
  rw [eV] at C2 ⊢
  rw [elev] at C3 ⊢
  rw [eneg] at C4 ⊢
  obtain ⟨vsch, hsch⟩ : ∃ v, (a.sch == b.sch) = v := ⟨_, rfl⟩
  obtain ⟨vdim, hdim⟩ : ∃ v, (a.dim == b.dim) = v := ⟨_, rfl⟩
  obtain ⟨vscale, hscale⟩ : ∃ v, (a.scale == b.scale) = v := ⟨_, rfl⟩
  obtain ⟨vwide, hwide⟩ : ∃ v, (a.wide == b.wide) = v := ⟨_, rfl⟩
  rw [hsch, hdim, hscale, hwide]
  have K : Hid (∀ n, Below w.heap.size w (((w.alloc (.cells #[.int .i64 a.sch, .int .i64 a.dim, .slice p.AL a.L.length p.cL, .slice p.AV a.V.length p.cV, .int .i64 a.scale, .int .i64 a.wide, .slice p.AE a.lev.length p.cE, .slice p.AN a.neg.length p.cN] 29)).alloc (.cells #[.int .i64 b.sch, .int .i64 b.dim, .slice q.AL b.L.length q.cL, .slice q.AV b.V.length q.cV, .int .i64 b.scale, .int .i64 b.wide, .slice q.AE b.lev.length q.cE, .slice q.AN b.neg.length q.cN] 29)).drewN n)) := hid (fun n => Below.trans (by go_grown) (belowN _ _ n))
  clear eL eV elev eneg ra rb ha hb
  go_enter Tryz.func11, Tryz.ntmps11
  go_wp2_with fail
  any_goals (go_ret; exact ⟨by simp [*], by go_grown⟩)
  refine (C1.out _ (by go_grown)).mono ?_
  rintro _ _ ⟨rfl, n1, rfl⟩
  go_wp2_with fail
  any_goals (go_ret; exact ⟨by simp [*], K.out _⟩)
  refine (C2.out _ (K.out _)).mono ?_
  rintro _ _ ⟨rfl, n2, rfl⟩
  go_wp2_with fail
  any_goals (go_ret; exact ⟨by simp [*], K.out _⟩)
  refine (C3.out _ (K.out _)).mono ?_
  rintro _ _ ⟨rfl, n3, rfl⟩
  go_wp2_with fail
  any_goals (go_ret; exact ⟨by simp [*], K.out _⟩)
  refine (C4.out _ (K.out _)).mono ?_
  rintro _ _ ⟨rfl, n4, rfl⟩
  go_wp2_with fail
  go_ret
  exact ⟨by simp [*], K.out _⟩
end Go.Proofs.YtjkhdfncahhnoaaGreat
