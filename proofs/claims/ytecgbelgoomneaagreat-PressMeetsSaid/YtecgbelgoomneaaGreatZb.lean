
/- Zb: texts joined: Vec2 Vec3 Vec4 Dig Norm RefA RefB VecR VecS VecT VecU VecM VecN QuM QuA DrA Grn App5 QuK TkO TkQ FrN TkF FsP PpM PpA FsA IxQ PlO PlQ HpM HpA HpB HpC HpD HpN IxR IxP Div64. -/
import Derived.Test.YtecgbelgoomneaaGreatZa
import Derived.Outline
import Derived.Maps.OwnSet
import Derived.Test.YtecgbelgoomneaaGreatShelf
import Derived.Shelf.Slices.Empties
import Derived.RegionTactic
import Derived.Deep.RegionHeld3
import Derived.ChangeAlike
import Derived.Deep.QuietTactic
import Derived.BigQuiet
import Derived.StillTailTactics
import Derived.Sort.LotA
import Derived.Shelf.SlSortCmp.QuietGrown
import Derived.Shelf.SlSortCmp.InsertionK
import Derived.Sort.OwnSortedInts
import Derived.Lib.AppendZerosOnto
import Derived.Lib.Walk
import Derived.Lib.SlicesCompact
import Derived.Shelf.Slices.In.SortNone
import Derived.Deep.CutRange
import Derived.Deep.CutBlock
import Derived.Lib.BitFns
import Derived.Lib.ItoaNum
/- vec's functions, each by its contract: the others. -/
namespace Go.Proofs.YtecgbelgoomneaaGreat
open Go.RowKit
set_option maxHeartbeats 400000
set_option maxRecDepth 100000
set_option linter.unusedVariables false
theorem seqV_i64 {num : Nat → Int × Int} {n : Nat} (h : ∀ k, k < n → I64 (num k).1) : I64s (seqV num n) := by
  unfold seqV
  split
  · intro x hx
    obtain ⟨k, hk, rfl⟩ := List.mem_map.1 hx
    exact h k (by simpa using hk)
  · intro x hx; simp at hx
theorem unV_i64 {q : Int} {num : Nat → Int × Int} {n : Nat} (h : ∀ k, k < n → I64 (num k).1) : I64s (unV q num n) := by
  unfold unV
  split
  · exact seqV_i64 h
  · intro x hx; simp at hx
theorem seqV_len (num : Nat → Int × Int) (n : Nat) : (seqV num n).length ≤ n := by
  unfold seqV; split <;> simp
theorem unV_len (q : Int) (num : Nat → Int × Int) (n : Nat) : (unV q num n).length ≤ 4096 := by
  by_cases h : bndE n q = 0
  · rw [show unV q num n = seqV num n from if_pos h]
    have := seqV_len num n
    have : ¬ 4096 < n := fun hn => by rw [show bndE n q = 3 from if_pos hn] at h; cases h
    omega
  · rw [show unV q num n = [] from if_neg h]; simp
def sizeE (xs : List Int) : Int := if 4096 < xs.length then 3 else (tot (numA xs) xs.length).2
def sizeV (xs : List Int) : Int := if 4096 < xs.length then 0 else (tot (numA xs) xs.length).1
theorem size_H {A : Option Addr} {c : Nat} (xs : List Int) (ix : I64s xs) (w : World) (ra : Rd (Value.int .i64) w w.heap.size A xs)
    (k : Nat) (hk : k < xs.length) (W : World) (hW : Below (w.alloc (.cells #[.slice A xs.length c] 24)).heap.size (w.alloc (.cells #[.slice A xs.length c] 24)) W) :
    Calls Tryz.prog 65 (#[.int .i64 k] ++ #[.pointer (some ⟨w.heap.size, 0, none⟩)]) W fun e w' => e = .returned (.tuple #[.int .i64 (numA xs k).1, .int .i64 (numA xs k).2]) ∧ Below W.heap.size W w' := by
  obtain ⟨_, _, x, _, _, hx, _⟩ := ra.at_ hk
  obtain ⟨ca, hb⟩ := one_cell w (.slice A xs.length c) 24
  have h := size_cl xs (cell_later hW ca) (ra.below (hb.trans (hW.mono hb.size))) hx (ix.at_ hx)
  unfold numA
  rw [getD_of hx]
  exact h
theorem Size_any {A : Option Addr} {c : Nat} (xs : List Int) (hx : xs.length ≤ 9223372036854775807) (ix : I64s xs) (w : World) (ra : Rd (Value.int .i64) w w.heap.size A xs) :
    Calls Tryz.prog 32 #[.slice A xs.length c] w fun e w' => e = .returned (.tuple #[.int .i64 (sizeV xs), .int .i64 (sizeE xs)]) ∧ Below w.heap.size w w' := by
  have CM := hid (Check_any A xs.length c hx)
  have HB := hid (one_cell w (.slice A xs.length c) 24).2
  by_cases hn : 4096 < xs.length
  · rw [show sizeE xs = 3 from if_pos hn, show sizeV xs = 0 from if_pos hn]
    rw [show oneE xs.length = 3 from if_pos hn] at CM
    clear ra ix
    go_enter Tryz.func32, Tryz.ntmps32
    go_wp2_with fail
    refine (CM.out _).mono ?_
    rintro _ _ ⟨rfl, rfl⟩
    go_wp2_with fail
    go_ret2
    exact ⟨rfl, HB.out⟩
  · rw [show sizeE xs = (tot (numA xs) xs.length).2 from if_neg hn, show sizeV xs = (tot (numA xs) xs.length).1 from if_neg hn]
    rw [show oneE xs.length = 0 from if_neg hn] at CM
    have hL := hid (total_any _ _ xs.length (by omega) _ (numA xs) size_ok (fun k _ => ckV_i64 _) (size_H (c := c) xs ix w ra))
    obtain ⟨s, hs⟩ : ∃ s, tot (numA xs) xs.length = s := ⟨_, rfl⟩
    rw [hs] at hL ⊢
    clear ra ix hs
    go_enter Tryz.func32, Tryz.ntmps32
    go_wp2_with fail
    refine (CM.out _).mono ?_
    rintro _ _ ⟨rfl, rfl⟩
    go_wp2_with fail
    refine hL.out.mono ?_
    rintro _ w2 ⟨rfl, hb2⟩
    go_wp2_with fail
    go_ret2
    exact ⟨rfl, HB.out.trans (hb2.mono HB.out.size)⟩
end Go.Proofs.YtecgbelgoomneaaGreat
/- vec's functions, each by its contract: Same, Most, Zero, Sum, and what they take of package slices. -/
namespace Go.Proofs.YtecgbelgoomneaaGreat
open Go.RowKit
set_option maxHeartbeats 400000
set_option maxRecDepth 100000
set_option linter.unusedVariables false
theorem Equal_any {A B : Option Addr} {c d : Nat} (xs ys : List Int) (hx : xs.length ≤ 9223372036854775807) (hy : ys.length ≤ 9223372036854775807) (w : World)
    (ra : Rd (Value.int .i64) w w.heap.size A xs) (rb : Rd (Value.int .i64) w w.heap.size B ys) :
    Calls Tryz.prog 63 #[.slice A xs.length c, .slice B ys.length d] w fun e w' => e = .returned (.bool (eqB xs ys)) ∧ Below w.heap.size w w' := by
  by_cases hl : xs.length = ys.length
  · have HA := hid ra
    have HB := hid rb
    clear ra rb
    have h1 : ((xs.length : Int) != (ys.length : Int)) = false := by simp; omega
    have h2 : (xs.length != ys.length) = false := by simp; omega
    have HL := hid hl
    clear hl
    go_enter Tryz.func63, Tryz.ntmps63
    go_wp2_with fail
    clear h1 h2
    go_loopw [13] (fun i wr => ∃ k : Nat, k ≤ xs.length ∧ i = .int .i64 k ∧ xs.take k = ys.take k ∧ Below w.heap.size w wr) (fun i _ => xs.length - (intOf i).toNat)
    case atStart => exact ⟨0, by omega, rfl, rfl, Below.refl _ _⟩
    case round =>
      obtain ⟨k, hk, rfl, ht, hb⟩ := hrel
      have HT := hid ht
      clear ht
      by_cases hlt : k < xs.length
      · have hlt2 : k < ys.length := by have := HL.out; omega
        obtain ⟨b1, o1, x, rfl, l1, ex, c1⟩ := (HA.out.below hb).at_ hlt
        obtain ⟨b2, o2, y, rfl, l2, ey, c2⟩ := (HB.out.below hb).at_ hlt2
        have EX := hid ex
        have EY := hid ey
        clear ex ey
        by_cases e : x = y
        · have e' : (x != y) = false := by simpa using e
          have E := hid e
          clear e
          go_wp2_with fail
          go_quiet (fail)
          go_wp2_with fail
          go_roundw
          case rel => exact ⟨k + 1, by omega, by go_num, take_step HT.out EX.out EY.out E.out, hb.trans (belowN _ _ _)⟩
          case measure => simp [intOf]; omega
        · have e' : (x != y) = true := by simpa using e
          go_wp2_with fail
          go_quiet (fail)
          go_wp2_with fail
          go_ret
          rw [eqB_no EX.out EY.out e]
          exact ⟨rfl, hb.trans (belowN _ _ _)⟩
      · have hke : k = xs.length := by omega
        have HK := hid hke
        clear hke
        go_wp2_with fail
        go_ret
        rw [eqB_yes HT.out HK.out HL.out]
        exact ⟨rfl, hb⟩
  · rw [eqB_len hl]
    have h1 : ((xs.length : Int) != (ys.length : Int)) = true := by simp; omega
    have h2 : (xs.length != ys.length) = true := by simp; omega
    go_enter Tryz.func63, Tryz.ntmps63
    go_wp2_with fail
    go_ret
    exact ⟨rfl, Below.refl _ _⟩
theorem Same_any {A B : Option Addr} {c d : Nat} (xs ys : List Int) (hx : xs.length ≤ 9223372036854775807) (hy : ys.length ≤ 9223372036854775807) (w : World)
    (ra : Rd (Value.int .i64) w w.heap.size A xs) (rb : Rd (Value.int .i64) w w.heap.size B ys) :
    Calls Tryz.prog 31 #[.slice A xs.length c, .slice B ys.length d] w fun e w' => e = .returned (.bool (eqB xs ys)) ∧ Below w.heap.size w w' := by
  have C := hid (Equal_any (c := c) (d := d) xs ys hx hy w ra rb)
  clear ra rb
  go_enter Tryz.func31, Tryz.ntmps31
  go_wp2_with fail
  refine C.out.mono ?_
  rintro _ w1 ⟨rfl, hb1⟩
  go_wp2_with fail
  go_ret
  exact ⟨rfl, hb1⟩
/-- The greatest of numbers that are not below 0 (0 of none). -/
def mx (xs : List Int) : Int := xs.foldl max 0
theorem mx_step {xs : List Int} {k : Nat} {x : Int} (hx : xs[k]? = some x) : mx (xs.take (k + 1)) = max (mx (xs.take k)) x := by
  unfold mx
  rw [List.take_add_one, hx]
  simp [List.foldl_append]
theorem mx_ge : ∀ (xs : List Int) (a : Int), a ≤ xs.foldl max a
  | [], a => Int.le_refl _
  | x :: xs, a => by
    have := mx_ge xs (max a x)
    simp only [List.foldl_cons]
    omega
theorem mx_i64 {xs : List Int} (h : I64s xs) : ∀ a, I64 a → I64 (xs.foldl max a) := by
  induction xs with
  | nil => exact fun a ha => ha
  | cons x xs ih =>
    intro a ha
    refine ih (fun y hy => h y (by simp [hy])) (max a x) ?_
    have := h x (by simp)
    unfold I64 at *
    omega
theorem Max_any {A : Option Addr} {c : Nat} (xs : List Int) (hx : xs.length ≤ 9223372036854775807) (hp : 0 < xs.length) (h0 : ∀ x ∈ xs, 0 ≤ x) (w : World) (ra : Rd (Value.int .i64) w w.heap.size A xs) :
    Calls Tryz.prog 202 #[.slice A xs.length c] w fun e w' => e = .returned (.int .i64 (mx xs)) ∧ Below w.heap.size w w' := by
  obtain ⟨b1, o1, x0, rfl, l1, ex, c1⟩ := ra.at_ hp
  have hx0 : 0 ≤ x0 := h0 x0 (List.mem_of_getElem? ex)
  have e1 : mx (xs.take 1) = x0 := by
    rw [show (1 : Nat) = 0 + 1 from rfl, mx_step ex]
    show max 0 x0 = x0
    omega
  have E1 := hid e1
  have HA := hid ra
  clear ra ex e1
  have hp2 : ¬ ((xs.length : Int) < 1) := by omega
  rw [Nat.add_zero] at c1
  go_enter Tryz.func202, Tryz.ntmps202
  go_wp2_with fail
  go_loopw [3, 4] (fun m i wr => ∃ (k : Nat) (z : Int), k ≤ xs.length ∧ 1 ≤ k ∧ i = .int .i64 k ∧ m = .int .i64 z ∧ mx (xs.take k) = z ∧ Below w.heap.size w wr) (fun _ i _ => xs.length - (intOf i).toNat)
  case atStart => exact ⟨1, x0, by omega, by omega, rfl, rfl, E1.out, Below.refl _ _⟩
  case round =>
    obtain ⟨k, z, hk, hk1, rfl, rfl, hz, hb⟩ := hrel
    have HZ := hid hz
    clear hz
    by_cases hlt : k < xs.length
    · obtain ⟨b2, o2, y, e3, l2, ey, c2⟩ := (HA.out.below hb).at_ hlt
      have e4 := Option.some.inj e3
      simp only [Addr.mk.injEq] at e4
      obtain ⟨rfl, rfl, _⟩ := e4
      have EY := hid (mx_step ey)
      clear e3 ey
      go_wp2_with fail
      go_roundw
      case rel =>
        refine ⟨k + 1, _, by omega, by omega, by go_num, rfl, ?_, hb⟩
        rw [EY.out, HZ.out]
        first | done | omega | (split <;> omega)
      case measure => simp [intOf]; omega
    · obtain rfl : k = xs.length := by omega
      go_wp2_with fail
      go_ret
      have := HZ.out
      rw [List.take_of_length_le (Nat.le_refl _)] at this
      rw [this]
      exact ⟨rfl, hb⟩
def mostE (xs : List Int) : Int := unE 0 (numA xs) xs.length
def mostV (xs : List Int) : Int := mx (unV 0 (numA xs) xs.length)
theorem numA_pos (xs : List Int) (k : Nat) : 0 ≤ (numA xs k).1 := by
  unfold numA ckV absI
  simp only
  split <;> split <;> omega
theorem abs_pos (xs : List Int) : ∀ x ∈ unV 0 (numA xs) xs.length, 0 ≤ x := by
  intro x hx
  unfold unV seqV at hx
  split at hx
  · split at hx
    · obtain ⟨k, _, rfl⟩ := List.mem_map.1 hx
      exact numA_pos xs k
    · simp at hx
  · simp at hx
theorem most_H {A : Option Addr} {c : Nat} (xs : List Int) (ix : I64s xs) (w : World) (ra : Rd (Value.int .i64) w w.heap.size A xs)
    (k : Nat) (hk : k < xs.length) (W : World) (hW : Below (w.alloc (.cells #[.slice A xs.length c] 24)).heap.size (w.alloc (.cells #[.slice A xs.length c] 24)) W) :
    Calls Tryz.prog 201 (#[.int .i64 k] ++ #[.pointer (some ⟨w.heap.size, 0, none⟩)]) W fun e w' => e = .returned (.tuple #[.int .i64 (numA xs k).1, .int .i64 (numA xs k).2]) ∧ Below W.heap.size W w' := by
  obtain ⟨_, _, x, _, _, hx, _⟩ := ra.at_ hk
  obtain ⟨ca, hb⟩ := one_cell w (.slice A xs.length c) 24
  have h := most_cl xs (cell_later hW ca) (ra.below (hb.trans (hW.mono hb.size))) hx (ix.at_ hx)
  unfold numA
  rw [getD_of hx]
  exact h
theorem mx_nil : mx [] = 0 := rfl
theorem Most_any {A : Option Addr} {c : Nat} (xs : List Int) (hx : xs.length ≤ 9223372036854775807) (ix : I64s xs) (w : World) (ra : Rd (Value.int .i64) w w.heap.size A xs) :
    Calls Tryz.prog 166 #[.slice A xs.length c] w fun e w' => e = .returned (.tuple #[.int .i64 (mostV xs), .int .i64 (mostE xs)]) ∧ Below w.heap.size w w' := by
  have CM := hid (Check_any A xs.length c hx)
  have HB := hid (one_cell w (.slice A xs.length c) 24).2
  unfold mostV mostE
  by_cases hn : 4096 < xs.length
  · have e := un_long hn 0 (numA xs)
    rw [e.1, e.2, mx_nil]
    rw [show oneE xs.length = 3 from if_pos hn] at CM
    clear ra ix e
    go_enter Tryz.func166, Tryz.ntmps166
    go_wp2_with fail
    refine (CM.out _).mono ?_
    rintro _ _ ⟨rfl, rfl⟩
    go_wp2_with fail
    go_ret2
    exact ⟨rfl, HB.out⟩
  · have e := un_ok hn (numA xs)
    have hp := abs_pos xs
    have hlen := unV_len 0 (numA xs) xs.length
    rw [show oneE xs.length = 0 from if_neg hn] at CM
    have hL := hid (list_any _ _ xs.length (by omega) _ (numA xs) most_ok (most_H (c := c) xs ix w ra))
    rw [e.2] at hp hlen
    rw [e.1, e.2]
    obtain ⟨er, he⟩ : ∃ s, seqE (numA xs) xs.length = s := ⟨_, rfl⟩
    have hne : er ≠ 0 → seqV (numA xs) xs.length = [] := fun h => by unfold seqV; rw [he, if_neg h]
    obtain ⟨v, hv⟩ : ∃ s, seqV (numA xs) xs.length = s := ⟨_, rfl⟩
    rw [he, hv] at hL
    rw [he, hv]
    rw [hv] at hp hne hlen
    clear ra ix he hv e
    by_cases h0 : er = 0
    · subst h0
      clear hne
      by_cases hvn : v = []
      · subst hvn
        rw [mx_nil]
        clear hp
        go_enter Tryz.func166, Tryz.ntmps166
        go_wp2_with fail
        refine (CM.out _).mono ?_
        rintro _ _ ⟨rfl, rfl⟩
        go_wp2_with fail
        refine hL.out.mono ?_
        rintro _ w2 ⟨A', c', rfl, ho, hb2⟩
        clear ho
        go_wp2_with fail
        go_ret2
        exact ⟨rfl, HB.out.trans (hb2.mono HB.out.size)⟩
      · have hvl : 0 < v.length := List.length_pos_iff.2 hvn
        have CX := hid (fun (A' : Option Addr) (c' : Nat) (W : World) hr => Max_any (A := A') (c := c') v (by omega) hvl hp W hr)
        have hv1 : ((v.length : Int) == 0) = false := by simp; omega
        have hv2 : (v.length == 0) = false := by simp; omega
        clear hp hvn
        go_enter Tryz.func166, Tryz.ntmps166
        go_wp2_with fail
        refine (CM.out _).mono ?_
        rintro _ _ ⟨rfl, rfl⟩
        go_wp2_with fail
        refine hL.out.mono ?_
        rintro _ w2 ⟨A', c', rfl, ho, hb2⟩
        have HO := hid (own_rd ho)
        clear ho
        go_wp2_with fail
        refine (CX.out _ _ _ HO.out).mono ?_
        rintro _ w3 ⟨rfl, hb3⟩
        go_wp2_with fail
        go_ret2
        exact ⟨rfl, HB.out.trans ((hb2.trans (hb3.mono hb2.size)).mono HB.out.size)⟩
    · obtain rfl := hne h0
      rw [mx_nil]
      have hq : (er != 0) = true := by simpa using h0
      clear hne h0 hp
      go_enter Tryz.func166, Tryz.ntmps166
      go_wp2_with fail
      refine (CM.out _).mono ?_
      rintro _ _ ⟨rfl, rfl⟩
      go_wp2_with fail
      refine hL.out.mono ?_
      rintro _ w2 ⟨A', c', rfl, ho, hb2⟩
      clear ho
      go_wp2_with fail
      go_ret2
      exact ⟨rfl, HB.out.trans (hb2.mono HB.out.size)⟩
end Go.Proofs.YtecgbelgoomneaaGreat
/- vec's Sum, by its contract. -/
namespace Go.Proofs.YtecgbelgoomneaaGreat
open Go.RowKit
set_option maxHeartbeats 400000
set_option maxRecDepth 100000
set_option linter.unusedVariables false
/-- A call's answer: a list of numbers, in memory of the call's own; nothing that was there has turned. -/
def OwnList (xs : List Int) (w : World) (e : Ending) (w' : World) : Prop :=
  ∃ A c, e = .returned (.slice A xs.length c) ∧ w'.ownsRow w.heap.size 2 1 (.slice A xs.length c) xs.length (xs.map (Value.int .i64)) ∧ Below w.heap.size w w'
theorem Clone_any {A : Option Addr} {c : Nat} (xs : List Int) (hx : xs.length ≤ 1099511627776) (w : World) (ra : Rd (Value.int .i64) w w.heap.size A xs) :
    Calls Tryz.prog 118 #[.slice A xs.length c] w (OwnList xs w) := by
  have qT : ∀ (w : World) (a : Option Addr) (n c n' c' : Nat), (binOp .eql 24 (.slice a n c) (.slice none n' c')).run Tryz.prog w = .ok (.bool a.isNone) w := fun w a n c n' c' => Lib.run_eql_slice_nil w _ _ a n c n' c' Tryz.underlying24
  rcases A with _ | ad
  · have hxs : xs = [] := by
      cases xs with
      | nil => rfl
      | cons x xs =>
        obtain ⟨_, _, he, _⟩ := ra 0 x rfl
        cases he
    subst hxs
    clear ra
    go_enter Tryz.func118, Tryz.ntmps118
    go_wp2_with fail
    go_ret
    exact ⟨none, 0, rfl, own_nil _ _ _, Below.refl _ _⟩
  · have HA := hid ra
    clear ra
    go_enter Tryz.func118, Tryz.ntmps118
    have h0 : (w.alloc (.cells #[] 2)).ownsRow w.heap.size 2 1 (.slice (some ⟨w.heap.size, 0, none⟩) ([] : List Int).length 0) ([] : List Int).length (([] : List Int).map (Value.int .i64)) :=
      World.ownsRow_made w #[] 0 (Nat.le_refl _) (by unfold maxLen; omega) rfl
    have hr0 := HA.out.below ((Below.refl w.heap.size w).alloc (Nat.le_refl _) (.cells #[] 2))
    go_wp2_with (at_builtin; refine wpList_app (Value.int .i64) (fun _ => rfl) _ rfl _ _ 24 rfl w.heap.size 2 (.int .i64 0) 8 Tryz.underlying24 info_i64 rfl [] _ 0 rfl h0 xs _ c w.heap.size rfl hr0 (by simp [maxLen]; omega) (by simp; omega) (by simp) ?_)
    rintro S A' c' w1 rfl ho hb _
    go_wp2_with fail
    go_ret
    exact ⟨A', c', rfl, ho, ((Below.refl w.heap.size w).alloc (Nat.le_refl _) _).trans hb⟩
end Go.Proofs.YtecgbelgoomneaaGreat
/- Plain facts on a long division's digits (Knuth's way, with halves of 32 bits). No program in sight. -/
namespace Go.Proofs.YtecgbelgoomneaaGreat
set_option maxRecDepth 100000
set_option linter.unusedVariables false

/-- q and r while one digit is sought: never below what it is. -/
structure Dig (u d1 d0 c q r : Int) : Prop where
  sum : q * d1 + r = u
  up : (u * 4294967296 + c) / (d1 * 4294967296 + d0) ≤ q
  q0 : 0 ≤ q
  q1 : q ≤ 4294967297
  r0 : 0 ≤ r

/-- What the digits are sought of. -/
structure Den (u d1 d0 c : Int) : Prop where
  d1l : 2147483648 ≤ d1
  d1h : d1 < 4294967296
  d0l : 0 ≤ d0
  d0h : d0 < 4294967296
  u0 : 0 ≤ u
  ud : u < d1 * 4294967296 + d0
  c0 : 0 ≤ c
  c1 : c < 4294967296

variable {u d1 d0 c q r : Int}

theorem dig_quo0 (n : Den u d1 d0 c) : 0 ≤ (u * 4294967296 + c) / (d1 * 4294967296 + d0) := by
  obtain ⟨h1, h2, h3, h4, h5, h6, h7, h8⟩ := n
  exact Int.ediv_nonneg (by omega) (by omega)
theorem dig_quo1 (n : Den u d1 d0 c) : (u * 4294967296 + c) / (d1 * 4294967296 + d0) < 4294967296 := by
  obtain ⟨h1, h2, h3, h4, h5, h6, h7, h8⟩ := n
  exact Int.ediv_lt_of_lt_mul (by omega) (by omega)
theorem dig_mul (h : Dig u d1 d0 c q r) : q * (d1 * 4294967296 + d0) = (u - r) * 4294967296 + q * d0 := by
  have := h.sum
  rw [Int.mul_add, ← Int.mul_assoc, show q * d1 = u - r by omega]
theorem dig_le (n : Den u d1 d0 c) (h : Dig u d1 d0 c q r) (hle : q * d0 ≤ 4294967296 * r + c) : (u * 4294967296 + c) / (d1 * 4294967296 + d0) = q := by
  refine Int.le_antisymm h.up (Int.le_ediv_of_mul_le (by have := n.d1l; have := n.d0l; omega) ?_)
  rw [dig_mul h]
  omega
theorem dig_gt (n : Den u d1 d0 c) (h : Dig u d1 d0 c q r) (hg : 4294967296 ≤ q ∨ 4294967296 * r + c < q * d0) : (u * 4294967296 + c) / (d1 * 4294967296 + d0) ≤ q - 1 := by
  rcases hg with hg | hg
  · have := dig_quo1 n; omega
  · have : (u * 4294967296 + c) / (d1 * 4294967296 + d0) < q := Int.ediv_lt_of_lt_mul (by have := n.d1l; have := n.d0l; omega) (by rw [dig_mul h]; omega)
    omega
theorem dig_step (n : Den u d1 d0 c) (h : Dig u d1 d0 c q r) (hg : 4294967296 ≤ q ∨ 4294967296 * r + c < q * d0) : Dig u d1 d0 c (q - 1) (r + d1) ∧ 1 ≤ q ∧ q - 1 ≤ 4294967296 := by
  have h1 := dig_gt n h hg
  have h2 := dig_quo0 n
  have h3 := h.q1
  have h4 := h.r0
  have h5 := n.d1l
  have h6 := h.sum
  exact ⟨⟨by rw [Int.sub_mul]; omega, h1, by omega, by omega, by omega⟩, by omega, by omega⟩
theorem dig_break (n : Den u d1 d0 c) (h : Dig u d1 d0 c q r) (hq : q ≤ 4294967296) (hr : 4294967296 ≤ r) : (u * 4294967296 + c) / (d1 * 4294967296 + d0) = q := by
  refine dig_le n h ?_
  have h1 : q * d0 ≤ 4294967296 * 4294967295 := Int.mul_le_mul hq (by have := n.d0h; omega) n.d0l (by decide)
  have := n.c0
  omega
theorem dig_start (n : Den u d1 d0 c) : Dig u d1 d0 c (u / d1) (u - u / d1 * d1) ∧ u - u / d1 * d1 < 4294967296 := by
  obtain ⟨h1, h2, h3, h4, h5, h6, h7, h8⟩ := n
  have e := Int.mul_ediv_add_emod u d1
  have e1 := Int.emod_nonneg u (show d1 ≠ 0 by omega)
  have e2 := Int.emod_lt_of_pos u (show 0 < d1 by omega)
  rw [Int.mul_comm] at e
  have q0 : 0 ≤ u / d1 := Int.ediv_nonneg h5 (by omega)
  refine ⟨⟨by omega, ?_, q0, ?_, by omega⟩, by omega⟩
  · have : (u * 4294967296 + c) / (d1 * 4294967296 + d0) < u / d1 + 1 := by
      refine Int.ediv_lt_of_lt_mul (by omega) ?_
      have k1 : (u / d1 + 1) * (d1 * 4294967296 + d0) = (u / d1 * d1 + d1) * 4294967296 + (u / d1 + 1) * d0 := by
        rw [Int.mul_add, ← Int.mul_assoc, Int.add_mul, Int.one_mul]
      have k2 : 0 ≤ (u / d1 + 1) * d0 := Int.mul_nonneg (by omega) h3
      omega
    omega
  · have : u / d1 < 4294967298 := Int.ediv_lt_of_lt_mul (by omega) (by omega)
    omega

/-- Both digits together. -/
theorem two_digits {D t1 t0 a1 a0 b : Int} (_hD : 0 < D) (h1 : t1 = a1 * D + b) (h0 : b * 4294967296 + t0 = a0 * D + r) (hr : 0 ≤ r) (hr' : r < D) :
    (t1 * 4294967296 + t0) / D = a1 * 4294967296 + a0 ∧ (t1 * 4294967296 + t0) % D = r := by
  have e : t1 * 4294967296 + t0 = r + (a1 * 4294967296 + a0) * D := by
    subst h1
    rw [Int.add_mul, Int.add_mul, Int.mul_right_comm]
    omega
  rw [e]
  constructor
  · rw [Int.add_mul_ediv_right _ _ (by omega), Int.ediv_eq_zero_of_lt hr hr']; omega
  · rw [Int.add_mul_emod_self_right, Int.emod_eq_of_lt hr hr']

/-- Shifting both by as many bits does not change the quotient. -/
theorem quo_shift {U y p : Int} (hp : 0 < p) (hy : 0 < y) : U * p / (y * p) = U / y ∧ U * p % (y * p) / p = U % y := by
  constructor
  · exact Int.mul_ediv_mul_of_pos_left _ _ hp
  · rw [Int.mul_comm U, Int.mul_comm y, Int.mul_emod_mul_of_pos _ _ hp]
    exact Int.mul_ediv_cancel_left _ (by omega)
end Go.Proofs.YtecgbelgoomneaaGreat
/- Plain facts on a number shifted so far that its highest bit stands. No program in sight. -/
namespace Go.Proofs.YtecgbelgoomneaaGreat
open Go.RowKit
set_option maxRecDepth 100000
set_option linter.unusedVariables false
theorem and_low (x : Int) (h : U64 x) : bits BinOp.and IntKind.u64 x 4294967295 = x % 4294967296 :=
  bits_mask .u64 64 (by decide) (fun n h0 h1 => by rw [IntKind.wrap_u64]; omega) 32 (by decide) x h.1 (by have := h.2; omega)
theorem two_pow_split (s : Nat) (hs : s ≤ 64) : (2 : Int) ^ s * 2 ^ (64 - s) = 18446744073709551616 := by
  rw [← Int.pow_add, show s + (64 - s) = 64 by omega]; rfl
theorem norm_u (h l y : Int) (s : Nat) (hs : s ≤ 63) (hl : U64 l) (h0 : 0 ≤ h) (h1 : h < y) (hD : y * 2 ^ s ≤ 18446744073709551615) :
    bits BinOp.or IntKind.u64 (IntKind.u64.wrap (h * 2 ^ s)) (l / 2 ^ (64 - s)) = h * 2 ^ s + l / 2 ^ (64 - s) := by
  have ek := two_pow_split s (by omega)
  have hp : (0 : Int) < 2 ^ s := Int.pow_pos (by decide)
  have hp' : (0 : Int) < 2 ^ (64 - s) := Int.pow_pos (by decide)
  have e1 : h * 2 ^ s < y * 2 ^ s := Int.mul_lt_mul_of_pos_right h1 hp
  have e0 : 0 ≤ h * 2 ^ s := Int.mul_nonneg h0 (by omega)
  have e2 : l / 2 ^ (64 - s) < 2 ^ s := Int.ediv_lt_of_lt_mul hp' (by rw [ek]; have := hl.2; omega)
  have e3 : 0 ≤ l / 2 ^ (64 - s) := Int.ediv_nonneg hl.1 (by omega)
  have e4 : (2 : Int) ^ s ≤ 2 ^ s * 2 ^ (64 - s) := by
    have := Int.mul_le_mul_of_nonneg_left (show (1 : Int) ≤ 2 ^ (64 - s) by omega) (Int.le_of_lt hp)
    omega
  rw [ek] at e4
  rw [show IntKind.u64.wrap (h * 2 ^ s) = h * 2 ^ s by rw [IntKind.wrap_u64]; omega]
  exact bits_join .u64 64 (by decide) (fun n h0 h1 => by rw [IntKind.wrap_u64]; omega) s _ _ e0 (Int.mul_emod_left _ _) (by omega) e3 e2 (by omega)
theorem norm_sum (h l : Int) (s : Nat) (hs : s ≤ 63) : (h * 18446744073709551616 + l) * 2 ^ s = (h * 2 ^ s + l / 2 ^ (64 - s)) * 18446744073709551616 + IntKind.u64.wrap (l * 2 ^ s) := by
  have ek := two_pow_split s (by omega)
  have hp : (0 : Int) < 2 ^ s := Int.pow_pos (by decide)
  have e : l * 2 ^ s / 18446744073709551616 = l / 2 ^ (64 - s) := by
    rw [← ek, Int.mul_comm l]; exact Int.mul_ediv_mul_of_pos _ _ hp
  rw [IntKind.wrap_u64, Int.add_mul, Int.add_mul, ← e, Int.mul_right_comm]
  omega
theorem norm_lt (h l y : Int) (s : Nat) (hs : s ≤ 63) (hl : U64 l) (h1 : h < y) : h * 2 ^ s + l / 2 ^ (64 - s) < y * 2 ^ s := by
  have hp : (0 : Int) < 2 ^ s := Int.pow_pos (by decide)
  have e := norm_sum h l s hs
  have e2 : (h * 18446744073709551616 + l) * 2 ^ s < (y * 18446744073709551616) * 2 ^ s := Int.mul_lt_mul_of_pos_right (by have := hl.2; omega) hp
  rw [e, Int.mul_right_comm] at e2
  have := (U64.wrap (l * 2 ^ s)).1
  omega
end Go.Proofs.YtecgbelgoomneaaGreat


/- The document's vec, each function by its contract. -/
namespace Go.Proofs.YtecgbelgoomneaaGreat
open Go.RowKit
set_option maxHeartbeats 400000
set_option maxRecDepth 100000
set_option linter.unusedVariables false
theorem rSame_any {A B : Option Addr} {c d : Nat} (xs ys : List Int) (hx : xs.length ≤ 9223372036854775807) (hy : ys.length ≤ 9223372036854775807) (w : World)
    (ra : Rd (Value.int .i64) w w.heap.size A xs) (rb : Rd (Value.int .i64) w w.heap.size B ys) :
    Calls Tryz.prog 16 #[.slice A xs.length c, .slice B ys.length d] w fun e w' => e = .returned (.bool (eqB xs ys)) ∧ Below w.heap.size w w' := by
  by_cases hl : xs.length = ys.length
  · have HA := hid ra
    have HB := hid rb
    clear ra rb
    have h1 : ((xs.length : Int) != (ys.length : Int)) = false := by simp; omega
    have h2 : (xs.length != ys.length) = false := by simp; omega
    have HL := hid hl
    clear hl
    go_enter Tryz.func16, Tryz.ntmps16
    go_wp2_with fail
    clear h1 h2
    go_loopw [13] (fun i wr => ∃ k : Nat, k ≤ xs.length ∧ i = .int .i64 k ∧ xs.take k = ys.take k ∧ Below w.heap.size w wr) (fun i _ => xs.length - (intOf i).toNat)
    case atStart => exact ⟨0, by omega, rfl, rfl, Below.refl _ _⟩
    case round =>
      obtain ⟨k, hk, rfl, ht, hb⟩ := hrel
      have HT := hid ht
      clear ht
      by_cases hlt : k < xs.length
      · have hlt2 : k < ys.length := by have := HL.out; omega
        obtain ⟨b1, o1, x, rfl, l1, ex, c1⟩ := (HA.out.below hb).at_ hlt
        obtain ⟨b2, o2, y, rfl, l2, ey, c2⟩ := (HB.out.below hb).at_ hlt2
        have EX := hid ex
        have EY := hid ey
        clear ex ey
        by_cases e : x = y
        · have e' : (x != y) = false := by simpa using e
          have E := hid e
          clear e
          go_wp2_with fail
          go_quiet (fail)
          go_wp2_with fail
          go_roundw
          case rel => exact ⟨k + 1, by omega, by go_num, take_step HT.out EX.out EY.out E.out, hb.trans (belowN _ _ _)⟩
          case measure => simp [intOf]; omega
        · have e' : (x != y) = true := by simpa using e
          go_wp2_with fail
          go_quiet (fail)
          go_wp2_with fail
          go_ret
          rw [eqB_no EX.out EY.out e]
          exact ⟨rfl, hb.trans (belowN _ _ _)⟩
      · have hke : k = xs.length := by omega
        have HK := hid hke
        clear hke
        go_wp2_with fail
        go_ret
        rw [eqB_yes HT.out HK.out HL.out]
        exact ⟨rfl, hb⟩
  · rw [eqB_len hl]
    have h1 : ((xs.length : Int) != (ys.length : Int)) = true := by simp; omega
    have h2 : (xs.length != ys.length) = true := by simp; omega
    go_enter Tryz.func16, Tryz.ntmps16
    go_wp2_with fail
    go_ret
    exact ⟨rfl, Below.refl _ _⟩
end Go.Proofs.YtecgbelgoomneaaGreat
/- The document's vec: Scale, More, Zero. -/
/- The document's vec: Size, Most, Dot, Sum, Clip. -/
/- The document's vec: Sum; the chapter's examples; how many are short enough. -/
/- Plain mathematics of vectors: when a call tells no error, and what it tells then. -/
namespace Go.Proofs.YtecgbelgoomneaaGreat
set_option maxRecDepth 100000
set_option linter.unusedVariables false
theorem seqE_zero {num : Nat → Int × Int} : ∀ {n : Nat}, seqE num n = 0 ↔ ∀ k, k < n → (num k).2 = 0
  | 0 => ⟨fun _ k hk => absurd hk (by omega), fun _ => rfl⟩
  | n + 1 => by
    show (if seqE num n = 0 then (num n).2 else seqE num n) = 0 ↔ _
    have ih := seqE_zero (num := num) (n := n)
    split
    · rename_i h
      constructor
      · intro h2 k hk
        by_cases e : k = n
        · rw [e]; exact h2
        · exact ih.1 h k (by omega)
      · intro h2; exact h2 n (by omega)
    · rename_i h
      constructor
      · intro h2; exact absurd h2 h
      · intro h2; exact absurd (ih.2 fun k hk => h2 k (by omega)) h
theorem ckE_zero {s : Int} : ckE s = 0 ↔ I64 s := by
  unfold ckE; split <;> simp_all
theorem range_getDv (xs : List Int) : (List.range xs.length).map (fun k => xs.getD k 0) = xs := by
  apply List.ext_getElem?
  intro i
  by_cases h : i < xs.length
  · simp [h, List.getD]
  · simp [h]
theorem getD_range {f : Nat → Int} {n k : Nat} (hk : k < n) : ((List.range n).map f).getD k 0 = f k := by
  simp [List.getD, hk]
theorem map_range_ext {f g : Nat → Int} {n : Nat} (h : ∀ k, k < n → f k = g k) : (List.range n).map f = (List.range n).map g := by
  apply List.map_congr_left
  intro k hk
  exact h k (by simpa using hk)
theorem op_ok {f : Int → Int → Int} {xs ys : List Int} (h : opE f xs ys = 0) :
    xs.length ≤ 4096 ∧ ys.length = xs.length ∧ (∀ k, k < xs.length → I64 (f (xs.getD k 0) (ys.getD k 0))) ∧ opV f xs ys = (List.range xs.length).map fun k => f (xs.getD k 0) (ys.getD k 0) := by
  unfold opE at h
  unfold opV
  by_cases ht : twoE xs.length ys.length = 0
  · rw [if_pos ht] at h ⊢
    obtain ⟨h1, h2⟩ := twoE_ok ht
    have hk : ∀ k, k < xs.length → I64 (f (xs.getD k 0) (ys.getD k 0)) := fun k hk => ckE_zero.1 (seqE_zero.1 h k hk)
    refine ⟨h1, h2, hk, ?_⟩
    unfold seqV
    rw [if_pos h]
    exact map_range_ext fun k hk' => ckV_in (hk k hk')
  · rw [if_neg ht] at h
    exact absurd h ht
theorem twoE_mk {n m : Nat} (h1 : n ≤ 4096) (h2 : m = n) : twoE n m = 0 := by
  unfold twoE; rw [if_neg (by omega), if_pos h2.symm]
theorem op_mk {f : Int → Int → Int} {xs ys : List Int} (h1 : xs.length ≤ 4096) (h2 : ys.length = xs.length) (hk : ∀ k, k < xs.length → I64 (f (xs.getD k 0) (ys.getD k 0))) :
    opE f xs ys = 0 ∧ opV f xs ys = (List.range xs.length).map fun k => f (xs.getD k 0) (ys.getD k 0) := by
  have h : opE f xs ys = 0 := by
    unfold opE
    rw [if_pos (twoE_mk h1 h2)]
    exact seqE_zero.2 fun k hk' => ckE_zero.2 (hk k hk')
  exact ⟨h, (op_ok h).2.2.2⟩
theorem i64_getD {xs : List Int} (h : I64s xs) {k : Nat} (hk : k < xs.length) : I64 (xs.getD k 0) := by
  have : xs.getD k 0 = xs[k] := by simp [List.getD, hk]
  rw [this]
  exact h _ (List.getElem_mem hk)
end Go.Proofs.YtecgbelgoomneaaGreat
/- Plain mathematics of vectors: sizes, the greatest, products. -/
namespace Go.Proofs.YtecgbelgoomneaaGreat
set_option maxRecDepth 100000
set_option linter.unusedVariables false
theorem le_mx {xs : List Int} {x : Int} (h : x ∈ xs) : x ≤ mx xs := by
  have key : ∀ (l : List Int) (a : Int), x ∈ l → x ≤ l.foldl max a := by
    intro l
    induction l with
    | nil => intro a h; simp at h
    | cons y l ih =>
      intro a h
      rw [List.foldl_cons]
      rcases List.mem_cons.1 h with rfl | h
      · have := mx_ge l (max a x); omega
      · exact ih _ h
  exact key xs 0 h
theorem mx_mem (xs : List Int) : mx xs = 0 ∨ mx xs ∈ xs := by
  have key : ∀ (l : List Int) (a : Int), l.foldl max a = a ∨ l.foldl max a ∈ l := by
    intro l
    induction l with
    | nil => intro a; left; rfl
    | cons y l ih =>
      intro a
      rw [List.foldl_cons]
      rcases ih (max a y) with h | h
      · rw [h]
        by_cases e : a < y
        · right; rw [Int.max_eq_right (by omega)]; simp
        · left; exact Int.max_eq_left (by omega)
      · right; exact List.mem_cons_of_mem _ h
  exact key xs 0
theorem mx_nonneg (xs : List Int) : 0 ≤ mx xs := mx_ge xs 0
theorem seqE_two {num : Nat → Int × Int} (h : ∀ k, (num k).2 = 0 ∨ (num k).2 = 2) : ∀ n, seqE num n = 0 ∨ seqE num n = 2
  | 0 => .inl rfl
  | n + 1 => by
    show (if seqE num n = 0 then (num n).2 else seqE num n) = 0 ∨ (if seqE num n = 0 then (num n).2 else seqE num n) = 2
    split
    · exact h n
    · exact seqE_two h n
theorem i64_le {x : Int} (h : I64 x) : x ≤ 9223372036854775807 := h.2
end Go.Proofs.YtecgbelgoomneaaGreat
/- Levels: how many of a scale a number is, what is left, what a level is worth; vectors pressed to levels, loosened, near. Plain mathematics. No program in sight. -/
namespace Go.Proofs.YtecgbelgoomneaaGreat
open Go.RowKit
set_option maxRecDepth 100000
set_option linter.unusedVariables false
/-- The greatest level of a width; its error. -/
def stsE (wide : Int) : Int := if wide < 1 ∨ 8 < wide then 1 else 0
def topQ (wide : Int) : Nat := 2 ^ wide.toNat - 1
def stsV (wide : Int) : Nat := if stsE wide = 0 then topQ wide else 0
theorem stsE_ok {wide : Int} : stsE wide = 0 ↔ 1 ≤ wide ∧ wide ≤ 8 := by unfold stsE; split <;> omega
theorem topQ_cases {wide : Int} (h : stsE wide = 0) : (wide = 1 ∧ topQ wide = 1) ∨ (wide = 2 ∧ topQ wide = 3) ∨ (wide = 3 ∧ topQ wide = 7) ∨ (wide = 4 ∧ topQ wide = 15) ∨ (wide = 5 ∧ topQ wide = 31) ∨ (wide = 6 ∧ topQ wide = 63) ∨ (wide = 7 ∧ topQ wide = 127) ∨ (wide = 8 ∧ topQ wide = 255) := by
  have h2 := stsE_ok.1 h
  have h3 : wide = 1 ∨ wide = 2 ∨ wide = 3 ∨ wide = 4 ∨ wide = 5 ∨ wide = 6 ∨ wide = 7 ∨ wide = 8 := by omega
  rcases h3 with rfl | rfl | rfl | rfl | rfl | rfl | rfl | rfl <;> decide
theorem topQ_bd {wide : Int} (h : stsE wide = 0) : 1 ≤ topQ wide ∧ topQ wide ≤ 255 := by
  rcases topQ_cases h with h | h | h | h | h | h | h | h <;> omega
/-- A number's level, and its rest. -/
def lvlE (n scale wide : Int) : Int := if stsE wide ≠ 0 ∨ scale < 0 ∨ scale < (szN n : Int) then 1 else 0
def lvQ (s z t : Nat) : Nat := z * t / s
def rsQ (s z t : Nat) : Nat := z * t % s
def lvlL (n scale wide : Int) : Nat := if lvlE n scale wide = 0 then lvQ scale.toNat (szN n) (topQ wide) else 0
def lvlR (n scale wide : Int) : Nat := if lvlE n scale wide = 0 then rsQ scale.toNat (szN n) (topQ wide) else 0
theorem lvlE_ok {n scale wide : Int} : lvlE n scale wide = 0 ↔ stsE wide = 0 ∧ 0 ≤ scale ∧ (szN n : Int) ≤ scale := by
  unfold lvlE
  by_cases h : stsE wide ≠ 0 ∨ scale < 0 ∨ scale < (szN n : Int)
  · rw [if_pos h]
    omega
  · rw [if_neg h]
    omega
theorem lvQ_none (t : Nat) : lvQ 0 0 t = 0 ∧ rsQ 0 0 t = 0 := by unfold lvQ rsQ; simp
theorem lvQ_le {s z : Nat} (hz : z ≤ s) (t : Nat) : lvQ s z t ≤ t := by
  unfold lvQ
  rcases Nat.eq_zero_or_pos s with h | h
  · subst h; simp
  · exact Nat.div_le_of_le_mul (Nat.mul_le_mul_right t hz)
theorem rsQ_lt {s z t : Nat} (h : 0 < s) : rsQ s z t < s := Nat.mod_lt _ h
/-- A level's number. -/
def valE (level : Nat) (scale wide : Int) : Int := if stsE wide ≠ 0 ∨ scale < 0 ∨ topQ wide < level then 1 else 0
def vlQ (l s t : Nat) : Nat := l * s / t
def valV (level : Nat) (scale wide : Int) : Nat := if valE level scale wide = 0 then vlQ level scale.toNat (topQ wide) else 0
theorem valE_ok {level : Nat} {scale wide : Int} : valE level scale wide = 0 ↔ stsE wide = 0 ∧ 0 ≤ scale ∧ level ≤ topQ wide := by
  unfold valE
  by_cases h : stsE wide ≠ 0 ∨ scale < 0 ∨ topQ wide < level
  · rw [if_pos h]
    omega
  · rw [if_neg h]
    omega
theorem vlQ_le {l s t : Nat} (hl : l ≤ t) : vlQ l s t ≤ s := by
  unfold vlQ
  exact Nat.div_le_of_le_mul (Nat.mul_le_mul_right s hl)
/-- One number pressed: its level, one more by chance. -/
def plQ (scale wide : Int) (seed : Nat) (n : List Int) (i : Nat) (x : Int) : Nat :=
  if 0 < lvlR x scale wide ∧ belV scale.toNat seed (n ++ [(i : Int)]) < lvlR x scale wide then lvlL x scale wide + 1 else lvlL x scale wide
def prqE (v : List Int) (wide : Int) : Int := if stsE wide ≠ 0 ∨ v = [] then 1 else mostE v
def levQ (v : List Int) (wide : Int) (seed : Nat) (n : List Int) (m : Nat) : List Int := (List.range m).map fun i => (plQ (mostV v) wide seed n i (v.getD i 0) : Int)
def negQ (v : List Int) (m : Nat) : List Bool := (List.range m).map fun i => decide (v.getD i 0 < 0)
def prqS (v : List Int) (wide : Int) (seed : Nat) (n : List Int) : SentV := if prqE v wide = 0 then ⟨2, v.length, [], [], mostV v, wide, levQ v wide seed n v.length, negQ v v.length⟩ else zeroS
theorem levQ_len (v : List Int) (wide : Int) (seed : Nat) (n : List Int) (m : Nat) : (levQ v wide seed n m).length = m := by unfold levQ; simp
theorem negQ_len (v : List Int) (m : Nat) : (negQ v m).length = m := by unfold negQ; simp
theorem levQ_at (v : List Int) (wide : Int) (seed : Nat) (n : List Int) {m i : Nat} (h : i < m) : (levQ v wide seed n m)[i]? = some (plQ (mostV v) wide seed n i (v.getD i 0) : Int) := by unfold levQ; simp [h]
theorem negQ_at (v : List Int) {m i : Nat} (h : i < m) : (negQ v m)[i]? = some (decide (v.getD i 0 < 0)) := by unfold negQ; simp [h]
/-- Loosened. -/
def loqE (s : SentV) : Int := if mayB s = true ∧ s.sch = 2 then 0 else 1
def loQ (s : SentV) (i : Nat) : Int := if s.neg.getD i false = true then -(valV (s.lev.getD i 0).toNat s.scale s.wide : Int) else (valV (s.lev.getD i 0).toNat s.scale s.wide : Int)
def loqL (s : SentV) (m : Nat) : List Int := (List.range m).map (loQ s)
def loqV (s : SentV) : List Int := if loqE s = 0 then loqL s s.lev.length else []
theorem loqL_len (s : SentV) (m : Nat) : (loqL s m).length = m := by unfold loqL; simp
/-- Near. -/
def nrOne (x scale wide : Int) (lev : Int) (neg : Bool) : Bool := (neg == decide (x < 0)) && ((lev == (lvlL x scale wide : Int)) || ((lvlR x scale wide != 0) && (lev == (lvlL x scale wide : Int) + 1)))
def nrAll (v : List Int) (s : SentV) (m : Nat) : Bool := (List.range m).all fun i => nrOne (v.getD i 0) (mostV v) s.wide (s.lev.getD i 0) (s.neg.getD i false)
def nrHead (v : List Int) (s : SentV) : Bool := decide (mostE v = 0 ∧ mayB s = true ∧ s.sch = 2 ∧ s.dim = v.length ∧ s.scale = mostV v)
def nearB (v : List Int) (s : SentV) : Bool := nrHead v s && nrAll v s v.length
end Go.Proofs.YtecgbelgoomneaaGreat
/- The greatest level, a number's level, a level's number: by the document. -/
/- Draws: blended, finished, below a number, chances: by the program and by the document. -/
namespace Go.Proofs.YtecgbelgoomneaaGreat
open Go.RowKit
set_option maxHeartbeats 400000
set_option maxRecDepth 100000
set_option linter.unusedVariables false
theorem xor_dr {a b : Nat} (ha : a < 2 ^ 64) (hb : b < 2 ^ 64) : bits BinOp.xor IntKind.u64 (a : Int) (b : Int) = ((a ^^^ b : Nat) : Int) := by
  show IntKind.u64.wrap ((BitVec.ofInt 64 a ^^^ BitVec.ofInt 64 b).toNat : Int) = _
  rw [BitVec.toNat_xor, BitVec.ofInt_natCast, BitVec.ofInt_natCast, BitVec.toNat_ofNat, BitVec.toNat_ofNat, Nat.mod_eq_of_lt ha, Nat.mod_eq_of_lt hb]
  have := Nat.xor_lt_two_pow ha hb
  rw [IntKind.wrap_u64]
  omega
theorem mul_dr (x m : Nat) : IntKind.u64.wrap ((x : Int) * (m : Int)) = ((mulK x m : Nat) : Int) := by
  rw [IntKind.wrap_u64]
  unfold mulK
  omega
theorem mul_dr1 (x : Nat) : IntKind.u64.wrap ((x : Int) * 11400714819323198485) = ((mulK x 11400714819323198485 : Nat) : Int) := mul_dr x 11400714819323198485
theorem mul_dr2 (x : Nat) : IntKind.u64.wrap ((x : Int) * 13787848793156543929) = ((mulK x 13787848793156543929 : Nat) : Int) := mul_dr x 13787848793156543929
theorem tsf_dr29 {y : Nat} (hy : y < 2 ^ 64) : bits BinOp.xor IntKind.u64 (y : Int) ((y : Int) / 536870912) = ((tsf 29 y : Nat) : Int) := by
  rw [show (y : Int) / 536870912 = ((y / 2 ^ 29 : Nat) : Int) by omega, xor_dr hy (Nat.lt_of_le_of_lt (Nat.div_le_self _ _) hy)]
  rfl
theorem tsf_dr32 {y : Nat} (hy : y < 2 ^ 64) : bits BinOp.xor IntKind.u64 (y : Int) ((y : Int) / 4294967296) = ((tsf 32 y : Nat) : Int) := by
  rw [show (y : Int) / 4294967296 = ((y / 2 ^ 32 : Nat) : Int) by omega, xor_dr hy (Nat.lt_of_le_of_lt (Nat.div_le_self _ _) hy)]
  rfl
theorem uN_dr {k : Int} : IntKind.u64.wrap k = ((uN k : Nat) : Int) := by
  rw [IntKind.wrap_u64, uN_int]
theorem dr_finish (x : Nat) (hx : x < 2 ^ 64) (w : World) :
    Calls Tryz.prog 257 #[.int .u64 (x : Int)] w fun e w' => e = .returned (.int .u64 ((finN x : Nat) : Int)) ∧ w = w' := by
  have e1 := mul_dr2 x
  have hy := mulK_lt x 13787848793156543929
  obtain ⟨R, hR⟩ : ∃ R, finN x = R := ⟨_, rfl⟩
  unfold finN at hR
  rw [show finN x = R from hR]
  obtain ⟨y, hy'⟩ : ∃ y, mulK x 13787848793156543929 = y := ⟨_, rfl⟩
  rw [hy'] at e1 hy hR
  have e2 := tsf_dr32 hy
  rw [hR] at e2
  clear hy' hR
  go_enter Tryz.func257, Tryz.ntmps257
  go_wp2_with fail
  go_ret
  exact ⟨rfl, rfl⟩
theorem dr_blend {A : Option Addr} {c : Nat} (s : Nat) (hs : s < 2 ^ 64) (n : List Int) (hn : n.length ≤ 9223372036854775807) (un : ∀ x ∈ n, I64 x) (w : World) {B : Nat} (ra : Rd (Value.int .i64) w B A n) :
    Calls Tryz.prog 258 #[.int .u64 (s : Int), .slice A n.length c] w fun e w' => e = .returned (.int .u64 ((blN s n : Nat) : Int)) ∧ w = w' := by
  obtain ⟨R, hR⟩ : ∃ R, blN s n = R := ⟨_, rfl⟩
  rw [hR]
  have HR := hid hR
  have HA := hid ra
  have UN := hid un
  clear ra un hR
  go_enter Tryz.func258, Tryz.ntmps258
  go_wp2_with fail
  go_loop [5, 7, 11] (fun s' k0 i => ∃ (k x : Nat), k ≤ n.length ∧ x < 2 ^ 64 ∧ i = .int .i64 k ∧ s' = .int .u64 x ∧ blN s (n.take k) = x) (fun _ _ i => n.length - (intOf i).toNat)
  case atStart => exact ⟨0, s, by omega, hs, rfl, rfl, by rw [List.take_zero]; exact blN_nil s⟩
  case round =>
    obtain ⟨k, x, hk, hx, rfl, rfl, hs'⟩ := hrel
    have HS := hid hs'
    clear hs'
    by_cases hlt : k < n.length
    · obtain ⟨b1, o1, v, rfl, l1, ev, c1⟩ := HA.out.at_ hlt
      have HN := hid (blN_step s ev)
      rw [HS.out] at HN
      have e0 := uN_dr (k := v)
      have hu := uN_lt v
      have hst := stp_lt x v
      obtain ⟨u, hu'⟩ : ∃ u, uN v = u := ⟨_, rfl⟩
      obtain ⟨Z, hZ⟩ : ∃ Z, stp x v = Z := ⟨_, rfl⟩
      rw [hZ] at HN hst
      unfold stp at hZ
      rw [hu'] at e0 hu hZ
      have e1 := xor_dr hx hu
      obtain ⟨y, hy'⟩ : ∃ y, x ^^^ u = y := ⟨_, rfl⟩
      rw [hy'] at e1 hZ
      have e2 := mul_dr1 y
      have hz := mulK_lt y 11400714819323198485
      obtain ⟨z, hz'⟩ : ∃ z, mulK y 11400714819323198485 = z := ⟨_, rfl⟩
      rw [hz'] at e2 hz hZ
      have e3 := tsf_dr29 hz
      rw [hZ] at e3
      clear hu' hy' hz' hZ ev
      go_wp2_with fail
      go_round
      case rel => exact ⟨k + 1, Z, by omega, hst, by go_num, rfl, HN.out⟩
      case measure => simp [intOf]; omega
    · have h := HS.out
      rw [List.take_of_length_le (by omega), HR.out] at h
      subst h
      go_wp2_with fail
      go_ret
      exact ⟨rfl, rfl⟩
theorem dr_At {A : Option Addr} {c : Nat} (s : Nat) (hs : s < 2 ^ 64) (n : List Int) (hn : n.length ≤ 9223372036854775807) (un : ∀ x ∈ n, I64 x) (w : World) {B : Nat} (ra : Rd (Value.int .i64) w B A n) :
    Calls Tryz.prog 247 #[.int .u64 (s : Int), .slice A n.length c] w fun e w' => e = .returned (.int .u64 ((atN s n : Nat) : Int)) ∧ w = w' := by
  have C1 := hid (dr_blend (c := c) s hs n hn un w ra)
  have C2 := hid (dr_finish (blN s n) (blN_lt n hs) w)
  rw [show finN (blN s n) = atN s n from rfl] at C2
  clear ra un
  go_enter Tryz.func247, Tryz.ntmps247
  go_wp2_with fail
  refine C1.out.mono ?_
  rintro _ _ ⟨rfl, rfl⟩
  go_wp2_with fail
  refine C2.out.mono ?_
  rintro _ _ ⟨rfl, rfl⟩
  go_wp2_with fail
  go_ret
  exact ⟨rfl, rfl⟩
theorem dr_Below {A : Option Addr} {c : Nat} (most s : Nat) (hm : most < 2 ^ 64) (hs : s < 2 ^ 64) (n : List Int) (hn : n.length ≤ 9223372036854775807) (un : ∀ x ∈ n, I64 x) (w : World) {B : Nat} (ra : Rd (Value.int .i64) w B A n) :
    Calls Tryz.prog 230 #[.int .u64 (most : Int), .int .u64 (s : Int), .slice A n.length c] w fun e w' => e = .returned (.tuple #[.int .u64 ((belV most s n : Nat) : Int), .int .i64 (belE most)]) ∧ w = w' := by
  have C1 := hid (dr_At (c := c) s hs n hn un w ra)
  clear ra un
  by_cases h : most = 0
  · have h1 : ((most : Int) == 0) = true := by simpa using h
    have hv : belV most s n = 0 := if_pos h
    have he : belE most = 1 := if_pos h
    rw [hv, he]
    clear h hv he C1
    go_enter Tryz.func230, Tryz.ntmps230
    go_wp2_with fail
    go_ret2
    exact ⟨rfl, rfl⟩
  · have h1 : ((most : Int) == 0) = false := by simpa using h
    have hv : belV most s n = atN s n % most := if_neg h
    have he : belE most = 0 := if_neg h
    have hp : 0 < most := by omega
    rw [hv, he]
    have ha := atN_lt s n
    obtain ⟨a, ha'⟩ : ∃ a, atN s n = a := ⟨_, rfl⟩
    rw [ha'] at C1 ha ⊢
    clear h hv he ha'
    go_enter Tryz.func230, Tryz.ntmps230
    go_wp2_with fail
    refine C1.out.mono ?_
    rintro _ _ ⟨rfl, rfl⟩
    go_wp2_with fail
    go_ret2
    exact ⟨rfl, rfl⟩
/-- A part of a whole. -/
theorem cha_no {part whole s : Nat} {n : List Int} (h : whole = 0 ∨ whole < part) : chaB part whole s n = false ∧ chaE part whole = 1 := ⟨if_pos h, if_pos h⟩
theorem cha_yes {part whole s : Nat} {n : List Int} (h : ¬ (whole = 0 ∨ whole < part)) : chaB part whole s n = decide (belV whole s n < part) ∧ chaE part whole = 0 ∧ belE whole = 0 := by
  have h0 : ¬ whole = 0 := fun e => h (.inl e)
  refine ⟨?_, if_neg h, if_neg h0⟩
  unfold chaB belV
  rw [if_neg h, if_neg h0]
theorem dr_Chance {A : Option Addr} {c : Nat} (part whole s : Nat) (hp : part < 2 ^ 64) (hw : whole < 2 ^ 64) (hs : s < 2 ^ 64) (n : List Int) (hn : n.length ≤ 9223372036854775807) (un : ∀ x ∈ n, I64 x) (w : World) {B : Nat} (ra : Rd (Value.int .i64) w B A n) :
    Calls Tryz.prog 205 #[.int .u64 (part : Int), .int .u64 (whole : Int), .int .u64 (s : Int), .slice A n.length c] w fun e w' => e = .returned (.tuple #[.bool (chaB part whole s n), .int .i64 (chaE part whole)]) ∧ w = w' := by
  have C1 := hid (dr_Below (c := c) whole s hw hs n hn un w ra)
  clear ra un
  by_cases h1 : whole < part
  · obtain ⟨hv, he⟩ := cha_no (s := s) (n := n) (.inr h1 : whole = 0 ∨ whole < part)
    rw [hv, he]
    clear hv he C1
    go_enter Tryz.func205, Tryz.ntmps205
    go_wp2_with fail
    go_ret2
    exact ⟨rfl, rfl⟩
  · by_cases h0 : whole = 0
    · obtain ⟨hv, he⟩ := cha_no (s := s) (n := n) (.inl h0 : whole = 0 ∨ whole < part)
      rw [hv, he]
      rw [show belE whole = 1 from if_pos h0] at C1
      clear hv he h0
      go_enter Tryz.func205, Tryz.ntmps205
      go_wp2_with fail
      refine C1.out.mono ?_
      rintro _ _ ⟨rfl, rfl⟩
      go_wp2_with fail
      go_ret2
      exact ⟨rfl, rfl⟩
    · obtain ⟨hv, he, hb⟩ := cha_yes (s := s) (n := n) (fun h => h.elim h0 h1 : ¬ (whole = 0 ∨ whole < part))
      rw [hv, he]
      rw [hb] at C1
      obtain ⟨x, hx⟩ : ∃ x, belV whole s n = x := ⟨_, rfl⟩
      rw [hx] at C1 ⊢
      clear hv he hb h0 hx
      go_enter Tryz.func205, Tryz.ntmps205
      go_wp2_with fail
      refine C1.out.mono ?_
      rintro _ _ ⟨rfl, rfl⟩
      go_wp2_with fail
      go_ret2
      exact ⟨by simp, rfl⟩
end Go.Proofs.YtecgbelgoomneaaGreat
/- Stores into a block of the call's own, seen from other blocks. -/
/- Two lists of the call's own that grow by turns: an append that tells where its list lies then. -/
namespace Go.Proofs.YtecgbelgoomneaaGreat
open Go.RowKit
set_option maxRecDepth 100000
set_option linter.unusedVariables false
/-- Where a list lies behind an append: where it lay, or in a block that is new. -/
def went (A' A : Option Addr) (n : Nat) : Prop := A'.map (·.block) = A.map (·.block) ∨ A'.map (·.block) = some n
section
variable {α : Type} {P : Program}
end
/-- Two lists that lie apart. -/
def apt (A B : Option Addr) : Prop := ∀ g, A.map (·.block) = some g → B.map (·.block) ≠ some g
theorem apt_none (B : Option Addr) : apt none B := fun g h => by cases h
theorem apt.symm {A B : Option Addr} (h : apt A B) : apt B A := fun g h1 h2 => h g h2 h1
theorem apt.app {A A' B : Option Addr} (h : apt A B) {m : Nat} (h5 : went A' A m) (hB : ∀ g, B.map (·.block) = some g → g < m) : apt A' B := fun g h1 h2 => by
  rcases h5 with e | e
  · exact h g (by rw [← e, h1]) h2
  · rw [e] at h1
    injection h1 with h1
    have := hB g h2
    omega
end Go.Proofs.YtecgbelgoomneaaGreat
/- Levels and what they are worth, in whole numbers alone: how far off one is, what is sure, what is gone there and back. Plain mathematics. No program in sight. -/
namespace Go.Proofs.YtecgbelgoomneaaGreat
set_option maxRecDepth 100000
set_option linter.unusedVariables false
/-- Where something is left the level above is one, too. -/
theorem qk_room {z s t : Nat} (hz : z ≤ s) (hs : 0 < s) (hr : z * t % s ≠ 0) : z * t / s + 1 ≤ t := by
  have h1 := Nat.div_add_mod (z * t) s
  have h3 : z * t ≤ s * t := Nat.mul_le_mul_right t hz
  rcases Nat.lt_or_ge (z * t / s) t with h | h
  · exact h
  · exfalso
    have h4 : s * t ≤ s * (z * t / s) := Nat.mul_le_mul_left s h
    omega
end Go.Proofs.YtecgbelgoomneaaGreat
/- Orders, who is picked, who is left, the least size, scaled and turned: what the laws ask. Plain mathematics. No program in sight. -/
namespace Go.Proofs.YtecgbelgoomneaaGreat
open Go.RowKit
set_option maxRecDepth 100000
set_option linter.unusedVariables false
theorem pik_at {v : List Int} {k : Int} (h : pikE v k = 0) {n : Int} (hn : n ∈ pikV v k) : ∃ m : Nat, n = m ∧ m < v.length ∧ m ∈ pkF v k.toNat := by
  unfold pikV at hn
  rw [if_pos h] at hn
  obtain ⟨i, e, hi, hr⟩ := pkI_mem.1 hn
  exact ⟨i, e, hi, pkF_mem.2 ⟨hi, hr⟩⟩
theorem pik_ris (v : List Int) (k : Int) : risP (pikV v k) := by
  unfold pikV
  split
  · exact pkI_ris _ _
  · exact ris_nil
theorem pik_plc {v : List Int} {k : Int} (h : pikE v k = 0) (h0 : v ≠ []) : chkE v.length (pikV v k) = 0 := by
  refine chk_ok.2 ⟨?_, ?_, pik_ris v k, fun n hn => ?_⟩
  · have : v.length ≠ 0 := fun e => h0 (List.length_eq_zero_iff.1 e)
    omega
  · have := (pikE_ok.1 h).1
    omega
  · obtain ⟨m, rfl, hm, _⟩ := pik_at h hn
    omega
theorem getD_i64 {v : List Int} (uv : ∀ x ∈ v, I64 x) (i : Nat) : I64 (v.getD i 0) := by
  rw [List.getD_eq_getElem?_getD]
  cases h : v[i]? with
  | none => show I64 0; decide
  | some x => exact uv x (List.mem_of_getElem? h)
end Go.Proofs.YtecgbelgoomneaaGreat
/- What was picked, spread, and picked again; what is so many times greater. Plain mathematics. No program in sight. -/
namespace Go.Proofs.YtecgbelgoomneaaGreat
open Go.RowKit
set_option maxRecDepth 100000
set_option linter.unusedVariables false
theorem prs_ok {v : List Int} {k : Int} (h0 : v ≠ []) (h : pikE v k = 0) : prsE v k = 0 ∧ prsS v k = ⟨1, v.length, pikV v k, atL v (pikV v k), 0, 0, [], []⟩ := by
  have e : prsE v k = 0 := by unfold prsE; rw [if_neg h0, h]
  exact ⟨e, if_pos e⟩
theorem atL_len (v l : List Int) : (atL v l).length = l.length := by unfold atL; rw [List.length_map]
theorem getD_some {v : List Int} {n : Nat} {x : Int} (h : v[n]? = some x) : v.getD n 0 = x := by rw [List.getD_eq_getElem?_getD, h, Option.getD_some]
end Go.Proofs.YtecgbelgoomneaaGreat
/- What follows of frames' texts: read back, written again, apart, how long. No program in sight. -/
namespace Go.Proofs.YtecgbelgoomneaaGreat
set_option maxRecDepth 100000
set_option linter.unusedVariables false
theorem sealed_own {b : List Int} (ub : U8s b) : sealedB (b ++ le4 (sumN b)) = true := by
  have hl : (b ++ le4 (sumN b)).length = b.length + 4 := by rw [List.length_append, le4_len]
  rw [sealed_iff (ub.app (le4_bytes _)) (by omega), off_iff ub (sumN_lt b)]
theorem open_seal {b : List Int} (ub : U8s b) (hb : b.length ≤ 65532) : openV (sealV b) = b ∧ openE (sealV b) = 0 := by
  have e : sealV b = b ++ le4 (sumN b) := if_neg (by omega)
  rw [e]
  have hl : (b ++ le4 (sumN b)).length = b.length + 4 := by rw [List.length_append, le4_len]
  have hs := sealed_own ub
  unfold openV openE
  rw [hs, hl, if_neg (by simp only [Bool.true_eq_false, or_false]; omega), if_neg (by omega), if_neg (by omega), if_neg (by decide)]
  refine ⟨?_, rfl⟩
  rw [show b.length + 4 - 4 = b.length by omega, List.take_left]
theorem openV_u8 {l : List Int} (hl : U8s l) : U8s (openV l) := by
  unfold openV
  split
  · intro x hx; simp at hx
  · exact hl.take _
theorem sealV_u8 {l : List Int} (hl : U8s l) : U8s (sealV l) := by
  unfold sealV
  split
  · intro x hx; simp at hx
  · exact hl.app (le4_bytes _)
theorem sgnd_u8 {l : List Int} (h : ∀ x ∈ l, I64 x) : U8s (sgnd l) := encs_u8 (zigs_u64 h)
theorem sgnd_len {l : List Int} (h : ∀ x ∈ l, I64 x) : (sgnd l).length ≤ 10 * l.length := by
  have := encs_len (zigs_u64 h)
  rwa [List.length_map] at this
theorem U8s.cons {x : Int} {l : List Int} (h0 : 0 ≤ x) (h1 : x ≤ 255) (h : U8s l) : U8s (x :: l) := fun y hy => by
  rcases List.mem_cons.1 hy with rfl | hy
  · exact ⟨h0, h1⟩
  · exact h y hy
theorem body_u8 {s : SentV} (hm : mayP s) (hw : wfS s) : U8s (bodyL s) := by
  obtain ⟨sch, dim, L, V, scale, wide, lev, neg⟩ := s
  obtain ⟨hd1, hd4, hc⟩ := hm
  obtain ⟨w1, w2, w3, w4, w5, w6, w7⟩ := hw
  simp only at hd1 hd4 hc w1 w2 w3 w4 w5 w6 w7
  have ud := lebI_u8 dim (by omega)
  unfold bodyL tailL
  simp only
  rcases hc with ⟨rfl, rfl, h2, rfl, rfl, rfl, rfl⟩ | ⟨rfl, h1, h2, rfl, rfl, rfl, rfl⟩ | ⟨rfl, h1, h2, h3, h4, rfl, rfl, h7, h8⟩ | ⟨rfl, rfl, rfl, rfl, rfl, h5, h6⟩
  · exact .cons (by decide) (by decide) (ud.app (sgnd_u8 w4))
  · exact .cons (by decide) (by decide) (ud.app ((pixV_u8 _ _).app (sgnd_u8 w4)))
  · exact .cons (by decide) (by decide) (ud.app ((lebI_u8 scale h7).app ((U8s.cons (by omega) (by omega) (wevV_bytes _ _)).app (sgnV_bytes _))))
  · exact .cons (by decide) (by decide) (ud.app ((lebI_u8 scale h5).app (sgnV_bytes _)))
theorem body_len {s : SentV} {n : Nat} (hm : mayP s) (hw : wfS s) (hV : s.V.length ≤ n) : (bodyL s).length ≤ 45200 + 10 * n := by
  obtain ⟨sch, dim, L, V, scale, wide, lev, neg⟩ := s
  obtain ⟨hd1, hd4, hc⟩ := hm
  obtain ⟨w1, w2, w3, w4, w5, w6, w7⟩ := hw
  simp only at hd1 hd4 hc w1 w2 w3 w4 w5 w6 w7 hV
  have ld := lebI_ten (n := dim) (by unfold U64; omega)
  have lv := sgnd_len w4
  have lp := pixV_len dim L
  unfold bodyL tailL
  simp only [List.length_cons, List.length_append]
  rcases hc with ⟨rfl, rfl, h2, rfl, rfl, rfl, rfl⟩ | ⟨rfl, h1, h2, rfl, rfl, rfl, rfl⟩ | ⟨rfl, h1, h2, h3, h4, rfl, rfl, h7, h8⟩ | ⟨rfl, rfl, rfl, rfl, rfl, h5, h6⟩
  · rw [if_pos rfl]; omega
  · rw [if_neg (by decide), if_pos rfl, List.length_append]; omega
  · rw [if_neg (by decide), if_neg (by decide), if_pos rfl]
    have ls := lebI_ten (n := scale) (by unfold I64 at w5; unfold U64; omega)
    have hn := sgnV_len (l := neg) (by omega)
    have hb : bysE wide lev.length = 0 := by unfold bysE; rw [if_neg (by omega), if_neg (by omega)]
    have hm : mayE wide lev = 0 := by unfold mayE; rw [if_pos hb, if_pos h4]
    have hwl := ((may_same wide lev).2 hm).2
    have h9 : wide.toNat * lev.length ≤ 8 * 4096 := Nat.mul_le_mul (by omega) (by omega)
    simp only [List.length_cons, List.length_append]
    omega
  · rw [if_neg (by decide), if_neg (by decide), if_neg (by decide)]
    have ls := lebI_ten (n := scale) (by unfold I64 at w5; unfold U64; omega)
    have hn := sgnV_len (l := neg) (by omega)
    simp only [List.length_append, List.length_nil]
    omega
theorem text_u8 {f : FrameV} (hc : chkF f = 0) (hw : wfF f) : U8s (textL f) := by
  obtain ⟨h1, h2, h3, h4, h5⟩ := chkF_ok.1 hc
  have hk : f.knd = 1 ∨ f.knd = 2 := by rcases h5 with h | h; exact Or.inl h.1; exact Or.inr h.1
  unfold textL
  refine .cons (by decide) (by decide) (.cons (by omega) (by omega) ((lebI_u8 _ h1).app ((lebI_u8 _ h3).app ?_)))
  rcases h5 with ⟨e, hm⟩ | ⟨e, hz⟩
  · rw [if_pos e]; exact body_u8 (mayB_iff.1 hm) hw.2.2.2
  · rw [if_neg (by omega)]; intro x hx; simp at hx
theorem text_len {f : FrameV} {n : Nat} (hc : chkF f = 0) (hw : wfF f) (hV : f.S.V.length ≤ n) : (textL f).length ≤ 45300 + 10 * n := by
  obtain ⟨h1, h2, h3, h4, h5⟩ := chkF_ok.1 hc
  have lf := lebI_ten (n := f.frm) (by unfold U64; omega)
  have ls := lebI_ten (n := f.stp) (by unfold U64; omega)
  unfold textL
  simp only [List.length_cons, List.length_append]
  rcases h5 with ⟨e, hm⟩ | ⟨e, hz⟩
  · rw [if_pos e]
    have := body_len (mayB_iff.1 hm) hw.2.2.2 hV
    omega
  · rw [if_neg (by omega)]
    simp only [List.length_nil]
    omega
/-- Written, and read. -/
theorem wrt_ok {f : FrameV} (hw : wfF f) (hV : f.S.V.length ≤ 1000) : (wrtE f = 0 ↔ chkF f = 0) ∧ (wrtE f = 0 ∨ wrtE f = 1) := by
  unfold wrtE
  by_cases hc : chkF f = 0
  · have := text_len hc hw hV
    have hs : sealE (textL f) = 0 := if_neg (by omega)
    rw [if_pos hc, hs]
    simp [hc]
  · rw [if_neg hc]
    simp [hc]
theorem rd_wrt {f : FrameV} (hw : wfF f) (hV : f.S.V.length ≤ 1000) (h : wrtE f = 0) : rdR (wrtV f) = (f, 0) ∧ U8s (wrtV f) ∧ (wrtV f).length = (textL f).length + 4 ∧ off (wrtV f) = 0 := by
  have hc := (wrt_ok hw hV).1.1 h
  have hl := text_len hc hw hV
  have hu := text_u8 hc hw
  have e : wrtV f = sealV (textL f) := if_pos hc
  have e2 : sealV (textL f) = textL f ++ le4 (sumN (textL f)) := if_neg (by omega)
  obtain ⟨h1, h2⟩ := open_seal hu (by omega)
  refine ⟨?_, by rw [e]; exact sealV_u8 hu, by rw [e, e2, List.length_append, le4_len], ?_⟩
  · unfold rdR
    rw [e, h2, if_neg (by decide), h1]
    exact read1_put hc hw
  · rw [e, e2]
    exact (off_iff hu (sumN_lt _)).2 rfl
theorem apart {f g : FrameV} (hf : wfF f) (hg : wfF g) (lf : f.S.V.length ≤ 1000) (lg : g.S.V.length ≤ 1000) (h1 : wrtE f = 0) (h2 : wrtE g = 0) : eqB (wrtV f) (wrtV g) = sameF f g := by
  have a := (rd_wrt hf lf h1).1
  have b := (rd_wrt hg lg h2).1
  by_cases e : f = g
  · subst e
    rw [eqB_self, sameF_self]
  · have hs : sameF f g = false := by
      cases h : sameF f g with
      | false => rfl
      | true => exact absurd (sameF_iff.1 h) e
    rw [hs]
    unfold eqB
    rw [decide_eq_false_iff_not]
    intro he
    rw [he, b] at a
    simp only [Prod.mk.injEq, and_true] at a
    exact e a.symm
/-- How long its lists are, if it may be; what is read. -/
theorem may_len {s : SentV} (h : mayP s) : s.L.length ≤ 4096 ∧ s.V.length ≤ 4096 ∧ s.lev.length ≤ 4096 ∧ s.neg.length ≤ 4096 := by
  obtain ⟨sch, dim, L, V, scale, wide, lev, neg⟩ := s
  obtain ⟨hd1, hd4, hc⟩ := h
  simp only at hd1 hd4 hc ⊢
  rcases hc with ⟨_, rfl, h2, _, rfl, _, rfl⟩ | ⟨_, h1, h2, _, rfl, _, rfl⟩ | ⟨_, _, _, h3, _, rfl, rfl, _, h8⟩ | ⟨_, rfl, rfl, _, rfl, _, h6⟩
  · simp; omega
  · have := plc_le (chk_ok.1 h1)
    simp; omega
  · simp; omega
  · simp; omega
theorem chk_len {f : FrameV} (h : chkF f = 0) : f.S.L.length ≤ 4096 ∧ f.S.V.length ≤ 4096 ∧ f.S.lev.length ≤ 4096 ∧ f.S.neg.length ≤ 4096 := by
  obtain ⟨_, _, _, _, h5⟩ := chkF_ok.1 h
  rcases h5 with ⟨_, hm⟩ | ⟨_, hz⟩
  · exact may_len (mayB_iff.1 hm)
  · rw [sameS_iff.1 hz]; simp [zeroS]
end Go.Proofs.YtecgbelgoomneaaGreat
/- What is pressed goes as a frame. Plain mathematics. No program in sight. -/
namespace Go.Proofs.YtecgbelgoomneaaGreat
open Go.RowKit
set_option maxRecDepth 100000
set_option linter.unusedVariables false
theorem prs_may {v : List Int} {k : Int} (uv : ∀ x ∈ v, I64 x) (h0 : v ≠ []) (h : pikE v k = 0) :
    mayB (prsS v k) = true ∧ wfS (prsS v k) ∧ gatE (prsS v k).L v = 0 ∧ gatV (prsS v k).L v = (prsS v k).V ∧ (prsS v k).dim = v.length ∧ (prsS v k).V.length = (prsS v k).L.length := by
  obtain ⟨_, e⟩ := prs_ok h0 h
  have hk := pikE_ok.1 h
  have hl := pikV_len h
  have hc := pik_plc h h0
  have hp := chk_ok.1 hc
  have h1 : 1 ≤ v.length := by
    have : v.length ≠ 0 := fun e => h0 (List.length_eq_zero_iff.1 e)
    omega
  have hg : gatE (pikV v k) v = 0 := gat_ok.2 ⟨pik_ris v k, hp.2.2.2⟩
  rw [e]
  refine ⟨mayB_iff.2 ⟨by show (1 : Int) ≤ v.length; omega, by show (v.length : Int) ≤ 4096; omega, .inr (.inl ⟨rfl, hc, ?_, rfl, rfl, rfl, rfl⟩)⟩, ⟨by show I64 1; decide, by show I64 (v.length : Int); unfold I64; omega, ?_, ?_, by show I64 0; decide, by show I64 0; decide, by intro x hx; cases hx⟩, hg, ?_, rfl, ?_⟩
  · show (atL v (pikV v k)).length = (pikV v k).length
    exact atL_len _ _
  · intro x hx
    have := hp.2.2.2 x hx
    unfold I64; omega
  · intro x hx
    have hx' : x ∈ atL v (pikV v k) := hx
    unfold atL at hx'
    obtain ⟨n, _, rfl⟩ := List.mem_map.1 hx'
    exact getD_i64 uv n.toNat
  · unfold gatV
    rw [if_pos hg]
    rfl
  · show (atL v (pikV v k)).length = (pikV v k).length
    exact atL_len _ _
end Go.Proofs.YtecgbelgoomneaaGreat
/- A map of four functions that a call makes, and looks into. -/
namespace Go.Proofs.YtecgbelgoomneaaGreat
open Go.RowKit Go.Maps
set_option maxHeartbeats 1000000
set_option maxRecDepth 100000
set_option linter.unusedVariables false
open Classical in
/-- How a function reads: by its number among four. -/
noncomputable def fnR (F0 F1 F2 F3 : Value) (v : Value) : Option (DataW Unit × List MemPlace) :=
  if v = F0 then some (.lit (.int .i64 0), []) else if v = F1 then some (.lit (.int .i64 1), []) else if v = F2 then some (.lit (.int .i64 2), []) else if v = F3 then some (.lit (.int .i64 3), []) else some (.lit (.int .i64 9), [])
theorem fnR_some (F0 F1 F2 F3 v : Value) : ∃ d ps, fnR F0 F1 F2 F3 v = some (d, ps) := by
  unfold fnR
  split
  · exact ⟨_, _, rfl⟩
  · split
    · exact ⟨_, _, rfl⟩
    · split
      · exact ⟨_, _, rfl⟩
      · split
        · exact ⟨_, _, rfl⟩
        · exact ⟨_, _, rfl⟩
theorem fnR_inv {F0 F1 F2 F3 v : Value} {d : DataW Unit} {ps : List MemPlace} (h : fnR F0 F1 F2 F3 v = some (d, ps)) : (d = .lit (.int .i64 0) → v = F0) ∧ (d = .lit (.int .i64 1) → v = F1) ∧ (d = .lit (.int .i64 2) → v = F2) ∧ (d = .lit (.int .i64 3) → v = F3) := by
  unfold fnR at h
  split at h
  · simp only [Option.some.injEq, Prod.mk.injEq] at h
    obtain ⟨rfl, _⟩ := h
    simp_all
  · split at h
    · simp only [Option.some.injEq, Prod.mk.injEq] at h
      obtain ⟨rfl, _⟩ := h
      simp_all
    · split at h
      · simp only [Option.some.injEq, Prod.mk.injEq] at h
        obtain ⟨rfl, _⟩ := h
        simp_all
      · split at h
        · simp only [Option.some.injEq, Prod.mk.injEq] at h
          obtain ⟨rfl, _⟩ := h
          simp_all
        · simp only [Option.some.injEq, Prod.mk.injEq] at h
          obtain ⟨rfl, _⟩ := h
          simp
def fnD : DataW Unit := .map [(.int .i64 0, .lit (.int .i64 0)), (.int .i64 1, .lit (.int .i64 1)), (.int .i64 2, .lit (.int .i64 2)), (.int .i64 3, .lit (.int .i64 3))]
theorem fnD_made : ((((DataW.map [] : DataW Unit).put (.int .i64 0) (.lit (.int .i64 0))).put (.int .i64 1) (.lit (.int .i64 1))).put (.int .i64 2) (.lit (.int .i64 2))).put (.int .i64 3) (.lit (.int .i64 3)) = fnD := by rfl
theorem fnD_has {x : Int} (h0 : x ≠ 0) (h1 : x ≠ 1) (h2 : x ≠ 2) (h3 : x ≠ 3) : Maps.has fnD (.int .i64 x) = false := by
  unfold Maps.has fnD
  simp [Lit.sameKey]
  omega
/-- What a block is good for that is such a map. -/
structure FnMap (P : Program) (t : TypeId) (b : Nat) (F0 F1 F2 F3 : Value) (W : World) : Prop where
  l0 : (Instr.lookup t (.map (some b)) (.int .i64 0) false).run P W = .ok F0 W
  l1 : (Instr.lookup t (.map (some b)) (.int .i64 1) false).run P W = .ok F1 W
  l2 : (Instr.lookup t (.map (some b)) (.int .i64 2) false).run P W = .ok F2 W
  l3 : (Instr.lookup t (.map (some b)) (.int .i64 3) false).run P W = .ok F3 W
  k0 : (Instr.lookup t (.map (some b)) (.int .i64 0) true).run P W = .ok (.tuple #[F0, .bool true]) W
  k1 : (Instr.lookup t (.map (some b)) (.int .i64 1) true).run P W = .ok (.tuple #[F1, .bool true]) W
  k2 : (Instr.lookup t (.map (some b)) (.int .i64 2) true).run P W = .ok (.tuple #[F2, .bool true]) W
  k3 : (Instr.lookup t (.map (some b)) (.int .i64 3) true).run P W = .ok (.tuple #[F3, .bool true]) W
  kx : ∀ x : Int, -9223372036854775808 ≤ x → x ≤ 9223372036854775807 → x ≠ 0 → x ≠ 1 → x ≠ 2 → x ≠ 3 → ∃ v, (Instr.lookup t (.map (some b)) (.int .i64 x) true).run P W = .ok (.tuple #[v, .bool false]) W
theorem fnmap {P : Program} {t k e : TypeId} (ht : P.underlying t = some (.map k e)) (hk : P.underlying k = some (.int .i64)) {z : Value} (hz : ∀ w, (zeroValue e).run P w = .ok z w) (F0 F1 F2 F3 : Value)
    (d10 : F1 ≠ F0) (d20 : F2 ≠ F0) (d21 : F2 ≠ F1) (d30 : F3 ≠ F0) (d31 : F3 ≠ F1) (d32 : F3 ≠ F2) (w : World) (b : Nat) (hb : b = w.heap.size) :
    ∃ W2 W3 W4 W5, (Instr.mapUpdate t (.map (some b)) (.int .i64 0) F0).run P (w.alloc (.map #[] 0)) = .ok () W2 ∧ (Instr.mapUpdate t (.map (some b)) (.int .i64 1) F1).run P W2 = .ok () W3 ∧
      (Instr.mapUpdate t (.map (some b)) (.int .i64 2) F2).run P W3 = .ok () W4 ∧ (Instr.mapUpdate t (.map (some b)) (.int .i64 3) F3).run P W4 = .ok () W5 ∧
      Below b w W2 ∧ Below b w W3 ∧ Below b w W4 ∧ Below b w W5 ∧ b < W5.heap.size ∧ (∀ W, W.heap[b]? = W5.heap[b]? → FnMap P t b F0 F1 F2 F3 W) := by
  subst hb
  have K : Keyed P k := int_keyed hk
  have hkey : ∀ x : Int, -9223372036854775808 ≤ x → x ≤ 9223372036854775807 → keyOf P k (.int .i64 x) = some (.int .i64 x) := fun x h0 h1 => keyOf_int_mk hk (WalkArith.wf_i64 ⟨h0, h1⟩)
  have o1 : (w.alloc (.map #[] 0)).ownsMap P k (fnR F0 F1 F2 F3) w.heap.size 0 (.map []) := World.ownsMap_made _ _ _ _
  have r0 : fnR F0 F1 F2 F3 F0 = some (.lit (.int .i64 0), []) := by unfold fnR; rw [if_pos rfl]
  have r1 : fnR F0 F1 F2 F3 F1 = some (.lit (.int .i64 1), []) := by unfold fnR; rw [if_neg d10, if_pos rfl]
  have r2 : fnR F0 F1 F2 F3 F2 = some (.lit (.int .i64 2), []) := by unfold fnR; rw [if_neg d20, if_neg d21, if_pos rfl]
  have r3 : fnR F0 F1 F2 F3 F3 = some (.lit (.int .i64 3), []) := by unfold fnR; rw [if_neg d30, if_neg d31, if_neg d32, if_pos rfl]
  obtain ⟨W2, u2, o2, g2⟩ := o1.update K ht (by decide) (hkey 0 (by omega) (by omega)) r0
  obtain ⟨W3, u3, o3, g3⟩ := o2.update K ht (by decide) (hkey 1 (by omega) (by omega)) r1
  obtain ⟨W4, u4, o4, g4⟩ := o3.update K ht (by decide) (hkey 2 (by omega) (by omega)) r2
  obtain ⟨W5, u5, o5, g5⟩ := o4.update K ht (by decide) (hkey 3 (by omega) (by omega)) r3
  rw [fnD_made] at o5
  have hs : ∀ k, some w.heap.size = some k → w.heap.size ≤ k := fun k hk => by cases hk; exact Nat.le_refl _
  have b1 : Below w.heap.size w (w.alloc (.map #[] 0)) := (Below.refl _ _).alloc (Nat.le_refl _) _
  have b2 := b1.grown g2 b1.size hs
  have b3 := b2.grown g3 b2.size hs
  have b4 := b3.grown g4 b3.size hs
  have b5 := b4.grown g5 b4.size hs
  refine ⟨W2, W3, W4, W5, u2, u3, u4, u5, b2, b3, b4, b5, o5.lt, fun W hW => ?_⟩
  have oW : W.ownsMap P k (fnR F0 F1 F2 F3) w.heap.size (0 + 1 + 1 + 1 + 1) fnD := by
    obtain ⟨es, clock, h1, h2⟩ := o5
    exact ⟨es, clock, hW.trans h1, h2⟩
  obtain ⟨zd, zp, hzd⟩ := fnR_some F0 F1 F2 F3 z
  have L := fun x h0 h1 => oW.lookup K ht (hz W) hzd (hkey x h0 h1)
  have M := fun x h0 h1 => oW.look_ok K ht (hz W) hzd (hkey x h0 h1)
  refine ⟨?_, ?_, ?_, ?_, ?_, ?_, ?_, ?_, ?_⟩
  · obtain ⟨v, ps, h1, h2⟩ := L 0 (by omega) (by omega)
    rw [(fnR_inv h2).1 rfl] at h1; exact h1
  · obtain ⟨v, ps, h1, h2⟩ := L 1 (by omega) (by omega)
    rw [(fnR_inv h2).2.1 rfl] at h1; exact h1
  · obtain ⟨v, ps, h1, h2⟩ := L 2 (by omega) (by omega)
    rw [(fnR_inv h2).2.2.1 rfl] at h1; exact h1
  · obtain ⟨v, ps, h1, h2⟩ := L 3 (by omega) (by omega)
    rw [(fnR_inv h2).2.2.2 rfl] at h1; exact h1
  · obtain ⟨v, ps, h1, h2⟩ := M 0 (by omega) (by omega)
    rw [(fnR_inv h2).1 rfl] at h1; exact h1
  · obtain ⟨v, ps, h1, h2⟩ := M 1 (by omega) (by omega)
    rw [(fnR_inv h2).2.1 rfl] at h1; exact h1
  · obtain ⟨v, ps, h1, h2⟩ := M 2 (by omega) (by omega)
    rw [(fnR_inv h2).2.2.1 rfl] at h1; exact h1
  · obtain ⟨v, ps, h1, h2⟩ := M 3 (by omega) (by omega)
    rw [(fnR_inv h2).2.2.2 rfl] at h1; exact h1
  · intro x h0 h1 n0 n1 n2 n3
    obtain ⟨v, ps, q1, q2⟩ := M x h0 h1
    rw [fnD_has n0 n1 n2 n3] at q1
    exact ⟨v, q1⟩
end Go.Proofs.YtecgbelgoomneaaGreat
/- A map of four values that a call makes, and looks into; what is told where there is none. -/
namespace Go.Proofs.YtecgbelgoomneaaGreat
open Go.RowKit Go.Maps
set_option maxHeartbeats 1000000
set_option maxRecDepth 100000
set_option linter.unusedVariables false
open Classical in
/-- How a value reads: by its number among four, and one that stands for none. -/
noncomputable def fnZ (Z F0 F1 F2 F3 : Value) (v : Value) : Option (DataW Unit × List MemPlace) :=
  if v = Z then some (.lit (.int .i64 8), []) else fnR F0 F1 F2 F3 v
theorem fnZ_inv {Z F0 F1 F2 F3 v : Value} {d : DataW Unit} {ps : List MemPlace} (h : fnZ Z F0 F1 F2 F3 v = some (d, ps)) : (d = .lit (.int .i64 8) → v = Z) ∧ (d = .lit (.int .i64 0) → v = F0) ∧ (d = .lit (.int .i64 1) → v = F1) ∧ (d = .lit (.int .i64 2) → v = F2) ∧ (d = .lit (.int .i64 3) → v = F3) := by
  unfold fnZ at h
  split at h
  · simp only [Option.some.injEq, Prod.mk.injEq] at h
    obtain ⟨rfl, _⟩ := h
    simp_all
  · have hi := fnR_inv h
    refine ⟨fun hd => ?_, hi⟩
    subst hd
    unfold fnR at h
    split at h
    · simp at h
    · split at h
      · simp at h
      · split at h
        · simp at h
        · split at h
          · simp at h
          · simp at h
/-- What a block is good for that is such a map. -/
structure FnMapZ (P : Program) (t : TypeId) (b : Nat) (Z F0 F1 F2 F3 : Value) (W : World) : Prop where
  l0 : (Instr.lookup t (.map (some b)) (.int .i64 0) false).run P W = .ok F0 W
  l1 : (Instr.lookup t (.map (some b)) (.int .i64 1) false).run P W = .ok F1 W
  l2 : (Instr.lookup t (.map (some b)) (.int .i64 2) false).run P W = .ok F2 W
  l3 : (Instr.lookup t (.map (some b)) (.int .i64 3) false).run P W = .ok F3 W
  k0 : (Instr.lookup t (.map (some b)) (.int .i64 0) true).run P W = .ok (.tuple #[F0, .bool true]) W
  k1 : (Instr.lookup t (.map (some b)) (.int .i64 1) true).run P W = .ok (.tuple #[F1, .bool true]) W
  k2 : (Instr.lookup t (.map (some b)) (.int .i64 2) true).run P W = .ok (.tuple #[F2, .bool true]) W
  k3 : (Instr.lookup t (.map (some b)) (.int .i64 3) true).run P W = .ok (.tuple #[F3, .bool true]) W
  kx : ∀ x : Int, -9223372036854775808 ≤ x → x ≤ 9223372036854775807 → x ≠ 0 → x ≠ 1 → x ≠ 2 → x ≠ 3 → (Instr.lookup t (.map (some b)) (.int .i64 x) true).run P W = .ok (.tuple #[Z, .bool false]) W
theorem fnD_none {x : Int} (h0 : x ≠ 0) (h1 : x ≠ 1) (h2 : x ≠ 2) (h3 : x ≠ 3) (z : DataW Unit) : DataW.atKey fnD (.int .i64 x) z = z := by
  refine WideAt.atKey_none z (fun p hp h => ?_)
  simp only [List.mem_cons, List.not_mem_nil, or_false] at hp
  rcases hp with rfl | rfl | rfl | rfl <;> simp at h <;> omega
theorem fnmapZ {P : Program} {t k e : TypeId} (ht : P.underlying t = some (.map k e)) (hk : P.underlying k = some (.int .i64)) {Z : Value} (hz : ∀ w, (zeroValue e).run P w = .ok Z w) (F0 F1 F2 F3 : Value)
    (z0 : F0 ≠ Z) (z1 : F1 ≠ Z) (z2 : F2 ≠ Z) (z3 : F3 ≠ Z) (d10 : F1 ≠ F0) (d20 : F2 ≠ F0) (d21 : F2 ≠ F1) (d30 : F3 ≠ F0) (d31 : F3 ≠ F1) (d32 : F3 ≠ F2) (w : World) (b : Nat) (hb : b = w.heap.size) :
    ∃ W2 W3 W4 W5, (Instr.mapUpdate t (.map (some b)) (.int .i64 0) F0).run P (w.alloc (.map #[] 0)) = .ok () W2 ∧ (Instr.mapUpdate t (.map (some b)) (.int .i64 1) F1).run P W2 = .ok () W3 ∧
      (Instr.mapUpdate t (.map (some b)) (.int .i64 2) F2).run P W3 = .ok () W4 ∧ (Instr.mapUpdate t (.map (some b)) (.int .i64 3) F3).run P W4 = .ok () W5 ∧
      Below b w W2 ∧ Below b w W3 ∧ Below b w W4 ∧ Below b w W5 ∧ b < W5.heap.size ∧ (∀ W, W.heap[b]? = W5.heap[b]? → FnMapZ P t b Z F0 F1 F2 F3 W) := by
  subst hb
  have K : Keyed P k := int_keyed hk
  have hkey : ∀ x : Int, -9223372036854775808 ≤ x → x ≤ 9223372036854775807 → keyOf P k (.int .i64 x) = some (.int .i64 x) := fun x h0 h1 => keyOf_int_mk hk (WalkArith.wf_i64 ⟨h0, h1⟩)
  have o1 : (w.alloc (.map #[] 0)).ownsMap P k (fnZ Z F0 F1 F2 F3) w.heap.size 0 (.map []) := World.ownsMap_made _ _ _ _
  have r0 : fnZ Z F0 F1 F2 F3 F0 = some (.lit (.int .i64 0), []) := by unfold fnZ fnR; rw [if_neg z0, if_pos rfl]
  have r1 : fnZ Z F0 F1 F2 F3 F1 = some (.lit (.int .i64 1), []) := by unfold fnZ fnR; rw [if_neg z1, if_neg d10, if_pos rfl]
  have r2 : fnZ Z F0 F1 F2 F3 F2 = some (.lit (.int .i64 2), []) := by unfold fnZ fnR; rw [if_neg z2, if_neg d20, if_neg d21, if_pos rfl]
  have r3 : fnZ Z F0 F1 F2 F3 F3 = some (.lit (.int .i64 3), []) := by unfold fnZ fnR; rw [if_neg z3, if_neg d30, if_neg d31, if_neg d32, if_pos rfl]
  have rz : fnZ Z F0 F1 F2 F3 Z = some (.lit (.int .i64 8), []) := by unfold fnZ; rw [if_pos rfl]
  obtain ⟨W2, u2, o2, g2⟩ := o1.update K ht (by decide) (hkey 0 (by omega) (by omega)) r0
  obtain ⟨W3, u3, o3, g3⟩ := o2.update K ht (by decide) (hkey 1 (by omega) (by omega)) r1
  obtain ⟨W4, u4, o4, g4⟩ := o3.update K ht (by decide) (hkey 2 (by omega) (by omega)) r2
  obtain ⟨W5, u5, o5, g5⟩ := o4.update K ht (by decide) (hkey 3 (by omega) (by omega)) r3
  rw [fnD_made] at o5
  have hs : ∀ k, some w.heap.size = some k → w.heap.size ≤ k := fun k hk => by cases hk; exact Nat.le_refl _
  have b1 : Below w.heap.size w (w.alloc (.map #[] 0)) := (Below.refl _ _).alloc (Nat.le_refl _) _
  have b2 := b1.grown g2 b1.size hs
  have b3 := b2.grown g3 b2.size hs
  have b4 := b3.grown g4 b3.size hs
  have b5 := b4.grown g5 b4.size hs
  refine ⟨W2, W3, W4, W5, u2, u3, u4, u5, b2, b3, b4, b5, o5.lt, fun W hW => ?_⟩
  have oW : W.ownsMap P k (fnZ Z F0 F1 F2 F3) w.heap.size (0 + 1 + 1 + 1 + 1) fnD := by
    obtain ⟨es, clock, h1, h2⟩ := o5
    exact ⟨es, clock, hW.trans h1, h2⟩
  have L := fun x h0 h1 => oW.lookup K ht (hz W) rz (hkey x h0 h1)
  have M := fun x h0 h1 => oW.look_ok K ht (hz W) rz (hkey x h0 h1)
  refine ⟨?_, ?_, ?_, ?_, ?_, ?_, ?_, ?_, ?_⟩
  · obtain ⟨v, ps, h1, h2⟩ := L 0 (by omega) (by omega)
    rw [(fnZ_inv h2).2.1 rfl] at h1; exact h1
  · obtain ⟨v, ps, h1, h2⟩ := L 1 (by omega) (by omega)
    rw [(fnZ_inv h2).2.2.1 rfl] at h1; exact h1
  · obtain ⟨v, ps, h1, h2⟩ := L 2 (by omega) (by omega)
    rw [(fnZ_inv h2).2.2.2.1 rfl] at h1; exact h1
  · obtain ⟨v, ps, h1, h2⟩ := L 3 (by omega) (by omega)
    rw [(fnZ_inv h2).2.2.2.2 rfl] at h1; exact h1
  · obtain ⟨v, ps, h1, h2⟩ := M 0 (by omega) (by omega)
    rw [(fnZ_inv h2).2.1 rfl] at h1; exact h1
  · obtain ⟨v, ps, h1, h2⟩ := M 1 (by omega) (by omega)
    rw [(fnZ_inv h2).2.2.1 rfl] at h1; exact h1
  · obtain ⟨v, ps, h1, h2⟩ := M 2 (by omega) (by omega)
    rw [(fnZ_inv h2).2.2.2.1 rfl] at h1; exact h1
  · obtain ⟨v, ps, h1, h2⟩ := M 3 (by omega) (by omega)
    rw [(fnZ_inv h2).2.2.2.2 rfl] at h1; exact h1
  · intro x h0 h1 n0 n1 n2 n3
    obtain ⟨v, ps, q1, q2⟩ := M x h0 h1
    rw [fnD_has n0 n1 n2 n3] at q1
    rw [fnD_none n0 n1 n2 n3] at q2
    rw [(fnZ_inv q2).1 rfl] at q1
    exact q1
end Go.Proofs.YtecgbelgoomneaaGreat
/- The table of ways that the program makes; whether a way may be, way by way. -/
namespace Go.Proofs.YtecgbelgoomneaaGreat
open Go.RowKit
set_option maxHeartbeats 2000000
set_option maxRecDepth 100000
set_option linter.unusedVariables false

abbrev wyF0 : Value := .agg #[.func (.func 67) #[] #[], .func (.func 68) #[] #[], .func (.func 69) #[] #[], .func (.func 70) #[] #[]]
abbrev wyF1 : Value := .agg #[.func (.func 71) #[] #[], .func (.func 72) #[] #[], .func (.func 73) #[] #[], .func (.func 74) #[] #[]]
abbrev wyF2 : Value := .agg #[.func (.func 75) #[] #[], .func (.func 76) #[] #[], .func (.func 77) #[] #[], .func (.func 78) #[] #[]]
abbrev wyF3 : Value := .agg #[.func (.func 67) #[] #[], .func (.func 79) #[] #[], .func (.func 80) #[] #[], .func (.func 81) #[] #[]]
abbrev wyZ : Value := .agg #[.nilFunc, .nilFunc, .nilFunc, .nilFunc]
def wyK : Value → Nat
  | .agg ⟨_ :: Value.func (.func f) _ _ :: _⟩ => f + 1
  | _ => 0
/-- A block that is the table of ways. -/
abbrev WaysAt (b : Nat) (W : World) : Prop := FnMapZ Tryz.prog 69 b wyZ wyF0 wyF1 wyF2 wyF3 W
theorem wy_ways (w : World) :
    Calls Tryz.prog 34 #[] w fun e w' => e = .returned (.map (some w.heap.size)) ∧ Below w.heap.size w w' ∧ w.heap.size < w'.heap.size ∧ (∀ W : World, W.heap[w.heap.size]? = w'.heap[w.heap.size]? → WaysAt w.heap.size W) := by
  obtain ⟨W2, W3, W4, W5, u2, u3, u4, u5, b2, b3, b4, b5, hz5, hfm⟩ := fnmapZ (P := Tryz.prog) (t := 69) Tryz.underlying69 Tryz.underlying3 (Z := wyZ) (fun w => by kernel_rfl) wyF0 wyF1 wyF2 wyF3 (fun h => absurd (congrArg wyK h) (by decide)) (fun h => absurd (congrArg wyK h) (by decide)) (fun h => absurd (congrArg wyK h) (by decide)) (fun h => absurd (congrArg wyK h) (by decide)) (fun h => absurd (congrArg wyK h) (by decide)) (fun h => absurd (congrArg wyK h) (by decide)) (fun h => absurd (congrArg wyK h) (by decide)) (fun h => absurd (congrArg wyK h) (by decide)) (fun h => absurd (congrArg wyK h) (by decide)) (fun h => absurd (congrArg wyK h) (by decide)) w w.heap.size rfl
  have HF := hid hfm
  have B5 := hid b5
  have hmm := @run_makeMap Tryz.prog
  clear hfm b2 b3 b4 b5
  go_enter Tryz.func34, Tryz.ntmps34
  go_wp2_with fail
  go_ret
  exact ⟨rfl, B5.out, hz5, HF.out⟩
theorem wy_bare (sch k wide dim : Int) (R : Bool) (hR : R = true ↔ k = 0 ∧ wide = 0) (w : World) :
    Calls Tryz.prog 67 #[.agg #[.int .i64 sch, .int .i64 k, .int .i64 wide], .int .i64 dim] w fun e w' => e = .returned (.bool R) ∧ Below w.heap.size w w' := by
  by_cases h0 : k = 0
  · subst h0
    by_cases h1 : wide = 0
    · subst h1
      have hF : R = true := hR.2 (by omega)
      subst hF; clear hR
      go_enter Tryz.func67, Tryz.ntmps67
      go_wp2_with fail
      go_ret
      exact ⟨rfl, by go_grown⟩
    · have t1 : (wide == 0) = false := beq_eq_false_iff_ne.2 h1
      have hF : R = false := Bool.eq_false_iff.2 (fun h => by have := hR.1 h; omega)
      subst hF; clear hR
      go_enter Tryz.func67, Tryz.ntmps67
      go_wp2_with fail
      go_ret
      exact ⟨rfl, by go_grown⟩
  · have t0 : (k == 0) = false := beq_eq_false_iff_ne.2 h0
    have hF : R = false := Bool.eq_false_iff.2 (fun h => by have := hR.1 h; omega)
    subst hF; clear hR
    go_enter Tryz.func67, Tryz.ntmps67
    go_wp2_with fail
    go_ret
    exact ⟨rfl, by go_grown⟩
theorem wy_mtop (sch k wide dim : Int) (R : Bool) (hR : R = true ↔ k ≥ 0 ∧ k ≤ dim ∧ wide = 0) (w : World) :
    Calls Tryz.prog 71 #[.agg #[.int .i64 sch, .int .i64 k, .int .i64 wide], .int .i64 dim] w fun e w' => e = .returned (.bool R) ∧ Below w.heap.size w w' := by
  by_cases h0 : k ≥ 0
  · skip
    by_cases h1 : k ≤ dim
    · skip
      by_cases h2 : wide = 0
      · subst h2
        have hF : R = true := hR.2 (by omega)
        subst hF; clear hR
        go_enter Tryz.func71, Tryz.ntmps71
        go_wp2_with fail
        go_ret
        exact ⟨rfl, by go_grown⟩
      · have t2 : (wide == 0) = false := beq_eq_false_iff_ne.2 h2
        have hF : R = false := Bool.eq_false_iff.2 (fun h => by have := hR.1 h; omega)
        subst hF; clear hR
        go_enter Tryz.func71, Tryz.ntmps71
        go_wp2_with fail
        go_ret
        exact ⟨rfl, by go_grown⟩
    · skip
      have hF : R = false := Bool.eq_false_iff.2 (fun h => by have := hR.1 h; omega)
      subst hF; clear hR
      go_enter Tryz.func71, Tryz.ntmps71
      go_wp2_with fail
      go_ret
      exact ⟨rfl, by go_grown⟩
  · skip
    have hF : R = false := Bool.eq_false_iff.2 (fun h => by have := hR.1 h; omega)
    subst hF; clear hR
    go_enter Tryz.func71, Tryz.ntmps71
    go_wp2_with fail
    go_ret
    exact ⟨rfl, by go_grown⟩
theorem wy_mlevel (sch k wide dim : Int) (R : Bool) (hR : R = true ↔ k = 0 ∧ wide ≥ 1 ∧ wide ≤ 8) (w : World) :
    Calls Tryz.prog 75 #[.agg #[.int .i64 sch, .int .i64 k, .int .i64 wide], .int .i64 dim] w fun e w' => e = .returned (.bool R) ∧ Below w.heap.size w w' := by
  by_cases h0 : k = 0
  · subst h0
    by_cases h1 : wide ≥ 1
    · skip
      by_cases h2 : wide ≤ 8
      · skip
        have hF : R = true := hR.2 (by omega)
        subst hF; clear hR
        go_enter Tryz.func75, Tryz.ntmps75
        go_wp2_with fail
        go_ret
        exact ⟨rfl, by go_grown⟩
      · skip
        have hF : R = false := Bool.eq_false_iff.2 (fun h => by have := hR.1 h; omega)
        subst hF; clear hR
        go_enter Tryz.func75, Tryz.ntmps75
        go_wp2_with fail
        go_ret
        exact ⟨rfl, by go_grown⟩
    · skip
      have hF : R = false := Bool.eq_false_iff.2 (fun h => by have := hR.1 h; omega)
      subst hF; clear hR
      go_enter Tryz.func75, Tryz.ntmps75
      go_wp2_with fail
      go_ret
      exact ⟨rfl, by go_grown⟩
  · have t0 : (k == 0) = false := beq_eq_false_iff_ne.2 h0
    have hF : R = false := Bool.eq_false_iff.2 (fun h => by have := hR.1 h; omega)
    subst hF; clear hR
    go_enter Tryz.func75, Tryz.ntmps75
    go_wp2_with fail
    go_ret
    exact ⟨rfl, by go_grown⟩
end Go.Proofs.YtecgbelgoomneaaGreat
/- Lists and arrays that are compared, by package slices; the program's view of a vector and of a frame. -/
namespace Go.Proofs.YtecgbelgoomneaaGreat
open Go.RowKit
set_option maxHeartbeats 400000
set_option maxRecDepth 100000
set_option linter.unusedVariables false
theorem eq_u64s {A B : Option Addr} {c d : Nat} (xs ys : List Int) (hx : xs.length ≤ 9223372036854775807) (hy : ys.length ≤ 9223372036854775807) (w : World) {L M : Nat}
    (ra : Rd (Value.int .u64) w L A xs) (rb : Rd (Value.int .u64) w M B ys) :
    Calls Tryz.prog 163 #[.slice A xs.length c, .slice B ys.length d] w fun e w' => e = .returned (.bool (eqB xs ys)) ∧ ∃ n, w' = w.drewN n := by
  by_cases hl : xs.length = ys.length
  · have HA := hid ra
    have HB := hid rb
    clear ra rb
    have h1 : ((xs.length : Int) != (ys.length : Int)) = false := by simp; omega
    have h2 : (xs.length != ys.length) = false := by simp; omega
    have HL := hid hl
    clear hl
    go_enter Tryz.func163, Tryz.ntmps163
    go_wp2_with fail
    clear h1 h2
    go_loopw [13] (fun i wr => ∃ k : Nat, k ≤ xs.length ∧ i = .int .i64 k ∧ xs.take k = ys.take k ∧ ∃ n, wr = w.drewN n) (fun i _ => xs.length - (intOf i).toNat)
    case atStart => exact ⟨0, by omega, rfl, rfl, 0, rfl⟩
    case round =>
      obtain ⟨k, hk, rfl, ht, n, rfl⟩ := hrel
      have HT := hid ht
      clear ht
      by_cases hlt : k < xs.length
      · have hlt2 : k < ys.length := by have := HL.out; omega
        obtain ⟨b1, o1, x, rfl, l1, ex, c1⟩ := HA.out.at_ hlt
        obtain ⟨b2, o2, y, rfl, l2, ey, c2⟩ := HB.out.at_ hlt2
        have EX := hid ex
        have EY := hid ey
        clear ex ey
        by_cases e : x = y
        · have e' : (x != y) = false := by simpa using e
          have E := hid e
          clear e
          go_wp2_with fail
          go_quiet (fail)
          go_wp2_with fail
          go_roundw
          case rel => exact ⟨k + 1, by omega, by go_num, take_step HT.out EX.out EY.out E.out, _, rfl⟩
          case measure => simp [intOf]; omega
        · have e' : (x != y) = true := by simpa using e
          go_wp2_with fail
          go_quiet (fail)
          go_wp2_with fail
          go_ret
          rw [eqB_no EX.out EY.out e]
          exact ⟨rfl, drewN_two _ _ _⟩
      · have hke : k = xs.length := by omega
        have HK := hid hke
        clear hke
        go_wp2_with fail
        go_ret
        rw [eqB_yes HT.out HK.out HL.out]
        exact ⟨rfl, _, rfl⟩
  · rw [eqB_len hl]
    have h1 : ((xs.length : Int) != (ys.length : Int)) = true := by simp; omega
    have h2 : (xs.length != ys.length) = true := by simp; omega
    go_enter Tryz.func163, Tryz.ntmps163
    go_wp2_with fail
    go_ret
    exact ⟨rfl, 0, rfl⟩
theorem eq_ints {A B : Option Addr} {c d : Nat} (xs ys : List Int) (hx : xs.length ≤ 9223372036854775807) (hy : ys.length ≤ 9223372036854775807) (w : World) {L M : Nat}
    (ra : Rd (Value.int .i64) w L A xs) (rb : Rd (Value.int .i64) w M B ys) :
    Calls Tryz.prog 162 #[.slice A xs.length c, .slice B ys.length d] w fun e w' => e = .returned (.bool (eqB xs ys)) ∧ ∃ n, w' = w.drewN n := by
  by_cases hl : xs.length = ys.length
  · have HA := hid ra
    have HB := hid rb
    clear ra rb
    have h1 : ((xs.length : Int) != (ys.length : Int)) = false := by simp; omega
    have h2 : (xs.length != ys.length) = false := by simp; omega
    have HL := hid hl
    clear hl
    go_enter Tryz.func162, Tryz.ntmps162
    go_wp2_with fail
    clear h1 h2
    go_loopw [13] (fun i wr => ∃ k : Nat, k ≤ xs.length ∧ i = .int .i64 k ∧ xs.take k = ys.take k ∧ ∃ n, wr = w.drewN n) (fun i _ => xs.length - (intOf i).toNat)
    case atStart => exact ⟨0, by omega, rfl, rfl, 0, rfl⟩
    case round =>
      obtain ⟨k, hk, rfl, ht, n, rfl⟩ := hrel
      have HT := hid ht
      clear ht
      by_cases hlt : k < xs.length
      · have hlt2 : k < ys.length := by have := HL.out; omega
        obtain ⟨b1, o1, x, rfl, l1, ex, c1⟩ := HA.out.at_ hlt
        obtain ⟨b2, o2, y, rfl, l2, ey, c2⟩ := HB.out.at_ hlt2
        have EX := hid ex
        have EY := hid ey
        clear ex ey
        by_cases e : x = y
        · have e' : (x != y) = false := by simpa using e
          have E := hid e
          clear e
          go_wp2_with fail
          go_quiet (fail)
          go_wp2_with fail
          go_roundw
          case rel => exact ⟨k + 1, by omega, by go_num, take_step HT.out EX.out EY.out E.out, _, rfl⟩
          case measure => simp [intOf]; omega
        · have e' : (x != y) = true := by simpa using e
          go_wp2_with fail
          go_quiet (fail)
          go_wp2_with fail
          go_ret
          rw [eqB_no EX.out EY.out e]
          exact ⟨rfl, drewN_two _ _ _⟩
      · have hke : k = xs.length := by omega
        have HK := hid hke
        clear hke
        go_wp2_with fail
        go_ret
        rw [eqB_yes HT.out HK.out HL.out]
        exact ⟨rfl, _, rfl⟩
  · rw [eqB_len hl]
    have h1 : ((xs.length : Int) != (ys.length : Int)) = true := by simp; omega
    have h2 : (xs.length != ys.length) = true := by simp; omega
    go_enter Tryz.func162, Tryz.ntmps162
    go_wp2_with fail
    go_ret
    exact ⟨rfl, 0, rfl⟩
theorem eq_i64s {A B : Option Addr} {c d : Nat} (xs ys : List Int) (hx : xs.length ≤ 9223372036854775807) (hy : ys.length ≤ 9223372036854775807) (w : World) {L M : Nat}
    (ra : Rd (Value.int .i64) w L A xs) (rb : Rd (Value.int .i64) w M B ys) :
    Calls Tryz.prog 63 #[.slice A xs.length c, .slice B ys.length d] w fun e w' => e = .returned (.bool (eqB xs ys)) ∧ ∃ n, w' = w.drewN n := by
  by_cases hl : xs.length = ys.length
  · have HA := hid ra
    have HB := hid rb
    clear ra rb
    have h1 : ((xs.length : Int) != (ys.length : Int)) = false := by simp; omega
    have h2 : (xs.length != ys.length) = false := by simp; omega
    have HL := hid hl
    clear hl
    go_enter Tryz.func63, Tryz.ntmps63
    go_wp2_with fail
    clear h1 h2
    go_loopw [13] (fun i wr => ∃ k : Nat, k ≤ xs.length ∧ i = .int .i64 k ∧ xs.take k = ys.take k ∧ ∃ n, wr = w.drewN n) (fun i _ => xs.length - (intOf i).toNat)
    case atStart => exact ⟨0, by omega, rfl, rfl, 0, rfl⟩
    case round =>
      obtain ⟨k, hk, rfl, ht, n, rfl⟩ := hrel
      have HT := hid ht
      clear ht
      by_cases hlt : k < xs.length
      · have hlt2 : k < ys.length := by have := HL.out; omega
        obtain ⟨b1, o1, x, rfl, l1, ex, c1⟩ := HA.out.at_ hlt
        obtain ⟨b2, o2, y, rfl, l2, ey, c2⟩ := HB.out.at_ hlt2
        have EX := hid ex
        have EY := hid ey
        clear ex ey
        by_cases e : x = y
        · have e' : (x != y) = false := by simpa using e
          have E := hid e
          clear e
          go_wp2_with fail
          go_quiet (fail)
          go_wp2_with fail
          go_roundw
          case rel => exact ⟨k + 1, by omega, by go_num, take_step HT.out EX.out EY.out E.out, _, rfl⟩
          case measure => simp [intOf]; omega
        · have e' : (x != y) = true := by simpa using e
          go_wp2_with fail
          go_quiet (fail)
          go_wp2_with fail
          go_ret
          rw [eqB_no EX.out EY.out e]
          exact ⟨rfl, drewN_two _ _ _⟩
      · have hke : k = xs.length := by omega
        have HK := hid hke
        clear hke
        go_wp2_with fail
        go_ret
        rw [eqB_yes HT.out HK.out HL.out]
        exact ⟨rfl, _, rfl⟩
  · rw [eqB_len hl]
    have h1 : ((xs.length : Int) != (ys.length : Int)) = true := by simp; omega
    have h2 : (xs.length != ys.length) = true := by simp; omega
    go_enter Tryz.func63, Tryz.ntmps63
    go_wp2_with fail
    go_ret
    exact ⟨rfl, 0, rfl⟩
theorem eq_bools {A B : Option Addr} {c d : Nat} (xs ys : List Bool) (hx : xs.length ≤ 9223372036854775807) (hy : ys.length ≤ 9223372036854775807) (w : World) {L M : Nat}
    (ra : Rd Value.bool w L A xs) (rb : Rd Value.bool w M B ys) :
    Calls Tryz.prog 164 #[.slice A xs.length c, .slice B ys.length d] w fun e w' => e = .returned (.bool (eqN xs ys)) ∧ ∃ n, w' = w.drewN n := by
  by_cases hl : xs.length = ys.length
  · have HA := hid ra
    have HB := hid rb
    clear ra rb
    have h1 : ((xs.length : Int) != (ys.length : Int)) = false := by simp; omega
    have h2 : (xs.length != ys.length) = false := by simp; omega
    have HL := hid hl
    clear hl
    go_enter Tryz.func164, Tryz.ntmps164
    go_wp2_with fail
    clear h1 h2
    go_loopw [13] (fun i wr => ∃ k : Nat, k ≤ xs.length ∧ i = .int .i64 k ∧ xs.take k = ys.take k ∧ ∃ n, wr = w.drewN n) (fun i _ => xs.length - (intOf i).toNat)
    case atStart => exact ⟨0, by omega, rfl, rfl, 0, rfl⟩
    case round =>
      obtain ⟨k, hk, rfl, ht, n, rfl⟩ := hrel
      have HT := hid ht
      clear ht
      by_cases hlt : k < xs.length
      · have hlt2 : k < ys.length := by have := HL.out; omega
        obtain ⟨b1, o1, x, rfl, l1, ex, c1⟩ := HA.out.at_ hlt
        obtain ⟨b2, o2, y, rfl, l2, ey, c2⟩ := HB.out.at_ hlt2
        have EX := hid ex
        have EY := hid ey
        clear ex ey
        by_cases e : x = y
        · subst e
          have EE : Hid (xs.take (k + 1) = ys.take (k + 1)) := hid (takeN_step HT.out EX.out EY.out rfl)
          cases x
          · go_wp2_with fail
            go_quiet (fail)
            go_wp2_with fail
            go_roundw
            case rel => exact ⟨k + 1, by omega, by go_num, EE.out, _, rfl⟩
            case measure => simp [intOf]; omega
          · go_wp2_with fail
            go_quiet (fail)
            go_wp2_with fail
            go_roundw
            case rel => exact ⟨k + 1, by omega, by go_num, EE.out, _, rfl⟩
            case measure => simp [intOf]; omega
        · have hne := eqN_no EX.out EY.out e
          cases x <;> cases y
          · exact absurd rfl e
          · go_wp2_with fail
            go_quiet (fail)
            go_wp2_with fail
            go_ret
            rw [hne]
            exact ⟨rfl, drewN_two _ _ _⟩
          · go_wp2_with fail
            go_quiet (fail)
            go_wp2_with fail
            go_ret
            rw [hne]
            exact ⟨rfl, drewN_two _ _ _⟩
          · exact absurd rfl e
      · have hke : k = xs.length := by omega
        have HK := hid hke
        clear hke
        go_wp2_with fail
        go_ret
        rw [eqN_yes HT.out HK.out HL.out]
        exact ⟨rfl, _, rfl⟩
  · rw [eqN_len hl]
    have h1 : ((xs.length : Int) != (ys.length : Int)) = true := by simp; omega
    have h2 : (xs.length != ys.length) = true := by simp; omega
    clear hl ra rb
    go_enter Tryz.func164, Tryz.ntmps164
    go_wp2_with fail
    go_ret
    exact ⟨rfl, 0, rfl⟩
theorem equal_eight (a b c d e f g h a' b' c' d' e' f' g' h' : Int) (w : World) :
    (Op.equalIn 10000 129 (.agg #[.int .i64 a, .int .i64 b, .int .i64 c, .int .i64 d, .int .i64 e, .int .i64 f, .int .i64 g, .int .i64 h]) (.agg #[.int .i64 a', .int .i64 b', .int .i64 c', .int .i64 d', .int .i64 e', .int .i64 f', .int .i64 g', .int .i64 h'])).run Tryz.prog w = .ok (eqB [a, b, c, d, e, f, g, h] [a', b', c', d', e', f', g', h']) w := by
  have h0 : ∀ (x0 x1 x2 x3 x4 x5 x6 x7 : Int) (w : World), (part 2 #[.int .i64 x0, .int .i64 x1, .int .i64 x2, .int .i64 x3, .int .i64 x4, .int .i64 x5, .int .i64 x6, .int .i64 x7] 0).run Tryz.prog w = .ok (.int .i64 x0) w := fun _ _ _ _ _ _ _ _ _ => by kernel_rfl
  have h1 : ∀ (x0 x1 x2 x3 x4 x5 x6 x7 : Int) (w : World), (part 2 #[.int .i64 x0, .int .i64 x1, .int .i64 x2, .int .i64 x3, .int .i64 x4, .int .i64 x5, .int .i64 x6, .int .i64 x7] 1).run Tryz.prog w = .ok (.int .i64 x1) w := fun _ _ _ _ _ _ _ _ _ => by kernel_rfl
  have h2 : ∀ (x0 x1 x2 x3 x4 x5 x6 x7 : Int) (w : World), (part 2 #[.int .i64 x0, .int .i64 x1, .int .i64 x2, .int .i64 x3, .int .i64 x4, .int .i64 x5, .int .i64 x6, .int .i64 x7] 2).run Tryz.prog w = .ok (.int .i64 x2) w := fun _ _ _ _ _ _ _ _ _ => by kernel_rfl
  have h3 : ∀ (x0 x1 x2 x3 x4 x5 x6 x7 : Int) (w : World), (part 2 #[.int .i64 x0, .int .i64 x1, .int .i64 x2, .int .i64 x3, .int .i64 x4, .int .i64 x5, .int .i64 x6, .int .i64 x7] 3).run Tryz.prog w = .ok (.int .i64 x3) w := fun _ _ _ _ _ _ _ _ _ => by kernel_rfl
  have h4 : ∀ (x0 x1 x2 x3 x4 x5 x6 x7 : Int) (w : World), (part 2 #[.int .i64 x0, .int .i64 x1, .int .i64 x2, .int .i64 x3, .int .i64 x4, .int .i64 x5, .int .i64 x6, .int .i64 x7] 4).run Tryz.prog w = .ok (.int .i64 x4) w := fun _ _ _ _ _ _ _ _ _ => by kernel_rfl
  have h5 : ∀ (x0 x1 x2 x3 x4 x5 x6 x7 : Int) (w : World), (part 2 #[.int .i64 x0, .int .i64 x1, .int .i64 x2, .int .i64 x3, .int .i64 x4, .int .i64 x5, .int .i64 x6, .int .i64 x7] 5).run Tryz.prog w = .ok (.int .i64 x5) w := fun _ _ _ _ _ _ _ _ _ => by kernel_rfl
  have h6 : ∀ (x0 x1 x2 x3 x4 x5 x6 x7 : Int) (w : World), (part 2 #[.int .i64 x0, .int .i64 x1, .int .i64 x2, .int .i64 x3, .int .i64 x4, .int .i64 x5, .int .i64 x6, .int .i64 x7] 6).run Tryz.prog w = .ok (.int .i64 x6) w := fun _ _ _ _ _ _ _ _ _ => by kernel_rfl
  have h7 : ∀ (x0 x1 x2 x3 x4 x5 x6 x7 : Int) (w : World), (part 2 #[.int .i64 x0, .int .i64 x1, .int .i64 x2, .int .i64 x3, .int .i64 x4, .int .i64 x5, .int .i64 x6, .int .i64 x7] 7).run Tryz.prog w = .ok (.int .i64 x7) w := fun _ _ _ _ _ _ _ _ _ => by kernel_rfl
  have hs : (sizeOf 2).run Tryz.prog w = .ok 1 w := by kernel_rfl
  rw [show (10000 : Nat) = 9998 + 1 + 1 from rfl]
  unfold Op.equalIn
  simp only [Sem.run_bind, run_underlying Tryz.underlying129, Result.andThen_ok, hs]
  simp only [Std.Legacy.Range.forIn_eq_forIn_range', Std.Legacy.Range.size]
  simp only [Nat.sub_zero, Nat.reduceAdd, Nat.reduceSub, Nat.reduceDiv, List.range', List.forIn_cons, List.forIn_nil, Sem.run_bind]
  have hq : ∀ x y : Int, (Op.equalIn 9999 2 (.int .i64 x) (.int .i64 y)).run Tryz.prog w = .ok (x == y) w := fun x y => run_equalIn_int w 9998 _ _ _ _ _ Tryz.underlying2
  simp only [Nat.zero_mul, Nat.one_mul, h0, hq, Result.andThen_ok]
  unfold eqB
  by_cases e0 : a = a'
  · subst e0
    by_cases e1 : b = b'
    · subst e1
      by_cases e2 : c = c'
      · subst e2
        by_cases e3 : d = d'
        · subst e3
          by_cases e4 : e = e'
          · subst e4
            by_cases e5 : f = f'
            · subst e5
              by_cases e6 : g = g'
              · subst e6
                by_cases e7 : h = h' <;> simp [h1, h2, h3, h4, h5, h6, h7, hq, e7]
              · simp [h1, h2, h3, h4, h5, h6, hq, e6]
            · simp [h1, h2, h3, h4, h5, hq, e5]
          · simp [h1, h2, h3, h4, hq, e4]
        · simp [h1, h2, h3, hq, e3]
      · simp [h1, h2, hq, e2]
    · simp [h1, hq, e1]
  · simp [e0]
end Go.Proofs.YtecgbelgoomneaaGreat
/- The program's places: whether they may be, by a closure that keeps the place ahead. -/
namespace Go.Proofs.YtecgbelgoomneaaGreat
open Go.RowKit
set_option maxHeartbeats 400000
set_option maxRecDepth 100000
set_option linter.unusedVariables false
/-- Places that rise, below an end. -/
def gdP (E : Int) (l : List Int) : Prop := risP l ∧ ∀ n ∈ l, 0 ≤ n ∧ n < E
instance (E : Int) (l : List Int) : Decidable (gdP E l) := by unfold gdP; infer_instance
def gdB (E : Int) (l : List Int) : Bool := decide (gdP E l)
theorem gd_nil (E : Int) : gdP E [] := ⟨ris_nil, by simp⟩
theorem lastI_big : ∀ {l : List Int} {x : Int}, risP l → x ∈ l → x ≤ lastI (-1) l := by
  intro l x h hx
  rcases List.eq_nil_or_concat l with rfl | ⟨l', y, rfl⟩
  · simp at hx
  · rw [List.concat_eq_append] at *
    rw [lastI_snoc]
    rcases List.mem_append.1 hx with hx | hx
    · have := (ris_snoc.1 h).2 x hx; omega
    · simp at hx; omega
theorem lastI_from {l : List Int} {E : Int} (h : gdP E l) : -1 ≤ lastI (-1) l := by
  rcases lastI_mem l (-1) with ⟨e, _⟩ | hm
  · omega
  · have := h.2 _ hm; omega
theorem gd_step {E : Int} {l : List Int} {k : Nat} {x : Int} (h : gdP E (l.take k)) (hx : l[k]? = some x) : gdP E (l.take (k + 1)) ↔ lastI (-1) (l.take k) < x ∧ x < E := by
  rw [take_snoc hx]
  unfold gdP
  rw [ris_snoc]
  have hf := lastI_from h
  constructor
  · rintro ⟨⟨h1, h2⟩, h3⟩
    have hxE := h3 x (by simp)
    refine ⟨?_, hxE.2⟩
    rcases lastI_mem (l.take k) (-1) with ⟨e, _⟩ | hm
    · omega
    · exact h2 _ hm
  · rintro ⟨h1, h2⟩
    refine ⟨⟨h.1, fun y hy => ?_⟩, fun y hy => ?_⟩
    · have := lastI_big h.1 hy; omega
    · rcases List.mem_append.1 hy with hy | hy
      · exact h.2 y hy
      · simp at hy; omega
theorem gd_no {E : Int} {l : List Int} {k : Nat} {x : Int} (h : gdP E (l.take k)) (hx : l[k]? = some x) (hn : ¬ (lastI (-1) (l.take k) < x ∧ x < E)) : ¬ gdP E l := fun hg => by
  refine hn ((gd_step h hx).1 ⟨ris_take hg.1 _, fun n hm => hg.2 n (List.mem_of_mem_take hm)⟩)
/-- The closure's two cells. -/
def Kept (w : World) (p q : Nat) (a E : Int) : Prop := w.cell? ⟨p, 0, none⟩ = some (.int .i64 a) ∧ w.frozen? ⟨p, 0, none⟩ = false ∧ w.cell? ⟨q, 0, none⟩ = some (.int .i64 E)
theorem ix_may (dim : Int) (hd : I64 dim) (w : World) :
    Calls Tryz.prog 180 #[.int .i64 dim] w fun e w' => e = .returned (.bool (decide (1 ≤ dim ∧ dim ≤ 4096))) ∧ w = w' := by
  unfold I64 at hd
  by_cases h1 : 1 ≤ dim
  · by_cases h2 : dim ≤ 4096
    · rw [decide_eq_true ⟨h1, h2⟩]
      go_enter Tryz.func180, Tryz.ntmps180
      go_wp2_with fail
      go_ret
      exact ⟨rfl, rfl⟩
    · rw [decide_eq_false (fun h => h2 h.2)]
      go_enter Tryz.func180, Tryz.ntmps180
      go_wp2_with fail
      go_ret
      exact ⟨rfl, rfl⟩
  · rw [decide_eq_false (fun h => h1 h.1)]
    go_enter Tryz.func180, Tryz.ntmps180
    go_wp2_with fail
    go_ret
    exact ⟨rfl, rfl⟩
theorem ix_stray (E : Int) (w : World) :
    Calls Tryz.prog 182 #[.int .i64 E] w fun e w' => e = .returned (.func (.func 211) #[] #[.pointer (some ⟨w.heap.size + 1, 0, none⟩), .pointer (some ⟨w.heap.size, 0, none⟩)]) ∧ Kept w' (w.heap.size + 1) w.heap.size (-1) E ∧ Below w.heap.size w w' := by
  go_enter Tryz.func182, Tryz.ntmps182
  go_wp2_with fail
  go_ret
  refine ⟨rfl, ⟨?_, ?_, ?_⟩, ?_⟩
  · simp [go_sem]
  · simp [go_sem]
  · simp [go_sem]
  · go_grown
theorem Kept.below {w w' : World} {p q B : Nat} {a E : Int} (h : Kept w p q a E) (hb : Below B w w') (hp : p < B) (hq : q < B) : Kept w' p q a E :=
  ⟨(hb.cell (p := ⟨p, 0, none⟩) hp).trans h.1, (hb.frozen (p := ⟨p, 0, none⟩) hp).trans h.2.1, (hb.cell (p := ⟨q, 0, none⟩) hq).trans h.2.2⟩
/-- One place asked. -/
theorem stray_cl {p q B : Nat} (hpq : p ≠ q) (hB : B ≤ p) (a E x : Int) (w : World) (hk : Kept w p q a E) :
    Calls Tryz.prog 211 (#[.int .i64 x] ++ #[.pointer (some ⟨p, 0, none⟩), .pointer (some ⟨q, 0, none⟩)]) w fun e w' => e = .returned (.bool (!decide (a < x ∧ x < E))) ∧ Kept w' p q x E ∧ Below B w w' := by
  obtain ⟨c1, c2, c3⟩ := hk
  have key : ∀ n, Kept ((w.drewN n).setCell ⟨p, 0, none⟩ (.int .i64 x)) p q x E ∧ Below B w ((w.drewN n).setCell ⟨p, 0, none⟩ (.int .i64 x)) := fun n => by
    refine ⟨⟨World.cell?_setCell_same _ _ _ c1, ?_, ?_⟩, (belowN B w n).setCell hB _⟩
    · rw [World.frozen?_setCell]; exact c2
    · rw [World.cell?_setCell_other _ _ _ _ (by intro e; injection e with e1 e2; exact hpq e1)]; exact c3
  have HK := hid key
  clear key
  by_cases h1 : x ≤ a
  · rw [decide_eq_false (fun h => by omega)]
    go_enter Tryz.func211, Tryz.ntmps211
    go_wp2_with fail
    go_ret
    exact ⟨rfl, HK.out 0⟩
  · by_cases h2 : E ≤ x
    · rw [decide_eq_false (fun h => by omega)]
      go_enter Tryz.func211, Tryz.ntmps211
      go_wp2_with fail
      go_ret
      exact ⟨rfl, HK.out 0⟩
    · rw [decide_eq_true (show a < x ∧ x < E by omega)]
      go_enter Tryz.func211, Tryz.ntmps211
      go_wp2_with fail
      go_ret
      exact ⟨rfl, HK.out 0⟩
theorem stray_index {A : Option Addr} {c p q B : Nat} (hpq : p ≠ q) (hp : B ≤ p) (hq : B ≤ q) (E : Int) (l : List Int) (hl : l.length ≤ 9223372036854775807) (w : World) (ra : Rd (Value.int .i64) w B A l) (hk : Kept w p q (-1) E) :
    Calls Tryz.prog 210 #[.slice A l.length c, .func (.func 211) #[] #[.pointer (some ⟨p, 0, none⟩), .pointer (some ⟨q, 0, none⟩)]] w fun e w' => ∃ r : Int, e = .returned (.int .i64 r) ∧ decide (0 ≤ r) = !gdB E l ∧ Below B w w' := by
  have HC := hid (fun a x W h => stray_cl (p := p) (q := q) (B := B) hpq hp a E x W h)
  have hcl := cl_enter 211 (by kernel_rfl)
  have HA := hid ra
  have HY : Hid (gdP E l → gdB E l = true) := hid (fun h => decide_eq_true h)
  have HN : Hid (¬ gdP E l → gdB E l = false) := hid (fun h => decide_eq_false h)
  obtain ⟨R, hR⟩ : ∃ R, gdB E l = R := ⟨_, rfl⟩
  rw [hR] at HY HN ⊢
  clear ra hR
  have HK := hid hk
  clear hk
  go_enter Tryz.func210, Tryz.ntmps210
  go_wp2_with fail
  go_loopw [5, 8] (fun i0 i wr => ∃ k : Nat, k ≤ l.length ∧ i = .int .i64 k ∧ gdP E (l.take k) ∧ Kept wr p q (lastI (-1) (l.take k)) E ∧ Below B w wr) (fun _ i _ => l.length - (intOf i).toNat)
  case atStart => exact ⟨0, by omega, rfl, by rw [List.take_zero]; exact gd_nil E, HK.out, Below.refl _ _⟩
  case round =>
    obtain ⟨k, hk, rfl, hg, hkp, hb⟩ := hrel
    have HG := hid hg
    have HP := hid hkp
    clear hg hkp
    by_cases hlt : k < l.length
    · obtain ⟨b1, o1, x, rfl, l1, ex, c1⟩ := (HA.out.below hb).at_ hlt
      have C := hid (HC.out (lastI (-1) (l.take k)) x wr HP.out)
      have HL := hid (lastI_step ex)
      have HS := hid (gd_step HG.out ex)
      have HF := hid (gd_no HG.out ex)
      obtain ⟨t, ht⟩ : ∃ t, lastI (-1) (l.take k) = t := ⟨_, rfl⟩
      rw [ht] at C HS HF
      clear ex ht HP
      by_cases a : t < x ∧ x < E
      · rw [decide_eq_true a] at C
        have HG2 := hid (HS.out.2 a)
        clear a HS HF
        go_wp2_with fail
        refine C.out.mono ?_
        rintro _ w2 ⟨rfl, hk2, hb2⟩
        have HK2 := hid hk2
        clear hk2
        go_wp2_with fail
        go_roundw
        case rel => exact ⟨k + 1, by omega, by go_num, HG2.out, by rw [HL.out]; exact HK2.out, hb.trans hb2⟩
        case measure => simp [intOf]; omega
      · rw [decide_eq_false a] at C
        have hR := HN.out (HF.out a)
        subst hR
        clear a HS HF
        go_wp2_with fail
        refine C.out.mono ?_
        rintro _ w2 ⟨rfl, hk2, hb2⟩
        clear hk2
        go_wp2_with fail
        go_ret
        exact ⟨_, rfl, decide_eq_true (by omega), hb.trans hb2⟩
    · have hR := HY.out (by have h := HG.out; rw [List.take_of_length_le (by omega)] at h; exact h)
      subst hR
      go_wp2_with fail
      go_ret
      exact ⟨_, rfl, by decide, hb⟩
theorem stray_contains {A : Option Addr} {c p q B : Nat} (hpq : p ≠ q) (hp : B ≤ p) (hq : B ≤ q) (E : Int) (l : List Int) (hl : l.length ≤ 9223372036854775807) (w : World) (ra : Rd (Value.int .i64) w B A l) (hk : Kept w p q (-1) E) :
    Calls Tryz.prog 181 #[.slice A l.length c, .func (.func 211) #[] #[.pointer (some ⟨p, 0, none⟩), .pointer (some ⟨q, 0, none⟩)]] w fun e w' => e = .returned (.bool (!gdB E l)) ∧ Below B w w' := by
  have C := hid (stray_index (A := A) (c := c) hpq hp hq E l hl w ra hk)
  obtain ⟨R, hR⟩ : ∃ R, (!gdB E l) = R := ⟨_, rfl⟩
  rw [hR] at C ⊢
  clear hR ra hk
  go_enter Tryz.func181, Tryz.ntmps181
  go_wp2_with fail
  refine C.out.mono ?_
  rintro _ w2 ⟨r, rfl, hr, hb⟩
  go_wp2_with fail
  go_ret
  exact ⟨rfl, hb⟩
theorem ix_Check {A : Option Addr} {c : Nat} (dim : Int) (l : List Int) (hd : I64 dim) (hl : l.length ≤ 100000) (w : World) (ra : Rd (Value.int .i64) w w.heap.size A l) :
    Calls Tryz.prog 136 #[.int .i64 dim, .slice A l.length c] w fun e w' => e = .returned (.int .i64 (chkE dim l)) ∧ Below w.heap.size w w' := by
  have CM := hid (ix_may dim hd)
  have HA := hid ra
  by_cases h1 : 1 ≤ dim ∧ dim ≤ 4096
  · have e : chkE dim l = if gdB dim l = true then 0 else 1 := by
      by_cases g : gdP dim l
      · rw [chk_ok.2 ⟨h1.1, h1.2, g.1, g.2⟩, if_pos (show gdB dim l = true from decide_eq_true g)]
      · rw [chk_no (fun h => g ⟨h.2.2.1, h.2.2.2⟩), if_neg]
        unfold gdB
        simpa using g
    rw [decide_eq_true h1] at CM
    rw [e]
    have CS := hid (ix_stray dim w)
    have CC := hid (fun W h1 h2 => stray_contains (A := A) (c := c) (p := w.heap.size + 1) (q := w.heap.size) (B := w.heap.size) (by omega) (by omega) (by omega) dim l (by omega) W h1 h2)
    obtain ⟨R, hR⟩ : ∃ R, gdB dim l = R := ⟨_, rfl⟩
    rw [hR] at CC ⊢
    clear hR e ra h1
    go_enter Tryz.func136, Tryz.ntmps136
    go_wp2_with fail
    refine (CM.out w).mono ?_
    rintro _ _ ⟨rfl, rfl⟩
    go_wp2_with fail
    refine CS.out.mono ?_
    rintro _ w1 ⟨rfl, hk1, hb1⟩
    have C := hid (CC.out w1 (HA.out.below hb1) hk1)
    clear CC CS CM hk1
    cases R with
    | true =>
      go_wp2_with fail
      refine C.out.mono ?_
      rintro _ w2 ⟨rfl, hb2⟩
      go_wp2_with fail
      go_ret
      exact ⟨rfl, hb1.trans hb2⟩
    | false =>
      go_wp2_with fail
      refine C.out.mono ?_
      rintro _ w2 ⟨rfl, hb2⟩
      go_wp2_with fail
      go_ret
      exact ⟨rfl, hb1.trans hb2⟩
  · rw [decide_eq_false h1] at CM
    rw [chk_no (fun h => h1 ⟨h.1, h.2.1⟩)]
    clear ra h1
    go_enter Tryz.func136, Tryz.ntmps136
    go_wp2_with fail
    refine (CM.out w).mono ?_
    rintro _ _ ⟨rfl, rfl⟩
    go_wp2_with fail
    go_ret
    exact ⟨rfl, Below.refl _ _⟩
end Go.Proofs.YtecgbelgoomneaaGreat
/- Bits set one by one, wherever they go: plain mathematics. -/
namespace Go.Proofs.YtecgbelgoomneaaGreat
open Go.RowKit
set_option maxRecDepth 100000
set_option linter.unusedVariables false
theorem byF_congr {n : Nat} {f g : Nat → Bool} (h : ∀ k, k < n → f k = g k) (i : Nat) : byF n f i = byF n g i := by
  have e : ∀ p w, bv n f p w = bv n g p w := fun p w => by
    unfold bv
    by_cases hp : p < n
    · rw [h p hp]
    · rw [if_neg (by omega), if_neg (by omega)]
  unfold byF
  simp only [e]
theorem byF_same {n a i : Nat} {f g : Nat → Bool} (h : ∀ p, p < n → p ≠ a → g p = f p) (hi : i ≠ a / 8) : byF n g i = byF n f i := by
  have e : ∀ p w, p / 8 = i → bv n g p w = bv n f p w := fun p w hp => by
    unfold bv
    by_cases hn : p < n
    · rw [h p hn (by omega)]
    · rw [if_neg (by omega), if_neg (by omega)]
  unfold byF
  rw [e _ _ (by omega), e _ _ (by omega), e _ _ (by omega), e _ _ (by omega), e _ _ (by omega), e _ _ (by omega), e _ _ (by omega), e _ _ (by omega)]
theorem or8 : ∀ (r : Fin 8) (a b c d e f g h : Bool), [a, b, c, d, e, f, g, h].getD r.val false = false →
    bits BinOp.or IntKind.u8 (sum8 a b c d e f g h) (2 ^ (7 - r.val)) = sum8 (a || r.val == 0) (b || r.val == 1) (c || r.val == 2) (d || r.val == 3) (e || r.val == 4) (f || r.val == 5) (g || r.val == 6) (h || r.val == 7) := by decide +kernel
theorem byF_set {n a : Nat} {f g : Nat → Bool} (ha : a < n) (h0 : f a = false) (h1 : g a = true) (h : ∀ p, p < n → p ≠ a → g p = f p) :
    bits BinOp.or IntKind.u8 (byF n f (a / 8)) (2 ^ (7 - a % 8)) = byF n g (a / 8) := by
  have e : ∀ t, t < 8 → (decide (8 * (a / 8) + t < n) && g (8 * (a / 8) + t)) = ((decide (8 * (a / 8) + t < n) && f (8 * (a / 8) + t)) || a % 8 == t) := fun t ht => by
    by_cases he : a % 8 = t
    · rw [show 8 * (a / 8) + t = a by omega, h1]
      simp [ha, he]
    · by_cases hn : 8 * (a / 8) + t < n
      · rw [h _ hn (by omega)]
        simp [he]
      · simp [he, hn]
  have e0 := e 0 (by omega)
  rw [Nat.add_zero] at e0
  rw [byF_sum, byF_sum, e0, e 1 (by omega), e 2 (by omega), e 3 (by omega), e 4 (by omega), e 5 (by omega), e 6 (by omega), e 7 (by omega)]
  refine or8 ⟨a % 8, by omega⟩ _ _ _ _ _ _ _ _ ?_
  have ea : ∀ t, a % 8 = t → (decide (8 * (a / 8) + t < n) && f (8 * (a / 8) + t)) = false := fun t ht => by
    rw [show 8 * (a / 8) + t = a by omega, h0, Bool.and_false]
  have h8 : a % 8 < 8 := by omega
  show List.getD _ (a % 8) false = false
  obtain ⟨r, hr⟩ : ∃ r, a % 8 = r := ⟨_, rfl⟩
  rw [hr] at h8 ea ⊢
  match r, h8 with
  | 0, _ => exact ea 0 rfl
  | 1, _ => exact ea 1 rfl
  | 2, _ => exact ea 2 rfl
  | 3, _ => exact ea 3 rfl
  | 4, _ => exact ea 4 rfl
  | 5, _ => exact ea 5 rfl
  | 6, _ => exact ea 6 rfl
  | 7, _ => exact ea 7 rfl
/-- Where each bit of each number goes, and back. -/
def Places (k m : Nat) (pl : Nat → Nat → Nat) (nu bi : Nat → Nat) : Prop :=
  (∀ i j, i < m → j < k → nu (pl i j) = i ∧ bi (pl i j) = j ∧ pl i j < k * m) ∧ ∀ p, p < k * m → nu p < m ∧ bi p < k ∧ pl (nu p) (bi p) = p
theorem places_side (k m : Nat) : Places k m (fun i j => i * k + j) (fun p => p / k) (fun p => p % k) := by
  constructor
  · intro i j hi hj
    refine ⟨?_, ?_, place_lt hi hj⟩
    · show (i * k + j) / k = i
      rw [Nat.mul_comm, Nat.mul_add_div (by omega), Nat.div_eq_of_lt hj, Nat.add_zero]
    · show (i * k + j) % k = j
      rw [Nat.mul_comm, Nat.mul_add_mod, Nat.mod_eq_of_lt hj]
  · intro p hp
    have hk : 0 < k := Nat.pos_of_ne_zero (by rintro rfl; simp at hp)
    refine ⟨Nat.div_lt_of_lt_mul hp, Nat.mod_lt p hk, ?_⟩
    show p / k * k + p % k = p
    rw [Nat.mul_comm]; exact Nat.div_add_mod p k
theorem places_plane (k m : Nat) : Places k m (fun i j => j * m + i) (fun p => p % m) (fun p => p / m) := by
  constructor
  · intro i j hi hj
    refine ⟨?_, ?_, ?_⟩
    · show (j * m + i) % m = i
      rw [Nat.mul_comm, Nat.mul_add_mod, Nat.mod_eq_of_lt hi]
    · show (j * m + i) / m = j
      rw [Nat.mul_comm, Nat.mul_add_div (by omega), Nat.div_eq_of_lt hi, Nat.add_zero]
    · have := place_lt (w := m) (m := k) hj hi
      rw [Nat.mul_comm k m]; exact this
  · intro p hp
    have hm : 0 < m := Nat.pos_of_ne_zero (by rintro rfl; simp at hp)
    refine ⟨Nat.mod_lt p hm, Nat.div_lt_of_lt_mul (by rw [Nat.mul_comm]; exact hp), ?_⟩
    show p / m * m + p % m = p
    rw [Nat.mul_comm]; exact Nat.div_add_mod p m
/-- The bits that are set when all numbers ahead of i, and of i the bits ahead of j, are written. -/
def GB (f : Nat → Bool) (nu bi : Nat → Nat) (i j : Nat) : Nat → Bool := fun p => f p && decide (nu p < i ∨ nu p = i ∧ bi p < j)
section
variable {k m : Nat} {pl : Nat → Nat → Nat} {nu bi : Nat → Nat} {f : Nat → Bool}
theorem GB_zero (n x : Nat) : byF n (GB f nu bi 0 0) x = 0 := by
  rw [byF_congr (g := fun _ => false) (fun p _ => by unfold GB; simp)]
  unfold byF bv
  simp
theorem GB_next (h : Places k m pl nu bi) {i : Nat} (hi : i < m) (x : Nat) : byF (k * m) (GB f nu bi i k) x = byF (k * m) (GB f nu bi (i + 1) 0) x := byF_congr (fun p hp => by
  obtain ⟨h1, h2, h3⟩ := h.2 p hp
  unfold GB
  congr 1
  rw [decide_eq_decide]
  omega) x
theorem GB_end (h : Places k m pl nu bi) (x : Nat) : byF (k * m) (GB f nu bi m 0) x = byF (k * m) f x := byF_congr (fun p hp => by
  obtain ⟨h1, h2, h3⟩ := h.2 p hp
  unfold GB
  rw [decide_eq_true (Or.inl h1), Bool.and_true]) x
theorem GB_else (h : Places k m pl nu bi) {i j p : Nat} (hp : p < k * m) (he : p ≠ pl i j) : GB f nu bi i (j + 1) p = GB f nu bi i j p := by
  obtain ⟨h1, h2, h3⟩ := h.2 p hp
  unfold GB
  congr 1
  rw [decide_eq_decide]
  have : ¬ (nu p = i ∧ bi p = j) := by
    rintro ⟨rfl, rfl⟩
    exact he h3.symm
  omega
theorem GB_off (h : Places k m pl nu bi) {i j : Nat} (hf : f (pl i j) = false) (x : Nat) : byF (k * m) (GB f nu bi i (j + 1)) x = byF (k * m) (GB f nu bi i j) x := byF_congr (fun p hp => by
  by_cases he : p = pl i j
  · rw [he]; unfold GB; rw [hf]; rfl
  · exact GB_else h hp he) x
theorem GB_other (h : Places k m pl nu bi) {i j x : Nat} (hx : x ≠ pl i j / 8) : byF (k * m) (GB f nu bi i (j + 1)) x = byF (k * m) (GB f nu bi i j) x := byF_same (fun p hp he => GB_else h hp he) hx
theorem GB_on (h : Places k m pl nu bi) {i j : Nat} (hi : i < m) (hj : j < k) (hf : f (pl i j) = true) :
    bits BinOp.or IntKind.u8 (byF (k * m) (GB f nu bi i j) (pl i j / 8)) (2 ^ (7 - pl i j % 8)) = byF (k * m) (GB f nu bi i (j + 1)) (pl i j / 8) := by
  obtain ⟨h1, h2, h3⟩ := h.1 i j hi hj
  refine byF_set h3 ?_ ?_ (fun p hp he => GB_else h hp he)
  · unfold GB; rw [h1, h2]; simp
  · unfold GB; rw [h1, h2, hf]; simp
end
theorem or_none {x : Int} (h0 : 0 ≤ x) (h1 : x ≤ 255) : bits BinOp.or IntKind.u8 x 0 = x := by
  obtain ⟨n, rfl⟩ := Int.eq_ofNat_of_zero_le h0
  show IntKind.u8.wrap ((BitVec.ofInt 8 n ||| BitVec.ofInt 8 ((0 : Nat) : Int)).toNat : Int) = _
  rw [BitVec.toNat_or, BitVec.ofInt_natCast, BitVec.ofInt_natCast, BitVec.toNat_ofNat, BitVec.toNat_ofNat, Nat.mod_eq_of_lt (by omega), show 0 % 2 ^ 8 = 0 from rfl, Nat.or_zero]
  simp [IntKind.wrap, IntKind.bits, IntKind.signed]
  omega
/-- A bit as a number. -/
def b2 (v : Bool) : Int := if v then 1 else 0
theorem and_u8 {x : Int} (h0 : 0 ≤ x) (h1 : x ≤ 255) (s : Nat) : bits BinOp.and IntKind.u8 (x / 2 ^ s) 1 = b2 (bt x s) := by
  obtain ⟨n, hn⟩ := Int.eq_ofNat_of_zero_le (Int.ediv_nonneg h0 (show (0 : Int) ≤ 2 ^ s from Int.pow_nonneg (by decide)))
  have hle : x / 2 ^ s ≤ x := Int.ediv_le_self _ h0
  unfold bt b2
  rw [hn] at hle ⊢
  show IntKind.u8.wrap ((BitVec.ofInt 8 n &&& BitVec.ofInt 8 ((1 : Nat) : Int)).toNat : Int) = _
  rw [BitVec.toNat_and, BitVec.ofInt_natCast, BitVec.ofInt_natCast, BitVec.toNat_ofNat, BitVec.toNat_ofNat, Nat.mod_eq_of_lt (by omega), show 1 % 2 ^ 8 = 1 from rfl, Nat.and_one_is_mod]
  by_cases h : n % 2 = 1
  · rw [h, if_pos (by simp; omega)]; rfl
  · rw [show n % 2 = 0 by omega, if_neg (by simp; omega)]; rfl
theorem and_u64 {x : Int} (hx : U64 x) (s : Nat) : bits BinOp.and IntKind.u64 (x / 2 ^ s) 1 = b2 (bt x s) := by
  unfold U64 at hx
  have h0 := hx.1
  obtain ⟨n, hn⟩ := Int.eq_ofNat_of_zero_le (Int.ediv_nonneg h0 (show (0 : Int) ≤ 2 ^ s from Int.pow_nonneg (by decide)))
  have hle : x / 2 ^ s ≤ x := Int.ediv_le_self _ h0
  unfold bt b2
  rw [hn] at hle ⊢
  show IntKind.u64.wrap ((BitVec.ofInt 64 n &&& BitVec.ofInt 64 ((1 : Nat) : Int)).toNat : Int) = _
  rw [BitVec.toNat_and, BitVec.ofInt_natCast, BitVec.ofInt_natCast, BitVec.toNat_ofNat, BitVec.toNat_ofNat, Nat.mod_eq_of_lt (by omega), show 1 % 2 ^ 64 = 1 from rfl, Nat.and_one_is_mod]
  by_cases h : n % 2 = 1
  · rw [h, if_pos (by simp; omega)]; rfl
  · rw [show n % 2 = 0 by omega, if_neg (by simp; omega)]; rfl
theorem or_u64 {y : Int} (h0 : 0 ≤ y) (h1 : y ≤ 4294967296) (v : Bool) : bits BinOp.or IntKind.u64 (y * 2) (b2 v) = 2 * y + if v = true then 1 else 0 := by
  obtain ⟨n, rfl⟩ := Int.eq_ofNat_of_zero_le h0
  obtain ⟨t, ht, hv⟩ : ∃ t : Nat, t < 2 ∧ b2 v = t := by cases v; exact ⟨0, by decide, rfl⟩; exact ⟨1, by decide, rfl⟩
  have hv2 : (if v = true then 1 else 0 : Int) = t := hv
  rw [hv, hv2, show ((n : Int) * 2) = ((2 * n : Nat) : Int) by omega]
  show IntKind.u64.wrap ((BitVec.ofInt 64 _ ||| BitVec.ofInt 64 _).toNat : Int) = _
  rw [BitVec.toNat_or, BitVec.ofInt_natCast, BitVec.ofInt_natCast, BitVec.toNat_ofNat, BitVec.toNat_ofNat, Nat.mod_eq_of_lt (by omega), Nat.mod_eq_of_lt (by omega)]
  have e : 2 * n ||| t = 2 * n + t := by
    have := Nat.two_pow_add_eq_or_of_lt (i := 1) (b := t) ht n
    rw [Nat.pow_one] at this
    exact this.symm
  rw [e]
  simp [IntKind.wrap, IntKind.bits, IntKind.signed]
  omega
end Go.Proofs.YtecgbelgoomneaaGreat
/- The program's widths, bytes, single bits, and places as function values. -/
namespace Go.Proofs.YtecgbelgoomneaaGreat
open Go.RowKit
set_option maxHeartbeats 400000
set_option maxRecDepth 100000
set_option linter.unusedVariables false
theorem pl_Width (n : Int) (hn : U64 n) (w : World) :
    Calls Tryz.prog 185 #[.int .u64 n] w fun e w' => e = .returned (.int .i64 (wdt n : Int)) ∧ w = w' := by
  unfold U64 at hn
  have CL := hid (Tryz.bits_Len64 n w hn.1 hn.2)
  rw [show (Lib.bitLen n.toNat : Int) = (wdt n : Int) from rfl] at CL
  obtain ⟨R, hR⟩ : ∃ R, wdt n = R := ⟨_, rfl⟩
  rw [hR] at CL ⊢
  clear hR
  go_enter Tryz.func185, Tryz.ntmps185
  go_wp2_with fail
  refine CL.out.mono ?_
  rintro _ _ ⟨rfl, rfl⟩
  go_wp2_with fail
  go_ret
  exact ⟨rfl, rfl⟩
theorem pl_Bytes (wd many : Int) (hw : I64 wd) (hm : I64 many) (w : World) :
    Calls Tryz.prog 213 #[.int .i64 wd, .int .i64 many] w fun e w' => e = .returned (.tuple #[.int .i64 (bysV wd many), .int .i64 (bysE wd many)]) ∧ w = w' := by
  unfold I64 at hw hm
  unfold bysV bysE
  by_cases h1 : wd < 0 ∨ 32 < wd ∨ many < 0
  · rw [if_pos h1, if_neg (by decide)]
    by_cases a : wd < 0
    · clear h1
      go_enter Tryz.func213, Tryz.ntmps213
      go_wp2_with fail
      go_ret2
      exact ⟨rfl, rfl⟩
    · by_cases b : 32 < wd
      · clear h1
        go_enter Tryz.func213, Tryz.ntmps213
        go_wp2_with fail
        go_ret2
        exact ⟨rfl, rfl⟩
      · have c : many < 0 := by omega
        clear h1
        go_enter Tryz.func213, Tryz.ntmps213
        go_wp2_with fail
        go_ret2
        exact ⟨rfl, rfl⟩
  · rw [if_neg h1]
    have a : 0 ≤ wd := by omega
    have b : wd ≤ 32 := by omega
    have c : 0 ≤ many := by omega
    by_cases h2 : 4096 < many
    · rw [if_pos h2, if_neg (by decide)]
      clear h1
      go_enter Tryz.func213, Tryz.ntmps213
      go_wp2_with fail
      go_ret2
      exact ⟨rfl, rfl⟩
    · rw [if_neg h2, if_pos rfl]
      have hp : 0 ≤ wd * many ∧ wd * many ≤ 131072 := by
        have h3 := Int.mul_nonneg a c
        have h4 := Int.mul_le_mul b (show many ≤ 4096 by omega) c (by decide)
        omega
      obtain ⟨q, hq⟩ : ∃ q, wd * many = q := ⟨_, rfl⟩
      rw [hq] at hp ⊢
      have e8 : q + 8 - 1 = q + 7 := by omega
      clear h1
      go_enter Tryz.func213, Tryz.ntmps213
      go_wp2_with fail
      go_ret2
      exact ⟨rfl, rfl⟩
theorem pl_shift (p : Nat) (hp : p ≤ 1000000) (w : World) :
    Calls Tryz.prog 215 #[.int .i64 (p : Int)] w fun e w' => e = .returned (.int .i64 ((7 - p % 8 : Nat) : Int)) ∧ w = w' := by
  obtain ⟨s, hs⟩ : ∃ s, 7 - p % 8 = s := ⟨_, rfl⟩
  rw [hs]
  have e1 : (7 : Int) - (p : Int) % 8 = (s : Int) := by omega
  clear hs
  go_enter Tryz.func215, Tryz.ntmps215
  go_wp2_with fail
  go_ret
  exact ⟨rfl, rfl⟩
theorem pl_one {A : Option Addr} {c : Nat} (b : List Int) (hb : b.length ≤ 100000) (ub : U8s b) (p : Nat) (hp : p < 8 * b.length) (w : World) {B : Nat} (ra : Rd (Value.int .u8) w B A b) :
    Calls Tryz.prog 250 #[.slice A b.length c, .int .i64 (p : Int)] w fun e w' => e = .returned (.int .u8 (b2 (fB b p))) ∧ ∃ n, w' = w.drewN n := by
  obtain ⟨b1, o1, x, rfl, l1, ex, c1⟩ := ra.at_ (show p / 8 < b.length by omega)
  obtain ⟨x0, x1⟩ := ub.at_ ex
  have CS := hid (pl_shift p (by omega))
  have e1 := and_u8 x0 x1 (7 - p % 8)
  have e2 : bt x (7 - p % 8) = fB b p := by unfold fB; rw [getD_of ex]
  rw [e2] at e1
  obtain ⟨s, hs⟩ : ∃ s, 7 - p % 8 = s := ⟨_, rfl⟩
  have hs7 : s ≤ 7 := by omega
  obtain ⟨R, hR⟩ : ∃ R, b2 (fB b p) = R := ⟨_, rfl⟩
  rw [hs] at CS e1
  rw [hR] at e1 ⊢
  obtain ⟨n, hn⟩ : ∃ n, b.length = n := ⟨_, rfl⟩
  rw [hn] at hb hp ⊢
  have hq1 : (0 : Int) ≤ (p : Int) / 8 := by omega
  have hq2 : (p : Int) / 8 < (n : Int) := by omega
  clear ex hs hR e2 ra ub hn
  go_enter Tryz.func250, Tryz.ntmps250
  go_wp2_with fail
  go_quiet ((go_at_call 215; exact quietL CS.out _))
  go_wp2_with fail
  go_ret
  exact ⟨rfl, _, rfl⟩
theorem tlB_no {n : Nat} {b : List Int} {p : Nat} (h : fB b p = true) (h1 : n ≤ p) (h2 : p < 8 * b.length) : tlB n b = false := by
  cases ht : tlB n b with
  | false => rfl
  | true =>
    have := (tlB_iff n b).1 ht p h1 h2
    rw [h] at this
    exact this
theorem pl_left {A : Option Addr} {c : Nat} (b : List Int) (hb : b.length ≤ 100000) (ub : U8s b) (n : Nat) (hn : n ≤ 8 * b.length) (w : World) {B : Nat} (ra : Rd (Value.int .u8) w B A b) :
    Calls Tryz.prog 249 #[.slice A b.length c, .int .i64 (n : Int)] w fun e w' => e = .returned (.bool (!tlB n b)) ∧ ∃ m, w' = w.drewN m := by
  have HO := hid (fun p (hp : p < 8 * b.length) W hW => pl_one (A := A) (c := c) b hb ub p hp W (B := B) hW)
  have HT : Hid (∀ p, n ≤ p → p < 8 * b.length → fB b p = true → tlB n b = false) := hid (fun p h1 h2 h => tlB_no h h1 h2)
  have HY := hid (tlB_iff n b).2
  obtain ⟨R, hR⟩ : ∃ R, tlB n b = R := ⟨_, rfl⟩
  rw [hR] at HT HY ⊢
  obtain ⟨f, hf⟩ : ∃ f, fB b = f := ⟨_, rfl⟩
  rw [hf] at HT HO HY
  obtain ⟨N, hN⟩ : ∃ N, b.length = N := ⟨_, rfl⟩
  rw [hN] at HO HT HY hb hn ⊢
  have RA := hid ra
  clear hR hf hN ub ra
  go_enter Tryz.func249, Tryz.ntmps249
  go_wp2_with fail
  go_loopw [5] (fun s wr => ∃ p : Nat, n ≤ p ∧ p ≤ 8 * N ∧ s = .int .i64 p ∧ (∀ q, n ≤ q → q < p → f q = false) ∧ ∃ m, wr = w.drewN m) (fun s _ => 8 * N - (intOf s).toNat)
  case atStart => exact ⟨n, Nat.le_refl _, hn, rfl, by intro q h1 h2; omega, 0, rfl⟩
  case round =>
    obtain ⟨p, hp0, hp, rfl, hs, m, rfl⟩ := hrel
    have HS := hid hs
    clear hs
    by_cases hlt : p < 8 * N
    · have C := hid (HO.out p hlt (w.drewN m) RA.out)
      have hTp := HT.out p hp0 hlt
      obtain ⟨v, hv⟩ : ∃ v, f p = v := ⟨_, rfl⟩
      rw [hv] at C hTp
      have HV := hid hv
      clear hv
      cases v with
      | true =>
        have hR := hTp rfl
        subst hR
        go_wp2_with fail
        refine C.out.mono ?_
        rintro _ _ ⟨rfl, m2, rfl⟩
        go_wp2_with fail
        go_ret
        exact ⟨rfl, _, rfl⟩
      | false =>
        clear hTp
        go_wp2_with fail
        refine C.out.mono ?_
        rintro _ _ ⟨rfl, m2, rfl⟩
        go_wp2_with fail
        go_roundw
        case rel =>
          refine ⟨p + 1, by omega, by omega, by go_num, ?_, m + m2, by simp⟩
          intro q h1 h2
          by_cases e : q = p
          · rw [e]; exact HV.out
          · exact HS.out q h1 (by omega)
        case measure => simp [intOf]; omega
    · have hR : R = true := HY.out (fun q h1 h2 => HS.out q h1 (by omega))
      subst hR
      go_wp2_with fail
      go_ret
      exact ⟨rfl, _, rfl⟩
theorem side_cl {p i j k P : Nat} {w : World} (hc : w.cell? ⟨p, 0, none⟩ = some (.int .i64 (k : Int))) (hP : i * k + j = P) (h1 : P ≤ 1000000) :
    Calls Tryz.prog 248 (#[.int .i64 (i : Int), .int .i64 (j : Int)] ++ #[.pointer (some ⟨p, 0, none⟩)]) w fun e w' => e = .returned (.int .i64 (P : Int)) ∧ w = w' := by
  obtain ⟨q, hq⟩ : ∃ q, i * k = q := ⟨_, rfl⟩
  have hm : (i : Int) * (k : Int) = (q : Int) := by rw [← hq, Int.natCast_mul]
  have hs : (q : Int) + (j : Int) = (P : Int) := by omega
  clear hq hP
  go_enter Tryz.func248, Tryz.ntmps248
  go_wp2_with fail
  go_ret
  exact ⟨rfl, rfl⟩
theorem plane_cl {p i j m P : Nat} {w : World} (hc : w.cell? ⟨p, 0, none⟩ = some (.int .i64 (m : Int))) (hP : j * m + i = P) (h1 : P ≤ 1000000) :
    Calls Tryz.prog 216 (#[.int .i64 (i : Int), .int .i64 (j : Int)] ++ #[.pointer (some ⟨p, 0, none⟩)]) w fun e w' => e = .returned (.int .i64 (P : Int)) ∧ w = w' := by
  obtain ⟨q, hq⟩ : ∃ q, j * m = q := ⟨_, rfl⟩
  have hm : (j : Int) * (m : Int) = (q : Int) := by rw [← hq, Int.natCast_mul]
  have hs : (q : Int) + (i : Int) = (P : Int) := by omega
  clear hq hP
  go_enter Tryz.func216, Tryz.ntmps216
  go_wp2_with fail
  go_ret
  exact ⟨rfl, rfl⟩
theorem width_cl {p : Nat} {wd x : Int} {w : World} (hc : w.cell? ⟨p, 0, none⟩ = some (.int .i64 wd)) (ux : U64 x) :
    Calls Tryz.prog 214 (#[.int .u64 x] ++ #[.pointer (some ⟨p, 0, none⟩)]) w fun e w' => e = .returned (.bool (decide (wd < (wdt x : Int)))) ∧ ∃ n, w' = w.drewN n := by
  have CW := hid (fun W => pl_Width x ux W)
  obtain ⟨z, hz⟩ : ∃ z, wdt x = z := ⟨_, rfl⟩
  rw [hz] at CW ⊢
  clear hz
  go_enter Tryz.func214, Tryz.ntmps214
  go_wp2_with fail
  go_quiet ((go_at_call 185; exact quietL CW.out _))
  go_wp2_with fail
  go_ret
  exact ⟨rfl, _, rfl⟩
/-- The place of the first that is so, or -1. -/
def fidx (P : Int → Bool) (l : List Int) : Int := if l.any P = true then (l.findIdx P : Int) else -1
theorem fidx_at {P : Int → Bool} {l : List Int} {k : Nat} {x : Int} (hx : l[k]? = some x) (hp : P x = true) (h : ∀ y ∈ l.take k, P y = false) : fidx P l = k ∧ l.any P = true := by
  obtain ⟨hk, rfl⟩ := List.getElem?_eq_some_iff.1 hx
  have ha : l.any P = true := List.any_eq_true.2 ⟨l[k], List.getElem_mem hk, hp⟩
  refine ⟨?_, ha⟩
  unfold fidx
  rw [if_pos ha, (List.findIdx_eq hk).2 ⟨hp, fun j hj => h _ (by rw [List.mem_take_iff_getElem]; exact ⟨j, by omega, rfl⟩)⟩]
theorem fidx_no {P : Int → Bool} {l : List Int} (h : ∀ y ∈ l, P y = false) : fidx P l = -1 ∧ l.any P = false := by
  have ha : l.any P = false := by rw [List.any_eq_false]; intro y hy; rw [h y hy]; decide
  refine ⟨?_, ha⟩
  unfold fidx
  rw [ha]; rfl
theorem index_any {A : Option Addr} {c : Nat} (K : FuncId) (caps : Array Value) (l : List Int) (hl : l.length ≤ 100000) (P : Int → Bool) (w : World)
   (hK : ∀ (args : Array Value) (W : World), (callFunc K args).run Tryz.prog W = .ok (.enter K args) W) {B : Nat} (ra : Rd (Value.int .u64) w B A l)
   (H : ∀ x ∈ l, ∀ n, Calls Tryz.prog K (#[.int .u64 x] ++ caps) (w.drewN n) fun e w' => e = .returned (.bool (P x)) ∧ ∃ m, w' = (w.drewN n).drewN m) :
    Calls Tryz.prog 212 #[.slice A l.length c, .func (.func K) #[] caps] w fun e w' => e = .returned (.int .i64 (fidx P l)) ∧ ∃ n, w' = w.drewN n := by
  have HH := hid H
  have RA := hid ra
  have HF : Hid (∀ k x, l[k]? = some x → P x = true → (∀ y ∈ l.take k, P y = false) → fidx P l = k) := hid (fun k x h1 h2 h3 => (fidx_at h1 h2 h3).1)
  have HG : Hid ((∀ y ∈ l, P y = false) → fidx P l = -1) := hid (fun h => (fidx_no h).1)
  obtain ⟨R, hR⟩ : ∃ R, fidx P l = R := ⟨_, rfl⟩
  rw [hR] at HF HG ⊢
  obtain ⟨N, hN⟩ : ∃ N, l.length = N := ⟨_, rfl⟩
  have HN := hid hN
  rw [hN] at hl ⊢
  clear hR hN H ra
  go_enter Tryz.func212, Tryz.ntmps212
  go_wp2_with fail
  go_loopw [5, 8] (fun i0 i wr => ∃ k : Nat, k ≤ N ∧ i = .int .i64 k ∧ (∀ y ∈ l.take k, P y = false) ∧ ∃ m, wr = w.drewN m) (fun _ i _ => N - (intOf i).toNat)
  case atStart => exact ⟨0, by omega, rfl, by simp, 0, rfl⟩
  case round =>
    obtain ⟨k, hk, rfl, hs, m, rfl⟩ := hrel
    have HS := hid hs
    clear hs
    by_cases hlt : k < N
    · obtain ⟨b1, o1, x, rfl, l1, ex, c1⟩ := RA.out.at_ (k := k) (by rw [HN.out]; exact hlt)
      have C := hid (HH.out x (List.mem_of_getElem? ex) m)
      have hFk := HF.out k x ex
      obtain ⟨v, hv⟩ : ∃ v, P x = v := ⟨_, rfl⟩
      rw [hv] at C hFk
      have HV := hid hv
      have HE := hid ex
      clear hv ex
      cases v with
      | true =>
        have hR := hFk rfl HS.out
        subst hR
        go_wp2_with fail
        refine C.out.mono ?_
        rintro _ _ ⟨rfl, m2, rfl⟩
        go_wp2_with fail
        go_ret
        exact ⟨rfl, m + m2, by simp⟩
      | false =>
        clear hFk
        go_wp2_with fail
        refine C.out.mono ?_
        rintro _ _ ⟨rfl, m2, rfl⟩
        go_wp2_with fail
        go_roundw
        case rel =>
          refine ⟨k + 1, by omega, by go_num, ?_, m + m2, by simp⟩
          intro y hy
          rw [List.take_add_one, HE.out] at hy
          rcases List.mem_append.1 hy with h | h
          · exact HS.out y h
          · simp at h
            rw [h]; exact HV.out
        case measure => simp [intOf]; omega
    · have hR : R = -1 := HG.out (fun y hy => HS.out y (by rw [List.take_of_length_le (by rw [HN.out]; omega)]; exact hy))
      subst hR
      go_wp2_with fail
      go_ret
      exact ⟨rfl, _, rfl⟩
theorem contains_any {A : Option Addr} {c : Nat} (K : FuncId) (caps : Array Value) (l : List Int) (hl : l.length ≤ 100000) (P : Int → Bool) (w : World)
   (hK : ∀ (args : Array Value) (W : World), (callFunc K args).run Tryz.prog W = .ok (.enter K args) W) {B : Nat} (ra : Rd (Value.int .u64) w B A l)
   (H : ∀ x ∈ l, ∀ n, Calls Tryz.prog K (#[.int .u64 x] ++ caps) (w.drewN n) fun e w' => e = .returned (.bool (P x)) ∧ ∃ m, w' = (w.drewN n).drewN m) :
    Calls Tryz.prog 183 #[.slice A l.length c, .func (.func K) #[] caps] w fun e w' => e = .returned (.bool (l.any P)) ∧ ∃ n, w' = w.drewN n := by
  have C := hid (index_any (A := A) (c := c) K caps l hl P w hK ra H)
  have hge : decide (0 ≤ fidx P l) = l.any P := by
    unfold fidx
    by_cases h : l.any P = true
    · rw [if_pos h, h]; simp
    · rw [if_neg h]
      cases hb : l.any P with
      | true => exact absurd hb h
      | false => rfl
  obtain ⟨R, hR⟩ : ∃ R, fidx P l = R := ⟨_, rfl⟩
  obtain ⟨v, hv⟩ : ∃ v, l.any P = v := ⟨_, rfl⟩
  rw [hR, hv] at hge
  rw [hR] at C
  rw [hv]
  clear hR hv H ra
  go_enter Tryz.func183, Tryz.ntmps183
  go_wp2_with fail
  refine C.out.mono ?_
  rintro _ _ ⟨rfl, m, rfl⟩
  go_wp2_with fail
  go_ret
  exact ⟨rfl, _, rfl⟩
end Go.Proofs.YtecgbelgoomneaaGreat
/- A heap of places with sizes: which one is behind, what one that rises or sinks leaves, who is on top. Plain mathematics. No program in sight. -/
namespace Go.Proofs.YtecgbelgoomneaaGreat
open Go.Sort
set_option maxRecDepth 100000
set_option linter.unusedVariables false
/-- A place with its size is behind another one. -/
def beh (x y : Nat × Nat) : Bool := decide (x.2 < y.2 ∨ (x.2 = y.2 ∧ y.1 < x.1))
theorem beh_iff {x y : Nat × Nat} : beh x y = true ↔ x.2 < y.2 ∨ (x.2 = y.2 ∧ y.1 < x.1) := by unfold beh; simp
theorem beh_not {x y : Nat × Nat} : beh x y = false ↔ ¬ (x.2 < y.2 ∨ (x.2 = y.2 ∧ y.1 < x.1)) := by rw [← beh_iff, Bool.not_eq_true]
theorem beh_irr (x : Nat × Nat) : beh x x = false := beh_not.2 (by omega)
theorem beh_nt {x y z : Nat × Nat} (h1 : beh x y = false) (h2 : beh y z = false) : beh x z = false := by
  rw [beh_not] at *; omega
theorem beh_asym {x y : Nat × Nat} (h : beh x y = true) : beh y x = false := by
  rw [beh_iff] at h; rw [beh_not]; omega
/-- None of the first n is behind who stands above it. -/
def HpOk (d : Array (Nat × Nat)) (n : Nat) : Prop := ∀ i, 0 < i → i < n → beh d[i]! d[(i - 1) / 2]! = false
/-- .. but for the one at j, which may rise. -/
def HpUp (d : Array (Nat × Nat)) (n j : Nat) : Prop :=
  (∀ i, 0 < i → i < n → i ≠ j → beh d[i]! d[(i - 1) / 2]! = false) ∧ (∀ i, 0 < i → i < n → (i - 1) / 2 = j → 0 < j → beh d[i]! d[(j - 1) / 2]! = false)
/-- .. but for those below j, which may sink. -/
def HpDn (d : Array (Nat × Nat)) (n j : Nat) : Prop :=
  (∀ i, 0 < i → i < n → (i - 1) / 2 ≠ j → beh d[i]! d[(i - 1) / 2]! = false) ∧ (∀ i, 0 < i → i < n → (i - 1) / 2 = j → 0 < j → beh d[i]! d[(j - 1) / 2]! = false)
theorem hp_up_stop {d : Array (Nat × Nat)} {n j : Nat} (h : HpUp d n j) (h2 : 0 < j → beh d[j]! d[(j - 1) / 2]! = false) : HpOk d n := fun i h0 hn => by
  by_cases e : i = j
  · subst e; exact h2 h0
  · exact h.1 i h0 hn e
theorem hp_up_step {d : Array (Nat × Nat)} {n j : Nat} (h : HpUp d n j) (h0 : 0 < j) (hj : j < n) (hn : n ≤ d.size) (hb : beh d[j]! d[(j - 1) / 2]! = true) : HpUp (swp d ((j - 1) / 2) j) n ((j - 1) / 2) := by
  obtain ⟨p, hp⟩ : ∃ p, (j - 1) / 2 = p := ⟨_, rfl⟩
  have hpj : p < j := by omega
  have hg := fun k => swp_get d (show p < d.size by omega) (show j < d.size by omega) k
  rw [hp] at hb ⊢
  refine ⟨fun i i0 hi e => ?_, fun i i0 hi e1 e2 => ?_⟩
  · rw [hg, hg]
    by_cases c : i = j
    · rw [if_pos c, c, hp, if_neg (by omega), if_pos rfl]
      exact beh_asym hb
    · rw [if_neg c, if_neg e]
      by_cases c2 : (i - 1) / 2 = j
      · rw [if_pos c2]
        have := h.2 i i0 hi c2 h0
        rwa [hp] at this
      · rw [if_neg c2]
        by_cases c3 : (i - 1) / 2 = p
        · rw [if_pos c3]
          have := h.1 i i0 hi c
          rw [c3] at this
          exact beh_nt this (beh_asym hb)
        · rw [if_neg c3]
          exact h.1 i i0 hi c
  · rw [hg, hg, if_neg (show ¬ (p - 1) / 2 = j by omega), if_neg (show ¬ (p - 1) / 2 = p by omega)]
    have hpp := h.1 p e2 (by omega) (by omega)
    by_cases c : i = j
    · rw [if_pos c]; exact hpp
    · rw [if_neg c, if_neg (show ¬ i = p by omega)]
      have := h.1 i i0 hi c
      rw [e1] at this
      exact beh_nt this hpp
theorem hp_dn_stop {d : Array (Nat × Nat)} {n j : Nat} (h : HpDn d n j) (h2 : ∀ c, 0 < c → c < n → (c - 1) / 2 = j → beh d[c]! d[j]! = false) : HpOk d n := fun i h0 hn => by
  by_cases e : (i - 1) / 2 = j
  · rw [e]; exact h2 i h0 hn e
  · exact h.1 i h0 hn e
theorem hp_dn_step {d : Array (Nat × Nat)} {n j c : Nat} (h : HpDn d n j) (hc : 0 < c) (hcn : c < n) (hcj : (c - 1) / 2 = j) (hn : n ≤ d.size) (hb : beh d[c]! d[j]! = true)
    (ho : ∀ k, 0 < k → k < n → (k - 1) / 2 = j → beh d[k]! d[c]! = false) : HpDn (swp d j c) n c := by
  have hjc : j < c := by omega
  have hg := fun k => swp_get d (show j < d.size by omega) (show c < d.size by omega) k
  refine ⟨fun i i0 hi e => ?_, fun i i0 hi e1 e2 => ?_⟩
  · rw [hg, hg]
    by_cases e1 : i = c
    · rw [if_pos e1, e1, hcj, if_neg (by omega), if_pos rfl]
      exact beh_asym hb
    · rw [if_neg e1, if_neg e]
      by_cases e2 : i = j
      · rw [if_pos e2]
        by_cases e3 : (i - 1) / 2 = j
        · omega
        · rw [if_neg e3, e2]
          exact h.2 c hc hcn hcj (by omega)
      · rw [if_neg e2]
        by_cases e3 : (i - 1) / 2 = j
        · rw [if_pos e3]; exact ho i i0 hi e3
        · rw [if_neg e3]; exact h.1 i i0 hi e3
  · rw [hg, hg, if_neg (show ¬ i = c by omega), if_neg (show ¬ i = j by omega), hcj, if_neg (show ¬ j = c by omega), if_pos rfl]
    have := h.1 i i0 hi (by omega)
    rwa [e1] at this
/-- Nobody is behind the one on top. -/
theorem hp_top {d : Array (Nat × Nat)} {n : Nat} (h : HpOk d n) : ∀ i, i < n → beh d[i]! d[0]! = false := fun i => by
  induction i using Nat.strongRecOn with
  | _ i ih =>
    intro hi
    by_cases h0 : i = 0
    · subst h0; exact beh_irr _
    · exact beh_nt (h i (by omega) hi) (ih ((i - 1) / 2) (by omega) (by omega))
theorem push_get {d : Array (Nat × Nat)} {x : Nat × Nat} {i : Nat} (h : i < d.size) : (d.push x)[i]! = d[i]! := by
  rw [getElem!_pos (d.push x) i (by simp; omega), getElem!_pos d i h, Array.getElem_push_lt]
theorem hp_push {d : Array (Nat × Nat)} (h : HpOk d d.size) (x : Nat × Nat) : HpUp (d.push x) (d.size + 1) d.size :=
  ⟨fun i i0 hi e => by rw [push_get (by omega), push_get (by omega)]; exact h i i0 (by omega), fun i i0 hi e1 e2 => by omega⟩
/-- The last one is put on top, and may sink. -/
theorem hp_lower {d : Array (Nat × Nat)} {n : Nat} (h : HpOk d (n + 1)) (hn : n < d.size) : HpDn (swp d 0 n) n 0 := by
  refine ⟨fun i i0 hi e => ?_, fun i i0 hi e1 e2 => by omega⟩
  rw [swp_other d 0 n i (by omega) (by omega), swp_other d 0 n _ (by omega) (by omega)]
  exact h i i0 (by omega)
theorem swp_perm {d : Array (Nat × Nat)} {i j : Nat} (hi : i < d.size) (hj : j < d.size) : (swp d i j).toList.Perm d.toList := by
  have h := (swp_permIn d 0 d.size i j (Nat.zero_le _) hi (Nat.zero_le _) hj (Nat.le_refl _)).2.2
  have e1 : (swp d i j).extract 0 d.size = swp d i j := by rw [← size_swp d i j]; simp
  rw [e1] at h
  simpa using h
end Go.Proofs.YtecgbelgoomneaaGreat
/- Entries held against each other; the library's Compare and Or. -/
namespace Go.Proofs.YtecgbelgoomneaaGreat
open Go.RowKit
set_option maxHeartbeats 400000
set_option maxRecDepth 100000
set_option linter.unusedVariables false
def cmpI (x y : Int) : Int := if x < y then -1 else if x > y then 1 else 0
def orI (a b : Int) : Int := if a ≠ 0 then a else b
/-- Below 0, if the first is ahead of the second. -/
def cfE (x y : Nat × Nat) : Int := orI (cmpI y.2 x.2) (cmpI x.1 y.1)
theorem cfE_pos {x y : Nat × Nat} : (cfE x y > 0) ↔ beh x y = true := by
  rw [beh_iff]
  unfold cfE orI cmpI
  constructor
  · intro h
    split at h <;> split at h <;> (try split at h) <;> (try split at h) <;> omega
  · intro h
    split <;> split <;> (try split) <;> (try split) <;> omega
theorem hp_CmpI (x y : Int) (w : World) : Calls Tryz.prog 281 #[.int .i64 x, .int .i64 y] w fun e w' => e = .returned (.int .i64 (cmpI x y)) ∧ w = w' := by
  by_cases h1 : x < y
  · have e : cmpI x y = -1 := if_pos h1
    rw [e]
    clear e
    go_enter Tryz.func281, Tryz.ntmps281
    go_wp2
    go_ret
    exact ⟨rfl, rfl⟩
  · by_cases h2 : x > y
    · have e : cmpI x y = 1 := by unfold cmpI; rw [if_neg h1, if_pos h2]
      rw [e]
      clear e
      go_enter Tryz.func281, Tryz.ntmps281
      go_wp2
      go_ret
      exact ⟨rfl, rfl⟩
    · have e : cmpI x y = 0 := by unfold cmpI; rw [if_neg h1, if_neg h2]
      rw [e]
      clear e
      go_enter Tryz.func281, Tryz.ntmps281
      go_wp2
      go_ret
      exact ⟨rfl, rfl⟩
theorem hp_CmpU (x y : Int) (w : World) : Calls Tryz.prog 280 #[.int .u64 x, .int .u64 y] w fun e w' => e = .returned (.int .i64 (cmpI x y)) ∧ w = w' := by
  by_cases h1 : x < y
  · have e : cmpI x y = -1 := if_pos h1
    rw [e]
    clear e
    go_enter Tryz.func280, Tryz.ntmps280
    go_wp2
    go_ret
    exact ⟨rfl, rfl⟩
  · by_cases h2 : x > y
    · have e : cmpI x y = 1 := by unfold cmpI; rw [if_neg h1, if_pos h2]
      rw [e]
      clear e
      go_enter Tryz.func280, Tryz.ntmps280
      go_wp2
      go_ret
      exact ⟨rfl, rfl⟩
    · have e : cmpI x y = 0 := by unfold cmpI; rw [if_neg h1, if_neg h2]
      rw [e]
      clear e
      go_enter Tryz.func280, Tryz.ntmps280
      go_wp2
      go_ret
      exact ⟨rfl, rfl⟩
theorem hp_Or (a b : Int) (g : Nat) (c : Nat) (w : World) (h0 : w.cell? ⟨g, 0, none⟩ = some (.int .i64 a)) (h1 : w.cell? ⟨g, 1, none⟩ = some (.int .i64 b)) :
    Calls Tryz.prog 279 #[.slice (some ⟨g, 0, none⟩) 2 c] w fun e w' => e = .returned (.int .i64 (orI a b)) ∧ w = w' := by
  have HR : Hid ((a ≠ 0 → orI a b = a) ∧ (a = 0 → orI a b = b)) := hid ⟨fun h => if_pos h, fun h => if_neg (by omega)⟩
  obtain ⟨R, hR⟩ : ∃ R, orI a b = R := ⟨_, rfl⟩
  rw [hR] at HR ⊢
  clear hR
  go_enter Tryz.func279, Tryz.ntmps279
  go_wp2_with fail
  go_loop [5, 8] (fun x5 i => ∃ q : Nat, q ≤ 2 ∧ i = .int .i64 q ∧ (1 ≤ q → a = 0) ∧ (q = 2 → b = 0)) (fun _ i => 2 - (intOf i).toNat)
  case atStart => exact ⟨0, by omega, rfl, by omega, by omega⟩
  case round =>
    obtain ⟨q, hq, rfl, ha, hb⟩ := hrel
    obtain hq | hq | hq : q = 0 ∨ q = 1 ∨ q = 2 := by omega
    · subst hq
      by_cases hz : a = 0
      · have e : (a != 0) = false := by simp [hz]
        go_wp2_with fail
        go_round
        case rel => exact ⟨1, by omega, by go_num, fun _ => hz, by omega⟩
        case measure => simp [intOf]
      · have e : (a != 0) = true := by simp [hz]
        go_wp2_with fail
        go_ret
        exact ⟨by rw [HR.out.1 hz]; (first | done | rfl), rfl⟩
    · subst hq
      have ha := ha (by omega)
      by_cases hz : b = 0
      · have e : (b != 0) = false := by simp [hz]
        go_wp2_with fail
        go_round
        case rel => exact ⟨2, by omega, by go_num, fun _ => ha, fun _ => hz⟩
        case measure => simp [intOf]
      · have e : (b != 0) = true := by simp [hz]
        have HA := hid ha
        clear ha
        go_wp2_with fail
        go_ret
        exact ⟨by rw [HR.out.2 HA.out]; (first | done | rfl), rfl⟩
    · subst hq
      have HA := hid (ha (by omega))
      have HB := hid (hb (by omega))
      clear ha hb
      go_wp2_with fail
      go_ret
      exact ⟨by rw [HR.out.2 HA.out, HB.out]; (first | done | rfl), rfl⟩
theorem tc_0 {W : World} {u v : Value} {t : TypeId} {n : Nat} (h : n = W.heap.size) : (W.alloc (.cells #[u, v] t)).cell? ⟨n, 0, none⟩ = some u := by
  subst h
  simp
theorem tc_1 {W : World} {u v : Value} {t : TypeId} {n : Nat} (h : n = W.heap.size) : (W.alloc (.cells #[u, v] t)).cell? ⟨n, 1, none⟩ = some v := by
  subst h
  simp
set_option maxHeartbeats 4000000 in
theorem hp_against (x y : Nat × Nat) (w : World) : Calls Tryz.prog 278 #[.agg #[.int .i64 (x.1 : Int), .int .u64 (x.2 : Int)], .agg #[.int .i64 (y.1 : Int), .int .u64 (y.2 : Int)]] w fun e w' => e = .returned (.int .i64 (cfE x y)) ∧ ∃ q os, w' = Go.Sort.grow (w.drewN q) os := by
  have C1 := hid (fun W => (hp_CmpU (y.2 : Int) (x.2 : Int) W).mono fun _ _ h => And.intro h.1 h.2.symm)
  have C2 := hid (fun W => (hp_CmpI (x.1 : Int) (y.1 : Int) W).mono fun _ _ h => And.intro h.1 h.2.symm)
  unfold cfE
  obtain ⟨a, ha⟩ : ∃ a, cmpI (y.2 : Int) (x.2 : Int) = a := ⟨_, rfl⟩
  obtain ⟨b, hb⟩ : ∃ b, cmpI (x.1 : Int) (y.1 : Int) = b := ⟨_, rfl⟩
  rw [ha] at C1 ⊢
  rw [hb] at C2 ⊢
  clear ha hb
  have C3 := hid (fun (W : World) (t : TypeId) (n c : Nat) (h : n = W.heap.size) => hp_Or a b n c _ (tc_0 (W := W) (u := .int .i64 a) (v := .int .i64 b) (t := t) h) (tc_1 (W := W) (u := .int .i64 a) (v := .int .i64 b) (t := t) h))
  obtain ⟨r, hr⟩ : ∃ r, orI a b = r := ⟨_, rfl⟩
  rw [hr] at C3 ⊢
  clear hr
  go_enter Tryz.func278, Tryz.ntmps278
  go_wp2_with fail
  obtain ⟨w2, hw2⟩ : ∃ w2, ((w.alloc (.cells #[.int .i64 (x.1 : Int), .int .u64 (x.2 : Int)] 205)).alloc (.cells #[.int .i64 (y.1 : Int), .int .u64 (y.2 : Int)] 205)) = w2 := ⟨_, rfl⟩
  have a0 : w2.cell? ⟨w.heap.size, 0, none⟩ = some (.int .i64 (x.1 : Int)) := by rw [← hw2]; simp
  have a1 : w2.cell? ⟨w.heap.size, 1, none⟩ = some (.int .u64 (x.2 : Int)) := by rw [← hw2]; simp
  have b0 : w2.cell? ⟨w.heap.size + 1, 0, none⟩ = some (.int .i64 (y.1 : Int)) := by rw [← hw2]; simp
  have b1 : w2.cell? ⟨w.heap.size + 1, 1, none⟩ = some (.int .u64 (y.2 : Int)) := by rw [← hw2]; simp
  rw [hw2]
  have HW := hid hw2
  clear hw2
  go_still_tail 10, (by kernel_rfl)
  repeat (first | still_call (C1.out _) | still_call (C2.out _) | still_step)
  refine wpStill_nil ?_
  change wpList _ _ _ _ _ w2.drew
  generalize hw3 : w2.drew = w3
  have HW3 := hid hw3
  clear hw3
  go_wp2_with fail
  refine (C3.out _ _ _ _ rfl).mono ?_
  rintro _ _ ⟨rfl, rfl⟩
  go_wp2_with fail
  go_ret
  exact ⟨rfl, 1, _, by rw [← HW3.out, ← HW.out, Go.Sort.alloc_eq_grow w, Go.Sort.alloc_eq_grow (Go.Sort.grow w _), Go.Sort.grow_grow, Go.Sort.drew_grow, Go.Sort.alloc_eq_grow, Go.Sort.grow_grow]; rfl⟩
end Go.Proofs.YtecgbelgoomneaaGreat
/- Entries in a row of memory: what is loaded, exchanged. -/
namespace Go.Proofs.YtecgbelgoomneaaGreat
open Go.RowKit
set_option maxHeartbeats 400000
set_option maxRecDepth 100000
set_option linter.unusedVariables false
/-- Entries as the cells of a row. -/
def flE (d : Array (Nat × Nat)) : List Value := (List.range (d.size * 2)).map fun t => if t % 2 = 0 then .int .i64 ((d[t / 2]!).1 : Int) else .int .u64 ((d[t / 2]!).2 : Int)
theorem flE_len (d : Array (Nat × Nat)) : (flE d).length = d.size * 2 := by unfold flE; simp
theorem flE_at {d : Array (Nat × Nat)} {t : Nat} (h : t < d.size * 2) : (flE d)[t]? = some (if t % 2 = 0 then .int .i64 ((d[t / 2]!).1 : Int) else .int .u64 ((d[t / 2]!).2 : Int)) := by unfold flE; simp [h]
theorem flE_0 {d : Array (Nat × Nat)} {i : Nat} (h : i < d.size) : (flE d)[i * 2]? = some (.int .i64 ((d[i]!).1 : Int)) := by
  rw [flE_at (by omega), if_pos (by omega), show i * 2 / 2 = i by omega]
theorem flE_1 {d : Array (Nat × Nat)} {i : Nat} (h : i < d.size) : (flE d)[i * 2 + 1]? = some (.int .u64 ((d[i]!).2 : Int)) := by
  rw [flE_at (by omega), if_neg (by omega), show (i * 2 + 1) / 2 = i by omega]
theorem flE_push (d : Array (Nat × Nat)) (x : Nat × Nat) : flE (d.push x) = flE d ++ [.int .i64 (x.1 : Int), .int .u64 (x.2 : Int)] := by
  refine List.ext_getElem? fun t => ?_
  by_cases h : t < d.size * 2
  · rw [List.getElem?_append_left (by rw [flE_len]; exact h), flE_at (by simp; omega), flE_at h, push_get (by omega)]
  · rw [List.getElem?_append_right (by rw [flE_len]; omega), flE_len]
    have e : (d.push x)[d.size]! = x := by rw [getElem!_pos _ _ (by simp)]; simp
    by_cases h0 : t = d.size * 2
    · subst h0
      rw [flE_0 (by simp), e]
      simp
    · by_cases h1 : t = d.size * 2 + 1
      · subst h1
        rw [flE_1 (by simp), e]
        simp
      · rw [List.getElem?_eq_none (by rw [flE_len]; simp; omega), List.getElem?_eq_none (by simp; omega)]
/-- A row of entries in memory of the call's own. -/
def RwE (w : World) (B g cap : Nat) (d : Array (Nat × Nat)) : Prop := w.ownsRow B 205 2 (.slice (some ⟨g, 0, none⟩) d.size cap) d.size (flE d)
theorem RwE.parts {w : World} {B g cap : Nat} {d : Array (Nat × Nat)} (h : RwE w B g cap d) : ∃ cur, B ≤ g ∧ w.heap[g]? = some (.cells cur 205 (0, 0)) ∧ d.size ≤ cap ∧ cap ≤ maxLen ∧ cur.size = cap * 2 ∧ cur.toList.take (d.size * 2) = flE d := by
  rcases h.2 with ⟨h', _⟩ | ⟨g', cap', cur, h', h1, h2, h3, h4, h5, h6⟩
  · simp at h'
  · simp only [Value.slice.injEq, Option.some.injEq, Addr.mk.injEq, and_true, true_and] at h'
    obtain ⟨rfl, rfl⟩ := h'
    exact ⟨cur, h1, h2, h3, h4, h5, h6⟩
theorem RwE.of {w : World} {B g cap : Nat} {d : Array (Nat × Nat)} {cur : Array Value} (h1 : B ≤ g) (h2 : w.heap[g]? = some (.cells cur 205 (0, 0))) (h3 : d.size ≤ cap) (h4 : cap ≤ maxLen) (h5 : cur.size = cap * 2) (h6 : ∀ t, t < d.size * 2 → cur[t]? = (flE d)[t]?) : RwE w B g cap d := by
  refine ⟨flE_len d, .inr ⟨g, cap, cur, rfl, h1, h2, h3, h4, h5, ?_⟩⟩
  refine List.ext_getElem? fun t => ?_
  by_cases h : t < d.size * 2
  · rw [List.getElem?_take_of_lt h, Array.getElem?_toList, h6 t h]
  · rw [List.getElem?_eq_none (by simp; omega), List.getElem?_eq_none (by rw [flE_len]; omega)]
theorem RwE.c0 {w : World} {B g cap : Nat} {d : Array (Nat × Nat)} (h : RwE w B g cap d) {i : Nat} (hi : i < d.size) : w.cell? ⟨g, i * 2, none⟩ = some (.int .i64 ((d[i]!).1 : Int)) := by
  rw [h.cellAt (i * 2) (by omega), flE_0 hi]
theorem RwE.c1 {w : World} {B g cap : Nat} {d : Array (Nat × Nat)} (h : RwE w B g cap d) {i : Nat} (hi : i < d.size) : w.cell? ⟨g, i * 2 + 1, none⟩ = some (.int .u64 ((d[i]!).2 : Int)) := by
  rw [h.cellAt (i * 2 + 1) (by omega), flE_1 hi]
theorem RwE.lt {w : World} {B g cap : Nat} {d : Array (Nat × Nat)} (h : RwE w B g cap d) : g < w.heap.size := by
  obtain ⟨cur, _, h2, _⟩ := h.parts
  exact (Array.getElem?_eq_some_iff.1 h2).1
theorem RwE.keep {w w' : World} {B g cap : Nat} {d : Array (Nat × Nat)} (h : RwE w B g cap d) (hk : w'.heap[g]? = w.heap[g]?) : RwE w' B g cap d := by
  obtain ⟨cur, h1, h2, h3, h4, h5, h6⟩ := h.parts
  exact ⟨h.1, .inr ⟨g, cap, cur, rfl, h1, hk.trans h2, h3, h4, h5, h6⟩⟩
theorem RwE.on {w w' : World} {B g cap : Nat} {d : Array (Nat × Nat)} (h : RwE w B g cap d) (hb : Below w.heap.size w w') : RwE w' B g cap d := h.keep (hb.block g h.lt)
theorem heap_set {w : World} {g off : Nat} {v : Value} {cur : Array Value} {e : TypeId} {fr : Nat × Nat} (h : w.heap[g]? = some (.cells cur e fr)) : (w.setCell ⟨g, off, none⟩ v).heap[g]? = some (.cells (cur.setIfInBounds off v) e fr) := by
  rw [Go.Sort.setCell_eq]
  simp [Go.Sort.mapBlock, Array.getElem?_modify, h, Go.Sort.onCells]
/-- Two entries change places. -/
theorem RwE.swap {w : World} {B g cap : Nat} {d : Array (Nat × Nat)} (h : RwE w B g cap d) {i j : Nat} (hi : i < d.size) (hj : j < d.size) {a b a' b' : Value} (ha : a = .int .i64 ((d[j]!).1 : Int)) (hb : b = .int .u64 ((d[j]!).2 : Int)) (ha' : a' = .int .i64 ((d[i]!).1 : Int)) (hb' : b' = .int .u64 ((d[i]!).2 : Int)) :
    RwE ((((w.setCell ⟨g, i * 2, none⟩ a).setCell ⟨g, i * 2 + 1, none⟩ b).setCell ⟨g, j * 2, none⟩ a').setCell ⟨g, j * 2 + 1, none⟩ b') B g cap (Go.Sort.swp d i j) := by
  obtain ⟨cur, h1, h2, h3, h4, h5, h6⟩ := h.parts
  refine RwE.of h1 (heap_set (heap_set (heap_set (heap_set h2)))) (by rw [Go.Sort.size_swp]; exact h3) h4 (by simpa using h5) fun t ht => ?_
  rw [Go.Sort.size_swp] at ht
  rw [flE_at (by rw [Go.Sort.size_swp]; exact ht), Go.Sort.swp_get d hi hj]
  have hc : cur[t]? = some (if t % 2 = 0 then .int .i64 ((d[t / 2]!).1 : Int) else .int .u64 ((d[t / 2]!).2 : Int)) := by
    have := congrArg (fun l => l[t]?) h6
    simp only [List.getElem?_take_of_lt ht, Array.getElem?_toList, flE_at ht] at this
    exact this
  have hs : t < cur.size := (Array.getElem?_eq_some_iff.1 hc).1
  subst ha hb ha' hb'
  simp only [Array.getElem?_setIfInBounds, Array.size_setIfInBounds]
  by_cases e1 : j * 2 + 1 = t
  · rw [if_pos e1, if_pos (by omega), if_neg (by omega), if_pos (by omega)]
  · rw [if_neg e1]
    by_cases e2 : j * 2 = t
    · rw [if_pos e2, if_pos (by omega), if_pos (by omega), if_pos (by omega)]
    · rw [if_neg e2, if_neg (show ¬ t / 2 = j by omega)]
      by_cases e3 : i * 2 + 1 = t
      · rw [if_pos e3, if_pos (by omega), if_neg (by omega), if_pos (by omega)]
      · rw [if_neg e3]
        by_cases e4 : i * 2 = t
        · rw [if_pos e4, if_pos (by omega), if_pos (by omega), if_pos (by omega)]
        · rw [if_neg e4, if_neg (show ¬ t / 2 = i by omega), hc]
/-- Of the blocks that were there these two alone may have turned. -/
structure Otr (x y : Nat) (w w' : World) : Prop where
  os : w'.os = w.os
  tape : w'.tape = w.tape
  output : w'.output = w.output
  size : w.heap.size ≤ w'.heap.size
  block : ∀ k, k < w.heap.size → k ≠ x → k ≠ y → w'.heap[k]? = w.heap[k]?
theorem Otr.refl (x y : Nat) (w : World) : Otr x y w w := ⟨rfl, rfl, rfl, Nat.le_refl _, fun _ _ _ _ => rfl⟩
theorem Otr.trans {x y : Nat} {a b c : World} (h : Otr x y a b) (k : Otr x y b c) : Otr x y a c :=
  ⟨k.os.trans h.os, k.tape.trans h.tape, k.output.trans h.output, Nat.le_trans h.size k.size, fun i hi h1 h2 => (k.block i (Nat.lt_of_lt_of_le hi h.size) h1 h2).trans (h.block i hi h1 h2)⟩
theorem Otr.wide {x y x' y' : Nat} {w w' : World} (h : Otr x y w w') (hx : x = x' ∨ x = y') (hy : y = x' ∨ y = y') : Otr x' y' w w' :=
  ⟨h.os, h.tape, h.output, h.size, fun k hk h1 h2 => h.block k hk (by rcases hx with e | e <;> omega) (by rcases hy with e | e <;> omega)⟩
theorem Otr.of_below {x y : Nat} {w w' : World} (h : Below w.heap.size w w') : Otr x y w w' := ⟨h.os, h.tape, h.output, h.size, fun k hk _ _ => h.block k hk⟩
theorem Otr.below {x y B : Nat} {w w' : World} (h : Otr x y w w') (hx : B ≤ x) (hy : B ≤ y) (hB : B ≤ w.heap.size) : Below B w w' := ⟨h.os, h.tape, h.output, h.size, fun k hk => h.block k (by omega) (by omega) (by omega)⟩
theorem Otr.drew {x y : Nat} {a w : World} (h : Otr x y a w) : Otr x y a w.drew := ⟨h.os, h.tape, h.output, h.size, h.block⟩
theorem Otr.set {x y : Nat} {a w : World} (h : Otr x y a w) {p : Addr} (hp : p.block = x ∨ p.block = y) (u : Value) : Otr x y a (w.setCell p u) :=
  ⟨h.os, h.tape, h.output, by simpa [World.setCell] using h.size, fun k hk h1 h2 => by rw [Below.heap_setCell _ _ _ _ (by rcases hp with e | e <;> omega)]; exact h.block k hk h1 h2⟩
theorem grow_below (w : World) (q : Nat) (os : Array Obj) : Below w.heap.size w (Go.Sort.grow (w.drewN q) os) := by
  refine ⟨rfl, rfl, rfl, ?_, fun k hk => ?_⟩
  · show w.heap.size ≤ (w.heap ++ os).size
    simp
  · show (w.heap ++ os)[k]? = _
    rw [Array.getElem?_append_left hk]
theorem hp_Len {A : Option Addr} {n c : Nat} (w : World) : Calls Tryz.prog 226 #[.slice A n c] w fun e w' => e = .returned (.int .i64 n) ∧ w = w' := by
  go_enter Tryz.func226, Tryz.ntmps226
  go_wp2
  go_ret
  exact ⟨rfl, rfl⟩
theorem cell_set {w : World} {p q : Addr} {x v : Value} (h : w.cell? q = some v) : ∃ v', (w.setCell p x).cell? q = some v' := by
  by_cases e : p = q
  · subst e; exact ⟨x, World.cell?_setCell_same w p x h⟩
  · exact ⟨v, (World.cell?_setCell_other w p q x e).trans h⟩
theorem hp_Swap {B g cap : Nat} (d : Array (Nat × Nat)) (i j : Nat) (hi : i < d.size) (hj : j < d.size) (w : World) (h : RwE w B g cap d) :
    Calls Tryz.prog 277 #[.slice (some ⟨g, 0, none⟩) d.size cap, .int .i64 i, .int .i64 j] w fun e w' => e = .returned (.tuple #[]) ∧ RwE w' B g cap (Go.Sort.swp d i j) ∧ Otr g g w w' := by
  have f := fun k => World.ownsRow.frozenAt h k
  have c0 := h.c0 hi
  have c1 := h.c1 hi
  have d0 := h.c0 hj
  have d1 := h.c1 hj
  have hl : i < d.size := hi
  have HX := hid (d0)
  have HY := hid (d1)
  obtain ⟨a, ha⟩ : ∃ a : Int, ((d[i]!).1 : Int) = a := ⟨_, rfl⟩
  obtain ⟨b, hb⟩ : ∃ b : Int, ((d[i]!).2 : Int) = b := ⟨_, rfl⟩
  obtain ⟨c, hc⟩ : ∃ c : Int, ((d[j]!).1 : Int) = c := ⟨_, rfl⟩
  obtain ⟨e, he⟩ : ∃ e : Int, ((d[j]!).2 : Int) = e := ⟨_, rfl⟩
  have HSW := hid (fun W (h : RwE W B g cap d) => h.swap (a := .int .i64 c) (b := .int .u64 e) (a' := .int .i64 a) (b' := .int .u64 b) hi hj (by rw [hc]) (by rw [he]) (by rw [ha]) (by rw [hb]))
  rw [ha] at c0
  rw [hb] at c1
  rw [hc] at d0
  rw [he] at d1
  clear ha hb hc he
  obtain ⟨v1, hv1⟩ := cell_set (p := ⟨g, i * 2, none⟩) (x := .int .i64 c) d0
  obtain ⟨v2, hv2⟩ := cell_set (p := ⟨g, i * 2 + 1, none⟩) (x := .int .u64 e) d1
  obtain ⟨v0, hv0⟩ := cell_set (p := ⟨g, i * 2, none⟩) (x := .int .i64 c) d1
  obtain ⟨v3, hv3⟩ := cell_set (p := ⟨g, i * 2 + 1, none⟩) (x := .int .u64 e) hv0
  have H := hid h
  clear h
  go_enter Tryz.func277, Tryz.ntmps277
  go_wp2_with fail
  go_region
  go_wp2_with fail
  go_end0
  refine ⟨rfl, HSW.out w H.out, ?_⟩
  exact ((((Otr.refl g g w).set (.inl rfl) _).set (.inl rfl) _).set (.inl rfl) _).set (.inl rfl) _ |>.drew
theorem hp_Less {B g cap : Nat} (d : Array (Nat × Nat)) (i j : Nat) (hi : i < d.size) (hj : j < d.size) (w : World) (h : RwE w B g cap d) :
    Calls Tryz.prog 276 #[.slice (some ⟨g, 0, none⟩) d.size cap, .int .i64 i, .int .i64 j] w fun e w' => e = .returned (.bool (beh d[i]! d[j]!)) ∧ Below w.heap.size w w' := by
  have c0 := fun n os => Go.cell_grown (a := ⟨g, i * 2, none⟩) h.lt (h.c0 hi) n os
  have c1 := fun n os => Go.cell_grown (a := ⟨g, i * 2 + 1, none⟩) h.lt (h.c1 hi) n os
  have d0 := fun n os => Go.cell_grown (a := ⟨g, j * 2, none⟩) h.lt (h.c0 hj) n os
  have d1 := fun n os => Go.cell_grown (a := ⟨g, j * 2 + 1, none⟩) h.lt (h.c1 hj) n os
  clear h
  obtain ⟨N, hN⟩ : ∃ N, d.size = N := ⟨_, rfl⟩
  rw [hN] at hi hj ⊢
  obtain ⟨⟨x1, x2⟩, hx⟩ : ∃ x, d[i]! = x := ⟨_, rfl⟩
  obtain ⟨⟨y1, y2⟩, hy⟩ : ∃ y, d[j]! = y := ⟨_, rfl⟩
  rw [hx] at c0 c1 ⊢
  rw [hy] at d0 d1 ⊢
  clear hx hy hN d
  have C := hid (fun W => hp_against (x1, x2) (y1, y2) W)
  have HR : Hid (beh (x1, x2) (y1, y2) = decide (cfE (x1, x2) (y1, y2) > 0)) := hid (by
    by_cases hb : beh (x1, x2) (y1, y2) = true
    · rw [hb, decide_eq_true (cfE_pos.2 hb)]
    · rw [Bool.eq_false_iff.2 hb, decide_eq_false (fun hc => hb (cfE_pos.1 hc))])
  obtain ⟨R, hR⟩ : ∃ R, beh (x1, x2) (y1, y2) = R := ⟨_, rfl⟩
  obtain ⟨r, hr⟩ : ∃ r, cfE (x1, x2) (y1, y2) = r := ⟨_, rfl⟩
  rw [hR, hr] at HR
  rw [hr] at C
  rw [hR]
  clear hR hr
  have mx : Tryz.prog.follows .mixedOrders = true := by kernel_rfl
  go_enter Tryz.func276, Tryz.ntmps276
  go_wp2_with fail
  go_quiet_grown (first | (go_at_call 278; (with_reducible refine Calls.grown_of (C.out _))))
  go_wp2_with fail
  go_ret
  refine ⟨by rw [HR.out]; rfl, grow_below _ _ _⟩
end Go.Proofs.YtecgbelgoomneaaGreat
/- One more entry is laid behind the others, the last one is taken off: the pile's own methods. -/
namespace Go.Proofs.YtecgbelgoomneaaGreat
open Go.RowKit
set_option maxHeartbeats 400000
set_option maxRecDepth 100000
set_option linter.unusedVariables false
theorem info_ent : (Tryz.prog.info? 205).map (fun i => (i.zero, i.size, i.bytes)) = some (some (.agg #[.int .i64 0, .int .u64 0]), 2, 16) := by kernel_rfl
theorem run_appE (w : World) (ty : TypeId) {B g cap : Nat} {d : Array (Nat × Nat)} (hr : RwE w B g cap d) (m c : Nat) (x : Nat × Nat) (h0 : w.cell? ⟨m, 0, none⟩ = some (.int .i64 (x.1 : Int))) (h1 : w.cell? ⟨m, 1, none⟩ = some (.int .u64 (x.2 : Int)))
    (hl : d.size < 100000) (hB : B ≤ w.heap.size) :
    ∃ g' cap' w', (Builtin.append_ #[181, 181] ty #[.slice (some ⟨g, 0, none⟩) d.size cap, .slice (some ⟨m, 0, none⟩) 1 c]).run Tryz.prog w = .ok (.slice (some ⟨g', 0, none⟩) (d.push x).size cap') w' ∧ RwE w' B g' cap' (d.push x) ∧ Otr g g w w' ∧ (g' = g ∨ g' = w.heap.size) := by
  obtain ⟨i, hi, hzz⟩ := Option.map_eq_some_iff.1 info_ent
  simp only [Prod.mk.injEq] at hzz
  obtain ⟨hz, hs, hb⟩ := hzz
  obtain ⟨v', w', hrun, h2, h3, _, h5⟩ := run_append_own_at (P := Tryz.prog) w B 181 ty 205 i _ 2 16 rfl hi hz hs hb rfl (by decide) _ d.size (flE d) hr ⟨m, 0, none⟩ 1 c [.int .i64 (x.1 : Int), .int .u64 (x.2 : Int)] rfl (by
    intro j u hu
    match j, hu with
    | 0, hu => simp only [List.getElem?_cons_zero, Option.some.injEq] at hu; subst hu; simpa [Addr.add] using h0
    | 1, hu => simp at hu; subst hu; simpa [Addr.add] using h1
    | j + 2, hu => simp at hu) (by
    intro u hu
    simp at hu
    rcases hu with rfl | rfl <;> rfl) (by simp [maxLen]; omega) (by omega) hB
  have hsz : (d.push x).size = d.size + 1 := by simp
  rw [← flE_push] at h2
  rcases h2.2 with ⟨_, h0⟩ | ⟨g', cap', cur, rfl, _⟩
  · omega
  · refine ⟨g', cap', w', by rw [hsz]; exact hrun, by unfold RwE; rw [hsz]; exact h2, ⟨h3.os, h3.tape, h3.output, h3.size, fun k hk h1 _ => h3.block k hk (by simp [Value.ownBlock]; exact h1)⟩, ?_⟩
    simpa [Value.ownBlock] using h5
theorem step_appE {w : World} {ops : Array Oper} {o : Oper} {a : Act} {K : Act → World → Prop} {Q : Exit → Act → World → Prop} {E : Prop} (hgd : o.guard = none) (s x : Operand)
    (ho : o.op = .call { callee := .builtin .append, args := #[s, x], argTypes := #[181, 181] })
    {B g cap : Nat} {d : Array (Nat × Nat)} (hs : a.eval s = .slice (some ⟨g, 0, none⟩) d.size cap) (hr : RwE w B g cap d) (m c : Nat) (hx : a.eval x = .slice (some ⟨m, 0, none⟩) 1 c) (y : Nat × Nat) (h0 : w.cell? ⟨m, 0, none⟩ = some (.int .i64 (y.1 : Int))) (h1 : w.cell? ⟨m, 1, none⟩ = some (.int .u64 (y.2 : Int)))
    (hl : d.size < 100000) (hB : B ≤ w.heap.size)
    (h : ∀ g' cap' w', RwE w' B g' cap' (d.push y) → Otr g g w w' → (g' = g ∨ g' = w.heap.size) → K (a.put o.dst (.slice (some ⟨g', 0, none⟩) (d.push y).size cap')) w') :
    if Region.wanted o (yielded ops a.tmps) = true then Oper.wp Tryz.prog o a w K Q else E := by
  have hw : Region.wanted o (yielded ops a.tmps) = true := by simp [Region.wanted, hgd]
  rw [if_pos hw]
  obtain ⟨g', cap', w', hrun, h2, h3, h4⟩ := run_appE w o.type hr m c y h0 h1 hl hB
  unfold Oper.wp execOp
  simp only [ho, resolve, invoke, builtin, Sem.run_bind, Sem.run_pure, Result.andThen_ok, List.map_toArray, List.map_cons, List.map_nil, hs, hx, hrun]
  exact h g' cap' w' h2 h3 h4
/-- A box that holds a row of entries. -/
def PileAt (w : World) (B bp g cap : Nat) (d : Array (Nat × Nat)) : Prop :=
  w.cell? ⟨bp, 0, none⟩ = some (.slice (some ⟨g, 0, none⟩) d.size cap) ∧ w.frozen? ⟨bp, 0, none⟩ = false ∧ RwE w B g cap d ∧ bp ≠ g
theorem PileAt.lt {w : World} {B bp g cap : Nat} {d : Array (Nat × Nat)} (h : PileAt w B bp g cap d) : bp < w.heap.size := lt_of_cell h.1
theorem cell_blk {w w' : World} {b o : Nat} (h : w'.heap[b]? = w.heap[b]?) : w'.cell? ⟨b, o, none⟩ = w.cell? ⟨b, o, none⟩ := World.cell?_of_block (a := ⟨b, o, none⟩) h
theorem froz_blk {w w' : World} {b o : Nat} (h : w'.heap[b]? = w.heap[b]?) : w'.frozen? ⟨b, o, none⟩ = w.frozen? ⟨b, o, none⟩ := World.frozen?_of_block (a := ⟨b, o, none⟩) h
theorem PileAt.keep {w w' : World} {B bp g cap : Nat} {d : Array (Nat × Nat)} (h : PileAt w B bp g cap d) (h1 : w'.heap[bp]? = w.heap[bp]?) (h2 : w'.heap[g]? = w.heap[g]?) : PileAt w' B bp g cap d :=
  ⟨(cell_blk h1).trans h.1, (froz_blk h1).trans h.2.1, h.2.2.1.keep h2, h.2.2.2⟩
theorem PileAt.on {w w' : World} {B bp g cap : Nat} {d : Array (Nat × Nat)} (h : PileAt w B bp g cap d) (hb : Below w.heap.size w w') : PileAt w' B bp g cap d := h.keep (hb.block bp h.lt) (hb.block g h.2.2.1.lt)
set_option maxHeartbeats 1000000 in
theorem hp_PushM {B bp g cap : Nat} (d : Array (Nat × Nat)) (x1 x2 : Nat) (hl : d.size < 100000) (w : World) (h : PileAt w B bp g cap d) (hB : B ≤ w.heap.size) :
    Calls Tryz.prog 284 #[.pointer (some ⟨bp, 0, none⟩), .iface 205 (.agg #[.int .i64 (x1 : Int), .int .u64 (x2 : Int)])] w fun e w' => e = .returned (.tuple #[]) ∧ ∃ g' cap', PileAt w' B bp g' cap' (d.push (x1, x2)) ∧ Otr bp g w w' ∧ (g' = g ∨ w.heap.size ≤ g') := by
  have hta : ∀ w : World, (Instr.typeAssert (.iface 205 (.agg #[.int .i64 (x1 : Int), .int .u64 (x2 : Int)])) 20 205 false).run Tryz.prog w = .ok (.agg #[.int .i64 (x1 : Int), .int .u64 (x2 : Int)]) w := fun _ => by kernel_rfl
  obtain ⟨b0, f0, hr, hne⟩ := h
  have HR := hid hr
  have hlt := lt_of_cell b0
  have hgt := hr.lt
  clear hr
  have ba : (w.alloc (.cells #[.int .i64 (x1 : Int), .int .u64 (x2 : Int)] 205)).cell? ⟨bp, 0, none⟩ = some (.slice (some ⟨g, 0, none⟩) d.size cap) := (((Below.refl _ w).alloc (Nat.le_refl _) _).cell (p := ⟨bp, 0, none⟩) hlt).trans b0
  have HB0 := hid b0
  have HF0 := hid f0
  go_enter Tryz.func284, Tryz.ntmps284
  go_wp2_with fail
  go_region_law (first | (refine step_appE rfl _ _ rfl rfl (HR.out.on (by first | exact ((Below.refl _ w).drew).alloc (Nat.le_refl _) _ | exact ((Below.refl _ w).alloc (Nat.le_refl _) _).drew | fail)) w.heap.size _ rfl (x1, x2) (by first | (simp; done) | (show (w.alloc _).cell? _ = _; simp; done) | fail) (by first | (simp; done) | (show (w.alloc _).cell? _ = _; simp; done) | fail) hl (by simp; omega) ?_; rintro g' cap' w4 hr4 ho4 hg4; have HR4 := hid hr4; have HO4 : Hid (Otr bp g w w4) := hid (by first | exact ((Otr.of_below ((((Below.refl _ w).drew).alloc (Nat.le_refl _) _))).trans (ho4.wide (.inr rfl) (.inr rfl))) | exact ((Otr.of_below ((((Below.refl _ w).alloc (Nat.le_refl _) _).drew))).trans (ho4.wide (.inr rfl) (.inr rfl))) | fail); have HG4 : Hid (g' = g ∨ w.heap.size ≤ g') := hid (by simp at hg4; omega); have HK : Hid (w4.heap[bp]? = w.heap[bp]?) := hid (by first | exact (ho4.block bp (by simp; omega) hne hne).trans (((Below.refl w.heap.size w).alloc (Nat.le_refl _) _).block bp hlt) | fail); have b4 := (cell_blk (o := 0) HK.out).trans HB0.out; have f4 := (froz_blk (o := 0) HK.out).trans HF0.out; clear hr4 ho4 hg4) | fail)
  all_goals (
    go_wp2_with fail
    go_end0
    have hne' : g' ≠ bp := by have := HG4.out; omega
    refine ⟨rfl, g', cap', ⟨?_, ?_, ?_, hne'.symm⟩, ?_, HG4.out⟩
    · rw [Array.size_push]; exact World.cell?_setCell_same' _ _ _ (by rw [b4]; rfl)
    · rw [World.frozen?_setCell]; exact f4
    · exact HR4.out.keep (Below.heap_setCell _ _ _ _ hne')
    · exact HO4.out.set (.inl rfl) _)
end Go.Proofs.YtecgbelgoomneaaGreat
/- The last entry is taken off; the methods behind an interface. -/
namespace Go.Proofs.YtecgbelgoomneaaGreat
open Go.RowKit
set_option maxHeartbeats 400000
set_option maxRecDepth 100000
set_option linter.unusedVariables false
theorem run_cutE {g n cap k : Nat} (hk : k ≤ cap) (h0 : 0 < cap) (w : World) : (Instr.slice 181 (.slice (some ⟨g, 0, none⟩) n cap) none (some (.int .i64 (k : Int))) none).run Tryz.prog w = .ok (.slice (some ⟨g, 0, none⟩) k cap) w := by
  have hs : ∀ w, (sizeOf (Tryz.prog.elem 181)).run Tryz.prog w = .ok 2 w := fun _ => by kernel_rfl
  rw [run_slice_h w 181 _ n cap (by kernel_rfl) .i64 (k : Int) (by omega) (by omega)]
  have : ¬ cap = 0 := by omega
  simp [hs, sliced, Result.andThen, this, Addr.add]
theorem pop_get {d : Array (Nat × Nat)} {i : Nat} (h : i < d.size - 1) : d.pop[i]! = d[i]! := by
  rw [getElem!_pos d.pop i (by simp; omega), getElem!_pos d i (by omega), Array.getElem_pop]
theorem RwE.pop {w : World} {B g cap : Nat} {d : Array (Nat × Nat)} (h : RwE w B g cap d) : RwE w B g cap d.pop := by
  obtain ⟨cur, h1, h2, h3, h4, h5, h6⟩ := h.parts
  refine RwE.of h1 h2 (by simp; omega) h4 h5 fun t ht => ?_
  have ht2 : t < d.size * 2 := by simp at ht; omega
  have hc := congrArg (fun l => l[t]?) h6
  simp only [List.getElem?_take_of_lt ht2, Array.getElem?_toList, flE_at ht2] at hc
  rw [hc, flE_at ht, pop_get (by simp at ht; omega)]
theorem RwE.cap {w : World} {B g cap : Nat} {d : Array (Nat × Nat)} (h : RwE w B g cap d) : d.size ≤ cap ∧ cap ≤ maxLen := by
  obtain ⟨cur, h1, h2, h3, h4, h5, h6⟩ := h.parts
  exact ⟨h3, h4⟩
set_option maxHeartbeats 1000000 in
theorem hp_PopM {B bp g cap n : Nat} (d : Array (Nat × Nat)) (hn : d.size = n + 1) (w : World) (h : PileAt w B bp g cap d) :
    Calls Tryz.prog 283 #[.pointer (some ⟨bp, 0, none⟩)] w fun e w' => e = .returned (.iface 205 (.agg #[.int .i64 ((d[n]!).1 : Int), .int .u64 ((d[n]!).2 : Int)])) ∧ PileAt w' B bp g cap d.pop ∧ Otr bp g w w' := by
  have hlt := h.lt
  obtain ⟨b0, f0, hr, hne⟩ := h
  have HR := hid hr
  have hgt := hr.lt
  have hcap := hr.cap.1
  have hcm := hr.cap.2
  have c0 := hr.c0 (i := n) (by omega)
  have c1 := hr.c1 (i := n) (by omega)
  have hpop : d.pop.size = n := by simp; omega
  obtain ⟨x1, hx1⟩ : ∃ x : Int, ((d[n]!).1 : Int) = x := ⟨_, rfl⟩
  obtain ⟨x2, hx2⟩ : ∃ x : Int, ((d[n]!).2 : Int) = x := ⟨_, rfl⟩
  rw [hx1] at c0 ⊢
  rw [hx2] at c1 ⊢
  rw [hn] at b0 hcap
  have hsl := fun W => run_cutE (g := g) (n := n + 1) (cap := cap) (k := n) (by omega) (by omega) W
  have hn5 : n + 1 ≤ 9223372036854775807 := by unfold maxLen at hcm; omega
  have HPOP := hid hpop
  clear hr hx1 hx2 hn hpop hcm
  have e1 : IntKind.i64.wrap (((n + 1 : Nat) : Int) - 1) = (n : Int) := by rw [IntKind.wrap_i64]; omega
  go_enter Tryz.func283, Tryz.ntmps283
  go_wp2_with fail
  go_ret
  have hs : (w.setCell ⟨bp, 0, none⟩ (.slice (some ⟨g, 0, none⟩) n cap)).heap.size = w.heap.size := by simp [World.setCell]
  have k1 : Below w.heap.size (w.setCell ⟨bp, 0, none⟩ (.slice (some ⟨g, 0, none⟩) n cap)) ((w.setCell ⟨bp, 0, none⟩ (.slice (some ⟨g, 0, none⟩) n cap)).alloc (.cells #[.int .i64 x1, .int .u64 x2] 205)) := (Below.refl _ _).alloc (by omega) _
  refine ⟨rfl, PileAt.keep ⟨?_, ?_, ?_, hne⟩ (k1.block bp hlt) (k1.block g hgt), ((Otr.refl bp g w).set (.inl rfl) _).trans (Otr.of_below (by rw [hs]; exact k1))⟩
  · rw [HPOP.out]; exact World.cell?_setCell_same' _ _ _ (by rw [b0]; rfl)
  · rw [World.frozen?_setCell]; exact f0
  · exact (HR.out.keep (Below.heap_setCell _ _ _ _ hne.symm)).pop
theorem run_loadP (w : World) {b : Nat} {A : Option Addr} {n c : Nat} (h : w.cell? ⟨b, 0, none⟩ = some (.slice A n c)) : (loadVar 181 ⟨b, 0, none⟩).run Tryz.prog w = .ok (.slice A n c) w := by
  simp [loadVar, h, go_sem]
theorem hp_meth {nm : String} {f : FuncId} (hf : ((Tryz.prog.info? 203).bind fun i => (i.methods.find? (·.name == nm)).map fun m => (m.path.toList, m.func)) = some ([], some (f, false))) (k : Nat) (w : World) {b : Nat} {A : Option Addr} {n c : Nat} (h : w.cell? ⟨b, 0, none⟩ = some (.slice A n c)) :
    (method (k + 1) 203 (.pointer (some ⟨b, 0, none⟩)) nm).run Tryz.prog w = .ok (f, .slice A n c) w := by
  obtain ⟨i, hi, hf⟩ := Option.bind_eq_some_iff.1 hf
  obtain ⟨m, hm, he⟩ := Option.map_eq_some_iff.1 hf
  simp only [Prod.mk.injEq] at he
  obtain ⟨hp, hfn⟩ := he
  have hL := run_loadP w h
  have hpe : m.path = #[] := by
    apply Array.ext'
    exact hp
  have hW : ∀ (t : Array TypeId) (u : TypeId) (s1 s2 : ByteArray), (Builtin.ssaWrapNilChk_ t u #[.pointer (some ⟨b, 0, none⟩), .string s1, .string s2]).run Tryz.prog w = .ok (.pointer (some ⟨b, 0, none⟩)) w := fun _ _ _ _ => rfl
  have hT : (typeInfo 203).run Tryz.prog w = .ok i w := by simp [typeInfo, hi]
  have hU : (underlying 203).run Tryz.prog w = .ok (.pointer 181) w := run_underlying Tryz.underlying203 w
  unfold method
  rw [Sem.run_bind, hT, Result.andThen_ok]
  simp only [hm, hfn]
  rw [hpe]
  simp only [follow, Sem.run_bind, Sem.run_pure, Result.andThen_ok, receiverAt, Place.get, hU, strVal, asAddr]
  simp only [show (#[] : Array FieldStep).isEmpty = true from rfl, if_true, Sem.run_bind, hW, Result.andThen_ok, Sem.run_pure, hL]
theorem hp_meth0 {nm : String} {f : FuncId} (hf : ((Tryz.prog.info? 203).bind fun i => (i.methods.find? (·.name == nm)).map fun m => (m.path.toList, m.func)) = some ([], some (f, false))) (w : World) {b : Nat} {A : Option Addr} {n c : Nat} (h : w.cell? ⟨b, 0, none⟩ = some (.slice A n c)) :
    (method 363 203 (.pointer (some ⟨b, 0, none⟩)) nm).run Tryz.prog w = .ok (f, .slice A n c) w := hp_meth hf _ w h
end Go.Proofs.YtecgbelgoomneaaGreat
/- A heap of the greatest numbers met so far: what it holds, one by one. Plain mathematics. No program in sight. -/
namespace Go.Proofs.YtecgbelgoomneaaGreat
open Go.Sort
set_option maxRecDepth 100000
set_option linter.unusedVariables false
/-- A place with its number's size. -/
def ent (v : List Int) (i : Nat) : Nat × Nat := (i, szN (v.getD i 0))
theorem beh_ent {v : List Int} {i k : Nat} : beh (ent v i) (ent v k) = ahB v k i := by
  unfold beh ahB ent
  rw [← Bool.decide_and, ← Bool.decide_or]
  exact decide_eq_decide.2 (by constructor <;> rintro (h | ⟨h1, h2⟩) <;> first | exact .inl h | exact .inr ⟨h1.symm, h2⟩)
theorem getD_take {v : List Int} {m i : Nat} (h : i < m) : (v.take m).getD i 0 = v.getD i 0 := by
  rw [List.getD_eq_getElem?_getD, List.getD_eq_getElem?_getD, List.getElem?_take_of_lt h]
theorem ah_take {v : List Int} {m i k : Nat} (hi : i < m) (hk : k < m) : ahB (v.take m) i k = ahB v i k := by
  unfold ahB
  rw [getD_take hi, getD_take hk]
theorem rk_take {v : List Int} {m i : Nat} (hi : i < m) : ∀ q, q ≤ m → rkM (v.take m) i q = rkM v i q
  | 0, _ => rfl
  | q + 1, h => by rw [rkM, rkM, rk_take hi q (by omega), ah_take (by omega) hi]
theorem rkN_take {v : List Int} {m i : Nat} (hm : m ≤ v.length) (hi : i < m) : rkN (v.take m) i = rkM v i m := by
  unfold rkN
  rw [List.length_take, Nat.min_eq_left hm, rk_take hi m (Nat.le_refl _)]
theorem pk_take_mem {v : List Int} {m k i : Nat} (hm : m ≤ v.length) : i ∈ pkF (v.take m) k ↔ i < m ∧ rkM v i m < k := by
  rw [pkF_mem, List.length_take, Nat.min_eq_left hm]
  constructor
  · rintro ⟨h1, h2⟩
    exact ⟨h1, by rwa [rkN_take hm h1] at h2⟩
  · rintro ⟨h1, h2⟩
    exact ⟨h1, by rwa [rkN_take hm h1]⟩
theorem take_len' {v : List Int} {m : Nat} (hm : m ≤ v.length) : (v.take m).length = m := by rw [List.length_take, Nat.min_eq_left hm]
theorem pk_few {v : List Int} {m k : Nat} (hm : m ≤ v.length) (hk : m ≤ k) : pkF (v.take m) k = List.range m := by
  unfold pkF
  rw [take_len' hm, List.filter_eq_self]
  intro i hi
  have hi := List.mem_range.1 hi
  rw [rkN_take hm hi]
  exact decide_eq_true (Nat.lt_of_lt_of_le (rkM_lt v i m hi) hk)
/-- What the heap holds when m numbers have been met, k of them kept. -/
def ctn (v : List Int) (m k : Nat) : List (Nat × Nat) := (pkF (v.take m) k).map (ent v)
theorem ctn_zero (v : List Int) (k : Nat) : ctn v 0 k = [] := by
  unfold ctn pkF
  simp
theorem ctn_len {v : List Int} {m k : Nat} (hm : m ≤ v.length) : (ctn v m k).length = min m k := by
  unfold ctn
  rw [List.length_map]
  by_cases h : m ≤ k
  · rw [pk_few hm h, List.length_range, Nat.min_eq_left h]
  · rw [pkF_len (by rw [take_len' hm]; omega), Nat.min_eq_right (by omega)]
theorem ctn_all (v : List Int) (k : Nat) : ctn v v.length k = (pkF v k).map (ent v) := by unfold ctn; rw [List.take_length]
/-- One more is met while there is room. -/
theorem ctn_more {v : List Int} {m k : Nat} (hm : m < v.length) (h : m < k) : ctn v (m + 1) k = ctn v m k ++ [ent v m] := by
  unfold ctn
  rw [pk_few (by omega) (by omega), pk_few (by omega) (by omega), List.range_succ, List.map_append]
  rfl
theorem ent_inj (v : List Int) {i j : Nat} (h : ent v i = ent v j) : i = j := congrArg Prod.fst h
/-- One more is met where there is none: the one that goes is the one of all these that is behind all others. -/
theorem ctn_full {v : List Int} {m k : Nat} (hm : m < v.length) (h : k ≤ m) {x : Nat × Nat} {l : List (Nat × Nat)} (hp : (x :: l).Perm (ctn v m k ++ [ent v m])) (hx : ∀ y ∈ l, beh y x = false) : l.Perm (ctn v (m + 1) k) := by
  -- those that stay, as places
  have hT : ∀ i, i ∈ pkF (v.take (m + 1)) k → i ∈ pkF (v.take m) k ++ [m] := fun i hi => by
    obtain ⟨h1, h2⟩ := (pk_take_mem (by omega)).1 hi
    rw [List.mem_append, List.mem_singleton]
    by_cases e : i = m
    · exact .inr e
    · refine .inl ((pk_take_mem (by omega)).2 ⟨by omega, ?_⟩)
      have : rkM v i m ≤ rkM v i (m + 1) := by rw [rkM]; omega
      omega
  have hSn : (pkF (v.take m) k ++ [m]).Nodup := by
    rw [List.nodup_append]
    refine ⟨pkF_nodup _ _, by simp, fun a ha b hb e => ?_⟩
    rw [List.mem_singleton] at hb
    have := ((pk_take_mem (by omega)).1 ha).1
    omega
  have hSl : (pkF (v.take m) k ++ [m]).length = k + 1 := by
    rw [List.length_append, pkF_len (by rw [take_len' (by omega)]; omega)]
    rfl
  have hTl : (pkF (v.take (m + 1)) k).length = k := pkF_len (by rw [take_len' (by omega)]; omega)
  have hTn := pkF_nodup (v.take (m + 1)) k
  have hmap : ctn v m k ++ [ent v m] = (pkF (v.take m) k ++ [m]).map (ent v) := by unfold ctn; rw [List.map_append]; rfl
  rw [hmap] at hp
  -- the one that goes is a place, too
  obtain ⟨y, hy, rfl⟩ := List.mem_map.1 (hp.mem_iff.1 List.mem_cons_self)
  have hyT : y ∉ pkF (v.take (m + 1)) k := by
    intro hyT
    -- somebody is not among those that stay, and this one is ahead of y
    have hex : ∃ z, z ∈ pkF (v.take m) k ++ [m] ∧ z ∉ pkF (v.take (m + 1)) k := Classical.byContradiction fun hno => by
      have hsub : ∀ z, z ∈ pkF (v.take m) k ++ [m] → z ∈ pkF (v.take (m + 1)) k := fun z hz => Classical.byContradiction fun hn => hno ⟨z, hz, hn⟩
      have hperm := (List.perm_ext_iff_of_nodup hSn hTn).2 fun z => ⟨hsub z, hT z⟩
      have := hperm.length_eq
      omega
    obtain ⟨z, hz, hzT⟩ := hex
    have hzm : z < m + 1 := by
      rw [List.mem_append, List.mem_singleton] at hz
      rcases hz with hz | hz
      · have := ((pk_take_mem (by omega)).1 hz).1
        omega
      · omega
    have hym := (pk_take_mem (show m + 1 ≤ v.length by omega)).1 hyT
    have hzr : ¬ rkM v z (m + 1) < k := fun hlt => hzT ((pk_take_mem (by omega)).2 ⟨hzm, hlt⟩)
    have hne : z ≠ y := fun e => by rw [e] at hzT; exact hzT hyT
    have hah : ahB v y z = true := by
      rcases ah_tot (v := v) hne with h1 | h1
      · have := rkM_mono h1 (m + 1)
        omega
      · exact h1
    have hzl : ent v z ∈ l := by
      have := hp.mem_iff.2 (List.mem_map.2 ⟨z, hz, rfl⟩)
      rcases List.mem_cons.1 this with e | e
      · exact absurd (ent_inj v e) hne
      · exact e
    have := hx _ hzl
    rw [beh_ent, hah] at this
    cases this
  have hfin : (y :: pkF (v.take (m + 1)) k).Perm (pkF (v.take m) k ++ [m]) := by
    have hn1 : (y :: pkF (v.take (m + 1)) k).Nodup := List.nodup_cons.2 ⟨hyT, hTn⟩
    have hsub : (y :: pkF (v.take (m + 1)) k) ⊆ pkF (v.take m) k ++ [m] := fun z hz => by
      rcases List.mem_cons.1 hz with rfl | hz
      · exact hy
      · exact hT z hz
    refine (List.perm_ext_iff_of_nodup hn1 hSn).2 fun z => ⟨fun hz => hsub hz, fun hz => Classical.byContradiction fun hn => ?_⟩
    have hn2 : (z :: y :: pkF (v.take (m + 1)) k).Nodup := List.nodup_cons.2 ⟨hn, hn1⟩
    have := List.Nodup.length_le_of_subset hn2 (l₂ := pkF (v.take m) k ++ [m]) (fun q hq => by
      rcases List.mem_cons.1 hq with rfl | hq
      · exact hz
      · exact hsub hq)
    rw [hSl, List.length_cons, List.length_cons, hTl] at this
    omega
  have h2 := (hfin.map (ent v)).symm
  rw [List.map_cons] at h2
  exact (hp.trans h2).cons_inv
/-- The places of all that the heap holds, sorted. -/
theorem pk_sorted {v : List Int} {k : Nat} {l : List Int} (hp : l.Perm ((pkF v k).map fun (i : Nat) => (i : Int))) : l.mergeSort (fun x y => decide (x ≤ y)) = pkI v k := by
  have h1 := List.pairwise_mergeSort (le := fun x y : Int => decide (x ≤ y)) (fun a b c h1 h2 => by simp at *; omega) (fun a b => by simp; omega) l
  have h2 : (l.mergeSort (fun x y => decide (x ≤ y))).Perm (pkI v k) := (List.mergeSort_perm l _).trans hp
  refine List.Perm.eq_of_pairwise (le := fun x y : Int => x ≤ y) (fun a b _ _ h3 h4 => by omega) (h1.imp fun h => by simpa using h) ((pkI_ris v k).imp fun h => by omega) h2
end Go.Proofs.YtecgbelgoomneaaGreat
/- The program's places: their code put and got. -/
namespace Go.Proofs.YtecgbelgoomneaaGreat
open Go.RowKit
set_option maxHeartbeats 400000
set_option linter.unusedVariables false
theorem ix_numbers {A : Option Addr} {c : Nat} (dim : Int) (l : List Int) (hp : plcP dim l) (w : World) (ra : Rd (Value.int .i64) w w.heap.size A l) :
    Calls Tryz.prog 188 #[.slice A l.length c] w (OwnOf 25 .u64 w.heap.size (putL l) w) := by
  have hlen := plc_le hp
  have hd4 := hp.2.1
  have HL : Hid (∀ k x, l[k]? = some x → lastI (-1) (l.take (k + 1)) = x) := hid (fun k x h => lastI_step h)
  have HI : Hid (∀ k x, l[k]? = some x → -1 ≤ lastI (-1) (l.take k) ∧ lastI (-1) (l.take k) < x ∧ 0 ≤ x ∧ x < dim) := hid (fun k x h => lastI_lt hp h)
  have HG : Hid (∀ k x, l[k]? = some x → gapsF (-1) (l.take (k + 1)) = gapsF (-1) (l.take k) ++ [x - lastI (-1) (l.take k) - 1]) := hid (fun k x h => putL_step h)
  have HN0 : Hid (gapsF (-1) (l.take 0) = []) := hid rfl
  have HL0 : Hid (lastI (-1) (l.take 0) = -1) := hid rfl
  have HNl : Hid (∀ k, (gapsF (-1) (l.take k)).length ≤ l.length) := hid (fun k => by rw [gaps_len, List.length_take]; omega)
  have HE : Hid (∀ k, k = l.length → (l.length : Int) :: gapsF (-1) (l.take k) = putL l) := hid (fun k h => by rw [List.take_of_length_le (by omega)]; rfl)
  obtain ⟨R, hR⟩ : ∃ R, putL l = R := ⟨_, rfl⟩
  rw [hR] at HE ⊢
  obtain ⟨N, hN⟩ : ∃ N, l.length = N := ⟨_, rfl⟩
  have HN := hid hN
  rw [hN] at HE HNl hlen ⊢
  have RA := hid ra
  have hN4 : N ≤ 4096 := by omega
  have hmk := fun W => run_room (P := Tryz.prog) 29 25 (.int .u64 0) 8 Tryz.underlying29 info_u64 rfl (N + 1) (by omega) (by omega) W
  have h0 := own_room w 25 (.int .u64 0) (N + 1) (by simp [maxLen]; omega) (Nat.le_refl _)
  obtain ⟨w0, hw0⟩ : ∃ w0, w.alloc (.cells (madeCells #[.int .u64 0] (N + 1)) 25) = w0 := ⟨_, rfl⟩
  have hb0 : Below w.heap.size w w0 := by rw [← hw0]; exact (Below.refl _ _).alloc (Nat.le_refl _) _
  have hr0 : Rd (Value.int .u64) (w0.alloc (.cells #[.int .u64 (N : Int)] 25)) _ (some ⟨w0.heap.size, 0, none⟩) [(N : Int)] := rd_one (one_cell w0 (.int .u64 (N : Int)) 25).1
  have hrun := hmk w
  rw [hw0] at hrun h0
  rw [show ((N + 1 : Nat) : Int) = (N : Int) + 1 by omega] at hrun
  have h0' := own_on h0 ((Below.refl w0.heap.size w0).alloc (Nat.le_refl _) (.cells #[.int .u64 (N : Int)] 25))
  have hbw := hb0.alloc hb0.size (.cells #[.int .u64 (N : Int)] 25)
  clear hmk hw0 h0 hR hN ra hp hlen
  go_enter Tryz.func188, Tryz.ntmps188
  go_wp2_with (at_builtin; refine wpList_app (Value.int .u64) (fun _ => rfl) _ rfl _ _ 29 rfl w.heap.size 25 (.int .u64 0) 8 Tryz.underlying29 info_u64 rfl [] _ (N + 1) rfl h0' [(N : Int)] _ 1 _ rfl hr0 (by simp [maxLen]) (by simp) hbw.size ?_)
  rintro S A' c' w1 hS ho hb1 _
  have HS := hid hS
  have HO := hid ho
  have k1 := hbw.trans hb1
  clear hS ho hb1 hbw h0' hr0 hrun hb0
  go_wp2_with fail
  go_loopw [3, 4, 6, 18] (fun t p x0 i wr => ∃ (k : Nat) (S : List Int) (A2 : Option Addr) (c2 : Nat), k ≤ N ∧ i = .int .i64 k ∧ p = .int .i64 (lastI (-1) (l.take k) + 1) ∧ t = .slice A2 S.length c2 ∧ S = (N : Int) :: gapsF (-1) (l.take k) ∧ wr.ownsRow w.heap.size 25 1 (.slice A2 S.length c2) S.length (S.map (Value.int .u64)) ∧ Below w.heap.size w wr) (fun _ _ _ i _ => N - (intOf i).toNat)
  case atStart => exact ⟨0, S, A', c', by omega, rfl, by rw [HL0.out]; rfl, rfl, by rw [HS.out, HN0.out], HO.out, k1⟩
  case round =>
    clear HO k1 HS
    obtain ⟨k, S, A2, c2, hk, rfl, rfl, rfl, hS, ho, hbel⟩ := hrel
    have hSl : S.length ≤ 5000 := by have h1 := HNl.out k; rw [hS, List.length_cons]; omega
    have HS := hid hS
    have HO := hid ho
    clear hS ho
    by_cases hlt : k < N
    · obtain ⟨b1, o1, x, rfl, l1, ex, cx⟩ := (RA.out.below hbel).at_ (k := k) (by rw [HN.out]; exact hlt)
      have hi := HI.out k x ex
      have HGk := hid (HG.out k x ex)
      have HLk := hid (HL.out k x ex)
      obtain ⟨t, ht⟩ : ∃ t, lastI (-1) (l.take k) = t := ⟨_, rfl⟩
      obtain ⟨g, hg⟩ : ∃ g, x - t - 1 = g := ⟨_, rfl⟩
      rw [ht] at hi HGk
      rw [hg] at HGk
      have hg2 : x - (t + 1) = g := by omega
      have hgb : 0 ≤ g ∧ g ≤ 4096 := by omega
      have hr0 : Rd (Value.int .u64) (wr.alloc (.cells #[.int .u64 g] 25)) _ (some ⟨wr.heap.size, 0, none⟩) [g] := rd_one (one_cell wr (.int .u64 g) 25).1
      have h0' := own_on HO.out ((Below.refl wr.heap.size wr).alloc (Nat.le_refl _) (.cells #[.int .u64 g] 25))
      have hbs := hbel.size
      rw [ht]
      clear ex ht hg
      go_wp2_with (at_builtin; refine wpList_app (Value.int .u64) (fun _ => rfl) _ rfl _ _ 29 rfl w.heap.size 25 (.int .u64 0) 8 Tryz.underlying29 info_u64 rfl S _ _ rfl h0' [g] _ 1 _ rfl hr0 (by simp [maxLen]; omega) (by simp; omega) (by simp; omega) ?_)
      rintro S' A' c' w4 hS' ho hb4 _
      have HS' := hid hS'
      have HO' := hid ho
      clear hS' ho h0' hr0 hg2
      go_wp2_with fail
      go_roundw
      case rel => exact ⟨k + 1, S', A', c', by omega, by go_num, by rw [HLk.out], rfl, by rw [HS'.out, HS.out, HGk.out, List.cons_append], HO'.out, (hbel.alloc hbel.size _).trans hb4⟩
      case measure => simp [intOf]; omega
    · obtain rfl : k = N := by omega
      have HR : Hid (S = R) := hid (by rw [HS.out, HE.out k rfl])
      clear HS
      have h := HR.out
      subst h
      go_wp2_with fail
      go_ret
      exact ⟨A2, c2, rfl, HO.out, hbel⟩
theorem ix_Put {A : Option Addr} {c : Nat} (dim : Int) (l : List Int) (hd : I64 dim) (hl : l.length ≤ 100000) (w : World) (ra : Rd (Value.int .i64) w w.heap.size A l) :
    Calls Tryz.prog 147 #[.int .i64 dim, .slice A l.length c] w (OwnE 5 .u8 w.heap.size (pixV dim l) (chkE dim l) w) := by
  have C := hid (ix_Check (A := A) (c := c) dim l hd hl w ra)
  by_cases h : chkE dim l = 0
  · have hp := chk_ok.1 h
    have hlen := plc_le hp
    have hd4 := hp.2.1
    have e : pixV dim l = encs (putL l) := if_pos h
    rw [h] at C
    rw [h, e]
    have CN := hid (fun W h => ix_numbers (A := A) (c := c) dim l hp W h)
    have HPl : Hid ((putL l).length = l.length + 1) := hid (by unfold putL; rw [List.length_cons, gaps_len])
    have HPu := hid (putL_u64 hp)
    obtain ⟨P, hP⟩ : ∃ P, putL l = P := ⟨_, rfl⟩
    rw [hP] at CN HPl HPu ⊢
    have hPl : P.length ≤ 5000 := by rw [HPl.out]; omega
    have CP : Hid (∀ B d W, Rd (Value.int .u64) W W.heap.size B P → Calls Tryz.prog 58 #[.slice none 0 0, .slice B P.length d] W (OwnOf 5 .u8 W.heap.size (encs P) W)) := hid (fun B d W h => leb_Put (A := none) (B := B) (c := 0) (d := d) [] P (by decide) hPl HPu.out W Rd.none_ h)
    obtain ⟨R, hR⟩ : ∃ R, encs P = R := ⟨_, rfl⟩
    rw [hR] at CP ⊢
    have RA := hid ra
    clear h e hp hP hR ra hd HPl HPu hlen hd4
    go_enter Tryz.func147, Tryz.ntmps147
    go_wp2_with fail
    refine C.out.mono ?_
    rintro _ w1 ⟨rfl, hb1⟩
    have CN1 := hid (CN.out w1 (RA.out.on hb1))
    clear CN C
    go_wp2_with fail
    refine CN1.out.mono ?_
    rintro _ w2 ⟨A2, c2, rfl, ho2, hb2⟩
    have CP1 := hid (CP.out A2 c2 w2 (own_rd ho2))
    have k2 : Below w.heap.size w w2 := hb1.trans (hb2.mono hb1.size)
    clear CP CN1 ho2 hb2
    go_wp2_with fail
    refine CP1.out.mono ?_
    rintro _ w3 ⟨A3, c3, rfl, ho3, hb3⟩
    have HO := hid (own_base ho3 k2.size)
    clear ho3 CP1
    go_wp2_with fail
    go_ret2
    exact ⟨A3, c3, rfl, HO.out, k2.trans (hb3.mono k2.size)⟩
  · have e : pixV dim l = [] := if_neg h
    rw [e]
    obtain ⟨E, hE⟩ : ∃ E, chkE dim l = E := ⟨_, rfl⟩
    rw [hE] at C h ⊢
    have hne : (E != 0) = true := by simpa using h
    clear h e hE ra
    go_enter Tryz.func147, Tryz.ntmps147
    go_wp2_with fail
    refine C.out.mono ?_
    rintro _ _ ⟨rfl, hb1⟩
    go_wp2_with fail
    go_ret2
    exact .nil hb1
/-- A row that was made, filled place by place. -/
theorem own_fill {w' : World} {b B : Nat} {e : TypeId} {O : List Int} (h : w'.rowIs b e O.length (fun j => .int .i64 (O.getD j 0))) (hB : B ≤ b) (hn : O.length ≤ maxLen) :
    w'.ownsRow B e 1 (.slice (some ⟨b, 0, none⟩) O.length O.length) O.length (O.map (Value.int .i64)) := by
  have h2 := own_made (w' := w') h hB hn
  have e2 : (List.range O.length).map (fun j => Value.int .i64 (O.getD j 0)) = O.map (Value.int .i64) := by
    apply List.ext_getElem (by simp)
    intro i h1 h2
    simp at h1
    simp [List.getD, h1]
  rwa [e2] at h2
theorem getD_snoc (O : List Int) (z : Int) (j : Nat) : (O ++ [z]).getD j 0 = if j = O.length then z else O.getD j 0 := by
  unfold List.getD
  by_cases h : j < O.length
  · rw [List.getElem?_append_left h, if_neg (by omega)]
  · rw [List.getElem?_append_right (by omega)]
    by_cases e : j = O.length
    · rw [if_pos e, e]; simp
    · rw [if_neg e, List.getElem?_eq_none (by simp; omega), List.getElem?_eq_none (by omega)]
theorem ix_places {A : Option Addr} {c : Nat} (dim : Int) (M : Nat) (b : List Int) (h1' : 1 ≤ dim) (h2' : dim ≤ 4096) (hMd : (M : Int) ≤ dim) (hb : b.length ≤ c) (hc : c ≤ 9223372036854775807) (ub : U8s b) (a : Int) (ha : I64 a) (w : World) (ra : Rd (Value.int .u8) w w.heap.size A b) :
    Calls Tryz.prog 221 #[.int .i64 dim, .int .i64 (M : Int), .slice A b.length c, .int .i64 a] w (OwnG (ixL dim b M (-1) a) w) := by
  have HR : Hid (withL [] (ixL dim b (M - 0) (-1) a) = ixL dim b M (-1) a) := hid (by
    rw [Nat.sub_zero]
    exact withL_nil (fun h => ixL_bad _ _ _ _ _ h))
  obtain ⟨r, hr⟩ : ∃ r, ixL dim b M (-1) a = r := ⟨_, rfl⟩
  rw [hr] at HR ⊢
  have HA := hid ra
  have HU := hid ub
  have hmk := run_make_row' (P := Tryz.prog) 26 3 (.int .i64 0) 8 Tryz.underlying26 info_int rfl .i64 .i64 M (by omega) (by omega) w
  clear hr ra ub
  go_enter Tryz.func221, Tryz.ntmps221
  go_wp2_with fail
  go_loopw [3, 12, 13, 14, 15, 16, 21] (fun q p x13 x14 x15 x16 i wr => ∃ (k : Nat) (x y : Int) (O : List Int), k ≤ M ∧ i = .int .i64 k ∧ q = .int .i64 x ∧ I64 x ∧ p = .int .i64 (y + 1) ∧ -1 ≤ y ∧ y < dim ∧ O.length = k ∧ withL O (ixL dim b (M - k) y x) = r ∧ wr.rowIs w.heap.size 3 M (fun j => .int .i64 (O.getD j 0)) ∧ Below w.heap.size w wr) (fun _ _ _ _ _ _ i _ => M - (intOf i).toNat)
  case atStart => exact ⟨0, a, -1, [], by omega, rfl, rfl, ha, rfl, by omega, by omega, rfl, HR.out, (World.rowIs_made w (.int .i64 0) M _).congr (fun j hj => by simp [List.getD]), by go_grown⟩
  case round =>
    clear HR hmk
    obtain ⟨k, x, y, O, hk, rfl, rfl, hx, rfl, hy0, hy1, hOk, hs, hrow, hbel⟩ := hrel
    have HS := hid hs
    have HO := hid hrow
    have HK := hid hOk
    clear hs hOk hrow
    by_cases hlt : k < M
    · have CG2 := hid (fun W h => leb_Get (A := A) (c := c) b hb hc HU.out x hx W (B := w.heap.size) h)
      have HX2 := hid (fun h => getA_i64 (b := b) (a := x) (c := c) HU.out hb hc h)
      have HOK2 := hid (fun h => (get_ok (b := b) (a := x) HU.out h).2.1)
      have HM2 : Hid ((getE b x ≠ 0 → r = ([], 0, getE b x)) ∧ (getE b x = 0 → dim - y - 1 ≤ getN b x → r = ([], 0, 6)) ∧ (getE b x = 0 → getN b x < dim - y - 1 → withL (O ++ [y + getN b x + 1]) (ixL dim b (M - (k + 1)) (y + getN b x + 1) (getA b x)) = r)) := hid (by
        have h := HS.out
        rw [show M - k = (M - (k + 1)) + 1 by omega] at h
        exact ⟨fun e => by rw [← h]; exact withL_err e, fun e1 e2 => by rw [← h]; exact withL_form e1 e2, fun e1 e2 => by rw [← h]; exact (withL_step e1 e2).symm⟩)
      obtain ⟨N, hN⟩ : ∃ N, getN b x = N := ⟨_, rfl⟩
      obtain ⟨E, hE⟩ : ∃ N, getE b x = N := ⟨_, rfl⟩
      obtain ⟨X2, hX⟩ : ∃ N, getA b x = N := ⟨_, rfl⟩
      rw [hN, hE, hX] at HM2 CG2
      rw [hE, hX] at HX2
      rw [hN, hE] at HOK2
      clear hN hE hX
      have C := hid (CG2.out _ (HA.out.below hbel))
      clear CG2
      by_cases her : E = 0
      · have hX2 := HX2.out her
        have hN2 := HOK2.out her
        unfold U64 at hN2
        have hd1 : 0 ≤ dim - (y + 1) := by omega
        have hd2 : dim - (y + 1) ≤ 4096 := by omega
        by_cases hbig : dim - y - 1 ≤ N
        · have HR2 := hid (HM2.out.2.1 her hbig)
          have hbig2 : dim - (y + 1) ≤ N := by omega
          subst her
          clear HX2 HOK2 HM2 hbig
          go_wp2_with fail
          refine C.out.mono ?_
          rintro _ _ ⟨rfl, rfl⟩
          go_wp2_with fail
          go_ret3
          rw [HR2.out]
          exact OwnG.nil hbel
        · have HR2 := hid (HM2.out.2.2 her (by omega))
          have hsm : N < dim - (y + 1) := by omega
          subst her
          obtain ⟨z, hz⟩ : ∃ z, y + N + 1 = z := ⟨_, rfl⟩
          rw [hz] at HR2
          have hz2 : y + 1 + N = z := by omega
          have hzb : 0 ≤ z ∧ z < dim := by omega
          have f1 := HO.out.frozen k
          have c3 := HO.out.cell hlt
          clear hbig hz HX2 HOK2 HM2
          go_wp2_with fail
          refine C.out.mono ?_
          rintro _ _ ⟨rfl, rfl⟩
          go_wp2_with fail
          go_roundw
          case rel =>
            refine ⟨k + 1, X2, z, O ++ [z], by omega, by go_num, rfl, hX2, rfl, by omega, hzb.2, by rw [List.length_append, HK.out]; rfl, HR2.out, ?_, hbel.setCell (Nat.le_refl _) _⟩
            refine World.rowIs.congr (HO.out.set k (.int .i64 z)) fun j hj => ?_
            rw [getD_snoc, HK.out]
            by_cases e : j = k
            · rw [if_pos e, if_pos (by omega)]
            · rw [if_neg e, if_neg (by omega)]
          case measure => simp [intOf]; omega
      · have hne : (E != 0) = true := by simpa using her
        have HR2 := hid (HM2.out.1 her)
        clear HX2 HOK2 HM2
        go_wp2_with fail
        refine C.out.mono ?_
        rintro _ _ ⟨rfl, rfl⟩
        go_wp2_with fail
        go_ret3
        rw [HR2.out]
        exact OwnG.nil hbel
    · obtain rfl : k = M := by omega
      have HR2 : Hid (r = (O, x, 0)) := hid (by
        have h := HS.out
        rw [Nat.sub_self, withL_end] at h
        exact h.symm)
      go_wp2_with fail
      go_ret3
      rw [HR2.out]
      have HO2 := HO.out
      rw [← HK.out] at HO2
      refine ⟨some ⟨w.heap.size, 0, none⟩, O.length, by rw [HK.out]; rfl, own_fill HO2 (Nat.le_refl _) (by rw [HK.out]; simp [maxLen]; omega), hbel⟩
theorem ix_Get {A : Option Addr} {c : Nat} (dim : Int) (b : List Int) (hd : I64 dim) (hb : b.length ≤ c) (hc : c ≤ 9223372036854775807) (ub : U8s b) (a : Int) (ha : I64 a) (w : World) (ra : Rd (Value.int .u8) w w.heap.size A b) :
    Calls Tryz.prog 194 #[.int .i64 dim, .slice A b.length c, .int .i64 a] w (OwnG (gixR dim b a) w) := by
  have CM := hid (ix_may dim hd)
  unfold I64 at hd
  by_cases h1 : 1 ≤ dim ∧ dim ≤ 4096
  · have h1' := h1.1
    have h2' := h1.2
    rw [decide_eq_true h1] at CM
    have CG := hid (leb_Get (A := A) (c := c) b hb hc ub a ha w ra)
    have HOK := hid (fun h => (get_ok (b := b) (a := a) ub h).2.1)
    have HX := hid (fun h => getA_i64 (b := b) (a := a) (c := c) ub hb hc h)
    have HM := hid (gix_cases (b := b) (a := a) h1' h2')
    have CP : Hid (getE b a = 0 → ¬ dim < getN b a → Calls Tryz.prog 221 #[.int .i64 dim, .int .i64 (getN b a), .slice A b.length c, .int .i64 (getA b a)] w (OwnG (gixR dim b a) w)) := hid (fun he hn => by
      have hN := (get_ok (b := b) (a := a) ub he).2.1
      unfold U64 at hN
      obtain ⟨M, hM⟩ := Int.eq_ofNat_of_zero_le hN.1
      have h := ix_places (A := A) (c := c) dim M b h1' h2' (by omega) hb hc ub (getA b a) (getA_i64 ub hb hc he) w ra
      have e : gixR dim b a = ixL dim b M (-1) (getA b a) := by
        unfold gixR
        rw [if_neg (by omega), if_neg (by rw [he]; decide), if_neg hn, hM, Int.toNat_natCast]
      rw [e, hM]
      exact h)
    obtain ⟨r, hr⟩ : ∃ r, gixR dim b a = r := ⟨_, rfl⟩
    obtain ⟨N, hN⟩ : ∃ N, getN b a = N := ⟨_, rfl⟩
    obtain ⟨E, hE⟩ : ∃ E, getE b a = E := ⟨_, rfl⟩
    obtain ⟨X, hX⟩ : ∃ N, getA b a = N := ⟨_, rfl⟩
    rw [hr, hN, hE, hX] at HM CP
    rw [hN, hE, hX] at CG
    rw [hE, hX] at HX
    rw [hN, hE] at HOK
    rw [hr]
    clear hr hN hE hX ra ub h1
    by_cases her : E = 0
    · have hNu := HOK.out her
      unfold U64 at hNu
      by_cases hdim : dim < N
      · have HR := hid (HM.out.2.1 her hdim)
        subst her
        clear HM HOK HX CP
        go_enter Tryz.func194, Tryz.ntmps194
        go_wp2_with fail
        refine (CM.out w).mono ?_
        rintro _ _ ⟨rfl, rfl⟩
        go_wp2_with fail
        refine CG.out.mono ?_
        rintro _ _ ⟨rfl, rfl⟩
        go_wp2_with fail
        go_ret3
        rw [HR.out]
        exact OwnG.nil (Below.refl _ _)
      · have CQ := hid (CP.out her hdim)
        subst her
        clear HM HOK HX CP
        go_enter Tryz.func194, Tryz.ntmps194
        go_wp2_with fail
        refine (CM.out w).mono ?_
        rintro _ _ ⟨rfl, rfl⟩
        go_wp2_with fail
        refine CG.out.mono ?_
        rintro _ _ ⟨rfl, rfl⟩
        go_wp2_with fail
        refine CQ.out.mono ?_
        rintro _ w1 ⟨A2, c2, rfl, ho, hb1⟩
        have HO := hid ho
        clear ho
        go_wp2_with fail
        go_ret3
        exact ⟨A2, c2, rfl, HO.out, hb1⟩
    · have hne : (E != 0) = true := by simpa using her
      have HR := hid (HM.out.1 her)
      clear HM HOK HX CP
      go_enter Tryz.func194, Tryz.ntmps194
      go_wp2_with fail
      refine (CM.out w).mono ?_
      rintro _ _ ⟨rfl, rfl⟩
      go_wp2_with fail
      refine CG.out.mono ?_
      rintro _ _ ⟨rfl, rfl⟩
      go_wp2_with fail
      go_ret3
      rw [HR.out]
      exact OwnG.nil (Below.refl _ _)
  · rw [decide_eq_false h1] at CM
    have e : gixR dim b a = ([], 0, 1) := if_pos (by omega)
    rw [e]
    clear e ra ub h1
    go_enter Tryz.func194, Tryz.ntmps194
    go_wp2_with fail
    refine (CM.out w).mono ?_
    rintro _ _ ⟨rfl, rfl⟩
    go_wp2_with fail
    go_ret3
    exact OwnG.nil (Below.refl _ _)
end Go.Proofs.YtecgbelgoomneaaGreat
/- The program's places: numbers spread and gathered, what is left, lists together. -/
namespace Go.Proofs.YtecgbelgoomneaaGreat
open Go.RowKit
set_option maxHeartbeats 400000
set_option maxRecDepth 100000
set_option linter.unusedVariables false
theorem ix_Gather {A B : Option Addr} {c d : Nat} (l v : List Int) (hl : l.length ≤ 100000) (hv : v.length ≤ 9223372036854775807) (w : World) (ra : Rd (Value.int .i64) w w.heap.size A l) (rv : Rd (Value.int .i64) w w.heap.size B v) :
    Calls Tryz.prog 161 #[.slice A l.length c, .slice B v.length d] w (OwnE 2 .i64 w.heap.size (gatV l v) (gatE l v) w) := by
  have CS := hid (ix_stray (v.length : Int) w)
  have CC := hid (fun W h1 h2 => stray_contains (A := A) (c := c) (p := w.heap.size + 1) (q := w.heap.size) (B := w.heap.size) (by omega) (by omega) (by omega) (v.length : Int) l (by omega) W h1 h2)
  have RA := hid ra
  have RV := hid rv
  by_cases h : gatP l v
  · have e1 : gdB (v.length : Int) l = true := decide_eq_true h
    have e2 : gatV l v = l.map fun n => v.getD n.toNat 0 := if_pos (gat_ok.2 h)
    rw [e1] at CC
    rw [gat_ok.2 h, e2]
    have HI : Hid (∀ (k : Nat) (n : Int), l[k]? = some n → 0 ≤ n ∧ n < v.length) := hid (fun k n hn => h.2 n (List.mem_of_getElem? hn))
    have HG : Hid (∀ (k : Nat) (n x : Int), l[k]? = some n → v[n.toNat]? = some x → (l.map fun n => v.getD n.toNat 0).take (k + 1) = (l.map fun n => v.getD n.toNat 0).take k ++ [x]) := hid (fun k n x hn hx => take_snoc (by rw [List.getElem?_map, hn, Option.map_some, getD_of hx]))
    have HGl : Hid ((l.map fun n => v.getD n.toNat 0).length = l.length) := hid (by simp)
    obtain ⟨G, hG⟩ : ∃ G, (l.map fun n => v.getD n.toNat 0) = G := ⟨_, rfl⟩
    rw [hG] at HG HGl ⊢
    obtain ⟨N, hN⟩ : ∃ N, l.length = N := ⟨_, rfl⟩
    have HN := hid hN
    rw [hN] at HGl CC hl ⊢
    have hmk := fun W => run_make_row' (P := Tryz.prog) 24 2 (.int .i64 0) 8 Tryz.underlying24 info_i64 rfl .i64 .i64 N (by omega) (by omega) W
    clear h e1 e2 hG hN ra rv
    go_enter Tryz.func161, Tryz.ntmps161
    go_wp2_with fail
    refine CS.out.mono ?_
    rintro _ w1 ⟨rfl, hk1, hb1⟩
    have C := hid (CC.out w1 (RA.out.below hb1) hk1)
    clear CC CS hk1
    go_wp2_with fail
    refine C.out.mono ?_
    rintro _ w2 ⟨rfl, hb2⟩
    have k2 := hb1.trans hb2
    have hrun := hmk w2
    clear C hb1 hb2 hmk
    go_wp2_with fail
    clear hrun
    have RA2 := hid (RA.out.on k2)
    have RV2 := hid (RV.out.on k2)
    have hks := k2.size
    clear RA RV
    go_loopw [7, 8, 19] (fun x7 x8 i wr => ∃ k : Nat, k ≤ N ∧ i = .int .i64 k ∧ wr.rowIs w2.heap.size 2 N (fun j => .int .i64 ((G.take k).getD j 0)) ∧ Below w2.heap.size w2 wr) (fun _ _ i _ => N - (intOf i).toNat)
    case atStart => exact ⟨0, by omega, rfl, (World.rowIs_made w2 (.int .i64 0) N _).congr (fun j hj => by simp [List.getD]), by go_grown⟩
    case round =>
      obtain ⟨k, hk, rfl, hrow, hbel⟩ := hrel
      have HR := hid hrow
      by_cases hlt : k < N
      · obtain ⟨b1, o1, n, rfl, l1, en, c1⟩ := (RA2.out.below hbel).at_ (k := k) (by rw [HN.out]; exact hlt)
        have hn := HI.out k n en
        obtain ⟨m, rfl⟩ := Int.eq_ofNat_of_zero_le hn.1
        have hmi := hn.2
        have hm : m < v.length := by omega
        obtain ⟨b2, o2, x, rfl, l2, ex, c2⟩ := (RV2.out.below hbel).at_ hm
        have HS := hid (HG.out k m x en (by rw [Int.toNat_natCast]; exact ex))
        have f1 := hrow.frozen k
        have c3 := hrow.cell hlt
        have hgl : (G.take k).length = k := by rw [List.length_take, HGl.out]; omega
        have HL := hid hgl
        clear en ex hrow hn hgl
        go_wp2_with fail
        go_roundw
        case rel =>
          refine ⟨k + 1, by omega, by go_num, ?_, by first | exact hbel.setCell (Nat.le_refl _) _ | exact (hbel.setCell (Nat.le_refl _) _).drew⟩
          refine World.rowIs.congr (HR.out.set k (.int .i64 x)) fun j hj => ?_
          rw [HS.out, getD_snoc, HL.out]
          by_cases e : j = k
          · rw [if_pos e, if_pos (by omega)]
          · rw [if_neg e, if_neg (by omega)]
        case measure => simp [intOf]; omega
      · obtain rfl : k = N := by omega
        clear hrow
        have HR2 : Hid (wr.rowIs w2.heap.size 2 G.length (fun j => .int .i64 (G.getD j 0))) := hid (by
          have h := HR.out
          rw [List.take_of_length_le (by rw [HGl.out]; omega)] at h
          rw [HGl.out]; exact h)
        clear HR
        go_wp2_with fail
        go_ret2
        refine ⟨some ⟨w2.heap.size, 0, none⟩, G.length, by rw [HGl.out]; rfl, own_fill HR2.out hks (by rw [HGl.out]; unfold maxLen; omega), k2.trans (hbel.mono hks)⟩
  · have e1 : gdB (v.length : Int) l = false := decide_eq_false h
    have e2 : gatV l v = [] := if_neg (by rw [gat_no h]; decide)
    rw [e1] at CC
    rw [gat_no h, e2]
    clear h e1 e2 ra rv
    go_enter Tryz.func161, Tryz.ntmps161
    go_wp2_with fail
    refine CS.out.mono ?_
    rintro _ w1 ⟨rfl, hk1, hb1⟩
    have C := hid (CC.out w1 (RA.out.below hb1) hk1)
    clear CC CS hk1
    go_wp2_with fail
    refine C.out.mono ?_
    rintro _ w2 ⟨rfl, hb2⟩
    go_wp2_with fail
    go_ret2
    exact .nil (hb1.trans hb2)
def srtI (zs : List Int) : List Int := zs.mergeSort fun x y => decide (x ≤ y)
theorem ix_sort {A : Option Addr} {c base : Nat} (zs : List Int) (hz : zs.length ≤ 100000) (w : World) (hB : base ≤ w.heap.size) (ho : w.ownsRow base 3 1 (.slice A zs.length c) zs.length (zs.map (Value.int .i64))) :
    Calls Tryz.prog 200 #[.slice A zs.length c] w fun e w' => e = .returned (.tuple #[]) ∧ w'.ownsRow base 3 1 (.slice A zs.length c) zs.length ((srtI zs).map (Value.int .i64)) ∧ Below base w w' := by
  have hlen : (srtI zs).length = zs.length := by unfold srtI; simp
  rcases ho.2 with ⟨he, h0⟩ | ⟨g, cap, cur, he, hg, hh, h1, h2, h3, h4⟩
  · simp only [Value.slice.injEq] at he
    obtain ⟨rfl, _, rfl⟩ := he
    obtain rfl : zs = [] := List.length_eq_zero_iff.1 h0
    refine (Any.slices_Sort_int_none Tryz.lays189 none 0 w).mono ?_
    rintro _ _ ⟨rfl, rfl⟩
    rw [show srtI [] = [] by unfold srtI; simp]
    exact ⟨rfl, own_nil _ _ _, Below.refl _ _⟩
  · simp only [Value.slice.injEq] at he
    obtain ⟨rfl, _, rfl⟩ := he
    rw [Nat.mul_one] at h4
    have hgl := (Array.getElem?_eq_some_iff.1 hh).1
    refine (Tryz.slices_Sort_int g 0 c zs w (holds_of_blockI hh h4) hgl (by omega)).mono ?_
    rintro _ _ ⟨rfl, n, os, rfl⟩
    refine ⟨rfl, ?_, (Below.refl base w).grown (grownBy_sortedI _) hB (fun k hk => by cases hk; exact hg)⟩
    exact ownsRow_sortedI hlen hg hh h1 h2 h3
end Go.Proofs.YtecgbelgoomneaaGreat

namespace Go.Proofs.YtecgbelgoomneaaGreat
open Go.RowKit
set_option maxHeartbeats 400000
set_option maxRecDepth 100000
set_option linter.unusedVariables false
theorem lead (y : Int) (h0 : 1 ≤ y) (h1 : y ≤ 18446744073709551615) (w : World) :
    Calls Tryz.prog 231 #[.int .u64 y] w fun e w' => ∃ s : Nat, e = .returned (.int .i64 s) ∧ s ≤ 63 ∧ 9223372036854775808 ≤ y * 2 ^ s ∧ y * 2 ^ s ≤ 18446744073709551615 ∧ w = w' := by
  refine (Tryz.bits_LeadingZeros64 y w (by omega) h1).mono ?_
  rintro e w' ⟨rfl, rfl⟩
  obtain ⟨n, rfl⟩ := Int.eq_ofNat_of_zero_le (show 0 ≤ y by omega)
  have hb := Lib.bitLenAux_bounds 64 n (by omega) (by omega)
  change 1 ≤ Lib.bitLen n ∧ 2 ^ (Lib.bitLen n - 1) ≤ n ∧ n < 2 ^ Lib.bitLen n at hb
  have hle : Lib.bitLen n ≤ 64 := by
    rcases Nat.lt_or_ge 64 (Lib.bitLen n) with h | h
    · have := Nat.pow_le_pow_right (show 0 < 2 by decide) (show 64 ≤ Lib.bitLen n - 1 by omega)
      omega
    · exact h
  have p1 : n * 2 ^ (64 - Lib.bitLen n) < 18446744073709551616 := by
    have e : 2 ^ Lib.bitLen n * 2 ^ (64 - Lib.bitLen n) = 18446744073709551616 := by rw [← Nat.pow_add, show Lib.bitLen n + (64 - Lib.bitLen n) = 64 by omega]
    rw [← e]
    exact Nat.mul_lt_mul_of_pos_right hb.2.2 (Nat.two_pow_pos _)
  have p2 : 9223372036854775808 ≤ n * 2 ^ (64 - Lib.bitLen n) := by
    have e : 2 ^ (Lib.bitLen n - 1) * 2 ^ (64 - Lib.bitLen n) = 9223372036854775808 := by rw [← Nat.pow_add, show Lib.bitLen n - 1 + (64 - Lib.bitLen n) = 63 by omega]
    rw [← e]
    exact Nat.mul_le_mul_right _ hb.2.1
  have c1 : ((n : Int) * 2 ^ (64 - Lib.bitLen n)) = ((n * 2 ^ (64 - Lib.bitLen n) : Nat) : Int) := by simp
  refine ⟨64 - Lib.bitLen n, ?_, by omega, by rw [c1]; omega, by rw [c1]; omega, rfl⟩
  congr 2
  simp only [Int.toNat_natCast]
  omega
theorem div64_low (l y : Int) (hl : U64 l) (hy : U64 y) (h0 : y ≠ 0) (w : World) :
    Calls Tryz.prog 209 #[.int .u64 0, .int .u64 l, .int .u64 y] w fun e w' => e = .returned (.tuple #[.int .u64 (l / y), .int .u64 (l % y)]) ∧ w.drew = w' := by
  unfold U64 at hl hy
  have hy1 : 1 ≤ y := by omega
  have k1 : (y == 0) = false := by simpa using h0
  have k2 : (decide (y ≤ 0)) = false := by simp; omega
  go_enter Tryz.func209, Tryz.ntmps209
  go_wp2
  go_region
  go_wp2
  go_ret2
  exact ⟨rfl, rfl⟩
theorem rem_of {u d1 d0 t1 Q1 D : Int} (n : Den u d1 d0 t1) (hQ : (u * 4294967296 + t1) / (d1 * 4294967296 + d0) = Q1) (hD : D = d1 * 4294967296 + d0) :
    IntKind.u64.wrap (IntKind.u64.wrap (IntKind.u64.wrap (u * 4294967296) + t1) - IntKind.u64.wrap (Q1 * D)) = u * 4294967296 + t1 - Q1 * D ∧ 0 ≤ u * 4294967296 + t1 - Q1 * D ∧ u * 4294967296 + t1 - Q1 * D < D := by
  obtain ⟨h1, h2, h3, h4, h5, h6, h7, h8⟩ := n
  rw [← hD] at hQ
  have e := Int.mul_ediv_add_emod (u * 4294967296 + t1) D
  have e1 := Int.emod_nonneg (u * 4294967296 + t1) (show D ≠ 0 by omega)
  have e2 := Int.emod_lt_of_pos (u * 4294967296 + t1) (show 0 < D by omega)
  rw [hQ, Int.mul_comm] at e
  generalize Q1 * D = p at *
  simp only [IntKind.wrap_u64]
  refine ⟨?_, by omega, by omega⟩
  omega
theorem high_end {h l y u t D d1 d0 t1 t0 Q1 Q0 r1 : Int} {s : Nat} (hs : s ≤ 63) (hy : 0 < y) (hD0 : 0 < D)
    (f : (h * 18446744073709551616 + l) * 2 ^ s = bits BinOp.or IntKind.u64 (IntKind.u64.wrap (h * 2 ^ s)) (l / 2 ^ (64 - s)) * 18446744073709551616 + IntKind.u64.wrap (l * 2 ^ s))
    (hu : bits BinOp.or IntKind.u64 (IntKind.u64.wrap (h * 2 ^ s)) (l / 2 ^ (64 - s)) = u) (ht : IntKind.u64.wrap (l * 2 ^ s) = t) (hD : y * 2 ^ s = D)
    (eD : D = d1 * 4294967296 + d0) (et : t = t1 * 4294967296 + t0) (hr1 : u * 4294967296 + t1 - Q1 * D = r1)
    (hr0 : IntKind.u64.wrap (IntKind.u64.wrap (IntKind.u64.wrap (r1 * 4294967296) + t0) - IntKind.u64.wrap (Q0 * D)) = r1 * 4294967296 + t0 - Q0 * D ∧ 0 ≤ r1 * 4294967296 + t0 - Q0 * D ∧ r1 * 4294967296 + t0 - Q0 * D < D) :
    Q1 * 4294967296 + Q0 = (h * 18446744073709551616 + l) / y ∧ IntKind.u64.wrap (IntKind.u64.wrap (IntKind.u64.wrap (r1 * 4294967296) + t0) - IntKind.u64.wrap (Q0 * D)) / 2 ^ s = (h * 18446744073709551616 + l) % y := by
  obtain ⟨a, b, c⟩ := hr0
  have two := two_digits (D := D) (t1 := u * 4294967296 + t1) (t0 := t0) (a1 := Q1) (a0 := Q0) (b := r1) (r := r1 * 4294967296 + t0 - Q0 * D) hD0 (by omega) (by omega) b c
  rw [hu, ht, et] at f
  have e : (u * 4294967296 + t1) * 4294967296 + t0 = (h * 18446744073709551616 + l) * 2 ^ s := by omega
  rw [e, ← hD] at two
  have q := quo_shift (U := h * 18446744073709551616 + l) (y := y) (p := 2 ^ s) (Int.pow_pos (by decide)) hy
  rw [q.1] at two
  refine ⟨two.1.symm, ?_⟩
  rw [a, ← hD, ← two.2]
  exact q.2
theorem div64_high (h l y : Int) (hl : U64 l) (hy : y ≤ 18446744073709551615) (h0 : 1 ≤ h) (h1 : h < y) (w : World) :
    Calls Tryz.prog 209 #[.int .u64 h, .int .u64 l, .int .u64 y] w fun e w' => e = .returned (.tuple #[.int .u64 ((h * 18446744073709551616 + l) / y), .int .u64 ((h * 18446744073709551616 + l) % y)]) ∧ w = w' := by
  have hy1 : 1 ≤ y := by omega
  have k1 : (y == 0) = false := by simp; omega
  have k2 : (decide (y ≤ h)) = false := by simp; omega
  have k3 : (h == 0) = false := by simp; omega
  go_enter Tryz.func209, Tryz.ntmps209
  go_wp2_with fail
  refine (lead y hy1 hy _).mono ?_
  rintro e w' ⟨s, rfl, hs1, hs2, hs3, rfl⟩
  have f1 := norm_u h l y s hs1 hl (by omega) h1 hs3
  have f2 := norm_sum h l s hs1
  have f3 := norm_lt h l y s hs1 hl h1
  have f4 : 0 ≤ h * 2 ^ s + l / 2 ^ (64 - s) := by rw [← f1, f1]; exact Int.add_nonneg (Int.mul_nonneg (by omega) (Int.le_of_lt (Int.pow_pos (by decide)))) (Int.ediv_nonneg hl.1 (Int.le_of_lt (Int.pow_pos (by decide))))
  rw [← f1] at f2 f3 f4
  have f5 := U64.wrap (l * 2 ^ s)
  obtain ⟨u, hu⟩ : ∃ u, bits BinOp.or IntKind.u64 (IntKind.u64.wrap (h * 2 ^ s)) (l / 2 ^ (64 - s)) = u := ⟨_, rfl⟩
  obtain ⟨t, ht⟩ : ∃ t, IntKind.u64.wrap (l * 2 ^ s) = t := ⟨_, rfl⟩
  have F := hid f2
  clear f1 f2
  rw [hu] at f3 f4
  rw [ht] at f5
  have P := hid (rfl : y * 2 ^ s = y * 2 ^ s)
  obtain ⟨D, hD⟩ : ∃ D, y * 2 ^ s = D := ⟨_, rfl⟩
  rw [hD] at hs2 hs3 f3
  have g1 := and_low D ⟨by omega, hs3⟩
  have g2 := and_low t f5
  obtain ⟨d1, hd1⟩ : ∃ d1, D / 4294967296 = d1 := ⟨_, rfl⟩
  obtain ⟨d0, hd0⟩ : ∃ d0, bits BinOp.and IntKind.u64 D 4294967295 = d0 := ⟨_, rfl⟩
  obtain ⟨t1, ht1⟩ : ∃ t1, t / 4294967296 = t1 := ⟨_, rfl⟩
  obtain ⟨t0, ht0⟩ : ∃ t0, bits BinOp.and IntKind.u64 t 4294967295 = t0 := ⟨_, rfl⟩
  have f6 := f5.1
  have f7 := f5.2
  rw [hd0] at g1
  rw [ht0] at g2
  have eD : D = d1 * 4294967296 + d0 := by omega
  have et : t = t1 * 4294967296 + t0 := by omega
  have b1 : 2147483648 ≤ d1 := by omega
  have b2 : d1 ≤ 4294967295 := by omega
  have b3 : 0 ≤ d0 := by omega
  have b4 : d0 ≤ 4294967295 := by omega
  have b5 : 0 ≤ t1 := by omega
  have b6 : t1 ≤ 4294967295 := by omega
  have b7 : 0 ≤ t0 := by omega
  have b8 : t0 ≤ 4294967295 := by omega
  have n : Den u d1 d0 t1 := ⟨b1, by omega, b3, by omega, f4, by omega, b5, by omega⟩
  have s0 := dig_start n
  have c1 : 0 ≤ u / d1 := s0.1.q0
  have c2 : u / d1 ≤ 4294967297 := s0.1.q1
  have c3 : 0 ≤ u / d1 * d1 := Int.mul_nonneg c1 (by omega)
  have c4 : u / d1 * d1 ≤ u := by have := s0.1.r0; omega
  have b9 : u ≤ 18446744073709551615 := by omega
  have S0 := hid s0
  have ED := hid eD
  have ET := hid et
  clear s0 eD et g1 g2 f3 f5
  go_upto_block 0 with (fail)
  have HU := hid hu
  have HT := hid ht
  have HD := hid hD
  clear hu ht hD hd1 hd0 ht1 ht0 k1 k2 k3 c1 c2 c3 c4
  obtain ⟨Q1, hQ1⟩ : ∃ Q1, (u * 4294967296 + t1) / (d1 * 4294967296 + d0) = Q1 := ⟨_, rfl⟩
  have q1a := dig_quo0 n
  have q1b := dig_quo1 n
  rw [hQ1] at q1a q1b
  have HQ1 := hid hQ1
  clear hQ1
  have QV : Hid (Value.int IntKind.u64 ((u * 4294967296 + t1) / (d1 * 4294967296 + d0)) = Value.int IntKind.u64 Q1) := by unfold Hid; rw [HQ1.out]
  go_cut [15, 16] from 67 to 85 (fun a _ wc => a = .int .u64 Q1 ∧ w = wc)
  case first =>
    go_wp2_with fail
    go_loop [15, 16] (fun a b => ∃ q r : Int, a = .int .u64 q ∧ b = .int .u64 r ∧ Dig u d1 d0 t1 q r ∧ r < 4294967296) (fun a b => (4294967296 - intOf b).toNat)
    case atStart => exact ⟨_, _, rfl, rfl, S0.out.1, S0.out.2⟩
    case round =>
      obtain ⟨q, r, rfl, rfl, hdig, hr⟩ := hrel
      have e1 := hdig.q0
      have e2 := hdig.q1
      have e3 := hdig.r0
      by_cases hc : 4294967296 ≤ q ∨ 4294967296 * r + t1 < q * d0
      · obtain ⟨x1, x2, x3⟩ := dig_step n hdig hc
        have y0 := x1.q0
        by_cases hq : 4294967296 ≤ q
        · clear hc
          by_cases hb : 4294967296 ≤ r + d1
          · go_wp2_with fail
            go_meet
            case rel => exact ⟨by rw [← dig_break n x1 x3 hb]; exact QV.out, rfl⟩
          · go_wp2_with fail
            go_round
            case rel => exact ⟨q - 1, r + d1, rfl, rfl, x1, by omega⟩
            case measure => simp [intOf]; omega
        · have hc' : 4294967296 * r + t1 < q * d0 := by omega
          have z0 : 0 ≤ q * d0 := Int.mul_nonneg e1 b3
          have z1 : q * d0 ≤ 18446744073709551615 := by
            have := Int.mul_le_mul (show q ≤ 4294967295 by omega) b4 b3 (by decide)
            omega
          clear hc
          by_cases hb : 4294967296 ≤ r + d1
          · go_wp2_with fail
            go_meet
            case rel => exact ⟨by rw [← dig_break n x1 x3 hb]; exact QV.out, rfl⟩
          · go_wp2_with fail
            go_round
            case rel => exact ⟨q - 1, r + d1, rfl, rfl, x1, by omega⟩
            case measure => simp [intOf]; omega
      · have hc1 : ¬ 4294967296 ≤ q := by omega
        have hc2 : ¬ 4294967296 * r + t1 < q * d0 := by omega
        have z0 : 0 ≤ q * d0 := Int.mul_nonneg e1 b3
        have z1 : q * d0 ≤ 18446744073709551615 := by
          have := Int.mul_le_mul (show q ≤ 4294967295 by omega) b4 b3 (by decide)
          omega
        have hz := dig_le n hdig (by omega)
        have HZ := hid hz
        clear hc hz
        go_wp2_with fail
        go_meet
        case rel => exact ⟨by rw [← HZ.out]; exact QV.out, rfl⟩
  case rest =>
    obtain ⟨rfl, rfl⟩ := hcut
    have r1e := rem_of n HQ1.out ED.out
    obtain ⟨r1, hr1⟩ : ∃ r1, u * 4294967296 + t1 - Q1 * D = r1 := ⟨_, rfl⟩
    rw [hr1] at r1e
    obtain ⟨r1w, r1a, r1b⟩ := r1e
    have R1 := hid hr1
    clear hr1
    have m : Den r1 d1 d0 t0 := ⟨b1, by omega, b3, by omega, r1a, by rw [← ED.out]; exact r1b, b7, by omega⟩
    have s1 := dig_start m
    have c1 : 0 ≤ r1 / d1 := s1.1.q0
    have c2 : r1 / d1 ≤ 4294967297 := s1.1.q1
    have c3 : 0 ≤ r1 / d1 * d1 := Int.mul_nonneg c1 (by omega)
    have c4 : r1 / d1 * d1 ≤ r1 := by have := s1.1.r0; omega
    have S1 := hid s1
    clear s1
    go_upto_block 2 with (fail)
    clear r1w c1 c2 c3 c4 QV
    obtain ⟨Q0, hQ0⟩ : ∃ Q0, (r1 * 4294967296 + t0) / (d1 * 4294967296 + d0) = Q0 := ⟨_, rfl⟩
    have q0a := dig_quo0 m
    have q0b := dig_quo1 m
    rw [hQ0] at q0a q0b
    have HQ0 := hid hQ0
    clear hQ0
    have QV : Hid (Value.int IntKind.u64 ((r1 * 4294967296 + t0) / (d1 * 4294967296 + d0)) = Value.int IntKind.u64 Q0) := by unfold Hid; rw [HQ0.out]
    go_cut [18, 16] from 102 to 120 (fun a _ wc => a = .int .u64 Q0 ∧ w = wc)
    case first =>
      go_wp2_with fail
      go_loop [18, 16] (fun a b => ∃ q r : Int, a = .int .u64 q ∧ b = .int .u64 r ∧ Dig r1 d1 d0 t0 q r ∧ r < 4294967296) (fun a b => (4294967296 - intOf b).toNat)
      case atStart => exact ⟨_, _, rfl, rfl, S1.out.1, S1.out.2⟩
      case round =>
        obtain ⟨q, r, rfl, rfl, hdig, hr⟩ := hrel
        have e1 := hdig.q0
        have e2 := hdig.q1
        have e3 := hdig.r0
        by_cases hc : 4294967296 ≤ q ∨ 4294967296 * r + t0 < q * d0
        · obtain ⟨x1, x2, x3⟩ := dig_step m hdig hc
          have y0 := x1.q0
          by_cases hq : 4294967296 ≤ q
          · clear hc
            by_cases hb : 4294967296 ≤ r + d1
            · go_wp2_with fail
              go_meet
              case rel => exact ⟨by rw [← dig_break m x1 x3 hb]; exact QV.out, rfl⟩
            · go_wp2_with fail
              go_round
              case rel => exact ⟨q - 1, r + d1, rfl, rfl, x1, by omega⟩
              case measure => simp [intOf]; omega
          · have hc' : 4294967296 * r + t0 < q * d0 := by omega
            have z0 : 0 ≤ q * d0 := Int.mul_nonneg e1 b3
            have z1 : q * d0 ≤ 18446744073709551615 := by
              have := Int.mul_le_mul (show q ≤ 4294967295 by omega) b4 b3 (by decide)
              omega
            clear hc
            by_cases hb : 4294967296 ≤ r + d1
            · go_wp2_with fail
              go_meet
              case rel => exact ⟨by rw [← dig_break m x1 x3 hb]; exact QV.out, rfl⟩
            · go_wp2_with fail
              go_round
              case rel => exact ⟨q - 1, r + d1, rfl, rfl, x1, by omega⟩
              case measure => simp [intOf]; omega
        · have hc1 : ¬ 4294967296 ≤ q := by omega
          have hc2 : ¬ 4294967296 * r + t0 < q * d0 := by omega
          have z0 : 0 ≤ q * d0 := Int.mul_nonneg e1 b3
          have z1 : q * d0 ≤ 18446744073709551615 := by
            have := Int.mul_le_mul (show q ≤ 4294967295 by omega) b4 b3 (by decide)
            omega
          have hz := dig_le m hdig (by omega)
          have HZ := hid hz
          clear hc hz
          go_wp2_with fail
          go_meet
          case rel => exact ⟨by rw [← HZ.out]; exact QV.out, rfl⟩
    case rest =>
      obtain ⟨rfl, rfl⟩ := hcut
      go_wp2_with fail
      have fin := high_end hs1 (show 0 < y by omega) (show 0 < D by omega) F.out HU.out HT.out HD.out ED.out ET.out R1.out (rem_of m HQ0.out ED.out)
      go_ret2
      exact ⟨ret2 fin.1 fin.2, rfl⟩
theorem div64 (h l y : Int) (hl : U64 l) (hy : y ≤ 18446744073709551615) (h0 : 0 ≤ h) (h1 : h < y) (w : World) :
    Calls Tryz.prog 209 #[.int .u64 h, .int .u64 l, .int .u64 y] w fun e w' => e = .returned (.tuple #[.int .u64 ((h * 18446744073709551616 + l) / y), .int .u64 ((h * 18446744073709551616 + l) % y)]) ∧ ∃ n, w.drewN n = w' := by
  by_cases hz : h = 0
  · subst hz
    refine (div64_low l y hl ⟨by omega, hy⟩ (by omega) w).mono ?_
    rintro e w' ⟨rfl, rfl⟩
    exact ⟨by simp only [Int.zero_mul, Int.zero_add], 1, rfl⟩
  · refine (div64_high h l y hl hy (by omega) h1 w).mono ?_
    rintro e w' ⟨rfl, rfl⟩
    exact ⟨rfl, 0, rfl⟩
end Go.Proofs.YtecgbelgoomneaaGreat
