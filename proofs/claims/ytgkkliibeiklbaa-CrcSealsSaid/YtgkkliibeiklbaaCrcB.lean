
/- A text with one bit turned, by the program and by the document. -/
import Derived.Test.YtgkkliibeiklbaaCrcA
import Derived.Test.YtgkkliibeiklbaaShelf
import Derived.Test.YtgkkliibeiklbaaApp
import Derived.RegionTactic
import Derived.ChangeAlike
namespace Go.Proofs.Ytgkkliibeiklbaa
open Go.RowKit
set_option maxHeartbeats 400000
set_option linter.unusedVariables false
/-- A copy of bytes. -/
theorem clone_any {A : Option Addr} {c : Nat} (b : List Int) (hb : b.length ≤ 1000000) (w : World) {B : Nat} (ra : Rd (Value.int .u8) w B A b) :
    Calls Try.prog 44 #[.slice A b.length c] w (OwnOf 5 .u8 w.heap.size b w) := by
  cases A with
  | none =>
    have hx : b = [] := by
      cases b with
      | nil => rfl
      | cons x xs =>
        obtain ⟨_, _, he, _⟩ := ra 0 x rfl
        cases he
    subst hx
    refine (Try.bytes_Clone_nil 0 c w).mono ?_
    rintro _ _ ⟨rfl, rfl⟩
    exact ⟨none, 0, rfl, own_nil _ _ _, Below.refl _ _⟩
  | some a =>
    refine (Try.bytes_Clone_at a b.length c b w rfl (by omega) ?_).mono ?_
    · intro i hi
      obtain ⟨b1, o1, x, e, _, ex, hc⟩ := ra.at_ hi
      injection e with e
      subst e
      rw [Go.WideShapes.add_plain, hc, getD_of ex]
    · rintro _ w1 ⟨v, rfl, ho, _, hb⟩
      obtain ⟨A', c', rfl⟩ := own_shape ho
      exact ⟨A', c', rfl, ho, hb⟩
theorem crc_Turn {A : Option Addr} {c : Nat} (b : List Int) (hb : b.length ≤ 1000000) (ub : U8s b) (bit : Int) (hbit : I64 bit) (w : World) {B : Nat} (ra : Rd (Value.int .u8) w B A b) :
    Calls Try.prog 13 #[.slice A b.length c, .int .i64 bit] w (OwnE 5 .u8 w.heap.size (trnV b bit) (trnE b bit) w) := by
  unfold trnV trnE I64 at *
  by_cases h : bit < 0 ∨ (b.length : Int) ≤ bit / 8
  · rw [if_pos h, if_pos h]
    clear ra ub
    by_cases h0 : bit < 0
    · clear h
      go_enter Try.func13, Try.ntmps13
      go_wp2_with fail
      go_ret2
      exact .nil (Below.refl _ _)
    · have h1 : (b.length : Int) ≤ bit / 8 := by omega
      clear h
      go_enter Try.func13, Try.ntmps13
      go_wp2_with fail
      go_ret2
      exact .nil (Below.refl _ _)
  · rw [if_neg h, if_neg h]
    obtain ⟨p, rfl⟩ := Int.eq_ofNat_of_zero_le (show 0 ≤ bit by omega)
    have hp : p / 8 < b.length := by omega
    rw [Int.toNat_natCast]
    obtain ⟨x, ex⟩ : ∃ x, b[p / 8]? = some x := ⟨_, List.getElem?_eq_getElem hp⟩
    have hx := ub.at_ ex
    have e1 := xor_u8 (a := x.toNat) (b := 2 ^ (p % 8)) (by omega) (Nat.pow_lt_pow_right (m := p % 8) (n := 8) (by decide) (by omega))
    rw [show ((x.toNat : Nat) : Int) = x by omega] at e1
    obtain ⟨y, hy⟩ : ∃ y : Nat, x.toNat ^^^ 2 ^ (p % 8) = y := ⟨_, rfl⟩
    have hT : trn b p = b.set (p / 8) (y : Int) := by unfold trn; rw [getD_of ex, hy]
    have hpow : 2 ^ (p % 8) < 256 := Nat.pow_lt_pow_right (m := p % 8) (n := 8) (by decide) (by omega)
    obtain ⟨t, ht⟩ : ∃ t : Nat, 2 ^ (p % 8) = t := ⟨_, rfl⟩
    have ht2 : (2 : Int) ^ (p % 8) = (t : Int) := by rw [← ht]; norm_cast
    rw [hy, ht] at e1
    rw [ht] at hpow
    rw [hT]
    have ED := getD_of ex
    have E1 := hid e1
    have CC := hid (clone_any (c := c) b hb w ra)
    clear h hT ra ub hy ht ex
    go_enter Try.func13, Try.ntmps13
    go_wp2_with fail
    refine CC.out.mono ?_
    rintro _ w1 ⟨A1, c1, rfl, ho, hb1⟩
    obtain ⟨g, rfl, hgb, hgc, hgf⟩ := own_cellk ho (show p / 8 < b.length from hp)
    rw [ED] at hgc
    have HO := hid ho
    have e1 := E1.out
    clear ho ED
    go_wp2_with fail
    go_region
    go_wp2_with fail
    go_ret2
    refine ⟨some ⟨g, 0, none⟩, c1, by rw [List.length_set]; rfl, ?_, ?_⟩
    · rw [List.length_set, List.map_set]
      exact (World.ownsRow.drew HO.out).stored (p / 8) (.int .u8 (y : Int)) |>.1
    · exact hb1.drew.setCell hgb _
theorem ref_Turn {A : Option Addr} {c : Nat} (b : List Int) (hb : b.length ≤ 1000000) (ub : U8s b) (bit : Int) (hbit : I64 bit) (w : World) {B : Nat} (ra : Rd (Value.int .u8) w B A b) :
    Calls Try.prog 14 #[.slice A b.length c, .int .i64 bit] w (OwnE 5 .u8 w.heap.size (trnV b bit) (trnE b bit) w) := by
  unfold trnV trnE I64 at *
  by_cases h : bit < 0 ∨ (b.length : Int) ≤ bit / 8
  · rw [if_pos h, if_pos h]
    clear ra ub
    by_cases h0 : bit < 0
    · clear h
      go_enter Try.func14, Try.ntmps14
      go_wp2_with fail
      go_ret2
      exact .nil (Below.refl _ _)
    · have h1 : (b.length : Int) ≤ bit / 8 := by omega
      clear h
      go_enter Try.func14, Try.ntmps14
      go_wp2_with fail
      go_ret2
      exact .nil (Below.refl _ _)
  · rw [if_neg h, if_neg h]
    obtain ⟨p, rfl⟩ := Int.eq_ofNat_of_zero_le (show 0 ≤ bit by omega)
    have hp : p / 8 < b.length := by omega
    rw [Int.toNat_natCast]
    obtain ⟨x, ex⟩ : ∃ x, b[p / 8]? = some x := ⟨_, List.getElem?_eq_getElem hp⟩
    have hx := ub.at_ ex
    have e1 := xor_u8 (a := x.toNat) (b := 2 ^ (p % 8)) (by omega) (Nat.pow_lt_pow_right (m := p % 8) (n := 8) (by decide) (by omega))
    rw [show ((x.toNat : Nat) : Int) = x by omega] at e1
    obtain ⟨y, hy⟩ : ∃ y : Nat, x.toNat ^^^ 2 ^ (p % 8) = y := ⟨_, rfl⟩
    have hT : trn b p = b.set (p / 8) (y : Int) := by unfold trn; rw [getD_of ex, hy]
    have hpow : 2 ^ (p % 8) < 256 := Nat.pow_lt_pow_right (m := p % 8) (n := 8) (by decide) (by omega)
    obtain ⟨t, ht⟩ : ∃ t : Nat, 2 ^ (p % 8) = t := ⟨_, rfl⟩
    have ht2 : (2 : Int) ^ (p % 8) = (t : Int) := by rw [← ht]; norm_cast
    rw [hy, ht] at e1
    rw [ht] at hpow
    rw [hT]
    have ED := getD_of ex
    have E1 := hid e1
    have hap := own_nil w w.heap.size 5
    have RA := hid ra
    clear h hT ra ub hy ht ex
    go_enter Try.func14, Try.ntmps14
    go_wp2_with (at_builtin; refine wpList_app (Value.int .u8) (fun _ => rfl) _ rfl _ _ 22 rfl w.heap.size 5 (.int .u8 0) 1 Try.underlying22 info_u8 rfl [] none 0 rfl hap b A c B rfl RA.out (by simp [maxLen]; omega) (by simp; omega) (Nat.le_refl _) ?_)
    rintro S A1 c1 w1 hS ho hb1 _
    have hS : S = b := hS
    subst hS
    obtain ⟨g, rfl, hgb, hgc, hgf⟩ := own_cellk ho hp
    rw [ED] at hgc
    have HO := hid ho
    have e1 := E1.out
    clear ho ED
    go_wp2_with fail
    go_region
    go_wp2_with fail
    go_ret2
    refine ⟨some ⟨g, 0, none⟩, c1, by rw [List.length_set]; rfl, ?_, ?_⟩
    · rw [List.length_set, List.map_set]
      exact (World.ownsRow.drew HO.out).stored (p / 8) (.int .u8 (y : Int)) |>.1
    · exact hb1.drew.setCell hgb _
end Go.Proofs.Ytgkkliibeiklbaa
