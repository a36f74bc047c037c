
/- Draws: blended, finished, below a number, chances: by the program and by the document. -/
import Derived.Test.YtjkdmpegdgkdfaaDrM
import Derived.Test.YtjkdmpegdgkdfaaEq
namespace Go.Proofs.Ytjkdmpegdgkdfaa
open Go.RowKit
set_option maxHeartbeats 400000
set_option maxRecDepth 100000
set_option linter.unusedVariables false
theorem xor_dr {a b : Nat} (ha : a < 2 ^ 64) (hb : b < 2 ^ 64) : bits BinOp.xor IntKind.u64 (a : Int) (b : Int) = ((a ^^^ b : Nat) : Int) := by
  show IntKind.u64.wrap ((BitVec.ofInt 64 a ^^^ BitVec.ofInt 64 b).toNat : Int) = _
  rw [BitVec.toNat_xor, BitVec.ofInt_natCast, BitVec.ofInt_natCast, BitVec.toNat_ofNat, BitVec.toNat_ofNat, Nat.mod_eq_of_lt ha, Nat.mod_eq_of_lt hb]
  have := Nat.xor_lt_two_pow ha hb
  rw [IntKind.wrap_u64]
  omega
theorem mul_dr (x m : Nat) : IntKind.u64.wrap ((x : Int) * (m : Int)) = ((mulK x m : Nat) : Int) := by
  rw [IntKind.wrap_u64]
  unfold mulK
  omega
theorem mul_dr1 (x : Nat) : IntKind.u64.wrap ((x : Int) * 11400714819323198485) = ((mulK x 11400714819323198485 : Nat) : Int) := mul_dr x 11400714819323198485
theorem mul_dr2 (x : Nat) : IntKind.u64.wrap ((x : Int) * 13787848793156543929) = ((mulK x 13787848793156543929 : Nat) : Int) := mul_dr x 13787848793156543929
theorem tsf_dr29 {y : Nat} (hy : y < 2 ^ 64) : bits BinOp.xor IntKind.u64 (y : Int) ((y : Int) / 536870912) = ((tsf 29 y : Nat) : Int) := by
  rw [show (y : Int) / 536870912 = ((y / 2 ^ 29 : Nat) : Int) by omega, xor_dr hy (Nat.lt_of_le_of_lt (Nat.div_le_self _ _) hy)]
  rfl
theorem tsf_dr32 {y : Nat} (hy : y < 2 ^ 64) : bits BinOp.xor IntKind.u64 (y : Int) ((y : Int) / 4294967296) = ((tsf 32 y : Nat) : Int) := by
  rw [show (y : Int) / 4294967296 = ((y / 2 ^ 32 : Nat) : Int) by omega, xor_dr hy (Nat.lt_of_le_of_lt (Nat.div_le_self _ _) hy)]
  rfl
theorem uN_dr {k : Int} : IntKind.u64.wrap k = ((uN k : Nat) : Int) := by
  rw [IntKind.wrap_u64, uN_int]
theorem dr_finish (x : Nat) (hx : x < 2 ^ 64) (w : World) :
    Calls Try.prog 22 #[.int .u64 (x : Int)] w fun e w' => e = .returned (.int .u64 ((finN x : Nat) : Int)) ∧ w = w' := by
  have e1 := mul_dr2 x
  have hy := mulK_lt x 13787848793156543929
  obtain ⟨R, hR⟩ : ∃ R, finN x = R := ⟨_, rfl⟩
  unfold finN at hR
  rw [show finN x = R from hR]
  obtain ⟨y, hy'⟩ : ∃ y, mulK x 13787848793156543929 = y := ⟨_, rfl⟩
  rw [hy'] at e1 hy hR
  have e2 := tsf_dr32 hy
  rw [hR] at e2
  clear hy' hR
  go_enter Try.func22, Try.ntmps22
  go_wp2_with fail
  go_ret
  exact ⟨rfl, rfl⟩
theorem dr_blend {A : Option Addr} {c : Nat} (s : Nat) (hs : s < 2 ^ 64) (n : List Int) (hn : n.length ≤ 9223372036854775807) (un : ∀ x ∈ n, I64 x) (w : World) {B : Nat} (ra : Rd (Value.int .i64) w B A n) :
    Calls Try.prog 23 #[.int .u64 (s : Int), .slice A n.length c] w fun e w' => e = .returned (.int .u64 ((blN s n : Nat) : Int)) ∧ w = w' := by
  obtain ⟨R, hR⟩ : ∃ R, blN s n = R := ⟨_, rfl⟩
  rw [hR]
  have HR := hid hR
  have HA := hid ra
  have UN := hid un
  clear ra un hR
  go_enter Try.func23, Try.ntmps23
  go_wp2_with fail
  go_loop [5, 7, 11] (fun s' k0 i => ∃ (k x : Nat), k ≤ n.length ∧ x < 2 ^ 64 ∧ i = .int .i64 k ∧ s' = .int .u64 x ∧ blN s (n.take k) = x) (fun _ _ i => n.length - (intOf i).toNat)
  case atStart => exact ⟨0, s, by omega, hs, rfl, rfl, by rw [List.take_zero]; exact blN_nil s⟩
  case round =>
    obtain ⟨k, x, hk, hx, rfl, rfl, hs'⟩ := hrel
    have HS := hid hs'
    clear hs'
    by_cases hlt : k < n.length
    · obtain ⟨b1, o1, v, rfl, l1, ev, c1⟩ := HA.out.at_ hlt
      have HN := hid (blN_step s ev)
      rw [HS.out] at HN
      have e0 := uN_dr (k := v)
      have hu := uN_lt v
      have hst := stp_lt x v
      obtain ⟨u, hu'⟩ : ∃ u, uN v = u := ⟨_, rfl⟩
      obtain ⟨Z, hZ⟩ : ∃ Z, stp x v = Z := ⟨_, rfl⟩
      rw [hZ] at HN hst
      unfold stp at hZ
      rw [hu'] at e0 hu hZ
      have e1 := xor_dr hx hu
      obtain ⟨y, hy'⟩ : ∃ y, x ^^^ u = y := ⟨_, rfl⟩
      rw [hy'] at e1 hZ
      have e2 := mul_dr1 y
      have hz := mulK_lt y 11400714819323198485
      obtain ⟨z, hz'⟩ : ∃ z, mulK y 11400714819323198485 = z := ⟨_, rfl⟩
      rw [hz'] at e2 hz hZ
      have e3 := tsf_dr29 hz
      rw [hZ] at e3
      clear hu' hy' hz' hZ ev
      go_wp2_with fail
      go_round
      case rel => exact ⟨k + 1, Z, by omega, hst, by go_num, rfl, HN.out⟩
      case measure => simp [intOf]; omega
    · have h := HS.out
      rw [List.take_of_length_le (by omega), HR.out] at h
      subst h
      go_wp2_with fail
      go_ret
      exact ⟨rfl, rfl⟩
theorem ref_At {A : Option Addr} {c : Nat} (s : Nat) (hs : s < 2 ^ 64) (n : List Int) (hn : n.length ≤ 9223372036854775807) (un : ∀ x ∈ n, I64 x) (w : World) {B : Nat} (ra : Rd (Value.int .i64) w B A n) :
    Calls Try.prog 16 #[.int .u64 (s : Int), .slice A n.length c] w fun e w' => e = .returned (.int .u64 ((atN s n : Nat) : Int)) ∧ w = w' := by
  obtain ⟨R, hR⟩ : ∃ R, atN s n = R := ⟨_, rfl⟩
  rw [hR]
  have HR := hid hR
  have HA := hid ra
  have UN := hid un
  clear ra un hR
  go_enter Try.func16, Try.ntmps16
  go_wp2_with fail
  go_loop [5, 7, 11] (fun s' k0 i => ∃ (k x : Nat), k ≤ n.length ∧ x < 2 ^ 64 ∧ i = .int .i64 k ∧ s' = .int .u64 x ∧ blN s (n.take k) = x) (fun _ _ i => n.length - (intOf i).toNat)
  case atStart => exact ⟨0, s, by omega, hs, rfl, rfl, by rw [List.take_zero]; exact blN_nil s⟩
  case round =>
    obtain ⟨k, x, hk, hx, rfl, rfl, hs'⟩ := hrel
    have HS := hid hs'
    clear hs'
    by_cases hlt : k < n.length
    · obtain ⟨b1, o1, v, rfl, l1, ev, c1⟩ := HA.out.at_ hlt
      have HN := hid (blN_step s ev)
      rw [HS.out] at HN
      have e0 := uN_dr (k := v)
      have hu := uN_lt v
      have hst := stp_lt x v
      obtain ⟨u, hu'⟩ : ∃ u, uN v = u := ⟨_, rfl⟩
      obtain ⟨Z, hZ⟩ : ∃ Z, stp x v = Z := ⟨_, rfl⟩
      rw [hZ] at HN hst
      unfold stp at hZ
      rw [hu'] at e0 hu hZ
      have e1 := xor_dr hx hu
      obtain ⟨y, hy'⟩ : ∃ y, x ^^^ u = y := ⟨_, rfl⟩
      rw [hy'] at e1 hZ
      have e2 := mul_dr1 y
      have hz := mulK_lt y 11400714819323198485
      obtain ⟨z, hz'⟩ : ∃ z, mulK y 11400714819323198485 = z := ⟨_, rfl⟩
      rw [hz'] at e2 hz hZ
      have e3 := tsf_dr29 hz
      rw [hZ] at e3
      clear hu' hy' hz' hZ ev
      go_wp2_with fail
      go_round
      case rel => exact ⟨k + 1, Z, by omega, hst, by go_num, rfl, HN.out⟩
      case measure => simp [intOf]; omega
    · have h := HS.out
      rw [List.take_of_length_le (by omega)] at h
      have HR2 := HR.out
      unfold atN at HR2
      rw [h] at HR2
      have e1 := mul_dr2 x
      have hy := mulK_lt x 13787848793156543929
      unfold finN at HR2
      obtain ⟨y, hy'⟩ : ∃ y, mulK x 13787848793156543929 = y := ⟨_, rfl⟩
      rw [hy'] at e1 hy HR2
      have e2 := tsf_dr32 hy
      rw [HR2] at e2
      clear hy' h HR2
      go_wp2_with fail
      go_ret
      exact ⟨rfl, rfl⟩
theorem dr_At {A : Option Addr} {c : Nat} (s : Nat) (hs : s < 2 ^ 64) (n : List Int) (hn : n.length ≤ 9223372036854775807) (un : ∀ x ∈ n, I64 x) (w : World) {B : Nat} (ra : Rd (Value.int .i64) w B A n) :
    Calls Try.prog 15 #[.int .u64 (s : Int), .slice A n.length c] w fun e w' => e = .returned (.int .u64 ((atN s n : Nat) : Int)) ∧ w = w' := by
  have C1 := hid (dr_blend (c := c) s hs n hn un w ra)
  have C2 := hid (dr_finish (blN s n) (blN_lt n hs) w)
  rw [show finN (blN s n) = atN s n from rfl] at C2
  clear ra un
  go_enter Try.func15, Try.ntmps15
  go_wp2_with fail
  refine C1.out.mono ?_
  rintro _ _ ⟨rfl, rfl⟩
  go_wp2_with fail
  refine C2.out.mono ?_
  rintro _ _ ⟨rfl, rfl⟩
  go_wp2_with fail
  go_ret
  exact ⟨rfl, rfl⟩
theorem dr_Below {A : Option Addr} {c : Nat} (most s : Nat) (hm : most < 2 ^ 64) (hs : s < 2 ^ 64) (n : List Int) (hn : n.length ≤ 9223372036854775807) (un : ∀ x ∈ n, I64 x) (w : World) {B : Nat} (ra : Rd (Value.int .i64) w B A n) :
    Calls Try.prog 11 #[.int .u64 (most : Int), .int .u64 (s : Int), .slice A n.length c] w fun e w' => e = .returned (.tuple #[.int .u64 ((belV most s n : Nat) : Int), .int .i64 (belE most)]) ∧ w = w' := by
  have C1 := hid (dr_At (c := c) s hs n hn un w ra)
  clear ra un
  by_cases h : most = 0
  · have h1 : ((most : Int) == 0) = true := by simpa using h
    have hv : belV most s n = 0 := if_pos h
    have he : belE most = 1 := if_pos h
    rw [hv, he]
    clear h hv he C1
    go_enter Try.func11, Try.ntmps11
    go_wp2_with fail
    go_ret2
    exact ⟨rfl, rfl⟩
  · have h1 : ((most : Int) == 0) = false := by simpa using h
    have hv : belV most s n = atN s n % most := if_neg h
    have he : belE most = 0 := if_neg h
    have hp : 0 < most := by omega
    rw [hv, he]
    have ha := atN_lt s n
    obtain ⟨a, ha'⟩ : ∃ a, atN s n = a := ⟨_, rfl⟩
    rw [ha'] at C1 ha ⊢
    clear h hv he ha'
    go_enter Try.func11, Try.ntmps11
    go_wp2_with fail
    refine C1.out.mono ?_
    rintro _ _ ⟨rfl, rfl⟩
    go_wp2_with fail
    go_ret2
    exact ⟨rfl, rfl⟩
theorem ref_Below {A : Option Addr} {c : Nat} (most s : Nat) (hm : most < 2 ^ 64) (hs : s < 2 ^ 64) (n : List Int) (hn : n.length ≤ 9223372036854775807) (un : ∀ x ∈ n, I64 x) (w : World) {B : Nat} (ra : Rd (Value.int .i64) w B A n) :
    Calls Try.prog 12 #[.int .u64 (most : Int), .int .u64 (s : Int), .slice A n.length c] w fun e w' => e = .returned (.tuple #[.int .u64 ((belV most s n : Nat) : Int), .int .i64 (belE most)]) ∧ w = w' := by
  have C1 := hid (ref_At (c := c) s hs n hn un w ra)
  clear ra un
  by_cases h : most = 0
  · have h1 : ((most : Int) == 0) = true := by simpa using h
    have hv : belV most s n = 0 := if_pos h
    have he : belE most = 1 := if_pos h
    rw [hv, he]
    clear h hv he C1
    go_enter Try.func12, Try.ntmps12
    go_wp2_with fail
    go_ret2
    exact ⟨rfl, rfl⟩
  · have h1 : ((most : Int) == 0) = false := by simpa using h
    have hv : belV most s n = atN s n % most := if_neg h
    have he : belE most = 0 := if_neg h
    have hp : 0 < most := by omega
    rw [hv, he]
    have ha := atN_lt s n
    obtain ⟨a, ha'⟩ : ∃ a, atN s n = a := ⟨_, rfl⟩
    rw [ha'] at C1 ha ⊢
    clear h hv he ha'
    go_enter Try.func12, Try.ntmps12
    go_wp2_with fail
    refine C1.out.mono ?_
    rintro _ _ ⟨rfl, rfl⟩
    go_wp2_with fail
    go_ret2
    exact ⟨rfl, rfl⟩
/-- A part of a whole. -/
theorem cha_no {part whole s : Nat} {n : List Int} (h : whole = 0 ∨ whole < part) : chaB part whole s n = false ∧ chaE part whole = 1 := ⟨if_pos h, if_pos h⟩
theorem cha_yes {part whole s : Nat} {n : List Int} (h : ¬ (whole = 0 ∨ whole < part)) : chaB part whole s n = decide (belV whole s n < part) ∧ chaE part whole = 0 ∧ belE whole = 0 := by
  have h0 : ¬ whole = 0 := fun e => h (.inl e)
  refine ⟨?_, if_neg h, if_neg h0⟩
  unfold chaB belV
  rw [if_neg h, if_neg h0]
theorem dr_Chance {A : Option Addr} {c : Nat} (part whole s : Nat) (hp : part < 2 ^ 64) (hw : whole < 2 ^ 64) (hs : s < 2 ^ 64) (n : List Int) (hn : n.length ≤ 9223372036854775807) (un : ∀ x ∈ n, I64 x) (w : World) {B : Nat} (ra : Rd (Value.int .i64) w B A n) :
    Calls Try.prog 13 #[.int .u64 (part : Int), .int .u64 (whole : Int), .int .u64 (s : Int), .slice A n.length c] w fun e w' => e = .returned (.tuple #[.bool (chaB part whole s n), .int .i64 (chaE part whole)]) ∧ w = w' := by
  have C1 := hid (dr_Below (c := c) whole s hw hs n hn un w ra)
  clear ra un
  by_cases h1 : whole < part
  · obtain ⟨hv, he⟩ := cha_no (s := s) (n := n) (.inr h1 : whole = 0 ∨ whole < part)
    rw [hv, he]
    clear hv he C1
    go_enter Try.func13, Try.ntmps13
    go_wp2_with fail
    go_ret2
    exact ⟨rfl, rfl⟩
  · by_cases h0 : whole = 0
    · obtain ⟨hv, he⟩ := cha_no (s := s) (n := n) (.inl h0 : whole = 0 ∨ whole < part)
      rw [hv, he]
      rw [show belE whole = 1 from if_pos h0] at C1
      clear hv he h0
      go_enter Try.func13, Try.ntmps13
      go_wp2_with fail
      refine C1.out.mono ?_
      rintro _ _ ⟨rfl, rfl⟩
      go_wp2_with fail
      go_ret2
      exact ⟨rfl, rfl⟩
    · obtain ⟨hv, he, hb⟩ := cha_yes (s := s) (n := n) (fun h => h.elim h0 h1 : ¬ (whole = 0 ∨ whole < part))
      rw [hv, he]
      rw [hb] at C1
      obtain ⟨x, hx⟩ : ∃ x, belV whole s n = x := ⟨_, rfl⟩
      rw [hx] at C1 ⊢
      clear hv he hb h0 hx
      go_enter Try.func13, Try.ntmps13
      go_wp2_with fail
      refine C1.out.mono ?_
      rintro _ _ ⟨rfl, rfl⟩
      go_wp2_with fail
      go_ret2
      exact ⟨by simp, rfl⟩
theorem ref_Chance {A : Option Addr} {c : Nat} (part whole s : Nat) (hp : part < 2 ^ 64) (hw : whole < 2 ^ 64) (hs : s < 2 ^ 64) (n : List Int) (hn : n.length ≤ 9223372036854775807) (un : ∀ x ∈ n, I64 x) (w : World) {B : Nat} (ra : Rd (Value.int .i64) w B A n) :
    Calls Try.prog 14 #[.int .u64 (part : Int), .int .u64 (whole : Int), .int .u64 (s : Int), .slice A n.length c] w fun e w' => e = .returned (.tuple #[.bool (chaB part whole s n), .int .i64 (chaE part whole)]) ∧ w = w' := by
  have C1 := hid (ref_At (c := c) s hs n hn un w ra)
  clear ra un
  by_cases h0 : whole = 0
  · obtain ⟨hv, he⟩ := cha_no (s := s) (n := n) (.inl h0 : whole = 0 ∨ whole < part)
    rw [hv, he]
    have h2 : ((whole : Int) == 0) = true := by simpa using h0
    clear hv he C1 h0
    go_enter Try.func14, Try.ntmps14
    go_wp2_with fail
    go_ret2
    exact ⟨rfl, rfl⟩
  · have h2 : ((whole : Int) == 0) = false := by simpa using h0
    by_cases h1 : whole < part
    · obtain ⟨hv, he⟩ := cha_no (s := s) (n := n) (.inr h1 : whole = 0 ∨ whole < part)
      rw [hv, he]
      clear hv he C1 h0
      go_enter Try.func14, Try.ntmps14
      go_wp2_with fail
      go_ret2
      exact ⟨rfl, rfl⟩
    · obtain ⟨hv, he, hb⟩ := cha_yes (s := s) (n := n) (fun h => h.elim h0 h1 : ¬ (whole = 0 ∨ whole < part))
      have hbv : belV whole s n = atN s n % whole := if_neg h0
      have hp0 : 0 < whole := by omega
      rw [hv, he, hbv]
      obtain ⟨x, hx⟩ : ∃ x, atN s n = x := ⟨_, rfl⟩
      rw [hx] at C1 ⊢
      clear hv he hb h0 hx hbv
      go_enter Try.func14, Try.ntmps14
      go_wp2_with fail
      refine C1.out.mono ?_
      rintro _ _ ⟨rfl, rfl⟩
      go_wp2_with fail
      go_ret2
      refine ⟨?_, rfl⟩
      simp
      exact_mod_cast Iff.rfl
end Go.Proofs.Ytjkdmpegdgkdfaa
