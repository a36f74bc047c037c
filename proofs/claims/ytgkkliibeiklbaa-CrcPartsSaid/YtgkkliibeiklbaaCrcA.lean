
/- Sums: a register halved, a byte taken in, by the program and by the document. -/
import Derived.Test.YtgkkliibeiklbaaCrcM
import Derived.Test.YtgkkliibeiklbaaSame
namespace Go.Proofs.Ytgkkliibeiklbaa
open Go.RowKit
set_option maxHeartbeats 400000
set_option linter.unusedVariables false
theorem xor_nat {k : IntKind} {n : Nat} (hn : k.bits = n) (hw : ∀ m : Nat, m < 2 ^ n → k.wrap (m : Int) = m) {a b : Nat} (ha : a < 2 ^ n) (hb : b < 2 ^ n) : bits BinOp.xor k (a : Int) (b : Int) = ((a ^^^ b : Nat) : Int) := by
  show k.wrap ((BitVec.ofInt k.bits a ^^^ BitVec.ofInt k.bits b).toNat : Int) = _
  rw [BitVec.toNat_xor, BitVec.ofInt_natCast, BitVec.ofInt_natCast, BitVec.toNat_ofNat, BitVec.toNat_ofNat, hn, Nat.mod_eq_of_lt ha, Nat.mod_eq_of_lt hb]
  exact hw _ (Nat.xor_lt_two_pow ha hb)
theorem xor_u32 {a b : Nat} (ha : a < 2 ^ 32) (hb : b < 2 ^ 32) : bits BinOp.xor IntKind.u32 (a : Int) (b : Int) = ((a ^^^ b : Nat) : Int) :=
  xor_nat (n := 32) rfl (fun m h => by simp [IntKind.wrap, IntKind.bits, IntKind.signed]; omega) ha hb
theorem xor_u8 {a b : Nat} (ha : a < 2 ^ 8) (hb : b < 2 ^ 8) : bits BinOp.xor IntKind.u8 (a : Int) (b : Int) = ((a ^^^ b : Nat) : Int) :=
  xor_nat (n := 8) rfl (fun m h => by simp [IntKind.wrap, IntKind.bits, IntKind.signed]; omega) ha hb
theorem and_one {x : Nat} (hx : x < 2 ^ 32) : bits BinOp.and IntKind.u32 (x : Int) 1 = ((x % 2 : Nat) : Int) := by
  show IntKind.u32.wrap ((BitVec.ofInt 32 x &&& BitVec.ofInt 32 ((1 : Nat) : Int)).toNat : Int) = _
  rw [BitVec.toNat_and, BitVec.ofInt_natCast, BitVec.ofInt_natCast, BitVec.toNat_ofNat, BitVec.toNat_ofNat, Nat.mod_eq_of_lt hx, show 1 % 2 ^ 32 = 1 from rfl, Nat.and_one_is_mod]
  simp [IntKind.wrap, IntKind.bits, IntKind.signed]
  omega
theorem and_odd {x : Nat} (hx : x < 2 ^ 32) (h : x % 2 = 1) : bits BinOp.and IntKind.u32 (x : Int) 1 = 1 := by rw [and_one hx, h]; rfl
theorem and_even {x : Nat} (hx : x < 2 ^ 32) (h : x % 2 ≠ 1) : bits BinOp.and IntKind.u32 (x : Int) 1 = 0 := by rw [and_one hx, show x % 2 = 0 by omega]; rfl
theorem hs_odd {x : Nat} (hx : x < 2 ^ 32) (h : x % 2 = 1) : bits BinOp.xor IntKind.u32 ((x : Int) / 2) 3988292384 = ((hs x : Nat) : Int) := by
  rw [show ((x : Int) / 2) = ((x / 2 : Nat) : Int) by omega, show (3988292384 : Int) = ((tnr : Nat) : Int) from rfl, xor_u32 (by omega) (by decide)]
  unfold hs
  rw [if_pos h]
theorem hs_even {x : Nat} (h : x % 2 ≠ 1) : ((x : Int) / 2) = ((hs x : Nat) : Int) := by
  unfold hs
  rw [if_neg h]
  omega
theorem crc_halved (r : Nat) (hr : r < 2 ^ 32) (w : World) :
    Calls Try.prog 45 #[.int .u32 (r : Int)] w fun e w' => e = .returned (.int .u32 ((hn 8 r : Nat) : Int)) ∧ w = w' := by
  obtain ⟨R, hR⟩ : ∃ R, hn 8 r = R := ⟨_, rfl⟩
  rw [hR]
  have HR := hid hR
  clear hR
  go_enter Try.func45, Try.ntmps45
  go_wp2_with fail
  go_loop [0, 4] (fun s i => ∃ (k x : Nat), k ≤ 8 ∧ x < 2 ^ 32 ∧ i = .int .i64 k ∧ s = .int .u32 x ∧ hn (8 - k) x = R) (fun _ i => 8 - (intOf i).toNat)
  case atStart => exact ⟨0, r, by omega, hr, rfl, rfl, HR.out⟩
  case round =>
    obtain ⟨k, x, hk, hx, rfl, rfl, hs'⟩ := hrel
    have HS := hid hs'
    clear hs'
    by_cases hlt : k < 8
    · have HN : Hid (hn (8 - (k + 1)) (hs x) = R) := by
        have h := HS.out
        rw [show 8 - k = (8 - (k + 1)) + 1 by omega, hn] at h
        exact h
      by_cases h1 : x % 2 = 1
      · have e1 := hs_odd hx h1
        go_wp2_with fail
        go_round
        case rel => exact ⟨k + 1, hs x, by omega, hs_lt hx, by go_num, rfl, HN.out⟩
        case measure => simp [intOf]; omega
      · have e1 := hs_even h1
        go_wp2_with fail
        go_round
        case rel => exact ⟨k + 1, hs x, by omega, hs_lt hx, by go_num, rfl, HN.out⟩
        case measure => simp [intOf]; omega
    · obtain rfl : k = 8 := by omega
      have HN : Hid (x = R) := HS.out
      go_wp2_with fail
      go_ret
      rw [HN.out]
      exact ⟨rfl, rfl⟩
theorem not_u32 {s : Nat} (h : s < 2 ^ 32) : bits BinOp.xor IntKind.u32 IntKind.u32.max (s : Int) = ((inv s : Nat) : Int) := by
  rw [show IntKind.u32.max = ((4294967295 : Nat) : Int) from rfl, xor_u32 (by decide) h, inv_xor h, Nat.xor_comm]
theorem crc_More {A : Option Addr} {c : Nat} (s : Nat) (hs' : s < 2 ^ 32) (b : List Int) (hb : b.length ≤ 9223372036854775807) (ub : U8s b) (w : World) {B : Nat} (ra : Rd (Value.int .u8) w B A b) :
    Calls Try.prog 17 #[.int .u32 (s : Int), .slice A b.length c] w fun e w' => e = .returned (.int .u32 ((moreN s b : Nat) : Int)) ∧ w = w' := by
  obtain ⟨R, hR⟩ : ∃ R, moreN s b = R := ⟨_, rfl⟩
  rw [hR]
  have HR : Hid (inv (crcL (inv s) b) = R) := hR
  have hi := inv_lt s
  obtain ⟨v, hv⟩ : ∃ v, inv s = v := ⟨_, rfl⟩
  have HA := hid ra
  have UB := hid ub
  have e0 := not_u32 hs'
  rw [hv] at hi e0 HR
  have hsg : IntKind.u32.signed = false := rfl
  clear ra ub hv hR
  go_enter Try.func17, Try.ntmps17
  go_wp2_with fail
  clear e0
  go_loop [5, 12] (fun s i => ∃ (k x : Nat), k ≤ b.length ∧ x < 2 ^ 32 ∧ i = .int .i64 k ∧ s = .int .u32 x ∧ crcL v (b.take k) = x) (fun _ i => b.length - (intOf i).toNat)
  case atStart => exact ⟨0, v, by omega, hi, rfl, rfl, by rw [List.take_zero]; exact crcL_nil v⟩
  case round =>
    obtain ⟨k, x, hk, hx, rfl, rfl, hs'⟩ := hrel
    have HS := hid hs'
    clear hs'
    by_cases hlt : k < b.length
    · obtain ⟨b1, o1, y, rfl, l1, ex, c1⟩ := HA.out.at_ hlt
      obtain ⟨y0, y1⟩ := UB.out.at_ ex
      obtain ⟨y, rfl⟩ := Int.eq_ofNat_of_zero_le y0
      have e1 := xor_u32 (a := x) (b := y) hx (by omega)
      have hz : x ^^^ y < 2 ^ 32 := Nat.xor_lt_two_pow hx (by omega)
      have CH := hid (crc_halved (x ^^^ y) hz)
      have HN : Hid (crcL v (b.take (k + 1)) = crcB x y) := by
        have h := crcL_step v ex
        rw [HS.out] at h
        exact h
      have hc := crcB_lt (c := x) (x := y) hx (by omega)
      rw [show hn 8 (x ^^^ y) = crcB x y from rfl] at CH
      obtain ⟨z, hz'⟩ : ∃ z, x ^^^ y = z := ⟨_, rfl⟩
      rw [hz'] at e1 hz CH
      obtain ⟨N, hN⟩ : ∃ N, crcB x y = N := ⟨_, rfl⟩
      rw [hN] at CH HN hc
      clear ex hz' hN y0
      go_wp2_with fail
      refine (CH.out _).mono ?_
      rintro _ _ ⟨rfl, rfl⟩
      go_wp2_with fail
      go_round
      case rel => exact ⟨k + 1, N, by omega, hc, by go_num, rfl, HN.out⟩
      case measure => simp [intOf]; omega
    · have e1 := not_u32 hx
      have HN : Hid (inv x = R) := by
        have h := HS.out
        rw [List.take_of_length_le (by omega)] at h
        rw [← h]
        exact HR.out
      obtain ⟨N, hN⟩ : ∃ N, inv x = N := ⟨_, rfl⟩
      rw [hN] at e1 HN
      clear hN
      obtain rfl : k = b.length := by omega
      go_wp2_with fail
      go_ret
      rw [HN.out]
      exact ⟨rfl, rfl⟩
theorem crc_Sum {A : Option Addr} {c : Nat} (b : List Int) (hb : b.length ≤ 9223372036854775807) (ub : U8s b) (w : World) {B : Nat} (ra : Rd (Value.int .u8) w B A b) :
    Calls Try.prog 15 #[.slice A b.length c] w fun e w' => e = .returned (.int .u32 ((sumN b : Nat) : Int)) ∧ w = w' := by
  have CM := hid (crc_More (A := A) (c := c) 0 (by decide) b hb ub w ra)
  rw [show moreN 0 b = sumN b from rfl] at CM
  obtain ⟨R, hR⟩ : ∃ R, sumN b = R := ⟨_, rfl⟩
  rw [hR] at CM ⊢
  clear hR ra ub
  go_enter Try.func15, Try.ntmps15
  go_wp2_with fail
  refine CM.out.mono ?_
  rintro _ _ ⟨rfl, rfl⟩
  go_wp2_with fail
  go_ret
  exact ⟨rfl, rfl⟩
theorem ref_More {A : Option Addr} {c : Nat} (s : Nat) (hs' : s < 2 ^ 32) (b : List Int) (hb : b.length ≤ 9223372036854775807) (ub : U8s b) (w : World) {B : Nat} (ra : Rd (Value.int .u8) w B A b) :
    Calls Try.prog 18 #[.int .u32 (s : Int), .slice A b.length c] w fun e w' => e = .returned (.int .u32 ((moreN s b : Nat) : Int)) ∧ w = w' := by
  obtain ⟨R, hR⟩ : ∃ R, moreN s b = R := ⟨_, rfl⟩
  rw [hR]
  have HR : Hid (inv (crcL (inv s) b) = R) := hR
  have hi := inv_lt s
  obtain ⟨v, hv⟩ : ∃ v, inv s = v := ⟨_, rfl⟩
  have HA := hid ra
  have UB := hid ub
  have e0 := not_u32 hs'
  rw [hv] at hi e0 HR
  have hsg : IntKind.u32.signed = false := rfl
  clear ra ub hv hR
  go_enter Try.func18, Try.ntmps18
  go_wp2_with fail
  clear e0
  go_loop [5, 13] (fun s i => ∃ (k x : Nat), k ≤ b.length ∧ x < 2 ^ 32 ∧ i = .int .i64 k ∧ s = .int .u32 x ∧ crcL v (b.take k) = x) (fun _ i => b.length - (intOf i).toNat)
  case atStart => exact ⟨0, v, by omega, hi, rfl, rfl, by rw [List.take_zero]; exact crcL_nil v⟩
  case round =>
    obtain ⟨k, x, hk, hx, rfl, rfl, hs'⟩ := hrel
    have HS := hid hs'
    clear hs'
    by_cases hlt : k < b.length
    · obtain ⟨b1, o1, y, rfl, l1, ex, c1⟩ := HA.out.at_ hlt
      obtain ⟨y0, y1⟩ := UB.out.at_ ex
      obtain ⟨y, rfl⟩ := Int.eq_ofNat_of_zero_le y0
      have e1 := xor_u32 (a := x) (b := y) hx (by omega)
      have hz : x ^^^ y < 2 ^ 32 := Nat.xor_lt_two_pow hx (by omega)
      have HN : Hid (crcL v (b.take (k + 1)) = crcB x y) := by
        have h := crcL_step v ex
        rw [HS.out] at h
        exact h
      have hc := crcB_lt (c := x) (x := y) hx (by omega)
      have HZ : Hid (hn 8 (x ^^^ y) = crcB x y) := rfl
      obtain ⟨z, hz'⟩ : ∃ z, x ^^^ y = z := ⟨_, rfl⟩
      rw [hz'] at e1 hz HZ
      obtain ⟨N, hN⟩ : ∃ N, crcB x y = N := ⟨_, rfl⟩
      rw [hN] at HZ HN hc
      clear ex hz' hN y0
      go_wp2_with fail
      clear e1
      go_loop [5, 21] (fun s i => ∃ (j x : Nat), j ≤ 8 ∧ x < 2 ^ 32 ∧ i = .int .i64 j ∧ s = .int .u32 x ∧ hn (8 - j) x = N) (fun _ i => 8 - (intOf i).toNat)
      case atStart => exact ⟨0, z, by omega, hz, rfl, rfl, HZ.out⟩
      case round =>
        obtain ⟨j, q, hj, hq, rfl, rfl, hs'⟩ := hrel
        have HS := hid hs'
        clear hs' hz
        by_cases hlt : j < 8
        · have HN2 : Hid (hn (8 - (j + 1)) (hs q) = N) := by
            have h := HS.out
            rw [show 8 - j = (8 - (j + 1)) + 1 by omega, hn] at h
            exact h
          by_cases h1 : q % 2 = 1
          · have e1 := hs_odd hq h1
            have e2 := and_odd hq h1
            go_wp2_with fail
            go_round
            case rel => exact ⟨j + 1, hs q, by omega, hs_lt hq, by go_num, rfl, HN2.out⟩
            case measure => simp [intOf]; omega
          · have e1 := hs_even h1
            have e2 := and_even hq h1
            go_wp2_with fail
            go_round
            case rel => exact ⟨j + 1, hs q, by omega, hs_lt hq, by go_num, rfl, HN2.out⟩
            case measure => simp [intOf]; omega
        · obtain rfl : j = 8 := by omega
          have HQ : Hid (q = N) := HS.out
          go_wp2_with fail
          go_round
          case rel => exact ⟨k + 1, q, by omega, hq, by go_num, rfl, by rw [HQ.out]; exact HN.out⟩
          case measure => simp [intOf]; omega
    · have e1 := not_u32 hx
      have HN : Hid (inv x = R) := by
        have h := HS.out
        rw [List.take_of_length_le (by omega)] at h
        rw [← h]
        exact HR.out
      obtain ⟨N, hN⟩ : ∃ N, inv x = N := ⟨_, rfl⟩
      rw [hN] at e1 HN
      clear hN
      obtain rfl : k = b.length := by omega
      go_wp2_with fail
      go_ret
      rw [HN.out]
      exact ⟨rfl, rfl⟩
theorem ref_Sum {A : Option Addr} {c : Nat} (b : List Int) (hb : b.length ≤ 9223372036854775807) (ub : U8s b) (w : World) {B : Nat} (ra : Rd (Value.int .u8) w B A b) :
    Calls Try.prog 16 #[.slice A b.length c] w fun e w' => e = .returned (.int .u32 ((sumN b : Nat) : Int)) ∧ w = w' := by
  have CM := hid (ref_More (A := A) (c := c) 0 (by decide) b hb ub w ra)
  rw [show moreN 0 b = sumN b from rfl] at CM
  obtain ⟨R, hR⟩ : ∃ R, sumN b = R := ⟨_, rfl⟩
  rw [hR] at CM ⊢
  clear hR ra ub
  go_enter Try.func16, Try.ntmps16
  go_wp2_with fail
  refine CM.out.mono ?_
  rintro _ _ ⟨rfl, rfl⟩
  go_wp2_with fail
  go_ret
  exact ⟨rfl, rfl⟩
end Go.Proofs.Ytgkkliibeiklbaa
