
/- Roots, the greatest number's place: by the document. -/
import Derived.Test.YtnokomlekndgfaaTbN
import Derived.Test.YtnokomlekndgfaaWd
namespace Go.Proofs.Ytnokomlekndgfaa
open Go.RowKit
set_option maxHeartbeats 1000000
set_option maxRecDepth 100000
set_option linter.unusedVariables false
theorem ref_Root (n : Nat) (hn : n < 18446744073709551616) (w : World) :
    Calls Try.prog 14 #[.int .u64 (n : Int)] w fun e w' => e = .returned (.int .u64 (rootN n : Int)) ∧ w = w' := by
  obtain ⟨R, hR⟩ : ∃ R, rootN n = R := ⟨_, rfl⟩
  have HR : Hid (rootGo n 32 0 = R) := hid hR
  rw [hR]
  clear hR
  go_enter Try.func14, Try.ntmps14
  go_wp2_with fail
  go_loop [3, 5, 4] (fun xo xt i => ∃ k out : Nat, k ≤ 32 ∧ i = .int .i64 ((k : Int) - 1) ∧ xo = .int .u64 (out : Int) ∧ out + 2 ^ k ≤ 4294967296 ∧ rootGo n k out = R) (fun _ _ i => (intOf i + 1).toNat)
  case atStart => exact ⟨32, 0, by omega, rfl, rfl, by decide, HR.out⟩
  case round =>
    obtain ⟨k, out, hk, rfl, rfl, ho, hg⟩ := hrel
    have HG := hid hg
    have HO := hid ho
    clear hg ho
    cases k with
    | zero =>
      have hz : ((0 : Nat) : Int) - 1 = -1 := rfl
      have he : out = R := HG.out
      subst he
      rw [hz]
      go_wp2_with fail
      go_ret
      exact ⟨rfl, rfl⟩
    | succ m =>
      have hi : ((m + 1 : Nat) : Int) - 1 = (m : Int) := by omega
      rw [hi]
      obtain ⟨P, hP⟩ : ∃ P : Nat, 2 ^ m = P := ⟨_, rfl⟩
      have hm : P ≤ 2147483648 := by rw [← hP]; exact Nat.pow_le_pow_right (n := 2) (by decide) (show m ≤ 31 by omega)
      have hp2 : 2 ^ (m + 1) = 2 * P := by rw [Nat.pow_succ, hP]; omega
      have hO := HO.out
      rw [hp2] at hO
      obtain ⟨T, hT⟩ : ∃ T : Nat, out + P = T := ⟨_, rfl⟩
      have hP1 : 1 ≤ P := by rw [← hP]; exact Nat.two_pow_pos m
      have hT1 : T ≤ 4294967295 := by omega
      have hT2 : T * T ≤ 4294967295 * 4294967295 := Nat.mul_le_mul hT1 hT1
      have q1 : IntKind.u64.wrap ((2 : Int) ^ m) = (P : Int) := by
        have : ((2 : Int) ^ m) = ((2 ^ m : Nat) : Int) := by simp
        rw [this, hP, IntKind.wrap_u64]; omega
      have q2 : IntKind.u64.wrap ((out : Int) + (P : Int)) = (T : Int) := by rw [IntKind.wrap_u64]; omega
      obtain ⟨Z, hZ⟩ : ∃ Z : Nat, T * T = Z := ⟨_, rfl⟩
      have q3 : IntKind.u64.wrap ((T : Int) * (T : Int)) = (Z : Int) := by
        rw [show (T : Int) * (T : Int) = ((T * T : Nat) : Int) by simp, hZ, IntKind.wrap_u64]; omega
      have HS : Hid (rootGo n (m + 1) out = if Z ≤ n then rootGo n m T else rootGo n m out) := hid (by rw [rootGo, hP, hT, hZ])
      have HT : Hid (T + P ≤ 4294967296 ∧ out + P ≤ 4294967296 ∧ 2 ^ m = P) := hid ⟨by omega, by omega, hP⟩
      clear hP hp2 hO hT hT2 hZ HO
      by_cases hle : Z ≤ n
      · have hle' : (Z : Int) ≤ (n : Int) := by omega
        have hg2 : rootGo n m T = R := by rw [← HG.out, HS.out, if_pos hle]
        have HG2 := hid hg2
        clear hle hg2 HG HS
        go_wp2_with fail
        go_round
        case rel => exact ⟨m, T, by omega, rfl, rfl, by rw [HT.out.2.2]; exact HT.out.1, HG2.out⟩
        case measure => simp [intOf]
      · have hle' : ¬ (Z : Int) ≤ (n : Int) := by omega
        have hg2 : rootGo n m out = R := by rw [← HG.out, HS.out, if_neg hle]
        have HG2 := hid hg2
        clear hle hg2 HG HS
        go_wp2_with fail
        go_round
        case rel => exact ⟨m, out, by omega, rfl, rfl, by rw [HT.out.2.2]; exact HT.out.2.1, HG2.out⟩
        case measure => simp [intOf]
theorem ref_Best {A : Option Addr} {c : Nat} (z : List Int) (hz : z.length ≤ 9223372036854775807) (w : World) (ra : Rd (Value.int .i64) w w.heap.size A z) :
    Calls Try.prog 22 #[.slice A z.length c] w fun e w' => e = .returned (.tuple #[.int .i64 (bstN z : Int), .int .i64 (bstE z)]) ∧ Below w.heap.size w w' := by
  by_cases h0 : z = []
  · subst h0
    have e1 : bstE [] = 1 := rfl
    have e2 : bstN [] = 0 := rfl
    rw [e1, e2]
    clear ra e1 e2
    go_enter Try.func22, Try.ntmps22
    go_wp2_with fail
    go_ret2
    exact ⟨rfl, Below.refl _ _⟩
  · have hpos : 0 < z.length := List.length_pos_iff.2 h0
    have t0 : ((z.length : Int) == 0) = false := beq_eq_false_iff_ne.2 (by omega)
    by_cases h4 : 4096 < z.length
    · have e1 : bstE z = 3 := by unfold bstE; rw [if_neg h0, if_pos h4]
      have e2 : bstN z = 0 := if_neg (by rw [e1]; decide)
      rw [e1, e2]
      have h4' : (z.length : Int) > 4096 := by omega
      clear ra e1 e2 h0
      go_enter Try.func22, Try.ntmps22
      go_wp2_with fail
      go_ret2
      exact ⟨rfl, Below.refl _ _⟩
    · have e1 : bstE z = 0 := bstE_ok.2 ⟨h0, by omega⟩
      have e2 : bstN z = bstGo z z.length := if_pos e1
      rw [e1, e2]
      have h4' : ¬ (z.length : Int) > 4096 := by omega
      obtain ⟨M, hM⟩ : ∃ M, z.length = M := ⟨_, rfl⟩
      have HB : Hid (∀ k, k < M → ∃ x y, z[k]? = some x ∧ z[bstGo z k]? = some y ∧ bstGo z k < M ∧ bstGo z (k + 1) = if x > y then k else bstGo z k) := hid (fun k hk => by
        have hb : bstGo z k < z.length := by rcases bstGo_lt (z := z) k with h | h <;> omega
        refine ⟨z.getD k 0, z.getD (bstGo z k) 0, ?_, ?_, by omega, rfl⟩
        · rw [List.getD_eq_getElem?_getD, List.getElem?_eq_getElem (by omega)]; rfl
        · rw [List.getD_eq_getElem?_getD, List.getElem?_eq_getElem hb]; rfl)
      have HR := hid ra
      have HM := hid hM
      rw [hM] at hpos t0 h4 h4' ⊢
      obtain ⟨f, hf⟩ : ∃ f : Nat → Nat, (fun k => bstGo z k) = f := ⟨_, rfl⟩
      have HF : Hid (∀ k, bstGo z k = f k) := hid (fun k => by rw [← hf])
      rw [HF.out M]
      have HZ : Hid (f 0 = 0) := hid (by rw [← HF.out]; rfl)
      clear hf hM ra e1 e2 h0
      go_enter Try.func22, Try.ntmps22
      go_wp2_with fail
      go_loopw [4, 5, 14] (fun xa xi i wr => ∃ k : Nat, k ≤ M ∧ i = .int .i64 k ∧ xa = .int .i64 (f k : Int) ∧ Below w.heap.size w wr) (fun _ _ i _ => M - (intOf i).toNat)
      case atStart => exact ⟨0, by omega, rfl, by rw [HZ.out]; rfl, Below.refl _ _⟩
      case round =>
        obtain ⟨k, hk, rfl, rfl, hbel⟩ := hrel
        have HBL := hid hbel
        by_cases hlt : k < M
        · obtain ⟨x, y, ex, ey, hb, hs⟩ := HB.out k hlt
          rw [HF.out, HF.out] at hs
          rw [HF.out] at ey hb
          obtain ⟨b1, o1, x', rfl, l1, en, c1⟩ := (HR.out.on hbel).at_ (k := k) (by rw [HM.out]; exact hlt)
          obtain ⟨b2, o2, y', e2, l2, em, c2⟩ := (HR.out.on hbel).at_ (k := f k) (by rw [HM.out]; exact hb)
          obtain rfl : x = x' := Option.some.inj (ex.symm.trans en)
          obtain rfl : y = y' := Option.some.inj (ey.symm.trans em)
          cases e2
          obtain ⟨Q, hQ⟩ : ∃ Q, f k = Q := ⟨_, rfl⟩
          rw [hQ] at hb hs c2 ⊢
          have HS := hid hs
          clear hs ex ey en em hbel hQ
          by_cases hxy : x > y
          · have hq : f (k + 1) = k := by rw [HS.out, if_pos hxy]
            have HQ := hid hq
            clear hq HS
            go_wp2_with fail
            go_region
            go_wp2_with fail
            go_roundw
            case rel => exact ⟨k + 1, by omega, by go_num, by rw [HQ.out], HBL.out.drew⟩
            case measure => simp [intOf]; omega
          · have hq : f (k + 1) = Q := by rw [HS.out, if_neg hxy]
            have HQ := hid hq
            clear hq HS
            go_wp2_with fail
            go_region
            go_wp2_with fail
            go_roundw
            case rel => exact ⟨k + 1, by omega, by go_num, by rw [HQ.out], HBL.out.drew⟩
            case measure => simp [intOf]; omega
        · obtain rfl : k = M := by omega
          go_wp2_with fail
          go_ret2
          exact ⟨rfl, HBL.out⟩
end Go.Proofs.Ytnokomlekndgfaa
