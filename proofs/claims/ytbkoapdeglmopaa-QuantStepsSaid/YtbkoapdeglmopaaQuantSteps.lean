
/-
  QuantSteps answers true for every input. No condition.
-/
import Derived.Test.YtbkoapdeglmopaaJg
import Derived.Test.YtbkoapdeglmopaaJd
namespace Go.Proofs.Ytbkoapdeglmopaa.QuantSteps
open Go.ChangeShapes Go.WideShapes Go.ChangeAt Go.RowKit
set_option maxHeartbeats 400000
set_option linter.unusedVariables false
open Go.Proofs.Ytbkoapdeglmopaa
theorem and_50 (n : Int) : ∃ s : Nat, bits BinOp.and IntKind.i64 n 1125899906842623 = (s : Int) ∧ (s : Int) ≤ 1125899906842623 := by
  have e : bits BinOp.and IntKind.i64 n 1125899906842623 = n % 1125899906842624 := by
    show IntKind.i64.wrap ((BitVec.ofInt 64 n &&& BitVec.ofInt 64 1125899906842623).toNat : Int) = _
    rw [BitVec.toNat_and, show (BitVec.ofInt 64 1125899906842623).toNat = 2 ^ 50 - 1 from rfl, Nat.and_two_pow_sub_one_eq_mod, BitVec.toNat_ofInt, IntKind.wrap_i64]
    omega
  exact ⟨(n % 1125899906842624).toNat, by rw [e]; omega, by omega⟩
theorem wide_8 (wide : Int) : ∃ u : Nat, wrap64 (1 + (wrap64 (wide.tmod 8 + 8)).tmod 8) = (u : Int) ∧ 1 ≤ u ∧ u ≤ 8 := by
  have h1 := Int.tmod_lt_of_pos wide (show (0 : Int) < 8 by decide)
  have h2 : -8 < wide.tmod 8 := Int.lt_tmod_of_pos wide (by decide)
  obtain ⟨r, hr⟩ : ∃ r, wide.tmod 8 = r := ⟨_, rfl⟩
  rw [hr] at h1 h2 ⊢
  have e : wrap64 (r + 8) = r + 8 := by rw [wrap64_eq]; omega
  rw [e, Int.tmod_eq_emod_of_nonneg (by omega), wrap64_eq]
  exact ⟨(1 + (r + 8) % 8).toNat, by omega, by omega, by omega⟩
set_option maxHeartbeats 8000000 in
set_option maxRecDepth 100000 in
theorem core (n scale level wide : Int) (S W t l x p q y m k r z K1 Z1 l1 P : Nat) (mi : Int) (w : World)
    (hS : bits BinOp.and IntKind.i64 scale 1125899906842623 = (S : Int)) (hS1 : (S : Int) ≤ 1125899906842623) (hW : wrap64 (1 + (wrap64 (wide.tmod 8 + 8)).tmod 8) = (W : Int)) (hW1 : 1 ≤ W) (hW2 : W ≤ 8)
    (ht1 : 1 ≤ t) (ht2 : t ≤ 255) (hsh : IntKind.u64.wrap ((2 : Int) ^ W) = (P : Int)) (hsb : IntKind.u64.wrap ((P : Int) - 1) = (t : Int)) (hlv : level.tmod ((t : Int) + 1) = (l : Int)) (hl : l ≤ t)
    (hx : (x : Int) ≤ (S : Int)) (hp : p ≤ l) (hps : t < S → l ≤ p + 1) (hy : l < t → x ≤ y) (hl1 : (l : Int) + 1 = (l1 : Int)) (hm : n.tmod ((S : Int) + 1) = mi) (hr : 0 < S → r < S) (hk : k ≤ 255) (hz : (z : Int) ≤ (S : Int))
    (i1 : (k : Int) * (S : Int) = (K1 : Int)) (i2 : (z : Int) * (t : Int) = (Z1 : Int)) (i3 : (K1 : Int) + (r : Int) = (Z1 : Int)) (hZ1 : (Z1 : Int) ≤ 1000000000000000000)
    (C1 : Hid (∀ w, Calls Try.prog 14 #[.int .i64 (W : Int)] w fun e w' => e = .returned (.tuple #[.int .u64 (t : Int), .int .i64 0]) ∧ w = w'))
    (C2 : Hid (∀ w, Calls Try.prog 12 #[.int .u64 (l : Int), .int .i64 (S : Int), .int .i64 (W : Int)] w fun e w' => e = .returned (.tuple #[.int .i64 (x : Int), .int .i64 0]) ∧ ∃ n, w' = w.drewN n))
    (C3 : Hid (∀ w, Calls Try.prog 10 #[.int .i64 (x : Int), .int .i64 (S : Int), .int .i64 (W : Int)] w fun e w' => e = .returned (.tuple #[.int .u64 (p : Int), .int .u64 (q : Int), .int .i64 0]) ∧ Below w.heap.size w w'))
    (C4 : Hid (l < t → ∀ w, Calls Try.prog 12 #[.int .u64 (l1 : Int), .int .i64 (S : Int), .int .i64 (W : Int)] w fun e w' => e = .returned (.tuple #[.int .i64 (y : Int), .int .i64 0]) ∧ ∃ n, w' = w.drewN n))
    (C5 : Hid (∀ w, Calls Try.prog 10 #[.int .i64 mi, .int .i64 (S : Int), .int .i64 (W : Int)] w fun e w' => e = .returned (.tuple #[.int .u64 (k : Int), .int .u64 (r : Int), .int .i64 0]) ∧ Below w.heap.size w w'))
    (C6 : Hid (∀ w, Calls Try.prog 28 #[.int .i64 mi] w fun e w' => e = .returned (.int .u64 (z : Int)) ∧ w = w')) :
    Calls Try.prog 7 #[.int .i64 n, .int .i64 scale, .int .u64 level, .int .i64 wide] w fun e w' => e = .returned (.bool true) ∧ Below w.heap.size w w' := by
  have ip : (p : Int) ≤ (l : Int) := by omega
  have C4' := C4
  by_cases hS0 : S = 0
  · subst hS0
    have hz0 : ¬ (t : Int) < ((0 : Nat) : Int) := by omega
    clear hps hr i1 i2 i3 hZ1 C5 C6 hm hz
    by_cases hlt : l < t
    · have hlt' : (l : Int) < (t : Int) := by omega
      have hyi : (x : Int) ≤ (y : Int) := by have := hy hlt; omega
      have C4 := hid (C4'.out hlt)
      clear C4' hy hlt
      go_enter Try.func7, Try.ntmps7
      go_wp2_with fail
      refine (qu_live _).mono ?_
      rintro _ w1 ⟨rfl, k1⟩
      go_wp2_with fail
      rw [hW]
      clear hS hW
      refine (C1.out w1).mono ?_
      rintro _ _ ⟨rfl, rfl⟩
      clear C1
      go_wp2_with fail
      try rw [hlv]
      clear hlv
      refine (C2.out _).mono ?_
      rintro _ _ ⟨rfl, n1, rfl⟩
      have k2 := k1.trans (belowN w.heap.size w1 n1)
      obtain ⟨w2, h2⟩ : ∃ w2, w1.drewN n1 = w2 := ⟨_, rfl⟩
      rw [h2] at k2 ⊢
      clear C2 h2 k1
      go_wp2_with fail
      refine (C3.out _).mono ?_
      rintro _ w3 ⟨rfl, hb3⟩
      have k3 := k2.trans (hb3.mono k2.size)
      clear C3 hb3 k2
      go_wp2_with fail
      refine (C4.out _).mono ?_
      rintro _ _ ⟨rfl, n4, rfl⟩
      have k4 := k3.trans (belowN w.heap.size w3 n4)
      obtain ⟨w4, h4⟩ : ∃ w4, w3.drewN n4 = w4 := ⟨_, rfl⟩
      rw [h4] at k4 ⊢
      clear C4 h4 k3
      go_wp2_with fail
      go_ret
      exact ⟨rfl, k4⟩
    · have hlt' : ¬ (l : Int) < (t : Int) := by omega
      clear C4' hy hlt
      go_enter Try.func7, Try.ntmps7
      go_wp2_with fail
      refine (qu_live _).mono ?_
      rintro _ w1 ⟨rfl, k1⟩
      go_wp2_with fail
      rw [hW]
      clear hS hW
      refine (C1.out w1).mono ?_
      rintro _ _ ⟨rfl, rfl⟩
      clear C1
      go_wp2_with fail
      try rw [hlv]
      clear hlv
      refine (C2.out _).mono ?_
      rintro _ _ ⟨rfl, n1, rfl⟩
      have k2 := k1.trans (belowN w.heap.size w1 n1)
      obtain ⟨w2, h2⟩ : ∃ w2, w1.drewN n1 = w2 := ⟨_, rfl⟩
      rw [h2] at k2 ⊢
      clear C2 h2 k1
      go_wp2_with fail
      refine (C3.out _).mono ?_
      rintro _ w3 ⟨rfl, hb3⟩
      have k3 := k2.trans (hb3.mono k2.size)
      clear C3 hb3 k2
      go_wp2_with fail
      go_ret
      exact ⟨rfl, k3⟩
  · have hS0' : ((S : Int) == 0) = false := beq_eq_false_iff_ne.2 (by omega)
    have hri : (r : Int) < (S : Int) := by have := hr (by omega); omega
    clear hr
    by_cases hst : t < S
    · have hst' : (S : Int) > (t : Int) := by omega
      have hpi : ¬ (p : Int) + 1 < (l : Int) := by have := hps hst; omega
      clear hps hst
      by_cases hlt : l < t
      · have hlt' : (l : Int) < (t : Int) := by omega
        have hyi : (x : Int) ≤ (y : Int) := by have := hy hlt; omega
        have C4 := hid (C4'.out hlt)
        clear C4' hy hlt
        go_enter Try.func7, Try.ntmps7
        go_wp2_with fail
        refine (qu_live _).mono ?_
        rintro _ w1 ⟨rfl, k1⟩
        go_wp2_with fail
        rw [hW]
        clear hS hW
        refine (C1.out w1).mono ?_
        rintro _ _ ⟨rfl, rfl⟩
        clear C1
        go_wp2_with fail
        try rw [hlv]
        clear hlv
        refine (C2.out _).mono ?_
        rintro _ _ ⟨rfl, n1, rfl⟩
        have k2 := k1.trans (belowN w.heap.size w1 n1)
        obtain ⟨w2, h2⟩ : ∃ w2, w1.drewN n1 = w2 := ⟨_, rfl⟩
        rw [h2] at k2 ⊢
        clear C2 h2 k1
        go_wp2_with fail
        refine (C3.out _).mono ?_
        rintro _ w3 ⟨rfl, hb3⟩
        have k3 := k2.trans (hb3.mono k2.size)
        clear C3 hb3 k2
        go_wp2_with fail
        refine (C4.out _).mono ?_
        rintro _ _ ⟨rfl, n4, rfl⟩
        have k4 := k3.trans (belowN w.heap.size w3 n4)
        obtain ⟨w4, h4⟩ : ∃ w4, w3.drewN n4 = w4 := ⟨_, rfl⟩
        rw [h4] at k4 ⊢
        clear C4 h4 k3
        go_wp2_with fail
        try rw [hm]
        clear hm
        refine (C5.out _).mono ?_
        rintro _ w5 ⟨rfl, hb5⟩
        have k5 := k4.trans (hb5.mono k4.size)
        clear C5 hb5 k4
        go_wp2_with fail
        refine (C6.out _).mono ?_
        rintro _ _ ⟨rfl, rfl⟩
        go_wp2_with fail
        go_ret
        exact ⟨by simp, k5⟩
      · have hlt' : ¬ (l : Int) < (t : Int) := by omega
        clear C4' hy hlt
        go_enter Try.func7, Try.ntmps7
        go_wp2_with fail
        refine (qu_live _).mono ?_
        rintro _ w1 ⟨rfl, k1⟩
        go_wp2_with fail
        rw [hW]
        clear hS hW
        refine (C1.out w1).mono ?_
        rintro _ _ ⟨rfl, rfl⟩
        clear C1
        go_wp2_with fail
        try rw [hlv]
        clear hlv
        refine (C2.out _).mono ?_
        rintro _ _ ⟨rfl, n1, rfl⟩
        have k2 := k1.trans (belowN w.heap.size w1 n1)
        obtain ⟨w2, h2⟩ : ∃ w2, w1.drewN n1 = w2 := ⟨_, rfl⟩
        rw [h2] at k2 ⊢
        clear C2 h2 k1
        go_wp2_with fail
        refine (C3.out _).mono ?_
        rintro _ w3 ⟨rfl, hb3⟩
        have k3 := k2.trans (hb3.mono k2.size)
        clear C3 hb3 k2
        go_wp2_with fail
        try rw [hm]
        clear hm
        refine (C5.out _).mono ?_
        rintro _ w5 ⟨rfl, hb5⟩
        have k5 := k3.trans (hb5.mono k3.size)
        clear C5 hb5 k3
        go_wp2_with fail
        refine (C6.out _).mono ?_
        rintro _ _ ⟨rfl, rfl⟩
        go_wp2_with fail
        go_ret
        exact ⟨by simp, k5⟩
    · have hst' : ¬ (S : Int) > (t : Int) := by omega
      clear hps hst
      by_cases hlt : l < t
      · have hlt' : (l : Int) < (t : Int) := by omega
        have hyi : (x : Int) ≤ (y : Int) := by have := hy hlt; omega
        have C4 := hid (C4'.out hlt)
        clear C4' hy hlt
        go_enter Try.func7, Try.ntmps7
        go_wp2_with fail
        refine (qu_live _).mono ?_
        rintro _ w1 ⟨rfl, k1⟩
        go_wp2_with fail
        rw [hW]
        clear hS hW
        refine (C1.out w1).mono ?_
        rintro _ _ ⟨rfl, rfl⟩
        clear C1
        go_wp2_with fail
        try rw [hlv]
        clear hlv
        refine (C2.out _).mono ?_
        rintro _ _ ⟨rfl, n1, rfl⟩
        have k2 := k1.trans (belowN w.heap.size w1 n1)
        obtain ⟨w2, h2⟩ : ∃ w2, w1.drewN n1 = w2 := ⟨_, rfl⟩
        rw [h2] at k2 ⊢
        clear C2 h2 k1
        go_wp2_with fail
        refine (C3.out _).mono ?_
        rintro _ w3 ⟨rfl, hb3⟩
        have k3 := k2.trans (hb3.mono k2.size)
        clear C3 hb3 k2
        go_wp2_with fail
        refine (C4.out _).mono ?_
        rintro _ _ ⟨rfl, n4, rfl⟩
        have k4 := k3.trans (belowN w.heap.size w3 n4)
        obtain ⟨w4, h4⟩ : ∃ w4, w3.drewN n4 = w4 := ⟨_, rfl⟩
        rw [h4] at k4 ⊢
        clear C4 h4 k3
        go_wp2_with fail
        try rw [hm]
        clear hm
        refine (C5.out _).mono ?_
        rintro _ w5 ⟨rfl, hb5⟩
        have k5 := k4.trans (hb5.mono k4.size)
        clear C5 hb5 k4
        go_wp2_with fail
        refine (C6.out _).mono ?_
        rintro _ _ ⟨rfl, rfl⟩
        go_wp2_with fail
        go_ret
        exact ⟨by simp, k5⟩
      · have hlt' : ¬ (l : Int) < (t : Int) := by omega
        clear C4' hy hlt
        go_enter Try.func7, Try.ntmps7
        go_wp2_with fail
        refine (qu_live _).mono ?_
        rintro _ w1 ⟨rfl, k1⟩
        go_wp2_with fail
        rw [hW]
        clear hS hW
        refine (C1.out w1).mono ?_
        rintro _ _ ⟨rfl, rfl⟩
        clear C1
        go_wp2_with fail
        try rw [hlv]
        clear hlv
        refine (C2.out _).mono ?_
        rintro _ _ ⟨rfl, n1, rfl⟩
        have k2 := k1.trans (belowN w.heap.size w1 n1)
        obtain ⟨w2, h2⟩ : ∃ w2, w1.drewN n1 = w2 := ⟨_, rfl⟩
        rw [h2] at k2 ⊢
        clear C2 h2 k1
        go_wp2_with fail
        refine (C3.out _).mono ?_
        rintro _ w3 ⟨rfl, hb3⟩
        have k3 := k2.trans (hb3.mono k2.size)
        clear C3 hb3 k2
        go_wp2_with fail
        try rw [hm]
        clear hm
        refine (C5.out _).mono ?_
        rintro _ w5 ⟨rfl, hb5⟩
        have k5 := k3.trans (hb5.mono k3.size)
        clear C5 hb5 k3
        go_wp2_with fail
        refine (C6.out _).mono ?_
        rintro _ _ ⟨rfl, rfl⟩
        go_wp2_with fail
        go_ret
        exact ⟨by simp, k5⟩
set_option maxRecDepth 100000 in
theorem walk (n scale level wide : Int) (hn : I64 n) (hs : I64 scale) (hl : U64 level) (hw : I64 wide) (w : World) :
    Calls Try.prog 7 #[.int .i64 n, .int .i64 scale, .int .u64 level, .int .i64 wide] w fun e w' => e = .returned (.bool true) ∧ Below w.heap.size w w' := by
  obtain ⟨S, hS, hS1⟩ := and_50 scale
  obtain ⟨W, hW, hW1, hW2⟩ := wide_8 wide
  have hst : stsE (W : Int) = 0 := stsE_ok.2 (by omega)
  have hsv : stsV (W : Int) = topQ W := if_pos hst
  have ht := topQ_bd hst
  have hWi : I64 (W : Int) := by unfold I64; omega
  have hSi : I64 (S : Int) := by unfold I64; omega
  have C1 := hid (fun w => qp_Steps (W : Int) hWi w)
  rw [hst, hsv] at C1
  have hsh : IntKind.u64.wrap ((2 : Int) ^ W) = ((topQ (W : Int) + 1 : Nat) : Int) := by
    have h3 : W = 1 ∨ W = 2 ∨ W = 3 ∨ W = 4 ∨ W = 5 ∨ W = 6 ∨ W = 7 ∨ W = 8 := by omega
    rcases h3 with rfl | rfl | rfl | rfl | rfl | rfl | rfl | rfl <;> decide
  obtain ⟨l, hlv, hlt⟩ : ∃ l : Nat, level.tmod ((topQ (W : Int) : Int) + 1) = (l : Int) ∧ l ≤ topQ (W : Int) := by
    have h1 := Int.tmod_lt_of_pos level (show (0 : Int) < (topQ (W : Int) : Int) + 1 by omega)
    have h2 := Int.tmod_nonneg ((topQ (W : Int) : Int) + 1) hl.1
    exact ⟨(level.tmod ((topQ (W : Int) : Int) + 1)).toNat, by omega, by omega⟩
  have hv : valE l (S : Int) (W : Int) = 0 := valE_ok.2 ⟨hst, by omega, hlt⟩
  obtain ⟨v1, v2, v3, v4⟩ := stp_val hv
  rw [Int.toNat_natCast] at v1 v4
  have hxi : I64 (valV l (S : Int) (W : Int) : Int) := by unfold I64; omega
  have C2 := hid (fun w => qp_Value l (S : Int) (W : Int) (by omega) hSi hWi w)
  rw [hv] at C2
  have C3 := hid (fun w => qp_Level (valV l (S : Int) (W : Int) : Int) (S : Int) (W : Int) hxi hSi hWi w)
  rw [v2] at C3
  have C4 := hid (fun (h : l < topQ (W : Int)) w => (by
    have h2 := qp_Value (l + 1) (S : Int) (W : Int) (by omega) hSi hWi w
    rw [(stp_next hv h).1] at h2
    exact h2 : Calls Try.prog 12 #[.int .u64 ((l + 1 : Nat) : Int), .int .i64 (S : Int), .int .i64 (W : Int)] w fun e w' => e = .returned (.tuple #[.int .i64 (valV (l + 1) (S : Int) (W : Int) : Int), .int .i64 0]) ∧ ∃ n, w' = w.drewN n))
  have m1 := Int.tmod_lt_of_pos n (show (0 : Int) < (S : Int) + 1 by omega)
  have m2 : -((S : Int) + 1) < n.tmod ((S : Int) + 1) := Int.lt_tmod_of_pos n (by omega)
  obtain ⟨mi, hm⟩ : ∃ mi, n.tmod ((S : Int) + 1) = mi := ⟨_, rfl⟩
  rw [hm] at m1 m2
  have hmi : I64 mi := by unfold I64; omega
  have hsz : (szN mi : Int) ≤ (S : Int) := by unfold szN; omega
  have hle : lvlE mi (S : Int) (W : Int) = 0 := lvlE_ok.2 ⟨hst, by omega, hsz⟩
  have C5 := hid (fun w => qp_Level mi (S : Int) (W : Int) hmi hSi hWi w)
  rw [hle] at C5
  have C6 := hid (fun w => ref_Size9 mi hmi w)
  have hrest : lvlL mi (S : Int) (W : Int) * S + lvlR mi (S : Int) (W : Int) = szN mi * topQ (W : Int) := by
    unfold lvlL lvlR
    rw [if_pos hle, if_pos hle, Int.toNat_natCast]
    exact lvQ_both (by omega)
  have hz1 : szN mi * topQ (W : Int) ≤ 1125899906842623 * 255 := Nat.mul_le_mul (by omega) ht.2
  refine core n scale level wide S W (topQ (W : Int)) l (valV l (S : Int) (W : Int)) (lvlL (valV l (S : Int) (W : Int) : Int) (S : Int) (W : Int)) (lvlR (valV l (S : Int) (W : Int) : Int) (S : Int) (W : Int)) (valV (l + 1) (S : Int) (W : Int)) 0
    (lvlL mi (S : Int) (W : Int)) (lvlR mi (S : Int) (W : Int)) (szN mi) (lvlL mi (S : Int) (W : Int) * S) (szN mi * topQ (W : Int)) (l + 1) (topQ (W : Int) + 1) mi w hS hS1 hW hW1 hW2 ht.1 ht.2 hsh (by rw [IntKind.wrap_u64]; omega) hlv hlt (by omega) v3 v4 (fun h => (stp_next hv h).2) (by omega) hm
    (fun h => by have h2 := (stp_rest hle (by omega)).1; rw [Int.toNat_natCast] at h2; exact h2) (lvlL_le9 _ _ _) hsz (by simp) (by simp) (by rw [← hrest]; simp) (by omega) C1 C2 C3 C4 C5 C6
theorem law_types : ∀ t ∈ Try.f7.params.toList, Try.prog.readableRec t = true ∧ t < Try.prog.types.size := by
  have h : (Try.f7.params.toList.all fun t => Try.prog.readableRec t && decide (t < Try.prog.types.size)) = true := by kernel_rfl
  intro t ht
  simpa using List.all_eq_true.1 h t ht
set_option maxRecDepth 100000 in
theorem lifted (os : Os) (started : os.Started) (H : Type) (enc : TypeId × Value → H) :
    ReturnsInHanded {} Try.checked os 7 .any (Rows.quantStepsSpec.pre6 enc Try.prog Try.f7 Rows.quantStepsRow.domain false) (Rows.quantStepsSpec.post enc Try.prog Try.f7 false true false false) := by
  refine returnsInHanded_of_change (C := Try.checked) own started (by kernel_rfl) Try.func7
    (ChangeSpec.witness6 (enc := enc) (C := Try.checked) false ⟨#[], #[.int .i64 0, .int .i64 0, .int .u64 0, .int .i64 0], []⟩ 8 (by kernel_rfl) (by kernel_rfl) (by kernel_rfl) (by kernel_rfl)) ?_
  intro W base args ds gs before hval0 hW hcnd _
  have hval : ∀ (j : Nat) t v, Try.f7.params[j]? = some t → args[j]? = some v → Value.okWide Try.prog W .any base t v := hval0
  have hW' := hW
  obtain ⟨p, q, hA0, hV, rfl, hfz, hnd⟩ := hW
  have hA : DataW.TrodAll enc Try.prog W 0 (fun _ => true) true Try.f7.params.toList args.toList ds p := hA0
  rw [Try.params7] at hA hval
  obtain ⟨v0, vs0, d0, ds0, p0, q0, hargs, rfl, rfl, h0, r0⟩ := trodAll_cons hA
  obtain ⟨v1, vs1, d1, ds1, p1, q1, rfl, rfl, rfl, h1, r1⟩ := trodAll_cons r0
  obtain ⟨v2, vs2, d2, ds2, p2, q2, rfl, rfl, rfl, h2, r2⟩ := trodAll_cons r1
  obtain ⟨v3, vs3, d3, ds3, p3, q3, rfl, rfl, rfl, h3, r3⟩ := trodAll_cons r2
  obtain ⟨rfl, rfl, rfl⟩ := trodAll_nil r3
  obtain rfl : args = #[v0, v1, v2, v3] := by cases args; simp_all
  obtain ⟨rfl, rfl⟩ := trodVars_none hV
  obtain ⟨n, rfl, rfl, rfl, w0⟩ := open_int Try.underlying2 (hval 0 2 v0 rfl rfl) h0
  obtain ⟨scale, rfl, rfl, rfl, w1⟩ := open_int Try.underlying2 (hval 1 2 v1 rfl rfl) h1
  obtain ⟨level, rfl, rfl, rfl, w2⟩ := open_int Try.underlying22 (hval 2 22 v2 rfl rfl) h2
  obtain ⟨wide, rfl, rfl, rfl, w3⟩ := open_int Try.underlying3 (hval 3 3 v3 rfl rfl) h3
  clear hA0 hval0
  refine (walk n scale level wide (I64.of_wf w0) (I64.of_wf w1) (U64.of_wf w2) (I64.of_wf w3) W).mono fun e W' ⟨he, hb⟩ => ?_
  subst he
  exact ⟨_, rfl, law_post laid (fun t ht => law_types t ht) rfl hW' ⟨rfl, rfl, rfl⟩ (by kernel_rfl) Try.underlying4 hb⟩

theorem over : Rows.quantStepsRow.holds Try.pinned (OpenSpec.ofChange Rows.quantStepsSpec) :=
  OpenClaim.holds_of_wide 7 Try.f7 rfl rfl rfl rfl rfl rfl rfl ⟨rfl, rfl, rfl, rfl, rfl⟩ rfl rfl rfl rfl rfl (by kernel_rfl) Try.func7 (by kernel_rfl)
    (of_decide_eq_true (by kernel_rfl)) (by unfold Func.isWrapper; first | (rw [if_pos (by decide +kernel)]; kernel_rfl) | (rw [if_neg (by decide +kernel)]; exact ⟨rfl, rfl⟩))
    (fun os started H enc _ => lifted os started H enc)

theorem proved : Rows.QuantStepsSaid := over
end Go.Proofs.Ytbkoapdeglmopaa.QuantSteps
