
/- One number got, signed; many got; lists of numbers that are the same. -/
import Derived.Test.YtaknlgkhjmffoaaLebD
namespace Go.Proofs.Ytaknlgkhjmffoaa
open Go.RowKit
set_option maxHeartbeats 400000
set_option linter.unusedVariables false
theorem gL_u64 : ∀ (b : List Int) (k : Nat) (m v s : Int), U8s b → k ≤ 9 → 0 ≤ m → m < 2 ^ (7 * k) → gL b k m = (v, s, 0) → U64 v
  | [], k, m, v, s, _, _, _, _, h => by simp [gL] at h
  | c :: cs, k, m, v, s, hu, hk, h0, h1, h => by
    have hc := hu c (by simp)
    rw [gL] at h
    split at h
    · simp at h
    · rename_i h9
      have hpl := part_lt (x := c) h0 h1
      split at h
      · split at h
        · simp at h
        · rename_i h2 h3
          simp only [Prod.mk.injEq, and_true] at h
          obtain ⟨rfl, rfl⟩ := h
          refine ⟨hpl.1, ?_⟩
          have hs := shl_in (x := c % 128) (k := k) (by omega) (by omega) hk (by omega)
          rcases Nat.lt_or_ge k 9 with h | h
          · have h2 : (2 : Int) ^ (7 * (k + 1)) ≤ 2 ^ (7 * 9) := by
              have := Nat.pow_le_pow_right (show 0 < 2 by decide) (show 7 * (k + 1) ≤ 7 * 9 by omega)
              exact_mod_cast this
            have h3 : (2 : Int) ^ (7 * 9) = 9223372036854775808 := by decide
            omega
          · obtain rfl : k = 9 := by omega
            have h3 : (2 : Int) ^ (7 * 9) = 9223372036854775808 := by decide
            rw [h3] at h1 ⊢
            omega
      · rename_i h2
        exact gL_u64 cs (k + 1) _ v s (fun x hx => hu x (by simp [hx])) (by omega) hpl.1 hpl.2 h
/-- What a number got is, and where it ends. -/
theorem get_ok {b : List Int} {a : Int} (ub : U8s b) (h : getE b a = 0) : 0 ≤ a ∧ U64 (getN b a) ∧ ∃ j : Nat, a.toNat + j ≤ b.length ∧ getA b a = ((a.toNat + j : Nat) : Int) ∧ (b.drop a.toNat).take j = lebI (getN b a) := by
  by_cases h1 : a < 0
  · unfold getE at h; rw [if_pos h1] at h; simp at h
  · obtain ⟨v, s, e, hg⟩ : ∃ v s e, gL (b.drop a.toNat) 0 0 = (v, s, e) := ⟨_, _, _, rfl⟩
    obtain ⟨e1, e2, e3⟩ := get_out (b := b) (a := a) (by omega) hg
    rw [e2] at h
    subst h
    have ud : U8s (b.drop a.toNat) := fun x hx => ub x (List.mem_of_mem_drop hx)
    obtain ⟨q, j, hq, hv, rfl, hj, ht, _⟩ := gL_back _ 0 0 v s ud hg
    have hv' : v = q := by rw [hv]; simp
    have hj' : a.toNat + j ≤ b.length ∨ j = 0 := by rw [List.length_drop] at hj; omega
    have hu := gL_u64 _ 0 0 v _ ud (by omega) (by omega) (by decide) hg
    have hjp : 0 < j := by
      have := lebI_pos q hq
      rw [← ht, List.length_take] at this
      omega
    rw [e1, e3, hv']
    rw [hv'] at hu
    refine ⟨by omega, hu, j, by omega, ?_, ht⟩
    simp
    omega
theorem getA_i64 {b : List Int} {a : Int} {c : Nat} (ub : U8s b) (hb : b.length ≤ c) (hc : c ≤ 9223372036854775807) (h : getE b a = 0) : I64 (getA b a) := by
  obtain ⟨_, _, j, hj, e, _⟩ := get_ok ub h
  rw [e]
  unfold I64
  omega
/-- A call's answer: numbers of the call's own, a place, an error. -/
def OwnNums (r : List Int × Int × Int) (w : World) (e : Ending) (w' : World) : Prop :=
  ∃ A c, e = .returned (.tuple #[.slice A r.1.length c, .int .i64 r.2.1, .int .i64 r.2.2]) ∧ w'.ownsRow w.heap.size 25 1 (.slice A r.1.length c) r.1.length (r.1.map (Value.int .u64)) ∧ Below w.heap.size w w'
def mnyV (b : List Int) (many a : Int) : List Int × Int × Int := if many < 0 then ([], 0, 1) else mny b many.toNat a []
def takN (b : List Int) (a : Int) : Int := if getE b a = 0 then zagI (getN b a) else 0
theorem leb_Take {A : Option Addr} {c : Nat} (b : List Int) (hb : b.length ≤ c) (hc : c ≤ 9223372036854775807) (ub : U8s b) (a : Int) (ha : I64 a) (w : World) (ra : Rd (Value.int .u8) w w.heap.size A b) :
    Calls Try.prog 24 #[.slice A b.length c, .int .i64 a] w fun e w' => e = .returned (.tuple #[.int .i64 (takN b a), .int .i64 (getA b a), .int .i64 (getE b a)]) ∧ w = w' := by
  have CG := hid (leb_Get (A := A) (c := c) b hb hc ub a ha w ra)
  have HE := hid (fun h => get_ok (b := b) (a := a) ub h)
  have HA : Hid (getE b a ≠ 0 → getA b a = 0) := fun h => if_neg h
  unfold takN
  obtain ⟨N, hN⟩ : ∃ N, getN b a = N := ⟨_, rfl⟩
  obtain ⟨E, hE⟩ : ∃ N, getE b a = N := ⟨_, rfl⟩
  obtain ⟨X, hX⟩ : ∃ N, getA b a = N := ⟨_, rfl⟩
  rw [hE, hX] at HA
  rw [hN, hE] at HE
  rw [hN, hE, hX] at CG ⊢
  clear hN hE hX ra ub
  by_cases her : E = 0
  · have CZ := hid (leb_Zag N (HE.out her).2.1)
    subst her
    rw [if_pos rfl]
    go_enter Try.func24, Try.ntmps24
    go_wp2_with fail
    refine CG.out.mono ?_
    rintro _ _ ⟨rfl, rfl⟩
    go_wp2_with fail
    refine (CZ.out _).mono ?_
    rintro _ _ ⟨rfl, rfl⟩
    go_wp2_with fail
    go_ret3
    exact ⟨rfl, rfl⟩
  · have hx0 := HA.out her
    subst hx0
    rw [if_neg her]
    have hne : (E != 0) = true := by simpa using her
    clear her
    go_enter Try.func24, Try.ntmps24
    go_wp2_with fail
    refine CG.out.mono ?_
    rintro _ _ ⟨rfl, rfl⟩
    go_wp2_with fail
    go_ret3
    exact ⟨rfl, rfl⟩
theorem ref_Take {A : Option Addr} {c : Nat} (b : List Int) (hb : b.length ≤ c) (hc : c ≤ 9223372036854775807) (ub : U8s b) (a : Int) (ha : I64 a) (w : World) (ra : Rd (Value.int .u8) w w.heap.size A b) :
    Calls Try.prog 25 #[.slice A b.length c, .int .i64 a] w fun e w' => e = .returned (.tuple #[.int .i64 (takN b a), .int .i64 (getA b a), .int .i64 (getE b a)]) ∧ w = w' := by
  have CG := hid (ref_Get (A := A) (c := c) b hb hc ub a ha w ra)
  have HE := hid (fun h => get_ok (b := b) (a := a) ub h)
  have HA : Hid (getE b a ≠ 0 → getA b a = 0) := fun h => if_neg h
  unfold takN
  obtain ⟨N, hN⟩ : ∃ N, getN b a = N := ⟨_, rfl⟩
  obtain ⟨E, hE⟩ : ∃ N, getE b a = N := ⟨_, rfl⟩
  obtain ⟨X, hX⟩ : ∃ N, getA b a = N := ⟨_, rfl⟩
  rw [hE, hX] at HA
  rw [hN, hE] at HE
  rw [hN, hE, hX] at CG ⊢
  clear hN hE hX ra ub
  by_cases her : E = 0
  · have CZ := hid (ref_Zag N (HE.out her).2.1)
    subst her
    rw [if_pos rfl]
    go_enter Try.func25, Try.ntmps25
    go_wp2_with fail
    refine CG.out.mono ?_
    rintro _ _ ⟨rfl, rfl⟩
    go_wp2_with fail
    refine (CZ.out _).mono ?_
    rintro _ _ ⟨rfl, rfl⟩
    go_wp2_with fail
    go_ret3
    exact ⟨rfl, rfl⟩
  · have hx0 := HA.out her
    subst hx0
    rw [if_neg her]
    have hne : (E != 0) = true := by simpa using her
    clear her
    go_enter Try.func25, Try.ntmps25
    go_wp2_with fail
    refine CG.out.mono ?_
    rintro _ _ ⟨rfl, rfl⟩
    go_wp2_with fail
    go_ret3
    exact ⟨rfl, rfl⟩
theorem leb_Many {A : Option Addr} {c : Nat} (b : List Int) (hb : b.length ≤ c) (hc : c ≤ 9223372036854775807) (ub : U8s b) (a many : Int) (ha : I64 a) (hm0 : -9223372036854775808 ≤ many) (hm : many ≤ 1000000) (w : World) (ra : Rd (Value.int .u8) w w.heap.size A b) :
    Calls Try.prog 26 #[.slice A b.length c, .int .i64 a, .int .i64 many] w (OwnNums (mnyV b many a) w) := by
  by_cases h1 : many < 0
  · have e : mnyV b many a = ([], 0, 1) := if_pos h1
    rw [e]
    clear e ra ub
    go_enter Try.func26, Try.ntmps26
    go_wp2_with fail
    go_ret3
    exact ⟨none, 0, rfl, own_nil _ _ _, Below.refl _ _⟩
  obtain ⟨r, hr⟩ : ∃ r, mnyV b many a = r := ⟨_, rfl⟩
  rw [hr]
  unfold mnyV at hr
  rw [if_neg h1] at hr
  obtain ⟨M, hM⟩ : ∃ M : Nat, many.toNat = M := ⟨_, rfl⟩
  have hMm : many = (M : Int) := by omega
  rw [hM] at hr
  subst hMm
  have HRR := hid hr
  have HA := hid ra
  have HU := hid ub
  clear hr ra ub hM h1
  go_enter Try.func26, Try.ntmps26
  go_wp2_with fail
  go_loopw [1, 9, 16] (fun p t i wr => ∃ (k : Nat) (x : Int) (S : List Int) (A2 : Option Addr) (c2 : Nat), k ≤ M ∧ i = .int .i64 k ∧ p = .int .i64 x ∧ I64 x ∧ t = .slice A2 S.length c2 ∧ S.length = k ∧ mny b (M - k) x S = r ∧ wr.ownsRow w.heap.size 25 1 (.slice A2 S.length c2) S.length (S.map (Value.int .u64)) ∧ Below w.heap.size w wr) (fun _ _ i _ => M - (intOf i).toNat)
  case atStart => exact ⟨0, a, [], none, 0, by omega, rfl, rfl, ha, rfl, rfl, HRR.out, own_nil _ _ _, Below.refl _ _⟩
  case round =>
    obtain ⟨k, x, S, A2, c2, hk, rfl, rfl, hx, rfl, hSk, hs, ho, hbel⟩ := hrel
    have hSl : S.length ≤ 1000000 := by omega
    have HS := hid hs
    have HO := hid ho
    have HK := hid hSk
    clear hs ho hSk
    by_cases hlt : k < M
    · have CG := hid (leb_Get (A := A) (c := c) b hb hc HU.out x hx)
      have HX := hid (fun h => getA_i64 (b := b) (a := x) (c := c) HU.out hb hc h)
      have HM : Hid ((getE b x = 0 → mny b (M - (k + 1)) (getA b x) (S ++ [getN b x]) = r) ∧ (getE b x ≠ 0 → r = ([], 0, getE b x))) := by
        have h := HS.out
        rw [show M - k = (M - (k + 1)) + 1 by omega, mny] at h
        exact ⟨fun e => by rw [if_pos e] at h; exact h, fun e => by rw [if_neg e] at h; exact h.symm⟩
      obtain ⟨N, hN⟩ : ∃ N, getN b x = N := ⟨_, rfl⟩
      obtain ⟨E, hE⟩ : ∃ N, getE b x = N := ⟨_, rfl⟩
      obtain ⟨X, hX⟩ : ∃ N, getA b x = N := ⟨_, rfl⟩
      rw [hN, hE, hX] at HM CG
      rw [hE, hX] at HX
      clear hN hE hX
      have hr2 := HA.out.below hbel
      go_wp2_with fail
      refine (CG.out _ hr2).mono ?_
      rintro _ _ ⟨rfl, rfl⟩
      clear hr2
      by_cases her : E = 0
      · have hX := HX.out her
        have h2 := HM.out.1 her
        have HM2 := hid h2
        clear h2
        subst her
        have h0 := own_on HO.out ((Below.refl wr.heap.size wr).alloc (Nat.le_refl _) (.cells #[.int .u64 N] 25))
        have hr0 : Rd (Value.int .u64) (wr.alloc (.cells #[.int .u64 N] 25)) _ (some ⟨wr.heap.size, 0, none⟩) [N] := rd_one (one_cell wr (.int .u64 N) 25).1
        go_wp2_with (at_builtin; refine wpList_app (Value.int .u64) (fun _ => rfl) _ rfl _ _ 23 rfl w.heap.size 25 (.int .u64 0) 8 Try.underlying23 info_u64 rfl S _ _ rfl h0 [N] _ 1 _ rfl hr0 (by simp [maxLen]; omega) (by simp; omega) (by have := hbel.size; simp; omega) ?_)
        rintro S' A' c' w1 hS' ho hb1 _
        have HS' := hid hS'
        have HO' := hid ho
        clear hS' ho h0 hr0
        go_wp2_with fail
        go_roundw
        case rel =>
          refine ⟨k + 1, X, S', A', c', by omega, by go_num, rfl, hX, rfl, ?_, ?_, HO'.out, (hbel.alloc hbel.size _).trans hb1⟩
          · rw [HS'.out, List.length_append, HK.out]; rfl
          · rw [HS'.out]; exact HM2.out
        case measure => simp [intOf]; omega
      · have hne : (E != 0) = true := by simpa using her
        have HR2 := hid (HM.out.2 her)
        go_wp2_with fail
        go_ret3
        rw [HR2.out]
        exact ⟨none, 0, rfl, own_nil _ _ _, hbel⟩
    · obtain rfl : k = M := by omega
      have HR2 : Hid (r = (S, x, 0)) := by
        have h := HS.out
        rw [Nat.sub_self, mny] at h
        exact h.symm
      go_wp2_with fail
      go_ret3
      rw [HR2.out]
      exact ⟨A2, c2, rfl, HO.out, hbel⟩
theorem ref_Many {A : Option Addr} {c : Nat} (b : List Int) (hb : b.length ≤ c) (hc : c ≤ 9223372036854775807) (ub : U8s b) (a many : Int) (ha : I64 a) (hm0 : -9223372036854775808 ≤ many) (hm : many ≤ 1000000) (w : World) (ra : Rd (Value.int .u8) w w.heap.size A b) :
    Calls Try.prog 27 #[.slice A b.length c, .int .i64 a, .int .i64 many] w (OwnNums (mnyV b many a) w) := by
  by_cases h1 : many < 0
  · have e : mnyV b many a = ([], 0, 1) := if_pos h1
    rw [e]
    clear e ra ub
    go_enter Try.func27, Try.ntmps27
    go_wp2_with fail
    go_ret3
    exact ⟨none, 0, rfl, own_nil _ _ _, Below.refl _ _⟩
  obtain ⟨r, hr⟩ : ∃ r, mnyV b many a = r := ⟨_, rfl⟩
  rw [hr]
  unfold mnyV at hr
  rw [if_neg h1] at hr
  obtain ⟨M, hM⟩ : ∃ M : Nat, many.toNat = M := ⟨_, rfl⟩
  have hMm : many = (M : Int) := by omega
  rw [hM] at hr
  subst hMm
  have HRR := hid hr
  have HA := hid ra
  have HU := hid ub
  clear hr ra ub hM h1
  go_enter Try.func27, Try.ntmps27
  go_wp2_with fail
  go_loopw [1, 9, 16] (fun p t i wr => ∃ (k : Nat) (x : Int) (S : List Int) (A2 : Option Addr) (c2 : Nat), k ≤ M ∧ i = .int .i64 k ∧ p = .int .i64 x ∧ I64 x ∧ t = .slice A2 S.length c2 ∧ S.length = k ∧ mny b (M - k) x S = r ∧ wr.ownsRow w.heap.size 25 1 (.slice A2 S.length c2) S.length (S.map (Value.int .u64)) ∧ Below w.heap.size w wr) (fun _ _ i _ => M - (intOf i).toNat)
  case atStart => exact ⟨0, a, [], none, 0, by omega, rfl, rfl, ha, rfl, rfl, HRR.out, own_nil _ _ _, Below.refl _ _⟩
  case round =>
    obtain ⟨k, x, S, A2, c2, hk, rfl, rfl, hx, rfl, hSk, hs, ho, hbel⟩ := hrel
    have hSl : S.length ≤ 1000000 := by omega
    have HS := hid hs
    have HO := hid ho
    have HK := hid hSk
    clear hs ho hSk
    by_cases hlt : k < M
    · have CG := hid (ref_Get (A := A) (c := c) b hb hc HU.out x hx)
      have HX := hid (fun h => getA_i64 (b := b) (a := x) (c := c) HU.out hb hc h)
      have HM : Hid ((getE b x = 0 → mny b (M - (k + 1)) (getA b x) (S ++ [getN b x]) = r) ∧ (getE b x ≠ 0 → r = ([], 0, getE b x))) := by
        have h := HS.out
        rw [show M - k = (M - (k + 1)) + 1 by omega, mny] at h
        exact ⟨fun e => by rw [if_pos e] at h; exact h, fun e => by rw [if_neg e] at h; exact h.symm⟩
      obtain ⟨N, hN⟩ : ∃ N, getN b x = N := ⟨_, rfl⟩
      obtain ⟨E, hE⟩ : ∃ N, getE b x = N := ⟨_, rfl⟩
      obtain ⟨X, hX⟩ : ∃ N, getA b x = N := ⟨_, rfl⟩
      rw [hN, hE, hX] at HM CG
      rw [hE, hX] at HX
      clear hN hE hX
      have hr2 := HA.out.below hbel
      go_wp2_with fail
      refine (CG.out _ hr2).mono ?_
      rintro _ _ ⟨rfl, rfl⟩
      clear hr2
      by_cases her : E = 0
      · have hX := HX.out her
        have h2 := HM.out.1 her
        have HM2 := hid h2
        clear h2
        subst her
        have h0 := own_on HO.out ((Below.refl wr.heap.size wr).alloc (Nat.le_refl _) (.cells #[.int .u64 N] 25))
        have hr0 : Rd (Value.int .u64) (wr.alloc (.cells #[.int .u64 N] 25)) _ (some ⟨wr.heap.size, 0, none⟩) [N] := rd_one (one_cell wr (.int .u64 N) 25).1
        go_wp2_with (at_builtin; refine wpList_app (Value.int .u64) (fun _ => rfl) _ rfl _ _ 23 rfl w.heap.size 25 (.int .u64 0) 8 Try.underlying23 info_u64 rfl S _ _ rfl h0 [N] _ 1 _ rfl hr0 (by simp [maxLen]; omega) (by simp; omega) (by have := hbel.size; simp; omega) ?_)
        rintro S' A' c' w1 hS' ho hb1 _
        have HS' := hid hS'
        have HO' := hid ho
        clear hS' ho h0 hr0
        go_wp2_with fail
        go_roundw
        case rel =>
          refine ⟨k + 1, X, S', A', c', by omega, by go_num, rfl, hX, rfl, ?_, ?_, HO'.out, (hbel.alloc hbel.size _).trans hb1⟩
          · rw [HS'.out, List.length_append, HK.out]; rfl
          · rw [HS'.out]; exact HM2.out
        case measure => simp [intOf]; omega
      · have hne : (E != 0) = true := by simpa using her
        have HR2 := hid (HM.out.2 her)
        go_wp2_with fail
        go_ret3
        rw [HR2.out]
        exact ⟨none, 0, rfl, own_nil _ _ _, hbel⟩
    · obtain rfl : k = M := by omega
      have HR2 : Hid (r = (S, x, 0)) := by
        have h := HS.out
        rw [Nat.sub_self, mny] at h
        exact h.symm
      go_wp2_with fail
      go_ret3
      rw [HR2.out]
      exact ⟨A2, c2, rfl, HO.out, hbel⟩
theorem ref_SameNumbers {A B : Option Addr} {c d : Nat} (xs ys : List Int) (hx : xs.length ≤ 9223372036854775807) (hy : ys.length ≤ 9223372036854775807) (w : World)
    (ra : Rd (Value.int .u64) w w.heap.size A xs) (rb : Rd (Value.int .u64) w w.heap.size B ys) :
    Calls Try.prog 28 #[.slice A xs.length c, .slice B ys.length d] w fun e w' => e = .returned (.bool (eqB xs ys)) ∧ Below w.heap.size w w' := by
  by_cases hl : xs.length = ys.length
  · have HA := hid ra
    have HB := hid rb
    clear ra rb
    have h1 : ((xs.length : Int) != (ys.length : Int)) = false := by simp; omega
    have h2 : (xs.length != ys.length) = false := by simp; omega
    have HL := hid hl
    clear hl
    go_enter Try.func28, Try.ntmps28
    go_wp2_with fail
    clear h1 h2
    go_loopw [13] (fun i wr => ∃ k : Nat, k ≤ xs.length ∧ i = .int .i64 k ∧ xs.take k = ys.take k ∧ Below w.heap.size w wr) (fun i _ => xs.length - (intOf i).toNat)
    case atStart => exact ⟨0, by omega, rfl, rfl, Below.refl _ _⟩
    case round =>
      obtain ⟨k, hk, rfl, ht, hb⟩ := hrel
      have HT := hid ht
      clear ht
      by_cases hlt : k < xs.length
      · have hlt2 : k < ys.length := by have := HL.out; omega
        obtain ⟨b1, o1, x, rfl, l1, ex, c1⟩ := (HA.out.below hb).at_ hlt
        obtain ⟨b2, o2, y, rfl, l2, ey, c2⟩ := (HB.out.below hb).at_ hlt2
        have EX := hid ex
        have EY := hid ey
        clear ex ey
        by_cases e : x = y
        · have e' : (x != y) = false := by simpa using e
          have E := hid e
          clear e
          go_wp2_with fail
          go_quiet (fail)
          go_wp2_with fail
          go_roundw
          case rel => exact ⟨k + 1, by omega, by go_num, take_step HT.out EX.out EY.out E.out, hb.trans (belowN _ _ _)⟩
          case measure => simp [intOf]; omega
        · have e' : (x != y) = true := by simpa using e
          go_wp2_with fail
          go_quiet (fail)
          go_wp2_with fail
          go_ret
          rw [eqB_no EX.out EY.out e]
          exact ⟨rfl, hb.trans (belowN _ _ _)⟩
      · have hke : k = xs.length := by omega
        have HK := hid hke
        clear hke
        go_wp2_with fail
        go_ret
        rw [eqB_yes HT.out HK.out HL.out]
        exact ⟨rfl, hb⟩
  · rw [eqB_len hl]
    have h1 : ((xs.length : Int) != (ys.length : Int)) = true := by simp; omega
    have h2 : (xs.length != ys.length) = true := by simp; omega
    go_enter Try.func28, Try.ntmps28
    go_wp2_with fail
    go_ret
    exact ⟨rfl, Below.refl _ _⟩
end Go.Proofs.Ytaknlgkhjmffoaa
