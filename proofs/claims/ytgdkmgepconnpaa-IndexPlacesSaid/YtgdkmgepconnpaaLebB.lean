
/- Texts that are the same; a number got, signed and not, by the program and by the document. -/
import Derived.Test.YtgdkmgepconnpaaLebA
import Derived.Test.YtgdkmgepconnpaaLebN
import Derived.OwnWalk
import Derived.Outline
namespace Go.Proofs.Ytgdkmgepconnpaa
open Go.RowKit
set_option maxHeartbeats 400000
set_option linter.unusedVariables false
theorem or_comm_u64 (x y : Int) : bits .or .u64 x y = bits .or .u64 y x := by
  show IntKind.u64.wrap ((BitVec.ofInt 64 x ||| BitVec.ofInt 64 y).toNat : Int) = IntKind.u64.wrap ((BitVec.ofInt 64 y ||| BitVec.ofInt 64 x).toNat : Int)
  rw [BitVec.or_comm]
theorem or_put {n x : Int} {k : Nat} (h0 : 0 ≤ x) (h1 : x ≤ 127) (hk : k ≤ 9) (h9 : k = 9 → x ≤ 1) (hn0 : 0 ≤ n) (hn : n < 2 ^ (7 * k)) : bits BinOp.or IntKind.u64 n (x * 2 ^ (7 * k)) = n + x * 2 ^ (7 * k) := by
  have hb := shl_in h0 h1 hk h9
  have hp := pow7_pos k
  have h3 : (2 : Int) ^ (7 * k) ≤ 2 ^ 63 := by
    have := Nat.pow_le_pow_right (show 0 < 2 by decide) (show 7 * k ≤ 63 by omega)
    exact_mod_cast this
  rw [or_comm_u64, bits_join .u64 64 (by decide) (fun n h0 h1 => by rw [IntKind.wrap_u64]; omega) (7 * k) _ _ hb.1 (Int.mul_emod_left _ _) (by omega) hn0 hn (by omega)]
  omega
theorem get_short {b : List Int} {a : Int} (ha : (b.length : Int) ≤ a) : getN b a = 0 ∧ getE b a = 5 ∧ getA b a = 0 :=
  get_out (v := 0) (s := 0) (e := 5) (by omega) (by rw [List.drop_eq_nil_of_le (by omega)]; rfl)
theorem get_arg {b : List Int} {a : Int} (ha : a < 0) : getN b a = 0 ∧ getE b a = 1 ∧ getA b a = 0 := by
  unfold getA getN getE
  simp [ha]
theorem drop_at {D : List Int} {k : Nat} {x : Int} (h : D[k]? = some x) : D.drop k = x :: D.drop (k + 1) := by
  obtain ⟨hk, rfl⟩ := List.getElem?_eq_some_iff.1 h
  exact List.drop_eq_getElem_cons hk
theorem gl_next {D : List Int} {k : Nat} {x n : Int} (h : D[k]? = some x) (hx : 128 ≤ x) (hk : k ≤ 8) : gL (D.drop k) k n = gL (D.drop (k + 1)) (k + 1) (n + x % 128 * 2 ^ (7 * k)) := by
  rw [drop_at h, gL, if_neg (by omega), if_neg (by omega)]
theorem gl_nine {D : List Int} {x n : Int} (h : D[9]? = some x) (hx : 1 < x) : gL (D.drop 9) 9 n = (0, 0, 6) := by
  rw [drop_at h, gL, if_pos ⟨rfl, hx⟩]
theorem gl_zero {D : List Int} {k : Nat} {n : Int} (h : D[k]? = some 0) (hk : 0 < k) : gL (D.drop k) k n = (0, 0, 6) := by
  rw [drop_at h, gL, if_neg (by omega), if_pos (by omega), if_pos ⟨hk, rfl⟩]
theorem gl_last {D : List Int} {k : Nat} {x n : Int} (h : D[k]? = some x) (hx : x < 128) (h9 : k = 9 → x ≤ 1) (h0 : k = 0 ∨ x ≠ 0) : gL (D.drop k) k n = (n + x % 128 * 2 ^ (7 * k), ((k + 1 : Nat) : Int), 0) := by
  rw [drop_at h, gL, if_neg (by omega), if_pos hx, if_neg (by omega)]
theorem gl_end {D : List Int} {k : Nat} {n : Int} (h : D.length ≤ k) : gL (D.drop k) k n = (0, 0, 5) := by
  rw [List.drop_eq_nil_of_le h, gL]
theorem or_part {n x : Int} {k : Nat} (hx : 0 ≤ x ∧ x ≤ 255) (hk : k ≤ 9) (h9 : k = 9 → x ≤ 1) (hn0 : 0 ≤ n) (hn : n < 2 ^ (7 * k)) :
    bits BinOp.or IntKind.u64 n (IntKind.u64.wrap (x % 128 * 2 ^ (7 * k))) = n + x % 128 * 2 ^ (7 * k) := by
  have h := shl_in (x := x % 128) (k := k) (by omega) (by omega) hk (fun e => by have := h9 e; omega)
  rw [show IntKind.u64.wrap (x % 128 * 2 ^ (7 * k)) = x % 128 * 2 ^ (7 * k) by rw [IntKind.wrap_u64]; omega]
  exact or_put (by omega) (by omega) hk (fun e => by have := h9 e; omega) hn0 hn
theorem ret3 {k k' k'' : IntKind} {x y z x' y' z' : Int} (h1 : x = x') (h2 : y = y') (h3 : z = z') : Ending.returned (Value.tuple #[.int k x, .int k' y, .int k'' z]) = Ending.returned (Value.tuple #[.int k x', .int k' y', .int k'' z']) := by rw [h1, h2, h3]
theorem leb_Get {A : Option Addr} {c : Nat} (b : List Int) (hb : b.length ≤ c) (hc : c ≤ 9223372036854775807) (ub : U8s b) (a : Int) (ha : I64 a) (w : World) {B : Nat} (ra : Rd (Value.int .u8) w B A b) :
    Calls Try.prog 35 #[.slice A b.length c, .int .i64 a] w fun e w' => e = .returned (.tuple #[.int .u64 (getN b a), .int .i64 (getA b a), .int .i64 (getE b a)]) ∧ w = w' := by
  unfold I64 at ha
  by_cases h1 : a < 0
  · obtain ⟨e1, e2, e3⟩ := get_arg (b := b) h1
    rw [e1, e2, e3]
    clear e1 e2 e3 ra ub
    go_enter Try.func35, Try.ntmps35
    go_wp2_with fail
    go_ret3
    exact ⟨rfl, rfl⟩
  obtain ⟨D, hD⟩ : ∃ D, b.drop a.toNat = D := ⟨_, rfl⟩
  obtain ⟨p, hp⟩ : ∃ p, (min a (b.length : Int)).toNat = p := ⟨_, rfl⟩
  have hpl : p ≤ b.length := by omega
  have hm : min a (b.length : Int) = (p : Int) := by omega
  have hDl : b.length - p = D.length := by rw [← hD, List.length_drop]; omega
  have hDp : b.drop p = D := by
    rw [← hD]
    by_cases h2 : (b.length : Int) ≤ a
    · rw [List.drop_eq_nil_of_le (by omega), List.drop_eq_nil_of_le (by omega)]
    · congr 1; omega
  have hsl := fun W => run_from (P := Try.prog) 23 Try.underlying23 Try.sizeOf5 A b.length c p hpl hb W
  have hR := ra.cut p hb
  rw [hDp] at hR
  rw [hDl] at hsl
  obtain ⟨A2, hA2⟩ : ∃ A2, cutA A p c = A2 := ⟨_, rfl⟩
  rw [hA2] at hsl hR
  have uD : U8s D := fun x hx => ub x (by rw [← hDp] at hx; exact List.mem_of_mem_drop hx)
  have HR := hid hR
  have HO : Hid (∀ v s e, gL D 0 0 = (v, s, e) → getN b a = v ∧ getE b a = e ∧ getA b a = if e = 0 then a + s else 0) := fun v s e h => get_out (by omega) (by rw [hD]; exact h)
  have hDs : D.length = 0 ∨ a + D.length ≤ 9223372036854775807 := by rw [← hDl]; omega
  clear hp hpl hDl hDp hD hA2 hR ra ub
  go_enter Try.func35, Try.ntmps35
  go_wp2_with fail
  clear hsl hm
  go_loop [7, 19] (fun m i => ∃ (k : Nat) (n : Int), k ≤ D.length ∧ k ≤ 9 ∧ i = .int .i64 k ∧ m = .int .u64 n ∧ 0 ≤ n ∧ n < 2 ^ (7 * k) ∧ gL D 0 0 = gL (D.drop k) k n) (fun _ i => D.length - (intOf i).toNat)
  case atStart => exact ⟨0, 0, by omega, by omega, rfl, rfl, by omega, by decide, by rw [List.drop_zero]⟩
  case round =>
    obtain ⟨k, n, hk, hk9, rfl, rfl, hn0, hn, hs⟩ := hrel
    have HS := hid hs
    clear hs
    by_cases hlt : k < D.length
    · obtain ⟨b1, o1, x, rfl, l1, ex, c1⟩ := HR.out.at_ hlt
      have hx := uD x (List.mem_of_getElem? ex)
      have EX := hid ex
      clear ex
      by_cases h9 : k = 9 ∧ 1 < x
      · have t1 : ((k : Int) == 9) = true := by simp; omega
        have hx1 : 1 < x := h9.2
        have H9 := hid h9.1
        clear h9
        go_wp2_with fail
        go_ret3
        obtain ⟨e1, e2, e3⟩ := HO.out 0 0 6 (by
          rw [HS.out]
          have e := H9.out
          subst e
          exact gl_nine EX.out hx1)
        rw [e1, e2, e3]
        exact ⟨rfl, rfl⟩
      · have hx9 : k = 9 → x ≤ 1 := by omega
        have e0 := or_part hx hk9 hx9 hn0 hn
        obtain ⟨N, hN⟩ : ∃ N, n + x % 128 * 2 ^ (7 * k) = N := ⟨_, rfl⟩
        have hb2 := part_lt (x := x) hn0 hn
        rw [hN] at e0 hb2
        have HN := hid hN
        have HB2 := hid hb2
        have H9 := hid hx9
        clear hN hb2 hx9
        obtain ⟨t, ht⟩ : ∃ t, ((k : Int) == 9) = t := ⟨_, rfl⟩
        have t1 : t = true → x ≤ 1 := fun e => H9.out (by rw [e] at ht; simp at ht; omega)
        by_cases h128 : 128 ≤ x
        · have hk8 : k ≤ 8 := by have := H9.out; omega
          have t0 : t = false := by
            cases t
            · rfl
            · have := t1 rfl; omega
          subst t0
          clear t1 h9
          go_wp2_with fail
          go_round
          case rel => exact ⟨k + 1, N, by omega, by omega, by go_num, rfl, HB2.out.1, HB2.out.2, by rw [HS.out, gl_next EX.out h128 hk8, HN.out]⟩
          case measure => simp [intOf]; omega
        · have hlt128 : x < 128 := by omega
          have hDa : a + (k : Int) + 1 ≤ 9223372036854775807 := by omega
          clear h9 h128
          by_cases hz : x = 0 ∧ 0 < k
          · have hk0 : 0 < k := hz.2
            obtain rfl := hz.1
            have OUT := hid (HO.out 0 0 6 (by rw [HS.out]; exact gl_zero EX.out hk0))
            clear hz t1 hDs
            cases t <;>
            · go_wp2_with fail
              go_ret3
              obtain ⟨e1, e2, e3⟩ := OUT.out
              rw [e1, e2, e3]
              exact ⟨rfl, rfl⟩
          · have OUT := hid (HO.out N ((k + 1 : Nat) : Int) 0 (by rw [HS.out, ← HN.out]; exact gl_last EX.out hlt128 H9.out (by omega)))
            by_cases hx0 : x = 0
            · have hkz : ¬ 0 < k := by omega
              have hxe : (x == 0) = true := by simpa using hx0
              have t0 : t = false := by rw [← ht]; simp; omega
              subst t0
              clear hz t1 hDs ht hx0
              go_wp2_with fail
              go_ret3
              obtain ⟨e1, e2, e3⟩ := OUT.out
              rw [e1, e2, e3]
              refine ⟨ret3 rfl ?_ rfl, rfl⟩
              simp; omega
            · have hx0' : (x == 0) = false := by simpa using hx0
              have hx1 : t = true → x ≤ 1 := t1
              clear hz t1 hDs hx0
              cases t
              · clear hx1
                go_wp2_with fail
                go_ret3
                obtain ⟨e1, e2, e3⟩ := OUT.out
                rw [e1, e2, e3]
                refine ⟨ret3 rfl ?_ rfl, rfl⟩
                simp; omega
              · have hx1 := hx1 rfl
                go_wp2_with fail
                go_ret3
                obtain ⟨e1, e2, e3⟩ := OUT.out
                rw [e1, e2, e3]
                refine ⟨ret3 rfl ?_ rfl, rfl⟩
                simp; omega
    · have OUT := hid (HO.out 0 0 5 (by rw [HS.out]; exact gl_end (by omega)))
      obtain rfl : k = D.length := by omega
      go_wp2_with fail
      go_ret3
      obtain ⟨e1, e2, e3⟩ := OUT.out
      rw [e1, e2, e3]
      exact ⟨rfl, rfl⟩
theorem ref_Get {A : Option Addr} {c : Nat} (b : List Int) (hb : b.length ≤ c) (hc : c ≤ 9223372036854775807) (ub : U8s b) (a : Int) (ha : I64 a) (w : World) {B : Nat} (ra : Rd (Value.int .u8) w B A b) :
    Calls Try.prog 37 #[.slice A b.length c, .int .i64 a] w fun e w' => e = .returned (.tuple #[.int .u64 (getN b a), .int .i64 (getA b a), .int .i64 (getE b a)]) ∧ w = w' := by
  unfold I64 at ha
  by_cases h1 : a < 0
  · obtain ⟨e1, e2, e3⟩ := get_arg (b := b) h1
    rw [e1, e2, e3]
    clear e1 e2 e3 ra ub
    go_enter Try.func37, Try.ntmps37
    go_wp2_with fail
    go_ret3
    exact ⟨rfl, rfl⟩
  by_cases h2 : (b.length : Int) ≤ a
  · obtain ⟨e1, e2, e3⟩ := get_short h2
    rw [e1, e2, e3]
    clear e1 e2 e3 ra ub
    go_enter Try.func37, Try.ntmps37
    go_wp2_with fail
    go_loop [7, 12] (fun m i => i = .int .i64 0 ∧ m = .int .u64 0) (fun _ i => 10 - (intOf i).toNat)
    case atStart => exact ⟨rfl, rfl⟩
    case round =>
      obtain ⟨rfl, rfl⟩ := hrel
      go_wp2_with fail
      go_ret3
      exact ⟨rfl, rfl⟩
  obtain ⟨D, hD⟩ : ∃ D, b.drop a.toNat = D := ⟨_, rfl⟩
  have hDl : (D.length : Int) = (b.length : Int) - a := by rw [← hD, List.length_drop]; omega
  have uD : U8s D := fun x hx => ub x (by rw [← hD] at hx; exact List.mem_of_mem_drop hx)
  have HR : Hid (∀ (k : Nat) (x : Int), D[k]? = some x → ∃ b1 o1, A = some ⟨b1, o1, none⟩ ∧ w.cell? ⟨b1, o1 + (a + (k : Int)).toNat, none⟩ = some (.int .u8 x)) := fun k x hx => by
    rw [← hD, List.getElem?_drop] at hx
    obtain ⟨b1, o1, e, _, hc⟩ := ra _ x hx
    exact ⟨b1, o1, e, by rw [show (a + (k : Int)).toNat = a.toNat + k by omega]; exact hc⟩
  have HO : Hid (∀ v s e, gL D 0 0 = (v, s, e) → getN b a = v ∧ getE b a = e ∧ getA b a = if e = 0 then a + s else 0) := fun v s e h => get_out (by omega) (by rw [hD]; exact h)
  have HL := hid hDl
  clear hD hDl ra ub
  go_enter Try.func37, Try.ntmps37
  go_wp2_with fail
  go_loop [7, 12] (fun m i => ∃ (k : Nat) (n : Int), k ≤ D.length ∧ k ≤ 9 ∧ i = .int .i64 k ∧ m = .int .u64 n ∧ 0 ≤ n ∧ n < 2 ^ (7 * k) ∧ gL D 0 0 = gL (D.drop k) k n) (fun _ i => 10 - (intOf i).toNat)
  case atStart => exact ⟨0, 0, by omega, by omega, rfl, rfl, by omega, by decide, by rw [List.drop_zero]⟩
  case round =>
    obtain ⟨k, n, hk, hk9, rfl, rfl, hn0, hn, hs⟩ := hrel
    have HS := hid hs
    clear hs
    by_cases hlt : k < D.length
    · obtain ⟨x, ex⟩ : ∃ x, D[k]? = some x := ⟨_, List.getElem?_eq_getElem hlt⟩
      obtain ⟨b1, o1, rfl, c1⟩ := HR.out k x ex
      have hx := uD x (List.mem_of_getElem? ex)
      have hki : (k : Int) < (b.length : Int) - a := by have := HL.out; omega
      have EX := hid ex
      clear ex
      by_cases h9 : k = 9 ∧ 1 < x
      · have t1 : ((k : Int) == 9) = true := by simp; omega
        have hx1 : 1 < x := h9.2
        have H9 := hid h9.1
        clear h9
        go_wp2_with fail
        go_ret3
        obtain ⟨e1, e2, e3⟩ := HO.out 0 0 6 (by
          rw [HS.out]
          have e := H9.out
          subst e
          exact gl_nine EX.out hx1)
        rw [e1, e2, e3]
        exact ⟨rfl, rfl⟩
      · have hx9 : k = 9 → x ≤ 1 := by omega
        have e0 := or_part hx hk9 hx9 hn0 hn
        obtain ⟨N, hN⟩ : ∃ N, n + x % 128 * 2 ^ (7 * k) = N := ⟨_, rfl⟩
        have hb2 := part_lt (x := x) hn0 hn
        rw [hN] at e0 hb2
        have HN := hid hN
        have HB2 := hid hb2
        have H9 := hid hx9
        clear hN hb2 hx9
        obtain ⟨t, ht⟩ : ∃ t, ((k : Int) == 9) = t := ⟨_, rfl⟩
        have t1 : t = true → x ≤ 1 := fun e => H9.out (by rw [e] at ht; simp at ht; omega)
        by_cases h128 : 128 ≤ x
        · have hk8 : k ≤ 8 := by have := H9.out; omega
          have t0 : t = false := by
            cases t
            · rfl
            · have := t1 rfl; omega
          subst t0
          clear t1 h9
          go_wp2_with fail
          go_round
          case rel => exact ⟨k + 1, N, by omega, by omega, by go_num, rfl, HB2.out.1, HB2.out.2, by rw [HS.out, gl_next EX.out h128 hk8, HN.out]⟩
          case measure => simp [intOf]; omega
        · have hlt128 : x < 128 := by omega
          have hDa : a + (k : Int) + 1 ≤ 9223372036854775807 := by omega
          clear h9 h128
          by_cases hz : x = 0 ∧ 0 < k
          · have hk0 : 0 < k := hz.2
            have hxe : (x == 0) = true := by simpa using hz.1
            have OUT := hid (HO.out 0 0 6 (by rw [HS.out]; exact gl_zero (hz.1 ▸ EX.out) hk0))
            have hx1 : x ≤ 1 := by omega
            clear hz t1
            cases t <;>
            · go_wp2_with fail
              go_ret3
              obtain ⟨e1, e2, e3⟩ := OUT.out
              rw [e1, e2, e3]
              exact ⟨rfl, rfl⟩
          · have OUT := hid (HO.out N ((k + 1 : Nat) : Int) 0 (by rw [HS.out, ← HN.out]; exact gl_last EX.out hlt128 H9.out (by omega)))
            by_cases hx0 : x = 0
            · have hkz : ¬ 0 < k := by omega
              have hxe : (x == 0) = true := by simpa using hx0
              have t0 : t = false := by rw [← ht]; simp; omega
              subst t0
              clear hz t1 ht hx0
              go_wp2_with fail
              go_ret3
              obtain ⟨e1, e2, e3⟩ := OUT.out
              rw [e1, e2, e3]
              refine ⟨ret3 rfl ?_ rfl, rfl⟩
              simp; omega
            · have hx0' : (x == 0) = false := by simpa using hx0
              have hx1 : t = true → x ≤ 1 := t1
              clear hz t1 hx0
              by_cases hk0 : 0 < k
              all_goals
                cases t
                · clear hx1
                  go_wp2_with fail
                  go_ret3
                  obtain ⟨e1, e2, e3⟩ := OUT.out
                  rw [e1, e2, e3]
                  refine ⟨ret3 rfl ?_ rfl, rfl⟩
                  simp; omega
                · have hx1 := hx1 rfl
                  go_wp2_with fail
                  go_ret3
                  obtain ⟨e1, e2, e3⟩ := OUT.out
                  rw [e1, e2, e3]
                  refine ⟨ret3 rfl ?_ rfl, rfl⟩
                  simp; omega
    · have OUT := hid (HO.out 0 0 5 (by rw [HS.out]; exact gl_end (by omega)))
      have hki : (b.length : Int) - a ≤ (k : Int) := by have := HL.out; omega
      go_wp2_with fail
      go_ret3
      obtain ⟨e1, e2, e3⟩ := OUT.out
      rw [e1, e2, e3]
      exact ⟨rfl, rfl⟩
end Go.Proofs.Ytgdkmgepconnpaa
