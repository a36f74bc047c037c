
/-
  TableWhole answers true for every input. No condition.
-/
import Derived.BigQuiet
import Derived.Test.YtnokomlekndgfaaTbLv
import Derived.Test.YtnokomlekndgfaaArg
import Derived.Test.YtnokomlekndgfaaLaw
namespace Go.Proofs.Ytnokomlekndgfaa.TableWhole
open Go.ChangeShapes Go.WideShapes Go.ChangeAt Go.RowKit
set_option maxHeartbeats 400000
set_option linter.unusedVariables false
open Go.Proofs.Ytnokomlekndgfaa
theorem who_getD {l : List Int} {k : Nat} {x : Int} (h : l[k]? = some x) : l.getD k 0 = x := by rw [List.getD_eq_getElem?_getD, h]; rfl
theorem who_lt {l : List Int} {k : Nat} {x : Int} (h : l[k]? = some x) : k < l.length := (List.getElem?_eq_some_iff.1 h).1
def WhoQ (z L : List Int) (T M b : Nat) : Prop :=
  (∀ (k : Nat) (p : Int), L[k]? = some p → 0 ≤ p ∧ p ≤ (T : Int)) ∧ (∀ (i j : Nat) (x y p q : Int), z[i]? = some x → z[j]? = some y → L[i]? = some p → L[j]? = some q → y ≤ x → q ≤ p) ∧
  (∀ (k : Nat) (x top : Int), z[k]? = some x → z[b]? = some top → x ≤ top ∧ (x = top → b ≤ k)) ∧ L.sum ≤ (T : Int) ∧ (T : Int) - L.sum < (M : Int) ∧ ∀ q : Int, L[b]? = some q → ((T / M : Nat) : Int) ≤ q
theorem who_facts {frac : Int} {z : List Int} (h : sofE frac z = 0) :
    ∃ (K T M b : Nat) (L : List Int), frac = (K : Int) ∧ K ≤ 30 ∧ 2 ^ K = T ∧ T ≤ 1073741824 ∧ z.length = M ∧ 1 ≤ M ∧ M ≤ 4096 ∧ bstN z = b ∧ bstE z = 0 ∧ b < M ∧ sofV frac z = L ∧ L.length = M ∧ WhoQ z L T M b := by
  obtain ⟨⟨hz, hl⟩, f0, f1, hd⟩ := sofE_ok.1 h
  obtain ⟨a1, a2, a3, a4, a5, a6⟩ := sof_whole h
  obtain ⟨K, rfl⟩ : ∃ K : Nat, frac = (K : Int) := ⟨frac.toNat, by omega⟩
  have hB : bstE z = 0 := bstE_ok.2 ⟨hz, hl⟩
  have hK : K ≤ 30 := by omega
  have hpos : 0 < z.length := List.length_pos_iff.2 hz
  have hT : 2 ^ K ≤ 1073741824 := Nat.pow_le_pow_right (n := 2) (by decide) hK
  have hc : ((2 : Int) ^ K) = ((2 ^ K : Nat) : Int) := by simp
  rw [show (K : Int).toNat = K from rfl, hc] at a1 a2 a3
  rw [show (K : Int).toNat = K from rfl] at a6
  have hb := bst_in hz
  have hbN : bstN z = bstGo z z.length := if_pos hB
  refine ⟨K, 2 ^ K, z.length, bstGo z z.length, sofL (K : Int) z, rfl, hK, rfl, hT, rfl, hpos, hl, hbN, hB, hb, if_pos h, sofL_len _ _, ?_, ?_, ?_, a1, a2, ?_⟩
  · intro k p hp
    exact a3 p (List.mem_of_getElem? hp)
  · intro i j x y p q hx hy hp hq hxy
    have := a5 i j (who_lt hx) (who_lt hy) (by rw [who_getD hx, who_getD hy]; exact hxy)
    rw [who_getD hp, who_getD hq] at this
    exact this
  · intro k x top hx ht
    have := bstGo_ok (z := z) z.length k (who_lt hx)
    rw [who_getD hx, who_getD ht] at this
    exact this
  · intro q hq
    rw [who_getD hq] at a6
    exact a6
theorem who_sum {L : List Int} {T M : Nat} (h : ∀ (k : Nat) (p : Int), L[k]? = some p → 0 ≤ p ∧ p ≤ (T : Int)) (hT : T ≤ 1073741824) : ∀ k, 0 ≤ (L.take k).sum ∧ (L.take k).sum ≤ k * 1073741824
  | 0 => by simp
  | k + 1 => by
    obtain ⟨a, b⟩ := who_sum (M := M) h hT k
    rw [List.take_add_one]
    cases hx : L[k]? with
    | none => simp only [Option.toList, List.append_nil]; constructor <;> omega
    | some p =>
      have := h k p hx
      simp only [Option.toList]
      rw [sum_app]
      constructor <;> omega
theorem who_next {L : List Int} {T M k : Nat} {p : Int} (h : ∀ (k : Nat) (p : Int), L[k]? = some p → 0 ≤ p ∧ p ≤ (T : Int)) (hT : T ≤ 1073741824) (hp : L[k]? = some p) (hk : k < 4096) :
    ∃ S2, (L.take (k + 1)).sum = S2 ∧ IntKind.i64.wrap ((L.take k).sum + p) = S2 ∧ wrap64 ((L.take k).sum + p) = S2 := by
  have e : (L.take (k + 1)).sum = (L.take k).sum + p := by rw [List.take_add_one, hp]; exact sum_app _ _
  have b := who_sum (M := M) h hT (k + 1)
  rw [e] at b
  have hb : -9223372036854775808 ≤ (L.take k).sum + p ∧ (L.take k).sum + p ≤ 9223372036854775807 := by
    clear e hp h
    omega
  exact ⟨_, rfl, by rw [e]; exact Go.IntWalk.i64_in _ hb, by rw [e]; exact Go.IntWalk.wrap64_in _ hb⟩
theorem who_pow {K T : Nat} (hk : K ≤ 30) (hT : 2 ^ K = T) : IntKind.i64.wrap ((2 : Int) ^ K) = (T : Int) ∧ wrap64 ((2 : Int) ^ (min K 64)) = (T : Int) ∧ IntKind.i64.wrap ((2 : Int) ^ (min K 64)) = (T : Int) := by
  have e : (2 : Int) ^ K = (T : Int) := by rw [← hT]; simp
  have h : T ≤ 1073741824 := by rw [← hT]; exact Nat.pow_le_pow_right (n := 2) (by decide) hk
  have hm : min K 64 = K := Nat.min_eq_left (by omega)
  rw [hm, e]
  have hb : -9223372036854775808 ≤ (T : Int) ∧ (T : Int) ≤ 9223372036854775807 := by clear e hT hm; omega
  exact ⟨Go.IntWalk.i64_in _ hb, Go.IntWalk.wrap64_in _ hb, Go.IntWalk.i64_in _ hb⟩
theorem who_end {S q : Int} {T M : Nat} (hT : T ≤ 1073741824) (h0 : 0 ≤ S) (h1 : S ≤ (T : Int)) (h2 : (T : Int) - S < (M : Int)) (hq : ((T / M : Nat) : Int) ≤ q) :
    ∃ D U : Int, IntKind.i64.wrap ((T : Int) - S) = D ∧ wrap64 ((T : Int) - S) = D ∧ D < (M : Int) ∧ (T : Int) / (M : Int) = U ∧ IntKind.i64.wrap U = U ∧ wrap64 U = U ∧ q ≥ U := by
  have hb : -9223372036854775808 ≤ (T : Int) - S ∧ (T : Int) - S ≤ 9223372036854775807 := by clear hq h2; omega
  obtain ⟨s, hs⟩ : ∃ s, T / M = s := ⟨_, rfl⟩
  have h : s ≤ 1073741824 := by rw [← hs]; exact Nat.le_trans (Nat.div_le_self _ _) hT
  rw [hs] at hq
  have e : (T : Int) / (M : Int) = (s : Int) := by rw [← hs]; rfl
  have hb2 : -9223372036854775808 ≤ (s : Int) ∧ (s : Int) ≤ 9223372036854775807 := by clear hs hq h2 hb e; omega
  exact ⟨_, (s : Int), Go.IntWalk.i64_in _ hb, Go.IntWalk.wrap64_in _ hb, h2, e, Go.IntWalk.i64_in _ hb2, Go.IntWalk.wrap64_in _ hb2, hq⟩
theorem who_step {j M : Nat} (h : j < M) (hM : M ≤ 4096) : IntKind.i64.wrap ((j : Int) + 1) = ((j + 1 : Nat) : Int) ∧ wrap64 ((j : Int) + 1) = ((j + 1 : Nat) : Int) := ⟨Go.IntWalk.i64_in _ (by omega), Go.IntWalk.wrap64_in _ (by omega)⟩
set_option maxHeartbeats 4000000 in
set_option maxRecDepth 100000 in
theorem walk (frac : Int) (Az : Option Addr) (z : List Int) (cz : Nat) (w : World) (hf : I64 frac) (rz : Rd (Value.int .i64) w w.heap.size Az z) (iz : I64s z) (lz : z.length ≤ cz) (mz : cz ≤ 9223372036854775807) :
    Calls Try.prog 7 #[.int .i64 frac, .slice Az z.length cz] w fun e w' => e = .returned (.bool true) ∧ Below w.heap.size w w' := by
  have hl : z.length ≤ 9223372036854775807 := by omega
  have HN := hid rz
  have CF := hid (fun W => tb_few (A := Az) (c := cz) z hl W)
  cases hfew : fewB z with
  | false =>
    rw [hfew] at CF
    clear hfew rz iz lz mz
    go_enter Try.func7, Try.ntmps7
    go_wp2_with fail
    refine (tb_live _).mono ?_
    rintro _ w1 ⟨rfl, k1⟩
    go_wp2_with fail
    refine (CF.out w1).mono ?_
    rintro _ _ ⟨rfl, rfl⟩
    go_wp2_with fail
    go_ret
    exact ⟨rfl, k1⟩
  | true =>
    rw [hfew] at CF
    have C1 := hid (fun W (h : Rd (Value.int .i64) W W.heap.size Az z) => tb_Soft (c := cz) frac z hl iz W h)
    have C3 := hid (fun W (h : Rd (Value.int .i64) W W.heap.size Az z) => tb_Best (c := cz) z hl W h)
    clear hfew rz iz lz mz
    by_cases hE : sofE frac z = 0
    · obtain ⟨K, T, M, b, L, rfl, hK, hT, hTb, hM, hM1, hM2, hb, hB, hbM, hV, hL, hQ⟩ := who_facts hE
      rw [hE, hV] at C1
      rw [hb, hB] at C3
      rw [hM] at C1 C3 CF ⊢
      have PW := hid (who_pow hK hT)
      have HM := hid hM
      have HM2 := hid hM2
      have HTb := hid hTb
      have HbM := hid hbM
      have HL := hid hL
      have HQ := hid hQ
      have hbn : b < M := hbM
      have hbn' : ¬ M ≤ b := Nat.not_le.2 hbM
      have hb0 : decide ((b : Int) < 0) = false := by simp
      have hbge : ¬ (b : Int) < 0 := Int.not_lt.2 (Int.natCast_nonneg _)
      have hblt : ¬ (b : Int) ≥ (M : Int) := Int.not_le.2 (Int.ofNat_lt.2 hbM)
      have hMM : ((M : Int) != (M : Int)) = false := by simp
      clear hE hK hT hTb hM hM1 hM2 hb hB hbM hV hL hQ hf hl
      go_enter Try.func7, Try.ntmps7
      go_wp2_with fail
      refine (tb_live _).mono ?_
      rintro _ w1 ⟨rfl, k1⟩
      have K1 := hid k1
      have RZ1 := hid (HN.out.on k1)
      clear k1
      go_wp2_with fail
      refine (CF.out w1).mono ?_
      rintro _ _ ⟨rfl, rfl⟩
      clear CF
      go_wp2_with fail
      refine (C1.out _ RZ1.out).mono ?_
      rintro _ w2 ⟨A2, c2, rfl, ho2, hb2⟩
      have K2 : Hid (Below w.heap.size w w2) := hid (K1.out.trans (hb2.mono K1.out.size))
      have R2 : Hid (Rd (Value.int .i64) w2 w2.heap.size A2 L) := hid (own_rd ho2)
      have RZ2 := hid (RZ1.out.on hb2)
      rw [HL.out]
      clear hb2 ho2 K1 RZ1
      go_wp2_with fail
      refine (C3.out _ RZ2.out).mono ?_
      rintro _ w3 ⟨rfl, hb3⟩
      have K3 : Hid (Below w.heap.size w w3) := hid (K2.out.trans (hb3.mono K2.out.size))
      have RL : Hid (Rd (Value.int .i64) w3 w3.heap.size A2 L) := hid (R2.out.on hb3)
      have RZ : Hid (Rd (Value.int .i64) w3 w3.heap.size Az z) := hid (RZ2.out.on hb3)
      clear hb3 K2 R2 RZ2 C1 C3
      go_wp2_with fail
      go_loopw [10, 11, 12, 13, 62] (fun xs _ _ _ xi wr => ∃ k : Nat, k ≤ M ∧ xi = .int .i64 (k : Int) ∧ xs = .int .i64 (L.take k).sum ∧ Below w3.heap.size w3 wr) (fun _ _ _ _ xi _ => M - (intOf xi).toNat)
      case atStart => exact ⟨0, Nat.zero_le _, rfl, rfl, Below.refl _ _⟩
      case round =>
        obtain ⟨k, hk, rfl, rfl, hbel⟩ := hrel
        have HBL := hid hbel
        obtain ⟨b2, o2, top, rfl, _, em, d1⟩ := (RZ.out.on hbel).at_ (k := b) (by rw [HM.out]; exact HbM.out)
        obtain ⟨b4, o4, q, rfl, _, eq, d2⟩ := (RL.out.on hbel).at_ (k := b) (by rw [HL.out]; exact HbM.out)
        have hbM' : (b : Int) < (M : Int) := Int.ofNat_lt.2 HbM.out
        by_cases hlt : k < M
        · obtain ⟨b1, o1, x, e1', _, en, c1⟩ := (RZ.out.on hbel).at_ (k := k) (by rw [HM.out]; exact hlt)
          obtain ⟨b3, o3, p, e3', _, ep, c2'⟩ := (RL.out.on hbel).at_ (k := k) (by rw [HL.out]; exact hlt)
          cases e1'
          cases e3'
          have HX := hid en
          have HP := hid ep
          obtain ⟨S2, hS2, t1, t2⟩ := who_next (M := M) HQ.out.1 HTb.out ep (Nat.lt_of_lt_of_le hlt HM2.out)
          have HS2 := hid hS2
          obtain ⟨S, hS⟩ : ∃ S, (L.take k).sum = S := ⟨_, rfl⟩
          rw [hS] at t1 t2 ⊢
          have f1 : ¬ p < 0 := Int.not_lt.2 (HQ.out.1 k p ep).1
          have f2 : ¬ x > top := Int.not_lt.2 (HQ.out.2.2.1 k x top en em).1
          have f3 : ¬ p > q := Int.not_lt.2 (HQ.out.2.1 b k top x q p em en eq ep (HQ.out.2.2.1 k x top en em).1)
          have heq := (HQ.out.2.2.1 k x top en em).2
          have hkM0 : (k : Int) < (M : Int) := Int.ofNat_lt.2 hlt
          clear hS hS2 en ep em eq hbel
          by_cases hxt : x = top
          · have f4 : ¬ (k : Int) < (b : Int) := Int.not_lt.2 (Int.ofNat_le.2 (heq hxt))
            have t0 : (x == top) = true := by rw [hxt]; simp
            clear heq hxt
            go_wp2_with fail
            go_quiet (fail)
            go_wp2_with fail
            go_loopw [13, 108] (fun _ xj wr => ∃ j : Nat, j ≤ k ∧ xj = .int .i64 (j : Int) ∧ Below w3.heap.size w3 wr) (fun _ xj _ => k - (intOf xj).toNat)
            case atStart => exact ⟨0, Nat.zero_le _, rfl, HBL.out.trans (belowN _ _ _)⟩
            case round =>
              obtain ⟨j, hj, rfl, hbj⟩ := hrel
              have HBJ := hid hbj
              clear hbj c1 c2' d1 d2 f1 f2
              by_cases hlj : j < k
              · obtain ⟨b1', o1', x', e1', _, en, c1⟩ := (RZ.out.on HBJ.out).at_ (k := k) (by rw [HM.out]; exact hlt)
                obtain ⟨b2', o2', y, e2', _, em, c2'⟩ := (RZ.out.on HBJ.out).at_ (k := j) (by rw [HM.out]; exact Nat.lt_trans hlj hlt)
                obtain ⟨b3', o3', q', e3', _, eq, d1⟩ := (RL.out.on HBJ.out).at_ (k := j) (by rw [HL.out]; exact Nat.lt_trans hlj hlt)
                cases e1'
                cases e2'
                cases e3'
                obtain rfl : x = x' := Option.some.inj (HX.out.symm.trans en)
                have hm1 := HQ.out.2.1 k j x y p q' HX.out em HP.out eq
                have hm2 := HQ.out.2.1 j k y x q' p em HX.out eq HP.out
                obtain ⟨u1, u2⟩ := who_step (Nat.lt_trans hlj hlt) HM2.out
                have hjM : (j : Int) < (M : Int) := Int.ofNat_lt.2 (Nat.lt_trans hlj hlt)
                have hkM : (k : Int) < (M : Int) := Int.ofNat_lt.2 hlt
                have hjk : (j : Int) < (k : Int) := Int.ofNat_lt.2 hlj
                clear en em eq
                rcases Int.lt_trichotomy y x with hxy | hxy | hxy
                · have g1 : x ≥ y := Int.le_of_lt hxy
                  have g2 : ¬ x ≤ y := Int.not_le.2 hxy
                  have g3 : ¬ p < q' := Int.not_lt.2 (hm1 g1)
                  have hp1 : ∀ t, binOp .geq t (.int .i64 x) (.int .i64 y) = pure (.bool true) := fun t => by rw [binOp_geq, decide_eq_true g1]
                  have hp2 : ∀ t, binOp .lss t (.int .i64 p) (.int .i64 q') = pure (.bool false) := fun t => by rw [binOp_lss, decide_eq_false g3]
                  have hp3 : ∀ t, binOp .leq t (.int .i64 x) (.int .i64 y) = pure (.bool false) := fun t => by rw [binOp_leq, decide_eq_false g2]
                  clear hm1 hm2 hxy g1 g2 g3
                  as_aux_lemma =>
                    go_wp2_with fail
                    go_quiet (fail)
                    go_wp2_with fail
                    go_roundw
                    case rel => exact ⟨j + 1, hlj, rfl, HBJ.out.trans (belowN _ _ _)⟩
                    case measure => (try clear u1 u2); (try clear t1 t2); simp [intOf]; omega
                · subst hxy
                  have g1 : y ≥ y := Int.le_refl _
                  have g2 : y ≤ y := Int.le_refl _
                  have g3 : ¬ p < q' := Int.not_lt.2 (hm1 g1)
                  have g4 : ¬ p > q' := Int.not_lt.2 (hm2 g1)
                  have hp1 : ∀ t, binOp .geq t (.int .i64 y) (.int .i64 y) = pure (.bool true) := fun t => by rw [binOp_geq, decide_eq_true g1]
                  have hp2 : ∀ t, binOp .lss t (.int .i64 p) (.int .i64 q') = pure (.bool false) := fun t => by rw [binOp_lss, decide_eq_false g3]
                  have hp3 : ∀ t, binOp .leq t (.int .i64 y) (.int .i64 y) = pure (.bool true) := fun t => by rw [binOp_leq, decide_eq_true g2]
                  have hp4 : ∀ t, binOp .gtr t (.int .i64 p) (.int .i64 q') = pure (.bool false) := fun t => by rw [binOp_gtr, decide_eq_false g4]
                  clear hm1 hm2 g1 g2 g3 g4
                  as_aux_lemma =>
                    go_wp2_with fail
                    go_quiet (fail)
                    go_wp2_with fail
                    go_roundw
                    case rel => exact ⟨j + 1, hlj, rfl, HBJ.out.trans (belowN _ _ _)⟩
                    case measure => (try clear u1 u2); (try clear t1 t2); simp [intOf]; omega
                · have g1 : ¬ x ≥ y := Int.not_le.2 hxy
                  have g2 : x ≤ y := Int.le_of_lt hxy
                  have g4 : ¬ p > q' := Int.not_lt.2 (hm2 g2)
                  have hp1 : ∀ t, binOp .geq t (.int .i64 x) (.int .i64 y) = pure (.bool false) := fun t => by rw [binOp_geq, decide_eq_false g1]
                  have hp3 : ∀ t, binOp .leq t (.int .i64 x) (.int .i64 y) = pure (.bool true) := fun t => by rw [binOp_leq, decide_eq_true g2]
                  have hp4 : ∀ t, binOp .gtr t (.int .i64 p) (.int .i64 q') = pure (.bool false) := fun t => by rw [binOp_gtr, decide_eq_false g4]
                  clear hm1 hm2 hxy g1 g2 g4
                  as_aux_lemma =>
                    go_wp2_with fail
                    go_quiet (fail)
                    go_wp2_with fail
                    go_roundw
                    case rel => exact ⟨j + 1, hlj, rfl, HBJ.out.trans (belowN _ _ _)⟩
                    case measure => (try clear u1 u2); (try clear t1 t2); simp [intOf]; omega
              · obtain rfl : j = k := Nat.le_antisymm hj (Nat.not_lt.1 hlj)
                obtain ⟨u1, u2⟩ := who_step hlt HM2.out
                go_wp2_with fail
                go_roundw
                case rel => exact ⟨j + 1, hlt, rfl, by rw [HS2.out], HBJ.out⟩
                case measure => (try clear u1 u2); (try clear t1 t2); simp [intOf]; omega
          · have t0 : (x == top) = false := beq_eq_false_iff_ne.2 hxt
            clear heq hxt
            go_wp2_with fail
            go_quiet (fail)
            go_wp2_with fail
            go_loopw [13, 108] (fun _ xj wr => ∃ j : Nat, j ≤ k ∧ xj = .int .i64 (j : Int) ∧ Below w3.heap.size w3 wr) (fun _ xj _ => k - (intOf xj).toNat)
            case atStart => exact ⟨0, Nat.zero_le _, rfl, HBL.out.trans (belowN _ _ _)⟩
            case round =>
              obtain ⟨j, hj, rfl, hbj⟩ := hrel
              have HBJ := hid hbj
              clear hbj c1 c2' d1 d2 f1 f2
              by_cases hlj : j < k
              · obtain ⟨b1', o1', x', e1', _, en, c1⟩ := (RZ.out.on HBJ.out).at_ (k := k) (by rw [HM.out]; exact hlt)
                obtain ⟨b2', o2', y, e2', _, em, c2'⟩ := (RZ.out.on HBJ.out).at_ (k := j) (by rw [HM.out]; exact Nat.lt_trans hlj hlt)
                obtain ⟨b3', o3', q', e3', _, eq, d1⟩ := (RL.out.on HBJ.out).at_ (k := j) (by rw [HL.out]; exact Nat.lt_trans hlj hlt)
                cases e1'
                cases e2'
                cases e3'
                obtain rfl : x = x' := Option.some.inj (HX.out.symm.trans en)
                have hm1 := HQ.out.2.1 k j x y p q' HX.out em HP.out eq
                have hm2 := HQ.out.2.1 j k y x q' p em HX.out eq HP.out
                obtain ⟨u1, u2⟩ := who_step (Nat.lt_trans hlj hlt) HM2.out
                have hjM : (j : Int) < (M : Int) := Int.ofNat_lt.2 (Nat.lt_trans hlj hlt)
                have hkM : (k : Int) < (M : Int) := Int.ofNat_lt.2 hlt
                have hjk : (j : Int) < (k : Int) := Int.ofNat_lt.2 hlj
                clear en em eq
                rcases Int.lt_trichotomy y x with hxy | hxy | hxy
                · have g1 : x ≥ y := Int.le_of_lt hxy
                  have g2 : ¬ x ≤ y := Int.not_le.2 hxy
                  have g3 : ¬ p < q' := Int.not_lt.2 (hm1 g1)
                  have hp1 : ∀ t, binOp .geq t (.int .i64 x) (.int .i64 y) = pure (.bool true) := fun t => by rw [binOp_geq, decide_eq_true g1]
                  have hp2 : ∀ t, binOp .lss t (.int .i64 p) (.int .i64 q') = pure (.bool false) := fun t => by rw [binOp_lss, decide_eq_false g3]
                  have hp3 : ∀ t, binOp .leq t (.int .i64 x) (.int .i64 y) = pure (.bool false) := fun t => by rw [binOp_leq, decide_eq_false g2]
                  clear hm1 hm2 hxy g1 g2 g3
                  as_aux_lemma =>
                    go_wp2_with fail
                    go_quiet (fail)
                    go_wp2_with fail
                    go_roundw
                    case rel => exact ⟨j + 1, hlj, rfl, HBJ.out.trans (belowN _ _ _)⟩
                    case measure => (try clear u1 u2); (try clear t1 t2); simp [intOf]; omega
                · subst hxy
                  have g1 : y ≥ y := Int.le_refl _
                  have g2 : y ≤ y := Int.le_refl _
                  have g3 : ¬ p < q' := Int.not_lt.2 (hm1 g1)
                  have g4 : ¬ p > q' := Int.not_lt.2 (hm2 g1)
                  have hp1 : ∀ t, binOp .geq t (.int .i64 y) (.int .i64 y) = pure (.bool true) := fun t => by rw [binOp_geq, decide_eq_true g1]
                  have hp2 : ∀ t, binOp .lss t (.int .i64 p) (.int .i64 q') = pure (.bool false) := fun t => by rw [binOp_lss, decide_eq_false g3]
                  have hp3 : ∀ t, binOp .leq t (.int .i64 y) (.int .i64 y) = pure (.bool true) := fun t => by rw [binOp_leq, decide_eq_true g2]
                  have hp4 : ∀ t, binOp .gtr t (.int .i64 p) (.int .i64 q') = pure (.bool false) := fun t => by rw [binOp_gtr, decide_eq_false g4]
                  clear hm1 hm2 g1 g2 g3 g4
                  as_aux_lemma =>
                    go_wp2_with fail
                    go_quiet (fail)
                    go_wp2_with fail
                    go_roundw
                    case rel => exact ⟨j + 1, hlj, rfl, HBJ.out.trans (belowN _ _ _)⟩
                    case measure => (try clear u1 u2); (try clear t1 t2); simp [intOf]; omega
                · have g1 : ¬ x ≥ y := Int.not_le.2 hxy
                  have g2 : x ≤ y := Int.le_of_lt hxy
                  have g4 : ¬ p > q' := Int.not_lt.2 (hm2 g2)
                  have hp1 : ∀ t, binOp .geq t (.int .i64 x) (.int .i64 y) = pure (.bool false) := fun t => by rw [binOp_geq, decide_eq_false g1]
                  have hp3 : ∀ t, binOp .leq t (.int .i64 x) (.int .i64 y) = pure (.bool true) := fun t => by rw [binOp_leq, decide_eq_true g2]
                  have hp4 : ∀ t, binOp .gtr t (.int .i64 p) (.int .i64 q') = pure (.bool false) := fun t => by rw [binOp_gtr, decide_eq_false g4]
                  clear hm1 hm2 hxy g1 g2 g4
                  as_aux_lemma =>
                    go_wp2_with fail
                    go_quiet (fail)
                    go_wp2_with fail
                    go_roundw
                    case rel => exact ⟨j + 1, hlj, rfl, HBJ.out.trans (belowN _ _ _)⟩
                    case measure => (try clear u1 u2); (try clear t1 t2); simp [intOf]; omega
              · obtain rfl : j = k := Nat.le_antisymm hj (Nat.not_lt.1 hlj)
                obtain ⟨u1, u2⟩ := who_step hlt HM2.out
                go_wp2_with fail
                go_roundw
                case rel => exact ⟨j + 1, hlt, rfl, by rw [HS2.out], HBJ.out⟩
                case measure => (try clear u1 u2); (try clear t1 t2); simp [intOf]; omega
        · obtain rfl : k = M := Nat.le_antisymm hk (Nat.not_lt.1 hlt)
          rw [List.take_of_length_le (by rw [HL.out]; exact Nat.le_refl _)]
          have s0 := (who_sum (M := k) HQ.out.1 HTb.out k).1
          rw [List.take_of_length_le (by rw [HL.out]; exact Nat.le_refl _)] at s0
          obtain ⟨D, U, v1, v2, v3, v4, v5, v6, v7⟩ := who_end HTb.out s0 HQ.out.2.2.2.1 HQ.out.2.2.2.2.1 (HQ.out.2.2.2.2.2 q eq)
          have v0 := HQ.out.2.2.2.1
          obtain ⟨S, hS⟩ : ∃ S, L.sum = S := ⟨_, rfl⟩
          rw [hS] at v0 v1 v2 ⊢
          obtain ⟨p1, p2, p3⟩ := PW.out
          have m0 : ((k : Int) == 0) = false := beq_eq_false_iff_ne.2 (fun e => absurd HbM.out (by rw [Int.ofNat_eq_zero.1 e]; exact Nat.not_lt_zero _))
          have m1 : ¬ (k : Int) = 0 := fun e => absurd HbM.out (by rw [Int.ofNat_eq_zero.1 e]; exact Nat.not_lt_zero _)
          have kge : ¬ (K : Int) < 0 := Int.not_lt.2 (Int.natCast_nonneg _)
          have HBW : Hid (Below w.heap.size w wr) := hid (K3.out.trans (hbel.mono K3.out.size))
          clear hS s0 em eq hbel
          go_wp2_with fail
          go_quiet (fail)
          go_wp2_with fail
          go_ret
          exact ⟨rfl, HBW.out.trans (belowN _ _ _)⟩
    · obtain ⟨V, hV⟩ : ∃ V, sofV frac z = V := ⟨_, rfl⟩
      have hv0 : V = [] := by rw [← hV]; exact if_neg hE
      subst hv0
      rw [hV] at C1
      obtain ⟨E, hE2⟩ : ∃ E, sofE frac z = E := ⟨_, rfl⟩
      rw [hE2] at C1 hE
      have hne : (E != 0) = true := by simpa using hE
      clear hV hE hE2
      go_enter Try.func7, Try.ntmps7
      go_wp2_with fail
      refine (tb_live _).mono ?_
      rintro _ w1 ⟨rfl, k1⟩
      go_wp2_with fail
      refine (CF.out w1).mono ?_
      rintro _ _ ⟨rfl, rfl⟩
      go_wp2_with fail
      refine (C1.out _ (HN.out.on k1)).mono ?_
      rintro _ w2 ⟨A2, c2, rfl, ho2, hb2⟩
      have K2 : Hid (Below w.heap.size w w2) := hid (k1.trans (hb2.mono k1.size))
      clear ho2 hb2 k1
      go_wp2_with fail
      go_ret
      exact ⟨rfl, K2.out⟩
theorem law_types : ∀ t ∈ Try.f7.params.toList, Try.prog.readableRec t = true ∧ t < Try.prog.types.size := by
  have h : (Try.f7.params.toList.all fun t => Try.prog.readableRec t && decide (t < Try.prog.types.size)) = true := by kernel_rfl
  intro t ht
  simpa using List.all_eq_true.1 h t ht
set_option maxRecDepth 100000 in
theorem lifted (os : Os) (started : os.Started) (H : Type) (enc : TypeId × Value → H) :
    ReturnsInHanded {} Try.checked os 7 .any (Rows.tableWholeSpec.pre6 enc Try.prog Try.f7 Rows.tableWholeRow.domain false) (Rows.tableWholeSpec.post enc Try.prog Try.f7 false true false false) := by
  refine returnsInHanded_of_change (C := Try.checked) own started (by kernel_rfl) Try.func7
    (ChangeSpec.witness6 (enc := enc) (C := Try.checked) false ⟨#[], #[.int .i64 0, .slice none 0 0], []⟩ 8 (by kernel_rfl) (by kernel_rfl) (by kernel_rfl) (by kernel_rfl)) ?_
  intro W base args ds gs before hval0 hW hcnd _
  have hval : ∀ (j : Nat) t v, Try.f7.params[j]? = some t → args[j]? = some v → Value.okWide Try.prog W .any base t v := hval0
  have hW' := hW
  obtain ⟨p, q, hA0, hV, rfl, hfz, hnd⟩ := hW
  have hA : DataW.TrodAll enc Try.prog W 0 (fun _ => true) true Try.f7.params.toList args.toList ds p := hA0
  rw [Try.params7] at hA hval
  obtain ⟨v0, vs0, d0, ds0, p0, q0, hargs, rfl, rfl, h0, r0⟩ := trodAll_cons hA
  obtain ⟨v1, vs1, d1, ds1, p1, q1, rfl, rfl, rfl, h1, r1⟩ := trodAll_cons r0
  obtain ⟨rfl, rfl, rfl⟩ := trodAll_nil r1
  obtain rfl : args = #[v0, v1] := by cases args; simp_all
  obtain ⟨rfl, rfl⟩ := trodVars_none hV
  obtain ⟨frac, rfl, rfl, rfl, w0⟩ := open_int Try.underlying3 (hval 0 3 v0 rfl rfl) h0
  obtain ⟨Az, z, cz, rfl, rdz, iz, lcz, lmz⟩ := open_nums Try.underlying32 Try.underlying2 cells_i64' (hval 1 32 v1 rfl rfl) h1
  clear hA0 hval0
  refine (walk frac Az z cz W (I64.of_wf w0) rdz (fun x hx => I64.of_wf (iz x hx)) lcz lmz).mono fun e W' ⟨he, hb⟩ => ?_
  subst he
  exact ⟨_, rfl, law_post laid (fun t ht => law_types t ht) rfl hW' ⟨rfl, rfl, rfl⟩ (by kernel_rfl) Try.underlying4 hb⟩

theorem over : Rows.tableWholeRow.holds Try.pinned (OpenSpec.ofChange Rows.tableWholeSpec) :=
  OpenClaim.holds_of_wide 7 Try.f7 rfl rfl rfl rfl rfl rfl rfl ⟨rfl, rfl, rfl, rfl, rfl⟩ rfl rfl rfl rfl rfl (by kernel_rfl) Try.func7 (by kernel_rfl)
    (of_decide_eq_true (by kernel_rfl)) (by unfold Func.isWrapper; first | (rw [if_pos (by decide +kernel)]; kernel_rfl) | (rw [if_neg (by decide +kernel)]; exact ⟨rfl, rfl⟩))
    (fun os started H enc _ => lifted os started H enc)

theorem proved : Rows.TableWholeSaid := over
end Go.Proofs.Ytnokomlekndgfaa.TableWhole
