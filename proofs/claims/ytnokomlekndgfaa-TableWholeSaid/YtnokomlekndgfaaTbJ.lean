
/- Powers of two, by the program. -/
import Derived.Test.YtnokomlekndgfaaTbH
import Derived.Test.YtnokomlekndgfaaFixA
namespace Go.Proofs.Ytnokomlekndgfaa
open Go.RowKit
set_option maxHeartbeats 2000000
set_option maxRecDepth 100000
set_option linter.unusedVariables false
def expE (frac x : Int) : Int := if frac < 0 ∨ 30 < frac ∨ 0 < x then 1 else if x = -9223372036854775808 then 2 else 0
def expV (frac x : Int) : Int := if expE frac x = 0 then (expN (-x).toNat frac.toNat : Int) else 0
theorem exp_bad {frac x : Int} (h : frac < 0 ∨ 30 < frac ∨ 0 < x) : expE frac x = 1 ∧ expV frac x = 0 := by
  have h1 : expE frac x = 1 := if_pos h
  refine ⟨h1, if_neg ?_⟩
  rw [h1]
  decide
theorem exp_min {frac x : Int} (h : ¬ (frac < 0 ∨ 30 < frac ∨ 0 < x)) (hx : x = -9223372036854775808) : expE frac x = 2 ∧ expV frac x = 0 := by
  have h1 : expE frac x = 2 := by unfold expE; rw [if_neg h, if_pos hx]
  refine ⟨h1, if_neg ?_⟩
  rw [h1]
  decide
theorem exp_ok {frac x : Int} (h : ¬ (frac < 0 ∨ 30 < frac ∨ 0 < x)) (hx : x ≠ -9223372036854775808) : expE frac x = 0 ∧ expV frac x = (expN (-x).toNat frac.toNat : Int) := by
  have h1 : expE frac x = 0 := by unfold expE; rw [if_neg h, if_neg hx]
  exact ⟨h1, if_pos h1⟩
theorem expN_up {y f : Nat} : expN y f ≤ 1073741824 := Nat.le_trans (Nat.div_le_self _ _) (rows_hi (Nat.le_trans row_at (by decide)))
/-- How the power is told: row by row. -/
theorem exp_way {y k : Nat} (hk : k ≤ 30) : ∃ W P r C v : Nat, (y : Int) / 2 ^ k = (W : Int) ∧ (y : Int) % 2 ^ k = (P : Int) ∧ P < 2 ^ k ∧ W ≤ y ∧ ((P * 16 : Nat) : Int) / 2 ^ k = (r : Int) ∧ r < 17 ∧ W + 30 = C + k ∧ rowsN.getD r 0 = v ∧ ((v : Nat) : Int) / 2 ^ min C 64 = (expN y k : Int) := by
  have hc : ((2 : Int) ^ k) = ((2 ^ k : Nat) : Int) := by simp
  refine ⟨y / 2 ^ k, y % 2 ^ k, y % 2 ^ k * 16 / 2 ^ k, 30 - k + y / 2 ^ k, rowsN.getD (y % 2 ^ k * 16 / 2 ^ k) 0, ?_, ?_, Nat.mod_lt _ (Nat.two_pow_pos k), Nat.div_le_self _ _, ?_, ?_, by omega, rfl, ?_⟩
  · rw [hc]; rfl
  · rw [hc]; rfl
  · rw [hc]; rfl
  · have := row_at (y := y) (f := k); omega
  · have hC : ∀ c : Nat, ((2 : Int) ^ c) = ((2 ^ c : Nat) : Int) := fun c => by simp
    rw [hC]
    rw [← Int.natCast_ediv]
    congr 1
    show _ = rowN y k / 2 ^ (30 - k + y / 2 ^ k)
    rcases Nat.le_total (30 - k + y / 2 ^ k) 64 with h | h
    · rw [Nat.min_eq_left h]; rfl
    · rw [Nat.min_eq_right h]
      have hr : rowN y k ≤ 1073741824 := rows_hi (Nat.le_trans row_at (by decide))
      have h2 : rowN y k < 2 ^ 64 := Nat.lt_of_le_of_lt hr (by decide)
      have h3 : rowN y k < 2 ^ (30 - k + y / 2 ^ k) := Nat.lt_of_lt_of_le h2 (Nat.pow_le_pow_right (by decide) h)
      rw [Nat.div_eq_of_lt h3]
      exact Nat.div_eq_of_lt h2
theorem tb_behind_yes (n : Int) (h1 : 0 ≤ n) (h2 : n ≤ 30) (w : World) : Calls Try.prog 28 #[.int .i64 n] w fun e w' => e = .returned (.bool true) ∧ w = w' := by
  go_enter Try.func28, Try.ntmps28
  go_wp2_with fail
  go_ret
  exact ⟨rfl, rfl⟩
theorem tb_behind_no (n : Int) (h : n < 0 ∨ 30 < n) (w : World) : Calls Try.prog 28 #[.int .i64 n] w fun e w' => e = .returned (.bool false) ∧ w = w' := by
  rcases h with h | h
  · have h2 : ¬ 0 ≤ n := by omega
    go_enter Try.func28, Try.ntmps28
    go_wp2_with fail
    go_ret
    exact ⟨rfl, rfl⟩
  · have h2 : 0 ≤ n := by omega
    have h3 : ¬ n ≤ 30 := by omega
    go_enter Try.func28, Try.ntmps28
    go_wp2_with fail
    go_ret
    exact ⟨rfl, rfl⟩
theorem tb_exp (frac x : Int) (hx : I64 x) (w : World) :
    Calls Try.prog 25 #[.agg #[.int .u64 1073741824, .int .u64 1028218692, .int .u64 984625593, .int .u64 942880698, .int .u64 902905650, .int .u64 864625412, .int .u64 827968131, .int .u64 792864998, .int .u64 759250124, .int .u64 727060409, .int .u64 696235433, .int .u64 666717334, .int .u64 638450707, .int .u64 611382491, .int .u64 585461880, .int .u64 560640217, .int .u64 536870912], .int .i64 x, .int .i64 frac] w fun e w' => e = .returned (.tuple #[.int .i64 (expV frac x), .int .i64 (expE frac x)]) ∧ Below w.heap.size w w' := by
  obtain ⟨w2, hw2⟩ : ∃ w2, w.alloc (.cells #[.int .u64 1073741824, .int .u64 1028218692, .int .u64 984625593, .int .u64 942880698, .int .u64 902905650, .int .u64 864625412, .int .u64 827968131, .int .u64 792864998, .int .u64 759250124, .int .u64 727060409, .int .u64 696235433, .int .u64 666717334, .int .u64 638450707, .int .u64 611382491, .int .u64 585461880, .int .u64 560640217, .int .u64 536870912] 45) = w2 := ⟨_, rfl⟩
  have hb2 : Below w.heap.size w w2 := by rw [← hw2]; go_grown
  have f2 : BoxL w2 w.heap.size [.int .u64 1073741824, .int .u64 1028218692, .int .u64 984625593, .int .u64 942880698, .int .u64 902905650, .int .u64 864625412, .int .u64 827968131, .int .u64 792864998, .int .u64 759250124, .int .u64 727060409, .int .u64 696235433, .int .u64 666717334, .int .u64 638450707, .int .u64 611382491, .int .u64 585461880, .int .u64 560640217, .int .u64 536870912] := by rw [← hw2]; exact BoxL.new w [.int .u64 1073741824, .int .u64 1028218692, .int .u64 984625593, .int .u64 942880698, .int .u64 902905650, .int .u64 864625412, .int .u64 827968131, .int .u64 792864998, .int .u64 759250124, .int .u64 727060409, .int .u64 696235433, .int .u64 666717334, .int .u64 638450707, .int .u64 611382491, .int .u64 585461880, .int .u64 560640217, .int .u64 536870912] 45
  have HB := hid hb2
  have F2 := hid f2
  clear hb2 f2
  by_cases h1 : frac < 0 ∨ 30 < frac
  · obtain ⟨e1, e2⟩ := exp_bad (x := x) (show frac < 0 ∨ 30 < frac ∨ 0 < x by omega)
    rw [e1, e2]
    have C := hid (fun w => tb_behind_no frac h1 w)
    clear h1 e1 e2
    go_enter Try.func25, Try.ntmps25
    go_wp2_with fail
    refine (C.out _).mono ?_
    rintro _ _ ⟨rfl, rfl⟩
    go_wp2_with fail
    go_ret2
    exact ⟨rfl, HB.out⟩
  · have C := hid (fun w => tb_behind_yes frac (by omega) (by omega) w)
    by_cases h2 : 0 < x
    · obtain ⟨e1, e2⟩ := exp_bad (show frac < 0 ∨ 30 < frac ∨ 0 < x by omega)
      rw [e1, e2]
      have h3 : x > 0 := h2
      clear h1 e1 e2
      go_enter Try.func25, Try.ntmps25
      go_wp2_with fail
      refine (C.out _).mono ?_
      rintro _ _ ⟨rfl, rfl⟩
      go_wp2_with fail
      go_ret2
      exact ⟨rfl, HB.out⟩
    · have hn : ¬ (frac < 0 ∨ 30 < frac ∨ 0 < x) := by omega
      have h3 : ¬ x > 0 := h2
      have CN := hid (fun w => fix_Neg x hx w)
      by_cases hm : x = -9223372036854775808
      · obtain ⟨e1, e2⟩ := exp_min hn hm
        rw [e1, e2]
        have k1 : ckV (-x) = 0 := by subst hm; decide
        have k2 : ckE (-x) = 2 := by subst hm; decide
        rw [k1, k2] at CN
        clear h1 h2 hn e1 e2 k1 k2 hm
        go_enter Try.func25, Try.ntmps25
        go_wp2_with fail
        refine (C.out _).mono ?_
        rintro _ _ ⟨rfl, rfl⟩
        go_wp2_with fail
        refine (CN.out _).mono ?_
        rintro _ _ ⟨rfl, rfl⟩
        go_wp2_with fail
        go_ret2
        exact ⟨rfl, HB.out⟩
      · obtain ⟨e1, e2⟩ := exp_ok hn hm
        rw [e1, e2]
        obtain ⟨y, hy⟩ : ∃ y, (-x).toNat = y := ⟨_, rfl⟩
        have hyx : -x = (y : Int) := by omega
        obtain ⟨k, rfl⟩ : ∃ k : Nat, frac = (k : Int) := ⟨frac.toNat, by omega⟩
        have k1 : ckV (-x) = (y : Int) := by rw [hyx]; exact ckV_in (by unfold I64 at *; omega)
        have k2 : ckE (-x) = 0 := by rw [hyx]; exact ckE_in (by unfold I64 at *; omega)
        rw [k1, k2] at CN
        rw [hy]
        have hk : k ≤ 30 := by omega
        obtain ⟨W, P, r, c, v, q1, q2, p1, p2, q3, r1, q4, q5, q6⟩ := exp_way (y := y) hk
        obtain ⟨U, hU⟩ : ∃ U, P * 16 = U := ⟨_, rfl⟩
        obtain ⟨Z, hZ⟩ : ∃ Z, W + 30 = Z := ⟨_, rfl⟩
        rw [hU] at q3
        rw [hZ] at q4
        have hV : expN y k ≤ 1073741824 := expN_up
        rw [show (k : Int).toNat = k from rfl]
        obtain ⟨V, hV2⟩ : ∃ V, expN y k = V := ⟨_, rfl⟩
        rw [hV2] at q6 hV ⊢
        have hT : (2 : Int) ^ k ≤ 1073741824 := by
          have : (2 : Int) ^ k = ((2 ^ k : Nat) : Int) := by simp
          have : 2 ^ k ≤ 2 ^ 30 := Nat.pow_le_pow_right (n := 2) (by decide) hk
          omega
        have hT1 : (1 : Int) ≤ (2 : Int) ^ k := by
          have : (2 : Int) ^ k = ((2 ^ k : Nat) : Int) := by simp
          have := Nat.two_pow_pos k
          omega
        have p3 : (P : Int) < 2 ^ k := by
          have : (2 : Int) ^ k = ((2 ^ k : Nat) : Int) := by simp
          omega
        have hf2 := F2.out r (.int .u64 (v : Int)) (by
          rw [← rows_cells, u64sL_at (show r < rowsN.length from r1), q5])
        obtain ⟨c1, c2⟩ := hf2
        have r2 : (r : Int) < 17 := by omega
        have y1 : (y : Int) ≤ 9223372036854775807 := by unfold I64 at hx; omega
        have t1 : IntKind.u64.wrap (2 ^ k) = (2 : Int) ^ k := by rw [IntKind.wrap_u64]; omega
        have t2 : IntKind.u64.wrap (y : Int) = (y : Int) := by rw [IntKind.wrap_u64]; omega
        have t3 : IntKind.u64.wrap ((P : Int) * 16) = (U : Int) := by rw [IntKind.wrap_u64]; omega
        have t4 : IntKind.u64.wrap ((W : Int) + 30) = (Z : Int) := by rw [IntKind.wrap_u64]; omega
        have t5 : IntKind.u64.wrap (k : Int) = (k : Int) := by rw [IntKind.wrap_u64]; omega
        have t6 : IntKind.u64.wrap ((Z : Int) - (k : Int)) = (c : Int) := by rw [IntKind.wrap_u64]; omega
        have t7 : IntKind.i64.wrap (V : Int) = (V : Int) := Go.IntWalk.i64_in _ (by omega)
        have t8 : wrap64 (V : Int) = (V : Int) := Go.IntWalk.wrap64_in _ (by omega)
        clear h1 h2 hn e1 e2 k1 k2 hm hy hyx hU hZ q4 q5 hV2 p1 p2 F2 y1 hT p3 hx
        go_enter Try.func25, Try.ntmps25
        go_wp2_with fail
        refine (C.out _).mono ?_
        rintro _ _ ⟨rfl, rfl⟩
        go_wp2_with fail
        refine (CN.out _).mono ?_
        rintro _ _ ⟨rfl, rfl⟩
        have n0 : ((2 : Int) ^ k == 0) = false := beq_eq_false_iff_ne.2 (by omega)
        have n1 : ¬ (2 : Int) ^ k = 0 := by omega
        have hge : ¬ (k : Int) < 0 := by omega
        go_wp2_with fail
        go_region
        have HB2 : Hid (Below w.heap.size w w2.drew) := hid HB.out.drew
        have c1' : w2.drew.cell? ⟨w.heap.size, r, none⟩ = some (.int .u64 (v : Int)) := c1
        have c2' : w2.drew.frozen? ⟨w.heap.size, r, none⟩ = false := c2
        clear c1 c2 HB
        generalize w2.drew = w3 at HB2 c1' c2' ⊢
        go_wp2_with fail
        go_ret2
        exact ⟨rfl, HB2.out⟩
theorem tb_Exp (frac x : Int) (hx : I64 x) (w : World) :
    Calls Try.prog 11 #[.int .i64 x, .int .i64 frac] w fun e w' => e = .returned (.tuple #[.int .i64 (expV frac x), .int .i64 (expE frac x)]) ∧ Below w.heap.size w w' := by
  have CE := hid (fun w => tb_exp frac x hx w)
  obtain ⟨V, hV⟩ : ∃ V, expV frac x = V := ⟨_, rfl⟩
  obtain ⟨E, hE⟩ : ∃ E, expE frac x = E := ⟨_, rfl⟩
  rw [hV, hE] at CE ⊢
  clear hV hE hx
  go_enter Try.func11, Try.ntmps11
  go_wp2_with fail
  refine (tb_makeRows _).mono ?_
  rintro _ w1 ⟨rfl, hb1⟩
  go_wp2_with fail
  refine (CE.out _).mono ?_
  rintro _ w2 ⟨rfl, hb2⟩
  go_wp2_with fail
  go_ret2
  exact ⟨rfl, hb1.trans (hb2.mono hb1.size)⟩
/-- The table as a list. -/
def rowsI : List Int := rowsN.map fun (n : Nat) => (n : Int)
theorem rowsI_len : rowsI.length = 17 := rfl
theorem rows_vals : u64sL rowsN = rowsI.map (Value.int .u64) := by unfold u64sL rowsI; rw [List.map_map]; rfl
def OwnRows (w : World) (e : Ending) (w' : World) : Prop :=
  ∃ A c, e = .returned (.slice A 17 c) ∧ Rd (Value.int .u64) w' w'.heap.size A rowsI ∧ Below w.heap.size w w'
theorem tb_Rows (w : World) : Calls Try.prog 16 #[] w (OwnRows w) := by
  go_enter Try.func16, Try.ntmps16
  go_wp2_with fail
  refine (tb_makeRows _).mono ?_
  rintro _ w1 ⟨rfl, hb1⟩
  obtain ⟨w2, hw2⟩ : ∃ w2, w1.alloc (.cells #[.int .u64 0, .int .u64 0, .int .u64 0, .int .u64 0, .int .u64 0, .int .u64 0, .int .u64 0, .int .u64 0, .int .u64 0, .int .u64 0, .int .u64 0, .int .u64 0, .int .u64 0, .int .u64 0, .int .u64 0, .int .u64 0, .int .u64 0] 45) = w2 := ⟨_, rfl⟩
  have hb2 : Below w.heap.size w w2 := by rw [← hw2]; exact hb1.alloc hb1.size _
  have f2 : BoxL w2 w1.heap.size [.int .u64 0, .int .u64 0, .int .u64 0, .int .u64 0, .int .u64 0, .int .u64 0, .int .u64 0, .int .u64 0, .int .u64 0, .int .u64 0, .int .u64 0, .int .u64 0, .int .u64 0, .int .u64 0, .int .u64 0, .int .u64 0, .int .u64 0] := by rw [← hw2]; exact BoxL.new w1 [.int .u64 0, .int .u64 0, .int .u64 0, .int .u64 0, .int .u64 0, .int .u64 0, .int .u64 0, .int .u64 0, .int .u64 0, .int .u64 0, .int .u64 0, .int .u64 0, .int .u64 0, .int .u64 0, .int .u64 0, .int .u64 0, .int .u64 0] 45
  have HB := hid hb2
  have F2 := hid f2
  have HS := hid hb1.size
  clear hb1 hb2 f2
  go_wp2_with (refine wpList_st17 rfl 45 _ _ rfl w1.heap.size 0 #[.int .u64 1073741824, .int .u64 1028218692, .int .u64 984625593, .int .u64 942880698, .int .u64 902905650, .int .u64 864625412, .int .u64 827968131, .int .u64 792864998, .int .u64 759250124, .int .u64 727060409, .int .u64 696235433, .int .u64 666717334, .int .u64 638450707, .int .u64 611382491, .int .u64 585461880, .int .u64 560640217, .int .u64 536870912] rfl rfl (box_there17 F2.out (by decide)) info_roots (by simp [Value.oneCell']) ?_)
  intro w3 HW3
  have K : Hid (BoxL w3 w1.heap.size (rowsI.map (Value.int .u64))) := hid (by rw [HW3.out, ← rows_vals, rows_cells]; exact box_all F2.out (by decide))
  have KB : Hid (Below w.heap.size w w3) := hid (by rw [HW3.out]; exact below_cells HB.out HS.out)
  clear hw2 F2 HB HW3
  go_wp2_with fail
  go_ret
  refine ⟨some ⟨w1.heap.size, 0, none⟩, 17, rfl, ?_, KB.out⟩
  intro k x hx
  have hc := (K.out k (.int .u64 x) (by rw [List.getElem?_map, hx]; rfl)).1
  exact ⟨w1.heap.size, 0, rfl, lt_of_cell hc, by rw [Nat.zero_add]; exact hc⟩
end Go.Proofs.Ytnokomlekndgfaa
