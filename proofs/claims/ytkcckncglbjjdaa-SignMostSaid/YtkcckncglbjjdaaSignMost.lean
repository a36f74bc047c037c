
/-
  SignMost answers true for every input. No condition.
-/
import Derived.Test.YtkcckncglbjjdaaNg
import Derived.Test.YtkcckncglbjjdaaNd
import Derived.Test.YtkcckncglbjjdaaNd
namespace Go.Proofs.Ytkcckncglbjjdaa.SignMost
open Go.ChangeShapes Go.WideShapes Go.ChangeAt Go.RowKit
set_option maxHeartbeats 400000
set_option linter.unusedVariables false
open Go.Proofs.Ytkcckncglbjjdaa
theorem rows_three (w : World) {A B C : Option Addr} {c d e : Nat} {x y z : List Bool} (rx : Rd Value.bool w w.heap.size A x) (ry : Rd Value.bool w w.heap.size B y) (rz : Rd Value.bool w w.heap.size C z) :
    RdBs (w.alloc (.cells #[.slice A x.length c, .slice B y.length d, .slice C z.length e] 25)) (w.alloc (.cells #[.slice A x.length c, .slice B y.length d, .slice C z.length e] 25)).heap.size (some ⟨w.heap.size, 0, none⟩) [x, y, z] := rdbs_new w 25 [x, y, z] [.slice A x.length c, .slice B y.length d, .slice C z.length e] (fun k xs hx => by
    match k, hx with
    | 0, hx => simp at hx; subst hx; exact ⟨A, c, rfl, rx⟩
    | 1, hx => simp at hx; subst hx; exact ⟨B, d, rfl, ry⟩
    | 2, hx => simp at hx; subst hx; exact ⟨C, e, rfl, rz⟩
    | k + 3, hx => simp at hx)
theorem rows_one (w : World) {A : Option Addr} {c : Nat} {x : List Bool} (rx : Rd Value.bool w w.heap.size A x) :
    RdBs (w.alloc (.cells #[.slice A x.length c] 25)) (w.alloc (.cells #[.slice A x.length c] 25)).heap.size (some ⟨w.heap.size, 0, none⟩) [x] := rdbs_new w 25 [x] [.slice A x.length c] (fun k xs hx => by
    match k, hx with
    | 0, hx => simp at hx; subst hx; exact ⟨A, c, rfl, rx⟩
    | k + 1, hx => simp at hx)
theorem trnN_le (a b : List Bool) : trnN a b ≤ 4096 := by
  by_cases h : ftE [a, b] = 0
  · obtain ⟨h1, h2, _⟩ := trnN_ok h
    have := trnM_le a b a.length
    omega
  · unfold trnN
    rw [if_neg h]
    omega
set_option maxHeartbeats 8000000 in
set_option maxRecDepth 100000 in
theorem walk (Aa : Option Addr) (a : List Bool) (ca : Nat) (Ab : Option Addr) (b : List Bool) (cb : Nat) (Ac : Option Addr) (c : List Bool) (cc : Nat) (w : World) (ra : Rd Value.bool w w.heap.size Aa a) (la : a.length ≤ ca) (ma : ca ≤ 9223372036854775807)
    (rb : Rd Value.bool w w.heap.size Ab b) (lb : b.length ≤ cb) (mb : cb ≤ 9223372036854775807) (rc : Rd Value.bool w w.heap.size Ac c) (lc : c.length ≤ cc) (mc : cc ≤ 9223372036854775807) :
    Calls Try.prog 7 #[.slice Aa a.length ca, .slice Ab b.length cb, .slice Ac c.length cc] w fun e w' => e = .returned (.bool true) ∧ Below w.heap.size w w' := by
  have HA := hid ra
  have HB := hid rb
  have HC := hid rc
  have ha : a.length ≤ 9223372036854775807 := by omega
  have hb : b.length ≤ 9223372036854775807 := by omega
  have hc : c.length ≤ 9223372036854775807 := by omega
  have CF := hid (fun W A (h : RdBs W W.heap.size A [a, b, c]) => sg_few (A := none) (B := A) (n := 0) (c := 0) (d := 3) [a, b, c] (by omega) (by simp) (by intro u hu; simp at hu; rcases hu with rfl | rfl | rfl; exact ha; exact hb; exact hc) W h)
  rw [show ([a, b, c] : List (List Bool)).length = 3 from rfl] at CF
  have H3 := hid (fun w1 (k1 : Below w.heap.size w w1) => rows_three w1 (c := ca) (d := cb) (e := cc) (HA.out.on k1) (HB.out.on k1) (HC.out.on k1))
  by_cases hf : fewS 0 [a, b, c] = true
  · rw [hf] at CF
    have hfo := fewS_ok hf
    have C1 := hid (fun W A (h : RdBs W W.heap.size A [a, a, b]) => sn_Votes (A := A) (c := 3) [a, a, b] (by simp) (by intro u hu; simp at hu; rcases hu with rfl | rfl; exact ha; exact hb) W h)
    rw [show ([a, a, b] : List (List Bool)).length = 3 from rfl, (ft_same a b).2] at C1
    have C2 := hid (fun W (h1 : Rd Value.bool W W.heap.size Aa a) (h2 : Rd Value.bool W W.heap.size Ab b) => sn_Turns (A := Aa) (B := Ab) (c := ca) (d := cb) a b ha hb W h1 h2)
    have C3 := hid (fun W (h1 : Rd Value.bool W W.heap.size Ab b) (h2 : Rd Value.bool W W.heap.size Aa a) => sn_Turns (A := Ab) (B := Aa) (c := cb) (d := ca) b a hb ha W h1 h2)
    rw [(ft_same a b).1] at C3
    have H4 := hid (fun w1 (k1 : Below w.heap.size w w1) => rows_three w1 (c := ca) (d := ca) (e := cb) (HA.out.on k1) (HA.out.on k1) (HB.out.on k1))
    by_cases hE : ftE [a, b] = 0
    · obtain ⟨t1, t2, t3⟩ := turns_all hE
      rw [← t1] at C3
      rw [hE] at C1 C2 C3
      rw [votes_two hE] at C1
      obtain ⟨v1, v2⟩ := votes_one (a := a) (by have := (ftE_ok.1 hE a (by simp)).1; exact this)
      have C4 := hid (fun W (h1 : Rd Value.bool W W.heap.size Aa a) (h2 : Rd Value.bool W W.heap.size Ac c) => sn_Turns (A := Aa) (B := Ac) (c := ca) (d := cc) a c ha hc W h1 h2)
      have C5 := hid (fun W (h1 : Rd Value.bool W W.heap.size Ab b) (h2 : Rd Value.bool W W.heap.size Ac c) => sn_Turns (A := Ab) (B := Ac) (c := cb) (d := cc) b c hb hc W h1 h2)
      have C6 := hid (fun W A (h : RdBs W W.heap.size A [a]) => sn_Votes (A := A) (c := 1) [a] (by simp) (by intro u hu; simp at hu; subst hu; exact ha) W h)
      rw [show ([a] : List (List Bool)).length = 1 from rfl, v1, v2] at C6
      have H5 := hid (fun w1 (k1 : Below w.heap.size w w1) => rows_one w1 (c := ca) (HA.out.on k1))
      have CS := hid (fun (A B : Option Addr) (c d : Nat) W L M (h1 : Rd Value.bool W L A a) (h2 : Rd Value.bool W M B a) => ref_SignsEq (A := A) (B := B) (c := c) (d := d) a a ha ha W h1 h2)
      rw [show eqN a a = true by unfold eqN; simp] at CS
      have CT := hid (fun W L M (h1 : Rd Value.bool W L Aa a) (h2 : Rd Value.bool W M Ab b) => ref_SignsEq (A := Aa) (B := Ab) (c := ca) (d := cb) a b ha hb W h1 h2)
      have n1 := trnN_le a b
      have n2 := trnN_le b c
      have n3 := trnN_le a c
      have t4 := t3 c
      have e1 : eqN a b = ((trnN a b : Int) == 0) := by
        rw [Bool.eq_iff_iff]
        unfold eqN
        rw [decide_eq_true_iff, ← t2]
        simp
      rw [e1] at CT
      obtain ⟨n, en⟩ : ∃ x, trnN a b = x := ⟨_, rfl⟩
      obtain ⟨k, ek⟩ : ∃ x, trnN a c = x := ⟨_, rfl⟩
      obtain ⟨l, el⟩ : ∃ x, trnN b c = x := ⟨_, rfl⟩
      obtain ⟨h, eh⟩ : ∃ x, ftE [a, c] = x := ⟨_, rfl⟩
      obtain ⟨i, ei⟩ : ∃ x, ftE [b, c] = x := ⟨_, rfl⟩
      rw [en] at C2 C3 CT n1 t4
      rw [ek, eh] at C4
      rw [el, ei] at C5
      rw [ek] at n3 t4
      rw [el] at n2 t4
      rw [eh, ei] at t4
      obtain ⟨q, eq_⟩ : ∃ q, ((n : Int) == 0) = q := ⟨_, rfl⟩
      rw [eq_] at CT
      have tq : (q != q) = false := by simp
      have T4 := hid t4
      clear e1 en ek el eh ei t1 t2 t3 t4 v1 v2 hE hf hfo ra rb rc
      by_cases hh : h = 0
      · obtain ⟨hi, hk⟩ := T4.out hh
        subst hh hi
        have hki : (k : Int) ≤ (n : Int) + (l : Int) := by omega
        clear T4 hk
        go_enter Try.func7, Try.ntmps7
        go_wp2_with fail
        refine (sg_live _).mono ?_
        rintro _ w1 ⟨rfl, k1⟩
        have g1 := sg_grow w1 (.cells #[.slice Aa a.length ca, .slice Ab b.length cb, .slice Ac c.length cc] 25)
        have R2 := hid (H3.out w1 k1)
        go_wp2_with fail
        refine (CF.out _ _ R2.out).mono ?_
        rintro _ w2 ⟨rfl, hw2⟩
        rw [hw2] at g1
        have k2 := k1.trans (g1.mono k1.size)
        clear CF R2 hw2 g1 k1 H3
        go_wp2_with fail
        have g2 := sg_grow w2 (.cells #[.slice Aa a.length ca, .slice Aa a.length ca, .slice Ab b.length cb] 25)
        refine (C1.out _ _ (H4.out w2 k2)).mono ?_
        rintro _ w3 ⟨A3, c3, rfl, o3, hb3⟩
        have k3 := k2.trans ((g2.trans (hb3.mono g2.size)).mono k2.size)
        have RX := hid (own_rd o3)
        clear o3 hb3 g2 k2 C1 H4
        go_wp2_with fail
        refine (C2.out w3 (HA.out.on k3) (HB.out.on k3)).mono ?_
        rintro _ w4 ⟨rfl, hb4⟩
        have k4 := k3.trans (hb4.mono k3.size)
        have RX4 := hid (RX.out.on hb4)
        clear hb4 k3 C2 RX
        go_wp2_with fail
        refine (C3.out w4 (HB.out.on k4) (HA.out.on k4)).mono ?_
        rintro _ w5 ⟨rfl, hb5⟩
        have k5 := k4.trans (hb5.mono k4.size)
        have RX5 := hid (RX4.out.on hb5)
        clear hb5 k4 C3 RX4
        go_wp2_with fail
        refine (C4.out w5 (HA.out.on k5) (HC.out.on k5)).mono ?_
        rintro _ w6 ⟨rfl, hb6⟩
        have k6 := k5.trans (hb6.mono k5.size)
        have RX6 := hid (RX5.out.on hb6)
        clear hb6 k5 C4 RX5
        go_wp2_with fail
        refine (C5.out w6 (HB.out.on k6) (HC.out.on k6)).mono ?_
        rintro _ w7 ⟨rfl, hb7⟩
        have k7 := k6.trans (hb7.mono k6.size)
        have RX7 := hid (RX6.out.on hb7)
        clear hb7 k6 C5 RX6
        go_wp2_with fail
        have g7 := sg_grow w7 (.cells #[.slice Aa a.length ca] 25)
        refine (C6.out _ _ (H5.out w7 k7)).mono ?_
        rintro _ w8 ⟨A8, c8, rfl, o8, hb8⟩
        have b78 := g7.trans (hb8.mono g7.size)
        have k8 := k7.trans (b78.mono k7.size)
        have RX8 := hid (RX7.out.on b78)
        have RY8 := hid (own_rd o8)
        clear o8 hb8 g7 b78 k7 C6 H5 RX7
        go_wp2_with fail
        refine (CS.out _ _ _ _ w8 _ _ RX8.out (HA.out.on k8)).mono ?_
        rintro _ _ ⟨rfl, m1, rfl⟩
        have bd1 := belowN w8.heap.size w8 m1
        have k9 := k8.trans (bd1.mono k8.size)
        have RY9 := hid (RY8.out.on bd1)
        obtain ⟨w9, h9⟩ : ∃ w9, w8.drewN m1 = w9 := ⟨_, rfl⟩
        rw [h9] at k9 RY9 ⊢
        clear h9 bd1 k8 RX8 RY8
        go_wp2_with fail
        refine (CS.out _ _ _ _ w9 _ _ RY9.out (HA.out.on k9)).mono ?_
        rintro _ _ ⟨rfl, m2, rfl⟩
        have bd2 := belowN w9.heap.size w9 m2
        have k10 := k9.trans (bd2.mono k9.size)
        obtain ⟨w10, h10⟩ : ∃ w10, w9.drewN m2 = w10 := ⟨_, rfl⟩
        rw [h10] at k10 ⊢
        clear h10 bd2 k9 RY9 CS
        go_wp2_with fail
        refine (CT.out w10 _ _ (HA.out.on k10) (HB.out.on k10)).mono ?_
        rintro _ _ ⟨rfl, m3, rfl⟩
        have k11 := k10.trans (belowN w.heap.size w10 m3)
        go_wp2_with fail
        go_ret
        exact ⟨rfl, k11⟩
      · have th : (h != 0) = true := bne_iff_ne.2 hh
        clear T4 hh
        go_enter Try.func7, Try.ntmps7
        go_wp2_with fail
        refine (sg_live _).mono ?_
        rintro _ w1 ⟨rfl, k1⟩
        have g1 := sg_grow w1 (.cells #[.slice Aa a.length ca, .slice Ab b.length cb, .slice Ac c.length cc] 25)
        have R2 := hid (H3.out w1 k1)
        go_wp2_with fail
        refine (CF.out _ _ R2.out).mono ?_
        rintro _ w2 ⟨rfl, hw2⟩
        rw [hw2] at g1
        have k2 := k1.trans (g1.mono k1.size)
        clear CF R2 hw2 g1 k1 H3
        go_wp2_with fail
        have g2 := sg_grow w2 (.cells #[.slice Aa a.length ca, .slice Aa a.length ca, .slice Ab b.length cb] 25)
        refine (C1.out _ _ (H4.out w2 k2)).mono ?_
        rintro _ w3 ⟨A3, c3, rfl, o3, hb3⟩
        have k3 := k2.trans ((g2.trans (hb3.mono g2.size)).mono k2.size)
        have RX := hid (own_rd o3)
        clear o3 hb3 g2 k2 C1 H4
        go_wp2_with fail
        refine (C2.out w3 (HA.out.on k3) (HB.out.on k3)).mono ?_
        rintro _ w4 ⟨rfl, hb4⟩
        have k4 := k3.trans (hb4.mono k3.size)
        have RX4 := hid (RX.out.on hb4)
        clear hb4 k3 C2 RX
        go_wp2_with fail
        refine (C3.out w4 (HB.out.on k4) (HA.out.on k4)).mono ?_
        rintro _ w5 ⟨rfl, hb5⟩
        have k5 := k4.trans (hb5.mono k4.size)
        have RX5 := hid (RX4.out.on hb5)
        clear hb5 k4 C3 RX4
        go_wp2_with fail
        refine (C4.out w5 (HA.out.on k5) (HC.out.on k5)).mono ?_
        rintro _ w6 ⟨rfl, hb6⟩
        have k6 := k5.trans (hb6.mono k5.size)
        have RX6 := hid (RX5.out.on hb6)
        clear hb6 k5 C4 RX5
        go_wp2_with fail
        refine (C5.out w6 (HB.out.on k6) (HC.out.on k6)).mono ?_
        rintro _ w7 ⟨rfl, hb7⟩
        have k7 := k6.trans (hb7.mono k6.size)
        have RX7 := hid (RX6.out.on hb7)
        clear hb7 k6 C5 RX6
        go_wp2_with fail
        have g7 := sg_grow w7 (.cells #[.slice Aa a.length ca] 25)
        refine (C6.out _ _ (H5.out w7 k7)).mono ?_
        rintro _ w8 ⟨A8, c8, rfl, o8, hb8⟩
        have b78 := g7.trans (hb8.mono g7.size)
        have k8 := k7.trans (b78.mono k7.size)
        have RX8 := hid (RX7.out.on b78)
        have RY8 := hid (own_rd o8)
        clear o8 hb8 g7 b78 k7 C6 H5 RX7
        go_wp2_with fail
        refine (CS.out _ _ _ _ w8 _ _ RX8.out (HA.out.on k8)).mono ?_
        rintro _ _ ⟨rfl, m1, rfl⟩
        have bd1 := belowN w8.heap.size w8 m1
        have k9 := k8.trans (bd1.mono k8.size)
        have RY9 := hid (RY8.out.on bd1)
        obtain ⟨w9, h9⟩ : ∃ w9, w8.drewN m1 = w9 := ⟨_, rfl⟩
        rw [h9] at k9 RY9 ⊢
        clear h9 bd1 k8 RX8 RY8
        go_wp2_with fail
        refine (CS.out _ _ _ _ w9 _ _ RY9.out (HA.out.on k9)).mono ?_
        rintro _ _ ⟨rfl, m2, rfl⟩
        have bd2 := belowN w9.heap.size w9 m2
        have k10 := k9.trans (bd2.mono k9.size)
        obtain ⟨w10, h10⟩ : ∃ w10, w9.drewN m2 = w10 := ⟨_, rfl⟩
        rw [h10] at k10 ⊢
        clear h10 bd2 k9 RY9 CS
        go_wp2_with fail
        refine (CT.out w10 _ _ (HA.out.on k10) (HB.out.on k10)).mono ?_
        rintro _ _ ⟨rfl, m3, rfl⟩
        have k11 := k10.trans (belowN w.heap.size w10 m3)
        go_wp2_with fail
        go_ret
        exact ⟨rfl, k11⟩
    · have t1 : trnN b a = trnN a b := by
        unfold trnN
        rw [if_neg hE, if_neg (by rw [(ft_same a b).1]; exact hE)]
      rw [t1] at C3
      rw [show vtV [a, a, b] = [] from if_neg (by rw [(ft_same a b).2]; exact hE)] at C1
      obtain ⟨E, eE⟩ : ∃ x, ftE [a, b] = x := ⟨_, rfl⟩
      obtain ⟨n, en⟩ : ∃ x, trnN a b = x := ⟨_, rfl⟩
      rw [eE] at C1 C2 C3 hE
      rw [en] at C2 C3
      have hne : (E != 0) = true := by simpa using hE
      have tE : (E != E) = false := by simp
      have tn : ((n : Int) != (n : Int)) = false := by simp
      clear t1 eE en hE hf hfo ra rb rc
      go_enter Try.func7, Try.ntmps7
      go_wp2_with fail
      refine (sg_live _).mono ?_
      rintro _ w1 ⟨rfl, k1⟩
      have g1 := sg_grow w1 (.cells #[.slice Aa a.length ca, .slice Ab b.length cb, .slice Ac c.length cc] 25)
      have R2 := hid (H3.out w1 k1)
      go_wp2_with fail
      refine (CF.out _ _ R2.out).mono ?_
      rintro _ w2 ⟨rfl, hw2⟩
      rw [hw2] at g1
      have k2 := k1.trans (g1.mono k1.size)
      clear CF R2 hw2 g1 k1 H3
      go_wp2_with fail
      have g2 := sg_grow w2 (.cells #[.slice Aa a.length ca, .slice Aa a.length ca, .slice Ab b.length cb] 25)
      refine (C1.out _ _ (H4.out w2 k2)).mono ?_
      rintro _ w3 ⟨A3, c3, rfl, o3, hb3⟩
      have k3 := k2.trans ((g2.trans (hb3.mono g2.size)).mono k2.size)
      have RX := hid (own_rd o3)
      clear o3 hb3 g2 k2 C1 H4
      go_wp2_with fail
      refine (C2.out w3 (HA.out.on k3) (HB.out.on k3)).mono ?_
      rintro _ w4 ⟨rfl, hb4⟩
      have k4 := k3.trans (hb4.mono k3.size)
      have RX4 := hid (RX.out.on hb4)
      clear hb4 k3 C2 RX
      go_wp2_with fail
      refine (C3.out w4 (HB.out.on k4) (HA.out.on k4)).mono ?_
      rintro _ w5 ⟨rfl, hb5⟩
      have k5 := k4.trans (hb5.mono k4.size)
      have RX5 := hid (RX4.out.on hb5)
      clear hb5 k4 C3 RX4
      go_wp2_with fail
      go_ret
      exact ⟨by simp, k5⟩
  · rw [Bool.eq_false_iff.2 hf] at CF
    clear hf ra rb rc
    go_enter Try.func7, Try.ntmps7
    go_wp2_with fail
    refine (sg_live _).mono ?_
    rintro _ w1 ⟨rfl, k1⟩
    have g1 := sg_grow w1 (.cells #[.slice Aa a.length ca, .slice Ab b.length cb, .slice Ac c.length cc] 25)
    have R2 := hid (H3.out w1 k1)
    go_wp2_with fail
    refine (CF.out _ _ R2.out).mono ?_
    rintro _ w2 ⟨rfl, hw2⟩
    rw [hw2] at g1
    have k2 := k1.trans (g1.mono k1.size)
    clear CF R2 hw2 g1 k1 H3
    go_wp2_with fail
    go_ret
    exact ⟨rfl, k2⟩
theorem law_types : ∀ t ∈ Try.f7.params.toList, Try.prog.readableRec t = true ∧ t < Try.prog.types.size := by
  have h : (Try.f7.params.toList.all fun t => Try.prog.readableRec t && decide (t < Try.prog.types.size)) = true := by kernel_rfl
  intro t ht
  simpa using List.all_eq_true.1 h t ht
set_option maxRecDepth 100000 in
theorem lifted (os : Os) (started : os.Started) (H : Type) (enc : TypeId × Value → H) :
    ReturnsInHanded {} Try.checked os 7 .any (Rows.signMostSpec.pre6 enc Try.prog Try.f7 Rows.signMostRow.domain false) (Rows.signMostSpec.post enc Try.prog Try.f7 false true false false) := by
  refine returnsInHanded_of_change (C := Try.checked) own started (by kernel_rfl) Try.func7
    (ChangeSpec.witness6 (enc := enc) (C := Try.checked) false ⟨#[], #[.slice none 0 0, .slice none 0 0, .slice none 0 0], []⟩ 8 (by kernel_rfl) (by kernel_rfl) (by kernel_rfl) (by kernel_rfl)) ?_
  intro W base args ds gs before hval0 hW hcnd _
  have hval : ∀ (j : Nat) t v, Try.f7.params[j]? = some t → args[j]? = some v → Value.okWide Try.prog W .any base t v := hval0
  have hW' := hW
  obtain ⟨p, q, hA0, hV, rfl, hfz, hnd⟩ := hW
  have hA : DataW.TrodAll enc Try.prog W 0 (fun _ => true) true Try.f7.params.toList args.toList ds p := hA0
  rw [Try.params7] at hA hval
  obtain ⟨v0, vs0, d0, ds0, p0, q0, hargs, rfl, rfl, h0, r0⟩ := trodAll_cons hA
  obtain ⟨v1, vs1, d1, ds1, p1, q1, rfl, rfl, rfl, h1, r1⟩ := trodAll_cons r0
  obtain ⟨v2, vs2, d2, ds2, p2, q2, rfl, rfl, rfl, h2, r2⟩ := trodAll_cons r1
  obtain ⟨rfl, rfl, rfl⟩ := trodAll_nil r2
  obtain rfl : args = #[v0, v1, v2] := by cases args; simp_all
  obtain ⟨rfl, rfl⟩ := trodVars_none hV
  obtain ⟨Aa, a, ca, rfl, rda, lca, lma⟩ := open_bls Try.underlying25 Try.underlying4 cells_bool (hval 0 25 v0 rfl rfl) h0
  obtain ⟨Ab, b, cb, rfl, rdb, lcb, lmb⟩ := open_bls Try.underlying25 Try.underlying4 cells_bool (hval 1 25 v1 rfl rfl) h1
  obtain ⟨Ac, c, cc, rfl, rdc, lcc, lmc⟩ := open_bls Try.underlying25 Try.underlying4 cells_bool (hval 2 25 v2 rfl rfl) h2
  clear hA0 hval0
  refine (walk Aa a ca Ab b cb Ac c cc W rda lca lma rdb lcb lmb rdc lcc lmc).mono fun e W' ⟨he, hb⟩ => ?_
  subst he
  exact ⟨_, rfl, law_post laid (fun t ht => law_types t ht) rfl hW' ⟨rfl, rfl, rfl⟩ (by kernel_rfl) Try.underlying4 hb⟩

theorem over : Rows.signMostRow.holds Try.pinned (OpenSpec.ofChange Rows.signMostSpec) :=
  OpenClaim.holds_of_wide 7 Try.f7 rfl rfl rfl rfl rfl rfl rfl ⟨rfl, rfl, rfl, rfl, rfl⟩ rfl rfl rfl rfl rfl (by kernel_rfl) Try.func7 (by kernel_rfl)
    (of_decide_eq_true (by kernel_rfl)) (by unfold Func.isWrapper; first | (rw [if_pos (by decide +kernel)]; kernel_rfl) | (rw [if_neg (by decide +kernel)]; exact ⟨rfl, rfl⟩))
    (fun os started H enc _ => lifted os started H enc)

theorem proved : Rows.SignMostSaid := over
end Go.Proofs.Ytkcckncglbjjdaa.SignMost
