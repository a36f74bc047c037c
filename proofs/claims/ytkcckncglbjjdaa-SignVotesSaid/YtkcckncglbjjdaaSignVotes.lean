
/-
  SignVotes answers true for every input. No condition.
-/
import Derived.Test.YtkcckncglbjjdaaNg
import Derived.Test.YtkcckncglbjjdaaNd
import Derived.Test.YtkcckncglbjjdaaNd
namespace Go.Proofs.Ytkcckncglbjjdaa.SignVotes
open Go.ChangeShapes Go.WideShapes Go.ChangeAt Go.RowKit
set_option maxHeartbeats 400000
set_option linter.unusedVariables false
open Go.Proofs.Ytkcckncglbjjdaa
theorem two_rows (w : World) {A B : Option Addr} {c d : Nat} {a b : List Bool} (ra : Rd Value.bool w w.heap.size A a) (rb : Rd Value.bool w w.heap.size B b) :
    RdBs (w.alloc (.cells #[.slice A a.length c, .slice B b.length d] 25)) (w.alloc (.cells #[.slice A a.length c, .slice B b.length d] 25)).heap.size (some ⟨w.heap.size, 0, none⟩) [a, b] := rdbs_new w 25 [a, b] [.slice A a.length c, .slice B b.length d] (fun k xs hx => by
    match k, hx with
    | 0, hx => simp at hx; subst hx; exact ⟨A, c, rfl, ra⟩
    | 1, hx => simp at hx; subst hx; exact ⟨B, d, rfl, rb⟩
    | k + 2, hx => simp at hx)
set_option maxHeartbeats 4000000 in
set_option maxRecDepth 100000 in
theorem walk (Al : Option Addr) (ls : List (List Bool)) (cl : Nat) (Aa : Option Addr) (a : List Bool) (ca : Nat) (Ab : Option Addr) (b : List Bool) (cb : Nat) (w : World) (rl : RdBs w w.heap.size Al ls) (hL : ∀ u ∈ ls, u.length ≤ 9223372036854775807) (ll : ls.length ≤ cl) (ml : cl ≤ 9223372036854775807)
    (ra : Rd Value.bool w w.heap.size Aa a) (la : a.length ≤ ca) (ma : ca ≤ 9223372036854775807) (rb : Rd Value.bool w w.heap.size Ab b) (lb : b.length ≤ cb) (mb : cb ≤ 9223372036854775807) :
    Calls Try.prog 4 #[.slice Al ls.length cl, .slice Aa a.length ca, .slice Ab b.length cb] w fun e w' => e = .returned (.bool true) ∧ Below w.heap.size w w' := by
  have HL := hid rl
  have HA := hid ra
  have HB := hid rb
  have hl : ls.length ≤ 9223372036854775807 := by omega
  have ha : a.length ≤ 9223372036854775807 := by omega
  have hb : b.length ≤ 9223372036854775807 := by omega
  have CF := hid (fun W (h : RdBs W W.heap.size Al ls) => sg_few (A := none) (n := 0) (c := 0) (d := cl) ls (by omega) hl hL W h)
  have CG := hid (fun W A (h : RdBs W W.heap.size A [a, b]) => sg_few (A := none) (B := A) (n := 0) (c := 0) (d := 2) [a, b] (by omega) (by simp) (by intro u hu; simp at hu; rcases hu with rfl | rfl; exact ha; exact hb) W h)
  rw [show ([a, b] : List (List Bool)).length = 2 from rfl] at CG
  by_cases hf : fewS 0 ls = true
  · rw [hf] at CF
    have h30 := (fewS_ok hf).2.2
    have HG := hid (fun w1 (k1 : Below w.heap.size w w1) => two_rows w1 (c := ca) (d := cb) (HA.out.on k1) (HB.out.on k1))
    by_cases hg : fewS 0 [a, b] = true
    · rw [hg] at CG
      have C1 := hid (fun W (h : RdBs W W.heap.size Al ls) => sn_Votes (A := Al) (c := cl) ls (by omega) hL W h)
      have C2 := hid (fun W (h : RdBs W W.heap.size Al ls) => ref_Votes11 (A := Al) (c := cl) ls (by omega) hL W h)
      have C3 := hid (fun W (h1 : Rd Value.bool W W.heap.size Aa a) (h2 : Rd Value.bool W W.heap.size Ab b) => sn_Turns (A := Aa) (B := Ab) (c := ca) (d := cb) a b ha hb W h1 h2)
      have C4 := hid (fun W (h1 : Rd Value.bool W W.heap.size Aa a) (h2 : Rd Value.bool W W.heap.size Ab b) => ref_Turns11 (A := Aa) (B := Ab) (c := ca) (d := cb) a b ha hb W h1 h2)
      have hvl : (vtV ls).length ≤ 4096 := by
        unfold vtV
        split
        · rename_i h
          rw [votL_len]
          cases ls with
          | nil => simp
          | cons x t => exact (ftE_ok.1 h x (by simp)).1
        · simp
      obtain ⟨X, e1⟩ : ∃ x, vtV ls = x := ⟨_, rfl⟩
      obtain ⟨ex, e2⟩ : ∃ x, ftE ls = x := ⟨_, rfl⟩
      obtain ⟨n, e3⟩ : ∃ x, trnN a b = x := ⟨_, rfl⟩
      obtain ⟨en, e4⟩ : ∃ x, ftE [a, b] = x := ⟨_, rfl⟩
      rw [e1, e2] at C1 C2
      rw [e3, e4] at C3 C4
      rw [e1] at hvl
      have CS := hid (fun (A B : Option Addr) (c d : Nat) W L M (h1 : Rd Value.bool W L A X) (h2 : Rd Value.bool W M B X) => ref_SignsEq (A := A) (B := B) (c := c) (d := d) X X (by omega) (by omega) W h1 h2)
      rw [show eqN X X = true by unfold eqN; simp] at CS
      clear e1 e2 e3 e4 hf hg rl hL ra rb
      go_enter Try.func4, Try.ntmps4
      go_wp2_with fail
      refine (sg_live _).mono ?_
      rintro _ w1 ⟨rfl, k1⟩
      go_wp2_with fail
      refine (CF.out w1 (HL.out.on k1)).mono ?_
      rintro _ _ ⟨rfl, rfl⟩
      clear CF
      have g1 := sg_grow w1 (.cells #[.slice Aa a.length ca, .slice Ab b.length cb] 25)
      have R2 := hid (HG.out w1 k1)
      go_wp2_with fail
      refine (CG.out _ _ R2.out).mono ?_
      rintro _ w2 ⟨rfl, hw2⟩
      rw [hw2] at g1
      have k2 := k1.trans (g1.mono k1.size)
      clear CG R2 hw2 g1 k1 HG
      go_wp2_with fail
      refine (C1.out w2 (HL.out.on k2)).mono ?_
      rintro _ w3 ⟨A3, c3, rfl, o3, hb3⟩
      have k3 := k2.trans (hb3.mono k2.size)
      have RX := hid (own_rd o3)
      clear o3 hb3 k2 C1
      go_wp2_with fail
      refine (C2.out w3 (HL.out.on k3)).mono ?_
      rintro _ w4 ⟨A4, c4, rfl, o4, hb4⟩
      have k4 := k3.trans (hb4.mono k3.size)
      have RX4 := hid (RX.out.on hb4)
      have RY4 := hid (own_rd o4)
      clear o4 hb4 k3 C2 RX
      go_wp2_with fail
      refine (C3.out w4 (HA.out.on k4) (HB.out.on k4)).mono ?_
      rintro _ w5 ⟨rfl, hb5⟩
      have k5 := k4.trans (hb5.mono k4.size)
      have RX5 := hid (RX4.out.on hb5)
      have RY5 := hid (RY4.out.on hb5)
      clear hb5 k4 C3 RX4 RY4
      go_wp2_with fail
      refine (C4.out w5 (HA.out.on k5) (HB.out.on k5)).mono ?_
      rintro _ w6 ⟨rfl, hb6⟩
      have k6 := k5.trans (hb6.mono k5.size)
      have RX6 := hid (RX5.out.on hb6)
      have RY6 := hid (RY5.out.on hb6)
      clear hb6 k5 C4 RX5 RY5
      go_wp2_with fail
      refine (CS.out _ _ _ _ w6 _ _ RX6.out RY6.out).mono ?_
      rintro _ _ ⟨rfl, m, rfl⟩
      go_wp2_with fail
      go_ret
      exact ⟨by simp, k6.trans (belowN _ _ _)⟩
    · rw [Bool.eq_false_iff.2 hg] at CG
      clear hf hg rl hL ra rb
      go_enter Try.func4, Try.ntmps4
      go_wp2_with fail
      refine (sg_live _).mono ?_
      rintro _ w1 ⟨rfl, k1⟩
      go_wp2_with fail
      refine (CF.out w1 (HL.out.on k1)).mono ?_
      rintro _ _ ⟨rfl, rfl⟩
      have g1 := sg_grow w1 (.cells #[.slice Aa a.length ca, .slice Ab b.length cb] 25)
      have R2 := hid (HG.out w1 k1)
      go_wp2_with fail
      refine (CG.out _ _ R2.out).mono ?_
      rintro _ w2 ⟨rfl, hw2⟩
      rw [hw2] at g1
      have k2 := k1.trans (g1.mono k1.size)
      go_wp2_with fail
      go_ret
      exact ⟨rfl, k2⟩
  · rw [Bool.eq_false_iff.2 hf] at CF
    clear hf rl hL ra rb CG
    go_enter Try.func4, Try.ntmps4
    go_wp2_with fail
    refine (sg_live _).mono ?_
    rintro _ w1 ⟨rfl, k1⟩
    go_wp2_with fail
    refine (CF.out w1 (HL.out.on k1)).mono ?_
    rintro _ _ ⟨rfl, rfl⟩
    go_wp2_with fail
    go_ret
    exact ⟨rfl, k1⟩
theorem law_types : ∀ t ∈ Try.f4.params.toList, Try.prog.readableRec t = true ∧ t < Try.prog.types.size := by
  have h : (Try.f4.params.toList.all fun t => Try.prog.readableRec t && decide (t < Try.prog.types.size)) = true := by kernel_rfl
  intro t ht
  simpa using List.all_eq_true.1 h t ht
set_option maxRecDepth 100000 in
theorem lifted (os : Os) (started : os.Started) (H : Type) (enc : TypeId × Value → H) :
    ReturnsInHanded {} Try.checked os 4 .any (Rows.signVotesSpec.pre6 enc Try.prog Try.f4 Rows.signVotesRow.domain false) (Rows.signVotesSpec.post enc Try.prog Try.f4 false true false false) := by
  refine returnsInHanded_of_change (C := Try.checked) own started (by kernel_rfl) Try.func4
    (ChangeSpec.witness6 (enc := enc) (C := Try.checked) false ⟨#[], #[.slice none 0 0, .slice none 0 0, .slice none 0 0], []⟩ 8 (by kernel_rfl) (by kernel_rfl) (by kernel_rfl) (by kernel_rfl)) ?_
  intro W base args ds gs before hval0 hW hcnd _
  have hval : ∀ (j : Nat) t v, Try.f4.params[j]? = some t → args[j]? = some v → Value.okWide Try.prog W .any base t v := hval0
  have hW' := hW
  obtain ⟨p, q, hA0, hV, rfl, hfz, hnd⟩ := hW
  have hA : DataW.TrodAll enc Try.prog W 0 (fun _ => true) true Try.f4.params.toList args.toList ds p := hA0
  rw [Try.params4] at hA hval
  obtain ⟨v0, vs0, d0, ds0, p0, q0, hargs, rfl, rfl, h0, r0⟩ := trodAll_cons hA
  obtain ⟨v1, vs1, d1, ds1, p1, q1, rfl, rfl, rfl, h1, r1⟩ := trodAll_cons r0
  obtain ⟨v2, vs2, d2, ds2, p2, q2, rfl, rfl, rfl, h2, r2⟩ := trodAll_cons r1
  obtain ⟨rfl, rfl, rfl⟩ := trodAll_nil r2
  obtain rfl : args = #[v0, v1, v2] := by cases args; simp_all
  obtain ⟨rfl, rfl⟩ := trodVars_none hV
  obtain ⟨Al, l, cl, rfl, rdl, il, lcl, lml⟩ := open_brows Try.underlying41 Try.underlying25 Try.underlying4 cells_bools cells_bool (hval 0 41 v0 rfl rfl) h0
  obtain ⟨Aa, a, ca, rfl, rda, lca, lma⟩ := open_bls Try.underlying25 Try.underlying4 cells_bool (hval 1 25 v1 rfl rfl) h1
  obtain ⟨Ab, b, cb, rfl, rdb, lcb, lmb⟩ := open_bls Try.underlying25 Try.underlying4 cells_bool (hval 2 25 v2 rfl rfl) h2
  clear hA0 hval0
  refine (walk Al l cl Aa a ca Ab b cb W rdl il lcl lml rda lca lma rdb lcb lmb).mono fun e W' ⟨he, hb⟩ => ?_
  subst he
  exact ⟨_, rfl, law_post laid (fun t ht => law_types t ht) rfl hW' ⟨rfl, rfl, rfl⟩ (by kernel_rfl) Try.underlying4 hb⟩

theorem over : Rows.signVotesRow.holds Try.pinned (OpenSpec.ofChange Rows.signVotesSpec) :=
  OpenClaim.holds_of_wide 4 Try.f4 rfl rfl rfl rfl rfl rfl rfl ⟨rfl, rfl, rfl, rfl, rfl⟩ rfl rfl rfl rfl rfl (by kernel_rfl) Try.func4 (by kernel_rfl)
    (of_decide_eq_true (by kernel_rfl)) (by unfold Func.isWrapper; first | (rw [if_pos (by decide +kernel)]; kernel_rfl) | (rw [if_neg (by decide +kernel)]; exact ⟨rfl, rfl⟩))
    (fun os started H enc _ => lifted os started H enc)

theorem proved : Rows.SignVotesSaid := over
end Go.Proofs.Ytkcckncglbjjdaa.SignVotes
