
/-
  IndexWrites answers true for every input. No condition.
-/
import Derived.SizedLaws
import Derived.Test.YtgdkmgepconnpaaIxLv
import Derived.Test.YtgdkmgepconnpaaIxN
import Derived.Test.YtgdkmgepconnpaaArg
import Derived.Test.YtgdkmgepconnpaaLaw
namespace Go.Proofs.Ytgdkmgepconnpaa.IndexWrites
open Go.ChangeShapes Go.WideShapes Go.ChangeAt Go.RowKit
set_option maxHeartbeats 400000
set_option linter.unusedVariables false
open Go.Proofs.Ytgdkmgepconnpaa
set_option maxHeartbeats 2000000 in
set_option maxRecDepth 100000 in
theorem walk (dim : Int) (Al : Option Addr) (l : List Int) (cl : Nat) (Ab : Option Addr) (b : List Int) (cb : Nat) (at_ : Int) (w : World) (hdim : I64 dim)
    (rl : Rd (Value.int .i64) w w.heap.size Al l) (il : I64s l) (ll : l.length ≤ cl) (ml : cl ≤ 9223372036854775807) (sl : l.length ≤ 140737488355327)
    (rb : Rd (Value.int .u8) w w.heap.size Ab b) (ub : U8s b) (lb : b.length ≤ cb) (mb : cb ≤ 9223372036854775807) (sb : b.length ≤ 140737488355327) (hat : I64 at_) :
    Calls Try.prog 3 #[.int .i64 dim, .slice Al l.length cl, .slice Ab b.length cb, .int .i64 at_] w fun e w' => e = .returned (.bool true) ∧ Below w.heap.size w w' := by
  have RL := hid rl
  have RB := hid rb
  have CF := hid (fun W h => few_one (A := Al) (c := cl) l sl W h)
  by_cases hl : l.length ≤ 600
  · rw [decide_eq_true hl] at CF
    by_cases hb : b.length ≤ 2000
    · have C1 := hid (fun W h => ix_Put (A := Al) (c := cl) dim l hdim (by omega) W h)
      have C2 := hid (fun W h => ref_PutIx (A := Al) (c := cl) dim l hdim (by omega) W h)
      have C3 : Hid (∀ W, Rd (Value.int .u8) W W.heap.size Ab b → Calls Try.prog 13 #[.int .i64 dim, .slice Ab b.length cb, .int .i64 at_] W (OwnX (gixR dim b at_).1 (gixR dim b at_).2.1 (gixR dim b at_).2.2 W)) := hid (fun W h => ix_Get (A := Ab) (c := cb) dim b hdim lb mb ub at_ hat W h)
      have C4 : Hid (∀ W, Rd (Value.int .u8) W W.heap.size Ab b → Calls Try.prog 14 #[.int .i64 dim, .slice Ab b.length cb, .int .i64 at_] W (OwnX (gixR dim b at_).1 (gixR dim b at_).2.1 (gixR dim b at_).2.2 W)) := hid (fun W h => ref_GetIx (A := Ab) (c := cb) dim b hdim lb mb ub at_ hat W h)
      have C5 := hid (fun W h => ix_Check (A := Al) (c := cl) dim l hdim (by omega) W h)
      have C6 := hid (fun W h => ref_CheckB (A := Al) (c := cl) dim l hdim (by omega) W h)
      have uX := pixV_u8 dim l
      have hG := gix_len dim b at_
      obtain ⟨X, hX⟩ : ∃ X, pixV dim l = X := ⟨_, rfl⟩
      obtain ⟨E, hE⟩ : ∃ X, chkE dim l = X := ⟨_, rfl⟩
      obtain ⟨G, hG1⟩ : ∃ X, (gixR dim b at_).1 = X := ⟨_, rfl⟩
      obtain ⟨a, hG2⟩ : ∃ X, (gixR dim b at_).2.1 = X := ⟨_, rfl⟩
      obtain ⟨F, hG3⟩ : ∃ X, (gixR dim b at_).2.2 = X := ⟨_, rfl⟩
      rw [hX, hE] at C1 C2
      rw [hX] at uX
      rw [hE] at C5 C6
      rw [hG1, hG2, hG3] at C3 C4
      rw [hG1] at hG
      have CS := hid (same_yes uX)
      have CQ := hid (fun (A B : Option Addr) (c d : Nat) (W : World) (h1 : Rd (Value.int .i64) W W.heap.size A G) (h2 : Rd (Value.int .i64) W W.heap.size B G) => equal_yes (X := G) (by omega) (A := A) (B := B) (c := c) (d := d) W h1 h2)
      clear hX hE hG1 hG2 hG3 hG uX rl rb il ub hdim hat
      go_enter Try.func3, Try.ntmps3
      go_wp2_with fail
      refine (live_yes _).mono ?_
      rintro _ w1 ⟨rfl, k1⟩
      go_wp2_with fail
      refine (CF.out w1 (RL.out.on k1)).mono ?_
      rintro _ w2 ⟨rfl, hw2⟩
      have k2 : Below w.heap.size w w2 := by rw [← hw2]; exact k1.trans ((grow w1 _).mono k1.size)
      clear hw2 k1 CF
      go_wp2_with fail
      refine (C1.out w2 (RL.out.on k2)).mono ?_
      rintro _ w3 ⟨A3, c3, rfl, ho3, hb3⟩
      have k3 := k2.trans (hb3.mono k2.size)
      have HS3 := hid (own_rd ho3)
      have HO3 := hid ho3
      clear ho3
      clear hb3 k2
      go_wp2_with fail
      refine (C2.out w3 (RL.out.on k3)).mono ?_
      rintro _ w4 ⟨A4, c4, rfl, ho4, hb4⟩
      have k4 := k3.trans (hb4.mono k3.size)
      have HL5 := hid (HS3.out.on hb4)
      clear HS3
      have HS4 := hid (own_rd ho4)
      have HO4 := hid ho4
      clear ho4
      clear hb4 k3
      go_wp2_with fail
      refine (C3.out w4 (RB.out.on k4)).mono ?_
      rintro _ w6 ⟨A6, c6, rfl, ho6, hb6⟩
      have k6 := k4.trans (hb6.mono k4.size)
      have HL7 := hid (HL5.out.on hb6)
      clear HL5
      have HL8 := hid (HS4.out.on hb6)
      clear HS4
      have HS6 := hid (own_rd ho6)
      have HO6 := hid ho6
      clear ho6
      clear hb6 k4
      go_wp2_with fail
      refine (C4.out w6 (RB.out.on k6)).mono ?_
      rintro _ w9 ⟨A9, c9, rfl, ho9, hb9⟩
      have k9 := k6.trans (hb9.mono k6.size)
      have HL10 := hid (HL7.out.on hb9)
      clear HL7
      have HL11 := hid (HL8.out.on hb9)
      clear HL8
      have HL12 := hid (HS6.out.on hb9)
      clear HS6
      have HS9 := hid (own_rd ho9)
      have HO9 := hid ho9
      clear ho9
      clear hb9 k6
      go_wp2_with fail
      refine (CS.out _ _ _ _ _ _ _ HL10.out HL11.out).mono ?_
      rintro _ _ ⟨rfl, rfl⟩
      go_wp2_with fail
      refine (CQ.out _ _ _ _ w9 HL12.out HS9.out).mono ?_
      rintro _ w13 ⟨rfl, hb13⟩
      have k13 := k9.trans (hb13.mono k9.size)
      have HL14 := hid (HL10.out.on hb13)
      clear HL10
      have HL15 := hid (HL11.out.on hb13)
      clear HL11
      have HL16 := hid (HL12.out.on hb13)
      clear HL12
      have HL17 := hid (HS9.out.on hb13)
      clear HS9
      clear hb13 k9
      go_wp2_with fail
      refine (C5.out w13 (RL.out.on k13)).mono ?_
      rintro _ w18 ⟨rfl, hb18⟩
      have k18 := k13.trans (hb18.mono k13.size)
      have HL19 := hid (HL14.out.on hb18)
      clear HL14
      have HL20 := hid (HL15.out.on hb18)
      clear HL15
      have HL21 := hid (HL16.out.on hb18)
      clear HL16
      have HL22 := hid (HL17.out.on hb18)
      clear HL17
      clear hb18 k13
      go_wp2_with fail
      refine (C6.out w18 (RL.out.on k18)).mono ?_
      rintro _ w23 ⟨rfl, hb23⟩
      have k23 := k18.trans (hb23.mono k18.size)
      have HL24 := hid (HL19.out.on hb23)
      clear HL19
      have HL25 := hid (HL20.out.on hb23)
      clear HL20
      have HL26 := hid (HL21.out.on hb23)
      clear HL21
      have HL27 := hid (HL22.out.on hb23)
      clear HL22
      clear hb23 k18
      go_wp2_with fail
      go_ret
      exact ⟨rfl, k23⟩
    · clear rl rb il ub
      go_enter Try.func3, Try.ntmps3
      go_wp2_with fail
      refine (live_yes _).mono ?_
      rintro _ w1 ⟨rfl, k1⟩
      go_wp2_with fail
      refine (CF.out w1 (RL.out.on k1)).mono ?_
      rintro _ w2 ⟨rfl, hw2⟩
      have k2 : Below w.heap.size w w2 := by rw [← hw2]; exact k1.trans ((grow w1 _).mono k1.size)
      clear hw2 k1 CF
      go_wp2_with fail
      go_ret
      exact ⟨rfl, k2⟩
  · rw [decide_eq_false hl] at CF
    clear rl rb il ub
    go_enter Try.func3, Try.ntmps3
    go_wp2_with fail
    refine (live_yes _).mono ?_
    rintro _ w1 ⟨rfl, k1⟩
    go_wp2_with fail
    refine (CF.out w1 (RL.out.on k1)).mono ?_
    rintro _ w2 ⟨rfl, hw2⟩
    have k2 : Below w.heap.size w w2 := by rw [← hw2]; exact k1.trans ((grow w1 _).mono k1.size)
    clear hw2 k1 CF
    go_wp2_with fail
    go_ret
    exact ⟨rfl, k2⟩
theorem law_types : ∀ t ∈ Try.f3.params.toList, Try.prog.readableRec t = true ∧ t < Try.prog.types.size := by
  have h : (Try.f3.params.toList.all fun t => Try.prog.readableRec t && decide (t < Try.prog.types.size)) = true := by kernel_rfl
  intro t ht
  simpa using List.all_eq_true.1 h t ht
set_option maxRecDepth 100000 in
theorem lifted (os : Os) (started : os.Started) (H : Type) (enc : TypeId × Value → H) :
    ReturnsInHanded {} Try.checked os 3 .any (Rows.indexWritesSpec.pre6 enc Try.prog Try.f3 Rows.indexWritesRow.domain false) (Rows.indexWritesSpec.post enc Try.prog Try.f3 false true false false) := by
  refine returnsInHanded_of_change_sized (C := Try.checked) own started (by kernel_rfl) Try.func3
    (ChangeSpec.witness6 (enc := enc) (C := Try.checked) false ⟨#[], #[.int .i64 0, .slice none 0 0, .slice none 0 0, .int .i64 0], []⟩ 8 (by kernel_rfl) (by kernel_rfl) (by kernel_rfl) (by kernel_rfl)) ?_
  intro W base args ds gs before hval0 hW hcnd hsz0 _
  have hval : ∀ (j : Nat) t v, Try.f3.params[j]? = some t → args[j]? = some v → Value.okWide Try.prog W .any base t v := hval0
  have hW' := hW
  obtain ⟨p, q, hA0, hV, rfl, hfz, hnd⟩ := hW
  have hA : DataW.TrodAll enc Try.prog W 0 (fun _ => true) true Try.f3.params.toList args.toList ds p := hA0
  rw [Try.params3] at hA hval
  obtain ⟨v0, vs0, d0, ds0, p0, q0, hargs, rfl, rfl, h0, r0⟩ := trodAll_cons hA
  obtain ⟨v1, vs1, d1, ds1, p1, q1, rfl, rfl, rfl, h1, r1⟩ := trodAll_cons r0
  obtain ⟨v2, vs2, d2, ds2, p2, q2, rfl, rfl, rfl, h2, r2⟩ := trodAll_cons r1
  obtain ⟨v3, vs3, d3, ds3, p3, q3, rfl, rfl, rfl, h3, r3⟩ := trodAll_cons r2
  obtain ⟨rfl, rfl, rfl⟩ := trodAll_nil r3
  obtain rfl : args = #[v0, v1, v2, v3] := by cases args; simp_all
  obtain ⟨rfl, rfl⟩ := trodVars_none hV
  obtain ⟨dim, rfl, rfl, rfl, w0⟩ := open_int Try.underlying3 (hval 0 3 v0 rfl rfl) h0
  obtain ⟨Al, l, cl, rfl, rdl, il, lcl, lml, dzl⟩ := open_numsd Try.underlying22 Try.underlying3 cells_int (hval 1 22 v1 rfl rfl) h1
  obtain ⟨Ab, b, cb, rfl, rdb, ib, lcb, lmb, dzb⟩ := open_numsd Try.underlying23 Try.underlying5 cells_u8 (hval 2 23 v2 rfl rfl) h2
  obtain ⟨a, rfl, rfl, rfl, w3⟩ := open_int Try.underlying3 (hval 3 3 v3 rfl rfl) h3
  have hsz : (DataW.weightsEach Try.prog (Try.f3.params.toList ++ []) ([_, d1, d2, _] ++ [])).all (· ≤ reachBytes) = true := hsz0
  rw [Try.params3] at hsz
  have szl : l.length ≤ 140737488355327 := by
    rcases dzl with rfl | ⟨es, sp, hd, hl⟩
    · simp
    · have h := sized_slice hsz (j := 1) (t := 22) rfl (congrArg some hd) Try.underlying22
      have hb : 1 ≤ Try.prog.bytesOf 3 := by decide +kernel
      have h2 := Nat.le_trans (Nat.mul_le_mul_left (es.length + sp.length) hb) h
      have h3 := reachBytes_lt
      rw [← hl]
      omega
  have szb : b.length ≤ 140737488355327 := by
    rcases dzb with rfl | ⟨es, sp, hd, hl⟩
    · simp
    · have h := sized_slice hsz (j := 2) (t := 23) rfl (congrArg some hd) Try.underlying23
      have hb : 1 ≤ Try.prog.bytesOf 5 := by decide +kernel
      have h2 := Nat.le_trans (Nat.mul_le_mul_left (es.length + sp.length) hb) h
      have h3 := reachBytes_lt
      rw [← hl]
      omega
  clear hA0 hval0
  refine (walk dim Al l cl Ab b cb a W (I64.of_wf w0) rdl (fun x hx => I64.of_wf (il x hx)) lcl lml szl rdb (fun x hx => bounds_u8 (ib x hx)) lcb lmb szb (I64.of_wf w3)).mono fun e W' ⟨he, hb⟩ => ?_
  subst he
  exact ⟨_, rfl, law_post laid (fun t ht => law_types t ht) rfl hW' ⟨rfl, rfl, rfl⟩ (by kernel_rfl) Try.underlying4 hb⟩

theorem over : Rows.indexWritesRow.holds Try.pinned (OpenSpec.ofChange Rows.indexWritesSpec) :=
  OpenClaim.holds_of_wide 3 Try.f3 rfl rfl rfl rfl rfl rfl rfl ⟨rfl, rfl, rfl, rfl, rfl⟩ rfl rfl rfl rfl rfl (by kernel_rfl) Try.func3 (by kernel_rfl)
    (of_decide_eq_true (by kernel_rfl)) (by unfold Func.isWrapper; first | (rw [if_pos (by decide +kernel)]; kernel_rfl) | (rw [if_neg (by decide +kernel)]; exact ⟨rfl, rfl⟩))
    (fun os started H enc _ => lifted os started H enc)

theorem proved : Rows.IndexWritesSaid := over
end Go.Proofs.Ytgdkmgepconnpaa.IndexWrites
