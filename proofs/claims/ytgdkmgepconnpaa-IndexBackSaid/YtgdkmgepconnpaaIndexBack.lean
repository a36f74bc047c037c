
/-
  IndexBack answers true for every input. No condition.
-/
import Derived.SizedLaws
import Derived.Test.YtgdkmgepconnpaaIxLv
import Derived.Test.YtgdkmgepconnpaaIxN
import Derived.Test.YtgdkmgepconnpaaArg
import Derived.Test.YtgdkmgepconnpaaLaw
namespace Go.Proofs.Ytgdkmgepconnpaa.IndexBack
open Go.ChangeShapes Go.WideShapes Go.ChangeAt Go.RowKit
set_option maxHeartbeats 400000
set_option linter.unusedVariables false
open Go.Proofs.Ytgdkmgepconnpaa
set_option maxHeartbeats 2000000 in
set_option maxRecDepth 100000 in
theorem walk (dim : Int) (Al : Option Addr) (l : List Int) (cl : Nat) (Aa : Option Addr) (a : List Int) (ca : Nat) (Ab : Option Addr) (b : List Int) (cb : Nat) (w : World) (hdim : I64 dim)
    (rl : Rd (Value.int .i64) w w.heap.size Al l) (il : I64s l) (ll : l.length ≤ cl) (ml : cl ≤ 9223372036854775807) (sl : l.length ≤ 140737488355327)
    (ra : Rd (Value.int .u8) w w.heap.size Aa a) (ua : U8s a) (la : a.length ≤ ca) (ma : ca ≤ 9223372036854775807) (sa : a.length ≤ 140737488355327)
    (rb : Rd (Value.int .u8) w w.heap.size Ab b) (ub : U8s b) (lb : b.length ≤ cb) (mb : cb ≤ 9223372036854775807) (sb : b.length ≤ 140737488355327) :
    Calls Try.prog 5 #[.int .i64 dim, .slice Al l.length cl, .slice Aa a.length ca, .slice Ab b.length cb] w fun e w' => e = .returned (.bool true) ∧ Below w.heap.size w w' := by
  have RL := hid rl
  have RA := hid ra
  have RB := hid rb
  have CF := hid (fun W h => few_one (A := Al) (c := cl) l sl W h)
  by_cases hl : l.length ≤ 600
  · rw [decide_eq_true hl] at CF
    by_cases hb : a.length + b.length ≤ 2000
    · have C1 := hid (fun W h => ix_Put (A := Al) (c := cl) dim l hdim (by omega) W h)
      have C2 : Hid (∀ W, Rd (Value.int .u8) W W.heap.size Ab b → Calls Try.prog 13 #[.int .i64 dim, .slice Ab b.length cb, .int .i64 0] W (OwnX (gixR dim b 0).1 (gixR dim b 0).2.1 (gixR dim b 0).2.2 W)) := hid (fun W h => ix_Get (A := Ab) (c := cb) dim b hdim lb mb ub 0 (by decide) W h)
      have uX := pixV_u8 dim l
      have hXl := pixV_len dim l
      have hG := gix_len dim b 0
      have HB := hid (fun m a' (h : gixR dim b 0 = (m, a', 0)) => gix_back ub h)
      have HN := hid (fun m a' e (h : gixR dim b 0 = (m, a', e)) (he : e ≠ 0) => gix_nil h he)
      have HP := hid (fun (h : chkE dim l = 0) (B : List Int) (hB : B = a ++ (pixV dim l ++ b)) => gix_put h hB)
      obtain ⟨X, hX⟩ : ∃ X, pixV dim l = X := ⟨_, rfl⟩
      obtain ⟨E, hE⟩ : ∃ X, chkE dim l = X := ⟨_, rfl⟩
      obtain ⟨⟨G, y, F⟩, hG1⟩ : ∃ r, gixR dim b 0 = r := ⟨_, rfl⟩
      rw [hX, hE] at C1 HP
      rw [hX] at uX hXl
      rw [hG1] at C2 hG HB HN
      simp only at C2 hG
      have HB1 := hid (fun (he : F = 0) => HB.out G y (by rw [he]))
      have HN1 := hid (fun (he : F ≠ 0) => HN.out G y F rfl he)
      have CQ := hid (fun (A B : Option Addr) (c d : Nat) (W : World) (h1 : Rd (Value.int .i64) W W.heap.size A l) (h2 : Rd (Value.int .i64) W W.heap.size B l) => equal_yes (X := l) (by omega) (A := A) (B := B) (c := c) (d := d) W h1 h2)
      have CPM := hid (fun (A : Option Addr) (c : Nat) (W : World) (h : Rd (Value.int .i64) W W.heap.size A G) => ix_Put (A := A) (c := c) dim G hdim (by omega) W h)
      have UB := hid ub
      have HPut := HP
      clear HB HN HP
      by_cases hE0 : E = 0
      · subst hE0
        have HG := HPut.out rfl
        obtain ⟨B, hB⟩ : ∃ B, (a ++ X) ++ b = B := ⟨_, rfl⟩
        have hG2 := HG B (by rw [← hB]; simp)
        have uB : U8s B := by rw [← hB]; exact (ua.app uX).app ub
        have hT : (((a ++ X).length : Nat) : Int) = (a.length : Int) + (X.length : Int) := by rw [List.length_append]; omega
        rw [hT] at hG2
        have C3 : Hid (∀ (A : Option Addr) (c : Nat) (W : World), B.length ≤ c → c ≤ 9223372036854775807 → Rd (Value.int .u8) W W.heap.size A B → Calls Try.prog 13 #[.int .i64 dim, .slice A B.length c, .int .i64 (a.length : Int)] W (OwnX l ((a.length : Int) + (X.length : Int)) 0 W)) := hid (fun A c W q1 q2 h => by
          have h := ix_Get (A := A) (c := c) dim B hdim q1 q2 uB (a.length : Int) (by unfold I64; omega) W h
          rw [hG2] at h
          exact h)
        have HBX := hid hB
        have e1 : ((a.length : Int) + (X.length : Int) != (a.length : Int) + (X.length : Int)) = false := by simp
        clear hG2 uB hT HG HPut hB hX hE hG1 uX rl ra rb il ua ub hdim hG
        go_enter Try.func5, Try.ntmps5
        go_wp2_with fail
        refine (live_yes _).mono ?_
        rintro _ w1 ⟨rfl, k1⟩
        go_wp2_with fail
        refine (CF.out w1 (RL.out.on k1)).mono ?_
        rintro _ w2 ⟨rfl, hw2⟩
        have k2 : Below w.heap.size w w2 := by rw [← hw2]; exact k1.trans ((grow w1 _).mono k1.size)
        clear hw2 k1 CF
        go_wp2_with fail
        refine (C1.out w2 (RL.out.on k2)).mono ?_
        rintro _ w3 ⟨A3, c3, rfl, ho3, hb3⟩
        have k3 := k2.trans (hb3.mono k2.size)
        have HS3 := hid (own_rd ho3)
        have HO3 := hid ho3
        clear ho3
        clear hb3 k2
        go_wp2_with (at_builtin; refine wpList_app (Value.int .u8) (fun _ => rfl) _ rfl _ _ 23 rfl w3.heap.size 5 (.int .u8 0) 1 Try.underlying23 info_u8 rfl [] _ 0 rfl (own_nil _ _ _) a _ ca _ rfl (RA.out.on k3) (by simp [maxLen]; omega) (by simp; omega) (Nat.le_refl _) ?_)
        rintro S A4 c4 w4 hS ho4 hb4 _
        replace hS : S = a := hS
        subst hS
        have k4 := k3.trans (hb4.mono k3.size)
        have HO4 := hid ho4
        have RX := hid (HS3.out.on hb4)
        clear ho4
        go_wp2_with (at_builtin; refine wpList_app (Value.int .u8) (fun _ => rfl) _ rfl _ _ 23 rfl w3.heap.size 5 (.int .u8 0) 1 Try.underlying23 info_u8 rfl S _ _ rfl HO4.out X _ _ _ rfl RX.out (by simp [maxLen]; omega) (by first | exact (own_cap HO3.out).2 | omega) hb4.size ?_)
        rintro S2 A5 c5 w5 hS2 ho5 hb5 _
        have HS2 := hid hS2
        have k45 := hb4.trans hb5
        have k5 := k3.trans (k45.mono k3.size)
        have HO5 := hid ho5
        have hS2l : S2.length = S.length + X.length := by rw [hS2, List.length_append]
        clear ho5 hS2 hb5 HO4 RX
        go_wp2_with (at_builtin; refine wpList_app (Value.int .u8) (fun _ => rfl) _ rfl _ _ 23 rfl w3.heap.size 5 (.int .u8 0) 1 Try.underlying23 info_u8 rfl S2 _ _ rfl HO5.out b _ cb _ rfl (RB.out.on k5) (by simp [maxLen]; omega) (by simp; omega) k45.size ?_)
        rintro S3 A6 c6 w6 hS3 ho6 hb6 _
        replace hS3 : S3 = B := by rw [hS3, HS2.out, HBX.out]
        subst hS3
        have k6 := k3.trans ((k45.trans hb6).mono k3.size)
        obtain ⟨q1, q2⟩ := own_cap ho6
        have R6 := hid (own_rd ho6)
        clear ho6 hb6 hb4 k45 k4 k5 HO5 HS2 hS2l
        go_wp2_with fail
        refine (C3.out _ _ w6 q1 q2 R6.out).mono ?_
        rintro _ w7 ⟨A7, c7, rfl, ho7, hb7⟩
        have k7 := k6.trans (hb7.mono k6.size)
        have R7 := hid (own_rd ho7)
        clear ho7 hb7 k6 R6
        go_wp2_with fail
        refine (CQ.out _ _ _ _ w7 R7.out (RL.out.on k7)).mono ?_
        rintro _ w8 ⟨rfl, hb8⟩
        have k8 := k7.trans (hb8.mono k7.size)
        clear hb8 k7 R7
        go_wp2_with fail
        refine (C2.out w8 (RB.out.on k8)).mono ?_
        rintro _ w21 ⟨A21, c21, rfl, ho21, hb21⟩
        have k21 := k8.trans (hb21.mono k8.size)
        have HS21 := hid (own_rd ho21)
        have HO21 := hid ho21
        clear ho21
        clear hb21 k8
        by_cases hF : F = 0
        · obtain ⟨hm0, j, hj, hjb, hjt⟩ := HB1.out hF
          subst hF
          subst hj
          have CPM2 := hid (fun A c W h => CPM.out A c W h)
          rw [hm0] at CPM2
          obtain ⟨R, hR⟩ : ∃ R, pixV dim G = R := ⟨_, rfl⟩
          rw [hR] at CPM2 hjt
          have hRl : R.length = j := by rw [hjt, List.length_take]; omega
          have uR : U8s R := by rw [← hR]; exact pixV_u8 dim G
          subst hRl
          have HJT := hid hjt
          clear HB1 HN1 hR hm0 hjt
          go_wp2_with fail
          refine (CPM2.out _ _ w21 HS21.out).mono ?_
          rintro _ w9 ⟨A9, c9, rfl, ho9, hb9⟩
          have k9 := k21.trans (hb9.mono k21.size)
          have hsl := fun W => run_upto (P := Try.prog) 23 Try.underlying23 Try.sizeOf5 Ab b.length cb R.length (by omega) W
          have hrs := (RB.out.on k9).cut0 lb R.length
          rw [← HJT.out] at hrs
          obtain ⟨A8, hA8⟩ : ∃ A8, cutA Ab 0 cb = A8 := ⟨_, rfl⟩
          rw [hA8] at hsl hrs
          have HR8 := hid hrs
          have R9 := hid (own_rd ho9)
          have CM := hid (same_yes uR)
          have t1 : decide ((R.length : Int) < 0) = false := by simp
          have t2 : decide ((b.length : Int) < (R.length : Int)) = false := by simp; omega
          have t3 : decide (b.length < R.length) = false := by simp; omega
          clear hA8 hrs ho9 hb9 uR
          go_wp2_with fail
          refine (CM.out _ _ _ _ _ _ _ R9.out HR8.out).mono ?_
          rintro _ _ ⟨rfl, rfl⟩
          go_wp2_with fail
          go_ret
          exact ⟨rfl, k9⟩
        · have hne : (F != 0) = true := by simpa using hF
          obtain rfl := HN1.out hF
          clear HB1 HN1
          go_wp2_with fail
          go_ret
          exact ⟨rfl, k21⟩
      · have hne0 : (E == 0) = false := by simpa using hE0
        clear HPut hX hE hG1 uX rl ra rb il ua ub hdim hG hE0
        go_enter Try.func5, Try.ntmps5
        go_wp2_with fail
        refine (live_yes _).mono ?_
        rintro _ w1 ⟨rfl, k1⟩
        go_wp2_with fail
        refine (CF.out w1 (RL.out.on k1)).mono ?_
        rintro _ w2 ⟨rfl, hw2⟩
        have k2 : Below w.heap.size w w2 := by rw [← hw2]; exact k1.trans ((grow w1 _).mono k1.size)
        clear hw2 k1 CF
        go_wp2_with fail
        refine (C1.out w2 (RL.out.on k2)).mono ?_
        rintro _ w3 ⟨A3, c3, rfl, ho3, hb3⟩
        have k3 := k2.trans (hb3.mono k2.size)
        clear ho3
        clear hb3 k2
        go_wp2_with fail
        refine (C2.out w3 (RB.out.on k3)).mono ?_
        rintro _ w4 ⟨A4, c4, rfl, ho4, hb4⟩
        have k4 := k3.trans (hb4.mono k3.size)
        have HS4 := hid (own_rd ho4)
        have HO4 := hid ho4
        clear ho4
        clear hb4 k3
        by_cases hF : F = 0
        · obtain ⟨hm0, j, hj, hjb, hjt⟩ := HB1.out hF
          subst hF
          subst hj
          have CPM2 := hid (fun A c W h => CPM.out A c W h)
          rw [hm0] at CPM2
          obtain ⟨R, hR⟩ : ∃ R, pixV dim G = R := ⟨_, rfl⟩
          rw [hR] at CPM2 hjt
          have hRl : R.length = j := by rw [hjt, List.length_take]; omega
          have uR : U8s R := by rw [← hR]; exact pixV_u8 dim G
          subst hRl
          have HJT := hid hjt
          clear HB1 HN1 hR hm0 hjt
          go_wp2_with fail
          refine (CPM2.out _ _ w4 HS4.out).mono ?_
          rintro _ w9 ⟨A9, c9, rfl, ho9, hb9⟩
          have k9 := k4.trans (hb9.mono k4.size)
          have hsl := fun W => run_upto (P := Try.prog) 23 Try.underlying23 Try.sizeOf5 Ab b.length cb R.length (by omega) W
          have hrs := (RB.out.on k9).cut0 lb R.length
          rw [← HJT.out] at hrs
          obtain ⟨A8, hA8⟩ : ∃ A8, cutA Ab 0 cb = A8 := ⟨_, rfl⟩
          rw [hA8] at hsl hrs
          have HR8 := hid hrs
          have R9 := hid (own_rd ho9)
          have CM := hid (same_yes uR)
          have t1 : decide ((R.length : Int) < 0) = false := by simp
          have t2 : decide ((b.length : Int) < (R.length : Int)) = false := by simp; omega
          have t3 : decide (b.length < R.length) = false := by simp; omega
          clear hA8 hrs ho9 hb9 uR
          go_wp2_with fail
          refine (CM.out _ _ _ _ _ _ _ R9.out HR8.out).mono ?_
          rintro _ _ ⟨rfl, rfl⟩
          go_wp2_with fail
          go_ret
          exact ⟨rfl, k9⟩
        · have hne : (F != 0) = true := by simpa using hF
          obtain rfl := HN1.out hF
          clear HB1 HN1
          go_wp2_with fail
          go_ret
          exact ⟨rfl, k4⟩
    · clear rl ra rb il ua ub
      go_enter Try.func5, Try.ntmps5
      go_wp2_with fail
      refine (live_yes _).mono ?_
      rintro _ w1 ⟨rfl, k1⟩
      go_wp2_with fail
      refine (CF.out w1 (RL.out.on k1)).mono ?_
      rintro _ w2 ⟨rfl, hw2⟩
      have k2 : Below w.heap.size w w2 := by rw [← hw2]; exact k1.trans ((grow w1 _).mono k1.size)
      clear hw2 k1 CF
      go_wp2_with fail
      go_ret
      exact ⟨rfl, k2⟩
  · rw [decide_eq_false hl] at CF
    clear rl ra rb il ua ub
    go_enter Try.func5, Try.ntmps5
    go_wp2_with fail
    refine (live_yes _).mono ?_
    rintro _ w1 ⟨rfl, k1⟩
    go_wp2_with fail
    refine (CF.out w1 (RL.out.on k1)).mono ?_
    rintro _ w2 ⟨rfl, hw2⟩
    have k2 : Below w.heap.size w w2 := by rw [← hw2]; exact k1.trans ((grow w1 _).mono k1.size)
    clear hw2 k1 CF
    go_wp2_with fail
    go_ret
    exact ⟨rfl, k2⟩
theorem law_types : ∀ t ∈ Try.f5.params.toList, Try.prog.readableRec t = true ∧ t < Try.prog.types.size := by
  have h : (Try.f5.params.toList.all fun t => Try.prog.readableRec t && decide (t < Try.prog.types.size)) = true := by kernel_rfl
  intro t ht
  simpa using List.all_eq_true.1 h t ht
set_option maxRecDepth 100000 in
theorem lifted (os : Os) (started : os.Started) (H : Type) (enc : TypeId × Value → H) :
    ReturnsInHanded {} Try.checked os 5 .any (Rows.indexBackSpec.pre6 enc Try.prog Try.f5 Rows.indexBackRow.domain false) (Rows.indexBackSpec.post enc Try.prog Try.f5 false true false false) := by
  refine returnsInHanded_of_change_sized (C := Try.checked) own started (by kernel_rfl) Try.func5
    (ChangeSpec.witness6 (enc := enc) (C := Try.checked) false ⟨#[], #[.int .i64 0, .slice none 0 0, .slice none 0 0, .slice none 0 0], []⟩ 8 (by kernel_rfl) (by kernel_rfl) (by kernel_rfl) (by kernel_rfl)) ?_
  intro W base args ds gs before hval0 hW hcnd hsz0 _
  have hval : ∀ (j : Nat) t v, Try.f5.params[j]? = some t → args[j]? = some v → Value.okWide Try.prog W .any base t v := hval0
  have hW' := hW
  obtain ⟨p, q, hA0, hV, rfl, hfz, hnd⟩ := hW
  have hA : DataW.TrodAll enc Try.prog W 0 (fun _ => true) true Try.f5.params.toList args.toList ds p := hA0
  rw [Try.params5] at hA hval
  obtain ⟨v0, vs0, d0, ds0, p0, q0, hargs, rfl, rfl, h0, r0⟩ := trodAll_cons hA
  obtain ⟨v1, vs1, d1, ds1, p1, q1, rfl, rfl, rfl, h1, r1⟩ := trodAll_cons r0
  obtain ⟨v2, vs2, d2, ds2, p2, q2, rfl, rfl, rfl, h2, r2⟩ := trodAll_cons r1
  obtain ⟨v3, vs3, d3, ds3, p3, q3, rfl, rfl, rfl, h3, r3⟩ := trodAll_cons r2
  obtain ⟨rfl, rfl, rfl⟩ := trodAll_nil r3
  obtain rfl : args = #[v0, v1, v2, v3] := by cases args; simp_all
  obtain ⟨rfl, rfl⟩ := trodVars_none hV
  obtain ⟨dim, rfl, rfl, rfl, w0⟩ := open_int Try.underlying3 (hval 0 3 v0 rfl rfl) h0
  obtain ⟨Al, l, cl, rfl, rdl, il, lcl, lml, dzl⟩ := open_numsd Try.underlying22 Try.underlying3 cells_int (hval 1 22 v1 rfl rfl) h1
  obtain ⟨Aa, a, ca, rfl, rda, ia, lca, lma, dza⟩ := open_numsd Try.underlying23 Try.underlying5 cells_u8 (hval 2 23 v2 rfl rfl) h2
  obtain ⟨Ab, b, cb, rfl, rdb, ib, lcb, lmb, dzb⟩ := open_numsd Try.underlying23 Try.underlying5 cells_u8 (hval 3 23 v3 rfl rfl) h3
  have hsz : (DataW.weightsEach Try.prog (Try.f5.params.toList ++ []) ([_, d1, d2, d3] ++ [])).all (· ≤ reachBytes) = true := hsz0
  rw [Try.params5] at hsz
  have szl : l.length ≤ 140737488355327 := by
    rcases dzl with rfl | ⟨es, sp, hd, hl⟩
    · simp
    · have h := sized_slice hsz (j := 1) (t := 22) rfl (congrArg some hd) Try.underlying22
      have hb : 1 ≤ Try.prog.bytesOf 3 := by decide +kernel
      have h2 := Nat.le_trans (Nat.mul_le_mul_left (es.length + sp.length) hb) h
      have h3 := reachBytes_lt
      rw [← hl]
      omega
  have sza : a.length ≤ 140737488355327 := by
    rcases dza with rfl | ⟨es, sp, hd, hl⟩
    · simp
    · have h := sized_slice hsz (j := 2) (t := 23) rfl (congrArg some hd) Try.underlying23
      have hb : 1 ≤ Try.prog.bytesOf 5 := by decide +kernel
      have h2 := Nat.le_trans (Nat.mul_le_mul_left (es.length + sp.length) hb) h
      have h3 := reachBytes_lt
      rw [← hl]
      omega
  have szb : b.length ≤ 140737488355327 := by
    rcases dzb with rfl | ⟨es, sp, hd, hl⟩
    · simp
    · have h := sized_slice hsz (j := 3) (t := 23) rfl (congrArg some hd) Try.underlying23
      have hb : 1 ≤ Try.prog.bytesOf 5 := by decide +kernel
      have h2 := Nat.le_trans (Nat.mul_le_mul_left (es.length + sp.length) hb) h
      have h3 := reachBytes_lt
      rw [← hl]
      omega
  clear hA0 hval0
  refine (walk dim Al l cl Aa a ca Ab b cb W (I64.of_wf w0) rdl (fun x hx => I64.of_wf (il x hx)) lcl lml szl rda (fun x hx => bounds_u8 (ia x hx)) lca lma sza rdb (fun x hx => bounds_u8 (ib x hx)) lcb lmb szb).mono fun e W' ⟨he, hb⟩ => ?_
  subst he
  exact ⟨_, rfl, law_post laid (fun t ht => law_types t ht) rfl hW' ⟨rfl, rfl, rfl⟩ (by kernel_rfl) Try.underlying4 hb⟩

theorem over : Rows.indexBackRow.holds Try.pinned (OpenSpec.ofChange Rows.indexBackSpec) :=
  OpenClaim.holds_of_wide 5 Try.f5 rfl rfl rfl rfl rfl rfl rfl ⟨rfl, rfl, rfl, rfl, rfl⟩ rfl rfl rfl rfl rfl (by kernel_rfl) Try.func5 (by kernel_rfl)
    (of_decide_eq_true (by kernel_rfl)) (by unfold Func.isWrapper; first | (rw [if_pos (by decide +kernel)]; kernel_rfl) | (rw [if_neg (by decide +kernel)]; exact ⟨rfl, rfl⟩))
    (fun os started H enc _ => lifted os started H enc)

theorem proved : Rows.IndexBackSaid := over
end Go.Proofs.Ytgdkmgepconnpaa.IndexBack
