
/-
  IndexLeft answers true for every input. No condition.
-/
import Derived.SizedLaws
import Derived.Test.YtgdkmgepconnpaaIxLv
import Derived.Test.YtgdkmgepconnpaaIxN
import Derived.Test.YtgdkmgepconnpaaArg
import Derived.Test.YtgdkmgepconnpaaLaw
namespace Go.Proofs.Ytgdkmgepconnpaa.IndexLeft
open Go.ChangeShapes Go.WideShapes Go.ChangeAt Go.RowKit
set_option maxHeartbeats 400000
set_option linter.unusedVariables false
open Go.Proofs.Ytgdkmgepconnpaa
set_option maxHeartbeats 2000000 in
set_option maxRecDepth 100000 in
theorem walk (dim : Int) (Al : Option Addr) (l : List Int) (cl : Nat) (w : World) (hdim : I64 dim)
    (rl : Rd (Value.int .i64) w w.heap.size Al l) (il : I64s l) (ll : l.length ≤ cl) (ml : cl ≤ 9223372036854775807) (sl : l.length ≤ 140737488355327) :
    Calls Try.prog 8 #[.int .i64 dim, .slice Al l.length cl] w fun e w' => e = .returned (.bool true) ∧ Below w.heap.size w w' := by
  have RL := hid rl
  have CF := hid (fun W h => few_one (A := Al) (c := cl) l sl W h)
  have hdim' := hdim
  unfold I64 at hdim'
  by_cases hl : l.length ≤ 600
  · rw [decide_eq_true hl] at CF
    by_cases hd : 300 < dim ∧ dim ≤ 4096
    · have d1 : 300 < dim := hd.1
      have d2 : dim ≤ 4096 := hd.2
      clear rl il hd
      go_enter Try.func8, Try.ntmps8
      go_wp2_with fail
      refine (live_yes _).mono ?_
      rintro _ w1 ⟨rfl, k1⟩
      go_wp2_with fail
      refine (CF.out w1 (RL.out.on k1)).mono ?_
      rintro _ w2 ⟨rfl, hw2⟩
      have k2 : Below w.heap.size w w2 := by rw [← hw2]; exact k1.trans ((grow w1 _).mono k1.size)
      clear hw2 k1 CF
      go_wp2_with fail
      go_ret
      exact ⟨rfl, k2⟩
    · have C1 := hid (fun W h => ix_Left (A := Al) (c := cl) dim l hdim (by omega) W h)
      by_cases hE : chkE dim l = 0
      · obtain ⟨K, m, rfl, K1, K4, e1, e2, e3, e4, e5⟩ := left_all hE
        have hKd : (K : Int) ≤ 300 := by omega
        rw [e1, hE] at C1
        have C2 := hid (fun (A : Option Addr) (c : Nat) (W : World) (h : Rd (Value.int .i64) W W.heap.size A m) => ix_Left (A := A) (c := c) K m hdim (by omega) W h)
        rw [e3, e2] at C2
        have C3 := hid (fun (A : Option Addr) (c : Nat) (W : World) (h : RdRows W W.heap.size A [m, l]) => ix_Merge (A := A) (c := c) [m, l] (by simp) (by simp; omega) W h)
        rw [e4, show ([m, l] : List (List Int)).length = 2 from rfl] at C3
        have CQ := hid (fun (A B : Option Addr) (c d : Nat) (W : World) (h1 : Rd (Value.int .i64) W W.heap.size A l) (h2 : Rd (Value.int .i64) W W.heap.size B l) => equal_yes (X := l) (by omega) (A := A) (B := B) (c := c) (d := d) W h1 h2)
        have HU := hid (fun (k : Nat) (x : Int) (hx : (upI K)[k]? = some x) (hk : k < K) => show x = (k : Int) by rw [upI_at hk] at hx; injection hx with hx; exact hx.symm)
        have hUl := upI_len K
        obtain ⟨U, hU⟩ : ∃ U, upI K = U := ⟨_, rfl⟩
        rw [hU] at C3 HU hUl
        have t1 : ((U.length : Int) != (K : Int)) = false := by simp; omega
        have t2 : ((m.length : Int) + (l.length : Int) != (K : Int)) = false := by simp; omega
        have hml : m.length ≤ 4096 := by omega
        clear e1 e2 e3 e4 hE hU rl il hd hdim
        go_enter Try.func8, Try.ntmps8
        go_wp2_with fail
        refine (live_yes _).mono ?_
        rintro _ w1 ⟨rfl, k1⟩
        go_wp2_with fail
        refine (CF.out w1 (RL.out.on k1)).mono ?_
        rintro _ w2 ⟨rfl, hw2⟩
        have k2 : Below w.heap.size w w2 := by rw [← hw2]; exact k1.trans ((grow w1 _).mono k1.size)
        clear hw2 k1 CF
        go_wp2_with fail
        refine (C1.out w2 (RL.out.on k2)).mono ?_
        rintro _ w3 ⟨A3, c3, rfl, ho3, hb3⟩
        have k3 := k2.trans (hb3.mono k2.size)
        have HS3 := hid (own_rd ho3)
        have HO3 := hid ho3
        clear ho3
        clear hb3 k2
        go_wp2_with fail
        refine (C2.out _ _ w3 HS3.out).mono ?_
        rintro _ w4 ⟨A4, c4, rfl, ho4, hb4⟩
        have k4 := k3.trans (hb4.mono k3.size)
        have HL5 := hid (HS3.out.on hb4)
        clear HS3
        have HS4 := hid (own_rd ho4)
        have HO4 := hid ho4
        clear ho4
        clear hb4 k3
        go_wp2_with fail
        have kz := grow w4 (.cells #[.slice A3 m.length c3, .slice Al l.length cl] 22)
        refine (C3.out _ _ _ (rows_two m l w4 HL5.out (RL.out.on k4) _)).mono ?_
        rintro _ w5 ⟨A5, c5, rfl, ho5, hb5⟩
        have k5 := k4.trans ((kz.trans (hb5.mono kz.size)).mono k4.size)
        have RU := hid (own_rd ho5)
        have RB5 := hid (HS4.out.on (kz.trans (hb5.mono kz.size)))
        clear ho5 hb5 kz k4
        rw [hUl]
        go_wp2_with fail
        refine (CQ.out _ _ _ _ w5 RB5.out (RL.out.on k5)).mono ?_
        rintro _ w6 ⟨rfl, hb6⟩
        have k6 := k5.trans (hb6.mono k5.size)
        have RU6 := hid (RU.out.on hb6)
        clear hb6 k5 RU RB5
        go_wp2_with fail
        go_loop [11, 12, 78] (fun i0 x0 i => ∃ k : Nat, k ≤ K ∧ i = .int .i64 k) (fun _ _ i => K - (intOf i).toNat)
        case atStart => exact ⟨0, by omega, rfl⟩
        case round =>
          obtain ⟨k, hk, rfl⟩ := hrel
          by_cases hlt : k < K
          · obtain ⟨b1, o1, x, rfl, l1, ex, c1⟩ := RU6.out.at_ (k := k) (by rw [hUl]; exact hlt)
            obtain rfl := HU.out k x ex hlt
            have t3 : ((k : Int) != (k : Int)) = false := by simp
            clear ex
            go_wp2_with fail
            go_round
            case rel => exact ⟨k + 1, by omega, by go_num⟩
            case measure => simp [intOf]; omega
          · obtain rfl : k = K := by omega
            go_wp2_with fail
            go_ret
            exact ⟨rfl, k6⟩
      · have hne : (chkE dim l != 0) = true := by simpa using hE
        have e : lfV dim l = [] := if_neg hE
        rw [e] at C1
        obtain ⟨E, hEE⟩ : ∃ E, chkE dim l = E := ⟨_, rfl⟩
        rw [hEE] at C1 hne
        clear e hEE hE rl il hdim
        by_cases d0 : 300 < dim
        · have d3 : 4096 < dim := by omega
          go_enter Try.func8, Try.ntmps8
          go_wp2_with fail
          refine (live_yes _).mono ?_
          rintro _ w1 ⟨rfl, k1⟩
          go_wp2_with fail
          refine (CF.out w1 (RL.out.on k1)).mono ?_
          rintro _ w2 ⟨rfl, hw2⟩
          have k2 : Below w.heap.size w w2 := by rw [← hw2]; exact k1.trans ((grow w1 _).mono k1.size)
          clear hw2 k1 CF
          go_wp2_with fail
          refine (C1.out w2 (RL.out.on k2)).mono ?_
          rintro _ w3 ⟨A3, c3, rfl, ho3, hb3⟩
          have k3 := k2.trans (hb3.mono k2.size)
          clear ho3
          clear hb3 k2
          go_wp2_with fail
          go_ret
          exact ⟨rfl, k3⟩
        · have d3 : dim ≤ 300 := by omega
          go_enter Try.func8, Try.ntmps8
          go_wp2_with fail
          refine (live_yes _).mono ?_
          rintro _ w1 ⟨rfl, k1⟩
          go_wp2_with fail
          refine (CF.out w1 (RL.out.on k1)).mono ?_
          rintro _ w2 ⟨rfl, hw2⟩
          have k2 : Below w.heap.size w w2 := by rw [← hw2]; exact k1.trans ((grow w1 _).mono k1.size)
          clear hw2 k1 CF
          go_wp2_with fail
          refine (C1.out w2 (RL.out.on k2)).mono ?_
          rintro _ w3 ⟨A3, c3, rfl, ho3, hb3⟩
          have k3 := k2.trans (hb3.mono k2.size)
          clear ho3
          clear hb3 k2
          go_wp2_with fail
          go_ret
          exact ⟨rfl, k3⟩
  · rw [decide_eq_false hl] at CF
    clear rl il
    go_enter Try.func8, Try.ntmps8
    go_wp2_with fail
    refine (live_yes _).mono ?_
    rintro _ w1 ⟨rfl, k1⟩
    go_wp2_with fail
    refine (CF.out w1 (RL.out.on k1)).mono ?_
    rintro _ w2 ⟨rfl, hw2⟩
    have k2 : Below w.heap.size w w2 := by rw [← hw2]; exact k1.trans ((grow w1 _).mono k1.size)
    clear hw2 k1 CF
    go_wp2_with fail
    go_ret
    exact ⟨rfl, k2⟩
theorem law_types : ∀ t ∈ Try.f8.params.toList, Try.prog.readableRec t = true ∧ t < Try.prog.types.size := by
  have h : (Try.f8.params.toList.all fun t => Try.prog.readableRec t && decide (t < Try.prog.types.size)) = true := by kernel_rfl
  intro t ht
  simpa using List.all_eq_true.1 h t ht
set_option maxRecDepth 100000 in
theorem lifted (os : Os) (started : os.Started) (H : Type) (enc : TypeId × Value → H) :
    ReturnsInHanded {} Try.checked os 8 .any (Rows.indexLeftSpec.pre6 enc Try.prog Try.f8 Rows.indexLeftRow.domain false) (Rows.indexLeftSpec.post enc Try.prog Try.f8 false true false false) := by
  refine returnsInHanded_of_change_sized (C := Try.checked) own started (by kernel_rfl) Try.func8
    (ChangeSpec.witness6 (enc := enc) (C := Try.checked) false ⟨#[], #[.int .i64 0, .slice none 0 0], []⟩ 8 (by kernel_rfl) (by kernel_rfl) (by kernel_rfl) (by kernel_rfl)) ?_
  intro W base args ds gs before hval0 hW hcnd hsz0 _
  have hval : ∀ (j : Nat) t v, Try.f8.params[j]? = some t → args[j]? = some v → Value.okWide Try.prog W .any base t v := hval0
  have hW' := hW
  obtain ⟨p, q, hA0, hV, rfl, hfz, hnd⟩ := hW
  have hA : DataW.TrodAll enc Try.prog W 0 (fun _ => true) true Try.f8.params.toList args.toList ds p := hA0
  rw [Try.params8] at hA hval
  obtain ⟨v0, vs0, d0, ds0, p0, q0, hargs, rfl, rfl, h0, r0⟩ := trodAll_cons hA
  obtain ⟨v1, vs1, d1, ds1, p1, q1, rfl, rfl, rfl, h1, r1⟩ := trodAll_cons r0
  obtain ⟨rfl, rfl, rfl⟩ := trodAll_nil r1
  obtain rfl : args = #[v0, v1] := by cases args; simp_all
  obtain ⟨rfl, rfl⟩ := trodVars_none hV
  obtain ⟨dim, rfl, rfl, rfl, w0⟩ := open_int Try.underlying3 (hval 0 3 v0 rfl rfl) h0
  obtain ⟨Al, l, cl, rfl, rdl, il, lcl, lml, dzl⟩ := open_numsd Try.underlying22 Try.underlying3 cells_int (hval 1 22 v1 rfl rfl) h1
  have hsz : (DataW.weightsEach Try.prog (Try.f8.params.toList ++ []) ([_, d1] ++ [])).all (· ≤ reachBytes) = true := hsz0
  rw [Try.params8] at hsz
  have szl : l.length ≤ 140737488355327 := by
    rcases dzl with rfl | ⟨es, sp, hd, hl⟩
    · simp
    · have h := sized_slice hsz (j := 1) (t := 22) rfl (congrArg some hd) Try.underlying22
      have hb : 1 ≤ Try.prog.bytesOf 3 := by decide +kernel
      have h2 := Nat.le_trans (Nat.mul_le_mul_left (es.length + sp.length) hb) h
      have h3 := reachBytes_lt
      rw [← hl]
      omega
  clear hA0 hval0
  refine (walk dim Al l cl W (I64.of_wf w0) rdl (fun x hx => I64.of_wf (il x hx)) lcl lml szl).mono fun e W' ⟨he, hb⟩ => ?_
  subst he
  exact ⟨_, rfl, law_post laid (fun t ht => law_types t ht) rfl hW' ⟨rfl, rfl, rfl⟩ (by kernel_rfl) Try.underlying4 hb⟩

theorem over : Rows.indexLeftRow.holds Try.pinned (OpenSpec.ofChange Rows.indexLeftSpec) :=
  OpenClaim.holds_of_wide 8 Try.f8 rfl rfl rfl rfl rfl rfl rfl ⟨rfl, rfl, rfl, rfl, rfl⟩ rfl rfl rfl rfl rfl (by kernel_rfl) Try.func8 (by kernel_rfl)
    (of_decide_eq_true (by kernel_rfl)) (by unfold Func.isWrapper; first | (rw [if_pos (by decide +kernel)]; kernel_rfl) | (rw [if_neg (by decide +kernel)]; exact ⟨rfl, rfl⟩))
    (fun os started H enc _ => lifted os started H enc)

theorem proved : Rows.IndexLeftSaid := over
end Go.Proofs.Ytgdkmgepconnpaa.IndexLeft
