
/-
  IndexSpreads answers true for every input. No condition.
-/
import Derived.SizedLaws
import Derived.Test.YtgdkmgepconnpaaIxLv
import Derived.Test.YtgdkmgepconnpaaIxN
import Derived.Test.YtgdkmgepconnpaaArg
import Derived.Test.YtgdkmgepconnpaaLaw
namespace Go.Proofs.Ytgdkmgepconnpaa.IndexSpreads
open Go.ChangeShapes Go.WideShapes Go.ChangeAt Go.RowKit
set_option maxHeartbeats 400000
set_option linter.unusedVariables false
open Go.Proofs.Ytgdkmgepconnpaa
set_option maxHeartbeats 2000000 in
set_option maxRecDepth 100000 in
theorem walk (Al : Option Addr) (l : List Int) (cl : Nat) (Av : Option Addr) (v : List Int) (cv : Nat) (Au : Option Addr) (u : List Int) (cu : Nat) (w : World)
    (rl : Rd (Value.int .i64) w w.heap.size Al l) (il : I64s l) (ll : l.length ≤ cl) (ml : cl ≤ 9223372036854775807) (sl : l.length ≤ 140737488355327)
    (rv : Rd (Value.int .i64) w w.heap.size Av v) (iv : I64s v) (lv : v.length ≤ cv) (mv : cv ≤ 9223372036854775807) (sv : v.length ≤ 140737488355327)
    (ru : Rd (Value.int .i64) w w.heap.size Au u) (iu : I64s u) (lu : u.length ≤ cu) (mu : cu ≤ 9223372036854775807) (su : u.length ≤ 140737488355327) :
    Calls Try.prog 6 #[.slice Al l.length cl, .slice Av v.length cv, .slice Au u.length cu] w fun e w' => e = .returned (.bool true) ∧ Below w.heap.size w w' := by
  have RL := hid rl
  have RV := hid rv
  have RU := hid ru
  have CF := hid (fun W h => few_one (A := Al) (c := cl) l sl W h)
  by_cases hl : l.length ≤ 600
  · rw [decide_eq_true hl] at CF
    have C0 := hid (fun W h => ix_Check (A := Al) (c := cl) v.length l (by unfold I64; omega) (by omega) W h)
    by_cases hE : chkE v.length l = 0
    · obtain ⟨m, a, b, x, y, v4, e1, e2, e3, e4, e5, e6, e7, e8, e9, e10, n1, n2, n3, n4, n5, hz⟩ := spreads hE
      have hdim : I64 (v.length : Int) := by unfold I64; omega
      have CG := hid (fun (W : World) h1 h2 => ix_Gather (A := Al) (B := Av) (c := cl) (d := cv) l v (by omega) (by omega) W h1 h2)
      have CL := hid (fun (W : World) h1 => ix_Left (A := Al) (c := cl) v.length l hdim (by omega) W h1)
      have CG2 := hid (fun (A : Option Addr) (c : Nat) (W : World) (h1 : Rd (Value.int .i64) W W.heap.size A m) h2 => ix_Gather (A := A) (B := Av) (c := c) (d := cv) m v (by omega) (by omega) W h1 h2)
      have CX := hid (fun (B : Option Addr) (d : Nat) (W : World) h1 (h2 : Rd (Value.int .i64) W W.heap.size B a) => ix_Spread (A := Al) (B := B) (c := cl) (d := d) v.length l a hdim (by omega) (by omega) W h1 h2)
      have CY := hid (fun (A B : Option Addr) (c d : Nat) (W : World) (h1 : Rd (Value.int .i64) W W.heap.size A m) (h2 : Rd (Value.int .i64) W W.heap.size B b) => ix_Spread (A := A) (B := B) (c := c) (d := d) v.length m b hdim (by omega) (by omega) W h1 h2)
      have HSB := hid (fun (q : List Int) (hq : l.length = q.length) => spread_back hE hq)
      rw [hE] at C0
      rw [e3, e4] at CG
      rw [e1, hE] at CL
      rw [e5, e6] at CG2
      rw [e7, e8] at CX
      rw [e9, e10] at CY
      have t1 : ((l.length : Int) + (m.length : Int) != (v.length : Int)) = false := by simp; omega
      have t2 : ((x.length : Int) != (v.length : Int)) = false := by simp; omega
      have t3 : ((y.length : Int) != (v.length : Int)) = false := by simp; omega
      have hm4 : m.length ≤ 4096 := by omega
      have HZ := hid hz
      have IV := hid iv
      have NN : Hid (l.length + m.length = v.length ∧ a.length = l.length ∧ b.length = m.length ∧ x.length = v.length ∧ y.length = v.length) := hid ⟨n1, n2, n3, n4, n5⟩
      clear n1 n2 n3 n4 n5 e1 e2 e3 e4 e5 e6 e7 e8 e9 e10 hE hz rl rv ru il iv iu
      go_enter Try.func6, Try.ntmps6
      go_wp2_with fail
      refine (live_yes _).mono ?_
      rintro _ w1 ⟨rfl, k1⟩
      go_wp2_with fail
      refine (CF.out w1 (RL.out.on k1)).mono ?_
      rintro _ w2 ⟨rfl, hw2⟩
      have k2 : Below w.heap.size w w2 := by rw [← hw2]; exact k1.trans ((grow w1 _).mono k1.size)
      clear hw2 k1 CF
      go_wp2_with fail
      refine (C0.out w2 (RL.out.on k2)).mono ?_
      rintro _ w3 ⟨rfl, hb3⟩
      have k3 := k2.trans (hb3.mono k2.size)
      clear hb3 k2
      go_wp2_with fail
      refine (CG.out w3 (RL.out.on k3) (RV.out.on k3)).mono ?_
      rintro _ w4 ⟨A4, c4, rfl, ho4, hb4⟩
      have k4 := k3.trans (hb4.mono k3.size)
      have HS4 := hid (own_rd ho4)
      have HO4 := hid ho4
      clear ho4
      clear hb4 k3
      go_wp2_with fail
      refine (CL.out w4 (RL.out.on k4)).mono ?_
      rintro _ w5 ⟨A5, c5, rfl, ho5, hb5⟩
      have k5 := k4.trans (hb5.mono k4.size)
      have HL6 := hid (HS4.out.on hb5)
      clear HS4
      have HS5 := hid (own_rd ho5)
      have HO5 := hid ho5
      clear ho5
      clear hb5 k4
      go_wp2_with fail
      refine (CG2.out _ _ w5 HS5.out (RV.out.on k5)).mono ?_
      rintro _ w7 ⟨A7, c7, rfl, ho7, hb7⟩
      have k7 := k5.trans (hb7.mono k5.size)
      have HL8 := hid (HL6.out.on hb7)
      clear HL6
      have HL9 := hid (HS5.out.on hb7)
      clear HS5
      have HS7 := hid (own_rd ho7)
      have HO7 := hid ho7
      clear ho7
      clear hb7 k5
      go_wp2_with fail
      refine (CX.out _ _ w7 (RL.out.on k7) HL8.out).mono ?_
      rintro _ w10 ⟨A10, c10, rfl, ho10, hb10⟩
      have k10 := k7.trans (hb10.mono k7.size)
      have HL11 := hid (HL8.out.on hb10)
      clear HL8
      have HL12 := hid (HL9.out.on hb10)
      clear HL9
      have HL13 := hid (HS7.out.on hb10)
      clear HS7
      have HS10 := hid (own_rd ho10)
      have HO10 := hid ho10
      clear ho10
      clear hb10 k7
      go_wp2_with fail
      refine (CY.out _ _ _ _ w10 HL12.out HL13.out).mono ?_
      rintro _ w14 ⟨A14, c14, rfl, ho14, hb14⟩
      have k14 := k10.trans (hb14.mono k10.size)
      have HL15 := hid (HL11.out.on hb14)
      clear HL11
      have HL16 := hid (HL12.out.on hb14)
      clear HL12
      have HL17 := hid (HL13.out.on hb14)
      clear HL13
      have HL18 := hid (HS10.out.on hb14)
      clear HS10
      have HS14 := hid (own_rd ho14)
      have HO14 := hid ho14
      clear ho14
      clear hb14 k10
      have XV := hid (RV.out.on k14)
      go_wp2_with fail
      clear t1 t2 t3
      go_loopw [19, 113] (fun i0 i wr => ∃ k : Nat, k ≤ v.length ∧ i = .int .i64 k ∧ ∃ n, wr = w14.drewN n) (fun _ i _ => v.length - (intOf i).toNat)
      case atStart => exact ⟨0, by omega, rfl, 0, rfl⟩
      case round =>
        obtain ⟨k, hk, rfl, n, rfl⟩ := hrel
        by_cases hlt : k < v.length
        · obtain ⟨b1, o1, z, rfl, l1, ez, c1⟩ := XV.out.at_ (k := k) hlt
          obtain ⟨b2, o2, p, rfl, l2, ep, c2⟩ := HL18.out.at_ (k := k) (by have := NN.out; omega)
          obtain ⟨b3, o3, q, rfl, l3, eq, c3⟩ := HS14.out.at_ (k := k) (by have := NN.out; omega)
          have hiz := IV.out.at_ ez
          unfold I64 at hiz
          have hkx : (k : Int) < (x.length : Int) := by have := NN.out; omega
          have hky : (k : Int) < (y.length : Int) := by have := NN.out; omega
          have hkv : (k : Int) < (v.length : Int) := by omega
          rcases HZ.out k z ez with ⟨h1, h2⟩ | ⟨h1, h2⟩
          · rw [ep] at h1
            rw [eq] at h2
            injection h1 with h1
            injection h2 with h2
            subst h1
            subst h2
            have t4 : (p + 0 != p) = false := by simp
            clear ez ep eq
            by_cases hp : p = 0
            · have t5 : (p != 0) = false := by simpa using hp
              go_wp2_with fail
              go_quiet (fail)
              go_wp2_with fail
              go_roundw
              case rel => exact ⟨k + 1, by omega, by go_num, _, rfl⟩
              case measure => simp [intOf]; omega
            · have t5 : (p != 0) = true := by simpa using hp
              go_wp2_with fail
              go_quiet (fail)
              go_wp2_with fail
              go_roundw
              case rel => exact ⟨k + 1, by omega, by go_num, _, rfl⟩
              case measure => simp [intOf]; omega
          · rw [ep] at h1
            rw [eq] at h2
            injection h1 with h1
            injection h2 with h2
            subst h1
            subst h2
            have t4 : (0 + q != q) = false := by simp
            have t5 : ((0 : Int) != 0) = false := rfl
            clear ez ep eq
            go_wp2_with fail
            go_quiet (fail)
            go_wp2_with fail
            go_roundw
            case rel => exact ⟨k + 1, by omega, by go_num, _, rfl⟩
            case measure => simp [intOf]; omega
        · obtain rfl : k = v.length := by omega
          have kk : Below w.heap.size w (w14.drewN n) := k14.trans (belowN _ _ _)
          obtain ⟨w8, hw8⟩ : ∃ w8, w14.drewN n = w8 := ⟨_, rfl⟩
          rw [hw8] at kk ⊢
          clear hw8 k14 XV HL18 HS14 HZ
          by_cases hul : u.length < l.length
          · go_wp2_with fail
            go_ret
            exact ⟨rfl, kk⟩
          · obtain ⟨q1, q2, q3, q4⟩ := HSB.out (u.take l.length) (by rw [List.length_take]; omega)
            have hsl := fun W => run_upto (P := Try.prog) 35 Try.underlying35 Try.sizeOf2 Au u.length cu l.length (by omega) W
            have hrs := (RU.out.on kk).cut0 lu l.length
            have hql : (u.take l.length).length = l.length := by rw [List.length_take]; omega
            obtain ⟨U, hU⟩ : ∃ U, u.take l.length = U := ⟨_, rfl⟩
            rw [hU] at q1 q2 q3 q4 hrs hql
            obtain ⟨A8, hA8⟩ : ∃ A8, cutA Au 0 cu = A8 := ⟨_, rfl⟩
            rw [hA8] at hsl hrs
            obtain ⟨S, hS⟩ : ∃ S, spV v.length l U = S := ⟨_, rfl⟩
            rw [hS] at q2 q3 q4
            have CS := hid (fun (W : World) h1 (h2 : Rd (Value.int .i64) W W.heap.size A8 U) => ix_Spread (A := Al) (B := A8) (c := cl) (d := cu) v.length l U hdim (by omega) (by omega) W h1 h2)
            rw [hS, q1] at CS
            have CT := hid (fun (B : Option Addr) (d : Nat) (W : World) h1 (h2 : Rd (Value.int .i64) W W.heap.size B S) => ix_Gather (A := Al) (B := B) (c := cl) (d := d) l S (by omega) (by omega) W h1 h2)
            rw [q3, q4] at CT
            have CM := hid (fun (A : Option Addr) (c : Nat) (W : World) (h1 : Rd (Value.int .i64) W W.heap.size A U) (h2 : Rd (Value.int .i64) W W.heap.size A8 U) => same64_yes (X := U) (by omega) (A := A) (B := A8) (c := c) (d := cu) W h1 h2)
            rw [hql] at CS CM
            have HR8 := hid hrs
            have t6 : decide ((l.length : Int) < 0) = false := by simp
            have hul' : l.length ≤ u.length := by omega
            have HQL := hid hql
            clear hU hA8 hS q1 q2 q3 q4 hrs hul hql
            go_wp2_with fail
            refine (CS.out _ (RL.out.on kk) HR8.out).mono ?_
            rintro _ w9 ⟨A9, c9, rfl, ho9, hb9⟩
            have k9 := kk.trans (hb9.mono kk.size)
            have R9 := hid (own_rd ho9)
            have HR9 := hid (HR8.out.on hb9)
            clear ho9 hb9 HR8 kk
            go_wp2_with fail
            refine (CT.out _ _ _ (RL.out.on k9) R9.out).mono ?_
            rintro _ w10 ⟨A10, c10, he10, ho10, hb10⟩
            rw [HQL.out] at he10 ho10
            subst he10
            have k10 := k9.trans (hb10.mono k9.size)
            have R10 := hid (own_rd (xs := U) (by rw [HQL.out]; exact ho10))
            have HR10 := hid (HR9.out.on hb10)
            clear ho10 hb10 HR9 k9 R9
            go_wp2_with fail
            refine (CM.out _ _ _ R10.out HR10.out).mono ?_
            rintro _ w11 ⟨rfl, hb11⟩
            go_wp2_with fail
            go_ret
            exact ⟨rfl, k10.trans (hb11.mono k10.size)⟩
    · have hne : (chkE v.length l != 0) = true := by simpa using hE
      obtain ⟨E, hEE⟩ : ∃ E, chkE v.length l = E := ⟨_, rfl⟩
      rw [hEE] at C0 hne
      clear hEE hE rl rv ru il iv iu
      go_enter Try.func6, Try.ntmps6
      go_wp2_with fail
      refine (live_yes _).mono ?_
      rintro _ w1 ⟨rfl, k1⟩
      go_wp2_with fail
      refine (CF.out w1 (RL.out.on k1)).mono ?_
      rintro _ w2 ⟨rfl, hw2⟩
      have k2 : Below w.heap.size w w2 := by rw [← hw2]; exact k1.trans ((grow w1 _).mono k1.size)
      clear hw2 k1 CF
      go_wp2_with fail
      refine (C0.out w2 (RL.out.on k2)).mono ?_
      rintro _ w3 ⟨rfl, hb3⟩
      have k3 := k2.trans (hb3.mono k2.size)
      clear hb3 k2
      go_wp2_with fail
      go_ret
      exact ⟨rfl, k3⟩
  · rw [decide_eq_false hl] at CF
    clear rl rv ru il iv iu
    go_enter Try.func6, Try.ntmps6
    go_wp2_with fail
    refine (live_yes _).mono ?_
    rintro _ w1 ⟨rfl, k1⟩
    go_wp2_with fail
    refine (CF.out w1 (RL.out.on k1)).mono ?_
    rintro _ w2 ⟨rfl, hw2⟩
    have k2 : Below w.heap.size w w2 := by rw [← hw2]; exact k1.trans ((grow w1 _).mono k1.size)
    clear hw2 k1 CF
    go_wp2_with fail
    go_ret
    exact ⟨rfl, k2⟩
theorem law_types : ∀ t ∈ Try.f6.params.toList, Try.prog.readableRec t = true ∧ t < Try.prog.types.size := by
  have h : (Try.f6.params.toList.all fun t => Try.prog.readableRec t && decide (t < Try.prog.types.size)) = true := by kernel_rfl
  intro t ht
  simpa using List.all_eq_true.1 h t ht
set_option maxRecDepth 100000 in
theorem lifted (os : Os) (started : os.Started) (H : Type) (enc : TypeId × Value → H) :
    ReturnsInHanded {} Try.checked os 6 .any (Rows.indexSpreadsSpec.pre6 enc Try.prog Try.f6 Rows.indexSpreadsRow.domain false) (Rows.indexSpreadsSpec.post enc Try.prog Try.f6 false true false false) := by
  refine returnsInHanded_of_change_sized (C := Try.checked) own started (by kernel_rfl) Try.func6
    (ChangeSpec.witness6 (enc := enc) (C := Try.checked) false ⟨#[], #[.slice none 0 0, .slice none 0 0, .slice none 0 0], []⟩ 8 (by kernel_rfl) (by kernel_rfl) (by kernel_rfl) (by kernel_rfl)) ?_
  intro W base args ds gs before hval0 hW hcnd hsz0 _
  have hval : ∀ (j : Nat) t v, Try.f6.params[j]? = some t → args[j]? = some v → Value.okWide Try.prog W .any base t v := hval0
  have hW' := hW
  obtain ⟨p, q, hA0, hV, rfl, hfz, hnd⟩ := hW
  have hA : DataW.TrodAll enc Try.prog W 0 (fun _ => true) true Try.f6.params.toList args.toList ds p := hA0
  rw [Try.params6] at hA hval
  obtain ⟨v0, vs0, d0, ds0, p0, q0, hargs, rfl, rfl, h0, r0⟩ := trodAll_cons hA
  obtain ⟨v1, vs1, d1, ds1, p1, q1, rfl, rfl, rfl, h1, r1⟩ := trodAll_cons r0
  obtain ⟨v2, vs2, d2, ds2, p2, q2, rfl, rfl, rfl, h2, r2⟩ := trodAll_cons r1
  obtain ⟨rfl, rfl, rfl⟩ := trodAll_nil r2
  obtain rfl : args = #[v0, v1, v2] := by cases args; simp_all
  obtain ⟨rfl, rfl⟩ := trodVars_none hV
  obtain ⟨Al, l, cl, rfl, rdl, il, lcl, lml, dzl⟩ := open_numsd Try.underlying22 Try.underlying3 cells_int (hval 0 22 v0 rfl rfl) h0
  obtain ⟨Av, v, cv, rfl, rdv, iv, lcv, lmv, dzv⟩ := open_numsd Try.underlying35 Try.underlying2 cells_i64' (hval 1 35 v1 rfl rfl) h1
  obtain ⟨Au, u, cu, rfl, rdu, iu, lcu, lmu, dzu⟩ := open_numsd Try.underlying35 Try.underlying2 cells_i64' (hval 2 35 v2 rfl rfl) h2
  have hsz : (DataW.weightsEach Try.prog (Try.f6.params.toList ++ []) ([d0, d1, d2] ++ [])).all (· ≤ reachBytes) = true := hsz0
  rw [Try.params6] at hsz
  have szl : l.length ≤ 140737488355327 := by
    rcases dzl with rfl | ⟨es, sp, hd, hl⟩
    · simp
    · have h := sized_slice hsz (j := 0) (t := 22) rfl (congrArg some hd) Try.underlying22
      have hb : 1 ≤ Try.prog.bytesOf 3 := by decide +kernel
      have h2 := Nat.le_trans (Nat.mul_le_mul_left (es.length + sp.length) hb) h
      have h3 := reachBytes_lt
      rw [← hl]
      omega
  have szv : v.length ≤ 140737488355327 := by
    rcases dzv with rfl | ⟨es, sp, hd, hl⟩
    · simp
    · have h := sized_slice hsz (j := 1) (t := 35) rfl (congrArg some hd) Try.underlying35
      have hb : 1 ≤ Try.prog.bytesOf 2 := by decide +kernel
      have h2 := Nat.le_trans (Nat.mul_le_mul_left (es.length + sp.length) hb) h
      have h3 := reachBytes_lt
      rw [← hl]
      omega
  have szu : u.length ≤ 140737488355327 := by
    rcases dzu with rfl | ⟨es, sp, hd, hl⟩
    · simp
    · have h := sized_slice hsz (j := 2) (t := 35) rfl (congrArg some hd) Try.underlying35
      have hb : 1 ≤ Try.prog.bytesOf 2 := by decide +kernel
      have h2 := Nat.le_trans (Nat.mul_le_mul_left (es.length + sp.length) hb) h
      have h3 := reachBytes_lt
      rw [← hl]
      omega
  clear hA0 hval0
  refine (walk Al l cl Av v cv Au u cu W rdl (fun x hx => I64.of_wf (il x hx)) lcl lml szl rdv (fun x hx => I64.of_wf (iv x hx)) lcv lmv szv rdu (fun x hx => I64.of_wf (iu x hx)) lcu lmu szu).mono fun e W' ⟨he, hb⟩ => ?_
  subst he
  exact ⟨_, rfl, law_post laid (fun t ht => law_types t ht) rfl hW' ⟨rfl, rfl, rfl⟩ (by kernel_rfl) Try.underlying4 hb⟩

theorem over : Rows.indexSpreadsRow.holds Try.pinned (OpenSpec.ofChange Rows.indexSpreadsSpec) :=
  OpenClaim.holds_of_wide 6 Try.f6 rfl rfl rfl rfl rfl rfl rfl ⟨rfl, rfl, rfl, rfl, rfl⟩ rfl rfl rfl rfl rfl (by kernel_rfl) Try.func6 (by kernel_rfl)
    (of_decide_eq_true (by kernel_rfl)) (by unfold Func.isWrapper; first | (rw [if_pos (by decide +kernel)]; kernel_rfl) | (rw [if_neg (by decide +kernel)]; exact ⟨rfl, rfl⟩))
    (fun os started H enc _ => lifted os started H enc)

theorem proved : Rows.IndexSpreadsSaid := over
end Go.Proofs.Ytgdkmgepconnpaa.IndexSpreads
