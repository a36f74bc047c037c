
/-
  TableOne answers true for every input. No condition.
-/
import Derived.Test.YtnokomlekndgfaaTbLv
import Derived.Test.YtnokomlekndgfaaArg
import Derived.Test.YtnokomlekndgfaaLaw
namespace Go.Proofs.Ytnokomlekndgfaa.TableOne
open Go.ChangeShapes Go.WideShapes Go.ChangeAt Go.RowKit
set_option maxHeartbeats 400000
set_option linter.unusedVariables false
open Go.Proofs.Ytnokomlekndgfaa
theorem ton_frac_ok (f : Int) : ∃ (t p : Int) (K : Nat), Hid (f.tmod 31 = t ∧ IntKind.i64.wrap (t + 31) = p ∧ wrap64 (t + 31) = p ∧ p.tmod 31 = (K : Int)) ∧ K ≤ 30 := by
  have h1 := Int.lt_tmod_of_pos f (show (0 : Int) < 31 by decide)
  have h2 := Int.tmod_lt_of_pos f (show (0 : Int) < 31 by decide)
  generalize f.tmod 31 = t at *
  have hb : -9223372036854775808 ≤ t + 31 ∧ t + 31 ≤ 9223372036854775807 := by omega
  refine ⟨t, t + 31, ((t + 31) % 31).toNat, hid ⟨rfl, Go.IntWalk.i64_in _ hb, Go.IntWalk.wrap64_in _ hb, ?_⟩, by omega⟩
  rw [Int.tmod_eq_emod_of_nonneg (by omega)]
  omega
theorem ton_many_ok (f : Int) : ∃ (t p : Int) (q M : Nat), Hid (f.tmod 40 = t ∧ IntKind.i64.wrap (t + 40) = p ∧ wrap64 (t + 40) = p ∧ p.tmod 40 = (q : Int) ∧ IntKind.i64.wrap (1 + (q : Int)) = (M : Int) ∧ wrap64 (1 + (q : Int)) = (M : Int)) ∧ 1 ≤ M ∧ M ≤ 40 := by
  have h1 := Int.lt_tmod_of_pos f (show (0 : Int) < 40 by decide)
  have h2 := Int.tmod_lt_of_pos f (show (0 : Int) < 40 by decide)
  generalize f.tmod 40 = t at *
  have hb : -9223372036854775808 ≤ t + 40 ∧ t + 40 ≤ 9223372036854775807 := by omega
  obtain ⟨q, hq, hq40⟩ : ∃ q : Nat, (t + 40).tmod 40 = (q : Int) ∧ q < 40 := by
    refine ⟨((t + 40) % 40).toNat, ?_, by omega⟩
    rw [Int.tmod_eq_emod_of_nonneg (by omega)]
    omega
  have e : (1 : Int) + (q : Int) = ((1 + q : Nat) : Int) := by omega
  have hb2 : -9223372036854775808 ≤ ((1 + q : Nat) : Int) ∧ ((1 + q : Nat) : Int) ≤ 9223372036854775807 := by clear hq hb h1 h2; omega
  refine ⟨t, t + 40, q, 1 + q, hid ⟨rfl, Go.IntWalk.i64_in _ hb, Go.IntWalk.wrap64_in _ hb, hq, ?_, ?_⟩, by omega, by omega⟩
  · rw [e]; exact Go.IntWalk.i64_in _ hb2
  · rw [e]; exact Go.IntWalk.wrap64_in _ hb2
theorem ton_small {M : Nat} (h1 : 1 ≤ M) (h2 : M ≤ 40) : (M : Int) ≠ 0 ∧ M ≤ 4096 := by omega
theorem ton_small2 {K : Nat} (h : K ≤ 30) : (0 : Int) ≤ (K : Int) ∧ (K : Int) ≤ 30 := by omega
theorem ton_max {M : Nat} (h : M ≤ 40) : M ≤ maxLen := by unfold maxLen; omega
theorem ton_next {j : Nat} (h : j + 1 ≤ 40) : IntKind.i64.wrap ((j : Int) + 1) = ((j + 1 : Nat) : Int) := Go.IntWalk.i64_in _ (by omega)
theorem ton_cast {K T : Nat} (h : 2 ^ K = T) : (2 : Int) ^ K = (T : Int) := by rw [← h]; simp
theorem ton_mk_ok {M : Nat} (h : M ≤ 40) : 8 * M ≤ 281474976710656 ∧ M ≤ 9223372036854775807 := by omega
theorem ton_one_pow {K : Nat} (hk : K ≤ 30) : ∃ T : Nat, 2 ^ K = T ∧ 1 ≤ T ∧ T ≤ 1073741824 ∧ Hid (IntKind.i64.wrap ((2 : Int) ^ K) = (T : Int) ∧ wrap64 ((2 : Int) ^ K) = (T : Int) ∧ wrap64 ((2 : Int) ^ (min K 64)) = (T : Int) ∧ IntKind.i64.wrap ((2 : Int) ^ (min K 64)) = (T : Int) ∧
    IntKind.i64.wrap (64 * (2 : Int) ^ K) = 64 * (T : Int) ∧ wrap64 (64 * (2 : Int) ^ K) = 64 * (T : Int) ∧ IntKind.i64.wrap (64 * (2 : Int) ^ (min K 64)) = 64 * (T : Int) ∧ wrap64 (64 * (2 : Int) ^ (min K 64)) = 64 * (T : Int)) := by
  obtain ⟨T, hT⟩ : ∃ T, 2 ^ K = T := ⟨_, rfl⟩
  have h1 : 1 ≤ T := by rw [← hT]; exact Nat.two_pow_pos K
  have h2 : T ≤ 1073741824 := by rw [← hT]; exact Nat.pow_le_pow_right (n := 2) (by decide) hk
  have e : (2 : Int) ^ K = (T : Int) := by rw [← hT]; simp
  have hm : min K 64 = K := Nat.min_eq_left (by omega)
  rw [hm, e]
  have hb : -9223372036854775808 ≤ (T : Int) ∧ (T : Int) ≤ 9223372036854775807 := by clear hT e hm; omega
  have hb2 : -9223372036854775808 ≤ 64 * (T : Int) ∧ 64 * (T : Int) ≤ 9223372036854775807 := by clear hT e hm; omega
  exact ⟨T, hT, h1, h2, hid ⟨Go.IntWalk.i64_in _ hb, Go.IntWalk.wrap64_in _ hb, Go.IntWalk.wrap64_in _ hb, Go.IntWalk.i64_in _ hb, Go.IntWalk.i64_in _ hb2, Go.IntWalk.wrap64_in _ hb2, Go.IntWalk.i64_in _ hb2, Go.IntWalk.wrap64_in _ hb2⟩⟩
theorem ton_less_ok {n : Int} {T : Nat} (h : I64 n) (h1 : ¬ n < -2305843009213693952) (h2 : T ≤ 1073741824) : ∃ D, n - 64 * (T : Int) = D ∧ IntKind.i64.wrap (n - 64 * (T : Int)) = D ∧ wrap64 (n - 64 * (T : Int)) = D ∧ I64 D := by
  have hb : I64 (n - 64 * (T : Int)) := by unfold I64 at *; omega
  exact ⟨_, rfl, Go.IntWalk.i64_in _ hb, Go.IntWalk.wrap64_in _ hb, hb⟩
theorem ton_quo_ok {T M : Nat} (h2 : T ≤ 1073741824) : ∃ s : Nat, T / M = s ∧ Hid ((T : Int) / (M : Int) = (s : Int) ∧ IntKind.i64.wrap (s : Int) = (s : Int) ∧ wrap64 (s : Int) = (s : Int)) := by
  obtain ⟨s, hs⟩ : ∃ s, T / M = s := ⟨_, rfl⟩
  have h : s ≤ 1073741824 := by rw [← hs]; exact Nat.le_trans (Nat.div_le_self _ _) h2
  have hb : -9223372036854775808 ≤ (s : Int) ∧ (s : Int) ≤ 9223372036854775807 := by clear hs; omega
  exact ⟨s, hs, hid ⟨by rw [← hs]; rfl, Go.IntWalk.i64_in _ hb, Go.IntWalk.wrap64_in _ hb⟩⟩
theorem ton_rep_row {n : Int} {M : Nat} : (List.range M).map (fun j => Value.int .i64 n) = (List.replicate M n).map (Value.int .i64) := by
  rw [List.map_replicate]
  apply List.ext_getElem?
  intro i
  by_cases hi : i < M
  · rw [List.getElem?_map, List.getElem?_range hi, List.getElem?_replicate, if_pos hi]; rfl
  · rw [List.getElem?_eq_none (by simp; omega), List.getElem?_eq_none (by simp; omega)]
set_option maxHeartbeats 2000000 in
set_option maxRecDepth 100000 in
theorem walk (frac n many : Int) (hf : I64 frac) (hn : I64 n) (hm : I64 many) (w : World) :
    Calls Try.prog 9 #[.int .i64 frac, .int .i64 n, .int .i64 many] w fun e w' => e = .returned (.bool true) ∧ Below w.heap.size w w' := by
  obtain ⟨t1, p1, K, HF, hK⟩ := ton_frac_ok frac
  obtain ⟨t2, p2, q2, M, HG, hM1, hM2⟩ := ton_many_ok many
  have hMs : (M : Int) ≠ 0 ∧ M ≤ 4096 := ton_small hM1 hM2
  have hKs : (0 : Int) ≤ (K : Int) ∧ (K : Int) ≤ 30 := ton_small2 hK
  obtain ⟨T, hT, hTa, hTb, HE⟩ := ton_one_pow hK
  obtain ⟨s, hs, HSS⟩ := ton_quo_ok (M := M) hTb
  obtain ⟨m1, m2⟩ := ton_mk_ok hM2
  have hmk := fun W => run_make_row' (P := Try.prog) 32 2 (.int .i64 0) 8 Try.underlying32 info_i64 rfl .i64 .i64 M m1 m2 W
  obtain ⟨v1, v2⟩ := sof_same (frac := (K : Int)) (n := n) (m := M) hKs.1 hKs.2 hM1 hMs.2
  rw [show (K : Int).toNat = K from rfl, hT, hs] at v2
  have CS := hid (fun A c W (h : Rd (Value.int .i64) W W.heap.size A (List.replicate M n)) => tb_Soft (c := c) (K : Int) (List.replicate M n) (by rw [List.length_replicate]; exact m2) (fun x hx => by rw [List.eq_of_mem_replicate hx]; exact hn) W h)
  rw [v1, v2, List.length_replicate] at CS
  have HN := hid hn
  have HK := hid hK
  have HM1 := hid hM1
  have HM2 := hid hM2
  have HTb := hid hTb
  have HT := hid hT
  have hM0 : ((M : Int) == 0) = false := beq_eq_false_iff_ne.2 hMs.1
  have hM0' : ¬ (M : Int) = 0 := hMs.1
  have hKge : ¬ (K : Int) < 0 := Int.not_lt.2 hKs.1
  clear hMs hKs
  obtain ⟨SR, hSR⟩ : ∃ SR, List.replicate M (s : Int) = SR := ⟨_, rfl⟩
  obtain ⟨ZR, hZR⟩ : ∃ ZR, List.replicate M n = ZR := ⟨_, rfl⟩
  have HSR := hid hSR
  have HZR := hid hZR
  rw [hSR, hZR] at CS
  have hSl : SR.length = M := by rw [← hSR, List.length_replicate]
  have HSl := hid hSl
  clear hf hn hm hK hM1 hTa hTb hT hs v1 v2 m1 m2 hSR hZR hSl
  obtain ⟨f1, f2, f3, f4⟩ := HF.out
  obtain ⟨g1, g2, g3, g4, g5, g6⟩ := HG.out
  go_enter Try.func9, Try.ntmps9
  go_wp2_with fail
  refine (tb_live _).mono ?_
  rintro _ w1 ⟨rfl, k1⟩
  have hrun := hmk w1
  have hrw := World.rowIs_made w1 (.int .i64 0) M 2
  obtain ⟨w2, hw2⟩ : ∃ w2, w1.alloc (.cells (madeCells #[.int .i64 0] M) 2) = w2 := ⟨_, rfl⟩
  have hb2 : Below w.heap.size w w2 := by rw [← hw2]; exact k1.alloc k1.size _
  rw [hw2] at hrun hrw
  have hrow0 : w2.rowIs w1.heap.size 2 M (fun j => if j < 0 then .int .i64 n else .int .i64 0) := by simpa using hrw
  have HR0 := hid hrow0
  have HB2 := hid hb2
  have HS1 := hid k1.size
  clear hrw hrow0 hb2 hmk k1
  go_wp2_with fail
  clear f1 f2 f3 f4 g1 g2 g3 g4 g5 g6
  go_loopw [9, 32] (fun _ xi wr => ∃ k : Nat, k ≤ M ∧ xi = .int .i64 (k : Int) ∧ wr.rowIs w1.heap.size 2 M (fun j => if j < k then .int .i64 n else .int .i64 0) ∧ Below w.heap.size w wr) (fun _ xi _ => M - (intOf xi).toNat)
  case atStart => exact ⟨0, Nat.zero_le _, rfl, HR0.out, HB2.out⟩
  case round =>
    obtain ⟨k, hk, rfl, hrow, hbel⟩ := hrel
    have HROW := hid hrow
    have HBL := hid hbel
    clear HB2 HR0 hrun hw2
    by_cases hlt : k < M
    · have c2 := hrow.cell hlt
      rw [if_neg (Nat.lt_irrefl k)] at c2
      have f2' := hrow.frozen k
      clear hrow hbel
      go_wp2_with fail
      go_roundw
      case rel =>
        refine ⟨k + 1, by omega, by go_num, ?_, HBL.out.setCell HS1.out _⟩
        refine (HROW.out.set k (.int .i64 n)).congr fun j hj => ?_
        by_cases e : j = k
        · subst e
          rw [if_pos rfl, if_pos (Nat.lt_succ_self _)]
        · rw [if_neg e]
          by_cases e2 : j < k
          · rw [if_pos e2, if_pos (Nat.lt_succ_of_lt e2)]
          · rw [if_neg e2, if_neg (by omega)]
      case measure => simp [intOf]; omega
    · obtain rfl : k = M := by omega
      have hown : wr.ownsRow w.heap.size 2 1 (.slice (some ⟨w1.heap.size, 0, none⟩) k k) k (ZR.map (Value.int .i64)) := by
        have h1 := own_made (B := w.heap.size) (w' := w) (hrow.congr (g := fun j => .int .i64 n) fun i hi => by rw [if_pos hi]) HS1.out (ton_max HM2.out)
        rw [ton_rep_row, HZR.out] at h1
        exact h1
      have RZ : Hid (Rd (Value.int .i64) wr wr.heap.size (some ⟨w1.heap.size, 0, none⟩) ZR) := hid (.of_own hown)
      clear hown hrow hbel
      go_wp2_with fail
      refine (CS.out _ _ _ RZ.out).mono ?_
      rintro _ w3 ⟨A3, c3, rfl, ho3, hb3⟩
      have K3 : Hid (Below w.heap.size w w3) := hid (HBL.out.trans (hb3.mono HBL.out.size))
      have R3 : Hid (Rd (Value.int .i64) w3 w3.heap.size A3 SR) := hid (own_rd ho3)
      rw [HSl.out]
      clear hb3 ho3
      go_wp2_with fail
      go_loop [13, 56] (fun _ xi => ∃ j : Nat, j ≤ k ∧ xi = .int .i64 (j : Int)) (fun _ xi => k - (intOf xi).toNat)
      case atStart => exact ⟨0, Nat.zero_le _, rfl⟩
      case round =>
        obtain ⟨j, hj, rfl⟩ := hrel
        by_cases hlj : j < k
        · obtain ⟨b4, o4, x, rfl, l4, en, c4⟩ := R3.out.at_ (k := j) (by rw [HSl.out]; exact hlj)
          obtain rfl : (s : Int) = x := by
            have h1 := List.mem_of_getElem? en
            rw [← HSR.out] at h1
            exact (List.eq_of_mem_replicate h1).symm
          obtain ⟨s1, s2, s3⟩ := HSS.out
          obtain ⟨e1, e2, e3, e4, e5, e6, e7, e8⟩ := HE.out
          have hne : ((s : Int) != (s : Int)) = false := by simp
          have hw : IntKind.i64.wrap ((j : Int) + 1) = ((j + 1 : Nat) : Int) := ton_next (Nat.le_trans hlj HM2.out)
          clear en
          go_wp2_with fail
          go_round
          case rel => exact ⟨j + 1, hlj, rfl⟩
          case measure => simp [intOf]; omega
        · obtain rfl : j = k := Nat.le_antisymm hj (Nat.not_lt.1 hlj)
          by_cases hlow : n < -2305843009213693952
          · have hop : ∀ t, binOp .lss t (.int .i64 n) (.int .i64 (-2305843009213693952)) = pure (.bool true) := fun t => by rw [binOp_lss, decide_eq_true hlow]
            clear hlow
            go_wp2_with fail
            go_ret
            exact ⟨rfl, K3.out⟩
          · have hop : ∀ t, binOp .lss t (.int .i64 n) (.int .i64 (-2305843009213693952)) = pure (.bool false) := fun t => by rw [binOp_lss, decide_eq_false hlow]
            obtain ⟨D, hD, d1, d2, hDi⟩ := ton_less_ok HN.out hlow HTb.out
            obtain ⟨e1, e2, e3, e4, e5, e6, e7, e8⟩ := HE.out
            obtain ⟨v1, v2⟩ := sof_far (frac := (K : Int)) (n := n) (ton_small2 HK.out).1 (ton_small2 HK.out).2
            rw [show (K : Int).toNat = K from rfl, ton_cast HT.out, hD] at v1 v2
            have CT := hid (fun A W (h : Rd (Value.int .i64) W W.heap.size A [n, D]) => tb_Soft (A := A) (c := 2) (K : Int) [n, D] (show 2 ≤ 9223372036854775807 by decide) (fun x hx => by
              simp at hx
              rcases hx with rfl | rfl
              · exact HN.out
              · exact hDi) W h)
            rw [v1, v2] at CT
            have R4 := hid (rd_new (enc := Value.int .i64) w3 2 [n, D])
            clear hlow hD hDi v1 v2
            go_wp2_with fail
            refine (CT.out _ _ R4.out).mono ?_
            rintro _ w4 ⟨A4, c4, rfl, ho4, hb4⟩
            have K4 : Hid (Below w.heap.size w w4) := hid ((K3.out.alloc K3.out.size _).trans (hb4.mono (by have := K3.out.size; simp; omega)))
            have r4 := own_rd (xs := [(T : Int), 0]) ho4
            obtain ⟨b5, o5, y0, rfl, l5, n5, c5'⟩ := r4.at_ (k := 0) (show 0 < 2 by decide)
            obtain ⟨b6, o6, y1, e', l6, n6, c6'⟩ := r4.at_ (k := 1) (show 1 < 2 by decide)
            cases e'
            obtain rfl : (T : Int) = y0 := Option.some.inj n5
            obtain rfl : (0 : Int) = y1 := Option.some.inj n6
            rw [Nat.add_zero] at c5'
            have tt : ((T : Int) == (T : Int)) = true := by simp
            clear hb4 ho4 r4 n5 n6
            go_wp2_with fail
            go_region
            go_wp2_with fail
            go_ret
            exact ⟨rfl, K4.out.drew⟩
theorem law_types : ∀ t ∈ Try.f9.params.toList, Try.prog.readableRec t = true ∧ t < Try.prog.types.size := by
  have h : (Try.f9.params.toList.all fun t => Try.prog.readableRec t && decide (t < Try.prog.types.size)) = true := by kernel_rfl
  intro t ht
  simpa using List.all_eq_true.1 h t ht
set_option maxRecDepth 100000 in
theorem lifted (os : Os) (started : os.Started) (H : Type) (enc : TypeId × Value → H) :
    ReturnsInHanded {} Try.checked os 9 .any (Rows.tableOneSpec.pre6 enc Try.prog Try.f9 Rows.tableOneRow.domain false) (Rows.tableOneSpec.post enc Try.prog Try.f9 false true false false) := by
  refine returnsInHanded_of_change (C := Try.checked) own started (by kernel_rfl) Try.func9
    (ChangeSpec.witness6 (enc := enc) (C := Try.checked) false ⟨#[], #[.int .i64 0, .int .i64 0, .int .i64 0], []⟩ 8 (by kernel_rfl) (by kernel_rfl) (by kernel_rfl) (by kernel_rfl)) ?_
  intro W base args ds gs before hval0 hW hcnd _
  have hval : ∀ (j : Nat) t v, Try.f9.params[j]? = some t → args[j]? = some v → Value.okWide Try.prog W .any base t v := hval0
  have hW' := hW
  obtain ⟨p, q, hA0, hV, rfl, hfz, hnd⟩ := hW
  have hA : DataW.TrodAll enc Try.prog W 0 (fun _ => true) true Try.f9.params.toList args.toList ds p := hA0
  rw [Try.params9] at hA hval
  obtain ⟨v0, vs0, d0, ds0, p0, q0, hargs, rfl, rfl, h0, r0⟩ := trodAll_cons hA
  obtain ⟨v1, vs1, d1, ds1, p1, q1, rfl, rfl, rfl, h1, r1⟩ := trodAll_cons r0
  obtain ⟨v2, vs2, d2, ds2, p2, q2, rfl, rfl, rfl, h2, r2⟩ := trodAll_cons r1
  obtain ⟨rfl, rfl, rfl⟩ := trodAll_nil r2
  obtain rfl : args = #[v0, v1, v2] := by cases args; simp_all
  obtain ⟨rfl, rfl⟩ := trodVars_none hV
  obtain ⟨frac, rfl, rfl, rfl, w0⟩ := open_int Try.underlying3 (hval 0 3 v0 rfl rfl) h0
  obtain ⟨n, rfl, rfl, rfl, w1⟩ := open_int Try.underlying2 (hval 1 2 v1 rfl rfl) h1
  obtain ⟨many, rfl, rfl, rfl, w2⟩ := open_int Try.underlying3 (hval 2 3 v2 rfl rfl) h2
  clear hA0 hval0
  refine (walk frac n many (I64.of_wf w0) (I64.of_wf w1) (I64.of_wf w2) W).mono fun e W' ⟨he, hb⟩ => ?_
  subst he
  exact ⟨_, rfl, law_post laid (fun t ht => law_types t ht) rfl hW' ⟨rfl, rfl, rfl⟩ (by kernel_rfl) Try.underlying4 hb⟩

theorem over : Rows.tableOneRow.holds Try.pinned (OpenSpec.ofChange Rows.tableOneSpec) :=
  OpenClaim.holds_of_wide 9 Try.f9 rfl rfl rfl rfl rfl rfl rfl ⟨rfl, rfl, rfl, rfl, rfl⟩ rfl rfl rfl rfl rfl (by kernel_rfl) Try.func9 (by kernel_rfl)
    (of_decide_eq_true (by kernel_rfl)) (by unfold Func.isWrapper; first | (rw [if_pos (by decide +kernel)]; kernel_rfl) | (rw [if_neg (by decide +kernel)]; exact ⟨rfl, rfl⟩))
    (fun os started H enc _ => lifted os started H enc)

theorem proved : Rows.TableOneSaid := over
end Go.Proofs.Ytnokomlekndgfaa.TableOne
