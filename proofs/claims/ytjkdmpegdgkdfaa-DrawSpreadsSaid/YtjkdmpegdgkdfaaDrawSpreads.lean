
/-
  DrawSpreads answers true for every input. No condition.
-/
import Derived.Test.YtjkdmpegdgkdfaaDrLv
import Derived.Test.YtjkdmpegdgkdfaaArg
import Derived.Test.YtjkdmpegdgkdfaaLaw
namespace Go.Proofs.Ytjkdmpegdgkdfaa.DrawSpreads
open Go.ChangeShapes Go.WideShapes Go.ChangeAt Go.RowKit
set_option maxHeartbeats 400000
set_option linter.unusedVariables false
open Go.Proofs.Ytjkdmpegdgkdfaa
set_option maxHeartbeats 2000000 in
set_option maxRecDepth 100000 in
theorem walk (many of seed : Int) (An : Option Addr) (n : List Int) (cn : Nat) (w : World) (hm : I64 many) (hf : I64 of) (hs : U64 seed) (rn : Rd (Value.int .i64) w w.heap.size An n) (un : I64s n) (ln : n.length ≤ cn) (mn : cn ≤ 9223372036854775807) :
    Calls Try.prog 8 #[.int .i64 many, .int .i64 of, .int .u64 seed, .slice An n.length cn] w fun e w' => e = .returned (.bool true) ∧ Below w.heap.size w w' := by
  obtain ⟨s, rfl⟩ := Int.eq_ofNat_of_zero_le hs.1
  have bs : s < 2 ^ 64 := by have := hs.2; omega
  have hf' := hf
  have hm' := hm
  unfold I64 at hf' hm'
  have HN := hid rn
  have hn : n.length ≤ 9223372036854775807 := by omega
  have CF := hid (fun W => dr_few (A := An) (c := cn) n hn W)
  by_cases hl : n.length ≤ 200
  · rw [decide_eq_true hl] at CF
    by_cases h1 : of < 1
    · clear rn un hm hf
      go_enter Try.func8, Try.ntmps8
      go_wp2_with fail
      refine (dr_live _).mono ?_
      rintro _ w1 ⟨rfl, k1⟩
      have RN := hid (HN.out.on k1)
      go_wp2_with fail
      refine (CF.out w1).mono ?_
      rintro _ _ ⟨rfl, rfl⟩
      go_wp2_with fail
      go_ret
      exact ⟨rfl, k1⟩
    · by_cases h2 : 300 < of
      · clear rn un hm hf
        go_enter Try.func8, Try.ntmps8
        go_wp2_with fail
        refine (dr_live _).mono ?_
        rintro _ w1 ⟨rfl, k1⟩
        have RN := hid (HN.out.on k1)
        go_wp2_with fail
        refine (CF.out w1).mono ?_
        rintro _ _ ⟨rfl, rfl⟩
        go_wp2_with fail
        go_ret
        exact ⟨rfl, k1⟩
      · obtain ⟨K, rfl⟩ := Int.eq_ofNat_of_zero_le (show 0 ≤ of by omega)
        have hK1 : 1 ≤ K := by omega
        have hK3 : K ≤ 300 := by omega
        obtain ⟨r, hr⟩ : ∃ r, Int.tmod many (K : Int) = r := ⟨_, rfl⟩
        have hr1 : -(K : Int) < r ∧ r < K := by
          rw [← hr]
          have a1 := Int.tmod_lt_of_pos many (show (0 : Int) < K by omega)
          have a2 := Int.lt_tmod_of_pos many (show (0 : Int) < K by omega)
          omega
        obtain ⟨M, hM⟩ : ∃ M : Nat, (r + K) % (K : Int) = M := ⟨((r + K) % (K : Int)).toNat, by have := Int.emod_nonneg (r + K) (show (K : Int) ≠ 0 by omega); omega⟩
        have hMK : M < K := by have := Int.emod_lt_of_pos (r + K) (show (0 : Int) < K by omega); omega
        have hE : ordE (K : Int) = 0 := ordE_ok.2 (by omega)
        have p1 : picE (M : Int) (K : Int) = 0 := picE_ok.2 ⟨by omega, by omega, hE⟩
        have p2 : picE ((M + 1 : Nat) : Int) (K : Int) = 0 := picE_ok.2 ⟨by omega, by omega, hE⟩
        have p3 : picE (K : Int) (K : Int) = 0 := picE_ok.2 ⟨by omega, by omega, hE⟩
        have v1 : picV (M : Int) (K : Int) s n = (ordV K s n).take M := if_pos p1
        have v2 : picV ((M + 1 : Nat) : Int) (K : Int) s n = (ordV K s n).take (M + 1) := if_pos p2
        have v3 : picV (K : Int) (K : Int) s n = (ordV K s n).take K := if_pos p3
        have n1 : (picV (M : Int) (K : Int) s n).length = M := picV_len p1 s n
        have n2 : (picV ((M + 1 : Nat) : Int) (K : Int) s n).length = M + 1 := picV_len p2 s n
        have n3 : (picV (K : Int) (K : Int) s n).length = K := picV_len p3 s n
        have t12 : (picV ((M + 1 : Nat) : Int) (K : Int) s n).take M = picV (M : Int) (K : Int) s n := by rw [v1, v2, List.take_take, Nat.min_eq_left (by omega)]
        have t23 : (picV (K : Int) (K : Int) s n).take (M + 1) = picV ((M + 1 : Nat) : Int) (K : Int) s n := by rw [v2, v3, List.take_take, Nat.min_eq_left (by omega)]
        have C1 := hid (fun W (h : Rd (Value.int .i64) W W.heap.size An n) => dr_Pick (c := cn) (M : Int) (K : Int) (by unfold I64; omega) hf s bs n hn un W h)
        have C2 := hid (fun W (h : Rd (Value.int .i64) W W.heap.size An n) => dr_Pick (c := cn) ((M + 1 : Nat) : Int) (K : Int) (by unfold I64; omega) hf s bs n hn un W h)
        have C3 := hid (fun W (h : Rd (Value.int .i64) W W.heap.size An n) => dr_Pick (c := cn) (K : Int) (K : Int) hf hf s bs n hn un W h)
        rw [p1] at C1
        rw [p2] at C2
        rw [p3] at C3
        obtain ⟨X, e_X⟩ : ∃ x, picV (M : Int) (K : Int) s n = x := ⟨_, rfl⟩
        rw [e_X] at C1 n1 t12
        clear e_X
        obtain ⟨Y, e_Y⟩ : ∃ x, picV ((M + 1 : Nat) : Int) (K : Int) s n = x := ⟨_, rfl⟩
        rw [e_Y] at C2 n2 t12 t23
        clear e_Y
        obtain ⟨Z, e_Z⟩ : ∃ x, picV (K : Int) (K : Int) s n = x := ⟨_, rfl⟩
        rw [e_Z] at C3 n3 t23
        clear e_Z
        have CQ1 := hid (fun (A B : Option Addr) (c d : Nat) (W : World) (h1 : Rd (Value.int .i64) W W.heap.size A X) (h2 : Rd (Value.int .i64) W W.heap.size B X) => equal_it (X := X) (by omega) (A := A) (B := B) (c := c) (d := d) W h1 h2)
        have CQ2 := hid (fun (A B : Option Addr) (c d : Nat) (W : World) (h1 : Rd (Value.int .i64) W W.heap.size A Y) (h2 : Rd (Value.int .i64) W W.heap.size B Y) => equal_it (X := Y) (by omega) (A := A) (B := B) (c := c) (d := d) W h1 h2)
        rw [n1] at CQ1
        rw [n2] at CQ2
        have hMi : ((M + 1 : Nat) : Int) = (M : Int) + 1 := by omega
        rw [hMi] at C2
        have HMI := hid hMi
        clear hMi
        have L1 := hid n1
        have L2 := hid n2
        have L3 := hid n3
        have T12 := hid t12
        have T23 := hid t23
        have iz : (K : Int) ≠ 0 := by omega
        clear n1 n2 n3 t12 t23 v1 v2 v3 p1 p2 p3 hE rn un hm hf h1 h2
        go_enter Try.func8, Try.ntmps8
        go_wp2_with fail
        refine (dr_live _).mono ?_
        rintro _ w1 ⟨rfl, k1⟩
        have RN := hid (HN.out.on k1)
        go_wp2_with fail
        refine (CF.out w1).mono ?_
        rintro _ _ ⟨rfl, rfl⟩
        clear CF
        go_wp2_with fail
        refine (C1.out _ (HN.out.on k1)).mono ?_
        rintro _ w2 ⟨A2, c2, rfl, ho2, hb2⟩
        have k2 := k1.trans (hb2.mono k1.size)
        have R1 := hid (own_rd ho2)
        rw [L1.out]
        clear ho2 hb2 k1 RN
        go_wp2_with fail
        refine (C2.out _ (HN.out.on k2)).mono ?_
        rintro _ w3 ⟨A3, c3, rfl, ho3, hb3⟩
        have k3 := k2.trans (hb3.mono k2.size)
        have R1b := hid (R1.out.on hb3)
        have q2 := own_cap ho3
        have R2 := hid (own_rd ho3)
        rw [L2.out] at q2 ⊢
        clear ho3 hb3 k2 R1
        go_wp2_with fail
        refine (C3.out _ (HN.out.on k3)).mono ?_
        rintro _ w4 ⟨A4, c4, rfl, ho4, hb4⟩
        have k4 := k3.trans (hb4.mono k3.size)
        have R1c := hid (R1b.out.on hb4)
        have R2c := hid (R2.out.on hb4)
        have q3 := own_cap ho4
        have R3 := hid (own_rd ho4)
        rw [L3.out] at q3 ⊢
        clear ho4 hb4 k3 R1b R2
        have hs1 := fun W => run_upto (P := Try.prog) 23 Try.underlying23 Try.sizeOf3 A3 (M + 1) c3 M (by omega) W
        have hs2 := fun W => run_upto (P := Try.prog) 23 Try.underlying23 Try.sizeOf3 A4 K c4 (M + 1) (by omega) W
        rw [HMI.out] at hs2
        have RC1 := R2c.out.cut0 (by rw [L2.out]; exact q2.1) M (c := c3)
        have RC2 := R3.out.cut0 (by rw [L3.out]; exact q3.1) (M + 1) (c := c4)
        rw [T12.out] at RC1
        rw [T23.out] at RC2
        have D1 := hid (CQ1.out A2 (cutA A3 0 c3) c2 c3 w4 R1c.out RC1)
        have HC2 := hid RC2
        have QQ2 := hid q2
        have QQ3 := hid q3
        clear RC1 RC2 R1c R3 q2 q3
        go_wp2_with fail
        refine D1.out.mono ?_
        rintro _ w5 ⟨rfl, hb5⟩
        have k5 := k4.trans (hb5.mono k4.size)
        have D2 := hid (CQ2.out A3 (cutA A4 0 c4) c3 c4 w5 (R2c.out.on hb5) (HC2.out.on hb5))
        clear hb5 k4
        go_wp2_with fail
        refine D2.out.mono ?_
        rintro _ w6 ⟨rfl, hb6⟩
        have k6 := k5.trans (hb6.mono k5.size)
        go_wp2_with fail
        go_ret
        exact ⟨rfl, k6⟩
  · rw [decide_eq_false hl] at CF
    clear rn un
    go_enter Try.func8, Try.ntmps8
    go_wp2_with fail
    refine (dr_live _).mono ?_
    rintro _ w1 ⟨rfl, k1⟩
    have RN := hid (HN.out.on k1)
    go_wp2_with fail
    refine (CF.out w1).mono ?_
    rintro _ _ ⟨rfl, rfl⟩
    go_wp2_with fail
    go_ret
    exact ⟨rfl, k1⟩
theorem law_types : ∀ t ∈ Try.f8.params.toList, Try.prog.readableRec t = true ∧ t < Try.prog.types.size := by
  have h : (Try.f8.params.toList.all fun t => Try.prog.readableRec t && decide (t < Try.prog.types.size)) = true := by kernel_rfl
  intro t ht
  simpa using List.all_eq_true.1 h t ht
set_option maxRecDepth 100000 in
theorem lifted (os : Os) (started : os.Started) (H : Type) (enc : TypeId × Value → H) :
    ReturnsInHanded {} Try.checked os 8 .any (Rows.drawSpreadsSpec.pre6 enc Try.prog Try.f8 Rows.drawSpreadsRow.domain false) (Rows.drawSpreadsSpec.post enc Try.prog Try.f8 false true false false) := by
  refine returnsInHanded_of_change (C := Try.checked) own started (by kernel_rfl) Try.func8
    (ChangeSpec.witness6 (enc := enc) (C := Try.checked) false ⟨#[], #[.int .i64 0, .int .i64 0, .int .u64 0, .slice none 0 0], []⟩ 8 (by kernel_rfl) (by kernel_rfl) (by kernel_rfl) (by kernel_rfl)) ?_
  intro W base args ds gs before hval0 hW hcnd _
  have hval : ∀ (j : Nat) t v, Try.f8.params[j]? = some t → args[j]? = some v → Value.okWide Try.prog W .any base t v := hval0
  have hW' := hW
  obtain ⟨p, q, hA0, hV, rfl, hfz, hnd⟩ := hW
  have hA : DataW.TrodAll enc Try.prog W 0 (fun _ => true) true Try.f8.params.toList args.toList ds p := hA0
  rw [Try.params8] at hA hval
  obtain ⟨v0, vs0, d0, ds0, p0, q0, hargs, rfl, rfl, h0, r0⟩ := trodAll_cons hA
  obtain ⟨v1, vs1, d1, ds1, p1, q1, rfl, rfl, rfl, h1, r1⟩ := trodAll_cons r0
  obtain ⟨v2, vs2, d2, ds2, p2, q2, rfl, rfl, rfl, h2, r2⟩ := trodAll_cons r1
  obtain ⟨v3, vs3, d3, ds3, p3, q3, rfl, rfl, rfl, h3, r3⟩ := trodAll_cons r2
  obtain ⟨rfl, rfl, rfl⟩ := trodAll_nil r3
  obtain rfl : args = #[v0, v1, v2, v3] := by cases args; simp_all
  obtain ⟨rfl, rfl⟩ := trodVars_none hV
  obtain ⟨many, rfl, rfl, rfl, w0⟩ := open_int Try.underlying3 (hval 0 3 v0 rfl rfl) h0
  obtain ⟨of, rfl, rfl, rfl, w1⟩ := open_int Try.underlying3 (hval 1 3 v1 rfl rfl) h1
  obtain ⟨seed, rfl, rfl, rfl, w2⟩ := open_int Try.underlying22 (hval 2 22 v2 rfl rfl) h2
  obtain ⟨Al, l, cl, rfl, rdl, il, lcl, lml⟩ := open_nums Try.underlying23 Try.underlying3 cells_int (hval 3 23 v3 rfl rfl) h3
  clear hA0 hval0
  refine (walk many of seed Al l cl W (I64.of_wf w0) (I64.of_wf w1) (U64.of_wf w2) rdl (fun x hx => I64.of_wf (il x hx)) lcl lml).mono fun e W' ⟨he, hb⟩ => ?_
  subst he
  exact ⟨_, rfl, law_post laid (fun t ht => law_types t ht) rfl hW' ⟨rfl, rfl, rfl⟩ (by kernel_rfl) Try.underlying4 hb⟩

theorem over : Rows.drawSpreadsRow.holds Try.pinned (OpenSpec.ofChange Rows.drawSpreadsSpec) :=
  OpenClaim.holds_of_wide 8 Try.f8 rfl rfl rfl rfl rfl rfl rfl ⟨rfl, rfl, rfl, rfl, rfl⟩ rfl rfl rfl rfl rfl (by kernel_rfl) Try.func8 (by kernel_rfl)
    (of_decide_eq_true (by kernel_rfl)) (by unfold Func.isWrapper; first | (rw [if_pos (by decide +kernel)]; kernel_rfl) | (rw [if_neg (by decide +kernel)]; exact ⟨rfl, rfl⟩))
    (fun os started H enc _ => lifted os started H enc)

theorem proved : Rows.DrawSpreadsSaid := over
end Go.Proofs.Ytjkdmpegdgkdfaa.DrawSpreads
