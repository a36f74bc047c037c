
/-
  DrawOrders answers true for every input. No condition.
-/
import Derived.Test.YtjkdmpegdgkdfaaDrLv
import Derived.Test.YtjkdmpegdgkdfaaArg
import Derived.Test.YtjkdmpegdgkdfaaLaw
namespace Go.Proofs.Ytjkdmpegdgkdfaa.DrawOrders
open Go.ChangeShapes Go.WideShapes Go.ChangeAt Go.RowKit
set_option maxHeartbeats 400000
set_option linter.unusedVariables false
open Go.Proofs.Ytjkdmpegdgkdfaa
set_option maxHeartbeats 2000000 in
set_option maxRecDepth 100000 in
theorem walk (many of seed : Int) (An : Option Addr) (n : List Int) (cn : Nat) (w : World) (hm : I64 many) (hf : I64 of) (hs : U64 seed) (rn : Rd (Value.int .i64) w w.heap.size An n) (un : I64s n) (ln : n.length ≤ cn) (mn : cn ≤ 9223372036854775807) :
    Calls Try.prog 4 #[.int .i64 many, .int .i64 of, .int .u64 seed, .slice An n.length cn] w fun e w' => e = .returned (.bool true) ∧ Below w.heap.size w w' := by
  obtain ⟨s, rfl⟩ := Int.eq_ofNat_of_zero_le hs.1
  have bs : s < 2 ^ 64 := by have := hs.2; omega
  have HN := hid rn
  have hn : n.length ≤ 9223372036854775807 := by omega
  have CF := hid (fun W => dr_few (A := An) (c := cn) n hn W)
  by_cases hl : n.length ≤ 200
  · rw [decide_eq_true hl] at CF
    have C1 := hid (fun W (h : Rd (Value.int .i64) W W.heap.size An n) => dr_Order (c := cn) of hf s bs n hn un W h)
    have C2 := hid (fun W (h : Rd (Value.int .i64) W W.heap.size An n) => ref_Order (c := cn) of hf s bs n (by omega) un W h)
    have C3 := hid (fun W (h : Rd (Value.int .i64) W W.heap.size An n) => dr_Pick (c := cn) many of hm hf s bs n hn un W h)
    have C4 := hid (fun W (h : Rd (Value.int .i64) W W.heap.size An n) => ref_Pick (c := cn) many of hm hf s bs n (by omega) un W h)
    have hX : (ordV of s n).length ≤ 4096 := by
      by_cases h : ordE of = 0
      · rw [ordV_len h]; have := ordE_ok.1 h; omega
      · rw [show ordV of s n = [] from if_neg h]; simp
    have hY : (picV many of s n).length ≤ 4096 := by
      by_cases h : picE many of = 0
      · rw [picV_len h]; have h2 := picE_ok.1 h; have := ordE_ok.1 h2.2.2; omega
      · rw [show picV many of s n = [] from if_neg h]; simp
    obtain ⟨X, e_X⟩ : ∃ x, ordV of s n = x := ⟨_, rfl⟩
    rw [e_X] at C1 C2 hX
    clear e_X
    obtain ⟨e1, e_e1⟩ : ∃ x, ordE of = x := ⟨_, rfl⟩
    rw [e_e1] at C1 C2
    clear e_e1
    obtain ⟨Y, e_Y⟩ : ∃ x, picV many of s n = x := ⟨_, rfl⟩
    rw [e_Y] at C3 C4 hY
    clear e_Y
    obtain ⟨e2, e_e2⟩ : ∃ x, picE many of = x := ⟨_, rfl⟩
    rw [e_e2] at C3 C4
    clear e_e2
    have CQ1 := hid (fun (A B : Option Addr) (c d : Nat) (W : World) (h1 : Rd (Value.int .i64) W W.heap.size A X) (h2 : Rd (Value.int .i64) W W.heap.size B X) => equal_it (X := X) (by omega) (A := A) (B := B) (c := c) (d := d) W h1 h2)
    have CQ2 := hid (fun (A B : Option Addr) (c d : Nat) (W : World) (h1 : Rd (Value.int .i64) W W.heap.size A Y) (h2 : Rd (Value.int .i64) W W.heap.size B Y) => equal_it (X := Y) (by omega) (A := A) (B := B) (c := c) (d := d) W h1 h2)
    have CQ3 := hid (fun (A B : Option Addr) (c d : Nat) (W : World) (h1 : Rd (Value.int .i64) W W.heap.size A n) (h2 : Rd (Value.int .i64) W W.heap.size B n) => equal_it (X := n) (by omega) (A := A) (B := B) (c := c) (d := d) W h1 h2)
    clear rn un hX hY hm hf
    go_enter Try.func4, Try.ntmps4
    go_wp2_with fail
    refine (dr_live _).mono ?_
    rintro _ w1 ⟨rfl, k1⟩
    have RN := hid (HN.out.on k1)
    go_wp2_with fail
    refine (CF.out w1).mono ?_
    rintro _ _ ⟨rfl, rfl⟩
    clear CF
    go_wp2_with (at_builtin; refine wpList_app (Value.int .i64) (fun _ => rfl) _ rfl _ _ 23 rfl w1.heap.size 3 (.int .i64 0) 8 Try.underlying23 info_int rfl [] none 0 rfl (own_nil _ _ _) n An cn w1.heap.size rfl RN.out (by simp [maxLen]; omega) (by simp; omega) (Nat.le_refl _) ?_)
    rintro S A2 c2 w2 hS ho2 hb2 _
    obtain rfl := hS
    have k2 := k1.trans (hb2.mono k1.size)
    have HSw := hid (own_rd ho2)
    clear ho2 hb2 RN
    go_wp2_with fail
    refine (C1.out w2 (HN.out.on k2)).mono ?_
    rintro _ w3 ⟨A3, c3, rfl, ho3, hb3⟩
    have k3 := k2.trans (hb3.mono k2.size)
    have HL4 := hid (HSw.out.on hb3)
    clear HSw
    have HS3 := hid (own_rd ho3)
    have HO3 := hid ho3
    clear ho3
    clear hb3 k2
    go_wp2_with fail
    refine (C2.out w3 (HN.out.on k3)).mono ?_
    rintro _ w5 ⟨A5, c5, rfl, ho5, hb5⟩
    have k5 := k3.trans (hb5.mono k3.size)
    have HL6 := hid (HL4.out.on hb5)
    clear HL4
    have HL7 := hid (HS3.out.on hb5)
    clear HS3
    have HS5 := hid (own_rd ho5)
    have HO5 := hid ho5
    clear ho5
    clear hb5 k3
    go_wp2_with fail
    refine (C3.out w5 (HN.out.on k5)).mono ?_
    rintro _ w8 ⟨A8, c8, rfl, ho8, hb8⟩
    have k8 := k5.trans (hb8.mono k5.size)
    have HL9 := hid (HL6.out.on hb8)
    clear HL6
    have HL10 := hid (HL7.out.on hb8)
    clear HL7
    have HL11 := hid (HS5.out.on hb8)
    clear HS5
    have HS8 := hid (own_rd ho8)
    have HO8 := hid ho8
    clear ho8
    clear hb8 k5
    go_wp2_with fail
    refine (C4.out w8 (HN.out.on k8)).mono ?_
    rintro _ w12 ⟨A12, c12, rfl, ho12, hb12⟩
    have k12 := k8.trans (hb12.mono k8.size)
    have HL13 := hid (HL9.out.on hb12)
    clear HL9
    have HL14 := hid (HL10.out.on hb12)
    clear HL10
    have HL15 := hid (HL11.out.on hb12)
    clear HL11
    have HL16 := hid (HS8.out.on hb12)
    clear HS8
    have HS12 := hid (own_rd ho12)
    have HO12 := hid ho12
    clear ho12
    clear hb12 k8
    go_wp2_with fail
    refine (CQ1.out _ _ _ _ w12 HL14.out HL15.out).mono ?_
    rintro _ w17 ⟨rfl, hb17⟩
    have k17 := k12.trans (hb17.mono k12.size)
    have HL18 := hid (HL13.out.on hb17)
    clear HL13
    have HL19 := hid (HL14.out.on hb17)
    clear HL14
    have HL20 := hid (HL15.out.on hb17)
    clear HL15
    have HL21 := hid (HL16.out.on hb17)
    clear HL16
    have HL22 := hid (HS12.out.on hb17)
    clear HS12
    clear hb17 k12
    go_wp2_with fail
    refine (CQ2.out _ _ _ _ w17 HL21.out HL22.out).mono ?_
    rintro _ w23 ⟨rfl, hb23⟩
    have k23 := k17.trans (hb23.mono k17.size)
    have HL24 := hid (HL18.out.on hb23)
    clear HL18
    have HL25 := hid (HL19.out.on hb23)
    clear HL19
    have HL26 := hid (HL20.out.on hb23)
    clear HL20
    have HL27 := hid (HL21.out.on hb23)
    clear HL21
    have HL28 := hid (HL22.out.on hb23)
    clear HL22
    clear hb23 k17
    go_wp2_with fail
    refine (CQ3.out _ _ _ _ w23 (HN.out.on k23) HL24.out).mono ?_
    rintro _ w29 ⟨rfl, hb29⟩
    have k29 := k23.trans (hb29.mono k23.size)
    have HL30 := hid (HL24.out.on hb29)
    clear HL24
    have HL31 := hid (HL25.out.on hb29)
    clear HL25
    have HL32 := hid (HL26.out.on hb29)
    clear HL26
    have HL33 := hid (HL27.out.on hb29)
    clear HL27
    have HL34 := hid (HL28.out.on hb29)
    clear HL28
    clear hb29 k23
    go_wp2_with fail
    go_ret
    exact ⟨rfl, k29⟩
  · rw [decide_eq_false hl] at CF
    clear rn un
    go_enter Try.func4, Try.ntmps4
    go_wp2_with fail
    refine (dr_live _).mono ?_
    rintro _ w1 ⟨rfl, k1⟩
    have RN := hid (HN.out.on k1)
    go_wp2_with fail
    refine (CF.out w1).mono ?_
    rintro _ _ ⟨rfl, rfl⟩
    go_wp2_with fail
    go_ret
    exact ⟨rfl, k1⟩
theorem law_types : ∀ t ∈ Try.f4.params.toList, Try.prog.readableRec t = true ∧ t < Try.prog.types.size := by
  have h : (Try.f4.params.toList.all fun t => Try.prog.readableRec t && decide (t < Try.prog.types.size)) = true := by kernel_rfl
  intro t ht
  simpa using List.all_eq_true.1 h t ht
set_option maxRecDepth 100000 in
theorem lifted (os : Os) (started : os.Started) (H : Type) (enc : TypeId × Value → H) :
    ReturnsInHanded {} Try.checked os 4 .any (Rows.drawOrdersSpec.pre6 enc Try.prog Try.f4 Rows.drawOrdersRow.domain false) (Rows.drawOrdersSpec.post enc Try.prog Try.f4 false true false false) := by
  refine returnsInHanded_of_change (C := Try.checked) own started (by kernel_rfl) Try.func4
    (ChangeSpec.witness6 (enc := enc) (C := Try.checked) false ⟨#[], #[.int .i64 0, .int .i64 0, .int .u64 0, .slice none 0 0], []⟩ 8 (by kernel_rfl) (by kernel_rfl) (by kernel_rfl) (by kernel_rfl)) ?_
  intro W base args ds gs before hval0 hW hcnd _
  have hval : ∀ (j : Nat) t v, Try.f4.params[j]? = some t → args[j]? = some v → Value.okWide Try.prog W .any base t v := hval0
  have hW' := hW
  obtain ⟨p, q, hA0, hV, rfl, hfz, hnd⟩ := hW
  have hA : DataW.TrodAll enc Try.prog W 0 (fun _ => true) true Try.f4.params.toList args.toList ds p := hA0
  rw [Try.params4] at hA hval
  obtain ⟨v0, vs0, d0, ds0, p0, q0, hargs, rfl, rfl, h0, r0⟩ := trodAll_cons hA
  obtain ⟨v1, vs1, d1, ds1, p1, q1, rfl, rfl, rfl, h1, r1⟩ := trodAll_cons r0
  obtain ⟨v2, vs2, d2, ds2, p2, q2, rfl, rfl, rfl, h2, r2⟩ := trodAll_cons r1
  obtain ⟨v3, vs3, d3, ds3, p3, q3, rfl, rfl, rfl, h3, r3⟩ := trodAll_cons r2
  obtain ⟨rfl, rfl, rfl⟩ := trodAll_nil r3
  obtain rfl : args = #[v0, v1, v2, v3] := by cases args; simp_all
  obtain ⟨rfl, rfl⟩ := trodVars_none hV
  obtain ⟨many, rfl, rfl, rfl, w0⟩ := open_int Try.underlying3 (hval 0 3 v0 rfl rfl) h0
  obtain ⟨of, rfl, rfl, rfl, w1⟩ := open_int Try.underlying3 (hval 1 3 v1 rfl rfl) h1
  obtain ⟨seed, rfl, rfl, rfl, w2⟩ := open_int Try.underlying22 (hval 2 22 v2 rfl rfl) h2
  obtain ⟨Al, l, cl, rfl, rdl, il, lcl, lml⟩ := open_nums Try.underlying23 Try.underlying3 cells_int (hval 3 23 v3 rfl rfl) h3
  clear hA0 hval0
  refine (walk many of seed Al l cl W (I64.of_wf w0) (I64.of_wf w1) (U64.of_wf w2) rdl (fun x hx => I64.of_wf (il x hx)) lcl lml).mono fun e W' ⟨he, hb⟩ => ?_
  subst he
  exact ⟨_, rfl, law_post laid (fun t ht => law_types t ht) rfl hW' ⟨rfl, rfl, rfl⟩ (by kernel_rfl) Try.underlying4 hb⟩

theorem over : Rows.drawOrdersRow.holds Try.pinned (OpenSpec.ofChange Rows.drawOrdersSpec) :=
  OpenClaim.holds_of_wide 4 Try.f4 rfl rfl rfl rfl rfl rfl rfl ⟨rfl, rfl, rfl, rfl, rfl⟩ rfl rfl rfl rfl rfl (by kernel_rfl) Try.func4 (by kernel_rfl)
    (of_decide_eq_true (by kernel_rfl)) (by unfold Func.isWrapper; first | (rw [if_pos (by decide +kernel)]; kernel_rfl) | (rw [if_neg (by decide +kernel)]; exact ⟨rfl, rfl⟩))
    (fun os started H enc _ => lifted os started H enc)

theorem proved : Rows.DrawOrdersSaid := over
end Go.Proofs.Ytjkdmpegdgkdfaa.DrawOrders
