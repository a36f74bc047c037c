
/-
  TableShares answers true for every input. No condition.
-/
import Derived.Test.YtnokomlekndgfaaTbLv
import Derived.Test.YtnokomlekndgfaaArg
import Derived.Test.YtnokomlekndgfaaLaw
namespace Go.Proofs.Ytnokomlekndgfaa.TableShares
open Go.ChangeShapes Go.WideShapes Go.ChangeAt Go.RowKit
set_option maxHeartbeats 400000
set_option linter.unusedVariables false
open Go.Proofs.Ytnokomlekndgfaa
set_option maxHeartbeats 2000000 in
set_option maxRecDepth 100000 in
theorem walk (frac : Int) (Az : Option Addr) (z : List Int) (cz : Nat) (w : World) (hf : I64 frac) (rz : Rd (Value.int .i64) w w.heap.size Az z) (iz : I64s z) (lz : z.length ≤ cz) (mz : cz ≤ 9223372036854775807) :
    Calls Try.prog 4 #[.int .i64 frac, .slice Az z.length cz] w fun e w' => e = .returned (.bool true) ∧ Below w.heap.size w w' := by
  have hl : z.length ≤ 9223372036854775807 := by omega
  have HN := hid rz
  have CF := hid (fun W => tb_few (A := Az) (c := cz) z hl W)
  cases hfew : fewB z with
  | false =>
    rw [hfew] at CF
    clear hfew rz iz lz mz
    go_enter Try.func4, Try.ntmps4
    go_wp2_with fail
    refine (tb_live _).mono ?_
    rintro _ w1 ⟨rfl, k1⟩
    go_wp2_with fail
    refine (CF.out w1).mono ?_
    rintro _ _ ⟨rfl, rfl⟩
    go_wp2_with fail
    go_ret
    exact ⟨rfl, k1⟩
  | true =>
    rw [hfew] at CF
    have hl5 : z.length ≤ 5000 := by unfold fewB at hfew; simp at hfew; omega
    have C1 := hid (fun W (h : Rd (Value.int .i64) W W.heap.size Az z) => tb_Soft (c := cz) frac z hl iz W h)
    have C2 := hid (fun W (h : Rd (Value.int .i64) W W.heap.size Az z) => ref_Soft (c := cz) frac z hl iz W h)
    have C3 := hid (fun W (h : Rd (Value.int .i64) W W.heap.size Az z) => tb_Best (c := cz) z hl W h)
    have C4 := hid (fun W (h : Rd (Value.int .i64) W W.heap.size Az z) => ref_Best (c := cz) z hl W h)
    have hsl : (sofV frac z).length ≤ 5000 := by
      unfold sofV
      split
      · rw [sofL_len]; exact hl5
      · simp
    obtain ⟨V, hV⟩ : ∃ V, sofV frac z = V := ⟨_, rfl⟩
    obtain ⟨E, hE⟩ : ∃ E, sofE frac z = E := ⟨_, rfl⟩
    obtain ⟨B, hB⟩ : ∃ B, bstN z = B := ⟨_, rfl⟩
    obtain ⟨F, hF⟩ : ∃ F, bstE z = F := ⟨_, rfl⟩
    rw [hV, hE] at C1 C2
    rw [hB, hF] at C3 C4
    rw [hV] at hsl
    have CS := hid (fun (A B : Option Addr) (c d : Nat) (W : World) (h1 : Rd (Value.int .i64) W W.heap.size A V) (h2 : Rd (Value.int .i64) W W.heap.size B V) => tb_rsame (A := A) (B := B) (c := c) (d := d) V (by omega) W h1 h2)
    have CZ := hid (fun (A B : Option Addr) (c d : Nat) (W : World) (h1 : Rd (Value.int .i64) W W.heap.size A z) (h2 : Rd (Value.int .i64) W W.heap.size B z) => tb_rsame (A := A) (B := B) (c := c) (d := d) z (by omega) W h1 h2)
    have HL5 := hid hl5
    clear hV hE hB hF hfew rz iz lz mz hsl
    go_enter Try.func4, Try.ntmps4
    go_wp2_with fail
    refine (tb_live _).mono ?_
    rintro _ w1 ⟨rfl, k1⟩
    have K1 := hid k1
    have RZ := hid (HN.out.on k1)
    clear k1
    go_wp2_with fail
    refine (CF.out w1).mono ?_
    rintro _ _ ⟨rfl, rfl⟩
    go_wp2_with (at_builtin; refine wpList_app (Value.int .i64) (fun _ => rfl) _ rfl _ _ 32 rfl w.heap.size 2 (.int .i64 0) 8 Try.underlying32 info_i64 rfl [] none 0 rfl (own_nil _ _ _) z Az cz _ rfl RZ.out (by have := HL5.out; simp [maxLen]; omega) (by have := HL5.out; simp; omega) K1.out.size ?_)
    rintro S A2 c2 w2 hS ho2 hb2 hg2
    obtain rfl : S = z := hS
    have K2 : Hid (Below w.heap.size w w2) := hid (K1.out.trans hb2)
    have RW : Hid (Rd (Value.int .i64) w2 w2.heap.size A2 S) := hid (own_rd ho2)
    have RZ2 : Hid (Rd (Value.int .i64) w2 w2.heap.size Az S) := hid (HN.out.on K2.out)
    clear hb2 hg2 ho2 K1 RZ
    go_wp2_with fail
    refine (C1.out _ RZ2.out).mono ?_
    rintro _ w3 ⟨A3, c3, rfl, ho3, hb3⟩
    have K3 : Hid (Below w.heap.size w w3) := hid (K2.out.trans (hb3.mono K2.out.size))
    have R3 : Hid (Rd (Value.int .i64) w3 w3.heap.size A3 V) := hid (own_rd ho3)
    have RW3 := hid (RW.out.on hb3)
    have RZ3 : Hid (Rd (Value.int .i64) w3 w3.heap.size Az S) := hid (HN.out.on K3.out)
    clear hb3 ho3 K2 RW RZ2
    go_wp2_with fail
    refine (C2.out _ RZ3.out).mono ?_
    rintro _ w4 ⟨A4, c4, rfl, ho4, hb4⟩
    have K4 : Hid (Below w.heap.size w w4) := hid (K3.out.trans (hb4.mono K3.out.size))
    have R4 : Hid (Rd (Value.int .i64) w4 w4.heap.size A4 V) := hid (own_rd ho4)
    have R34 := hid (R3.out.on hb4)
    have RW4 := hid (RW3.out.on hb4)
    have RZ4 : Hid (Rd (Value.int .i64) w4 w4.heap.size Az S) := hid (HN.out.on K4.out)
    clear hb4 ho4 K3 RW3 RZ3 R3
    go_wp2_with fail
    refine (C3.out _ RZ4.out).mono ?_
    rintro _ w5 ⟨rfl, hb5⟩
    have K5 : Hid (Below w.heap.size w w5) := hid (K4.out.trans (hb5.mono K4.out.size))
    have R45 := hid (R4.out.on hb5)
    have R35 := hid (R34.out.on hb5)
    have RW5 := hid (RW4.out.on hb5)
    have RZ5 : Hid (Rd (Value.int .i64) w5 w5.heap.size Az S) := hid (HN.out.on K5.out)
    clear hb5 K4 RW4 RZ4 R34 R4
    go_wp2_with fail
    refine (C4.out _ RZ5.out).mono ?_
    rintro _ w6 ⟨rfl, hb6⟩
    have K6 : Hid (Below w.heap.size w w6) := hid (K5.out.trans (hb6.mono K5.out.size))
    have R46 := hid (R45.out.on hb6)
    have R36 := hid (R35.out.on hb6)
    have RW6 := hid (RW5.out.on hb6)
    clear hb6 K5 RW5 RZ5 R35 R45
    go_wp2_with fail
    refine (CS.out _ _ _ _ _ R36.out R46.out).mono ?_
    rintro _ w7 ⟨rfl, hb7⟩
    have K7 : Hid (Below w.heap.size w w7) := hid (K6.out.trans (hb7.mono K6.out.size))
    have RW7 := hid (RW6.out.on hb7)
    have RZ7 : Hid (Rd (Value.int .i64) w7 w7.heap.size Az S) := hid (HN.out.on K7.out)
    clear hb7 K6 RW6
    go_wp2_with fail
    refine (CZ.out _ _ _ _ _ RZ7.out RW7.out).mono ?_
    rintro _ w8 ⟨rfl, hb8⟩
    have K8 : Hid (Below w.heap.size w w8) := hid (K7.out.trans (hb8.mono K7.out.size))
    clear hb8
    go_wp2_with fail
    go_ret
    exact ⟨rfl, K8.out⟩
theorem law_types : ∀ t ∈ Try.f4.params.toList, Try.prog.readableRec t = true ∧ t < Try.prog.types.size := by
  have h : (Try.f4.params.toList.all fun t => Try.prog.readableRec t && decide (t < Try.prog.types.size)) = true := by kernel_rfl
  intro t ht
  simpa using List.all_eq_true.1 h t ht
set_option maxRecDepth 100000 in
theorem lifted (os : Os) (started : os.Started) (H : Type) (enc : TypeId × Value → H) :
    ReturnsInHanded {} Try.checked os 4 .any (Rows.tableSharesSpec.pre6 enc Try.prog Try.f4 Rows.tableSharesRow.domain false) (Rows.tableSharesSpec.post enc Try.prog Try.f4 false true false false) := by
  refine returnsInHanded_of_change (C := Try.checked) own started (by kernel_rfl) Try.func4
    (ChangeSpec.witness6 (enc := enc) (C := Try.checked) false ⟨#[], #[.int .i64 0, .slice none 0 0], []⟩ 8 (by kernel_rfl) (by kernel_rfl) (by kernel_rfl) (by kernel_rfl)) ?_
  intro W base args ds gs before hval0 hW hcnd _
  have hval : ∀ (j : Nat) t v, Try.f4.params[j]? = some t → args[j]? = some v → Value.okWide Try.prog W .any base t v := hval0
  have hW' := hW
  obtain ⟨p, q, hA0, hV, rfl, hfz, hnd⟩ := hW
  have hA : DataW.TrodAll enc Try.prog W 0 (fun _ => true) true Try.f4.params.toList args.toList ds p := hA0
  rw [Try.params4] at hA hval
  obtain ⟨v0, vs0, d0, ds0, p0, q0, hargs, rfl, rfl, h0, r0⟩ := trodAll_cons hA
  obtain ⟨v1, vs1, d1, ds1, p1, q1, rfl, rfl, rfl, h1, r1⟩ := trodAll_cons r0
  obtain ⟨rfl, rfl, rfl⟩ := trodAll_nil r1
  obtain rfl : args = #[v0, v1] := by cases args; simp_all
  obtain ⟨rfl, rfl⟩ := trodVars_none hV
  obtain ⟨frac, rfl, rfl, rfl, w0⟩ := open_int Try.underlying3 (hval 0 3 v0 rfl rfl) h0
  obtain ⟨Az, z, cz, rfl, rdz, iz, lcz, lmz⟩ := open_nums Try.underlying32 Try.underlying2 cells_i64' (hval 1 32 v1 rfl rfl) h1
  clear hA0 hval0
  refine (walk frac Az z cz W (I64.of_wf w0) rdz (fun x hx => I64.of_wf (iz x hx)) lcz lmz).mono fun e W' ⟨he, hb⟩ => ?_
  subst he
  exact ⟨_, rfl, law_post laid (fun t ht => law_types t ht) rfl hW' ⟨rfl, rfl, rfl⟩ (by kernel_rfl) Try.underlying4 hb⟩

theorem over : Rows.tableSharesRow.holds Try.pinned (OpenSpec.ofChange Rows.tableSharesSpec) :=
  OpenClaim.holds_of_wide 4 Try.f4 rfl rfl rfl rfl rfl rfl rfl ⟨rfl, rfl, rfl, rfl, rfl⟩ rfl rfl rfl rfl rfl (by kernel_rfl) Try.func4 (by kernel_rfl)
    (of_decide_eq_true (by kernel_rfl)) (by unfold Func.isWrapper; first | (rw [if_pos (by decide +kernel)]; kernel_rfl) | (rw [if_neg (by decide +kernel)]; exact ⟨rfl, rfl⟩))
    (fun os started H enc _ => lifted os started H enc)

theorem proved : Rows.TableSharesSaid := over
end Go.Proofs.Ytnokomlekndgfaa.TableShares
