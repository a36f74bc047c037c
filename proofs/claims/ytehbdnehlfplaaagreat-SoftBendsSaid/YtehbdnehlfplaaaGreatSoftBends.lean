
/-
  SoftBends answers true for every input. No condition.
-/
import Derived.Test.YtehbdnehlfplaaaGreatQd
import Derived.Test.YtehbdnehlfplaaaGreatQb
import Derived.Test.YtehbdnehlfplaaaGreatQa
namespace Go.Proofs.YtehbdnehlfplaaaGreat.SoftBends
open Go.ChangeShapes Go.WideShapes Go.ChangeAt Go.RowKit
set_option maxHeartbeats 400000
set_option linter.unusedVariables false
open Go.Proofs.YtehbdnehlfplaaaGreat
set_option maxHeartbeats 4000000 in
set_option maxRecDepth 100000 in
theorem walk (n o : Int) (Au : Option Addr) (u : List Int) (cu : Nat) (f : Int) (Al : Option Addr) (l : List SmpV) (cl : Nat) (w : World) (hn : I64 n) (ho : I64 o)
    (ru : Rd (Value.int .i64) w w.heap.size Au u) (iu : I64s u) (lcu : u.length ≤ cu) (lmu : cu ≤ 9223372036854775807) (hf : I64 f)
    (rl : RdSm w w.heap.size Al l) (il : ∀ s ∈ l, I64s s.X ∧ I64 s.Y ∧ s.X.length ≤ 9223372036854775807) (lcl : l.length ≤ cl) (lml : cl ≤ 9223372036854775807) :
    Calls Tryz.prog 3 #[.int .i64 n, .int .i64 o, .slice Au u.length cu, .int .i64 f, .slice Al l.length cl] w fun e w' => e = .returned (.bool true) ∧ Below w.heap.size w w' := by
  have hul : u.length ≤ 9223372036854775807 := by omega
  have hll : l.length ≤ 9223372036854775807 := by omega
  have C0 := hid (fun W h => ref_Few14 (Aw := Au) (A := Al) (cw := cu) (c := cl) u.length hul l hll W h)
  have C1 := hid (fun W h1 h2 => sf_Grad (Au := Au) (A := Al) (cu := cu) (c := cl) o ho u lcu lmu iu f l hll il W h1 h2)
  have C2 := hid (fun W h1 h2 => ref_Grad15 (Au := Au) (A := Al) (cu := cu) (c := cl) o ho u lcu lmu iu f l hll il W h1 h2)
  have C3 := hid (fun W h1 h2 => sf_Right (Au := Au) (A := Al) (cu := cu) (c := cl) o ho u lcu lmu iu f l hll il W h1 h2)
  have C4 := hid (fun W h1 h2 => ref_Right15 (Au := Au) (A := Al) (cu := cu) (c := cl) o ho u lcu lmu iu f l hll il W h1 h2)
  have C5 := hid (fun W h => sf_Check (Aw := Au) (A := Al) (cw := cu) (c := cl) n o hn ho u hul lcu l hll (fun s hs => (il s hs).2.2) W h)
  have C6 := hid (fun W h => ref_Check15 (Aw := Au) (A := Al) (cw := cu) (c := cl) n o hn ho u hul l hll (fun s hs => (il s hs).2.2) W h)
  have hfew : fewL u.length l = true → u.length ≤ 500 ∧ l.length ≤ 100 := fun h => by
    unfold fewL at h
    simp only [Bool.and_eq_true, decide_eq_true_eq] at h
    exact h.2
  obtain ⟨F, hF⟩ : ∃ F, fewL u.length l = F := ⟨_, rfl⟩
  obtain ⟨V, hV⟩ : ∃ V, sgdV o u f l = V := ⟨_, rfl⟩
  obtain ⟨E, hE⟩ : ∃ E, sgdE o u f l = E := ⟨_, rfl⟩
  obtain ⟨Z, hZ⟩ : ∃ Z, rgO o u f l = Z := ⟨_, rfl⟩
  obtain ⟨G, hG⟩ : ∃ G, rgE o u f l = G := ⟨_, rfl⟩
  obtain ⟨Q, hQ⟩ : ∃ Q, scE n o u l = Q := ⟨_, rfl⟩
  have CS := hid (fun (A B : Option Addr) (c d : Nat) (W : World) (h1 : Rd (Value.int .i64) W W.heap.size A u) (h2 : Rd (Value.int .i64) W W.heap.size B u) => sf_rsame (A := A) (B := B) (c := c) (d := d) u hul W h1 h2)
  rw [hF] at C0 hfew
  rw [hV, hE] at C1 C2
  rw [hZ, hG] at C3 C4
  rw [hQ] at C5 C6
  obtain ⟨U, hU⟩ : ∃ U, u.length = U := ⟨_, rfl⟩
  obtain ⟨M, hM⟩ : ∃ M, l.length = M := ⟨_, rfl⟩
  rw [hU] at C0 C1 C2 C3 C4 C5 C6 CS hfew ⊢
  rw [hM] at C0 C1 C2 C3 C4 C5 C6 hfew ⊢
  have HU := hid hU
  have RU := hid ru
  have RL := hid rl
  clear hF hV hE hZ hG hQ hM ru rl il iu lcl lml lcu hf hn ho hul hll hU
  cases F with
  | false =>
    clear hfew
    go_enter Tryz.func3, Tryz.ntmps3
    go_wp2_with fail
    refine (sf_live _).mono ?_
    rintro _ w1 ⟨rfl, h1⟩
    have K1 := hid h1
    clear h1
    go_wp2_with fail
    refine (C0.out _ (RL.out.on K1.out)).mono ?_
    rintro _ w2 ⟨rfl, h2⟩
    have K2 : Hid (Below w.heap.size w w2) := hid (K1.out.trans (h2.mono K1.out.size))
    clear h2
    go_wp2_with fail
    go_ret
    exact ⟨rfl, K2.out⟩
  | true =>
    have hb := (hfew rfl).1
    clear hfew
    go_enter Tryz.func3, Tryz.ntmps3
    go_wp2_with fail
    refine (sf_live _).mono ?_
    rintro _ w1 ⟨rfl, h1⟩
    have K1 := hid h1
    clear h1
    go_wp2_with fail
    refine (C0.out _ (RL.out.on K1.out)).mono ?_
    rintro _ w2 ⟨rfl, h2⟩
    have K2 : Hid (Below w.heap.size w w2) := hid (K1.out.trans (h2.mono K1.out.size))
    have RU2 := (RU.out.on K2.out)
    clear h2
    go_wp2_with (at_builtin; refine wpList_app (Value.int .i64) (fun _ => rfl) _ rfl _ _ 22 rfl w2.heap.size 2 (.int .i64 0) 8 Tryz.underlying22 info_i64 rfl [] none 0 rfl (own_nil _ _ _) u Au cu _ (by rw [HU.out]; rfl) RU2 (by have := HU.out; simp [maxLen]; omega) (by have := HU.out; simp; omega) (Nat.le_refl _) ?_)
    rintro S A3 c3 w3 hS ho3 hb3 _
    have K3 : Hid (Below w.heap.size w w3) := hid (K2.out.trans (hb3.mono K2.out.size))
    replace hS : S = u := by simpa using hS
    have RS := own_rd ho3
    rw [hS] at RS
    have hSl : S.length = U := by rw [hS, HU.out]
    rw [hSl]
    have HRS := hid RS
    clear hS ho3 hb3 RS hSl RU2 C0
    go_wp2_with fail
    refine (C1.out _ (RU.out.on K3.out) (RL.out.on K3.out)).mono ?_
    rintro _ w4 ⟨A4, c4, rfl, ho4, h4⟩
    have R4 := hid (own_rd ho4)
    have HVL : Hid (V.length ≤ 9223372036854775807) := hid (by have := own_cap ho4; omega)
    have J4 := hid h4
    clear h4 ho4
    go_wp2_with fail
    refine (C2.out _ (RU.out.on (K3.out.trans (J4.out.mono K3.out.size))) (RL.out.on (K3.out.trans (J4.out.mono K3.out.size)))).mono ?_
    rintro _ w5 ⟨A5, c5, rfl, ho5, h5⟩
    have J5 : Hid (Below w3.heap.size w3 w5) := hid (J4.out.trans (h5.mono J4.out.size))
    have R4' := hid (R4.out.on h5)
    have R5 := hid (own_rd ho5)
    have K5 : Hid (Below w.heap.size w w5) := hid (K3.out.trans (J5.out.mono K3.out.size))
    clear h5 ho5 R4 J4
    go_wp2_with fail
    refine (C3.out _ (RU.out.on K5.out) (RL.out.on K5.out)).mono ?_
    rintro _ w6 ⟨rfl, h6⟩
    have K6 : Hid (Below w.heap.size w w6) := hid (K5.out.trans (h6.mono K5.out.size))
    have L6 : Hid (Below w5.heap.size w5 w6) := hid h6
    clear h6
    go_wp2_with fail
    refine (C4.out _ (RU.out.on K6.out) (RL.out.on K6.out)).mono ?_
    rintro _ w7 ⟨rfl, h7⟩
    have L7 : Hid (Below w5.heap.size w5 w7) := hid (L6.out.trans (h7.mono L6.out.size))
    have K7 : Hid (Below w.heap.size w w7) := hid (K5.out.trans (L7.out.mono K5.out.size))
    have J7 : Hid (Below w3.heap.size w3 w7) := hid (J5.out.trans (L7.out.mono J5.out.size))
    have C7 := hid (sf_rsame (A := A4) (B := A5) (c := c4) (d := c5) V HVL.out w7 (R4'.out.on L7.out) (R5.out.on L7.out))
    clear h7 R4' R5 K5 K6 L6
    go_wp2_with fail
    refine C7.out.mono ?_
    rintro _ w8 ⟨rfl, h8⟩
    have J8 : Hid (Below w3.heap.size w3 w8) := hid (J7.out.trans (h8.mono J7.out.size))
    have K8 : Hid (Below w.heap.size w w8) := hid (K3.out.trans (J8.out.mono K3.out.size))
    clear h8
    go_wp2_with fail
    refine (C5.out _ (RL.out.on K8.out)).mono ?_
    rintro _ w9 ⟨rfl, h9⟩
    have J9 : Hid (Below w3.heap.size w3 w9) := hid (J8.out.trans (h9.mono J8.out.size))
    have K9 : Hid (Below w.heap.size w w9) := hid (K3.out.trans (J9.out.mono K3.out.size))
    clear h9
    go_wp2_with fail
    refine (C6.out _ (RL.out.on K9.out)).mono ?_
    rintro _ v0 ⟨rfl, h0⟩
    have J0 : Hid (Below w3.heap.size w3 v0) := hid (J9.out.trans (h0.mono J9.out.size))
    have K0 : Hid (Below w.heap.size w v0) := hid (K3.out.trans (J0.out.mono K3.out.size))
    clear h0
    go_wp2_with fail
    refine (CS.out _ _ _ _ _ (RU.out.on K0.out) (HRS.out.on J0.out)).mono ?_
    rintro _ v1 ⟨rfl, h1⟩
    have K' : Hid (Below w.heap.size w v1) := hid (K0.out.trans (h1.mono K0.out.size))
    clear h1
    go_wp2_with fail
    go_ret
    exact ⟨rfl, K'.out⟩
theorem law_types : ∀ t ∈ Tryz.f3.params.toList, Tryz.prog.readableRec t = true ∧ t < Tryz.prog.types.size := by
  have h : (Tryz.f3.params.toList.all fun t => Tryz.prog.readableRec t && decide (t < Tryz.prog.types.size)) = true := by kernel_rfl
  intro t ht
  simpa using List.all_eq_true.1 h t ht
set_option maxRecDepth 100000 in
theorem lifted (os : Os) (started : os.Started) (H : Type) (enc : TypeId × Value → H) :
    ReturnsInHanded {} Tryz.checked os 3 .any (Rows.softBendsSpec.pre6 enc Tryz.prog Tryz.f3 Rows.softBendsRow.domain false) (Rows.softBendsSpec.post enc Tryz.prog Tryz.f3 false true false false) := by
  refine returnsInHanded_of_change (C := Tryz.checked) own started (by kernel_rfl) Tryz.func3
    (ChangeSpec.witness6 (enc := enc) (C := Tryz.checked) false ⟨#[], #[.int .i64 0, .int .i64 0, .slice none 0 0, .int .i64 0, .slice none 0 0], []⟩ 8 (by kernel_rfl) (by kernel_rfl) (by kernel_rfl) (by kernel_rfl)) ?_
  intro W base args ds gs before hval0 hW hcnd _
  have hval : ∀ (j : Nat) t v, Tryz.f3.params[j]? = some t → args[j]? = some v → Value.okWide Tryz.prog W .any base t v := hval0
  have hW' := hW
  obtain ⟨p, q, hA0, hV, rfl, hfz, hnd⟩ := hW
  have hA : DataW.TrodAll enc Tryz.prog W 0 (fun _ => true) true Tryz.f3.params.toList args.toList ds p := hA0
  rw [Tryz.params3] at hA hval
  obtain ⟨v0, vs0, d0, ds0, p0, q0, hargs, rfl, rfl, h0, r0⟩ := trodAll_cons hA
  obtain ⟨v1, vs1, d1, ds1, p1, q1, rfl, rfl, rfl, h1, r1⟩ := trodAll_cons r0
  obtain ⟨v2, vs2, d2, ds2, p2, q2, rfl, rfl, rfl, h2, r2⟩ := trodAll_cons r1
  obtain ⟨v3, vs3, d3, ds3, p3, q3, rfl, rfl, rfl, h3, r3⟩ := trodAll_cons r2
  obtain ⟨v4, vs4, d4, ds4, p4, q4, rfl, rfl, rfl, h4, r4⟩ := trodAll_cons r3
  obtain ⟨rfl, rfl, rfl⟩ := trodAll_nil r4
  obtain rfl : args = #[v0, v1, v2, v3, v4] := by cases args; simp_all
  obtain ⟨rfl, rfl⟩ := trodVars_none hV
  obtain ⟨n, rfl, rfl, rfl, w0⟩ := open_int Tryz.underlying3 (hval 0 3 v0 rfl rfl) h0
  obtain ⟨o, rfl, rfl, rfl, w1⟩ := open_int Tryz.underlying3 (hval 1 3 v1 rfl rfl) h1
  obtain ⟨Au, u, cu, rfl, rdu, iu, lcu, lmu⟩ := open_nums Tryz.underlying22 Tryz.underlying2 cells_i64' (hval 2 22 v2 rfl rfl) h2
  obtain ⟨f, rfl, rfl, rfl, w3⟩ := open_int Tryz.underlying3 (hval 3 3 v3 rfl rfl) h3
  obtain ⟨Al, l, cl, rfl, rdl, il, lcl, lml⟩ := open_smps (hval 4 23 v4 rfl rfl) h4
  clear hA0 hval0
  refine (walk n o Au u cu f Al l cl W (I64.of_wf w0) (I64.of_wf w1) rdu (fun x hx => I64.of_wf (iu x hx)) lcu lmu (I64.of_wf w3) rdl il lcl lml).mono fun e W' ⟨he, hb⟩ => ?_
  subst he
  exact ⟨_, rfl, law_post laid (fun t ht => law_types t ht) rfl hW' ⟨rfl, rfl, rfl⟩ (by kernel_rfl) Tryz.underlying4 hb⟩

theorem over : Rows.softBendsRow.holds Tryz.pinned (OpenSpec.ofChange Rows.softBendsSpec) :=
  OpenClaim.holds_of_wide 3 Tryz.f3 rfl rfl rfl rfl rfl rfl rfl ⟨rfl, rfl, rfl, rfl, rfl⟩ rfl rfl rfl rfl rfl (by kernel_rfl) Tryz.func3 (by kernel_rfl)
    (of_decide_eq_true (by kernel_rfl)) (by unfold Func.isWrapper; first | (rw [if_pos (by decide +kernel)]; kernel_rfl) | (rw [if_neg (by decide +kernel)]; exact ⟨rfl, rfl⟩))
    (fun os started H enc _ => lifted os started H enc)

theorem proved : Rows.SoftBendsSaid := over
end Go.Proofs.YtehbdnehlfplaaaGreat.SoftBends
