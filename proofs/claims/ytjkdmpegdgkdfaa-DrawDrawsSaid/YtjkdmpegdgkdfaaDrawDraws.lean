
/-
  DrawDraws answers true for every input. No condition.
-/
import Derived.Test.YtjkdmpegdgkdfaaDrLv
import Derived.Test.YtjkdmpegdgkdfaaArg
import Derived.Test.YtjkdmpegdgkdfaaLaw
namespace Go.Proofs.Ytjkdmpegdgkdfaa.DrawDraws
open Go.ChangeShapes Go.WideShapes Go.ChangeAt Go.RowKit
set_option maxHeartbeats 400000
set_option linter.unusedVariables false
open Go.Proofs.Ytjkdmpegdgkdfaa
set_option maxHeartbeats 2000000 in
set_option maxRecDepth 100000 in
theorem walk (seed most part : Int) (An : Option Addr) (n : List Int) (cn : Nat) (w : World) (hs : U64 seed) (hm : U64 most) (hp : U64 part) (rn : Rd (Value.int .i64) w w.heap.size An n) (un : I64s n) (ln : n.length ≤ cn) (mn : cn ≤ 9223372036854775807) :
    Calls Try.prog 3 #[.int .u64 seed, .int .u64 most, .int .u64 part, .slice An n.length cn] w fun e w' => e = .returned (.bool true) ∧ Below w.heap.size w w' := by
  obtain ⟨s, rfl⟩ := Int.eq_ofNat_of_zero_le hs.1
  have bs : s < 2 ^ 64 := by have := hs.2; omega
  obtain ⟨m, rfl⟩ := Int.eq_ofNat_of_zero_le hm.1
  have bm : m < 2 ^ 64 := by have := hm.2; omega
  obtain ⟨p, rfl⟩ := Int.eq_ofNat_of_zero_le hp.1
  have bp : p < 2 ^ 64 := by have := hp.2; omega
  have HN := hid rn
  have hn : n.length ≤ 9223372036854775807 := by omega
  have CF := hid (fun W => dr_few (A := An) (c := cn) n hn W)
  by_cases hl : n.length ≤ 200
  · rw [decide_eq_true hl] at CF
    have C1 := hid (fun W (h : Rd (Value.int .i64) W W.heap.size An n) => dr_Below (c := cn) m s bm bs n hn un W h)
    have C2 := hid (fun W (h : Rd (Value.int .i64) W W.heap.size An n) => ref_Below (c := cn) m s bm bs n hn un W h)
    have C3 := hid (fun W (h : Rd (Value.int .i64) W W.heap.size An n) => dr_Chance (c := cn) p m s bp bm bs n hn un W h)
    have C4 := hid (fun W (h : Rd (Value.int .i64) W W.heap.size An n) => ref_Chance (c := cn) p m s bp bm bs n hn un W h)
    have C5 := hid (fun W (h : Rd (Value.int .i64) W W.heap.size An n) => dr_At (c := cn) s bs n hn un W h)
    have C6 := hid (fun W (h : Rd (Value.int .i64) W W.heap.size An n) => ref_At (c := cn) s bs n hn un W h)
    obtain ⟨x, e_x⟩ : ∃ x, belV m s n = x := ⟨_, rfl⟩
    rw [e_x] at C1 C2
    clear e_x
    obtain ⟨e1, e_e1⟩ : ∃ x, belE m = x := ⟨_, rfl⟩
    rw [e_e1] at C1 C2
    clear e_e1
    obtain ⟨y, e_y⟩ : ∃ x, chaB p m s n = x := ⟨_, rfl⟩
    rw [e_y] at C3 C4
    clear e_y
    obtain ⟨e2, e_e2⟩ : ∃ x, chaE p m = x := ⟨_, rfl⟩
    rw [e_e2] at C3 C4
    clear e_e2
    obtain ⟨z, e_z⟩ : ∃ x, atN s n = x := ⟨_, rfl⟩
    rw [e_z] at C5 C6
    clear e_z
    clear rn un
    go_enter Try.func3, Try.ntmps3
    go_wp2_with fail
    refine (dr_live _).mono ?_
    rintro _ w1 ⟨rfl, k1⟩
    have RN := hid (HN.out.on k1)
    go_wp2_with fail
    refine (CF.out w1).mono ?_
    rintro _ _ ⟨rfl, rfl⟩
    clear CF
    go_wp2_with fail
    refine (C1.out _ RN.out).mono ?_
    rintro _ _ ⟨rfl, rfl⟩
    go_wp2_with fail
    refine (C2.out _ RN.out).mono ?_
    rintro _ _ ⟨rfl, rfl⟩
    go_wp2_with fail
    refine (C3.out _ RN.out).mono ?_
    rintro _ _ ⟨rfl, rfl⟩
    go_wp2_with fail
    refine (C4.out _ RN.out).mono ?_
    rintro _ _ ⟨rfl, rfl⟩
    go_wp2_with fail
    refine (C5.out _ RN.out).mono ?_
    rintro _ _ ⟨rfl, rfl⟩
    go_wp2_with fail
    refine (C6.out _ RN.out).mono ?_
    rintro _ _ ⟨rfl, rfl⟩
    go_wp2_with fail
    go_ret
    exact ⟨rfl, k1⟩
  · rw [decide_eq_false hl] at CF
    clear rn un
    go_enter Try.func3, Try.ntmps3
    go_wp2_with fail
    refine (dr_live _).mono ?_
    rintro _ w1 ⟨rfl, k1⟩
    have RN := hid (HN.out.on k1)
    go_wp2_with fail
    refine (CF.out w1).mono ?_
    rintro _ _ ⟨rfl, rfl⟩
    go_wp2_with fail
    go_ret
    exact ⟨rfl, k1⟩
theorem law_types : ∀ t ∈ Try.f3.params.toList, Try.prog.readableRec t = true ∧ t < Try.prog.types.size := by
  have h : (Try.f3.params.toList.all fun t => Try.prog.readableRec t && decide (t < Try.prog.types.size)) = true := by kernel_rfl
  intro t ht
  simpa using List.all_eq_true.1 h t ht
set_option maxRecDepth 100000 in
theorem lifted (os : Os) (started : os.Started) (H : Type) (enc : TypeId × Value → H) :
    ReturnsInHanded {} Try.checked os 3 .any (Rows.drawDrawsSpec.pre6 enc Try.prog Try.f3 Rows.drawDrawsRow.domain false) (Rows.drawDrawsSpec.post enc Try.prog Try.f3 false true false false) := by
  refine returnsInHanded_of_change (C := Try.checked) own started (by kernel_rfl) Try.func3
    (ChangeSpec.witness6 (enc := enc) (C := Try.checked) false ⟨#[], #[.int .u64 0, .int .u64 0, .int .u64 0, .slice none 0 0], []⟩ 8 (by kernel_rfl) (by kernel_rfl) (by kernel_rfl) (by kernel_rfl)) ?_
  intro W base args ds gs before hval0 hW hcnd _
  have hval : ∀ (j : Nat) t v, Try.f3.params[j]? = some t → args[j]? = some v → Value.okWide Try.prog W .any base t v := hval0
  have hW' := hW
  obtain ⟨p, q, hA0, hV, rfl, hfz, hnd⟩ := hW
  have hA : DataW.TrodAll enc Try.prog W 0 (fun _ => true) true Try.f3.params.toList args.toList ds p := hA0
  rw [Try.params3] at hA hval
  obtain ⟨v0, vs0, d0, ds0, p0, q0, hargs, rfl, rfl, h0, r0⟩ := trodAll_cons hA
  obtain ⟨v1, vs1, d1, ds1, p1, q1, rfl, rfl, rfl, h1, r1⟩ := trodAll_cons r0
  obtain ⟨v2, vs2, d2, ds2, p2, q2, rfl, rfl, rfl, h2, r2⟩ := trodAll_cons r1
  obtain ⟨v3, vs3, d3, ds3, p3, q3, rfl, rfl, rfl, h3, r3⟩ := trodAll_cons r2
  obtain ⟨rfl, rfl, rfl⟩ := trodAll_nil r3
  obtain rfl : args = #[v0, v1, v2, v3] := by cases args; simp_all
  obtain ⟨rfl, rfl⟩ := trodVars_none hV
  obtain ⟨seed, rfl, rfl, rfl, w0⟩ := open_int Try.underlying22 (hval 0 22 v0 rfl rfl) h0
  obtain ⟨most, rfl, rfl, rfl, w1⟩ := open_int Try.underlying22 (hval 1 22 v1 rfl rfl) h1
  obtain ⟨part, rfl, rfl, rfl, w2⟩ := open_int Try.underlying22 (hval 2 22 v2 rfl rfl) h2
  obtain ⟨Al, l, cl, rfl, rdl, il, lcl, lml⟩ := open_nums Try.underlying23 Try.underlying3 cells_int (hval 3 23 v3 rfl rfl) h3
  clear hA0 hval0
  refine (walk seed most part Al l cl W (U64.of_wf w0) (U64.of_wf w1) (U64.of_wf w2) rdl (fun x hx => I64.of_wf (il x hx)) lcl lml).mono fun e W' ⟨he, hb⟩ => ?_
  subst he
  exact ⟨_, rfl, law_post laid (fun t ht => law_types t ht) rfl hW' ⟨rfl, rfl, rfl⟩ (by kernel_rfl) Try.underlying4 hb⟩

theorem over : Rows.drawDrawsRow.holds Try.pinned (OpenSpec.ofChange Rows.drawDrawsSpec) :=
  OpenClaim.holds_of_wide 3 Try.f3 rfl rfl rfl rfl rfl rfl rfl ⟨rfl, rfl, rfl, rfl, rfl⟩ rfl rfl rfl rfl rfl (by kernel_rfl) Try.func3 (by kernel_rfl)
    (of_decide_eq_true (by kernel_rfl)) (by unfold Func.isWrapper; first | (rw [if_pos (by decide +kernel)]; kernel_rfl) | (rw [if_neg (by decide +kernel)]; exact ⟨rfl, rfl⟩))
    (fun os started H enc _ => lifted os started H enc)

theorem proved : Rows.DrawDrawsSaid := over
end Go.Proofs.Ytjkdmpegdgkdfaa.DrawDraws
