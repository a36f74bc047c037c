
/-
  DrawChances answers true for every input. No condition.
-/
import Derived.Test.YtjkdmpegdgkdfaaDrLv
import Derived.Test.YtjkdmpegdgkdfaaArg
import Derived.Test.YtjkdmpegdgkdfaaLaw
namespace Go.Proofs.Ytjkdmpegdgkdfaa.DrawChances
open Go.ChangeShapes Go.WideShapes Go.ChangeAt Go.RowKit
set_option maxHeartbeats 400000
set_option linter.unusedVariables false
open Go.Proofs.Ytjkdmpegdgkdfaa
set_option maxHeartbeats 2000000 in
set_option maxRecDepth 100000 in
theorem walk (part more whole seed : Int) (An : Option Addr) (n : List Int) (cn : Nat) (w : World) (hp : U64 part) (hq : U64 more) (hm : U64 whole) (hs : U64 seed) (rn : Rd (Value.int .i64) w w.heap.size An n) (un : I64s n) (ln : n.length ≤ cn) (mn : cn ≤ 9223372036854775807) :
    Calls Try.prog 6 #[.int .u64 part, .int .u64 more, .int .u64 whole, .int .u64 seed, .slice An n.length cn] w fun e w' => e = .returned (.bool true) ∧ Below w.heap.size w w' := by
  obtain ⟨p, rfl⟩ := Int.eq_ofNat_of_zero_le hp.1
  have bp : p < 2 ^ 64 := by have := hp.2; omega
  obtain ⟨q, rfl⟩ := Int.eq_ofNat_of_zero_le hq.1
  have bq : q < 2 ^ 64 := by have := hq.2; omega
  obtain ⟨m, rfl⟩ := Int.eq_ofNat_of_zero_le hm.1
  have bm : m < 2 ^ 64 := by have := hm.2; omega
  obtain ⟨s, rfl⟩ := Int.eq_ofNat_of_zero_le hs.1
  have bs : s < 2 ^ 64 := by have := hs.2; omega
  have HN := hid rn
  have hn : n.length ≤ 9223372036854775807 := by omega
  have CF := hid (fun W => dr_few (A := An) (c := cn) n hn W)
  by_cases hl : n.length ≤ 200
  · rw [decide_eq_true hl] at CF
    by_cases h0 : m = 0
    · have t0 : ((m : Int) == 0) = true := by simpa using h0
      clear rn un h0
      go_enter Try.func6, Try.ntmps6
      go_wp2_with fail
      refine (dr_live _).mono ?_
      rintro _ w1 ⟨rfl, k1⟩
      have RN := hid (HN.out.on k1)
      go_wp2_with fail
      refine (CF.out w1).mono ?_
      rintro _ _ ⟨rfl, rfl⟩
      go_wp2_with fail
      go_ret
      exact ⟨rfl, k1⟩
    · have t0 : ((m : Int) == 0) = false := by simpa using h0
      have hm0 : 0 < m := by omega
      obtain ⟨P, hP⟩ : ∃ x, p % m = x := ⟨_, rfl⟩
      have hPm : P < m := by rw [← hP]; exact Nat.mod_lt _ hm0
      have i1 : (p : Int) % (m : Int) = (P : Int) := by rw [← hP]; exact_mod_cast rfl
      have hd0 : 0 < m - P := by omega
      obtain ⟨Q, hQ⟩ : ∃ x, q % (m - P) = x := ⟨_, rfl⟩
      have hQm : Q < m - P := by rw [← hQ]; exact Nat.mod_lt _ hd0
      obtain ⟨d, hd⟩ : ∃ d, m - P = d := ⟨_, rfl⟩
      rw [hd] at hQ hQm hd0
      have i2 : (q : Int) % (d : Int) = (Q : Int) := by rw [← hQ]; exact_mod_cast rfl
      have i3 : (m : Int) - (P : Int) = (d : Int) := by omega
      obtain ⟨R, hR⟩ : ∃ x, P + Q = x := ⟨_, rfl⟩
      have i4 : (P : Int) + (Q : Int) = (R : Int) := by omega
      have hRm : R < m := by omega
      have hPR : P ≤ R := by omega
      have y0 := cha_yes (part := 0) (whole := m) (s := s) (n := n) (by omega)
      have y1 := cha_yes (part := m) (whole := m) (s := s) (n := n) (by omega)
      have y2 := cha_yes (part := P) (whole := m) (s := s) (n := n) (by omega)
      have y3 := cha_yes (part := R) (whole := m) (s := s) (n := n) (by omega)
      have hx : belV m s n < m := by unfold belV; rw [if_neg h0]; exact Nat.mod_lt _ hm0
      have C1 := hid (fun W (h : Rd (Value.int .i64) W W.heap.size An n) => dr_Chance (c := cn) 0 m s (by omega) bm bs n hn un W h)
      rw [y0.1, y0.2.1] at C1
      have C2 := hid (fun W (h : Rd (Value.int .i64) W W.heap.size An n) => dr_Chance (c := cn) m m s (by omega) bm bs n hn un W h)
      rw [y1.1, y1.2.1] at C2
      have C3 := hid (fun W (h : Rd (Value.int .i64) W W.heap.size An n) => dr_Chance (c := cn) P m s (by omega) bm bs n hn un W h)
      rw [y2.1, y2.2.1] at C3
      have C4 := hid (fun W (h : Rd (Value.int .i64) W W.heap.size An n) => dr_Chance (c := cn) R m s (by omega) bm bs n hn un W h)
      rw [y3.1, y3.2.1] at C4
      have C5 := hid (fun W (h : Rd (Value.int .i64) W W.heap.size An n) => dr_Below (c := cn) m s bm bs n hn un W h)
      rw [y0.2.2] at C5
      obtain ⟨x, hxe⟩ : ∃ x, belV m s n = x := ⟨_, rfl⟩
      rw [hxe] at C1 C2 C3 C4 C5 hx
      rw [show decide (x < 0) = false from decide_eq_false (by omega)] at C1
      rw [show decide (x < m) = true from decide_eq_true hx] at C2
      have j3 : decide ((x : Int) < (P : Int)) = decide (x < P) := by simp
      obtain ⟨a, ha⟩ : ∃ a, decide (x < P) = a := ⟨_, rfl⟩
      obtain ⟨b, hb⟩ : ∃ a, decide (x < R) = a := ⟨_, rfl⟩
      have hab : a = true → b = true := by intro h; rw [← hb]; rw [← ha] at h; have := of_decide_eq_true h; exact decide_eq_true (by omega)
      rw [ha] at C3 j3
      rw [hb] at C4
      have hxm : (x : Int) < (m : Int) := by omega
      clear y0 y1 y2 y3 hP hQ hd hR rn un h0 hxe hb
      have C1' : Hid (∀ W, Rd (Value.int .i64) W W.heap.size An n → Calls Try.prog 13 #[.int .u64 0, .int .u64 (m : Int), .int .u64 (s : Int), .slice An n.length cn] W fun e w' => e = .returned (.tuple #[.bool false, .int .i64 0]) ∧ W = w') := C1
      clear C1
      have t1 : (a == a) = true := by simp
      cases a with
      | false =>
        have HA := hid ha
        clear hab ha
        go_enter Try.func6, Try.ntmps6
        go_wp2_with fail
        refine (dr_live _).mono ?_
        rintro _ w1 ⟨rfl, k1⟩
        have RN := hid (HN.out.on k1)
        go_wp2_with fail
        refine (CF.out w1).mono ?_
        rintro _ _ ⟨rfl, rfl⟩
        clear CF
        go_wp2_with fail
        refine (C1'.out _ RN.out).mono ?_
        rintro _ _ ⟨rfl, rfl⟩
        go_wp2_with fail
        refine (C2.out _ RN.out).mono ?_
        rintro _ _ ⟨rfl, rfl⟩
        go_wp2_with fail
        refine (C3.out _ RN.out).mono ?_
        rintro _ _ ⟨rfl, rfl⟩
        go_wp2_with fail
        refine (C4.out _ RN.out).mono ?_
        rintro _ _ ⟨rfl, rfl⟩
        go_wp2_with fail
        refine (C5.out _ RN.out).mono ?_
        rintro _ _ ⟨rfl, rfl⟩
        go_wp2_with fail
        go_ret
        exact ⟨ret_true (by first | (rw [HA.out]; done) | (rw [HA.out]; rfl)), k1⟩
      | true =>
        obtain rfl := hab rfl
        have HA := hid ha
        clear hab ha
        go_enter Try.func6, Try.ntmps6
        go_wp2_with fail
        refine (dr_live _).mono ?_
        rintro _ w1 ⟨rfl, k1⟩
        have RN := hid (HN.out.on k1)
        go_wp2_with fail
        refine (CF.out w1).mono ?_
        rintro _ _ ⟨rfl, rfl⟩
        clear CF
        go_wp2_with fail
        refine (C1'.out _ RN.out).mono ?_
        rintro _ _ ⟨rfl, rfl⟩
        go_wp2_with fail
        refine (C2.out _ RN.out).mono ?_
        rintro _ _ ⟨rfl, rfl⟩
        go_wp2_with fail
        refine (C3.out _ RN.out).mono ?_
        rintro _ _ ⟨rfl, rfl⟩
        go_wp2_with fail
        refine (C4.out _ RN.out).mono ?_
        rintro _ _ ⟨rfl, rfl⟩
        go_wp2_with fail
        refine (C5.out _ RN.out).mono ?_
        rintro _ _ ⟨rfl, rfl⟩
        go_wp2_with fail
        go_ret
        exact ⟨ret_true (by first | (rw [HA.out]; done) | (rw [HA.out]; rfl)), k1⟩
  · rw [decide_eq_false hl] at CF
    clear rn un
    go_enter Try.func6, Try.ntmps6
    go_wp2_with fail
    refine (dr_live _).mono ?_
    rintro _ w1 ⟨rfl, k1⟩
    have RN := hid (HN.out.on k1)
    go_wp2_with fail
    refine (CF.out w1).mono ?_
    rintro _ _ ⟨rfl, rfl⟩
    go_wp2_with fail
    go_ret
    exact ⟨rfl, k1⟩
theorem law_types : ∀ t ∈ Try.f6.params.toList, Try.prog.readableRec t = true ∧ t < Try.prog.types.size := by
  have h : (Try.f6.params.toList.all fun t => Try.prog.readableRec t && decide (t < Try.prog.types.size)) = true := by kernel_rfl
  intro t ht
  simpa using List.all_eq_true.1 h t ht
set_option maxRecDepth 100000 in
theorem lifted (os : Os) (started : os.Started) (H : Type) (enc : TypeId × Value → H) :
    ReturnsInHanded {} Try.checked os 6 .any (Rows.drawChancesSpec.pre6 enc Try.prog Try.f6 Rows.drawChancesRow.domain false) (Rows.drawChancesSpec.post enc Try.prog Try.f6 false true false false) := by
  refine returnsInHanded_of_change (C := Try.checked) own started (by kernel_rfl) Try.func6
    (ChangeSpec.witness6 (enc := enc) (C := Try.checked) false ⟨#[], #[.int .u64 0, .int .u64 0, .int .u64 0, .int .u64 0, .slice none 0 0], []⟩ 8 (by kernel_rfl) (by kernel_rfl) (by kernel_rfl) (by kernel_rfl)) ?_
  intro W base args ds gs before hval0 hW hcnd _
  have hval : ∀ (j : Nat) t v, Try.f6.params[j]? = some t → args[j]? = some v → Value.okWide Try.prog W .any base t v := hval0
  have hW' := hW
  obtain ⟨p, q, hA0, hV, rfl, hfz, hnd⟩ := hW
  have hA : DataW.TrodAll enc Try.prog W 0 (fun _ => true) true Try.f6.params.toList args.toList ds p := hA0
  rw [Try.params6] at hA hval
  obtain ⟨v0, vs0, d0, ds0, p0, q0, hargs, rfl, rfl, h0, r0⟩ := trodAll_cons hA
  obtain ⟨v1, vs1, d1, ds1, p1, q1, rfl, rfl, rfl, h1, r1⟩ := trodAll_cons r0
  obtain ⟨v2, vs2, d2, ds2, p2, q2, rfl, rfl, rfl, h2, r2⟩ := trodAll_cons r1
  obtain ⟨v3, vs3, d3, ds3, p3, q3, rfl, rfl, rfl, h3, r3⟩ := trodAll_cons r2
  obtain ⟨v4, vs4, d4, ds4, p4, q4, rfl, rfl, rfl, h4, r4⟩ := trodAll_cons r3
  obtain ⟨rfl, rfl, rfl⟩ := trodAll_nil r4
  obtain rfl : args = #[v0, v1, v2, v3, v4] := by cases args; simp_all
  obtain ⟨rfl, rfl⟩ := trodVars_none hV
  obtain ⟨part, rfl, rfl, rfl, w0⟩ := open_int Try.underlying22 (hval 0 22 v0 rfl rfl) h0
  obtain ⟨more, rfl, rfl, rfl, w1⟩ := open_int Try.underlying22 (hval 1 22 v1 rfl rfl) h1
  obtain ⟨whole, rfl, rfl, rfl, w2⟩ := open_int Try.underlying22 (hval 2 22 v2 rfl rfl) h2
  obtain ⟨seed, rfl, rfl, rfl, w3⟩ := open_int Try.underlying22 (hval 3 22 v3 rfl rfl) h3
  obtain ⟨Al, l, cl, rfl, rdl, il, lcl, lml⟩ := open_nums Try.underlying23 Try.underlying3 cells_int (hval 4 23 v4 rfl rfl) h4
  clear hA0 hval0
  refine (walk part more whole seed Al l cl W (U64.of_wf w0) (U64.of_wf w1) (U64.of_wf w2) (U64.of_wf w3) rdl (fun x hx => I64.of_wf (il x hx)) lcl lml).mono fun e W' ⟨he, hb⟩ => ?_
  subst he
  exact ⟨_, rfl, law_post laid (fun t ht => law_types t ht) rfl hW' ⟨rfl, rfl, rfl⟩ (by kernel_rfl) Try.underlying4 hb⟩

theorem over : Rows.drawChancesRow.holds Try.pinned (OpenSpec.ofChange Rows.drawChancesSpec) :=
  OpenClaim.holds_of_wide 6 Try.f6 rfl rfl rfl rfl rfl rfl rfl ⟨rfl, rfl, rfl, rfl, rfl⟩ rfl rfl rfl rfl rfl (by kernel_rfl) Try.func6 (by kernel_rfl)
    (of_decide_eq_true (by kernel_rfl)) (by unfold Func.isWrapper; first | (rw [if_pos (by decide +kernel)]; kernel_rfl) | (rw [if_neg (by decide +kernel)]; exact ⟨rfl, rfl⟩))
    (fun os started H enc _ => lifted os started H enc)

theorem proved : Rows.DrawChancesSaid := over
end Go.Proofs.Ytjkdmpegdgkdfaa.DrawChances
