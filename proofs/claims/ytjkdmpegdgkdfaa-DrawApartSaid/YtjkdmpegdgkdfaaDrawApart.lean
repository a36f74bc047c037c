
/-
  DrawApart answers true for every input. No condition.
-/
import Derived.Test.YtjkdmpegdgkdfaaDrLv
import Derived.Test.YtjkdmpegdgkdfaaArg
import Derived.Test.YtjkdmpegdgkdfaaLaw
namespace Go.Proofs.Ytjkdmpegdgkdfaa.DrawApart
open Go.ChangeShapes Go.WideShapes Go.ChangeAt Go.RowKit
set_option maxHeartbeats 400000
set_option linter.unusedVariables false
open Go.Proofs.Ytjkdmpegdgkdfaa
set_option maxHeartbeats 2000000 in
set_option maxRecDepth 100000 in
theorem walk (a b : Int) (An : Option Addr) (n : List Int) (cn : Nat) (i k : Int) (w : World) (ha : U64 a) (hb : U64 b) (rn : Rd (Value.int .i64) w w.heap.size An n) (un : I64s n) (ln : n.length ≤ cn) (mn : cn ≤ 9223372036854775807) (hi : I64 i) (hk : I64 k) :
    Calls Try.prog 7 #[.int .u64 a, .int .u64 b, .slice An n.length cn, .int .i64 i, .int .i64 k] w fun e w' => e = .returned (.bool true) ∧ Below w.heap.size w w' := by
  obtain ⟨p, rfl⟩ := Int.eq_ofNat_of_zero_le ha.1
  have bp : p < 2 ^ 64 := by have := ha.2; omega
  obtain ⟨q, rfl⟩ := Int.eq_ofNat_of_zero_le hb.1
  have bq : q < 2 ^ 64 := by have := hb.2; omega
  have HN := hid rn
  have hn : n.length ≤ 9223372036854775807 := by omega
  have CF := hid (fun W => dr_few (A := An) (c := cn) n hn W)
  by_cases hl : n.length ≤ 200
  · rw [decide_eq_true hl] at CF
    have C1 := hid (fun W (h : Rd (Value.int .i64) W W.heap.size An n) => dr_At (c := cn) p bp n hn un W h)
    have C2 := hid (fun W (h : Rd (Value.int .i64) W W.heap.size An n) => dr_At (c := cn) q bq n hn un W h)
    have C3 := hid (fun (A : Option Addr) (c : Nat) (W : World) (T : List Int) (hT : T = n ++ [i]) (h : Rd (Value.int .i64) W W.heap.size A T) => show Calls Try.prog 15 #[.int .u64 (p : Int), .slice A T.length c] W fun e w' => e = .returned (.int .u64 ((atN p (n ++ [i]) : Nat) : Int)) ∧ W = w' by subst hT; exact dr_At (c := c) p bp (n ++ [i]) (by simp; omega) (fun x hx => by rcases List.mem_append.1 hx with hx | hx; exact un x hx; simp at hx; subst hx; exact hi) W h)
    have C4 := hid (fun (A : Option Addr) (c : Nat) (W : World) (T : List Int) (hT : T = n ++ [k]) (h : Rd (Value.int .i64) W W.heap.size A T) => show Calls Try.prog 15 #[.int .u64 (p : Int), .slice A T.length c] W fun e w' => e = .returned (.int .u64 ((atN p (n ++ [k]) : Nat) : Int)) ∧ W = w' by subst hT; exact dr_At (c := c) p bp (n ++ [k]) (by simp; omega) (fun x hx => by rcases List.mem_append.1 hx with hx | hx; exact un x hx; simp at hx; subst hx; exact hk) W h)
    have HK := hid (atN_last n bp hi hk)
    have HP : Hid (p ≠ q → atN p n ≠ atN q n) := hid (fun h e => h (atN_apart n bp bq e))
    obtain ⟨x, e_x⟩ : ∃ x, atN p n = x := ⟨_, rfl⟩
    rw [e_x] at C1 HP
    clear e_x
    obtain ⟨y, e_y⟩ : ∃ x, atN q n = x := ⟨_, rfl⟩
    rw [e_y] at C2 HP
    clear e_y
    obtain ⟨u, e_u⟩ : ∃ x, atN p (n ++ [i]) = x := ⟨_, rfl⟩
    rw [e_u] at C3 HK
    clear e_u
    obtain ⟨v, e_v⟩ : ∃ x, atN p (n ++ [k]) = x := ⟨_, rfl⟩
    rw [e_v] at C4 HK
    clear e_v
    clear rn un hi hk
    by_cases hpq : p = q
    · have t0 : ((p : Int) != (q : Int)) = false := by simp; omega
      clear hpq HP
      go_enter Try.func7, Try.ntmps7
      go_wp2_with fail
      refine (dr_live _).mono ?_
      rintro _ w1 ⟨rfl, k1⟩
      have RN := hid (HN.out.on k1)
      go_wp2_with fail
      refine (CF.out w1).mono ?_
      rintro _ _ ⟨rfl, rfl⟩
      clear CF
      go_wp2_with (at_builtin; refine wpList_app (Value.int .i64) (fun _ => rfl) _ rfl _ _ 23 rfl w1.heap.size 3 (.int .i64 0) 8 Try.underlying23 info_int rfl [] none 0 rfl (own_nil _ _ _) n An cn w1.heap.size rfl RN.out (by simp [maxLen]; omega) (by simp; omega) (Nat.le_refl _) ?_)
      rintro S A2 c2 w2 hS0 ho2 hb2 _
      have hS : Hid (S = n) := hS0
      clear hS0
      have hk2 := dr_grow w2 (.cells #[.int .i64 i] 3)
      have ho2a := own_on ho2 hk2
      have hb2a := hb2.trans (hk2.mono hb2.size)
      have hz2 := hb2a.size
      have hSl : S.length ≤ 200 := by rw [hS.out]; exact hl
      have rm := rd_new (enc := Value.int .i64) w2 3 [i]
      clear ho2 hk2
      go_wp2_with (at_builtin; refine wpList_app (Value.int .i64) (fun _ => rfl) _ rfl _ _ 23 rfl w1.heap.size 3 (.int .i64 0) 8 Try.underlying23 info_int rfl S A2 c2 rfl ho2a [i] (some ⟨w2.heap.size, 0, none⟩) 1 _ rfl rm (by simp [maxLen]; omega) (by simp; omega) hz2 ?_)
      rintro T A3 c3 w3 hT ho3 hb3 _
      have k3 := k1.trans ((hb2a.trans hb3).mono k1.size)
      rw [hS.out] at hT
      have HT := hid hT
      have R3 := hid (own_rd ho3)
      clear hT ho3 hb3 hb2 hb2a ho2a rm hz2 RN hSl
      go_wp2_with fail
      refine (C3.out _ _ _ _ HT.out R3.out).mono ?_
      rintro _ _ ⟨rfl, rfl⟩
      have RN3 := hid (HN.out.on k3)
      clear HT R3 hS k1
      go_wp2_with (at_builtin; refine wpList_app (Value.int .i64) (fun _ => rfl) _ rfl _ _ 23 rfl w3.heap.size 3 (.int .i64 0) 8 Try.underlying23 info_int rfl [] none 0 rfl (own_nil _ _ _) n An cn w3.heap.size rfl RN3.out (by simp [maxLen]; omega) (by simp; omega) (Nat.le_refl _) ?_)
      rintro S4 A4 c4 w4 hS0 ho4 hb4 _
      have hS : Hid (S4 = n) := hS0
      clear hS0
      have hk4 := dr_grow w4 (.cells #[.int .i64 k] 3)
      have ho4a := own_on ho4 hk4
      have hb4a := hb4.trans (hk4.mono hb4.size)
      have hz4 := hb4a.size
      have hSl : S4.length ≤ 200 := by rw [hS.out]; exact hl
      have rm := rd_new (enc := Value.int .i64) w4 3 [k]
      clear ho4 hk4
      go_wp2_with (at_builtin; refine wpList_app (Value.int .i64) (fun _ => rfl) _ rfl _ _ 23 rfl w3.heap.size 3 (.int .i64 0) 8 Try.underlying23 info_int rfl S4 A4 c4 rfl ho4a [k] (some ⟨w4.heap.size, 0, none⟩) 1 _ rfl rm (by simp [maxLen]; omega) (by simp; omega) hz4 ?_)
      rintro T5 A5 c5 w5 hT ho5 hb5 _
      have k5 := k3.trans ((hb4a.trans hb5).mono k3.size)
      rw [hS.out] at hT
      have HT := hid hT
      have R5 := hid (own_rd ho5)
      clear hT ho5 hb5 hb4 hb4a ho4a rm hz4 RN3 hSl
      go_wp2_with fail
      refine (C4.out _ _ _ _ HT.out R5.out).mono ?_
      rintro _ _ ⟨rfl, rfl⟩
      clear HT R5 hS k3
      by_cases hik : i = k
      · have e1 := HK.out.2 hik
        have t1 : ((u : Int) == (v : Int)) = true := by simp; omega
        have t2 : (i == k) = true := by simpa using hik
        clear e1 hik
        go_wp2_with fail
        go_ret
        exact ⟨ret_true (by rfl), k5⟩
      · have e1 : ¬ u = v := fun h => hik (HK.out.1 h)
        have t1 : ((u : Int) == (v : Int)) = false := by simp; omega
        have t2 : (i == k) = false := by simpa using hik
        clear e1 hik
        go_wp2_with fail
        go_ret
        exact ⟨ret_true (by rfl), k5⟩
    · have t0 : ((p : Int) != (q : Int)) = true := by simp; omega
      have hxy := HP.out hpq
      have t4 : ((x : Int) == (y : Int)) = false := by simp; omega
      clear hpq HP hxy
      go_enter Try.func7, Try.ntmps7
      go_wp2_with fail
      refine (dr_live _).mono ?_
      rintro _ w1 ⟨rfl, k1⟩
      have RN := hid (HN.out.on k1)
      go_wp2_with fail
      refine (CF.out w1).mono ?_
      rintro _ _ ⟨rfl, rfl⟩
      clear CF
      go_wp2_with fail
      refine (C1.out _ RN.out).mono ?_
      rintro _ _ ⟨rfl, rfl⟩
      go_wp2_with fail
      refine (C2.out _ RN.out).mono ?_
      rintro _ _ ⟨rfl, rfl⟩
      go_wp2_with (at_builtin; refine wpList_app (Value.int .i64) (fun _ => rfl) _ rfl _ _ 23 rfl w1.heap.size 3 (.int .i64 0) 8 Try.underlying23 info_int rfl [] none 0 rfl (own_nil _ _ _) n An cn w1.heap.size rfl RN.out (by simp [maxLen]; omega) (by simp; omega) (Nat.le_refl _) ?_)
      rintro S A2 c2 w2 hS0 ho2 hb2 _
      have hS : Hid (S = n) := hS0
      clear hS0
      have hk2 := dr_grow w2 (.cells #[.int .i64 i] 3)
      have ho2a := own_on ho2 hk2
      have hb2a := hb2.trans (hk2.mono hb2.size)
      have hz2 := hb2a.size
      have hSl : S.length ≤ 200 := by rw [hS.out]; exact hl
      have rm := rd_new (enc := Value.int .i64) w2 3 [i]
      clear ho2 hk2
      go_wp2_with (at_builtin; refine wpList_app (Value.int .i64) (fun _ => rfl) _ rfl _ _ 23 rfl w1.heap.size 3 (.int .i64 0) 8 Try.underlying23 info_int rfl S A2 c2 rfl ho2a [i] (some ⟨w2.heap.size, 0, none⟩) 1 _ rfl rm (by simp [maxLen]; omega) (by simp; omega) hz2 ?_)
      rintro T A3 c3 w3 hT ho3 hb3 _
      have k3 := k1.trans ((hb2a.trans hb3).mono k1.size)
      rw [hS.out] at hT
      have HT := hid hT
      have R3 := hid (own_rd ho3)
      clear hT ho3 hb3 hb2 hb2a ho2a rm hz2 RN hSl
      go_wp2_with fail
      refine (C3.out _ _ _ _ HT.out R3.out).mono ?_
      rintro _ _ ⟨rfl, rfl⟩
      have RN3 := hid (HN.out.on k3)
      clear HT R3 hS k1
      go_wp2_with (at_builtin; refine wpList_app (Value.int .i64) (fun _ => rfl) _ rfl _ _ 23 rfl w3.heap.size 3 (.int .i64 0) 8 Try.underlying23 info_int rfl [] none 0 rfl (own_nil _ _ _) n An cn w3.heap.size rfl RN3.out (by simp [maxLen]; omega) (by simp; omega) (Nat.le_refl _) ?_)
      rintro S4 A4 c4 w4 hS0 ho4 hb4 _
      have hS : Hid (S4 = n) := hS0
      clear hS0
      have hk4 := dr_grow w4 (.cells #[.int .i64 k] 3)
      have ho4a := own_on ho4 hk4
      have hb4a := hb4.trans (hk4.mono hb4.size)
      have hz4 := hb4a.size
      have hSl : S4.length ≤ 200 := by rw [hS.out]; exact hl
      have rm := rd_new (enc := Value.int .i64) w4 3 [k]
      clear ho4 hk4
      go_wp2_with (at_builtin; refine wpList_app (Value.int .i64) (fun _ => rfl) _ rfl _ _ 23 rfl w3.heap.size 3 (.int .i64 0) 8 Try.underlying23 info_int rfl S4 A4 c4 rfl ho4a [k] (some ⟨w4.heap.size, 0, none⟩) 1 _ rfl rm (by simp [maxLen]; omega) (by simp; omega) hz4 ?_)
      rintro T5 A5 c5 w5 hT ho5 hb5 _
      have k5 := k3.trans ((hb4a.trans hb5).mono k3.size)
      rw [hS.out] at hT
      have HT := hid hT
      have R5 := hid (own_rd ho5)
      clear hT ho5 hb5 hb4 hb4a ho4a rm hz4 RN3 hSl
      go_wp2_with fail
      refine (C4.out _ _ _ _ HT.out R5.out).mono ?_
      rintro _ _ ⟨rfl, rfl⟩
      clear HT R5 hS k3
      by_cases hik : i = k
      · have e1 := HK.out.2 hik
        have t1 : ((u : Int) == (v : Int)) = true := by simp; omega
        have t2 : (i == k) = true := by simpa using hik
        clear e1 hik
        go_wp2_with fail
        go_ret
        exact ⟨ret_true (by rfl), k5⟩
      · have e1 : ¬ u = v := fun h => hik (HK.out.1 h)
        have t1 : ((u : Int) == (v : Int)) = false := by simp; omega
        have t2 : (i == k) = false := by simpa using hik
        clear e1 hik
        go_wp2_with fail
        go_ret
        exact ⟨ret_true (by rfl), k5⟩
  · rw [decide_eq_false hl] at CF
    clear rn un
    go_enter Try.func7, Try.ntmps7
    go_wp2_with fail
    refine (dr_live _).mono ?_
    rintro _ w1 ⟨rfl, k1⟩
    have RN := hid (HN.out.on k1)
    go_wp2_with fail
    refine (CF.out w1).mono ?_
    rintro _ _ ⟨rfl, rfl⟩
    go_wp2_with fail
    go_ret
    exact ⟨rfl, k1⟩
theorem law_types : ∀ t ∈ Try.f7.params.toList, Try.prog.readableRec t = true ∧ t < Try.prog.types.size := by
  have h : (Try.f7.params.toList.all fun t => Try.prog.readableRec t && decide (t < Try.prog.types.size)) = true := by kernel_rfl
  intro t ht
  simpa using List.all_eq_true.1 h t ht
set_option maxRecDepth 100000 in
theorem lifted (os : Os) (started : os.Started) (H : Type) (enc : TypeId × Value → H) :
    ReturnsInHanded {} Try.checked os 7 .any (Rows.drawApartSpec.pre6 enc Try.prog Try.f7 Rows.drawApartRow.domain false) (Rows.drawApartSpec.post enc Try.prog Try.f7 false true false false) := by
  refine returnsInHanded_of_change (C := Try.checked) own started (by kernel_rfl) Try.func7
    (ChangeSpec.witness6 (enc := enc) (C := Try.checked) false ⟨#[], #[.int .u64 0, .int .u64 0, .slice none 0 0, .int .i64 0, .int .i64 0], []⟩ 8 (by kernel_rfl) (by kernel_rfl) (by kernel_rfl) (by kernel_rfl)) ?_
  intro W base args ds gs before hval0 hW hcnd _
  have hval : ∀ (j : Nat) t v, Try.f7.params[j]? = some t → args[j]? = some v → Value.okWide Try.prog W .any base t v := hval0
  have hW' := hW
  obtain ⟨p, q, hA0, hV, rfl, hfz, hnd⟩ := hW
  have hA : DataW.TrodAll enc Try.prog W 0 (fun _ => true) true Try.f7.params.toList args.toList ds p := hA0
  rw [Try.params7] at hA hval
  obtain ⟨v0, vs0, d0, ds0, p0, q0, hargs, rfl, rfl, h0, r0⟩ := trodAll_cons hA
  obtain ⟨v1, vs1, d1, ds1, p1, q1, rfl, rfl, rfl, h1, r1⟩ := trodAll_cons r0
  obtain ⟨v2, vs2, d2, ds2, p2, q2, rfl, rfl, rfl, h2, r2⟩ := trodAll_cons r1
  obtain ⟨v3, vs3, d3, ds3, p3, q3, rfl, rfl, rfl, h3, r3⟩ := trodAll_cons r2
  obtain ⟨v4, vs4, d4, ds4, p4, q4, rfl, rfl, rfl, h4, r4⟩ := trodAll_cons r3
  obtain ⟨rfl, rfl, rfl⟩ := trodAll_nil r4
  obtain rfl : args = #[v0, v1, v2, v3, v4] := by cases args; simp_all
  obtain ⟨rfl, rfl⟩ := trodVars_none hV
  obtain ⟨a, rfl, rfl, rfl, w0⟩ := open_int Try.underlying22 (hval 0 22 v0 rfl rfl) h0
  obtain ⟨b, rfl, rfl, rfl, w1⟩ := open_int Try.underlying22 (hval 1 22 v1 rfl rfl) h1
  obtain ⟨Al, l, cl, rfl, rdl, il, lcl, lml⟩ := open_nums Try.underlying23 Try.underlying3 cells_int (hval 2 23 v2 rfl rfl) h2
  obtain ⟨i, rfl, rfl, rfl, w3⟩ := open_int Try.underlying3 (hval 3 3 v3 rfl rfl) h3
  obtain ⟨k, rfl, rfl, rfl, w4⟩ := open_int Try.underlying3 (hval 4 3 v4 rfl rfl) h4
  clear hA0 hval0
  refine (walk a b Al l cl i k W (U64.of_wf w0) (U64.of_wf w1) rdl (fun x hx => I64.of_wf (il x hx)) lcl lml (I64.of_wf w3) (I64.of_wf w4)).mono fun e W' ⟨he, hb⟩ => ?_
  subst he
  exact ⟨_, rfl, law_post laid (fun t ht => law_types t ht) rfl hW' ⟨rfl, rfl, rfl⟩ (by kernel_rfl) Try.underlying4 hb⟩

theorem over : Rows.drawApartRow.holds Try.pinned (OpenSpec.ofChange Rows.drawApartSpec) :=
  OpenClaim.holds_of_wide 7 Try.f7 rfl rfl rfl rfl rfl rfl rfl ⟨rfl, rfl, rfl, rfl, rfl⟩ rfl rfl rfl rfl rfl (by kernel_rfl) Try.func7 (by kernel_rfl)
    (of_decide_eq_true (by kernel_rfl)) (by unfold Func.isWrapper; first | (rw [if_pos (by decide +kernel)]; kernel_rfl) | (rw [if_neg (by decide +kernel)]; exact ⟨rfl, rfl⟩))
    (fun os started H enc _ => lifted os started H enc)

theorem proved : Rows.DrawApartSaid := over
end Go.Proofs.Ytjkdmpegdgkdfaa.DrawApart
