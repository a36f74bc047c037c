
/-
  IndexPlaces answers true for every input. No condition.
-/
import Derived.SizedLaws
import Derived.Test.YtgdkmgepconnpaaIxLv
import Derived.Test.YtgdkmgepconnpaaIxN
import Derived.Test.YtgdkmgepconnpaaArg
import Derived.Test.YtgdkmgepconnpaaArgS
import Derived.Test.YtgdkmgepconnpaaLaw
namespace Go.Proofs.Ytgdkmgepconnpaa.IndexPlaces
open Go.ChangeShapes Go.WideShapes Go.ChangeAt Go.RowKit
set_option maxHeartbeats 400000
set_option linter.unusedVariables false
open Go.Proofs.Ytgdkmgepconnpaa
set_option maxHeartbeats 2000000 in
set_option maxRecDepth 100000 in
theorem walk (dim : Int) (Al : Option Addr) (l : List Int) (cl : Nat) (Av : Option Addr) (v : List Int) (cv : Nat) (As : Option Addr) (ls : List (List Int)) (cs : Nat) (n : Int) (w : World) (hdim : I64 dim)
    (rl : Rd (Value.int .i64) w w.heap.size Al l) (il : I64s l) (ll : l.length ≤ cl) (ml : cl ≤ 9223372036854775807) (sl : l.length ≤ 140737488355327)
    (rv : Rd (Value.int .i64) w w.heap.size Av v) (iv : I64s v) (lv : v.length ≤ cv) (mv : cv ≤ 9223372036854775807) (sv : v.length ≤ 140737488355327)
    (rs : RdRows w w.heap.size As ls) (is_ : ∀ u ∈ ls, I64s u ∧ u.length ≤ 140737488355327) (ls_ : ls.length ≤ cs) (ms : cs ≤ 9223372036854775807) (ss : ls.length ≤ 140737488355327) (hn : I64 n) :
    Calls Try.prog 4 #[.int .i64 dim, .slice Al l.length cl, .slice Av v.length cv, .slice As ls.length cs, .int .i64 n] w fun e w' => e = .returned (.bool true) ∧ Below w.heap.size w w' := by
  have RL := hid rl
  have RV := hid rv
  have RS := hid rs
  have CF := hid (fun W h => few_one (A := Al) (c := cl) l sl W h)
  have CF2 := hid (fun (W : World) h => few_any As cs ls ss (fun u hu => (is_ u hu).2) W h)
  by_cases hl : l.length ≤ 600
  · rw [decide_eq_true hl] at CF
    cases hf : fewS ls with
    | false =>
      rw [hf] at CF2
      clear rl rv rs il iv is_ hf
      go_enter Try.func4, Try.ntmps4
      go_wp2_with fail
      refine (live_yes _).mono ?_
      rintro _ w1 ⟨rfl, k1⟩
      go_wp2_with fail
      refine (CF.out w1 (RL.out.on k1)).mono ?_
      rintro _ w2 ⟨rfl, hw2⟩
      have k2 : Below w.heap.size w w2 := by rw [← hw2]; exact k1.trans ((grow w1 _).mono k1.size)
      clear hw2 k1 CF
      go_wp2_with fail
      refine (CF2.out w2 (RS.out.on k2)).mono ?_
      rintro _ _ ⟨rfl, rfl⟩
      clear CF2
      go_wp2_with fail
      go_ret
      exact ⟨rfl, k2⟩
    | true =>
      obtain ⟨hf6, hf1⟩ := few_sum hf
      rw [hf] at CF2
      by_cases hv : v.length ≤ 5000
      · have C1 := hid (fun (W : World) h1 h2 => ix_Spread (A := Al) (B := Av) (c := cl) (d := cv) dim l v hdim (by omega) (by omega) W h1 h2)
        have C2 := hid (fun (W : World) h1 h2 => ref_Spread (A := Al) (B := Av) (c := cl) (d := cv) dim l v hdim (by omega) (by omega) W h1 h2)
        have C3 := hid (fun (W : World) h1 h2 => ix_Gather (A := Al) (B := Av) (c := cl) (d := cv) l v (by omega) (by omega) W h1 h2)
        have C4 := hid (fun (W : World) h1 h2 => ref_Gather (A := Al) (B := Av) (c := cl) (d := cv) l v (by omega) (by omega) W h1 h2)
        have C5 := hid (fun (W : World) h1 => ix_Left (A := Al) (c := cl) dim l hdim (by omega) W h1)
        have C6 := hid (fun (W : World) h1 => ref_Left (A := Al) (c := cl) dim l hdim (by omega) W h1)
        have C7 := hid (fun (W : World) h1 => ix_Merge (A := As) (c := cs) ls (by omega) (by omega) W h1)
        have C8 := hid (fun (W : World) h1 => ref_Merge (A := As) (c := cs) ls (by omega) (by omega) W h1)
        have C9 := hid (fun (W : World) h1 => (ref_Rises (A := Al) (c := cl) l (by omega) W (B := W.heap.size) h1))
        have hXl : (spV dim l v).length ≤ 4096 := spV_len dim l v
        have hYl : (gatV l v).length ≤ 600 := by unfold gatV; split <;> simp <;> omega
        have hZl : (lfV dim l).length ≤ 4096 := lfV_len dim l
        have hMl : (mrgV ls).length ≤ 600 := by have h := mrgF_len ls.flatten []; rw [List.length_nil] at h; unfold mrgV; omega
        obtain ⟨X, hX⟩ : ∃ X, spV dim l v = X := ⟨_, rfl⟩
        obtain ⟨E1, hE1⟩ : ∃ X, spE dim l v = X := ⟨_, rfl⟩
        obtain ⟨Y, hY⟩ : ∃ X, gatV l v = X := ⟨_, rfl⟩
        obtain ⟨E2, hE2⟩ : ∃ X, gatE l v = X := ⟨_, rfl⟩
        obtain ⟨Z, hZ⟩ : ∃ X, lfV dim l = X := ⟨_, rfl⟩
        obtain ⟨E3, hE3⟩ : ∃ X, chkE dim l = X := ⟨_, rfl⟩
        obtain ⟨M, hM⟩ : ∃ X, mrgV ls = X := ⟨_, rfl⟩
        rw [hX, hE1] at C1 C2
        rw [hY, hE2] at C3 C4
        rw [hZ, hE3] at C5 C6
        rw [hM] at C7 C8 hMl
        rw [hX] at hXl
        rw [hY] at hYl
        rw [hZ] at hZl
        have SX := hid (fun (A B : Option Addr) (c d : Nat) (W : World) (h1 : Rd (Value.int .i64) W W.heap.size A X) (h2 : Rd (Value.int .i64) W W.heap.size B X) => same64_yes (X := X) (by omega) (A := A) (B := B) (c := c) (d := d) W h1 h2)
        have SY := hid (fun (A B : Option Addr) (c d : Nat) (W : World) (h1 : Rd (Value.int .i64) W W.heap.size A Y) (h2 : Rd (Value.int .i64) W W.heap.size B Y) => same64_yes (X := Y) (by omega) (A := A) (B := B) (c := c) (d := d) W h1 h2)
        have SZ := hid (fun (A B : Option Addr) (c d : Nat) (W : World) (h1 : Rd (Value.int .i64) W W.heap.size A Z) (h2 : Rd (Value.int .i64) W W.heap.size B Z) => equal_yes (X := Z) (by omega) (A := A) (B := B) (c := c) (d := d) W h1 h2)
        have SL := hid (fun (A B : Option Addr) (c d : Nat) (W : World) (h1 : Rd (Value.int .i64) W W.heap.size A l) (h2 : Rd (Value.int .i64) W W.heap.size B l) => equal_yes (X := l) (by omega) (A := A) (B := B) (c := c) (d := d) W h1 h2)
        have SM := hid (fun (A B : Option Addr) (c d : Nat) (W : World) (h1 : Rd (Value.int .i64) W W.heap.size A M) (h2 : Rd (Value.int .i64) W W.heap.size B M) => equal_yes (X := M) (by omega) (A := A) (B := B) (c := c) (d := d) W h1 h2)
        have HR : Hid (∀ h : risP l, (∀ (W : World), Rd (Value.int .i64) W W.heap.size Al l → Calls Try.prog 29 #[.slice Al l.length cl, .int .i64 n] W fun e w' => e = .returned (.tuple #[.int .i64 (hasI l n : Int), .bool (hasB l n)]) ∧ Below W.heap.size W w')) := hid (fun h W h1 => ix_Has (A := Al) (c := cl) l n h (by omega) W h1)
        have HR2 : Hid (∀ h : risP l, (∀ (W : World), Rd (Value.int .i64) W W.heap.size Al l → Calls Try.prog 30 #[.slice Al l.length cl, .int .i64 n] W fun e w' => e = .returned (.tuple #[.int .i64 (hasI l n : Int), .bool (hasB l n)]) ∧ W = w')) := hid (fun h W h1 => ref_Has (A := Al) (c := cl) l n h (by omega) W h1)
        clear hX hE1 hY hE2 hZ hE3 hM hf hf6 rl rv rs il iv is_ hdim hn
        go_enter Try.func4, Try.ntmps4
        go_wp2_with fail
        refine (live_yes _).mono ?_
        rintro _ w1 ⟨rfl, k1⟩
        go_wp2_with fail
        refine (CF.out w1 (RL.out.on k1)).mono ?_
        rintro _ w2 ⟨rfl, hw2⟩
        have k2 : Below w.heap.size w w2 := by rw [← hw2]; exact k1.trans ((grow w1 _).mono k1.size)
        clear hw2 k1 CF
        go_wp2_with fail
        refine (CF2.out w2 (RS.out.on k2)).mono ?_
        rintro _ _ ⟨rfl, rfl⟩
        clear CF2
        go_wp2_with (at_builtin; refine wpList_app (Value.int .i64) (fun _ => rfl) _ rfl _ _ 22 rfl w2.heap.size 3 (.int .i64 0) 8 Try.underlying22 info_int rfl [] _ 0 rfl (own_nil _ _ _) l _ cl _ rfl (RL.out.on k2) (by simp [maxLen]; omega) (by simp; omega) (Nat.le_refl _) ?_)
        rintro S A3 c3 w3 hS ho3 hb3 _
        have eS : S = l := hS
        clear hS
        rw [eS] at ho3 ⊢
        have k3 := k2.trans (hb3.mono k2.size)
        have HW3 := hid (own_rd ho3)
        clear ho3 hb3 k2 eS
        go_wp2_with fail
        refine (C1.out w3 (RL.out.on k3) (RV.out.on k3)).mono ?_
        rintro _ w4 ⟨A4, c4, rfl, ho4, hb4⟩
        have k4 := k3.trans (hb4.mono k3.size)
        have HL5 := hid (HW3.out.on hb4)
        clear HW3
        have HS4 := hid (own_rd ho4)
        have HO4 := hid ho4
        clear ho4
        clear hb4 k3
        go_wp2_with fail
        refine (C2.out w4 (RL.out.on k4) (RV.out.on k4)).mono ?_
        rintro _ w6 ⟨A6, c6, rfl, ho6, hb6⟩
        have k6 := k4.trans (hb6.mono k4.size)
        have HL7 := hid (HL5.out.on hb6)
        clear HL5
        have HL8 := hid (HS4.out.on hb6)
        clear HS4
        have HS6 := hid (own_rd ho6)
        have HO6 := hid ho6
        clear ho6
        clear hb6 k4
        go_wp2_with fail
        refine (C3.out w6 (RL.out.on k6) (RV.out.on k6)).mono ?_
        rintro _ w9 ⟨A9, c9, rfl, ho9, hb9⟩
        have k9 := k6.trans (hb9.mono k6.size)
        have HL10 := hid (HL7.out.on hb9)
        clear HL7
        have HL11 := hid (HL8.out.on hb9)
        clear HL8
        have HL12 := hid (HS6.out.on hb9)
        clear HS6
        have HS9 := hid (own_rd ho9)
        have HO9 := hid ho9
        clear ho9
        clear hb9 k6
        go_wp2_with fail
        refine (C4.out w9 (RL.out.on k9) (RV.out.on k9)).mono ?_
        rintro _ w13 ⟨A13, c13, rfl, ho13, hb13⟩
        have k13 := k9.trans (hb13.mono k9.size)
        have HL14 := hid (HL10.out.on hb13)
        clear HL10
        have HL15 := hid (HL11.out.on hb13)
        clear HL11
        have HL16 := hid (HL12.out.on hb13)
        clear HL12
        have HL17 := hid (HS9.out.on hb13)
        clear HS9
        have HS13 := hid (own_rd ho13)
        have HO13 := hid ho13
        clear ho13
        clear hb13 k9
        go_wp2_with fail
        refine (C5.out w13 (RL.out.on k13)).mono ?_
        rintro _ w18 ⟨A18, c18, rfl, ho18, hb18⟩
        have k18 := k13.trans (hb18.mono k13.size)
        have HL19 := hid (HL14.out.on hb18)
        clear HL14
        have HL20 := hid (HL15.out.on hb18)
        clear HL15
        have HL21 := hid (HL16.out.on hb18)
        clear HL16
        have HL22 := hid (HL17.out.on hb18)
        clear HL17
        have HL23 := hid (HS13.out.on hb18)
        clear HS13
        have HS18 := hid (own_rd ho18)
        have HO18 := hid ho18
        clear ho18
        clear hb18 k13
        go_wp2_with fail
        refine (C6.out w18 (RL.out.on k18)).mono ?_
        rintro _ w24 ⟨A24, c24, rfl, ho24, hb24⟩
        have k24 := k18.trans (hb24.mono k18.size)
        have HL25 := hid (HL19.out.on hb24)
        clear HL19
        have HL26 := hid (HL20.out.on hb24)
        clear HL20
        have HL27 := hid (HL21.out.on hb24)
        clear HL21
        have HL28 := hid (HL22.out.on hb24)
        clear HL22
        have HL29 := hid (HL23.out.on hb24)
        clear HL23
        have HL30 := hid (HS18.out.on hb24)
        clear HS18
        have HS24 := hid (own_rd ho24)
        have HO24 := hid ho24
        clear ho24
        clear hb24 k18
        go_wp2_with fail
        refine (SX.out _ _ _ _ w24 HL26.out HL27.out).mono ?_
        rintro _ w31 ⟨rfl, hb31⟩
        have k31 := k24.trans (hb31.mono k24.size)
        have HL32 := hid (HL25.out.on hb31)
        clear HL25
        have HL33 := hid (HL26.out.on hb31)
        clear HL26
        have HL34 := hid (HL27.out.on hb31)
        clear HL27
        have HL35 := hid (HL28.out.on hb31)
        clear HL28
        have HL36 := hid (HL29.out.on hb31)
        clear HL29
        have HL37 := hid (HL30.out.on hb31)
        clear HL30
        have HL38 := hid (HS24.out.on hb31)
        clear HS24
        clear hb31 k24
        go_wp2_with fail
        refine (SY.out _ _ _ _ w31 HL35.out HL36.out).mono ?_
        rintro _ w39 ⟨rfl, hb39⟩
        have k39 := k31.trans (hb39.mono k31.size)
        have HL40 := hid (HL32.out.on hb39)
        clear HL32
        have HL41 := hid (HL33.out.on hb39)
        clear HL33
        have HL42 := hid (HL34.out.on hb39)
        clear HL34
        have HL43 := hid (HL35.out.on hb39)
        clear HL35
        have HL44 := hid (HL36.out.on hb39)
        clear HL36
        have HL45 := hid (HL37.out.on hb39)
        clear HL37
        have HL46 := hid (HL38.out.on hb39)
        clear HL38
        clear hb39 k31
        go_wp2_with fail
        refine (SZ.out _ _ _ _ w39 HL45.out HL46.out).mono ?_
        rintro _ w47 ⟨rfl, hb47⟩
        have k47 := k39.trans (hb47.mono k39.size)
        have HL48 := hid (HL40.out.on hb47)
        clear HL40
        have HL49 := hid (HL41.out.on hb47)
        clear HL41
        have HL50 := hid (HL42.out.on hb47)
        clear HL42
        have HL51 := hid (HL43.out.on hb47)
        clear HL43
        have HL52 := hid (HL44.out.on hb47)
        clear HL44
        have HL53 := hid (HL45.out.on hb47)
        clear HL45
        have HL54 := hid (HL46.out.on hb47)
        clear HL46
        clear hb47 k39
        go_wp2_with fail
        refine (SL.out _ _ _ _ w47 (RL.out.on k47) HL48.out).mono ?_
        rintro _ w55 ⟨rfl, hb55⟩
        have k55 := k47.trans (hb55.mono k47.size)
        have HL56 := hid (HL48.out.on hb55)
        clear HL48
        have HL57 := hid (HL49.out.on hb55)
        clear HL49
        have HL58 := hid (HL50.out.on hb55)
        clear HL50
        have HL59 := hid (HL51.out.on hb55)
        clear HL51
        have HL60 := hid (HL52.out.on hb55)
        clear HL52
        have HL61 := hid (HL53.out.on hb55)
        clear HL53
        have HL62 := hid (HL54.out.on hb55)
        clear HL54
        clear hb55 k47
        clear HL57 HL58 HL59 HL60 HL61 HL62 HL56
        go_wp2_with fail
        refine (C7.out w55 (RS.out.on k55)).mono ?_
        rintro _ w63 ⟨A63, c63, rfl, ho63, hb63⟩
        have k63 := k55.trans (hb63.mono k55.size)
        have HS63 := hid (own_rd ho63)
        clear ho63
        clear hb63 k55
        go_wp2_with fail
        refine (C8.out w63 (RS.out.on k63)).mono ?_
        rintro _ w64 ⟨A64, c64, rfl, ho64, hb64⟩
        have k64 := k63.trans (hb64.mono k63.size)
        have HL65 := hid (HS63.out.on hb64)
        clear HS63
        have HS64 := hid (own_rd ho64)
        clear ho64
        clear hb64 k63
        go_wp2_with fail
        refine (SM.out _ _ _ _ w64 HL65.out HS64.out).mono ?_
        rintro _ w66 ⟨rfl, hb66⟩
        have k66 := k64.trans (hb66.mono k64.size)
        have HL67 := hid (HL65.out.on hb66)
        clear HL65
        have HL68 := hid (HS64.out.on hb66)
        clear HS64
        clear hb66 k64
        clear HL67 HL68
        by_cases hr : risP l
        · have C9' := hid (C9.out w66 (RL.out.on k66))
          rw [show risB l = true from decide_eq_true hr] at C9'
          have H1 := hid (HR.out hr)
          have H2 := hid (HR2.out hr)
          obtain ⟨I, hI⟩ : ∃ I, hasI l n = I := ⟨_, rfl⟩
          obtain ⟨b, hb⟩ : ∃ I, hasB l n = I := ⟨_, rfl⟩
          rw [hI, hb] at H1 H2
          have t1 : (b == b) = true := by cases b <;> rfl
          clear hr hI hb HR HR2 C9
          go_wp2_with fail
          refine C9'.out.mono ?_
          rintro _ wa ⟨rfl, na, hwa⟩
          have ka : Below w.heap.size w wa := by rw [hwa]; exact k66.trans (belowN _ _ na)
          clear hwa C9' k66
          go_wp2_with fail
          refine (H1.out wa (RL.out.on ka)).mono ?_
          rintro _ wb ⟨rfl, hbb⟩
          have kb := ka.trans (hbb.mono ka.size)
          clear hbb ka
          go_wp2_with fail
          refine (H2.out wb (RL.out.on kb)).mono ?_
          rintro _ _ ⟨rfl, rfl⟩
          go_wp2_with fail
          go_ret
          exact ⟨rfl, kb⟩
        · have C9' := hid (C9.out w66 (RL.out.on k66))
          rw [show risB l = false from decide_eq_false hr] at C9'
          clear hr HR HR2 C9
          go_wp2_with fail
          refine C9'.out.mono ?_
          rintro _ wa ⟨rfl, na, hwa⟩
          have ka : Below w.heap.size w wa := by rw [hwa]; exact k66.trans (belowN _ _ na)
          clear hwa
          go_wp2_with fail
          go_ret
          exact ⟨rfl, ka⟩
      · clear rl rv rs il iv is_ hf hf6
        go_enter Try.func4, Try.ntmps4
        go_wp2_with fail
        refine (live_yes _).mono ?_
        rintro _ w1 ⟨rfl, k1⟩
        go_wp2_with fail
        refine (CF.out w1 (RL.out.on k1)).mono ?_
        rintro _ w2 ⟨rfl, hw2⟩
        have k2 : Below w.heap.size w w2 := by rw [← hw2]; exact k1.trans ((grow w1 _).mono k1.size)
        clear hw2 k1 CF
        go_wp2_with fail
        refine (CF2.out w2 (RS.out.on k2)).mono ?_
        rintro _ _ ⟨rfl, rfl⟩
        clear CF2
        go_wp2_with fail
        go_ret
        exact ⟨rfl, k2⟩
  · rw [decide_eq_false hl] at CF
    clear rl rv rs il iv is_
    go_enter Try.func4, Try.ntmps4
    go_wp2_with fail
    refine (live_yes _).mono ?_
    rintro _ w1 ⟨rfl, k1⟩
    go_wp2_with fail
    refine (CF.out w1 (RL.out.on k1)).mono ?_
    rintro _ w2 ⟨rfl, hw2⟩
    have k2 : Below w.heap.size w w2 := by rw [← hw2]; exact k1.trans ((grow w1 _).mono k1.size)
    clear hw2 k1 CF
    go_wp2_with fail
    go_ret
    exact ⟨rfl, k2⟩
theorem law_types : ∀ t ∈ Try.f4.params.toList, Try.prog.readableRec t = true ∧ t < Try.prog.types.size := by
  have h : (Try.f4.params.toList.all fun t => Try.prog.readableRec t && decide (t < Try.prog.types.size)) = true := by kernel_rfl
  intro t ht
  simpa using List.all_eq_true.1 h t ht
set_option maxRecDepth 100000 in
theorem lifted (os : Os) (started : os.Started) (H : Type) (enc : TypeId × Value → H) :
    ReturnsInHanded {} Try.checked os 4 .any (Rows.indexPlacesSpec.pre6 enc Try.prog Try.f4 Rows.indexPlacesRow.domain false) (Rows.indexPlacesSpec.post enc Try.prog Try.f4 false true false false) := by
  refine returnsInHanded_of_change_sized (C := Try.checked) own started (by kernel_rfl) Try.func4
    (ChangeSpec.witness6 (enc := enc) (C := Try.checked) false ⟨#[], #[.int .i64 0, .slice none 0 0, .slice none 0 0, .slice none 0 0, .int .i64 0], []⟩ 8 (by kernel_rfl) (by kernel_rfl) (by kernel_rfl) (by kernel_rfl)) ?_
  intro W base args ds gs before hval0 hW hcnd hsz0 _
  have hval : ∀ (j : Nat) t v, Try.f4.params[j]? = some t → args[j]? = some v → Value.okWide Try.prog W .any base t v := hval0
  have hW' := hW
  obtain ⟨p, q, hA0, hV, rfl, hfz, hnd⟩ := hW
  have hA : DataW.TrodAll enc Try.prog W 0 (fun _ => true) true Try.f4.params.toList args.toList ds p := hA0
  rw [Try.params4] at hA hval
  obtain ⟨v0, vs0, d0, ds0, p0, q0, hargs, rfl, rfl, h0, r0⟩ := trodAll_cons hA
  obtain ⟨v1, vs1, d1, ds1, p1, q1, rfl, rfl, rfl, h1, r1⟩ := trodAll_cons r0
  obtain ⟨v2, vs2, d2, ds2, p2, q2, rfl, rfl, rfl, h2, r2⟩ := trodAll_cons r1
  obtain ⟨v3, vs3, d3, ds3, p3, q3, rfl, rfl, rfl, h3, r3⟩ := trodAll_cons r2
  obtain ⟨v4, vs4, d4, ds4, p4, q4, rfl, rfl, rfl, h4, r4⟩ := trodAll_cons r3
  obtain ⟨rfl, rfl, rfl⟩ := trodAll_nil r4
  obtain rfl : args = #[v0, v1, v2, v3, v4] := by cases args; simp_all
  obtain ⟨rfl, rfl⟩ := trodVars_none hV
  have hszA : ∀ n ∈ DataW.weightsEach Try.prog (Try.f4.params.toList ++ []) ([d0, d1, d2, d3, d4] ++ []), n ≤ reachBytes := fun n hn => by
    have h := List.all_eq_true.1 hsz0 n hn
    simpa using h
  rw [Try.params4] at hszA
  obtain ⟨dim, rfl, rfl, rfl, w0⟩ := open_int Try.underlying3 (hval 0 3 v0 rfl rfl) h0
  obtain ⟨Al, l, cl, rfl, rdl, il, lcl, lml, dzl⟩ := open_numsd Try.underlying22 Try.underlying3 cells_int (hval 1 22 v1 rfl rfl) h1
  obtain ⟨Av, v, cv, rfl, rdv, iv, lcv, lmv, dzv⟩ := open_numsd Try.underlying35 Try.underlying2 cells_i64' (hval 2 35 v2 rfl rfl) h2
  obtain ⟨Als, ls, cls, rfl, rdls, ils, lcls, lmls, szls⟩ := open_rowsd Try.underlying36 Try.underlying22 Try.underlying3 cells_ints cells_int (by decide +kernel) (by decide +kernel) (hval 3 36 v3 rfl rfl) h3 (fun n hn => hszA n (DataW.weights_mem_each (j := 3) rfl rfl n hn))
  obtain ⟨n, rfl, rfl, rfl, w4⟩ := open_int Try.underlying3 (hval 4 3 v4 rfl rfl) h4
  have hsz : (DataW.weightsEach Try.prog (Try.f4.params.toList ++ []) ([_, d1, d2, _, _] ++ [])).all (· ≤ reachBytes) = true := hsz0
  rw [Try.params4] at hsz
  have szl : l.length ≤ 140737488355327 := by
    rcases dzl with rfl | ⟨es, sp, hd, hl⟩
    · simp
    · have h := sized_slice hsz (j := 1) (t := 22) rfl (congrArg some hd) Try.underlying22
      have hb : 1 ≤ Try.prog.bytesOf 3 := by decide +kernel
      have h2 := Nat.le_trans (Nat.mul_le_mul_left (es.length + sp.length) hb) h
      have h3 := reachBytes_lt
      rw [← hl]
      omega
  have szv : v.length ≤ 140737488355327 := by
    rcases dzv with rfl | ⟨es, sp, hd, hl⟩
    · simp
    · have h := sized_slice hsz (j := 2) (t := 35) rfl (congrArg some hd) Try.underlying35
      have hb : 1 ≤ Try.prog.bytesOf 2 := by decide +kernel
      have h2 := Nat.le_trans (Nat.mul_le_mul_left (es.length + sp.length) hb) h
      have h3 := reachBytes_lt
      rw [← hl]
      omega
  clear hA0 hval0
  refine (walk dim Al l cl Av v cv Als ls cls n W (I64.of_wf w0) rdl (fun x hx => I64.of_wf (il x hx)) lcl lml szl rdv (fun x hx => I64.of_wf (iv x hx)) lcv lmv szv rdls ils lcls lmls szls (I64.of_wf w4)).mono fun e W' ⟨he, hb⟩ => ?_
  subst he
  exact ⟨_, rfl, law_post laid (fun t ht => law_types t ht) rfl hW' ⟨rfl, rfl, rfl⟩ (by kernel_rfl) Try.underlying4 hb⟩

theorem over : Rows.indexPlacesRow.holds Try.pinned (OpenSpec.ofChange Rows.indexPlacesSpec) :=
  OpenClaim.holds_of_wide 4 Try.f4 rfl rfl rfl rfl rfl rfl rfl ⟨rfl, rfl, rfl, rfl, rfl⟩ rfl rfl rfl rfl rfl (by kernel_rfl) Try.func4 (by kernel_rfl)
    (of_decide_eq_true (by kernel_rfl)) (by unfold Func.isWrapper; first | (rw [if_pos (by decide +kernel)]; kernel_rfl) | (rw [if_neg (by decide +kernel)]; exact ⟨rfl, rfl⟩))
    (fun os started H enc _ => lifted os started H enc)

theorem proved : Rows.IndexPlacesSaid := over
end Go.Proofs.Ytgdkmgepconnpaa.IndexPlaces
