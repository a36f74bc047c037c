
/-
  CrcParts answers true for every input. No condition.
-/
import Derived.SizedLaws
import Derived.Test.YtgkkliibeiklbaaCrcLv
import Derived.Test.YtgkkliibeiklbaaLaw
namespace Go.Proofs.Ytgkkliibeiklbaa.CrcParts
open Go.ChangeShapes Go.WideShapes Go.ChangeAt Go.RowKit
set_option maxHeartbeats 400000
set_option linter.unusedVariables false
open Go.Proofs.Ytgkkliibeiklbaa
set_option maxHeartbeats 4000000 in
set_option maxRecDepth 100000 in
theorem walk (Aa : Option Addr) (a : List Int) (ca : Nat) (Ab : Option Addr) (b : List Int) (cb : Nat) (bit : Int) (w : World) (ra : Rd (Value.int .u8) w w.heap.size Aa a) (ua : U8s a) (la : a.length ≤ ca) (ma : ca ≤ 9223372036854775807) (sa : a.length ≤ 140737488355327)
    (rb : Rd (Value.int .u8) w w.heap.size Ab b) (ub : U8s b) (lb : b.length ≤ cb) (mb : cb ≤ 9223372036854775807) (sb : b.length ≤ 140737488355327) (hbit : I64 bit) :
    Calls Try.prog 6 #[.slice Aa a.length ca, .slice Ab b.length cb, .int .i64 bit] w fun e w' => e = .returned (.bool true) ∧ Below w.heap.size w w' := by
  have RA := hid ra
  have RB := hid rb
  clear ra rb
  by_cases hf : a.length + b.length ≤ 5000
  · have hal : a.length ≤ 5000 := by omega
    have hbl : b.length ≤ 5000 := by omega
    have uL := ua.app ub
    have C3 := hid (fun W h => crc_Sum (A := Aa) (c := ca) a (by omega) ua W (B := W.heap.size) h)
    have C4 := hid (fun W h => crc_More (A := Ab) (c := cb) (sumN a) (sumN_lt a) b (by omega) ub W (B := W.heap.size) h)
    rw [moreN_app ua] at C4
    have hLl : (a ++ b).length ≤ 5000 := by rw [List.length_append]; exact hf
    obtain ⟨L, hL⟩ : ∃ L, a ++ b = L := ⟨_, rfl⟩
    rw [hL] at C4 hLl uL
    have C5 := hid (fun A c W h => crc_Sum (A := A) (c := c) L (by omega) uL W (B := W.heap.size) h)
    have C6 := hid (fun W => crc_Sum (A := none) (c := 0) [] (by decide) (by intro x hx; simp at hx) W (B := W.heap.size) Rd.none_)
    rw [sumN_nil] at C6
    obtain ⟨q1, hq1⟩ : ∃ X, sumN a = X := ⟨_, rfl⟩
    obtain ⟨q2, hq2⟩ : ∃ X, sumN L = X := ⟨_, rfl⟩
    rw [hq1] at C3
    rw [hq1, hq2] at C4
    rw [hq2] at C5
    have C1 := hid (fun A c W h => crc_Turn (A := A) (c := c) L (by omega) uL bit hbit W (B := W.heap.size) h)
    have CS := hid (same_yes uL)
    have HL := hid hL
    have hXl : (trnV L bit).length ≤ 5000 := by
      unfold trnV
      split
      · simp
      · rw [trn_len]; exact hLl
    have C2 := hid (fun A c W h => crc_Turn (A := A) (c := c) (trnV L bit) (by omega) (trnV_bytes uL bit) bit hbit W (B := W.heap.size) h)
    have HV : Hid ((trnE L bit = 0 ∧ trnE (trnV L bit) bit = 0 ∧ trnV (trnV L bit) bit = L) ∨ (trnE L bit = 1 ∧ trnE (trnV L bit) bit = 1)) := by
      by_cases h : bit < 0 ∨ (L.length : Int) ≤ bit / 8
      · right
        unfold trnE trnV
        rw [if_pos h, if_pos h]
        refine ⟨rfl, if_pos ?_⟩
        simp
        omega
      · left
        have hp : bit.toNat / 8 < L.length := by omega
        have e : trnV L bit = trn L bit.toNat := by unfold trnV; rw [if_neg h]
        have h2 : ¬ (bit < 0 ∨ ((trn L bit.toNat).length : Int) ≤ bit / 8) := by rw [trn_len]; exact h
        rw [e]
        refine ⟨by unfold trnE; rw [if_neg h], by unfold trnE; rw [if_neg h2], ?_⟩
        unfold trnV
        rw [if_neg h2]
        exact trn_trn uL hp
    obtain ⟨X, hX⟩ : ∃ X, trnV L bit = X := ⟨_, rfl⟩
    obtain ⟨Y, hY⟩ : ∃ Y, trnV X bit = Y := ⟨_, rfl⟩
    obtain ⟨E, hE⟩ : ∃ E, trnE L bit = E := ⟨_, rfl⟩
    obtain ⟨F, hF⟩ : ∃ F, trnE X bit = F := ⟨_, rfl⟩
    rw [hX, hE] at C1
    rw [hX, hF, hY] at C2
    rw [hX, hE, hF, hY] at HV
    clear hX hY hE hF hq1 hq2 ua ub uL hbit hL hXl
    go_enter Try.func6, Try.ntmps6
    go_wp2_with fail
    refine (live_yes _).mono ?_
    rintro _ w1 ⟨rfl, k1⟩
    go_wp2_with (at_builtin; refine wpList_app (Value.int .u8) (fun _ => rfl) _ rfl _ _ 22 rfl w1.heap.size 5 (.int .u8 0) 1 Try.underlying22 info_u8 rfl [] _ 0 rfl (own_nil _ _ _) a _ ca _ rfl (RA.out.on k1) (by simp [maxLen]; omega) (by simp; omega) (Nat.le_refl _) ?_)
    rintro S A2 c2 w2 hS ho hb2 _
    replace hS : S = a := hS
    subst hS
    have HO := hid ho
    have k2 := k1.trans (hb2.mono k1.size)
    have r2 := RB.out.on k2
    clear ho
    go_wp2_with (at_builtin; refine wpList_app (Value.int .u8) (fun _ => rfl) _ rfl _ _ 22 rfl w1.heap.size 5 (.int .u8 0) 1 Try.underlying22 info_u8 rfl S _ _ rfl HO.out b _ cb _ rfl r2 (by simp [maxLen]; omega) (by simp; omega) hb2.size ?_)
    rintro S' A3 c3 w3 hS' ho hb3 _
    replace hS' : S' = L := hS'.trans HL.out
    subst hS'
    have HW3 := hid (own_rd ho)
    have k3 := k1.trans ((hb2.trans hb3).mono k1.size)
    clear ho hb2 hb3 k1 k2 r2
    rcases HV.out with ⟨hE, hF, hY⟩ | ⟨hE, hF⟩
    · subst hE hF hY
      go_wp2_with fail
      refine (C1.out _ _ w3 HW3.out).mono ?_
      rintro _ w101 ⟨A101, c101, rfl, ho101, hb101⟩
      have k101 := k3.trans (hb101.mono k3.size)
      have HL102 := hid (HW3.out.on hb101)
      clear HW3
      have HS101 := hid (own_rd ho101)
      have HO101 := hid ho101
      clear ho101
      clear hb101 k3
      go_wp2_with fail
      refine (C2.out _ _ w101 HS101.out).mono ?_
      rintro _ w103 ⟨A103, c103, rfl, ho103, hb103⟩
      have k103 := k101.trans (hb103.mono k101.size)
      have HL104 := hid (HL102.out.on hb103)
      clear HL102
      have HL105 := hid (HS101.out.on hb103)
      clear HS101
      have HS103 := hid (own_rd ho103)
      have HO103 := hid ho103
      clear ho103
      clear hb103 k101
      go_wp2_with fail
      refine (CS.out _ _ _ _ w103 _ _ HS103.out HL104.out).mono ?_
      rintro _ _ ⟨rfl, rfl⟩
      go_wp2_with fail
      refine (C3.out w103 (RA.out.on k103)).mono ?_
      rintro _ _ ⟨rfl, rfl⟩
      go_wp2_with fail
      refine (C4.out w103 (RB.out.on k103)).mono ?_
      rintro _ _ ⟨rfl, rfl⟩
      go_wp2_with fail
      refine (C5.out _ _ w103 HL104.out).mono ?_
      rintro _ _ ⟨rfl, rfl⟩
      go_wp2_with fail
      refine (C6.out w103 ).mono ?_
      rintro _ _ ⟨rfl, rfl⟩
      go_wp2_with fail
      go_ret
      exact ⟨rfl, k103⟩
    · subst hE hF
      go_wp2_with fail
      refine (C1.out _ _ w3 HW3.out).mono ?_
      rintro _ w101 ⟨A101, c101, rfl, ho101, hb101⟩
      have k101 := k3.trans (hb101.mono k3.size)
      have HL102 := hid (HW3.out.on hb101)
      clear HW3
      have HS101 := hid (own_rd ho101)
      have HO101 := hid ho101
      clear ho101
      clear hb101 k3
      go_wp2_with fail
      refine (C2.out _ _ w101 HS101.out).mono ?_
      rintro _ w103 ⟨A103, c103, rfl, ho103, hb103⟩
      have k103 := k101.trans (hb103.mono k101.size)
      have HL104 := hid (HL102.out.on hb103)
      clear HL102
      have HL105 := hid (HS101.out.on hb103)
      clear HS101
      have HS103 := hid (own_rd ho103)
      have HO103 := hid ho103
      clear ho103
      clear hb103 k101
      go_wp2_with fail
      refine (C3.out w103 (RA.out.on k103)).mono ?_
      rintro _ _ ⟨rfl, rfl⟩
      go_wp2_with fail
      refine (C4.out w103 (RB.out.on k103)).mono ?_
      rintro _ _ ⟨rfl, rfl⟩
      go_wp2_with fail
      refine (C5.out _ _ w103 HL104.out).mono ?_
      rintro _ _ ⟨rfl, rfl⟩
      go_wp2_with fail
      refine (C6.out w103 ).mono ?_
      rintro _ _ ⟨rfl, rfl⟩
      go_wp2_with fail
      go_ret
      exact ⟨rfl, k103⟩
  · have hf2 : (5000 : Int) < (a.length : Int) + (b.length : Int) := by omega
    have hf3 : 5000 < a.length + b.length := by omega
    clear hf ua ub hbit
    go_enter Try.func6, Try.ntmps6
    go_wp2_with fail
    refine (live_yes _).mono ?_
    rintro _ w1 ⟨rfl, k1⟩
    go_wp2_with fail
    go_ret
    exact ⟨rfl, k1⟩
theorem law_types : ∀ t ∈ Try.f6.params.toList, Try.prog.readableRec t = true ∧ t < Try.prog.types.size := by
  have h : (Try.f6.params.toList.all fun t => Try.prog.readableRec t && decide (t < Try.prog.types.size)) = true := by kernel_rfl
  intro t ht
  simpa using List.all_eq_true.1 h t ht
set_option maxRecDepth 100000 in
theorem lifted (os : Os) (started : os.Started) (H : Type) (enc : TypeId × Value → H) :
    ReturnsInHanded {} Try.checked os 6 .any (Rows.crcPartsSpec.pre6 enc Try.prog Try.f6 Rows.crcPartsRow.domain false) (Rows.crcPartsSpec.post enc Try.prog Try.f6 false true false false) := by
  refine returnsInHanded_of_change_sized (C := Try.checked) own started (by kernel_rfl) Try.func6
    (ChangeSpec.witness6 (enc := enc) (C := Try.checked) false ⟨#[], #[.slice none 0 0, .slice none 0 0, .int .i64 0], []⟩ 8 (by kernel_rfl) (by kernel_rfl) (by kernel_rfl) (by kernel_rfl)) ?_
  intro W base args ds gs before hval0 hW hcnd hsz0 _
  have hval : ∀ (j : Nat) t v, Try.f6.params[j]? = some t → args[j]? = some v → Value.okWide Try.prog W .any base t v := hval0
  have hW' := hW
  obtain ⟨p, q, hA0, hV, rfl, hfz, hnd⟩ := hW
  have hA : DataW.TrodAll enc Try.prog W 0 (fun _ => true) true Try.f6.params.toList args.toList ds p := hA0
  rw [Try.params6] at hA hval
  obtain ⟨v0, vs0, d0, ds0, p0, q0, hargs, rfl, rfl, h0, r0⟩ := trodAll_cons hA
  obtain ⟨v1, vs1, d1, ds1, p1, q1, rfl, rfl, rfl, h1, r1⟩ := trodAll_cons r0
  obtain ⟨v2, vs2, d2, ds2, p2, q2, rfl, rfl, rfl, h2, r2⟩ := trodAll_cons r1
  obtain ⟨rfl, rfl, rfl⟩ := trodAll_nil r2
  obtain rfl : args = #[v0, v1, v2] := by cases args; simp_all
  obtain ⟨rfl, rfl⟩ := trodVars_none hV
  obtain ⟨Aa, a, ca, rfl, rda, ia, lca, lma, dza⟩ := open_numsd Try.underlying22 Try.underlying5 cells_u8 (hval 0 22 v0 rfl rfl) h0
  obtain ⟨Ab, b, cb, rfl, rdb, ib, lcb, lmb, dzb⟩ := open_numsd Try.underlying22 Try.underlying5 cells_u8 (hval 1 22 v1 rfl rfl) h1
  obtain ⟨bit, rfl, rfl, rfl, w2⟩ := open_int Try.underlying3 (hval 2 3 v2 rfl rfl) h2
  have hsz : (DataW.weightsEach Try.prog (Try.f6.params.toList ++ []) ([d0, d1, _] ++ [])).all (· ≤ reachBytes) = true := hsz0
  rw [Try.params6] at hsz
  have sza : a.length ≤ 140737488355327 := by
    rcases dza with rfl | ⟨es, sp, hd, hl⟩
    · simp
    · have h := sized_slice hsz (j := 0) (t := 22) rfl (congrArg some hd) Try.underlying22
      have hb : 1 ≤ Try.prog.bytesOf 5 := by decide +kernel
      have h2 := Nat.le_trans (Nat.mul_le_mul_left (es.length + sp.length) hb) h
      have h3 := reachBytes_lt
      rw [← hl]
      omega
  have szb : b.length ≤ 140737488355327 := by
    rcases dzb with rfl | ⟨es, sp, hd, hl⟩
    · simp
    · have h := sized_slice hsz (j := 1) (t := 22) rfl (congrArg some hd) Try.underlying22
      have hb : 1 ≤ Try.prog.bytesOf 5 := by decide +kernel
      have h2 := Nat.le_trans (Nat.mul_le_mul_left (es.length + sp.length) hb) h
      have h3 := reachBytes_lt
      rw [← hl]
      omega
  clear hA0 hval0
  refine (walk Aa a ca Ab b cb bit W rda (fun x hx => bounds_u8 (ia x hx)) lca lma sza rdb (fun x hx => bounds_u8 (ib x hx)) lcb lmb szb (I64.of_wf w2)).mono fun e W' ⟨he, hb⟩ => ?_
  subst he
  exact ⟨_, rfl, law_post laid (fun t ht => law_types t ht) rfl hW' ⟨rfl, rfl, rfl⟩ (by kernel_rfl) Try.underlying4 hb⟩

theorem over : Rows.crcPartsRow.holds Try.pinned (OpenSpec.ofChange Rows.crcPartsSpec) :=
  OpenClaim.holds_of_wide 6 Try.f6 rfl rfl rfl rfl rfl rfl rfl ⟨rfl, rfl, rfl, rfl, rfl⟩ rfl rfl rfl rfl rfl (by kernel_rfl) Try.func6 (by kernel_rfl)
    (of_decide_eq_true (by kernel_rfl)) (by unfold Func.isWrapper; first | (rw [if_pos (by decide +kernel)]; kernel_rfl) | (rw [if_neg (by decide +kernel)]; exact ⟨rfl, rfl⟩))
    (fun os started H enc _ => lifted os started H enc)

theorem proved : Rows.CrcPartsSaid := over
end Go.Proofs.Ytgkkliibeiklbaa.CrcParts
