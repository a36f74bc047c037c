
/-
  CrcBursts answers true for every input. No condition.
-/
import Derived.Test.YtgkkliibeiklbaaCrcLv
import Derived.Test.YtgkkliibeiklbaaLaw
namespace Go.Proofs.Ytgkkliibeiklbaa.CrcBursts
open Go.ChangeShapes Go.WideShapes Go.ChangeAt Go.RowKit
set_option maxHeartbeats 400000
set_option linter.unusedVariables false
open Go.Proofs.Ytgkkliibeiklbaa
theorem sealed_own {b : List Int} (ub : U8s b) : sealedB (b ++ le4 (sumN b)) = true := by
  have hl : (b ++ le4 (sumN b)).length = b.length + 4 := by rw [List.length_append, le4_len]
  rw [sealed_iff (ub.app (le4_bytes _)) (by omega), off_iff ub (sumN_lt b)]
theorem open_own {b : List Int} (ub : U8s b) (hb : b.length ≤ 3000) : openV (b ++ le4 (sumN b)) = b ∧ openE (b ++ le4 (sumN b)) = 0 := by
  have hl : (b ++ le4 (sumN b)).length = b.length + 4 := by rw [List.length_append, le4_len]
  have hs := sealed_own ub
  unfold openV openE
  rw [hs, hl, if_neg (by simp only [Bool.true_eq_false, or_false]; omega), if_neg (by omega), if_neg (by omega), if_neg (by decide)]
  refine ⟨?_, rfl⟩
  rw [show b.length + 4 - 4 = b.length by omega, List.take_left]
theorem open_off {l : List Int} (ul : U8s l) (h4 : 4 ≤ l.length) (hl : l.length ≤ 65536) {n p : Nat} (hp : p < 2 ^ 32) (h : off l = hn n p) : (p = 0 → openE l = 0) ∧ (p ≠ 0 → openE l = 7) := by
  have hs := sealed_iff ul h4
  rw [h] at hs
  constructor
  · rintro rfl
    have e : sealedB l = true := hs.2 (hn_zero n)
    unfold openE
    rw [e, if_neg (by omega), if_neg (by omega), if_neg (by decide)]
  · intro hne
    have e : sealedB l = false := by
      cases hb : sealedB l with
      | false => rfl
      | true => exact absurd (hn_inj n hp (hs.1 hb)) hne
    unfold openE
    rw [e, if_neg (by omega), if_neg (by omega), if_pos rfl]
theorem and_bit {x k : Nat} (hx : x < 2 ^ 32) (t : Int) (h : ((x / 2 ^ k % 2 : Nat) : Int) = t) : bits BinOp.and IntKind.u32 ((x : Int) / 2 ^ k) 1 = t := by
  have h1 : x / 2 ^ k < 2 ^ 32 := Nat.lt_of_le_of_lt (Nat.div_le_self _ _) hx
  have := and_one h1
  rw [Int.natCast_ediv, Int.natCast_pow] at this
  rw [← h]
  exact this
theorem from_lt (fr m : Int) (hm : 0 < m) (hm2 : m ≤ 30000) : ∃ f : Nat, (wrap64 (fr.tmod m + m)).tmod m = (f : Int) ∧ (f : Int) < m := by
  have h1 := Int.tmod_lt_of_pos fr hm
  have h2 : -m < fr.tmod m := Int.lt_tmod_of_pos fr hm
  obtain ⟨r, hr⟩ : ∃ r, fr.tmod m = r := ⟨_, rfl⟩
  rw [hr] at h1 h2 ⊢
  have e : wrap64 (r + m) = r + m := by rw [wrap64_eq]; omega
  rw [e, Int.tmod_eq_emod_of_nonneg (by omega)]
  have h3 := Int.emod_nonneg (r + m) (show m ≠ 0 by omega)
  have h4 := Int.emod_lt_of_pos (r + m) hm
  exact ⟨((r + m) % m).toNat, by omega, by omega⟩
set_option maxHeartbeats 4000000 in
set_option maxRecDepth 100000 in
theorem walk (Ab : Option Addr) (b : List Int) (cb : Nat) (fr pat : Int) (w : World) (rb : Rd (Value.int .u8) w w.heap.size Ab b) (ub : U8s b) (lb : b.length ≤ cb) (mb : cb ≤ 9223372036854775807) (hfr : I64 fr) (hpat : 0 ≤ pat ∧ pat ≤ 4294967295) :
    Calls Try.prog 5 #[.slice Ab b.length cb, .int .i64 fr, .int .u32 pat] w fun e w' => e = .returned (.bool true) ∧ Below w.heap.size w w' := by
  obtain ⟨p, rfl⟩ := Int.eq_ofNat_of_zero_le hpat.1
  have RB := hid rb
  clear rb
  by_cases hf : b.length ≤ 3000
  · have C1 := hid (fun W h => crc_Seal (A := Ab) (c := cb) b (by omega) ub W h)
    have e1 : sealV b = b ++ le4 (sumN b) ∧ sealE b = 0 := by unfold sealV sealE; rw [if_neg (by omega), if_neg (by omega)]; exact ⟨rfl, rfl⟩
    rw [e1.1, e1.2] at C1
    have hoff : off (b ++ le4 (sumN b)) = 0 := (off_iff ub (sumN_lt b)).2 rfl
    have hl : (b ++ le4 (sumN b)).length = b.length + 4 := by rw [List.length_append, le4_len]
    have uS := ub.app (le4_bytes (sumN b))
    have ho := open_own ub hf
    have CB := hid (same_yes ub)
    obtain ⟨S, hS⟩ : ∃ S, b ++ le4 (sumN b) = S := ⟨_, rfl⟩
    rw [hS] at C1 hoff hl uS ho
    have C2 := hid (fun A c W hc h => crc_Open (A := A) (c := c) S (by omega) hc uS W h)
    rw [ho.1, ho.2] at C2
    obtain ⟨N, hN⟩ : ∃ N, S.length = N := ⟨_, rfl⟩
    rw [hN] at C2 hl
    have HOFF := hid hoff
    have US := hid uS
    have HN := hid hN
    have HNB := hid hl
    have hN4 : 4 ≤ N := by omega
    have hN3 : N ≤ 3004 := by omega
    clear hl hS e1 hoff uS ho hN ub
    go_enter Try.func5, Try.ntmps5
    go_wp2_with fail
    refine (live_yes _).mono ?_
    rintro _ w1 ⟨rfl, k1⟩
    go_wp2_with fail
    have rb1 := RB.out.on k1
    refine (C1.out _ rb1).mono ?_
    rintro _ w2 ⟨A2, c2, rfl, ho2, hb2⟩
    have hr2 := own_rd ho2
    have hc2 := (own_cap ho2).1
    rw [HN.out] at hc2 ⊢
    have k2 := k1.trans (hb2.mono k1.size)
    have HR2 := hid hr2
    clear ho2 hr2 hb2 k1 rb1
    go_wp2_with fail
    refine (C2.out _ _ w2 hc2 HR2.out).mono ?_
    rintro _ w3 ⟨A3, c3, rfl, ho3, hb3⟩
    have k3 := k2.trans (hb3.mono k2.size)
    have hr3 := own_rd ho3
    have HR3 := hid (HR2.out.on hb3)
    have rb3 := RB.out.on k3
    have K3 := hid k3
    clear ho3 hb3 k2 HR2 k3
    go_wp2_with fail
    refine (CB.out _ _ _ _ w3 _ _ hr3 rb3).mono ?_
    rintro _ _ ⟨rfl, rfl⟩
    clear hr3 rb3
    by_cases hp0 : p = 0
    · subst hp0
      go_wp2_with fail
      go_ret
      exact ⟨rfl, K3.out⟩
    · have hp1 : ((p : Int) == 0) = false := by simp; omega
      obtain ⟨f, hfe, hfl⟩ := from_lt fr (8 * (N : Int)) (by omega) (by omega)
      have hpl : p < 2 ^ 32 := by omega
      obtain ⟨n, hn⟩ : ∃ n : Nat, f + n = 8 * N := ⟨8 * N - f, by omega⟩
      have hnp : 0 < n := by omega
      have HNF := hid hn
      clear hpat hfr C2 hfl
      go_wp2_with fail
      clear hfe hn
      go_loopw [8, 13, 61] (fun s met i wr => ∃ (k : Nat) (S : List Int) (A : Option Addr) (c : Nat), k ≤ 32 ∧ i = .int .i64 k ∧ s = .slice A N c ∧ met = .bool (decide (pk p n k ≠ 0)) ∧ S.length = N ∧ U8s S ∧ off S = hn n (pk p n k) ∧ N ≤ c ∧ Rd (Value.int .u8) wr wr.heap.size A S ∧ Below w3.heap.size w3 wr) (fun _ _ i _ => 32 - (intOf i).toNat)
      case atStart => exact ⟨0, S, A2, c2, by omega, rfl, rfl, by rw [pk_zero]; rfl, HN.out, US.out, by rw [pk_zero, hn_zero]; exact HOFF.out, hc2, HR3.out, Below.refl _ _⟩
      case round =>
        obtain ⟨k, T, A, c, hk, rfl, rfl, rfl, hTl, uT, hoff, hc, hr, hbr⟩ := hrel
        have HTL := hid hTl
        have UT := hid uT
        have HO := hid hoff
        have HR := hid hr
        clear hTl uT hoff hr
        by_cases hlt : k < 32
        · by_cases h1 : p / 2 ^ k % 2 = 1
          · have e1 := and_bit hpl (k := k) 1 (by rw [h1]; rfl)
            by_cases h2 : k < n
            · have e2 : (f : Int) + (k : Int) < 8 * (N : Int) := by have := HNF.out; omega
              have hpos : (f + k) / 8 < T.length := by have := HNF.out; have := HTL.out; omega
              have hv : trnV T ((f : Int) + (k : Int)) = trn T (f + k) ∧ trnE T ((f : Int) + (k : Int)) = 0 := by
                have hg : ¬ ((f : Int) + (k : Int) < 0 ∨ (T.length : Int) ≤ ((f : Int) + (k : Int)) / 8) := by omega
                unfold trnV trnE
                rw [if_neg hg, if_neg hg]
                exact ⟨by congr 1, rfl⟩
              have CT := hid (crc_Turn (A := A) (c := c) T (by have := HTL.out; omega) UT.out ((f : Int) + (k : Int)) (by unfold I64; omega) wr HR.out)
              rw [hv.1, hv.2, HTL.out] at CT
              have hTT : (trn T (f + k)).length = N := by rw [trn_len]; exact HTL.out
              have uTT := trn_bytes UT.out hpos
              have oTT := burst_step UT.out (by rw [HTL.out]; exact HNF.out) h2 h1 HO.out
              have pTT := pk_pos h2 h1
              obtain ⟨T2, hT2⟩ : ∃ T2, trn T (f + k) = T2 := ⟨_, rfl⟩
              rw [hT2] at CT hTT uTT oTT
              have HL2 := hid hTT
              have U2 := hid uTT
              have O2 := hid oTT
              have P2 := hid pTT
              clear hv hT2 hTT uTT oTT pTT h1 hpos
              go_wp2_with fail
              refine CT.out.mono ?_
              rintro _ w4 ⟨A4, c4, rfl, ho4, hb4⟩
              have hr4 := own_rd ho4
              have hc4 := (own_cap ho4).1
              rw [HL2.out] at hc4 ⊢
              have HR4 := hid hr4
              clear ho4 hr4 e1 e2
              have hb34 := hbr.trans (hb4.mono hbr.size)
              go_wp2_with fail
              go_roundw
              case rel => exact ⟨k + 1, T2, A4, c4, by omega, by go_num, rfl, by rw [decide_eq_true (p := pk p n (k + 1) ≠ 0) P2.out], HL2.out, U2.out, O2.out, hc4, HR4.out, hb34⟩
              case measure => simp [intOf]; omega
            · have e2 : ¬ (f : Int) + (k : Int) < 8 * (N : Int) := by have := HNF.out; omega
              have hfb : f ≤ 24032 := by have := HNF.out; omega
              have PE := hid (pk_out (p := p) (n := n) (k := k) (by omega))
              clear h1
              go_wp2_with fail
              go_roundw
              case rel => exact ⟨k + 1, T, A, c, by omega, by go_num, rfl, by rw [PE.out], HTL.out, UT.out, by rw [PE.out]; exact HO.out, hc, HR.out, hbr⟩
              case measure => simp [intOf]; omega
          · have e1 := and_bit hpl (k := k) 0 (by rw [show p / 2 ^ k % 2 = 0 by omega]; rfl)
            have PE := hid (pk_skip (n := n) h1)
            clear h1
            go_wp2_with fail
            go_roundw
            case rel => exact ⟨k + 1, T, A, c, by omega, by go_num, rfl, by rw [PE.out], HTL.out, UT.out, by rw [PE.out]; exact HO.out, hc, HR.out, hbr⟩
            case measure => simp [intOf]; omega
        · obtain rfl : k = 32 := by omega
          have hT4 : 4 ≤ T.length := by rw [HTL.out]; omega
          have hTe := open_off UT.out hT4 (by rw [HTL.out]; omega) (pk_lt p n 32 (by omega)) HO.out
          have CO := hid (crc_Open (A := A) (c := c) T (by rw [HTL.out]; omega) (by rw [HTL.out]; exact hc) UT.out wr HR.out)
          rw [HTL.out] at CO
          have K := hid (K3.out.trans (hbr.mono K3.out.size))
          obtain ⟨V, hV⟩ : ∃ V, openV T = V := ⟨_, rfl⟩
          obtain ⟨E, hE⟩ : ∃ E, openE T = E := ⟨_, rfl⟩
          rw [hV, hE] at CO
          rw [hE] at hTe
          obtain ⟨q, hq⟩ : ∃ q, pk p n 32 = q := ⟨_, rfl⟩
          rw [hq] at hTe ⊢
          clear hV hE hT4 hq
          by_cases hq0 : q = 0
          · have hE0 := hTe.1 hq0
            subst hE0 hq0
            rw [show decide ((0 : Nat) ≠ 0) = false from rfl]
            clear hTe
            go_wp2_with fail
            refine CO.out.mono ?_
            rintro _ w4 ⟨A4, c4, rfl, ho4, hb4⟩
            clear ho4
            go_wp2_with fail
            go_ret
            exact ⟨rfl, K.out.trans (hb4.mono K.out.size)⟩
          · have hE7 := hTe.2 hq0
            subst hE7
            rw [show decide (q ≠ 0) = true from decide_eq_true hq0]
            clear hTe hq0
            go_wp2_with fail
            refine CO.out.mono ?_
            rintro _ w4 ⟨A4, c4, rfl, ho4, hb4⟩
            clear ho4
            go_wp2_with fail
            go_ret
            exact ⟨rfl, K.out.trans (hb4.mono K.out.size)⟩
  · have hf2 : 3000 < b.length := by omega
    clear hf ub
    go_enter Try.func5, Try.ntmps5
    go_wp2_with fail
    refine (live_yes _).mono ?_
    rintro _ w1 ⟨rfl, k1⟩
    go_wp2_with fail
    go_ret
    exact ⟨rfl, k1⟩
theorem law_types : ∀ t ∈ Try.f5.params.toList, Try.prog.readableRec t = true ∧ t < Try.prog.types.size := by
  have h : (Try.f5.params.toList.all fun t => Try.prog.readableRec t && decide (t < Try.prog.types.size)) = true := by kernel_rfl
  intro t ht
  simpa using List.all_eq_true.1 h t ht
set_option maxRecDepth 100000 in
theorem lifted (os : Os) (started : os.Started) (H : Type) (enc : TypeId × Value → H) :
    ReturnsInHanded {} Try.checked os 5 .any (Rows.crcBurstsSpec.pre6 enc Try.prog Try.f5 Rows.crcBurstsRow.domain false) (Rows.crcBurstsSpec.post enc Try.prog Try.f5 false true false false) := by
  refine returnsInHanded_of_change (C := Try.checked) own started (by kernel_rfl) Try.func5
    (ChangeSpec.witness6 (enc := enc) (C := Try.checked) false ⟨#[], #[.slice none 0 0, .int .i64 0, .int .u32 0], []⟩ 8 (by kernel_rfl) (by kernel_rfl) (by kernel_rfl) (by kernel_rfl)) ?_
  intro W base args ds gs before hval0 hW hcnd _
  have hval : ∀ (j : Nat) t v, Try.f5.params[j]? = some t → args[j]? = some v → Value.okWide Try.prog W .any base t v := hval0
  have hW' := hW
  obtain ⟨p, q, hA0, hV, rfl, hfz, hnd⟩ := hW
  have hA : DataW.TrodAll enc Try.prog W 0 (fun _ => true) true Try.f5.params.toList args.toList ds p := hA0
  rw [Try.params5] at hA hval
  obtain ⟨v0, vs0, d0, ds0, p0, q0, hargs, rfl, rfl, h0, r0⟩ := trodAll_cons hA
  obtain ⟨v1, vs1, d1, ds1, p1, q1, rfl, rfl, rfl, h1, r1⟩ := trodAll_cons r0
  obtain ⟨v2, vs2, d2, ds2, p2, q2, rfl, rfl, rfl, h2, r2⟩ := trodAll_cons r1
  obtain ⟨rfl, rfl, rfl⟩ := trodAll_nil r2
  obtain rfl : args = #[v0, v1, v2] := by cases args; simp_all
  obtain ⟨rfl, rfl⟩ := trodVars_none hV
  obtain ⟨Ab, b, cb, rfl, rdb, ib, lcb, lmb⟩ := open_nums Try.underlying22 Try.underlying5 cells_u8 (hval 0 22 v0 rfl rfl) h0
  obtain ⟨fr, rfl, rfl, rfl, w1⟩ := open_int Try.underlying3 (hval 1 3 v1 rfl rfl) h1
  obtain ⟨pat, rfl, rfl, rfl, w2⟩ := open_int Try.underlying23 (hval 2 23 v2 rfl rfl) h2
  clear hA0 hval0
  refine (walk Ab b cb fr pat W rdb (fun x hx => bounds_u8 (ib x hx)) lcb lmb (I64.of_wf w1) (U32.of_wf w2)).mono fun e W' ⟨he, hb⟩ => ?_
  subst he
  exact ⟨_, rfl, law_post laid (fun t ht => law_types t ht) rfl hW' ⟨rfl, rfl, rfl⟩ (by kernel_rfl) Try.underlying4 hb⟩

theorem over : Rows.crcBurstsRow.holds Try.pinned (OpenSpec.ofChange Rows.crcBurstsSpec) :=
  OpenClaim.holds_of_wide 5 Try.f5 rfl rfl rfl rfl rfl rfl rfl ⟨rfl, rfl, rfl, rfl, rfl⟩ rfl rfl rfl rfl rfl (by kernel_rfl) Try.func5 (by kernel_rfl)
    (of_decide_eq_true (by kernel_rfl)) (by unfold Func.isWrapper; first | (rw [if_pos (by decide +kernel)]; kernel_rfl) | (rw [if_neg (by decide +kernel)]; exact ⟨rfl, rfl⟩))
    (fun os started H enc _ => lifted os started H enc)

theorem proved : Rows.CrcBurstsSaid := over
end Go.Proofs.Ytgkkliibeiklbaa.CrcBursts
