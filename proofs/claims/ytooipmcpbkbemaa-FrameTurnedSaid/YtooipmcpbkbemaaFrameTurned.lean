
/-
  FrameTurned answers true for every input. No condition.
-/
import Derived.Test.YtooipmcpbkbemaaMFsO
import Derived.Test.YtooipmcpbkbemaaMFsE
import Derived.Test.YtooipmcpbkbemaaMc
namespace Go.Proofs.Ytooipmcpbkbemaa.FrameTurned
open Go.ChangeShapes Go.WideShapes Go.ChangeAt Go.RowKit
set_option maxHeartbeats 400000
set_option linter.unusedVariables false
open Go.Proofs.Ytooipmcpbkbemaa
theorem open_off {l : List Int} (ul : U8s l) (h4 : 4 ≤ l.length) (hl : l.length ≤ 65536) {n p : Nat} (hp : p < 2 ^ 32) (h : off l = hn n p) : (p = 0 → openE l = 0) ∧ (p ≠ 0 → openE l = 7) := by
  have hs := sealed_iff ul h4
  rw [h] at hs
  constructor
  · rintro rfl
    have e : sealedB l = true := hs.2 (hn_zero n)
    unfold openE
    rw [e, if_neg (by omega), if_neg (by omega), if_neg (by decide)]
  · intro hne
    have e : sealedB l = false := by
      cases hb : sealedB l with
      | false => rfl
      | true => exact absurd (hn_inj n hp (hs.1 hb)) hne
    unfold openE
    rw [e, if_neg (by omega), if_neg (by omega), if_pos rfl]
theorem and_bit {x k : Nat} (hx : x < 2 ^ 32) (t : Int) (h : ((x / 2 ^ k % 2 : Nat) : Int) = t) : bits BinOp.and IntKind.u32 ((x : Int) / 2 ^ k) 1 = t := by
  have h1 : x / 2 ^ k < 2 ^ 32 := Nat.lt_of_le_of_lt (Nat.div_le_self _ _) hx
  have := and_one h1
  rw [Int.natCast_ediv, Int.natCast_pow] at this
  rw [← h]
  exact this
theorem from_lt (fr m : Int) (hm : 0 < m) (hm2 : m ≤ 1000000) : ∃ f : Nat, (wrap64 (fr.tmod m + m)).tmod m = (f : Int) ∧ (f : Int) < m := by
  have h1 := Int.tmod_lt_of_pos fr hm
  have h2 : -m < fr.tmod m := Int.lt_tmod_of_pos fr hm
  obtain ⟨r, hr⟩ : ∃ r, fr.tmod m = r := ⟨_, rfl⟩
  rw [hr] at h1 h2 ⊢
  have e : wrap64 (r + m) = r + m := by rw [wrap64_eq]; omega
  rw [e, Int.tmod_eq_emod_of_nonneg (by omega)]
  have h3 := Int.emod_nonneg (r + m) (show m ≠ 0 by omega)
  have h4 := Int.emod_lt_of_pos (r + m) hm
  exact ⟨((r + m) % m).toNat, by omega, by omega⟩
theorem off_read {l : List Int} (ul : U8s l) (h4 : 4 ≤ l.length) (hl : l.length ≤ 65536) {n p : Nat} (hp : p < 2 ^ 32) (h : off l = hn n p) : p ≠ 0 → (rdR l).2 = 7 := fun hne => by
  have h7 := (open_off ul h4 hl hp h).2 hne
  unfold rdR
  rw [if_pos (by rw [h7]; decide)]
  exact h7
set_option maxHeartbeats 4000000 in
set_option maxRecDepth 100000 in
theorem walk (F : FrOk) (f : FrameV) (p : SentP) (fr pat : Int) (w : World) (rf : RdS w w.heap.size f.S p) (wf : wfF f) (cp : capS f.S p) (hfr : I64 fr) (hpat : 0 ≤ pat ∧ pat ≤ 4294967295) :
    Calls Try.prog 5 #[encF f p, .int .i64 fr, .int .u32 pat] w fun e w' => e = .returned (.bool true) ∧ Below w.heap.size w w' := by
  obtain ⟨u, rfl⟩ := Int.eq_ofNat_of_zero_le hpat.1
  have CL := hid (fun W => fr_live F W)
  have CB := hid (fun W => (show Calls Try.prog 10 #[.agg #[.int .i64 f.S.sch, .int .i64 f.S.dim, .slice p.AL f.S.L.length p.cL, .slice p.AV f.S.V.length p.cV, .int .i64 f.S.scale, .int .i64 f.S.wide, .slice p.AE f.S.lev.length p.cE, .slice p.AN f.S.neg.length p.cN]] W fun e w' => e = .returned (.bool (bigS f.S)) ∧ Below W.heap.size W w' by exact ref_Big f.S p W))
  have HBX := hid (fun W => (show BoxL (W.alloc (.cells #[.int .i64 f.knd, .int .i64 f.frm, .int .i64 f.stp, .int .i64 f.S.sch, .int .i64 f.S.dim, .slice p.AL f.S.L.length p.cL, .slice p.AV f.S.V.length p.cV, .int .i64 f.S.scale, .int .i64 f.S.wide, .slice p.AE f.S.lev.length p.cE, .slice p.AN f.S.neg.length p.cN] 29)) W.heap.size [.int .i64 f.knd, .int .i64 f.frm, .int .i64 f.stp, .int .i64 f.S.sch, .int .i64 f.S.dim, .slice p.AL f.S.L.length p.cL, .slice p.AV f.S.V.length p.cV, .int .i64 f.S.scale, .int .i64 f.S.wide, .slice p.AE f.S.lev.length p.cE, .slice p.AN f.S.neg.length p.cN] from BoxL.new W _ _))
  by_cases hbig : bigS f.S = true
  · rw [hbig] at CB
    clear hbig rf wf cp
    go_enter Try.func5, Try.ntmps5
    go_wp2_with fail
    refine (CL.out _).mono ?_
    rintro _ w1 ⟨rfl, hb1⟩
    have k1 : Below w.heap.size w w1 := Below.trans (by go_grown) (hb1.mono (by simp))
    have HX := hid ((HBX.out w).below hb1 (by simp))
    clear hb1
    obtain ⟨c0, c1, c2, c3, c4, c5, c6, c7, c8, c9, c10⟩ := HX.out.cells11
    go_wp2_with fail
    refine (CB.out _).mono ?_
    rintro _ w2 ⟨rfl, hb2⟩
    go_wp2_with fail
    go_ret
    exact ⟨rfl, k1.trans (hb2.mono k1.size)⟩
  · have hb0 : bigS f.S = false := by cases h : bigS f.S with
      | false => rfl
      | true => exact absurd h hbig
    have hln := big_ln hb0
    rw [hb0] at CB
    have CW := hid (fun W (hW : Below w.heap.size w W) => (show Calls Try.prog 11 #[.agg #[.int .i64 f.knd, .int .i64 f.frm, .int .i64 f.stp, .int .i64 f.S.sch, .int .i64 f.S.dim, .slice p.AL f.S.L.length p.cL, .slice p.AV f.S.V.length p.cV, .int .i64 f.S.scale, .int .i64 f.S.wide, .slice p.AE f.S.lev.length p.cE, .slice p.AN f.S.neg.length p.cN]] W (OwnE 5 .u8 W.heap.size (wrtV f) (wrtE f) W) by exact F.write f p (hln.more (by decide)) wf W ((rf.below hW).more hW.size)))
    have hwr := wrt_ok wf (show f.S.V.length ≤ 1000 by have := hln.2.1; omega)
    by_cases he : wrtE f = 0
    · obtain ⟨hrd, uS, hSl, hoff⟩ := rd_wrt wf (show f.S.V.length ≤ 1000 by have := hln.2.1; omega) he
      have htl := text_len (n := 500) (hwr.1.1 he) wf hln.2.1
      rw [he] at CW
      obtain ⟨S, hS⟩ : ∃ S, wrtV f = S := ⟨_, rfl⟩
      rw [hS] at CW hrd uS hSl hoff
      obtain ⟨N, hN⟩ : ∃ N, S.length = N := ⟨_, rfl⟩
      rw [hN] at hSl
      have HOFF := hid hoff
      have US := hid uS
      have HN := hid hN
      have HRD := hid hrd
      have hN4 : 4 ≤ N := by omega
      have hN3 : N ≤ 51000 := by omega
      clear hSl hS hoff uS hN hrd htl hwr he hbig hb0 hln rf cp wf
      go_enter Try.func5, Try.ntmps5
      go_wp2_with fail
      refine (CL.out _).mono ?_
      rintro _ w1 ⟨rfl, hb1⟩
      have k1 : Below w.heap.size w w1 := Below.trans (by go_grown) (hb1.mono (by simp))
      have HX := hid ((HBX.out w).below hb1 (by simp))
      clear hb1 CL
      obtain ⟨c0, c1, c2, c3, c4, c5, c6, c7, c8, c9, c10⟩ := HX.out.cells11
      go_wp2_with fail
      refine (CB.out _).mono ?_
      rintro _ w2 ⟨rfl, hb2⟩
      have k2 := k1.trans (hb2.mono k1.size)
      have HX2 := hid (HX.out.below hb2 (HX.out.lt (by simp)))
      clear hb2 c0 c1 c2 c3 c4 c5 c6 c7 c8 c9 c10 HX k1 CB HBX
      obtain ⟨c0, c1, c2, c3, c4, c5, c6, c7, c8, c9, c10⟩ := HX2.out.cells11
      have CW2 := hid (CW.out w2 k2)
      clear CW
      go_wp2_with fail
      refine CW2.out.mono ?_
      rintro _ w3 ⟨A2, d2, rfl, ho3, hb3⟩
      have k3 := k2.trans (hb3.mono k2.size)
      have hcap := own_cap ho3
      rw [HN.out] at hcap
      have HR3 := hid (own_rd ho3)
      rw [HN.out]
      have K3 := hid k3
      clear ho3 hb3 c0 c1 c2 c3 c4 c5 c6 c7 c8 c9 c10 HX2 k2 CW2 k3
      have hNz : ((N : Int) == 0) = false := by simp; omega
      obtain ⟨b, hfe, hfl⟩ := from_lt fr (8 * (N : Int)) (by omega) (by omega)
      have hpl : u < 2 ^ 32 := by omega
      obtain ⟨n, hn⟩ : ∃ n : Nat, b + n = 8 * N := ⟨8 * N - b, by omega⟩
      have hnp : 0 < n := by omega
      have HNF := hid hn
      have hc1 := hcap.1
      have hc2 := hcap.2
      clear hpat hfr hfl hcap
      go_wp2_with fail
      clear hfe hn
      go_loopw [8, 11, 49] (fun s met i wr => ∃ (k : Nat) (T : List Int) (A : Option Addr) (c : Nat), k ≤ 32 ∧ i = .int .i64 k ∧ s = .slice A N c ∧ met = .bool (decide (pk u n k ≠ 0)) ∧ T.length = N ∧ U8s T ∧ off T = hn n (pk u n k) ∧ (pk u n k = 0 → T = S) ∧ N ≤ c ∧ c ≤ 9223372036854775807 ∧ Rd (Value.int .u8) wr wr.heap.size A T ∧ Below w3.heap.size w3 wr) (fun _ _ i _ => 32 - (intOf i).toNat)
      case atStart => exact ⟨0, S, A2, d2, by omega, rfl, rfl, by rw [pk_zero]; rfl, HN.out, US.out, by rw [pk_zero, hn_zero]; exact HOFF.out, fun _ => rfl, hc1, hc2, HR3.out, Below.refl _ _⟩
      case round =>
        obtain ⟨k, T, A, c, hk, rfl, rfl, rfl, hTl, uT, hoff, hzs, hc, hcm, hr, hbr⟩ := hrel
        have HTL := hid hTl
        have UT := hid uT
        have HO := hid hoff
        have HR := hid hr
        have HZS := hid hzs
        clear hTl uT hoff hr hzs
        by_cases hlt : k < 32
        · by_cases h1 : u / 2 ^ k % 2 = 1
          · have e1 := and_bit hpl (k := k) 1 (by rw [h1]; rfl)
            by_cases h2 : k < n
            · have e2 : (b : Int) + (k : Int) < 8 * (N : Int) := by have := HNF.out; omega
              have hpos : (b + k) / 8 < T.length := by have := HNF.out; have := HTL.out; omega
              have hv : trnV T ((b : Int) + (k : Int)) = trn T (b + k) ∧ trnE T ((b : Int) + (k : Int)) = 0 := by
                have hg : ¬ ((b : Int) + (k : Int) < 0 ∨ (T.length : Int) ≤ ((b : Int) + (k : Int)) / 8) := by omega
                unfold trnV trnE
                rw [if_neg hg, if_neg hg]
                exact ⟨by congr 1, rfl⟩
              have CT := hid (crc_Turn (A := A) (c := c) T (by have := HTL.out; omega) UT.out ((b : Int) + (k : Int)) (by unfold I64; omega) wr HR.out)
              rw [hv.1, hv.2, HTL.out] at CT
              have hTT : (trn T (b + k)).length = N := by rw [trn_len]; exact HTL.out
              have uTT := trn_bytes UT.out hpos
              have oTT := burst_step UT.out (by rw [HTL.out]; exact HNF.out) h2 h1 HO.out
              have pTT := pk_pos h2 h1
              obtain ⟨T2, hT2⟩ : ∃ T2, trn T (b + k) = T2 := ⟨_, rfl⟩
              rw [hT2] at CT hTT uTT oTT
              have HL2 := hid hTT
              have U2 := hid uTT
              have O2 := hid oTT
              have P2 := hid pTT
              clear hv hT2 hTT uTT oTT pTT h1 hpos
              go_wp2_with fail
              refine CT.out.mono ?_
              rintro _ w4 ⟨A4, c4, rfl, ho4, hb4⟩
              have hr4 := own_rd ho4
              have hc4 := (own_cap ho4).1
              have hm4 := (own_cap ho4).2
              rw [HL2.out] at hc4 ⊢
              have HR4 := hid hr4
              clear ho4 hr4 e1 e2
              have hb34 := hbr.trans (hb4.mono hbr.size)
              go_wp2_with fail
              go_roundw
              case rel => exact ⟨k + 1, T2, A4, c4, by omega, by go_num, rfl, by rw [decide_eq_true (p := pk u n (k + 1) ≠ 0) P2.out], HL2.out, U2.out, O2.out, fun h => absurd h P2.out, hc4, hm4, HR4.out, hb34⟩
              case measure => simp [intOf]; omega
            · have e2 : ¬ (b : Int) + (k : Int) < 8 * (N : Int) := by have := HNF.out; omega
              have hfb : b ≤ 408000 := by have := HNF.out; omega
              have PE := hid (pk_out (p := u) (n := n) (k := k) (by omega))
              clear h1
              go_wp2_with fail
              go_roundw
              case rel => exact ⟨k + 1, T, A, c, by omega, by go_num, rfl, by rw [PE.out], HTL.out, UT.out, by rw [PE.out]; exact HO.out, fun h => HZS.out (by rw [← PE.out]; exact h), hc, hcm, HR.out, hbr⟩
              case measure => simp [intOf]; omega
          · have e1 := and_bit hpl (k := k) 0 (by rw [show u / 2 ^ k % 2 = 0 by omega]; rfl)
            have PE := hid (pk_skip (n := n) h1)
            clear h1
            go_wp2_with fail
            go_roundw
            case rel => exact ⟨k + 1, T, A, c, by omega, by go_num, rfl, by rw [PE.out], HTL.out, UT.out, by rw [PE.out]; exact HO.out, fun h => HZS.out (by rw [← PE.out]; exact h), hc, hcm, HR.out, hbr⟩
            case measure => simp [intOf]; omega
        · obtain rfl : k = 32 := by omega
          have hT4 : 4 ≤ T.length := by rw [HTL.out]; omega
          have hTe := off_read UT.out hT4 (by rw [HTL.out]; omega) (pk_lt u n 32 (by omega)) HO.out
          have K := hid (K3.out.trans (hbr.mono K3.out.size))
          have CO0 := F.read A c T (by rw [HTL.out]; omega) (by rw [HTL.out]; exact hc) hcm UT.out wr HR.out
          rw [HTL.out] at CO0
          obtain ⟨⟨r, E⟩, hrE⟩ : ∃ r, rdR T = r := ⟨_, rfl⟩
          rw [hrE] at CO0 hTe
          have CO : Hid (Calls Try.prog 26 #[.slice A N c] wr fun e w' => ∃ q : SentP, e = .returned (.tuple #[.agg #[.int .i64 r.knd, .int .i64 r.frm, .int .i64 r.stp, .int .i64 r.S.sch, .int .i64 r.S.dim, .slice q.AL r.S.L.length q.cL, .slice q.AV r.S.V.length q.cV, .int .i64 r.S.scale, .int .i64 r.S.wide, .slice q.AE r.S.lev.length q.cE, .slice q.AN r.S.neg.length q.cN], .int .i64 E]) ∧ Below wr.heap.size wr w') := hid (CO0.mono fun _ _ ⟨q, q1, _, q3⟩ => ⟨q, q1, q3⟩)
          clear CO0
          obtain ⟨v, hv⟩ : ∃ q, pk u n 32 = q := ⟨_, rfl⟩
          rw [hv] at hTe HZS ⊢
          by_cases hq0 : v = 0
          · have hTS := HZS.out hq0
            have hE0 : E = 0 := by
              rw [hTS, HRD.out] at hrE
              simp only [Prod.mk.injEq] at hrE
              exact hrE.2.symm
            subst hE0 hq0
            rw [show decide ((0 : Nat) ≠ 0) = false from rfl]
            clear hTe hTS hrE hv HZS hT4
            go_wp2_with fail
            refine CO.out.mono ?_
            rintro _ w4 ⟨q, rfl, hb4⟩
            have k4 := K.out.trans (hb4.mono K.out.size)
            clear hb4
            go_wp2_with fail
            go_ret
            exact ⟨rfl, k4.alloc k4.size _⟩
          · have hE7 : E = 7 := hTe hq0
            subst hE7
            rw [show decide (v ≠ 0) = true from decide_eq_true hq0]
            clear hTe hq0 hrE hv HZS hT4
            go_wp2_with fail
            refine CO.out.mono ?_
            rintro _ w4 ⟨q, rfl, hb4⟩
            have k4 := K.out.trans (hb4.mono K.out.size)
            clear hb4
            go_wp2_with fail
            go_ret
            exact ⟨rfl, k4.alloc k4.size _⟩
    · have hV : wrtV f = [] := by
        unfold wrtV
        rw [if_neg (fun h => he (hwr.1.2 h))]
      have he1 : wrtE f = 1 := by rcases hwr.2 with h | h; exact absurd h he; exact h
      rw [hV, he1] at CW
      clear hV he1 he hwr rf wf cp hbig hb0 hln
      go_enter Try.func5, Try.ntmps5
      go_wp2_with fail
      refine (CL.out _).mono ?_
      rintro _ w1 ⟨rfl, hb1⟩
      have k1 : Below w.heap.size w w1 := Below.trans (by go_grown) (hb1.mono (by simp))
      have HX := hid ((HBX.out w).below hb1 (by simp))
      clear hb1 CL
      obtain ⟨c0, c1, c2, c3, c4, c5, c6, c7, c8, c9, c10⟩ := HX.out.cells11
      go_wp2_with fail
      refine (CB.out _).mono ?_
      rintro _ w2 ⟨rfl, hb2⟩
      have k2 := k1.trans (hb2.mono k1.size)
      have HX2 := hid (HX.out.below hb2 (HX.out.lt (by simp)))
      clear hb2 c0 c1 c2 c3 c4 c5 c6 c7 c8 c9 c10 HX k1 CB HBX
      obtain ⟨c0, c1, c2, c3, c4, c5, c6, c7, c8, c9, c10⟩ := HX2.out.cells11
      have CW2 := hid (CW.out w2 k2)
      clear CW
      go_wp2_with fail
      refine CW2.out.mono ?_
      rintro _ w3 ⟨A2, d2, rfl, ho3, hb3⟩
      clear ho3
      go_wp2_with fail
      go_ret
      exact ⟨rfl, k2.trans (hb3.mono k2.size)⟩
theorem law_types : ∀ t ∈ Try.f5.params.toList, Try.prog.readableRec t = true ∧ t < Try.prog.types.size := by
  have h : (Try.f5.params.toList.all fun t => Try.prog.readableRec t && decide (t < Try.prog.types.size)) = true := by kernel_rfl
  intro t ht
  simpa using List.all_eq_true.1 h t ht
set_option maxRecDepth 100000 in
theorem lifted (os : Os) (started : os.Started) (H : Type) (enc : TypeId × Value → H) :
    ReturnsInHanded {} Try.checked os 5 .any (Rows.frameTurnedSpec.pre6 enc Try.prog Try.f5 Rows.frameTurnedRow.domain false) (Rows.frameTurnedSpec.post enc Try.prog Try.f5 false true false false) := by
  refine returnsInHanded_of_change (C := Try.checked) own started (by kernel_rfl) Try.func5
    (ChangeSpec.witness6 (enc := enc) (C := Try.checked) false ⟨#[], #[.agg #[.int .i64 0, .int .i64 0, .int .i64 0, .int .i64 0, .int .i64 0, .slice none 0 0, .slice none 0 0, .int .i64 0, .int .i64 0, .slice none 0 0, .slice none 0 0], .int .i64 0, .int .u32 0], []⟩ 8 (by kernel_rfl) (by kernel_rfl) (by kernel_rfl) (by kernel_rfl)) ?_
  intro W base args ds gs before hval0 hW hcnd _
  have hval : ∀ (j : Nat) t v, Try.f5.params[j]? = some t → args[j]? = some v → Value.okWide Try.prog W .any base t v := hval0
  have hW' := hW
  obtain ⟨p, q, hA0, hV, rfl, hfz, hnd⟩ := hW
  have hA : DataW.TrodAll enc Try.prog W 0 (fun _ => true) true Try.f5.params.toList args.toList ds p := hA0
  rw [Try.params5] at hA hval
  obtain ⟨v0, vs0, d0, ds0, p0, q0, hargs, rfl, rfl, h0, r0⟩ := trodAll_cons hA
  obtain ⟨v1, vs1, d1, ds1, p1, q1, rfl, rfl, rfl, h1, r1⟩ := trodAll_cons r0
  obtain ⟨v2, vs2, d2, ds2, p2, q2, rfl, rfl, rfl, h2, r2⟩ := trodAll_cons r1
  obtain ⟨rfl, rfl, rfl⟩ := trodAll_nil r2
  obtain rfl : args = #[v0, v1, v2] := by cases args; simp_all
  obtain ⟨rfl, rfl⟩ := trodVars_none hV
  obtain ⟨f, pf, rfl, rdf, wff, cpf⟩ := open_frame (hval 0 29 v0 rfl rfl) h0
  obtain ⟨fr, rfl, rfl, rfl, w1⟩ := open_int Try.underlying3 (hval 1 3 v1 rfl rfl) h1
  obtain ⟨pat, rfl, rfl, rfl, w2⟩ := open_int Try.underlying46 (hval 2 46 v2 rfl rfl) h2
  clear hA0 hval0
  refine (walk frOk f pf fr pat W rdf wff cpf (I64.of_wf w1) (U32.of_wf w2)).mono fun e W' ⟨he, hb⟩ => ?_
  subst he
  exact ⟨_, rfl, law_post laid (fun t ht => law_types t ht) rfl hW' ⟨rfl, rfl, rfl⟩ (by kernel_rfl) Try.underlying4 hb⟩

theorem over : Rows.frameTurnedRow.holds Try.pinned (OpenSpec.ofChange Rows.frameTurnedSpec) :=
  OpenClaim.holds_of_wide 5 Try.f5 rfl rfl rfl rfl rfl rfl rfl ⟨rfl, rfl, rfl, rfl, rfl⟩ rfl rfl rfl rfl rfl (by kernel_rfl) Try.func5 (by kernel_rfl)
    (of_decide_eq_true (by kernel_rfl)) (by unfold Func.isWrapper; first | (rw [if_pos (by decide +kernel)]; kernel_rfl) | (rw [if_neg (by decide +kernel)]; exact ⟨rfl, rfl⟩))
    (fun os started H enc _ => lifted os started H enc)

theorem proved : Rows.FrameTurnedSaid := over
end Go.Proofs.Ytooipmcpbkbemaa.FrameTurned
