
/-
  LebBack answers true for every input. No condition.
-/
import Derived.Deep.RegionHeld3
import Derived.Test.YtaknlgkhjmffoaaLebLv
import Derived.Test.YtaknlgkhjmffoaaLaw
namespace Go.Proofs.Ytaknlgkhjmffoaa.LebBack
open Go.ChangeShapes Go.WideShapes Go.ChangeAt Go.RowKit
set_option maxHeartbeats 400000
set_option linter.unusedVariables false
open Go.Proofs.Ytaknlgkhjmffoaa
theorem parts_at {l : List Int} {k : Nat} {x : Int} (h : l[k]? = some x) : encs l = encs (l.take k) ++ (lebI x ++ encs (l.drop (k + 1))) := by
  have e := List.take_append_drop k l
  rw [drop_at h] at e
  conv => lhs; rw [← e]
  rw [encs_app, encs_cons]
theorem got_at {ahead behind l B : List Int} (ul : U64s l) (hB : (ahead ++ encs l) ++ behind = B) (k : Nat) (x : Int) (h : l[k]? = some x) (T : Nat) (hT : T = (ahead ++ encs (l.take k)).length) :
    getN B (T : Int) = x ∧ getE B (T : Int) = 0 ∧ getA B (T : Int) = (T : Int) + ((lebI x).length : Int) := by
  subst hT
  refine get_at (ul.at_ h) (ahead ++ encs (l.take k)) (encs (l.drop (k + 1)) ++ behind) ?_
  rw [← hB, parts_at h]
  simp
theorem took_at {ahead behind s B : List Int} (us : I64s s) (hB : (ahead ++ encs (s.map zigI)) ++ behind = B) (k : Nat) (x : Int) (h : s[k]? = some x) (T : Nat) (hT : T = (ahead ++ encs ((s.take k).map zigI)).length) :
    takN B (T : Int) = x ∧ getE B (T : Int) = 0 ∧ getA B (T : Int) = (T : Int) + ((lebI (zigI x)).length : Int) := by
  have hz : (s.map zigI)[k]? = some (zigI x) := by rw [List.getElem?_map, h]; rfl
  obtain ⟨e1, e2, e3⟩ := got_at (zigs_u64 us) hB k (zigI x) hz T (by rw [← List.map_take]; exact hT)
  refine ⟨?_, e2, e3⟩
  unfold takN
  rw [if_pos e2, e1, zag_zig]
set_option maxHeartbeats 2000000 in
set_option maxRecDepth 100000 in
theorem walk (Aa : Option Addr) (a : List Int) (ca : Nat) (Ab : Option Addr) (b : List Int) (cb : Nat) (Al : Option Addr) (l : List Int) (cl : Nat) (As : Option Addr) (s : List Int) (cs : Nat) (w : World)
    (ra : Rd (Value.int .u8) w w.heap.size Aa a) (ua : U8s a) (la : a.length ≤ ca) (ma : ca ≤ 9223372036854775807) (rb : Rd (Value.int .u8) w w.heap.size Ab b) (ub : U8s b) (lb : b.length ≤ cb) (mb : cb ≤ 9223372036854775807)
    (rl : Rd (Value.int .u64) w w.heap.size Al l) (ul : U64s l) (ll : l.length ≤ cl) (ml : cl ≤ 9223372036854775807) (rs : Rd (Value.int .i64) w w.heap.size As s) (us : I64s s) (ls : s.length ≤ cs) (ms : cs ≤ 9223372036854775807) :
    Calls Try.prog 5 #[.slice Aa a.length ca, .slice Ab b.length cb, .slice Al l.length cl, .slice As s.length cs] w fun e w' => e = .returned (.bool true) ∧ Below w.heap.size w w' := by
  have RA := hid ra
  have RB := hid rb
  have RL := hid rl
  have RS := hid rs
  clear ra rb rl rs
  by_cases hfa : a.length ≤ 2000 ∧ (l.length : Int) ≤ 500
  · have CF1 := hid (few_yes Aa a.length ca l.length hfa.1 hfa.2)
    by_cases hfb : b.length ≤ 2000 ∧ (s.length : Int) ≤ 500
    · have CF2 := hid (few_yes Ab b.length cb s.length hfb.1 hfb.2)
      have ha2 : a.length ≤ 2000 := hfa.1
      have hb2 : b.length ≤ 2000 := hfb.1
      have hl5 : l.length ≤ 500 := by omega
      have hs5 : s.length ≤ 500 := by omega
      have C1 := hid (fun W h1 h2 => leb_Put (A := Aa) (B := Al) (c := ca) (d := cl) a l (by omega) (by omega) ul W h1 h2)
      have C2 := hid (fun W h1 h2 => leb_Signed (A := Aa) (B := As) (c := ca) (d := cs) a s (by omega) (by omega) us W h1 h2)
      have uX := ua.app (encs_u8 ul)
      have uX2 := ua.app (encs_u8 (zigs_u64 us))
      have hXl : (a ++ encs l).length ≤ 7000 := by rw [List.length_append]; have := encs_len ul; omega
      have hX2l : (a ++ encs (s.map zigI)).length ≤ 7000 := by rw [List.length_append]; have := encs_len (zigs_u64 us); rw [List.length_map] at this; omega
      have uB := uX.app ub
      have uC := uX2.app ub
      have HG := hid (fun B (h : (a ++ encs l) ++ b = B) => got_at ul h)
      have HT := hid (fun B (h : (a ++ encs (s.map zigI)) ++ b = B) => took_at us h)
      have HGL : Hid (∀ k x, l[k]? = some x → (a ++ encs (l.take (k + 1))).length = (a ++ encs (l.take k)).length + (lebI x).length) := fun k x h => by rw [encs_step h]; simp; omega
      have HTL : Hid (∀ k x, s[k]? = some x → (a ++ encs ((s.take (k + 1)).map zigI)).length = (a ++ encs ((s.take k).map zigI)).length + (lebI (zigI x)).length) := fun k x h => by rw [encs_zig_step h]; simp; omega
      have HGB : Hid (∀ k, (a ++ encs (l.take k)).length ≤ 7000) := fun k => by have := encs_take ul k; rw [List.length_append]; omega
      have HTB : Hid (∀ k, (a ++ encs ((s.take k).map zigI)).length ≤ 7000) := fun k => by
        have := encs_take (zigs_u64 us) k
        rw [List.length_map, ← List.map_take] at this
        rw [List.length_append]; omega
      have HM := hid (fun B (h : B = a ++ (encs l ++ b)) => mny_put (b := B) (behind := b) l a [] ul h)
      obtain ⟨X, hX⟩ : ∃ X, a ++ encs l = X := ⟨_, rfl⟩
      obtain ⟨X2, hX2⟩ : ∃ X, a ++ encs (s.map zigI) = X := ⟨_, rfl⟩
      rw [hX] at C1 hXl uB HG HM
      rw [hX2] at C2 hX2l uC HT
      have HXE : Hid ((a ++ encs (l.take l.length)).length = X.length) := by rw [List.take_length, hX]; exact hid rfl
      have HX2E : Hid ((a ++ encs ((s.take s.length).map zigI)).length = X2.length) := by rw [List.take_length, hX2]; exact hid rfl
      have HXX := hid hX
      clear hX hX2
      obtain ⟨B, hB⟩ : ∃ B, X ++ b = B := ⟨_, rfl⟩
      obtain ⟨D, hD⟩ : ∃ D, X2 ++ b = D := ⟨_, rfl⟩
      rw [hB] at uB
      rw [hD] at uC
      have HG2 := hid (HG.out B hB)
      have HT2 := hid (HT.out D hD)
      have HM2 := HM.out B (by rw [← hB, ← HXX.out, List.append_assoc])
      have hBl : (B.length : Int) = (X.length : Int) + (b.length : Int) := by rw [← hB, List.length_append]; omega
      have hDl : (D.length : Int) = (X2.length : Int) + (b.length : Int) := by rw [← hD, List.length_append]; omega
      have hB9 : B.length ≤ 9000 := by omega
      have hD9 : D.length ≤ 9000 := by omega
      have HBX := hid hB
      have HDX := hid hD
      have e1 : ((X.length : Int) != (B.length : Int) - (b.length : Int)) = false := by rw [hBl]; simp
      have e2 : ((X2.length : Int) == (D.length : Int) - (b.length : Int)) = true := by rw [hDl]; simp
      have hm : mnyV B (l.length : Int) (a.length : Int) = (l, (X.length : Int), 0) := by
        unfold mnyV
        rw [if_neg (by omega), show (l.length : Int).toNat = l.length by omega, HM2]
        simp
      have C3 := hid (fun A c W q1 q2 h => leb_Many (A := A) (c := c) B q1 q2 uB (a.length : Int) (l.length : Int) (by unfold I64; omega) (by omega) (by omega) W h)
      rw [hm] at C3
      have hll : l.length ≤ 9223372036854775807 := by omega
      have CSN : Hid (∀ (A B : Option Addr) (c d : Nat) (W : World), Rd (Value.int .u64) W W.heap.size A l → Rd (Value.int .u64) W W.heap.size B l → Calls Try.prog 28 #[.slice A l.length c, .slice B l.length d] W fun e w' => e = .returned (.bool true) ∧ Below W.heap.size W w') := hid (fun A B c d W h1 h2 => by
        have := ref_SameNumbers (A := A) (B := B) (c := c) (d := d) l l hll hll W h1 h2
        rwa [eqB_self] at this)
      have UB := hid uB
      have UC := hid uC
      have UL := hid ul
      have US := hid us
      have UBB := hid ub
      clear uX uX2 uB uC ul us ua ub hBl hDl hB hD hm HM HM2 HG HT hfa hfb
      go_enter Try.func5, Try.ntmps5
      go_wp2_with fail
      refine (live_yes _).mono ?_
      rintro _ w1 ⟨rfl, k1⟩
      go_wp2_with fail
      refine (CF1.out _).mono ?_
      rintro _ _ ⟨rfl, rfl⟩
      go_wp2_with fail
      refine (CF2.out _).mono ?_
      rintro _ _ ⟨rfl, rfl⟩
      go_wp2_with fail
      refine (C1.out w1 (RA.out.on k1) (RL.out.on k1)).mono ?_
      rintro _ w2 ⟨A2, c2, rfl, ho2, hb2⟩
      have k2 := k1.trans (hb2.mono k1.size)
      have H2 := hid ho2
      clear ho2
      go_wp2_with (at_builtin; refine wpList_app (Value.int .u8) (fun _ => rfl) _ rfl _ _ 22 rfl w1.heap.size 5 (.int .u8 0) 1 Try.underlying22 info_u8 rfl X _ _ rfl H2.out b _ cb _ rfl (RB.out.on k2) (by unfold maxLen; omega) (by omega) hb2.size ?_)
      rintro S A3 c3 w3 hS ho3 hb3 _
      have e3 := (hS.trans HBX.out).symm
      clear hS
      subst e3
      have hb13 := hb2.trans hb3
      have k3 := k1.trans (hb13.mono k1.size)
      obtain ⟨q1, q2⟩ := own_cap ho3
      have HB3 := hid (own_rd ho3)
      clear ho3 hb3 hb13 hb2 k2 k1 H2
      go_wp2_with fail
      refine (C3.out _ _ w3 q1 q2 HB3.out).mono ?_
      rintro _ w4 ⟨A4, c4, rfl, ho4, hb4⟩
      simp only at ho4 ⊢
      have HL4 := hid (own_rd ho4)
      have HB4 := hid (HB3.out.on hb4)
      have k4 := k3.trans (hb4.mono k3.size)
      clear ho4 hb4 k3 HB3
      go_wp2_with fail
      refine (CSN.out _ _ _ _ w4 HL4.out (RL.out.on k4)).mono ?_
      rintro _ w5 ⟨rfl, hb5⟩
      have HB5 := hid (HB4.out.on hb5)
      have k5 := k4.trans (hb5.mono k4.size)
      clear hb5 k4 HB4 HL4
      have HL5 := hid (RL.out.on k5)
      go_wp2_with fail
      clear e1
      go_loop [14, 81] (fun p i => ∃ (k T : Nat), k ≤ l.length ∧ i = .int .i64 k ∧ p = .int .i64 T ∧ T = (a ++ encs (l.take k)).length) (fun _ i => l.length - (intOf i).toNat)
      case atStart => exact ⟨0, a.length, by omega, rfl, rfl, by simp [encs]⟩
      case round =>
        obtain ⟨k, T, hk, rfl, rfl, hT⟩ := hrel
        have hTb : T ≤ 7000 := by rw [hT]; exact HGB.out k
        have HTT := hid hT
        clear hT
        by_cases hlt : k < l.length
        · obtain ⟨b1, o1, x, rfl, l1, ex, c1⟩ := HL5.out.at_ hlt
          have CG := hid (leb_Get (A := A3) (c := c3) B q1 q2 UB.out (T : Int) (by unfold I64; omega) w5 HB5.out)
          obtain ⟨g1, g2, g3⟩ := HG2.out k x ex T HTT.out
          rw [g1, g2, g3] at CG
          have CZ := hid (leb_Size x (UL.out.at_ ex))
          have hz := lebI_ten (UL.out.at_ ex)
          have HGK := HGL.out k x ex
          obtain ⟨z, hzz⟩ : ∃ z, (lebI x).length = z := ⟨_, rfl⟩
          rw [hzz] at CG CZ hz HGK
          have HG3 := hid HGK
          clear g1 g2 g3 hzz HGK ex
          go_wp2_with fail
          refine CG.out.mono ?_
          rintro _ _ ⟨rfl, rfl⟩
          go_wp2_with fail
          refine (CZ.out _).mono ?_
          rintro _ _ ⟨rfl, rfl⟩
          go_wp2_with fail
          go_round
          case rel => exact ⟨k + 1, T + z, by omega, by go_num, by go_num, by rw [HG3.out, HTT.out]⟩
          case measure => simp [intOf]; omega
        · clear HTT HL5 HG2 HGL HGB HXE
          go_wp2_with fail
          refine (C2.out w5 (RA.out.on k5) (RS.out.on k5)).mono ?_
          rintro _ w6 ⟨A6, c6, rfl, ho6, hb6⟩
          have k6 := k5.trans (hb6.mono k5.size)
          have H6 := hid ho6
          clear ho6
          go_wp2_with (at_builtin; refine wpList_app (Value.int .u8) (fun _ => rfl) _ rfl _ _ 22 rfl w5.heap.size 5 (.int .u8 0) 1 Try.underlying22 info_u8 rfl X2 _ _ rfl H6.out b _ cb _ rfl (RB.out.on k6) (by unfold maxLen; omega) (by omega) hb6.size ?_)
          rintro S A7 c7 w7 hS ho7 hb7 _
          have e7 := (hS.trans HDX.out).symm
          clear hS
          subst e7
          have hb57 := hb6.trans hb7
          have k7 := k5.trans (hb57.mono k5.size)
          obtain ⟨q3, q4⟩ := own_cap ho7
          have HD7 := hid (own_rd ho7)
          have HS7 := hid (RS.out.on k7)
          clear ho7 hb7 hb57 hb6 k6 H6 k5
          go_wp2_with fail
          go_loop [14, 118] (fun p i => ∃ (k T : Nat), k ≤ s.length ∧ i = .int .i64 k ∧ p = .int .i64 T ∧ T = (a ++ encs ((s.take k).map zigI)).length) (fun _ i => s.length - (intOf i).toNat)
          case atStart => exact ⟨0, a.length, by omega, rfl, rfl, by simp [encs]⟩
          case round =>
            obtain ⟨k, T, hk, rfl, rfl, hT⟩ := hrel
            have hTb : T ≤ 7000 := by rw [hT]; exact HTB.out k
            have HTT := hid hT
            clear hT
            by_cases hlt : k < s.length
            · obtain ⟨b1, o1, x, rfl, l1, ex, c1⟩ := HS7.out.at_ hlt
              have CG := hid (leb_Take (A := A7) (c := c7) D q3 q4 UC.out (T : Int) (by unfold I64; omega) w7 HD7.out)
              obtain ⟨g1, g2, g3⟩ := HT2.out k x ex T HTT.out
              rw [g1, g2, g3] at CG
              have hz := lebI_ten (zig_u64 (US.out.at_ ex))
              have HGK := HTL.out k x ex
              obtain ⟨z, hzz⟩ : ∃ z, (lebI (zigI x)).length = z := ⟨_, rfl⟩
              rw [hzz] at CG hz HGK
              have HG3 := hid HGK
              clear g1 g2 g3 hzz HGK ex
              go_wp2_with fail
              refine CG.out.mono ?_
              rintro _ _ ⟨rfl, rfl⟩
              go_wp2_with fail
              go_round
              case rel => exact ⟨k + 1, T + z, by omega, by go_num, by go_num, by rw [HG3.out, HTT.out]⟩
              case measure => simp [intOf]; omega
            · have hTX : T = X2.length := by
                have hk2 : k = s.length := by omega
                rw [HTT.out, hk2]; exact HX2E.out
              subst hTX
              clear HTT HS7 HT2 HTL HTB HX2E HD7
              have CG := hid (leb_Get (A := Ab) (c := cb) b lb mb UBB.out 0 (by decide) w7 (RB.out.on k7))
              have HOK := hid (fun h => get_ok (b := b) (a := 0) UBB.out h)
              obtain ⟨N, hN⟩ : ∃ N, getN b 0 = N := ⟨_, rfl⟩
              obtain ⟨E, hE⟩ : ∃ N, getE b 0 = N := ⟨_, rfl⟩
              obtain ⟨Y, hY⟩ : ∃ N, getA b 0 = N := ⟨_, rfl⟩
              rw [hN, hE, hY] at CG HOK
              clear hN hE hY
              by_cases hE : E = 0
              · obtain ⟨_, hNu, j, hj, hYj, hlb⟩ := HOK.out hE
                subst hE
                rw [Int.toNat_zero, Nat.zero_add] at hj hYj
                rw [Int.toNat_zero, List.drop_zero] at hlb
                subst hYj
                clear HOK
                obtain ⟨R, hR⟩ : ∃ R, lebI N = R := ⟨_, rfl⟩
                have hR10 := lebI_ten hNu
                rw [hR] at hlb hR10
                have hjl : j = R.length := by rw [← hlb, List.length_take]; omega
                subst hjl
                have uR : U8s R := by rw [← hR]; exact lebI_u8 N hNu.1
                have HLB := hid hlb
                have CP : Hid (∀ g W, W.cell? ⟨g, 0, none⟩ = some (.int .u64 N) → Calls Try.prog 11 #[.slice none 0 0, .slice (some ⟨g, 0, none⟩) 1 1] W (OwnOf 5 .u8 W.heap.size R W)) := hid (fun g W h => by
                  have h := leb_Put (A := none) (B := some ⟨g, 0, none⟩) (c := 0) (d := 1) [] [N] (by decide) (by simp) (by intro x hx; simp at hx; subst hx; exact hNu) W Rd.none_ (rd_one h)
                  rw [List.nil_append, encs_one, hR] at h
                  exact h)
                have hsl := fun W => run_upto (P := Try.prog) 22 Try.underlying22 Try.sizeOf5 Ab b.length cb R.length (by omega) W
                have hrs := (RB.out.on k7).cut0 lb R.length
                rw [hlb] at hrs
                obtain ⟨A8, hA8⟩ : ∃ A8, cutA Ab 0 cb = A8 := ⟨_, rfl⟩
                rw [hA8] at hsl hrs
                have HR8 := hid hrs
                have CM : Hid (∀ A c W L M, Rd (Value.int .u8) W L A R → Rd (Value.int .u8) W M A8 R → Calls Try.prog 13 #[.slice A R.length c, .slice A8 R.length cb] W fun e w' => e = .returned (.bool true) ∧ W = w') := hid (fun A c W L M h1 h2 => by
                  have := ref_Same (A := A) (B := A8) (c := c) (d := cb) R R uR uR W h1 h2
                  rwa [eqB_self] at this)
                have t1 : decide ((R.length : Int) < 0) = false := by simp
                have t2 : decide ((b.length : Int) < (R.length : Int)) = false := by simp; omega
                have t3 : decide (b.length < R.length) = false := by simp; omega
                clear hR hNu hlb hA8 hrs uR
                go_wp2_with fail
                refine CG.out.mono ?_
                rintro _ _ ⟨rfl, rfl⟩
                go_wp2_with fail
                clear HB5 CG C1 C2 C3 CF1 CF2 CSN UB UC UL US UBB RL RS RA HXX HBX HDX
                go_region_held3 (fun w' => Below w7.heap.size w7 w') (first | exact ((Below.refl _ _).drew) | exact ((Below.refl _ _).drew.alloc (Nat.le_refl _) _) | exact (below_step (by go_grown) hb8 (Nat.le_refl _)) | go_keep) (first | (go_at_call 11; go_loud (refine (CP.out _ _ (by simp [go_sem])).mono ?_); rintro _ w8 ⟨A9, c9, rfl, ho8, hb8⟩) | (go_at_call 13; go_loud (refine (CM.out _ _ _ _ _ (own_rd ho8) (HR8.out.below (below_step (by go_grown) hb8 (Nat.le_refl _)))).mono ?_); rintro _ _ ⟨rfl, rfl⟩))
                have hb78 : Below w7.heap.size w7 w8 := below_step (by go_grown) hb8 (Nat.le_refl _)
                clear ho8 hb8
                go_wp2_with fail
                go_ret
                exact ⟨rfl, k7.trans (hb78.mono k7.size)⟩
              · have hE' : (E == 0) = false := by simpa using hE
                clear HOK hE
                go_wp2_with fail
                refine CG.out.mono ?_
                rintro _ _ ⟨rfl, rfl⟩
                go_wp2_with fail
                go_quiet (fail)
                go_wp2_with fail
                go_ret
                exact ⟨rfl, k7.trans (belowN _ _ _)⟩
    · have CF2 := hid (few_no Ab b.length cb s.length (by omega) hfb)
      clear ua ub ul us
      go_enter Try.func5, Try.ntmps5
      go_wp2_with fail
      refine (live_yes _).mono ?_
      rintro _ w1 ⟨rfl, k1⟩
      go_wp2_with fail
      refine (CF1.out _).mono ?_
      rintro _ _ ⟨rfl, rfl⟩
      go_wp2_with fail
      refine (CF2.out _).mono ?_
      rintro _ _ ⟨rfl, rfl⟩
      go_wp2_with fail
      go_ret
      exact ⟨rfl, k1⟩
  · have CF1 := hid (few_no Aa a.length ca l.length (by omega) hfa)
    clear ua ub ul us
    go_enter Try.func5, Try.ntmps5
    go_wp2_with fail
    refine (live_yes _).mono ?_
    rintro _ w1 ⟨rfl, k1⟩
    go_wp2_with fail
    refine (CF1.out _).mono ?_
    rintro _ _ ⟨rfl, rfl⟩
    go_wp2_with fail
    go_ret
    exact ⟨rfl, k1⟩
theorem law_types : ∀ t ∈ Try.f5.params.toList, Try.prog.readableRec t = true ∧ t < Try.prog.types.size := by
  have h : (Try.f5.params.toList.all fun t => Try.prog.readableRec t && decide (t < Try.prog.types.size)) = true := by kernel_rfl
  intro t ht
  simpa using List.all_eq_true.1 h t ht
set_option maxRecDepth 100000 in
theorem lifted (os : Os) (started : os.Started) (H : Type) (enc : TypeId × Value → H) :
    ReturnsInHanded {} Try.checked os 5 .any (Rows.lebBackSpec.pre6 enc Try.prog Try.f5 Rows.lebBackRow.domain false) (Rows.lebBackSpec.post enc Try.prog Try.f5 false true false false) := by
  refine returnsInHanded_of_change (C := Try.checked) own started (by kernel_rfl) Try.func5
    (ChangeSpec.witness6 (enc := enc) (C := Try.checked) false ⟨#[], #[.slice none 0 0, .slice none 0 0, .slice none 0 0, .slice none 0 0], []⟩ 8 (by kernel_rfl) (by kernel_rfl) (by kernel_rfl) (by kernel_rfl)) ?_
  intro W base args ds gs before hval0 hW hcnd _
  have hval : ∀ (j : Nat) t v, Try.f5.params[j]? = some t → args[j]? = some v → Value.okWide Try.prog W .any base t v := hval0
  have hW' := hW
  obtain ⟨p, q, hA0, hV, rfl, hfz, hnd⟩ := hW
  have hA : DataW.TrodAll enc Try.prog W 0 (fun _ => true) true Try.f5.params.toList args.toList ds p := hA0
  rw [Try.params5] at hA hval
  obtain ⟨v0, vs0, d0, ds0, p0, q0, hargs, rfl, rfl, h0, r0⟩ := trodAll_cons hA
  obtain ⟨v1, vs1, d1, ds1, p1, q1, rfl, rfl, rfl, h1, r1⟩ := trodAll_cons r0
  obtain ⟨v2, vs2, d2, ds2, p2, q2, rfl, rfl, rfl, h2, r2⟩ := trodAll_cons r1
  obtain ⟨v3, vs3, d3, ds3, p3, q3, rfl, rfl, rfl, h3, r3⟩ := trodAll_cons r2
  obtain ⟨rfl, rfl, rfl⟩ := trodAll_nil r3
  obtain rfl : args = #[v0, v1, v2, v3] := by cases args; simp_all
  obtain ⟨rfl, rfl⟩ := trodVars_none hV
  obtain ⟨Aa, a, ca, rfl, rda, ia, lca, lma⟩ := open_nums Try.underlying22 Try.underlying5 cells_u8 (hval 0 22 v0 rfl rfl) h0
  obtain ⟨Ab, b, cb, rfl, rdb, ib, lcb, lmb⟩ := open_nums Try.underlying22 Try.underlying5 cells_u8 (hval 1 22 v1 rfl rfl) h1
  obtain ⟨Al, l, cl, rfl, rdl, il, lcl, lml⟩ := open_nums Try.underlying23 Try.underlying25 cells_u64 (hval 2 23 v2 rfl rfl) h2
  obtain ⟨As, s, cs, rfl, rds, is, lcs, lms⟩ := open_nums Try.underlying24 Try.underlying2 cells_i64' (hval 3 24 v3 rfl rfl) h3
  clear hA0 hval0
  refine (walk Aa a ca Ab b cb Al l cl As s cs W rda (fun x hx => bounds_u8 (ia x hx)) lca lma rdb (fun x hx => bounds_u8 (ib x hx)) lcb lmb rdl (fun x hx => U64.of_wf (il x hx)) lcl lml rds (fun x hx => I64.of_wf (is x hx)) lcs lms).mono fun e W' ⟨he, hb⟩ => ?_
  subst he
  exact ⟨_, rfl, law_post laid (fun t ht => law_types t ht) rfl hW' ⟨rfl, rfl, rfl⟩ (by kernel_rfl) Try.underlying4 hb⟩

theorem over : Rows.lebBackRow.holds Try.pinned (OpenSpec.ofChange Rows.lebBackSpec) :=
  OpenClaim.holds_of_wide 5 Try.f5 rfl rfl rfl rfl rfl rfl rfl ⟨rfl, rfl, rfl, rfl, rfl⟩ rfl rfl rfl rfl rfl (by kernel_rfl) Try.func5 (by kernel_rfl)
    (of_decide_eq_true (by kernel_rfl)) (by unfold Func.isWrapper; first | (rw [if_pos (by decide +kernel)]; kernel_rfl) | (rw [if_neg (by decide +kernel)]; exact ⟨rfl, rfl⟩))
    (fun os started H enc _ => lifted os started H enc)

theorem proved : Rows.LebBackSaid := over
end Go.Proofs.Ytaknlgkhjmffoaa.LebBack
