
/-
  MlpBends answers true for every input. No condition.
-/
import Derived.Test.YtekpejemfkjhcaaUf
import Derived.Test.YtekpejemfkjhcaaUc
import Derived.Test.YtekpejemfkjhcaaUb
import Derived.Test.YtekpejemfkjhcaaUa
namespace Go.Proofs.Ytekpejemfkjhcaa.MlpBends
open Go.ChangeShapes Go.WideShapes Go.ChangeAt Go.RowKit
set_option maxHeartbeats 400000
set_option linter.unusedVariables false
open Go.Proofs.Ytekpejemfkjhcaa
theorem bends_next {v : List Int} {w : World} {base c k : Nat} {A : Option Addr} (h : w.ownsRow base 2 1 (.slice A v.length c) v.length (v.map (Value.int .i64))) (hk : k < v.length) :
    ∃ g x, A = some ⟨g, 0, none⟩ ∧ base ≤ g ∧ w.cell? ⟨g, k, none⟩ = some (.int .i64 x) ∧ w.frozen? ⟨g, k, none⟩ = false ∧
      ∀ y, (w.setCell ⟨g, k, none⟩ (.int .i64 y)).ownsRow base 2 1 (.slice A (v.set k y).length c) (v.set k y).length ((v.set k y).map (Value.int .i64)) := by
  obtain ⟨g, rfl, hg, hc, hf⟩ := own_cellk h hk
  refine ⟨g, _, rfl, hg, hc, hf, fun y => ?_⟩
  have := (h.stored k (.int .i64 y)).1
  rw [← List.map_set] at this
  rw [List.length_set]
  exact this
theorem bends_int {W : World} {base n k : Nat} {G : Option Nat} {A : Option Addr} (h : IntX W base G A n) (hk : k < n) :
    ∃ b o x, A = some ⟨b, o, none⟩ ∧ base ≤ b ∧ W.cell? ⟨b, o + k, none⟩ = some (.int .i64 x) ∧ W.frozen? ⟨b, o + k, none⟩ = false ∧ G ≠ some b := by
  obtain ⟨b, o, x, e, h1, h2, h3, h4⟩ := h k hk
  exact ⟨b, o, x, e, h1, h3, h4, h2⟩
set_option maxHeartbeats 4000000 in
set_option maxRecDepth 100000 in
theorem walk (n o : Int) (Au : Option Addr) (u : List Int) (cu : Nat) (f : Int) (Al : Option Addr) (l : List SmpV) (cl : Nat) (w : World) (hn : I64 n) (ho : I64 o)
    (ru : Rd (Value.int .i64) w w.heap.size Au u) (iu : I64s u) (lcu : u.length ≤ cu) (lmu : cu ≤ 9223372036854775807) (hf : I64 f)
    (rl : RdSm w w.heap.size Al l) (il : ∀ s ∈ l, I64s s.X ∧ I64 s.Y ∧ s.X.length ≤ 9223372036854775807) (lcl : l.length ≤ cl) (lml : cl ≤ 9223372036854775807) :
    Calls Try.prog 4 #[.int .i64 n, .int .i64 o, .slice Au u.length cu, .int .i64 f, .slice Al l.length cl] w fun e w' => e = .returned (.bool true) ∧ Below w.heap.size w w' := by
  have hul : u.length ≤ 9223372036854775807 := by omega
  have hll : l.length ≤ 9223372036854775807 := by omega
  have C0 := hid (fun W h => ref_Few14 (Aw := Au) (A := Al) (cw := cu) (c := cl) u.length hul l hll W h)
  have C1 := hid (fun W h1 h2 => ml_Grad (Aw := Au) (A := Al) (cw := cu) (c := cl) o ho u lcu lmu iu f l hll il W h1 h2)
  have C2 := hid (fun W h1 h2 => ref_Grad16 (Aw := Au) (A := Al) (cw := cu) (c := cl) o ho u lcu lmu iu f l hll il W h1 h2)
  have C3 := hid (fun W h => ml_Split (Au := Au) (cu := cu) o ho u lcu lmu W h)
  have C5 := hid (fun W h => ml_Check (Aw := Au) (A := Al) (cw := cu) (c := cl) n o hn ho u hul lcu l hll (fun s hs => (il s hs).2.2) W h)
  have C6 := hid (fun W h => ref_Check16 (Aw := Au) (A := Al) (cw := cu) (c := cl) n o hn ho u hul l hll (fun s hs => (il s hs).2.2) W h)
  have hfew : fewL u.length l = true → u.length ≤ 500 ∧ l.length ≤ 100 := fun h => by
    unfold fewL at h
    simp only [Bool.and_eq_true, decide_eq_true_eq] at h
    exact h.2
  obtain ⟨F, hF⟩ : ∃ F, fewL u.length l = F := ⟨_, rfl⟩
  obtain ⟨V, hV⟩ : ∃ V, mgV o u f l = V := ⟨_, rfl⟩
  obtain ⟨E, hE⟩ : ∃ E, mgE o u f l = E := ⟨_, rfl⟩
  obtain ⟨R, hR⟩ : ∃ R, mlO o u = R := ⟨_, rfl⟩
  obtain ⟨Z, hZ⟩ : ∃ Z, mzO o u = Z := ⟨_, rfl⟩
  obtain ⟨G, hG⟩ : ∃ G, msE o u = G := ⟨_, rfl⟩
  obtain ⟨Q, hQ⟩ : ∃ Q, mcE n o u l = Q := ⟨_, rfl⟩
  have CS := hid (fun (A B : Option Addr) (c d : Nat) (W : World) (h1 : Rd (Value.int .i64) W W.heap.size A u) (h2 : Rd (Value.int .i64) W W.heap.size B u) => sf_rsame (A := A) (B := B) (c := c) (d := d) u hul W h1 h2)
  rw [hF] at C0 hfew
  rw [hV, hE] at C1 C2
  rw [hR, hZ, hG] at C3
  rw [hQ] at C5 C6
  obtain ⟨U, hU⟩ : ∃ U, u.length = U := ⟨_, rfl⟩
  obtain ⟨M, hM⟩ : ∃ M, l.length = M := ⟨_, rfl⟩
  rw [hU] at C0 C1 C2 C3 C5 C6 CS hfew ⊢
  rw [hM] at C0 C1 C2 C5 C6 hfew ⊢
  have HU := hid hU
  have RU := hid ru
  have RL := hid rl
  clear hF hV hE hR hZ hG hQ hM ru rl il iu lcl lml lcu hf hn ho hul hll hU
  cases F with
  | false =>
    clear hfew
    go_enter Try.func4, Try.ntmps4
    go_wp2_with fail
    refine (ml_live _).mono ?_
    rintro _ w1 ⟨rfl, h1⟩
    have K1 := hid h1
    clear h1
    go_wp2_with fail
    refine (C0.out _ (RL.out.on K1.out)).mono ?_
    rintro _ w2 ⟨rfl, h2⟩
    have K2 : Hid (Below w.heap.size w w2) := hid (K1.out.trans (h2.mono K1.out.size))
    clear h2
    go_wp2_with fail
    go_ret
    exact ⟨rfl, K2.out⟩
  | true =>
    have hb := (hfew rfl).1
    clear hfew
    go_enter Try.func4, Try.ntmps4
    go_wp2_with fail
    refine (ml_live _).mono ?_
    rintro _ w1 ⟨rfl, h1⟩
    have K1 := hid h1
    clear h1
    go_wp2_with fail
    refine (C0.out _ (RL.out.on K1.out)).mono ?_
    rintro _ w2 ⟨rfl, h2⟩
    have K2 : Hid (Below w.heap.size w w2) := hid (K1.out.trans (h2.mono K1.out.size))
    have RU2 := (RU.out.on K2.out)
    have hz2 := K2.out.size
    clear h2
    go_wp2_with (at_builtin; refine wpList_app (Value.int .i64) (fun _ => rfl) _ rfl _ _ 22 rfl w2.heap.size 2 (.int .i64 0) 8 Try.underlying22 info_i64 rfl [] none 0 rfl (own_nil _ _ _) u Au cu _ (by rw [HU.out]; rfl) RU2 (by have := HU.out; simp [maxLen]; omega) (by have := HU.out; simp; omega) (Nat.le_refl _) ?_)
    rintro S A3 c3 w3 hS ho3 hb3 _
    have K3 : Hid (Below w.heap.size w w3) := hid (K2.out.trans (hb3.mono K2.out.size))
    have RS := own_rd ho3
    replace hS : S = u := by simpa using hS
    rw [hS] at RS
    have hSl : S.length = U := by rw [hS, HU.out]
    rw [hSl]
    have HRS := hid RS
    clear hS ho3 hb3 RS hSl RU2 C0 hz2
    go_wp2_with fail
    refine (C1.out _ (RU.out.on K3.out) (RL.out.on K3.out)).mono ?_
    rintro _ w4 ⟨A4, c4, rfl, ho4, h4⟩
    have HO4 := hid ho4
    have J4 := hid h4
    clear h4 ho4
    go_wp2_with fail
    refine (C2.out _ (RU.out.on (K3.out.trans (J4.out.mono K3.out.size))) (RL.out.on (K3.out.trans (J4.out.mono K3.out.size)))).mono ?_
    rintro _ w7 ⟨A5, c5, rfl, ho5, h5⟩
    have J5 : Hid (Below w3.heap.size w3 w7) := hid (J4.out.trans (h5.mono J4.out.size))
    have O7 := hid (own_on HO4.out h5)
    have R5 := hid (own_rd ho5)
    have K7 : Hid (Below w.heap.size w w7) := hid (K3.out.trans (J5.out.mono K3.out.size))
    have C7 := hid (sf_rsame (A := A4) (B := A5) (c := c4) (d := c5) V (by have := own_cap O7.out; omega) w7 (own_rd O7.out) R5.out)
    clear h5 ho5 HO4 J4 R5
    go_wp2_with fail
    refine C7.out.mono ?_
    rintro _ w8 ⟨rfl, h8⟩
    have K8 : Hid (Below w.heap.size w w8) := hid (K7.out.trans (h8.mono K7.out.size))
    have O8 := hid (own_on O7.out h8)
    have J8 : Hid (Below w3.heap.size w3 w8) := hid (J5.out.trans (h8.mono J5.out.size))
    clear h8
    go_wp2_with fail
    refine (C5.out _ (RL.out.on K8.out)).mono ?_
    rintro _ w9 ⟨rfl, h9⟩
    have K9 : Hid (Below w.heap.size w w9) := hid (K8.out.trans (h9.mono K8.out.size))
    have O9 := hid (own_on O8.out h9)
    have J9 : Hid (Below w3.heap.size w3 w9) := hid (J8.out.trans (h9.mono J8.out.size))
    clear h9
    go_wp2_with fail
    refine (C6.out _ (RL.out.on K9.out)).mono ?_
    rintro _ v0 ⟨rfl, h0⟩
    have J0 : Hid (Below w3.heap.size w3 v0) := hid (J9.out.trans (h0.mono J9.out.size))
    have O0 := hid (own_on O9.out h0)
    have hcap := own_cap O0.out
    clear h0 C1 C2 C5 C6 C7 J5 K7 O7 K8 O8 J8 K9 O9 J9
    obtain ⟨N, hN⟩ : ∃ N, V.length = N := ⟨_, rfl⟩
    rw [hN] at hcap ⊢
    have HN := hid hN
    clear hN
    go_wp2_with fail
    go_loopw [18, 75] (fun _ xi wr => ∃ (k : Nat) (T : List Int), k ≤ N ∧ xi = .int .i64 (k : Int) ∧ T.length = N ∧ wr.ownsRow w3.heap.size 2 1 (.slice A4 T.length c4) T.length (T.map (Value.int .i64)) ∧ Below w3.heap.size w3 wr) (fun _ xi _ => N - (intOf xi).toNat)
    case atStart => exact ⟨0, V, Nat.zero_le _, rfl, HN.out, O0.out, J0.out⟩
    case round =>
      obtain ⟨k, T, hk, rfl, hT, ho, hbel⟩ := hrel
      have HO := hid ho
      have HB := hid hbel
      have HT := hid hT
      clear O0 J0 ho
      by_cases hlt : k < N
      · obtain ⟨g, x, rfl, hg, hc, hfz, hnx⟩ := bends_next HO.out (by rw [hT]; exact hlt)
        have hgl : g < wr.heap.size := lt_of_cell hc
        have HNX := hid hnx
        clear hnx hT hbel
        go_wp2_with fail
        go_roundw
        case rel => exact ⟨k + 1, T.set k _, by omega, by go_num, by rw [List.length_set]; exact HT.out, HNX.out _, HB.out.setCell hg _⟩
        case measure => simp [intOf]; omega
      · obtain rfl : k = N := by omega
        have K : Hid (Below w.heap.size w wr) := hid (K3.out.trans (HB.out.mono K3.out.size))
        clear hT hbel
        go_wp2_with fail
        refine (C3.out _ (RU.out.on K.out)).mono ?_
        rintro _ v1 ⟨A1, c1, B1, d1, rfl, hor, hzc, hzr, h1⟩
        have hzz := K.out.size
        have JB : Hid (Below w3.heap.size w3 v1) := hid (HB.out.trans (h1.mono HB.out.size))
        have OX := hid (OwnRx.of_rw hor)
        have IX := hid (IntX.of_rdx hzr)
        have hsz := hid HB.out.size
        obtain ⟨q, hq⟩ : ∃ q, wr.heap.size = q := ⟨_, rfl⟩
        rw [hq] at OX IX hsz
        obtain ⟨L, hL⟩ : ∃ L, R.length = L := ⟨_, rfl⟩
        obtain ⟨P, hP⟩ : ∃ P, Z.length = P := ⟨_, rfl⟩
        have hRL : L ≤ 9223372036854775807 := by have := hor.cap; omega
        rw [hL] at OX ⊢
        rw [hP] at IX hzc ⊢
        have HPC := hid hzc
        have HLC := hid hRL
        have hzc1 := hzc.1
        have hzc2 := hzc.2
        clear hor hzr h1 hL hP hRL hzc hq
        go_wp2_with fail
        go_loopw [22, 94] (fun _ xi wv => ∃ k : Nat, k ≤ P ∧ xi = .int .i64 (k : Int) ∧ IntX wv q (A1.map (·.block)) B1 P ∧ OwnRx wv q A1 L ∧ Below w3.heap.size w3 wv) (fun _ xi _ => P - (intOf xi).toNat)
        case atStart => exact ⟨0, Nat.zero_le _, rfl, IX.out, OX.out, JB.out⟩
        case round =>
          obtain ⟨k2, hk2, rfl, hI, hX, hbel⟩ := hrel
          have HB2 := hid hbel
          clear JB OX IX hbel HB HO HT
          by_cases hlt2 : k2 < P
          · obtain ⟨b, off, x, rfl, hbB, hc, hfz, hG⟩ := bends_int hI hlt2
            have hgl : b < wr.heap.size := lt_of_cell hc
            have N1 := hid (fun y => hI.set hc y)
            have N2 := hid (fun y => hX.set hc (fun g hg e => hG (hg.trans (congrArg some e))) y)
            have HBB := hid hbB
            clear hI hX hG hbB
            go_wp2_with fail
            go_roundw
            case rel => exact ⟨k2 + 1, by omega, by go_num, N1.out _, N2.out _, HB2.out.setCell (Nat.le_trans hsz.out HBB.out) _⟩
            case measure => simp [intOf]; omega
          · obtain rfl : k2 = P := by omega
            have HX := hid hX
            clear hI hX
            go_wp2_with fail
            go_loopw [24, 25, 106] (fun _ _ xi wv => ∃ k : Nat, k ≤ L ∧ xi = .int .i64 (k : Int) ∧ OwnRx wv q A1 L ∧ Below w3.heap.size w3 wv) (fun _ _ xi _ => L - (intOf xi).toNat)
            case atStart => exact ⟨0, Nat.zero_le _, rfl, HX.out, HB2.out⟩
            case round =>
              obtain ⟨k3, hk3, rfl, hX3, hbel⟩ := hrel
              have HB3 := hid hbel
              clear hbel HX HB2
              by_cases hlt3 : k3 < L
              · obtain ⟨g, off, A', m, c', rfl, hc, hm1, hm2, hI⟩ := hX3 k3 hlt3
                have hgl := lt_of_cell hc
                have HI := hid hI
                have HX3 := hid hX3
                have HK3 := hid hlt3
                clear hI hX3
                go_wp2_with fail
                go_loopw [25, 112] (fun _ xi wq => ∃ j : Nat, j ≤ m ∧ xi = .int .i64 (j : Int) ∧ IntX wq q (some g) A' m ∧ OwnRx wq q (some ⟨g, off, none⟩) L ∧ Below w3.heap.size w3 wq) (fun _ xi _ => m - (intOf xi).toNat)
                case atStart => exact ⟨0, Nat.zero_le _, rfl, HI.out, HX3.out, HB3.out⟩
                case round =>
                  obtain ⟨j, hj, rfl, hI4, hX4, hbel⟩ := hrel
                  have HB4 := hid hbel
                  clear hbel HI HX3 HB3
                  by_cases hlt4 : j < m
                  · obtain ⟨b4, off4, x4, rfl, hbB, hc4, hfz, hG⟩ := bends_int hI4 hlt4
                    have hgl4 : b4 < wr.heap.size := lt_of_cell hc4
                    have N1 := hid (fun y => hI4.set hc4 y)
                    have N2 := hid (fun y => hX4.set hc4 (fun g hg e => hG (hg.trans (congrArg some e))) y)
                    have HBB := hid hbB
                    clear hI4 hX4 hG hbB
                    go_wp2_with fail
                    go_roundw
                    case rel => exact ⟨j + 1, by omega, by go_num, N1.out _, N2.out _, HB4.out.setCell (Nat.le_trans hsz.out HBB.out) _⟩
                    case measure => simp [intOf]; omega
                  · obtain rfl : j = m := by omega
                    have HX4 := hid hX4
                    have hk3b := HK3.out
                    have hLb := HLC.out
                    clear hI4 hX4
                    go_wp2_with fail
                    go_roundw
                    case rel => exact ⟨k3 + 1, HK3.out, by go_num, HX4.out, HB4.out⟩
                    case measure => simp [intOf]; omega
              · obtain rfl : k3 = L := by omega
                have K9 : Hid (Below w.heap.size w wr) := hid (K3.out.trans (HB3.out.mono K3.out.size))
                clear hX3
                go_wp2_with fail
                refine (CS.out _ _ _ _ _ (RU.out.on K9.out) (HRS.out.on HB3.out)).mono ?_
                rintro _ v9 ⟨rfl, h9⟩
                have K' : Hid (Below w.heap.size w v9) := hid (K9.out.trans (h9.mono K9.out.size))
                clear h9
                go_wp2_with fail
                go_ret
                exact ⟨rfl, K'.out⟩
theorem law_types : ∀ t ∈ Try.f4.params.toList, Try.prog.readableRec t = true ∧ t < Try.prog.types.size := by
  have h : (Try.f4.params.toList.all fun t => Try.prog.readableRec t && decide (t < Try.prog.types.size)) = true := by kernel_rfl
  intro t ht
  simpa using List.all_eq_true.1 h t ht
set_option maxRecDepth 100000 in
theorem lifted (os : Os) (started : os.Started) (H : Type) (enc : TypeId × Value → H) :
    ReturnsInHanded {} Try.checked os 4 .any (Rows.mlpBendsSpec.pre6 enc Try.prog Try.f4 Rows.mlpBendsRow.domain false) (Rows.mlpBendsSpec.post enc Try.prog Try.f4 false true false false) := by
  refine returnsInHanded_of_change (C := Try.checked) own started (by kernel_rfl) Try.func4
    (ChangeSpec.witness6 (enc := enc) (C := Try.checked) false ⟨#[], #[.int .i64 0, .int .i64 0, .slice none 0 0, .int .i64 0, .slice none 0 0], []⟩ 8 (by kernel_rfl) (by kernel_rfl) (by kernel_rfl) (by kernel_rfl)) ?_
  intro W base args ds gs before hval0 hW hcnd _
  have hval : ∀ (j : Nat) t v, Try.f4.params[j]? = some t → args[j]? = some v → Value.okWide Try.prog W .any base t v := hval0
  have hW' := hW
  obtain ⟨p, q, hA0, hV, rfl, hfz, hnd⟩ := hW
  have hA : DataW.TrodAll enc Try.prog W 0 (fun _ => true) true Try.f4.params.toList args.toList ds p := hA0
  rw [Try.params4] at hA hval
  obtain ⟨v0, vs0, d0, ds0, p0, q0, hargs, rfl, rfl, h0, r0⟩ := trodAll_cons hA
  obtain ⟨v1, vs1, d1, ds1, p1, q1, rfl, rfl, rfl, h1, r1⟩ := trodAll_cons r0
  obtain ⟨v2, vs2, d2, ds2, p2, q2, rfl, rfl, rfl, h2, r2⟩ := trodAll_cons r1
  obtain ⟨v3, vs3, d3, ds3, p3, q3, rfl, rfl, rfl, h3, r3⟩ := trodAll_cons r2
  obtain ⟨v4, vs4, d4, ds4, p4, q4, rfl, rfl, rfl, h4, r4⟩ := trodAll_cons r3
  obtain ⟨rfl, rfl, rfl⟩ := trodAll_nil r4
  obtain rfl : args = #[v0, v1, v2, v3, v4] := by cases args; simp_all
  obtain ⟨rfl, rfl⟩ := trodVars_none hV
  obtain ⟨n, rfl, rfl, rfl, w0⟩ := open_int Try.underlying3 (hval 0 3 v0 rfl rfl) h0
  obtain ⟨o, rfl, rfl, rfl, w1⟩ := open_int Try.underlying3 (hval 1 3 v1 rfl rfl) h1
  obtain ⟨Au, u, cu, rfl, rdu, iu, lcu, lmu⟩ := open_nums Try.underlying22 Try.underlying2 cells_i64' (hval 2 22 v2 rfl rfl) h2
  obtain ⟨f, rfl, rfl, rfl, w3⟩ := open_int Try.underlying3 (hval 3 3 v3 rfl rfl) h3
  obtain ⟨Al, l, cl, rfl, rdl, il, lcl, lml⟩ := open_smps (hval 4 43 v4 rfl rfl) h4
  clear hA0 hval0
  refine (walk n o Au u cu f Al l cl W (I64.of_wf w0) (I64.of_wf w1) rdu (fun x hx => I64.of_wf (iu x hx)) lcu lmu (I64.of_wf w3) rdl il lcl lml).mono fun e W' ⟨he, hb⟩ => ?_
  subst he
  exact ⟨_, rfl, law_post laid (fun t ht => law_types t ht) rfl hW' ⟨rfl, rfl, rfl⟩ (by kernel_rfl) Try.underlying4 hb⟩

theorem over : Rows.mlpBendsRow.holds Try.pinned (OpenSpec.ofChange Rows.mlpBendsSpec) :=
  OpenClaim.holds_of_wide 4 Try.f4 rfl rfl rfl rfl rfl rfl rfl ⟨rfl, rfl, rfl, rfl, rfl⟩ rfl rfl rfl rfl rfl (by kernel_rfl) Try.func4 (by kernel_rfl)
    (of_decide_eq_true (by kernel_rfl)) (by unfold Func.isWrapper; first | (rw [if_pos (by decide +kernel)]; kernel_rfl) | (rw [if_neg (by decide +kernel)]; exact ⟨rfl, rfl⟩))
    (fun os started H enc _ => lifted os started H enc)

theorem proved : Rows.MlpBendsSaid := over
end Go.Proofs.Ytekpejemfkjhcaa.MlpBends
