
/-
  DrawOnce answers true for every input. No condition.
-/
import Derived.Test.YtjkdmpegdgkdfaaDrLv
import Derived.Test.YtjkdmpegdgkdfaaArg
import Derived.Test.YtjkdmpegdgkdfaaLaw
namespace Go.Proofs.Ytjkdmpegdgkdfaa.DrawOnce
open Go.ChangeShapes Go.WideShapes Go.ChangeAt Go.RowKit
set_option maxHeartbeats 400000
set_option linter.unusedVariables false
theorem info_bool : (Try.prog.info? 4).map (fun i => (i.zero, i.size, i.bytes)) = some (some (.bool false), 1, 1) := by kernel_rfl
/-- Which numbers were met. -/
def metF (g : Nat → Nat) (k j : Nat) : Bool := decide (∃ i, i < k ∧ g i = j)
theorem metF_zero (g : Nat → Nat) (j : Nat) : metF g 0 j = false := decide_eq_false (by rintro ⟨i, h, _⟩; omega)
theorem metF_step (g : Nat → Nat) (k j : Nat) : metF g (k + 1) j = if j = g k then true else metF g k j := by
  unfold metF
  by_cases e : j = g k
  · rw [if_pos e]
    exact decide_eq_true ⟨k, by omega, e.symm⟩
  · rw [if_neg e]
    by_cases h : ∃ i, i < k ∧ g i = j
    · rw [decide_eq_true h]
      obtain ⟨i, hi, hg⟩ := h
      exact decide_eq_true ⟨i, by omega, hg⟩
    · rw [decide_eq_false h]
      refine decide_eq_false ?_
      rintro ⟨i, hi, hg⟩
      by_cases ei : i = k
      · subst ei; exact e hg.symm
      · exact h ⟨i, by omega, hg⟩
theorem metF_new {g : Nat → Nat} {n k : Nat} (h : PermN n g) (hk : k < n) : metF g k (g k) = false := by
  refine decide_eq_false ?_
  rintro ⟨i, hi, hg⟩
  have := h.2 i k (by omega) hk hg
  omega
theorem ord_neg {of : Int} (h : of < 0) (s : Nat) (n : List Int) : ordE of = 1 ∧ ordV of s n = [] := by
  have e : ordE of = 1 := if_pos h
  exact ⟨e, if_neg (by rw [e]; decide)⟩
theorem ord_big {of : Int} (h : 4096 < of) (s : Nat) (n : List Int) : ordE of = 3 ∧ ordV of s n = [] := by
  have e : ordE of = 3 := by unfold ordE; rw [if_neg (by omega), if_pos h]
  exact ⟨e, if_neg (by rw [e]; decide)⟩
open Go.Proofs.Ytjkdmpegdgkdfaa
set_option maxHeartbeats 2000000 in
set_option maxRecDepth 100000 in
theorem walk (many of seed : Int) (An : Option Addr) (n : List Int) (cn : Nat) (w : World) (hm : I64 many) (hf : I64 of) (hs : U64 seed) (rn : Rd (Value.int .i64) w w.heap.size An n) (un : I64s n) (ln : n.length ≤ cn) (mn : cn ≤ 9223372036854775807) :
    Calls Try.prog 5 #[.int .i64 many, .int .i64 of, .int .u64 seed, .slice An n.length cn] w fun e w' => e = .returned (.bool true) ∧ Below w.heap.size w w' := by
  obtain ⟨s, rfl⟩ := Int.eq_ofNat_of_zero_le hs.1
  have bs : s < 2 ^ 64 := by have := hs.2; omega
  have hf' := hf
  have hm' := hm
  unfold I64 at hf' hm'
  have HN := hid rn
  have hn : n.length ≤ 9223372036854775807 := by omega
  have CF := hid (fun W => dr_few (A := An) (c := cn) n hn W)
  by_cases hl : n.length ≤ 200
  · rw [decide_eq_true hl] at CF
    have C1 := hid (fun W (h : Rd (Value.int .i64) W W.heap.size An n) => dr_Order (c := cn) of hf s bs n hn un W h)
    by_cases h1 : of < 0
    · obtain ⟨e1, e2⟩ := ord_neg h1 s n
      rw [e1, e2] at C1
      clear rn un hm hf e1 e2
      go_enter Try.func5, Try.ntmps5
      go_wp2_with fail
      refine (dr_live _).mono ?_
      rintro _ w1 ⟨rfl, k1⟩
      have RN := hid (HN.out.on k1)
      go_wp2_with fail
      refine (CF.out w1).mono ?_
      rintro _ _ ⟨rfl, rfl⟩
      go_wp2_with fail
      refine (C1.out w1 RN.out).mono ?_
      rintro _ w2 ⟨A2, c2, rfl, ho2, hb2⟩
      have k2 := k1.trans (hb2.mono k1.size)
      clear ho2 hb2
      go_wp2_with fail
      go_ret
      exact ⟨rfl, k2⟩
    · by_cases h2 : 4096 < of
      · have h3 : 1000 < of := by omega
        obtain ⟨e1, e2⟩ := ord_big h2 s n
        rw [e1, e2] at C1
        clear rn un hm hf e1 e2
        go_enter Try.func5, Try.ntmps5
        go_wp2_with fail
        refine (dr_live _).mono ?_
        rintro _ w1 ⟨rfl, k1⟩
        have RN := hid (HN.out.on k1)
        go_wp2_with fail
        refine (CF.out w1).mono ?_
        rintro _ _ ⟨rfl, rfl⟩
        go_wp2_with fail
        refine (C1.out w1 RN.out).mono ?_
        rintro _ w2 ⟨A2, c2, rfl, ho2, hb2⟩
        have k2 := k1.trans (hb2.mono k1.size)
        clear ho2 hb2
        go_wp2_with fail
        go_ret
        exact ⟨rfl, k2⟩
      · by_cases h3 : 1000 < of
        · have h4 : of ≤ 4096 := by omega
          clear rn un hm hf C1
          go_enter Try.func5, Try.ntmps5
          go_wp2_with fail
          refine (dr_live _).mono ?_
          rintro _ w1 ⟨rfl, k1⟩
          have RN := hid (HN.out.on k1)
          go_wp2_with fail
          refine (CF.out w1).mono ?_
          rintro _ _ ⟨rfl, rfl⟩
          go_wp2_with fail
          go_ret
          exact ⟨rfl, k1⟩
        · obtain ⟨K, rfl⟩ := Int.eq_ofNat_of_zero_le (show 0 ≤ of by omega)
          have hK : K ≤ 1000 := by omega
          have hE : ordE (K : Int) = 0 := ordE_ok.2 (by omega)
          have hlen : (ordV (K : Int) s n).length = K := ordV_len hE s n
          have HP := hid (orF_perm K s n)
          have HG := hid (fun k (hk : k < K) => ordV_at hE s n (k := k) (by omega))
          rw [Int.toNat_natCast] at HG
          have CP0 := hid (fun W (h : Rd (Value.int .i64) W W.heap.size An n) => dr_Pick (c := cn) many (K : Int) hm hf s bs n hn un W h)
          have HPi : Hid ((many < 0 ∨ (K : Int) < many → picE many K = 1 ∧ picV many K s n = []) ∧ (0 ≤ many → many ≤ K → picE many K = 0 ∧ picV many K s n = (ordV (K : Int) s n).take many.toNat)) := hid ⟨fun h => by
              have e : picE many K = 1 := if_pos h
              exact ⟨e, if_neg (by rw [e]; decide)⟩, fun h1 h2 => by
              have e : picE many K = 0 := picE_ok.2 ⟨h1, h2, hE⟩
              exact ⟨e, if_pos e⟩⟩
          rw [hE] at C1
          obtain ⟨g, hg⟩ : ∃ g, orF K s n = g := ⟨_, rfl⟩
          rw [hg] at HP HG
          obtain ⟨V, hV⟩ : ∃ V, ordV (K : Int) s n = V := ⟨_, rfl⟩
          rw [hV] at C1 hlen HG HPi
          have CQ := hid (fun (A B : Option Addr) (c d : Nat) (W : World) (T : List Int) (hT : T.length ≤ 4096) (h1 : Rd (Value.int .i64) W W.heap.size A T) (h2 : Rd (Value.int .i64) W W.heap.size B T) => equal_it (X := T) (by omega) (A := A) (B := B) (c := c) (d := d) W h1 h2)
          have hmk := fun W => run_make_row' (P := Try.prog) 38 4 (.bool false) 1 Try.underlying38 info_bool rfl .i64 .i64 K (by omega) (by omega) W
          have HL := hid hlen
          have hK4 : ¬ (1000 : Int) < (K : Int) := by omega
          clear rn un hm hf hE hV hlen hg h1 h2 h3
          go_enter Try.func5, Try.ntmps5
          go_wp2_with fail
          refine (dr_live _).mono ?_
          rintro _ w1 ⟨rfl, k1⟩
          have RN := hid (HN.out.on k1)
          go_wp2_with fail
          refine (CF.out w1).mono ?_
          rintro _ _ ⟨rfl, rfl⟩
          clear CF
          go_wp2_with fail
          refine (C1.out w1 RN.out).mono ?_
          rintro _ w2 ⟨A2, c2, rfl, ho2, hb2⟩
          have k2 := k1.trans (hb2.mono k1.size)
          have R2 := hid (own_rd ho2)
          have q2 := hid (own_cap ho2)
          rw [HL.out]
          clear ho2 hb2 RN k1
          have HK2 := hid k2
          go_wp2_with fail
          go_loopw [14, 69] (fun x14 i wr => ∃ k : Nat, k ≤ K ∧ i = .int .i64 k ∧ wr.rowIs w2.heap.size 4 K (fun j => .bool (metF g k j)) ∧ Below w2.heap.size w2 wr) (fun _ i _ => K - (intOf i).toNat)
          case atStart => exact ⟨0, by omega, rfl, (World.rowIs_made w2 (.bool false) K _).congr (fun j hj => by rw [metF_zero]), by go_grown⟩
          case round =>
            clear hmk k2
            obtain ⟨k, hk, rfl, hrow, hbel⟩ := hrel
            have HR := hid hrow
            have HB := hid hbel
            by_cases hlt : k < K
            · obtain ⟨b1, o1, x, rfl, l1, ex, cx⟩ := (R2.out.below hbel).at_ (k := k) (by rw [HL.out]; exact hlt)
              have e := HG.out k hlt
              rw [ex] at e
              injection e with e
              subst e
              have hy := HP.out.1 k hlt
              have hnew := metF_new HP.out hlt
              have HS := hid (fun j => metF_step g k j)
              obtain ⟨y, hy'⟩ : ∃ y, g k = y := ⟨_, rfl⟩
              rw [hy'] at hy hnew cx HS
              have c3 := hrow.cell hy
              have f3 := hrow.frozen y
              rw [hnew] at c3
              have hyK : (y : Int) < (K : Int) := by omega
              clear hnew ex hy' hrow hbel
              go_wp2_with fail
              go_roundw
              case rel =>
                refine ⟨k + 1, by omega, by go_num, ?_, HB.out.setCell (Nat.le_refl _) _⟩
                refine World.rowIs.congr (HR.out.set y (.bool true)) fun j hj => ?_
                rw [HS.out]
                by_cases e : j = y
                · rw [if_pos e, if_pos e]
                · rw [if_neg e, if_neg e]
              case measure => simp [intOf]; omega
            · clear hrow
              have k3 := HK2.out.trans (hbel.mono HK2.out.size)
              have R3 := hid (R2.out.on hbel)
              clear hbel HR HB
              go_wp2_with fail
              refine (C1.out wr (HN.out.on k3)).mono ?_
              rintro _ w4 ⟨A4, c4, rfl, ho4, hb4⟩
              have k4 := k3.trans (hb4.mono k3.size)
              have R4 := hid (own_rd ho4)
              have R34 := hid (R3.out.on hb4)
              have D1 := hid (CQ.out A4 A2 c4 c2 w4 V (by rw [HL.out]; omega) R4.out R34.out)
              rw [HL.out] at D1 ⊢
              clear ho4 hb4 k3 R3 R4
              go_wp2_with fail
              refine D1.out.mono ?_
              rintro _ w5 ⟨rfl, hb5⟩
              have k5 := k4.trans (hb5.mono k4.size)
              have R5 := hid (R34.out.on hb5)
              have HK5 := hid k5
              have CP := hid (CP0.out w5 (HN.out.on k5))
              clear hb5 k4 R34 D1 CP0 k5
              by_cases m1 : many < 0
              · obtain ⟨e1, e2⟩ := HPi.out.1 (.inl m1)
                rw [e1, e2] at CP
                clear e1 e2 HPi
                go_wp2_with fail
                refine CP.out.mono ?_
                rintro _ w6 ⟨A6, c6, rfl, _, hb6⟩
                have k6 := HK5.out.trans (hb6.mono HK5.out.size)
                go_wp2_with fail
                go_ret
                exact ⟨rfl, k6⟩
              · by_cases m2 : (K : Int) < many
                · obtain ⟨e1, e2⟩ := HPi.out.1 (.inr m2)
                  rw [e1, e2] at CP
                  clear e1 e2 HPi
                  go_wp2_with fail
                  refine CP.out.mono ?_
                  rintro _ w6 ⟨A6, c6, rfl, _, hb6⟩
                  have k6 := HK5.out.trans (hb6.mono HK5.out.size)
                  go_wp2_with fail
                  go_ret
                  exact ⟨rfl, k6⟩
                · obtain ⟨e1, e2⟩ := HPi.out.2 (by omega) (by omega)
                  obtain ⟨M, rfl⟩ := Int.eq_ofNat_of_zero_le (show 0 ≤ many by omega)
                  have hMK : M ≤ K := by omega
                  rw [Int.toNat_natCast] at e2
                  rw [e1, e2] at CP
                  clear e1 e2 HPi m1 m2
                  have hTl : (V.take M).length = M := by rw [List.length_take, HL.out]; omega
                  have RT := fun (W : World) (h : Rd (Value.int .i64) W W.heap.size A2 V) => h.cut0 (c := c2) (by rw [HL.out]; have := q2.out.1; rw [HL.out] at this; exact this) M
                  obtain ⟨T, hT⟩ : ∃ T, V.take M = T := ⟨_, rfl⟩
                  rw [hT] at CP hTl RT
                  have HRT := hid RT
                  have HT := hid hTl
                  have hq : K ≤ c2 := by have := q2.out.1; rw [HL.out] at this; exact this
                  have hs1 := fun W => run_upto (P := Try.prog) 23 Try.underlying23 Try.sizeOf3 A2 K c2 M (by omega) W
                  clear hT hTl RT
                  go_wp2_with fail
                  refine CP.out.mono ?_
                  rintro _ w6 ⟨A6, c6, rfl, ho6, hb6⟩
                  have k6 := HK5.out.trans (hb6.mono HK5.out.size)
                  have R6 := hid (own_rd ho6)
                  have D2 := hid (CQ.out A6 (cutA A2 0 c2) c6 c2 w6 T (by rw [HT.out]; omega) R6.out (HRT.out w6 (R5.out.on hb6)))
                  rw [HT.out] at D2 ⊢
                  clear ho6 hb6
                  go_wp2_with fail
                  refine D2.out.mono ?_
                  rintro _ w7 ⟨rfl, hb7⟩
                  have k7 := k6.trans (hb7.mono k6.size)
                  go_wp2_with fail
                  go_ret
                  exact ⟨rfl, k7⟩
  · rw [decide_eq_false hl] at CF
    clear rn un
    go_enter Try.func5, Try.ntmps5
    go_wp2_with fail
    refine (dr_live _).mono ?_
    rintro _ w1 ⟨rfl, k1⟩
    have RN := hid (HN.out.on k1)
    go_wp2_with fail
    refine (CF.out w1).mono ?_
    rintro _ _ ⟨rfl, rfl⟩
    go_wp2_with fail
    go_ret
    exact ⟨rfl, k1⟩
theorem law_types : ∀ t ∈ Try.f5.params.toList, Try.prog.readableRec t = true ∧ t < Try.prog.types.size := by
  have h : (Try.f5.params.toList.all fun t => Try.prog.readableRec t && decide (t < Try.prog.types.size)) = true := by kernel_rfl
  intro t ht
  simpa using List.all_eq_true.1 h t ht
set_option maxRecDepth 100000 in
theorem lifted (os : Os) (started : os.Started) (H : Type) (enc : TypeId × Value → H) :
    ReturnsInHanded {} Try.checked os 5 .any (Rows.drawOnceSpec.pre6 enc Try.prog Try.f5 Rows.drawOnceRow.domain false) (Rows.drawOnceSpec.post enc Try.prog Try.f5 false true false false) := by
  refine returnsInHanded_of_change (C := Try.checked) own started (by kernel_rfl) Try.func5
    (ChangeSpec.witness6 (enc := enc) (C := Try.checked) false ⟨#[], #[.int .i64 0, .int .i64 0, .int .u64 0, .slice none 0 0], []⟩ 8 (by kernel_rfl) (by kernel_rfl) (by kernel_rfl) (by kernel_rfl)) ?_
  intro W base args ds gs before hval0 hW hcnd _
  have hval : ∀ (j : Nat) t v, Try.f5.params[j]? = some t → args[j]? = some v → Value.okWide Try.prog W .any base t v := hval0
  have hW' := hW
  obtain ⟨p, q, hA0, hV, rfl, hfz, hnd⟩ := hW
  have hA : DataW.TrodAll enc Try.prog W 0 (fun _ => true) true Try.f5.params.toList args.toList ds p := hA0
  rw [Try.params5] at hA hval
  obtain ⟨v0, vs0, d0, ds0, p0, q0, hargs, rfl, rfl, h0, r0⟩ := trodAll_cons hA
  obtain ⟨v1, vs1, d1, ds1, p1, q1, rfl, rfl, rfl, h1, r1⟩ := trodAll_cons r0
  obtain ⟨v2, vs2, d2, ds2, p2, q2, rfl, rfl, rfl, h2, r2⟩ := trodAll_cons r1
  obtain ⟨v3, vs3, d3, ds3, p3, q3, rfl, rfl, rfl, h3, r3⟩ := trodAll_cons r2
  obtain ⟨rfl, rfl, rfl⟩ := trodAll_nil r3
  obtain rfl : args = #[v0, v1, v2, v3] := by cases args; simp_all
  obtain ⟨rfl, rfl⟩ := trodVars_none hV
  obtain ⟨many, rfl, rfl, rfl, w0⟩ := open_int Try.underlying3 (hval 0 3 v0 rfl rfl) h0
  obtain ⟨of, rfl, rfl, rfl, w1⟩ := open_int Try.underlying3 (hval 1 3 v1 rfl rfl) h1
  obtain ⟨seed, rfl, rfl, rfl, w2⟩ := open_int Try.underlying22 (hval 2 22 v2 rfl rfl) h2
  obtain ⟨Al, l, cl, rfl, rdl, il, lcl, lml⟩ := open_nums Try.underlying23 Try.underlying3 cells_int (hval 3 23 v3 rfl rfl) h3
  clear hA0 hval0
  refine (walk many of seed Al l cl W (I64.of_wf w0) (I64.of_wf w1) (U64.of_wf w2) rdl (fun x hx => I64.of_wf (il x hx)) lcl lml).mono fun e W' ⟨he, hb⟩ => ?_
  subst he
  exact ⟨_, rfl, law_post laid (fun t ht => law_types t ht) rfl hW' ⟨rfl, rfl, rfl⟩ (by kernel_rfl) Try.underlying4 hb⟩

theorem over : Rows.drawOnceRow.holds Try.pinned (OpenSpec.ofChange Rows.drawOnceSpec) :=
  OpenClaim.holds_of_wide 5 Try.f5 rfl rfl rfl rfl rfl rfl rfl ⟨rfl, rfl, rfl, rfl, rfl⟩ rfl rfl rfl rfl rfl (by kernel_rfl) Try.func5 (by kernel_rfl)
    (of_decide_eq_true (by kernel_rfl)) (by unfold Func.isWrapper; first | (rw [if_pos (by decide +kernel)]; kernel_rfl) | (rw [if_neg (by decide +kernel)]; exact ⟨rfl, rfl⟩))
    (fun os started H enc _ => lifted os started H enc)

theorem proved : Rows.DrawOnceSaid := over
end Go.Proofs.Ytjkdmpegdgkdfaa.DrawOnce
