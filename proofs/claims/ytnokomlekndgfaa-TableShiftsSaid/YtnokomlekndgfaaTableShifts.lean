
/-
  TableShifts answers true for every input. No condition.
-/
import Derived.Test.YtnokomlekndgfaaTbLv
import Derived.Test.YtnokomlekndgfaaArg
import Derived.Test.YtnokomlekndgfaaLaw
namespace Go.Proofs.Ytnokomlekndgfaa.TableShifts
open Go.ChangeShapes Go.WideShapes Go.ChangeAt Go.RowKit
set_option maxHeartbeats 400000
set_option linter.unusedVariables false
open Go.Proofs.Ytnokomlekndgfaa
theorem shs_next {z : List Int} {B x : Int} {k : Nat} (hx : z[k]? = some x) : (z.take (k + 1)).map (· + B) = (z.take k).map (· + B) ++ [x + B] := by
  rw [List.take_add_one, hx, List.map_append]
  rfl
theorem shs_by (b : Int) : ∃ B, b.tmod 2305843009213693952 = B ∧ -2305843009213693952 < B ∧ B < 2305843009213693952 := by
  refine ⟨_, rfl, ?_, ?_⟩
  · have := Int.lt_tmod_of_pos b (show (0 : Int) < 2305843009213693952 by decide); omega
  · exact Int.tmod_lt_of_pos b (by decide)
theorem shs_add {x B : Int} (h1 : ¬ x > 2305843009213693952) (h2 : ¬ x < -2305843009213693952) (h3 : -2305843009213693952 < B) (h4 : B < 2305843009213693952) : ∃ y, x + B = y ∧ IntKind.i64.wrap (x + B) = y ∧ wrap64 (x + B) = y ∧ I64 y := by
  have h : I64 (x + B) := by unfold I64; omega
  exact ⟨_, rfl, Go.IntWalk.i64_in _ h, Go.IntWalk.wrap64_in _ h, h⟩
set_option maxHeartbeats 2000000 in
set_option maxRecDepth 100000 in
theorem walk (frac : Int) (Az : Option Addr) (z : List Int) (cz : Nat) (bz : Int) (w : World) (hf : I64 frac) (rz : Rd (Value.int .i64) w w.heap.size Az z) (iz : I64s z) (lz : z.length ≤ cz) (mz : cz ≤ 9223372036854775807) (hbz : I64 bz) :
    Calls Try.prog 8 #[.int .i64 frac, .slice Az z.length cz, .int .i64 bz] w fun e w' => e = .returned (.bool true) ∧ Below w.heap.size w w' := by
  have hl : z.length ≤ 9223372036854775807 := by omega
  have HN := hid rz
  have CF := hid (fun W => tb_few (A := Az) (c := cz) z hl W)
  cases hfew : fewB z with
  | false =>
    rw [hfew] at CF
    clear hfew rz iz lz mz
    go_enter Try.func8, Try.ntmps8
    go_wp2_with fail
    refine (tb_live _).mono ?_
    rintro _ w1 ⟨rfl, k1⟩
    go_wp2_with fail
    refine (CF.out w1).mono ?_
    rintro _ _ ⟨rfl, rfl⟩
    go_wp2_with fail
    go_ret
    exact ⟨rfl, k1⟩
  | true =>
    rw [hfew] at CF
    have hl5 : z.length ≤ 5000 := by unfold fewB at hfew; simp at hfew; omega
    obtain ⟨B, hB, b1, b2⟩ := shs_by bz
    have C1 := hid (fun W (h : Rd (Value.int .i64) W W.heap.size Az z) => tb_Soft (c := cz) frac z hl iz W h)
    have C3 := hid (fun W (h : Rd (Value.int .i64) W W.heap.size Az z) => tb_Best (c := cz) z hl W h)
    obtain ⟨Zs, hZs⟩ : ∃ Zs, z.map (· + B) = Zs := ⟨_, rfl⟩
    have hZl : Zs.length = z.length := by rw [← hZs, List.length_map]
    obtain ⟨f1, f2, f3, f4⟩ := sof_shift frac B z
    rw [hZs] at f1 f2 f3 f4
    have C2 := hid (fun (iZ : I64s Zs) A c W (h : Rd (Value.int .i64) W W.heap.size A Zs) => tb_Soft (c := c) frac Zs (by omega) iZ W h)
    have C4 := hid (fun A c W (h : Rd (Value.int .i64) W W.heap.size A Zs) => tb_Best (c := c) Zs (by omega) W h)
    rw [f3, f4] at C2
    rw [f1, f2] at C4
    have hsl : (sofV frac z).length ≤ 5000 := by
      unfold sofV
      split
      · rw [sofL_len]; exact hl5
      · simp
    obtain ⟨V, hV⟩ : ∃ V, sofV frac z = V := ⟨_, rfl⟩
    obtain ⟨E, hE⟩ : ∃ E, sofE frac z = E := ⟨_, rfl⟩
    obtain ⟨Q, hQ⟩ : ∃ Q, bstN z = Q := ⟨_, rfl⟩
    obtain ⟨F, hF⟩ : ∃ F, bstE z = F := ⟨_, rfl⟩
    rw [hV, hE] at C1 C2
    rw [hQ, hF] at C3 C4
    rw [hV] at hsl
    have CS := hid (fun (A B : Option Addr) (c d : Nat) (W : World) (h1 : Rd (Value.int .i64) W W.heap.size A V) (h2 : Rd (Value.int .i64) W W.heap.size B V) => tb_rsame (A := A) (B := B) (c := c) (d := d) V (by omega) W h1 h2)
    obtain ⟨M, hM⟩ : ∃ M, z.length = M := ⟨_, rfl⟩
    rw [hM] at hl5 hZl C1 C3 CF ⊢
    have HM := hid hM
    have HZl := hid hZl
    have HZs := hid hZs
    have HI := hid iz
    have HBB := hid (And.intro b1 b2)
    have HL5 := hid hl5
    clear hV hE hQ hF hfew rz iz lz mz hsl hl hM hZl hZs f1 f2 f3 f4 b1 b2 hl5 hf hbz
    go_enter Try.func8, Try.ntmps8
    go_wp2_with fail
    refine (tb_live _).mono ?_
    rintro _ w1 ⟨rfl, k1⟩
    have K1 := hid k1
    clear k1
    go_wp2_with fail
    refine (CF.out w1).mono ?_
    rintro _ _ ⟨rfl, rfl⟩
    clear CF
    go_wp2_with fail
    go_loopw [8, 10, 30] (fun xo _ xi wr => ∃ (k : Nat) (S : List Int) (A2 : Option Addr) (c2 : Nat), k ≤ M ∧ xi = .int .i64 (k : Int) ∧ xo = .slice A2 S.length c2 ∧ S = (z.take k).map (· + B) ∧ wr.ownsRow w.heap.size 2 1 (.slice A2 S.length c2) S.length (S.map (Value.int .i64)) ∧ Below w.heap.size w wr ∧ I64s S) (fun _ _ xi _ => M - (intOf xi).toNat)
    case atStart => exact ⟨0, [], none, 0, by omega, rfl, rfl, rfl, own_nil _ _ _, K1.out, fun x hx => by simp at hx⟩
    case round =>
      obtain ⟨k, S, A2, c2, hk, rfl, rfl, hS, ho, hbel, hi⟩ := hrel
      have hl5 := HL5.out
      have hSl : S.length = k := by rw [hS, List.length_map, List.length_take, HM.out]; omega
      have HSk := hid hS
      have HSl := hid hSl
      have HO := hid ho
      have HBL := hid hbel
      have HIS := hid hi
      clear hS ho hi K1 hSl
      by_cases hlt : k < M
      · obtain ⟨b1, o1, x, rfl, l1, en, c1⟩ := (HN.out.on hbel).at_ (k := k) (by rw [HM.out]; exact hlt)
        have HX := hid en
        clear hbel en
        by_cases h1 : x > 2305843009213693952
        · have hop : ∀ t, binOp .gtr t (.int .i64 x) (.int .i64 2305843009213693952) = pure (.bool true) := fun t => by rw [binOp_gtr, decide_eq_true h1]
          clear h1
          go_wp2_with fail
          go_ret
          exact ⟨rfl, HBL.out⟩
        · by_cases h2 : x < -2305843009213693952
          · have hop : ∀ t, binOp .gtr t (.int .i64 x) (.int .i64 2305843009213693952) = pure (.bool false) := fun t => by rw [binOp_gtr, decide_eq_false h1]
            have hop2 : ∀ t, binOp .lss t (.int .i64 x) (.int .i64 (-2305843009213693952)) = pure (.bool true) := fun t => by rw [binOp_lss, decide_eq_true h2]
            clear h1 h2
            go_wp2_with fail
            go_ret
            exact ⟨rfl, HBL.out⟩
          · have hop : ∀ t, binOp .gtr t (.int .i64 x) (.int .i64 2305843009213693952) = pure (.bool false) := fun t => by rw [binOp_gtr, decide_eq_false h1]
            have hop2 : ∀ t, binOp .lss t (.int .i64 x) (.int .i64 (-2305843009213693952)) = pure (.bool false) := fun t => by rw [binOp_lss, decide_eq_false h2]
            obtain ⟨y, hy, ha, hb64, hai⟩ := shs_add h1 h2 HBB.out.1 HBB.out.2
            have HA := hid hai
            have hn := shs_next (B := B) HX.out
            rw [hy] at hn
            have HNX := hid hn
            have hr0 : Rd (Value.int .i64) (wr.alloc (.cells #[.int .i64 y] 2)) _ (some ⟨wr.heap.size, 0, none⟩) [y] := rd_one (one_cell wr (.int .i64 y) 2).1
            have h0' := own_on HO.out ((Below.refl wr.heap.size wr).alloc (Nat.le_refl _) (.cells #[.int .i64 y] 2))
            clear h1 h2 hai hn hy
            go_wp2_with (at_builtin; refine wpList_app (Value.int .i64) (fun _ => rfl) _ rfl _ _ 32 rfl w.heap.size 2 (.int .i64 0) 8 Try.underlying32 info_i64 rfl S _ _ rfl h0' [y] _ 1 _ rfl hr0 (by have := HSl.out; have := HL5.out; simp [maxLen]; omega) (by have := HSl.out; have := HL5.out; simp; omega) (by have := HBL.out.size; simp; omega) ?_)
            rintro S' A' c' w5 hS' ho' hb5 _
            have HS' := hid hS'
            have HO' := hid ho'
            have HK5 : Hid (Below w.heap.size w w5) := hid ((HBL.out.alloc HBL.out.size _).trans hb5)
            clear hS' ho' h0' hr0 hb5
            go_wp2_with fail
            go_roundw
            case rel =>
              refine ⟨k + 1, S', A', c', by omega, by go_num, rfl, by rw [HS'.out, HNX.out, HSk.out], HO'.out, HK5.out, ?_⟩
              intro v hv
              rw [HS'.out] at hv
              rcases List.mem_append.1 hv with h | h
              · exact HIS.out v h
              · simp at h; subst h; exact HA.out
            case measure => simp [intOf]; omega
      · obtain rfl : k = M := by omega
        have hSZ : S = Zs := by rw [HSk.out, List.take_of_length_le (by rw [HM.out]; exact Nat.le_refl _), HZs.out]
        subst hSZ
        have RS : Hid (Rd (Value.int .i64) wr wr.heap.size A2 S) := hid (own_rd HO.out)
        have RZ := hid (HN.out.on HBL.out)
        have C2' := hid (C2.out HIS.out)
        clear C2 HSk hbel
        go_wp2_with fail
        refine (C1.out _ RZ.out).mono ?_
        rintro _ w3 ⟨A3, c3, rfl, ho3, hb3⟩
        have K3 : Hid (Below w.heap.size w w3) := hid (HBL.out.trans (hb3.mono HBL.out.size))
        have R3 : Hid (Rd (Value.int .i64) w3 w3.heap.size A3 V) := hid (own_rd ho3)
        have RS3 := hid (RS.out.on hb3)
        clear hb3 ho3 RS RZ
        go_wp2_with fail
        refine (C2'.out _ _ _ RS3.out).mono ?_
        rintro _ w4 ⟨A4, c4, rfl, ho4, hb4⟩
        have K4 : Hid (Below w.heap.size w w4) := hid (K3.out.trans (hb4.mono K3.out.size))
        have R4 : Hid (Rd (Value.int .i64) w4 w4.heap.size A4 V) := hid (own_rd ho4)
        have R34 := hid (R3.out.on hb4)
        have RS4 := hid (RS3.out.on hb4)
        have RZ4 : Hid (Rd (Value.int .i64) w4 w4.heap.size Az z) := hid (HN.out.on K4.out)
        clear hb4 ho4 K3 RS3 R3
        go_wp2_with fail
        refine (C3.out _ RZ4.out).mono ?_
        rintro _ w5 ⟨rfl, hb5⟩
        have K5 : Hid (Below w.heap.size w w5) := hid (K4.out.trans (hb5.mono K4.out.size))
        have R45 := hid (R4.out.on hb5)
        have R35 := hid (R34.out.on hb5)
        have RS5 := hid (RS4.out.on hb5)
        clear hb5 K4 RS4 RZ4 R34 R4
        go_wp2_with fail
        refine (C4.out _ _ _ RS5.out).mono ?_
        rintro _ w6 ⟨rfl, hb6⟩
        have K6 : Hid (Below w.heap.size w w6) := hid (K5.out.trans (hb6.mono K5.out.size))
        have R46 := hid (R45.out.on hb6)
        have R36 := hid (R35.out.on hb6)
        clear hb6 K5 RS5 R35 R45
        go_wp2_with fail
        refine (CS.out _ _ _ _ _ R36.out R46.out).mono ?_
        rintro _ w7 ⟨rfl, hb7⟩
        have K7 : Hid (Below w.heap.size w w7) := hid (K6.out.trans (hb7.mono K6.out.size))
        clear hb7 K6
        go_wp2_with fail
        go_ret
        exact ⟨rfl, K7.out⟩
theorem law_types : ∀ t ∈ Try.f8.params.toList, Try.prog.readableRec t = true ∧ t < Try.prog.types.size := by
  have h : (Try.f8.params.toList.all fun t => Try.prog.readableRec t && decide (t < Try.prog.types.size)) = true := by kernel_rfl
  intro t ht
  simpa using List.all_eq_true.1 h t ht
set_option maxRecDepth 100000 in
theorem lifted (os : Os) (started : os.Started) (H : Type) (enc : TypeId × Value → H) :
    ReturnsInHanded {} Try.checked os 8 .any (Rows.tableShiftsSpec.pre6 enc Try.prog Try.f8 Rows.tableShiftsRow.domain false) (Rows.tableShiftsSpec.post enc Try.prog Try.f8 false true false false) := by
  refine returnsInHanded_of_change (C := Try.checked) own started (by kernel_rfl) Try.func8
    (ChangeSpec.witness6 (enc := enc) (C := Try.checked) false ⟨#[], #[.int .i64 0, .slice none 0 0, .int .i64 0], []⟩ 8 (by kernel_rfl) (by kernel_rfl) (by kernel_rfl) (by kernel_rfl)) ?_
  intro W base args ds gs before hval0 hW hcnd _
  have hval : ∀ (j : Nat) t v, Try.f8.params[j]? = some t → args[j]? = some v → Value.okWide Try.prog W .any base t v := hval0
  have hW' := hW
  obtain ⟨p, q, hA0, hV, rfl, hfz, hnd⟩ := hW
  have hA : DataW.TrodAll enc Try.prog W 0 (fun _ => true) true Try.f8.params.toList args.toList ds p := hA0
  rw [Try.params8] at hA hval
  obtain ⟨v0, vs0, d0, ds0, p0, q0, hargs, rfl, rfl, h0, r0⟩ := trodAll_cons hA
  obtain ⟨v1, vs1, d1, ds1, p1, q1, rfl, rfl, rfl, h1, r1⟩ := trodAll_cons r0
  obtain ⟨v2, vs2, d2, ds2, p2, q2, rfl, rfl, rfl, h2, r2⟩ := trodAll_cons r1
  obtain ⟨rfl, rfl, rfl⟩ := trodAll_nil r2
  obtain rfl : args = #[v0, v1, v2] := by cases args; simp_all
  obtain ⟨rfl, rfl⟩ := trodVars_none hV
  obtain ⟨frac, rfl, rfl, rfl, w0⟩ := open_int Try.underlying3 (hval 0 3 v0 rfl rfl) h0
  obtain ⟨Az, z, cz, rfl, rdz, iz, lcz, lmz⟩ := open_nums Try.underlying32 Try.underlying2 cells_i64' (hval 1 32 v1 rfl rfl) h1
  obtain ⟨bz, rfl, rfl, rfl, w2⟩ := open_int Try.underlying2 (hval 2 2 v2 rfl rfl) h2
  clear hA0 hval0
  refine (walk frac Az z cz bz W (I64.of_wf w0) rdz (fun x hx => I64.of_wf (iz x hx)) lcz lmz (I64.of_wf w2)).mono fun e W' ⟨he, hb⟩ => ?_
  subst he
  exact ⟨_, rfl, law_post laid (fun t ht => law_types t ht) rfl hW' ⟨rfl, rfl, rfl⟩ (by kernel_rfl) Try.underlying4 hb⟩

theorem over : Rows.tableShiftsRow.holds Try.pinned (OpenSpec.ofChange Rows.tableShiftsSpec) :=
  OpenClaim.holds_of_wide 8 Try.f8 rfl rfl rfl rfl rfl rfl rfl ⟨rfl, rfl, rfl, rfl, rfl⟩ rfl rfl rfl rfl rfl (by kernel_rfl) Try.func8 (by kernel_rfl)
    (of_decide_eq_true (by kernel_rfl)) (by unfold Func.isWrapper; first | (rw [if_pos (by decide +kernel)]; kernel_rfl) | (rw [if_neg (by decide +kernel)]; exact ⟨rfl, rfl⟩))
    (fun os started H enc _ => lifted os started H enc)

theorem proved : Rows.TableShiftsSaid := over
end Go.Proofs.Ytnokomlekndgfaa.TableShifts
