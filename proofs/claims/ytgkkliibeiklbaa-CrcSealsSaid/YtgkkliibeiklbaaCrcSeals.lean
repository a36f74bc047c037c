
/-
  CrcSeals answers true for every input. No condition.
-/
import Derived.Test.YtgkkliibeiklbaaCrcLv
import Derived.Test.YtgkkliibeiklbaaLaw
namespace Go.Proofs.Ytgkkliibeiklbaa.CrcSeals
open Go.ChangeShapes Go.WideShapes Go.ChangeAt Go.RowKit
set_option maxHeartbeats 400000
set_option linter.unusedVariables false
open Go.Proofs.Ytgkkliibeiklbaa
set_option maxHeartbeats 4000000 in
set_option maxRecDepth 100000 in
theorem walk (Ab : Option Addr) (b : List Int) (cb : Nat) (w : World) (rb : Rd (Value.int .u8) w w.heap.size Ab b) (ub : U8s b) (lb : b.length ≤ cb) (mb : cb ≤ 9223372036854775807) :
    Calls Try.prog 4 #[.slice Ab b.length cb] w fun e w' => e = .returned (.bool true) ∧ Below w.heap.size w w' := by
  have RB := hid rb
  clear rb
  by_cases hf : b.length ≤ 66000
  · have C1 := hid (fun W h => crc_Seal (A := Ab) (c := cb) b (by omega) ub W h)
    have C2 := hid (fun W h => ref_Seal (A := Ab) (c := cb) b (by omega) ub W (B := W.heap.size) h)
    have C3 := hid (fun W h => crc_Open (A := Ab) (c := cb) b (by omega) lb ub W h)
    have C4 := hid (fun W h => ref_Open (A := Ab) (c := cb) b (by omega) lb ub W h)
    have CX := hid (same_yes (sealV_bytes ub))
    have CZ := hid (same_yes (openV_bytes ub))
    have CB := hid (same_yes ub)
    have hXl : (sealV b).length ≤ 70000 := by
      unfold sealV
      split
      · simp
      · rw [List.length_append, le4_len]; omega
    have hZl : (openV b).length ≤ 70000 := by
      unfold openV
      split
      · simp
      · rw [List.length_take]; omega
    obtain ⟨X, hX⟩ : ∃ X, sealV b = X := ⟨_, rfl⟩
    obtain ⟨E, hE⟩ : ∃ X, sealE b = X := ⟨_, rfl⟩
    obtain ⟨Z, hZ⟩ : ∃ X, openV b = X := ⟨_, rfl⟩
    obtain ⟨F, hF⟩ : ∃ X, openE b = X := ⟨_, rfl⟩
    rw [hX, hE] at C1 C2
    rw [hZ, hF] at C3 C4
    rw [hX] at CX hXl
    rw [hZ] at CZ hZl
    clear hX hE hZ hF ub
    go_enter Try.func4, Try.ntmps4
    go_wp2_with fail
    refine (live_yes _).mono ?_
    rintro _ w1 ⟨rfl, k1⟩
    go_wp2_with (at_builtin; refine wpList_app (Value.int .u8) (fun _ => rfl) _ rfl _ _ 22 rfl w1.heap.size 5 (.int .u8 0) 1 Try.underlying22 info_u8 rfl [] _ 0 rfl (own_nil _ _ _) b _ cb _ rfl (RB.out.on k1) (by simp [maxLen]; omega) (by simp; omega) (Nat.le_refl _) ?_)
    rintro S A2 c2 w2 hS ho hb2 _
    subst hS
    have HW2 := hid (own_rd ho)
    have k2 := k1.trans (hb2.mono k1.size)
    clear ho hb2 k1
    have K2 := hid k2
    have HB2 := hid (RB.out.on k2)
    have HV2 := hid HW2.out
    have MK := Below.refl w2.heap.size w2
    go_wp2_with fail
    refine (C1.out w2 (RB.out.on k2)).mono ?_
    rintro _ w101 ⟨A101, c101, rfl, ho101, hb101⟩
    have k101 := k2.trans (hb101.mono k2.size)
    have HL102 := hid (HW2.out.on hb101)
    clear HW2
    have MK103 := MK.trans (hb101.mono MK.size)
    clear MK
    have HS101 := hid (own_rd ho101)
    have HO101 := hid ho101
    clear ho101
    clear hb101 k2
    have MX := Below.refl w101.heap.size w101
    go_wp2_with fail
    refine (C2.out w101 (RB.out.on k101)).mono ?_
    rintro _ w104 ⟨A104, c104, rfl, ho104, hb104⟩
    have k104 := k101.trans (hb104.mono k101.size)
    have HL105 := hid (HL102.out.on hb104)
    clear HL102
    have HL106 := hid (HS101.out.on hb104)
    clear HS101
    have MK107 := MK103.trans (hb104.mono MK103.size)
    clear MK103
    have MK108 := MX.trans (hb104.mono MX.size)
    clear MX
    have HS104 := hid (own_rd ho104)
    have HO104 := hid ho104
    clear ho104
    clear hb104 k101
    have WZ := hid (MK107.size)
    have HP := hid (fun (g : Nat) (hA : A101 = some ⟨g, 0, none⟩) => Nat.lt_of_lt_of_le (own_lt (hA ▸ HO101.out)) MK108.size)
    go_wp2_with fail
    refine (C3.out w104 (RB.out.on k104)).mono ?_
    rintro _ w109 ⟨A109, c109, rfl, ho109, hb109⟩
    have k109 := k104.trans (hb109.mono k104.size)
    have HL110 := hid (HL105.out.on hb109)
    clear HL105
    have HL111 := hid (HL106.out.on hb109)
    clear HL106
    have HL112 := hid (HS104.out.on hb109)
    clear HS104
    have MK113 := MK107.trans (hb109.mono MK107.size)
    clear MK107
    have MK114 := MK108.trans (hb109.mono MK108.size)
    clear MK108
    have HS109 := hid (own_rd ho109)
    have HO109 := hid ho109
    clear ho109
    clear hb109 k104
    have MZ := Below.refl w109.heap.size w109
    go_wp2_with fail
    refine (C4.out w109 (RB.out.on k109)).mono ?_
    rintro _ w115 ⟨A115, c115, rfl, ho115, hb115⟩
    have k115 := k109.trans (hb115.mono k109.size)
    have HL116 := hid (HL110.out.on hb115)
    clear HL110
    have HL117 := hid (HL111.out.on hb115)
    clear HL111
    have HL118 := hid (HL112.out.on hb115)
    clear HL112
    have HL119 := hid (HS109.out.on hb115)
    clear HS109
    have MK120 := MK113.trans (hb115.mono MK113.size)
    clear MK113
    have MK121 := MK114.trans (hb115.mono MK114.size)
    clear MK114
    have MK122 := MZ.trans (hb115.mono MZ.size)
    clear MZ
    have HS115 := hid (own_rd ho115)
    have HO115 := hid ho115
    clear ho115
    clear hb115 k109
    go_wp2_with fail
    refine (CX.out _ _ _ _ w115 _ _ HL117.out HL118.out).mono ?_
    rintro _ _ ⟨rfl, rfl⟩
    go_wp2_with fail
    refine (CZ.out _ _ _ _ w115 _ _ HL119.out HS115.out).mono ?_
    rintro _ _ ⟨rfl, rfl⟩
    have HOX := hid (own_on HO101.out MK121)
    have HOZ := hid (own_on HO109.out MK122)
    have HMK := hid MK120
    clear k115 MK121 MK120 MK122
    go_wp2_with fail
    go_loopw [65] (fun i wr => ∃ (k : Nat) (zs : List Int), k ≤ X.length ∧ i = .int .i64 k ∧ zs.length = X.length ∧ wr.ownsRow w2.heap.size 5 1 (.slice A101 X.length c101) X.length (zs.map (Value.int .u8)) ∧ wr.ownsRow w104.heap.size 5 1 (.slice A109 Z.length c109) Z.length (Z.map (Value.int .u8)) ∧ Below w2.heap.size w2 wr) (fun i _ => X.length - (intOf i).toNat)
    case atStart => exact ⟨0, X, by omega, rfl, rfl, HOX.out, HOZ.out, HMK.out⟩
    case round =>
      obtain ⟨k, zs, hk, rfl, hz, hown, hown2, hbr⟩ := hrel
      have HZ := hid hz
      have HO := hid hown
      have HO2 := hid hown2
      clear HOX HOZ HMK
      by_cases hlt : k < X.length
      · obtain ⟨g, hg, hgb, hgc, hgf⟩ := own_cellk hown (show k < zs.length by omega)
        have hgl := HP.out g hg
        clear HP
        subst hg
        clear hz hown hown2
        go_wp2_with fail
        go_roundw
        case rel =>
          refine ⟨k + 1, zs.set k ((zs.getD k 0 + 1) % 256), by omega, by go_num, by rw [List.length_set]; exact HZ.out, ?_, ownsRow_setCell_below HO2.out hgl _, hbr.setCell hgb _⟩
          have h := (HO.out.stored k (.int .u8 ((zs.getD k 0 + 1) % 256))).1
          rw [← List.map_set] at h
          exact h
        case measure => simp [intOf]; omega
      · obtain rfl : k = X.length := by omega
        clear hz hown hown2 HZ HO HP
        go_wp2_with fail
        go_loopw [77] (fun i wr => ∃ (k : Nat) (zs : List Int), k ≤ Z.length ∧ i = .int .i64 k ∧ zs.length = Z.length ∧ wr.ownsRow w104.heap.size 5 1 (.slice A109 Z.length c109) Z.length (zs.map (Value.int .u8)) ∧ Below w2.heap.size w2 wr) (fun i _ => Z.length - (intOf i).toNat)
        case atStart => exact ⟨0, Z, by omega, rfl, rfl, HO2.out, hbr⟩
        case round =>
          obtain ⟨k, zs, hk, rfl, hz, hown, hbr⟩ := hrel
          have HZ := hid hz
          have HO := hid hown
          by_cases hlt : k < Z.length
          · obtain ⟨g, hg, hgb, hgc, hgf⟩ := own_cellk hown (show k < zs.length by omega)
            have hgb2 : w2.heap.size ≤ g := Nat.le_trans WZ.out hgb
            subst hg
            clear hz hown
            go_wp2_with fail
            go_roundw
            case rel =>
              refine ⟨k + 1, zs.set k ((zs.getD k 0 + 1) % 256), by omega, by go_num, by rw [List.length_set]; exact HZ.out, ?_, hbr.setCell hgb2 _⟩
              have h := (HO.out.stored k (.int .u8 ((zs.getD k 0 + 1) % 256))).1
              rw [← List.map_set] at h
              exact h
            case measure => simp [intOf]; omega
          · obtain rfl : k = Z.length := by omega
            clear hz hown HZ HO HO2
            go_wp2_with fail
            refine (CB.out _ _ _ _ wr _ _ (HB2.out.below hbr) (HV2.out.below hbr)).mono ?_
            rintro _ _ ⟨rfl, rfl⟩
            go_wp2_with fail
            go_ret
            exact ⟨rfl, K2.out.trans (hbr.mono K2.out.size)⟩
  · have hf2 : 66000 < b.length := by omega
    clear hf ub
    go_enter Try.func4, Try.ntmps4
    go_wp2_with fail
    refine (live_yes _).mono ?_
    rintro _ w1 ⟨rfl, k1⟩
    go_wp2_with fail
    go_ret
    exact ⟨rfl, k1⟩
theorem law_types : ∀ t ∈ Try.f4.params.toList, Try.prog.readableRec t = true ∧ t < Try.prog.types.size := by
  have h : (Try.f4.params.toList.all fun t => Try.prog.readableRec t && decide (t < Try.prog.types.size)) = true := by kernel_rfl
  intro t ht
  simpa using List.all_eq_true.1 h t ht
set_option maxRecDepth 100000 in
theorem lifted (os : Os) (started : os.Started) (H : Type) (enc : TypeId × Value → H) :
    ReturnsInHanded {} Try.checked os 4 .any (Rows.crcSealsSpec.pre6 enc Try.prog Try.f4 Rows.crcSealsRow.domain false) (Rows.crcSealsSpec.post enc Try.prog Try.f4 false true false false) := by
  refine returnsInHanded_of_change (C := Try.checked) own started (by kernel_rfl) Try.func4
    (ChangeSpec.witness6 (enc := enc) (C := Try.checked) false ⟨#[], #[.slice none 0 0], []⟩ 8 (by kernel_rfl) (by kernel_rfl) (by kernel_rfl) (by kernel_rfl)) ?_
  intro W base args ds gs before hval0 hW hcnd _
  have hval : ∀ (j : Nat) t v, Try.f4.params[j]? = some t → args[j]? = some v → Value.okWide Try.prog W .any base t v := hval0
  have hW' := hW
  obtain ⟨p, q, hA0, hV, rfl, hfz, hnd⟩ := hW
  have hA : DataW.TrodAll enc Try.prog W 0 (fun _ => true) true Try.f4.params.toList args.toList ds p := hA0
  rw [Try.params4] at hA hval
  obtain ⟨v0, vs0, d0, ds0, p0, q0, hargs, rfl, rfl, h0, r0⟩ := trodAll_cons hA
  obtain ⟨rfl, rfl, rfl⟩ := trodAll_nil r0
  obtain rfl : args = #[v0] := by cases args; simp_all
  obtain ⟨rfl, rfl⟩ := trodVars_none hV
  obtain ⟨Ab, b, cb, rfl, rdb, ib, lcb, lmb⟩ := open_nums Try.underlying22 Try.underlying5 cells_u8 (hval 0 22 v0 rfl rfl) h0
  clear hA0 hval0
  refine (walk Ab b cb W rdb (fun x hx => bounds_u8 (ib x hx)) lcb lmb).mono fun e W' ⟨he, hb⟩ => ?_
  subst he
  exact ⟨_, rfl, law_post laid (fun t ht => law_types t ht) rfl hW' ⟨rfl, rfl, rfl⟩ (by kernel_rfl) Try.underlying4 hb⟩

theorem over : Rows.crcSealsRow.holds Try.pinned (OpenSpec.ofChange Rows.crcSealsSpec) :=
  OpenClaim.holds_of_wide 4 Try.f4 rfl rfl rfl rfl rfl rfl rfl ⟨rfl, rfl, rfl, rfl, rfl⟩ rfl rfl rfl rfl rfl (by kernel_rfl) Try.func4 (by kernel_rfl)
    (of_decide_eq_true (by kernel_rfl)) (by unfold Func.isWrapper; first | (rw [if_pos (by decide +kernel)]; kernel_rfl) | (rw [if_neg (by decide +kernel)]; exact ⟨rfl, rfl⟩))
    (fun os started H enc _ => lifted os started H enc)

theorem proved : Rows.CrcSealsSaid := over
end Go.Proofs.Ytgkkliibeiklbaa.CrcSeals
