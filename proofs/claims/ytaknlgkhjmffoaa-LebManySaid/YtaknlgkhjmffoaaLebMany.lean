
/-
  LebMany answers true for every input. No condition.
-/
import Derived.Test.YtaknlgkhjmffoaaLebLv
import Derived.Test.YtaknlgkhjmffoaaLaw
namespace Go.Proofs.Ytaknlgkhjmffoaa.LebMany
open Go.ChangeShapes Go.WideShapes Go.ChangeAt Go.RowKit
set_option maxHeartbeats 400000
set_option linter.unusedVariables false
open Go.Proofs.Ytaknlgkhjmffoaa
theorem get_two {X Y a b : List Int} (ua : U64s a) (ub : U64s b) (hX : encs a = X) (hY : X ++ encs b = Y) :
    mnyV Y ((a.length : Int) + (b.length : Int)) 0 = (a ++ b, (Y.length : Int), 0) ∧ mnyV Y (a.length : Int) 0 = (a, (X.length : Int), 0) ∧
    mnyV Y ((a.length : Int) + (b.length : Int) + 1) 0 = ([], 0, 5) ∧ mnyV Y (b.length : Int) (X.length : Int) = (b, (Y.length : Int), 0) := by
  subst hX hY
  have uab : U64s (a ++ b) := fun x hx => (List.mem_append.1 hx).elim (ua x) (ub x)
  unfold mnyV
  refine ⟨?_, ?_, ?_, ?_⟩
  · rw [if_neg (by omega), show ((a.length : Int) + (b.length : Int)).toNat = (a ++ b).length by simp; omega]
    have := mny_put (b := encs a ++ encs b) (behind := []) (a ++ b) [] [] uab (by rw [encs_app]; simp)
    simpa [encs_app] using this
  · rw [if_neg (by omega), show (a.length : Int).toNat = a.length by omega]
    have := mny_put (b := encs a ++ encs b) (behind := encs b) a [] [] ua (by simp)
    simpa using this
  · rw [if_neg (by omega), show ((a.length : Int) + (b.length : Int) + 1).toNat = (a ++ b).length + 1 by simp; omega]
    have := mny_more (b := encs a ++ encs b) (a ++ b) [] [] uab (by rw [encs_app]; simp)
    simpa using this
  · rw [if_neg (by omega), show (b.length : Int).toNat = b.length by omega]
    have := mny_put (b := encs a ++ encs b) (behind := []) b (encs a) [] ub (by simp)
    simpa using this
set_option maxHeartbeats 4000000 in
set_option maxRecDepth 100000 in
theorem walk (Aa : Option Addr) (a : List Int) (ca : Nat) (Ab : Option Addr) (b : List Int) (cb : Nat) (w : World) (ra : Rd (Value.int .u64) w w.heap.size Aa a) (ua : U64s a) (la : a.length ≤ ca) (ma : ca ≤ 9223372036854775807)
    (rb : Rd (Value.int .u64) w w.heap.size Ab b) (ub : U64s b) (lb : b.length ≤ cb) (mb : cb ≤ 9223372036854775807) :
    Calls Try.prog 8 #[.slice Aa a.length ca, .slice Ab b.length cb] w fun e w' => e = .returned (.bool true) ∧ Below w.heap.size w w' := by
  have RA := hid ra
  have RB := hid rb
  clear ra rb
  by_cases hfa : (a.length : Int) ≤ 500
  · have CF1 := hid (few_yes none 0 0 a.length (by omega) hfa)
    by_cases hfb : (b.length : Int) ≤ 500
    · have CF2 := hid (few_yes none 0 0 b.length (by omega) hfb)
      have uX := encs_u8 ua
      have hXl := encs_len ua
      have uY := uX.app (encs_u8 ub)
      have hYl := encs_len ub
      have C1 := hid (fun W h1 h2 => leb_Put (A := none) (B := Aa) (c := 0) (d := ca) [] a (by decide) (by omega) ua W h1 h2)
      obtain ⟨X, hX⟩ : ∃ X, encs a = X := ⟨_, rfl⟩
      rw [hX] at uX hXl uY
      rw [List.nil_append, hX, show ([] : List Int).length = 0 from rfl] at C1
      have hXl2 : X.length ≤ 50000 := by omega
      have C2 := hid (fun A c W h1 h2 => leb_Put (A := A) (B := Ab) (c := c) (d := cb) X b hXl2 (by omega) ub W h1 h2)
      obtain ⟨Y, hY⟩ : ∃ Y, X ++ encs b = Y := ⟨_, rfl⟩
      rw [hY] at C2 uY
      obtain ⟨M1, M2, M3, M4⟩ := get_two ua ub hX hY
      have hlY : X.length ≤ Y.length := by rw [← hY, List.length_append]; omega
      have hYl2 : Y.length ≤ 100000 := by rw [← hY, List.length_append]; omega
      have C3 := hid (fun A c W q1 q2 h => leb_Many (A := A) (c := c) Y q1 q2 uY 0 ((a.length : Int) + (b.length : Int)) (by decide) (by omega) (by omega) W h)
      have C4 := hid (fun A c W q1 q2 h => leb_Many (A := A) (c := c) Y q1 q2 uY 0 (a.length : Int) (by decide) (by omega) (by omega) W h)
      have C5 := hid (fun A c W q1 q2 h => leb_Many (A := A) (c := c) Y q1 q2 uY 0 ((a.length : Int) + (b.length : Int) + 1) (by decide) (by omega) (by omega) W h)
      have C6 := hid (fun A c W q1 q2 h => leb_Many (A := A) (c := c) Y q1 q2 uY (X.length : Int) (b.length : Int) (by unfold I64; omega) (by omega) (by omega) W h)
      obtain ⟨L, hL⟩ : ∃ L, a ++ b = L := ⟨_, rfl⟩
      have hLl : L.length ≤ 9223372036854775807 := by rw [← hL, List.length_append]; omega
      have HLL := hid hL
      rw [M1, hL] at C3
      clear hL
      rw [M2] at C4
      rw [M3] at C5
      rw [M4] at C6
      have hla : a.length ≤ 9223372036854775807 := by omega
      have hlb : b.length ≤ 9223372036854775807 := by omega
      have CSN : Hid (∀ (xs : List Int) (A B : Option Addr) (c d : Nat) (W : World), xs.length ≤ 9223372036854775807 → Rd (Value.int .u64) W W.heap.size A xs → Rd (Value.int .u64) W W.heap.size B xs → Calls Try.prog 28 #[.slice A xs.length c, .slice B xs.length d] W fun e w' => e = .returned (.bool true) ∧ Below W.heap.size W w') := hid (fun xs A B c d W h h1 h2 => by
        have := ref_SameNumbers (A := A) (B := B) (c := c) (d := d) xs xs h h W h1 h2
        rwa [eqB_self] at this)
      have h500a : a.length ≤ 500 := by omega
      have h500b : b.length ≤ 500 := by omega
      clear hX hY M1 M2 M3 M4 uX uY ua ub hfa hfb hXl hYl
      go_enter Try.func8, Try.ntmps8
      go_wp2_with fail
      refine (live_yes _).mono ?_
      rintro _ w1 ⟨rfl, k1⟩
      go_wp2_with fail
      refine (CF1.out _).mono ?_
      rintro _ _ ⟨rfl, rfl⟩
      go_wp2_with fail
      refine (CF2.out _).mono ?_
      rintro _ _ ⟨rfl, rfl⟩
      go_wp2_with fail
      refine (C1.out w1 Rd.none_ (RA.out.on k1)).mono ?_
      rintro _ w101 ⟨A101, c101, rfl, ho101, hb101⟩
      have k101 := k1.trans (hb101.mono k1.size)
      obtain ⟨qa101, qb101⟩ := own_cap ho101
      have HS101 := hid (own_rd ho101)
      clear ho101
      clear hb101 k1
      go_wp2_with fail
      refine (C2.out _ _ w101 HS101.out (RB.out.on k101)).mono ?_
      rintro _ w102 ⟨A102, c102, rfl, ho102, hb102⟩
      have k102 := k101.trans (hb102.mono k101.size)
      have HL103 := hid (HS101.out.on hb102)
      clear HS101
      obtain ⟨qa102, qb102⟩ := own_cap ho102
      have HS102 := hid (own_rd ho102)
      clear ho102
      clear hb102 k101
      go_wp2_with fail
      refine (C3.out _ _ w102 qa102 qb102 HS102.out).mono ?_
      rintro _ w104 ⟨A104, c104, rfl, ho104, hb104⟩
      have k104 := k102.trans (hb104.mono k102.size)
      simp only at ho104 ⊢
      have HL105 := hid (HL103.out.on hb104)
      clear HL103
      have HL106 := hid (HS102.out.on hb104)
      clear HS102
      obtain ⟨qa104, qb104⟩ := own_cap ho104
      have HS104 := hid (own_rd ho104)
      clear ho104
      clear hb104 k102
      go_wp2_with fail
      refine (C4.out _ _ w104 qa102 qb102 HL106.out).mono ?_
      rintro _ w107 ⟨A107, c107, rfl, ho107, hb107⟩
      have k107 := k104.trans (hb107.mono k104.size)
      simp only at ho107 ⊢
      have HL108 := hid (HL105.out.on hb107)
      clear HL105
      have HL109 := hid (HL106.out.on hb107)
      clear HL106
      have HL110 := hid (HS104.out.on hb107)
      clear HS104
      obtain ⟨qa107, qb107⟩ := own_cap ho107
      have HS107 := hid (own_rd ho107)
      clear ho107
      clear hb107 k104
      go_wp2_with fail
      refine (C5.out _ _ w107 qa102 qb102 HL109.out).mono ?_
      rintro _ w111 ⟨A111, c111, rfl, ho111, hb111⟩
      have k111 := k107.trans (hb111.mono k107.size)
      simp only at ho111 ⊢
      have HL112 := hid (HL108.out.on hb111)
      clear HL108
      have HL113 := hid (HL109.out.on hb111)
      clear HL109
      have HL114 := hid (HL110.out.on hb111)
      clear HL110
      have HL115 := hid (HS107.out.on hb111)
      clear HS107
      obtain ⟨qa111, qb111⟩ := own_cap ho111
      have HS111 := hid (own_rd ho111)
      clear ho111
      clear hb111 k107
      go_wp2_with fail
      refine (C6.out _ _ w111 qa102 qb102 HL113.out).mono ?_
      rintro _ w116 ⟨A116, c116, rfl, ho116, hb116⟩
      have k116 := k111.trans (hb116.mono k111.size)
      simp only at ho116 ⊢
      have HL117 := hid (HL112.out.on hb116)
      clear HL112
      have HL118 := hid (HL113.out.on hb116)
      clear HL113
      have HL119 := hid (HL114.out.on hb116)
      clear HL114
      have HL120 := hid (HL115.out.on hb116)
      clear HL115
      have HL121 := hid (HS111.out.on hb116)
      clear HS111
      obtain ⟨qa116, qb116⟩ := own_cap ho116
      have HS116 := hid (own_rd ho116)
      clear ho116
      clear hb116 k111
      go_wp2_with (at_builtin; go_loud (refine wpList_app_if (Value.int .u64) (fun _ => rfl) _ rfl _ _ 23 rfl w116.heap.size 25 (.int .u64 0) 8 Try.underlying23 info_u64 rfl [] _ 0 rfl (own_nil _ _ _) a _ ca _ rfl (RA.out.on k116) (by simp [maxLen]; omega) (by simp; omega) (Nat.le_refl _) ?_))
      rintro S1 Ax cx wx hS1 hox hbx _
      obtain rfl : a = S1 := hS1.symm
      have kx := k116.trans (hbx.mono k116.size)
      go_wp2_with (at_builtin; go_loud (refine wpList_app_if (Value.int .u64) (fun _ => rfl) _ rfl _ _ 23 rfl w116.heap.size 25 (.int .u64 0) 8 Try.underlying23 info_u64 rfl a _ _ rfl hox b _ cb _ rfl (RB.out.on kx) (by unfold maxLen; omega) (by omega) hbx.size ?_))
      rintro S2 Ay cy wy hS2 hoy hby _
      have hby' := hbx.trans hby

      have ky := k116.trans (hby'.mono k116.size)
      have HL122 := hid (HL117.out.on hby')
      clear HL117
      have HL123 := hid (HL118.out.on hby')
      clear HL118
      have HL124 := hid (HL119.out.on hby')
      clear HL119
      have HL125 := hid (HL120.out.on hby')
      clear HL120
      have HL126 := hid (HL121.out.on hby')
      clear HL121
      have HL127 := hid (HS116.out.on hby')
      clear HS116
      have HAB := hid (own_rd hoy)
      clear hox hoy hbx hby hby' kx k116
      have e2 := hS2.trans HLL.out
      clear hS2 HLL
      subst e2
      go_wp2_with fail
      refine (CSN.out _ _ _ _ _ wy (by assumption) HL124.out HAB.out).mono ?_
      rintro _ w128 ⟨rfl, hb128⟩
      have k128 := ky.trans (hb128.mono ky.size)
      have HL129 := hid (HL122.out.on hb128)
      clear HL122
      have HL130 := hid (HL123.out.on hb128)
      clear HL123
      have HL131 := hid (HL124.out.on hb128)
      clear HL124
      have HL132 := hid (HL125.out.on hb128)
      clear HL125
      have HL133 := hid (HL126.out.on hb128)
      clear HL126
      have HL134 := hid (HL127.out.on hb128)
      clear HL127
      have HL135 := hid (HAB.out.on hb128)
      clear HAB
      clear hb128 ky
      go_wp2_with fail
      refine (CSN.out _ _ _ _ _ w128 hla HL132.out (RA.out.on k128)).mono ?_
      rintro _ w136 ⟨rfl, hb136⟩
      have k136 := k128.trans (hb136.mono k128.size)
      have HL137 := hid (HL129.out.on hb136)
      clear HL129
      have HL138 := hid (HL130.out.on hb136)
      clear HL130
      have HL139 := hid (HL131.out.on hb136)
      clear HL131
      have HL140 := hid (HL132.out.on hb136)
      clear HL132
      have HL141 := hid (HL133.out.on hb136)
      clear HL133
      have HL142 := hid (HL134.out.on hb136)
      clear HL134
      have HL143 := hid (HL135.out.on hb136)
      clear HL135
      clear hb136 k128
      go_wp2_with fail
      refine (CSN.out _ _ _ _ _ w136 hlb HL142.out (RB.out.on k136)).mono ?_
      rintro _ w144 ⟨rfl, hb144⟩
      have k144 := k136.trans (hb144.mono k136.size)
      have HL145 := hid (HL137.out.on hb144)
      clear HL137
      have HL146 := hid (HL138.out.on hb144)
      clear HL138
      have HL147 := hid (HL139.out.on hb144)
      clear HL139
      have HL148 := hid (HL140.out.on hb144)
      clear HL140
      have HL149 := hid (HL141.out.on hb144)
      clear HL141
      have HL150 := hid (HL142.out.on hb144)
      clear HL142
      have HL151 := hid (HL143.out.on hb144)
      clear HL143
      clear hb144 k136
      go_wp2_with fail
      go_ret
      exact ⟨rfl, k144⟩
    · have CF2 := hid (few_no none 0 0 b.length (by omega) (by omega))
      clear ua ub
      go_enter Try.func8, Try.ntmps8
      go_wp2_with fail
      refine (live_yes _).mono ?_
      rintro _ w1 ⟨rfl, k1⟩
      go_wp2_with fail
      refine (CF1.out _).mono ?_
      rintro _ _ ⟨rfl, rfl⟩
      go_wp2_with fail
      refine (CF2.out _).mono ?_
      rintro _ _ ⟨rfl, rfl⟩
      go_wp2_with fail
      go_ret
      exact ⟨rfl, k1⟩
  · have CF1 := hid (few_no none 0 0 a.length (by omega) (by omega))
    clear ua ub
    go_enter Try.func8, Try.ntmps8
    go_wp2_with fail
    refine (live_yes _).mono ?_
    rintro _ w1 ⟨rfl, k1⟩
    go_wp2_with fail
    refine (CF1.out _).mono ?_
    rintro _ _ ⟨rfl, rfl⟩
    go_wp2_with fail
    go_ret
    exact ⟨rfl, k1⟩
theorem law_types : ∀ t ∈ Try.f8.params.toList, Try.prog.readableRec t = true ∧ t < Try.prog.types.size := by
  have h : (Try.f8.params.toList.all fun t => Try.prog.readableRec t && decide (t < Try.prog.types.size)) = true := by kernel_rfl
  intro t ht
  simpa using List.all_eq_true.1 h t ht
set_option maxRecDepth 100000 in
theorem lifted (os : Os) (started : os.Started) (H : Type) (enc : TypeId × Value → H) :
    ReturnsInHanded {} Try.checked os 8 .any (Rows.lebManySpec.pre6 enc Try.prog Try.f8 Rows.lebManyRow.domain false) (Rows.lebManySpec.post enc Try.prog Try.f8 false true false false) := by
  refine returnsInHanded_of_change (C := Try.checked) own started (by kernel_rfl) Try.func8
    (ChangeSpec.witness6 (enc := enc) (C := Try.checked) false ⟨#[], #[.slice none 0 0, .slice none 0 0], []⟩ 8 (by kernel_rfl) (by kernel_rfl) (by kernel_rfl) (by kernel_rfl)) ?_
  intro W base args ds gs before hval0 hW hcnd _
  have hval : ∀ (j : Nat) t v, Try.f8.params[j]? = some t → args[j]? = some v → Value.okWide Try.prog W .any base t v := hval0
  have hW' := hW
  obtain ⟨p, q, hA0, hV, rfl, hfz, hnd⟩ := hW
  have hA : DataW.TrodAll enc Try.prog W 0 (fun _ => true) true Try.f8.params.toList args.toList ds p := hA0
  rw [Try.params8] at hA hval
  obtain ⟨v0, vs0, d0, ds0, p0, q0, hargs, rfl, rfl, h0, r0⟩ := trodAll_cons hA
  obtain ⟨v1, vs1, d1, ds1, p1, q1, rfl, rfl, rfl, h1, r1⟩ := trodAll_cons r0
  obtain ⟨rfl, rfl, rfl⟩ := trodAll_nil r1
  obtain rfl : args = #[v0, v1] := by cases args; simp_all
  obtain ⟨rfl, rfl⟩ := trodVars_none hV
  obtain ⟨Aa, a, ca, rfl, rda, ia, lca, lma⟩ := open_nums Try.underlying23 Try.underlying25 cells_u64 (hval 0 23 v0 rfl rfl) h0
  obtain ⟨Ab, b, cb, rfl, rdb, ib, lcb, lmb⟩ := open_nums Try.underlying23 Try.underlying25 cells_u64 (hval 1 23 v1 rfl rfl) h1
  clear hA0 hval0
  refine (walk Aa a ca Ab b cb W rda (fun x hx => U64.of_wf (ia x hx)) lca lma rdb (fun x hx => U64.of_wf (ib x hx)) lcb lmb).mono fun e W' ⟨he, hb⟩ => ?_
  subst he
  exact ⟨_, rfl, law_post laid (fun t ht => law_types t ht) rfl hW' ⟨rfl, rfl, rfl⟩ (by kernel_rfl) Try.underlying4 hb⟩

theorem over : Rows.lebManyRow.holds Try.pinned (OpenSpec.ofChange Rows.lebManySpec) :=
  OpenClaim.holds_of_wide 8 Try.f8 rfl rfl rfl rfl rfl rfl rfl ⟨rfl, rfl, rfl, rfl, rfl⟩ rfl rfl rfl rfl rfl (by kernel_rfl) Try.func8 (by kernel_rfl)
    (of_decide_eq_true (by kernel_rfl)) (by unfold Func.isWrapper; first | (rw [if_pos (by decide +kernel)]; kernel_rfl) | (rw [if_neg (by decide +kernel)]; exact ⟨rfl, rfl⟩))
    (fun os started H enc _ => lifted os started H enc)

theorem proved : Rows.LebManySaid := over
end Go.Proofs.Ytaknlgkhjmffoaa.LebMany
