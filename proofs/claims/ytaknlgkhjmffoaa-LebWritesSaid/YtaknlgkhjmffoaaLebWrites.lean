
/-
  LebWrites answers true for every input. No condition.
-/
import Derived.Test.YtaknlgkhjmffoaaLebLv
import Derived.Test.YtaknlgkhjmffoaaLaw
namespace Go.Proofs.Ytaknlgkhjmffoaa.LebWrites
open Go.ChangeShapes Go.WideShapes Go.ChangeAt Go.RowKit
set_option maxHeartbeats 400000
set_option linter.unusedVariables false
open Go.Proofs.Ytaknlgkhjmffoaa
set_option maxHeartbeats 4000000 in
set_option maxRecDepth 100000 in
theorem walk (Ab : Option Addr) (b : List Int) (cb : Nat) (Al : Option Addr) (l : List Int) (cl : Nat) (As : Option Addr) (s : List Int) (cs : Nat) (n m : Int) (w : World) (rb : Rd (Value.int .u8) w w.heap.size Ab b) (ub : U8s b) (lb : b.length ≤ cb) (mb : cb ≤ 9223372036854775807)
    (rl : Rd (Value.int .u64) w w.heap.size Al l) (ul : U64s l) (ll : l.length ≤ cl) (ml : cl ≤ 9223372036854775807) (rs : Rd (Value.int .i64) w w.heap.size As s) (us : I64s s) (ls : s.length ≤ cs) (ms : cs ≤ 9223372036854775807) (hn : U64 n) (hm : I64 m) :
    Calls Try.prog 3 #[.slice Ab b.length cb, .slice Al l.length cl, .slice As s.length cs, .int .u64 n, .int .i64 m] w fun e w' => e = .returned (.bool true) ∧ Below w.heap.size w w' := by
  have RB := hid rb
  have RL := hid rl
  have RS := hid rs
  clear rb rl rs
  by_cases hf : b.length ≤ 2000 ∧ (l.length : Int) ≤ 500
  · have CF := hid (few_yes Ab b.length cb l.length hf.1 hf.2)
    by_cases hs : s.length ≤ 500
    · have hb1 : b.length ≤ 2000 := hf.1
      have hl1 : l.length ≤ 500 := by omega
      have C1 := hid (fun W h1 h2 => leb_Put (A := Ab) (B := Al) (c := cb) (d := cl) b l (by omega) (by omega) ul W h1 h2)
      have C2 := hid (fun W h1 h2 => leb_Signed (A := Ab) (B := As) (c := cb) (d := cs) b s (by omega) (by omega) us W h1 h2)
      have C3 := hid (fun W h1 h2 => ref_Put (A := Ab) (B := Al) (c := cb) (d := cl) b l (by omega) (by omega) ul W h1 h2)
      have C4 := hid (fun W h1 h2 => ref_Signed (A := Ab) (B := As) (c := cb) (d := cs) b s (by omega) (by omega) us W h1 h2)
      have uX : U8s (b ++ encs l) := ub.app (encs_u8 ul)
      have uY : U8s (b ++ encs (s.map zigI)) := ub.app (encs_u8 (zigs_u64 us))
      have hXl : (b ++ encs l).length ≤ 7000 := by rw [List.length_append]; have := encs_len ul; omega
      obtain ⟨X, hX⟩ : ∃ X, b ++ encs l = X := ⟨_, rfl⟩
      obtain ⟨Y, hY⟩ : ∃ Y, b ++ encs (s.map zigI) = Y := ⟨_, rfl⟩
      rw [hX] at C1 C3 uX hXl
      rw [hY] at C2 C4 uY
      have C5 := hid (leb_Size n hn)
      have C6 := hid (ref_Size n hn)
      obtain ⟨z, hz⟩ : ∃ z, (lebI n).length = z := ⟨_, rfl⟩
      rw [hz] at C5 C6
      have C7 := hid (leb_Zig m hm)
      have C8 := hid (ref_Zig m hm)
      obtain ⟨y1, hy1⟩ : ∃ z, zigI m = z := ⟨_, rfl⟩
      rw [hy1] at C7 C8
      have C9 := hid (leb_Zag n hn)
      have C10 := hid (ref_Zag n hn)
      obtain ⟨y2, hy2⟩ : ∃ z, zagI n = z := ⟨_, rfl⟩
      rw [hy2] at C9 C10
      have CSX : Hid (∀ (A B : Option Addr) (c d : Nat) (W : World) (L M : Nat), Rd (Value.int .u8) W L A X → Rd (Value.int .u8) W M B X → Calls Try.prog 13 #[.slice A X.length c, .slice B X.length d] W fun e w' => e = .returned (.bool true) ∧ W = w') := hid (fun A B c d W L M h1 h2 => by
        have := ref_Same (A := A) (B := B) (c := c) (d := d) X X uX uX W h1 h2
        rwa [eqB_self] at this)
      have CSY : Hid (∀ (A B : Option Addr) (c d : Nat) (W : World) (L M : Nat), Rd (Value.int .u8) W L A Y → Rd (Value.int .u8) W M B Y → Calls Try.prog 13 #[.slice A Y.length c, .slice B Y.length d] W fun e w' => e = .returned (.bool true) ∧ W = w') := hid (fun A B c d W L M h1 h2 => by
        have := ref_Same (A := A) (B := B) (c := c) (d := d) Y Y uY uY W h1 h2
        rwa [eqB_self] at this)
      have CSB : Hid (∀ (A B : Option Addr) (c d : Nat) (W : World) (L M : Nat), Rd (Value.int .u8) W L A b → Rd (Value.int .u8) W M B b → Calls Try.prog 13 #[.slice A b.length c, .slice B b.length d] W fun e w' => e = .returned (.bool true) ∧ W = w') := hid (fun A B c d W L M h1 h2 => by
        have := ref_Same (A := A) (B := B) (c := c) (d := d) b b ub ub W h1 h2
        rwa [eqB_self] at this)
      clear hX hY uX uY hz hy1 hy2 ub ul us hf hn hm
      go_enter Try.func3, Try.ntmps3
      go_wp2_with fail
      refine (live_yes _).mono ?_
      rintro _ w1 ⟨rfl, k1⟩
      go_wp2_with fail
      refine (CF.out _).mono ?_
      rintro _ _ ⟨rfl, rfl⟩
      go_wp2_with (at_builtin; refine wpList_app (Value.int .u8) (fun _ => rfl) _ rfl _ _ 22 rfl w1.heap.size 5 (.int .u8 0) 1 Try.underlying22 info_u8 rfl [] _ 0 rfl (own_nil _ _ _) b _ cb _ rfl (RB.out.on k1) (by simp [maxLen]; omega) (by simp; omega) (Nat.le_refl _) ?_)
      rintro S A2 c2 w2 hS ho hb2 _
      subst hS
      have HW2 := hid (own_rd ho)
      have k2 := k1.trans (hb2.mono k1.size)
      clear ho hb2 k1
      have K2 := hid k2
      have HB2 := hid (RB.out.on k2)
      have HV2 := hid HW2.out
      have MK := Below.refl w2.heap.size w2
      go_wp2_with fail
      refine (C1.out w2 (RB.out.on k2) (RL.out.on k2)).mono ?_
      rintro _ w101 ⟨A101, c101, rfl, ho101, hb101⟩
      have k101 := k2.trans (hb101.mono k2.size)
      have HL102 := hid (HW2.out.on hb101)
      clear HW2
      have MK103 := MK.trans (hb101.mono MK.size)
      clear MK
      have HS101 := hid (own_rd ho101)
      have HO101 := hid ho101
      clear ho101
      clear hb101 k2
      have MX := Below.refl w101.heap.size w101
      go_wp2_with fail
      refine (C2.out w101 (RB.out.on k101) (RS.out.on k101)).mono ?_
      rintro _ w104 ⟨A104, c104, rfl, ho104, hb104⟩
      have k104 := k101.trans (hb104.mono k101.size)
      have HL105 := hid (HL102.out.on hb104)
      clear HL102
      have HL106 := hid (HS101.out.on hb104)
      clear HS101
      have MK107 := MK103.trans (hb104.mono MK103.size)
      clear MK103
      have MK108 := MX.trans (hb104.mono MX.size)
      clear MX
      have HS104 := hid (own_rd ho104)
      have HO104 := hid ho104
      clear ho104
      clear hb104 k101
      go_wp2_with fail
      refine (C3.out w104 (RB.out.on k104) (RL.out.on k104)).mono ?_
      rintro _ w109 ⟨A109, c109, rfl, ho109, hb109⟩
      have k109 := k104.trans (hb109.mono k104.size)
      have HL110 := hid (HL105.out.on hb109)
      clear HL105
      have HL111 := hid (HL106.out.on hb109)
      clear HL106
      have HL112 := hid (HS104.out.on hb109)
      clear HS104
      have MK113 := MK107.trans (hb109.mono MK107.size)
      clear MK107
      have MK114 := MK108.trans (hb109.mono MK108.size)
      clear MK108
      have HS109 := hid (own_rd ho109)
      have HO109 := hid ho109
      clear ho109
      clear hb109 k104
      go_wp2_with fail
      refine (CSX.out _ _ _ _ w109 _ _ HL111.out HS109.out).mono ?_
      rintro _ _ ⟨rfl, rfl⟩
      go_wp2_with fail
      refine (C4.out w109 (RB.out.on k109) (RS.out.on k109)).mono ?_
      rintro _ w115 ⟨A115, c115, rfl, ho115, hb115⟩
      have k115 := k109.trans (hb115.mono k109.size)
      have HL116 := hid (HL110.out.on hb115)
      clear HL110
      have HL117 := hid (HL111.out.on hb115)
      clear HL111
      have HL118 := hid (HL112.out.on hb115)
      clear HL112
      have HL119 := hid (HS109.out.on hb115)
      clear HS109
      have MK120 := MK113.trans (hb115.mono MK113.size)
      clear MK113
      have MK121 := MK114.trans (hb115.mono MK114.size)
      clear MK114
      have HS115 := hid (own_rd ho115)
      have HO115 := hid ho115
      clear ho115
      clear hb115 k109
      go_wp2_with fail
      refine (CSY.out _ _ _ _ w115 _ _ HL118.out HS115.out).mono ?_
      rintro _ _ ⟨rfl, rfl⟩
      go_wp2_with fail
      refine (C5.out w115 ).mono ?_
      rintro _ _ ⟨rfl, rfl⟩
      go_wp2_with fail
      refine (C6.out w115 ).mono ?_
      rintro _ w122 ⟨rfl, hb122⟩
      have k122 := k115.trans (hb122.mono k115.size)
      have HL123 := hid (HL116.out.on hb122)
      clear HL116
      have HL124 := hid (HL117.out.on hb122)
      clear HL117
      have HL125 := hid (HL118.out.on hb122)
      clear HL118
      have HL126 := hid (HL119.out.on hb122)
      clear HL119
      have HL127 := hid (HS115.out.on hb122)
      clear HS115
      have MK128 := MK120.trans (hb122.mono MK120.size)
      clear MK120
      have MK129 := MK121.trans (hb122.mono MK121.size)
      clear MK121
      clear hb122 k115
      go_wp2_with fail
      refine (C7.out w122 ).mono ?_
      rintro _ _ ⟨rfl, rfl⟩
      go_wp2_with fail
      refine (C8.out w122 ).mono ?_
      rintro _ _ ⟨rfl, rfl⟩
      go_wp2_with fail
      refine (C9.out w122 ).mono ?_
      rintro _ _ ⟨rfl, rfl⟩
      go_wp2_with fail
      refine (C10.out w122 ).mono ?_
      rintro _ _ ⟨rfl, rfl⟩
      have HOX := hid (own_on HO101.out MK129)
      have HMK := hid MK128
      have KK := hid k122
      clear k122 MK129 MK128
      go_wp2_with fail
      go_loopw [74] (fun i wr => ∃ (k : Nat) (zs : List Int), k ≤ X.length ∧ i = .int .i64 k ∧ zs.length = X.length ∧ wr.ownsRow w2.heap.size 5 1 (.slice A101 X.length c101) X.length (zs.map (Value.int .u8)) ∧ Below w2.heap.size w2 wr) (fun i _ => X.length - (intOf i).toNat)
      case atStart => exact ⟨0, X, by omega, rfl, rfl, HOX.out, HMK.out⟩
      case round =>
        obtain ⟨k, zs, hk, rfl, hz, hown, hbr⟩ := hrel
        have HZ := hid hz
        have HO := hid hown
        by_cases hlt : k < X.length
        · obtain ⟨g, hg, hgb, hgc, hgf⟩ := own_cellk hown (show k < zs.length by omega)
          subst hg
          clear hz hown
          go_wp2_with fail
          go_roundw
          case rel =>
            refine ⟨k + 1, zs.set k ((zs.getD k 0 + 1) % 256), by omega, by go_num, by rw [List.length_set]; exact HZ.out, ?_, hbr.setCell hgb _⟩
            have h := (HO.out.stored k (.int .u8 ((zs.getD k 0 + 1) % 256))).1
            rw [← List.map_set] at h
            exact h
          case measure => simp [intOf]; omega
        · obtain rfl : k = X.length := by omega
          clear hz hown HZ HO HOX
          go_wp2_with fail
          refine (CSB.out _ _ _ _ wr _ _ (HB2.out.below hbr) (HV2.out.below hbr)).mono ?_
          rintro _ _ ⟨rfl, rfl⟩
          go_wp2_with fail
          go_ret
          exact ⟨rfl, K2.out.trans (hbr.mono K2.out.size)⟩
    · have CF2 := hid CF.out
      have hs2 : 500 < s.length := by omega
      clear hs ub ul us
      go_enter Try.func3, Try.ntmps3
      go_wp2_with fail
      refine (live_yes _).mono ?_
      rintro _ w1 ⟨rfl, k1⟩
      go_wp2_with fail
      refine (CF.out _).mono ?_
      rintro _ _ ⟨rfl, rfl⟩
      go_wp2_with fail
      go_ret
      exact ⟨rfl, k1⟩
  · have CF := hid (few_no Ab b.length cb l.length (by omega) hf)
    clear hf ub ul us
    go_enter Try.func3, Try.ntmps3
    go_wp2_with fail
    refine (live_yes _).mono ?_
    rintro _ w1 ⟨rfl, k1⟩
    go_wp2_with fail
    refine (CF.out _).mono ?_
    rintro _ _ ⟨rfl, rfl⟩
    go_wp2_with fail
    go_ret
    exact ⟨rfl, k1⟩
theorem law_types : ∀ t ∈ Try.f3.params.toList, Try.prog.readableRec t = true ∧ t < Try.prog.types.size := by
  have h : (Try.f3.params.toList.all fun t => Try.prog.readableRec t && decide (t < Try.prog.types.size)) = true := by kernel_rfl
  intro t ht
  simpa using List.all_eq_true.1 h t ht
set_option maxRecDepth 100000 in
theorem lifted (os : Os) (started : os.Started) (H : Type) (enc : TypeId × Value → H) :
    ReturnsInHanded {} Try.checked os 3 .any (Rows.lebWritesSpec.pre6 enc Try.prog Try.f3 Rows.lebWritesRow.domain false) (Rows.lebWritesSpec.post enc Try.prog Try.f3 false true false false) := by
  refine returnsInHanded_of_change (C := Try.checked) own started (by kernel_rfl) Try.func3
    (ChangeSpec.witness6 (enc := enc) (C := Try.checked) false ⟨#[], #[.slice none 0 0, .slice none 0 0, .slice none 0 0, .int .u64 0, .int .i64 0], []⟩ 8 (by kernel_rfl) (by kernel_rfl) (by kernel_rfl) (by kernel_rfl)) ?_
  intro W base args ds gs before hval0 hW hcnd _
  have hval : ∀ (j : Nat) t v, Try.f3.params[j]? = some t → args[j]? = some v → Value.okWide Try.prog W .any base t v := hval0
  have hW' := hW
  obtain ⟨p, q, hA0, hV, rfl, hfz, hnd⟩ := hW
  have hA : DataW.TrodAll enc Try.prog W 0 (fun _ => true) true Try.f3.params.toList args.toList ds p := hA0
  rw [Try.params3] at hA hval
  obtain ⟨v0, vs0, d0, ds0, p0, q0, hargs, rfl, rfl, h0, r0⟩ := trodAll_cons hA
  obtain ⟨v1, vs1, d1, ds1, p1, q1, rfl, rfl, rfl, h1, r1⟩ := trodAll_cons r0
  obtain ⟨v2, vs2, d2, ds2, p2, q2, rfl, rfl, rfl, h2, r2⟩ := trodAll_cons r1
  obtain ⟨v3, vs3, d3, ds3, p3, q3, rfl, rfl, rfl, h3, r3⟩ := trodAll_cons r2
  obtain ⟨v4, vs4, d4, ds4, p4, q4, rfl, rfl, rfl, h4, r4⟩ := trodAll_cons r3
  obtain ⟨rfl, rfl, rfl⟩ := trodAll_nil r4
  obtain rfl : args = #[v0, v1, v2, v3, v4] := by cases args; simp_all
  obtain ⟨rfl, rfl⟩ := trodVars_none hV
  obtain ⟨Ab, b, cb, rfl, rdb, ib, lcb, lmb⟩ := open_nums Try.underlying22 Try.underlying5 cells_u8 (hval 0 22 v0 rfl rfl) h0
  obtain ⟨Al, l, cl, rfl, rdl, il, lcl, lml⟩ := open_nums Try.underlying23 Try.underlying25 cells_u64 (hval 1 23 v1 rfl rfl) h1
  obtain ⟨As, s, cs, rfl, rds, is, lcs, lms⟩ := open_nums Try.underlying24 Try.underlying2 cells_i64' (hval 2 24 v2 rfl rfl) h2
  obtain ⟨n, rfl, rfl, rfl, w3⟩ := open_int Try.underlying25 (hval 3 25 v3 rfl rfl) h3
  obtain ⟨m, rfl, rfl, rfl, w4⟩ := open_int Try.underlying2 (hval 4 2 v4 rfl rfl) h4
  clear hA0 hval0
  refine (walk Ab b cb Al l cl As s cs n m W rdb (fun x hx => bounds_u8 (ib x hx)) lcb lmb rdl (fun x hx => U64.of_wf (il x hx)) lcl lml rds (fun x hx => I64.of_wf (is x hx)) lcs lms (U64.of_wf w3) (I64.of_wf w4)).mono fun e W' ⟨he, hb⟩ => ?_
  subst he
  exact ⟨_, rfl, law_post laid (fun t ht => law_types t ht) rfl hW' ⟨rfl, rfl, rfl⟩ (by kernel_rfl) Try.underlying4 hb⟩

theorem over : Rows.lebWritesRow.holds Try.pinned (OpenSpec.ofChange Rows.lebWritesSpec) :=
  OpenClaim.holds_of_wide 3 Try.f3 rfl rfl rfl rfl rfl rfl rfl ⟨rfl, rfl, rfl, rfl, rfl⟩ rfl rfl rfl rfl rfl (by kernel_rfl) Try.func3 (by kernel_rfl)
    (of_decide_eq_true (by kernel_rfl)) (by unfold Func.isWrapper; first | (rw [if_pos (by decide +kernel)]; kernel_rfl) | (rw [if_neg (by decide +kernel)]; exact ⟨rfl, rfl⟩))
    (fun os started H enc _ => lifted os started H enc)

theorem proved : Rows.LebWritesSaid := over
end Go.Proofs.Ytaknlgkhjmffoaa.LebWrites
