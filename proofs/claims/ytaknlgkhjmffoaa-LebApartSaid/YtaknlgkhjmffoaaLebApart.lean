
/-
  LebApart answers true for every input. No condition.
-/
import Derived.Test.YtaknlgkhjmffoaaLebLv
import Derived.Test.YtaknlgkhjmffoaaLaw
namespace Go.Proofs.Ytaknlgkhjmffoaa.LebApart
open Go.ChangeShapes Go.WideShapes Go.ChangeAt Go.RowKit
set_option maxHeartbeats 400000
set_option linter.unusedVariables false
open Go.Proofs.Ytaknlgkhjmffoaa
theorem put_one (n : Int) (hn : U64 n) (w : World) :
    Calls Try.prog 11 #[.slice none 0 0, .slice (some ⟨w.heap.size, 0, none⟩) 1 1] (w.alloc (.cells #[.int .u64 n] 25)) (OwnOf 5 .u8 w.heap.size (lebI n) (w.alloc (.cells #[.int .u64 n] 25))) := by
  have h := leb_Put (A := none) (B := some ⟨w.heap.size, 0, none⟩) (c := 0) (d := 1) [] [n] (by decide) (by simp) (by intro x hx; simp at hx; subst hx; exact hn) (w.alloc (.cells #[.int .u64 n] 25)) Rd.none_ (rd_one (one_cell w (.int .u64 n) 25).1)
  rw [List.nil_append, encs_one] at h
  exact h.mono fun e w' ⟨A, c, he, ho, hb⟩ => ⟨A, c, he, own_base ho (by simp), hb.mono (by simp)⟩
set_option maxHeartbeats 4000000 in
set_option maxRecDepth 100000 in
theorem walk (a b : Int) (ha : U64 a) (hb : U64 b) (w : World) :
    Calls Try.prog 6 #[.int .u64 a, .int .u64 b] w fun e w' => e = .returned (.bool true) ∧ Below w.heap.size w w' := by
  have C1 := hid (put_one a ha)
  have C2 := hid (put_one b hb)
  have CS := hid (leb_Size a ha)
  have x0 := lebI_pos a ha.1
  have x1 := lebI_ten ha
  have y0 := lebI_pos b hb.1
  have y1 := lebI_ten hb
  have HXY : Hid (a ≤ b → (lebI a).length ≤ (lebI b).length) := hid (lebI_mono a ha.1 b)
  have HAP : Hid (a ≠ b → eqB (lebI a) ((lebI b).take (lebI a).length) = false) := fun h => by
    unfold eqB
    rw [decide_eq_false_iff_not]
    exact fun e => h (code_apart ha hb e.symm)
  have HCU : Hid (getN ((lebI a).take ((lebI a).length - 1)) 0 = 0 ∧ getE ((lebI a).take ((lebI a).length - 1)) 0 = 5 ∧ getA ((lebI a).take ((lebI a).length - 1)) 0 = 0) :=
    get_out (v := 0) (s := 0) (e := 5) (by omega) (by rw [Int.toNat_zero, List.drop_zero]; exact gL_cut a ha.1 0 0 (by omega))
  have uX := lebI_u8 a ha.1
  have uY := lebI_u8 b hb.1
  have HEQ : Hid (a = b → lebI a = lebI b) := fun h => by rw [h]
  obtain ⟨X, hX⟩ : ∃ X, lebI a = X := ⟨_, rfl⟩
  obtain ⟨Y, hY⟩ : ∃ Y, lebI b = Y := ⟨_, rfl⟩
  rw [hX] at C1 CS x0 x1 HXY HAP HCU uX HEQ
  rw [hY] at C2 y0 y1 HXY HAP uY HEQ
  have UX := hid uX
  have UY := hid uY
  clear hX hY uX uY
  obtain ⟨V, hV⟩ : ∃ V, X.take (X.length - 1) = V := ⟨_, rfl⟩
  obtain ⟨Z, hZ⟩ : ∃ Z, Y.take X.length = Z := ⟨_, rfl⟩
  rw [hV] at HCU
  rw [hZ] at HAP
  have hVl : V.length = X.length - 1 := by rw [← hV, List.length_take]; omega
  have HZl : Hid (X.length ≤ Y.length → Z.length = X.length) := fun h => by rw [← hZ, List.length_take]; omega
  have HV := hid hV
  have HZ := hid hZ
  have HVl := hid hVl
  clear hV hZ hVl ha hb
  have haa : (a != a) = false := by simp
  have ex0 : ((X.length : Int) == 0) = false := beq_eq_false_iff_ne.2 (by omega)
  have ey0 : ((Y.length : Int) == 0) = false := beq_eq_false_iff_ne.2 (by omega)
  have ex1 : (X.length == 0) = false := beq_eq_false_iff_ne.2 (by omega)
  have ey1 : (Y.length == 0) = false := beq_eq_false_iff_ne.2 (by omega)
  by_cases heq : a = b
  · subst heq
    have hxy := HEQ.out rfl
    subst hxy
    clear HXY HAP HEQ HZl HZ
    go_enter Try.func6, Try.ntmps6
    go_wp2_with fail
    refine (live_yes _).mono ?_
    rintro _ w1 ⟨rfl, k1⟩
    go_wp2_with fail
    refine (C1.out _).mono ?_
    rintro _ w2 ⟨A, c, rfl, ho, hb2⟩
    have kz2 := (one_cell w1 (.int .u64 a) 25).2
    have kx2 := kz2.trans hb2
    have k2 := k1.trans (kx2.mono k1.size)
    have hr := own_rd ho
    obtain ⟨q1, q2⟩ := own_cap ho
    have HR := hid hr
    clear ho hb2 hr kz2 kx2 k1
    go_wp2_with fail
    refine (C2.out _).mono ?_
    rintro _ w3 ⟨A2, c2, rfl, ho, hb3⟩
    have kz3 := (one_cell w2 (.int .u64 a) 25).2
    have kx3 := kz3.trans hb3
    have k3 := k2.trans (kx3.mono k2.size)
    have HR3 := hid (HR.out.on kx3)
    obtain ⟨q3, q4⟩ := own_cap ho
    have HS3 := hid (own_rd ho)
    clear ho hb3 kz3 kx3 k2 HR
    have CG := hid (leb_Get (A := cutA A 0 c) (c := c) V (by have := HVl.out; omega) q2 (by rw [← HV.out]; exact fun x hx => UX.out x (List.mem_of_mem_take hx)) 0 (by decide) w3 (by rw [← HV.out]; exact HR3.out.cut0 q1 _))
    rw [HCU.out.1, HCU.out.2.1, HCU.out.2.2] at CG
    have hs1 := fun W => run_upto (P := Try.prog) 22 Try.underlying22 Try.sizeOf5 A X.length c (X.length - 1) (by omega) W
    rw [← HVl.out, show ((V.length : Nat) : Int) = (X.length : Int) - 1 by have := HVl.out; omega] at hs1
    obtain ⟨A5, hA5⟩ : ∃ A5, cutA A 0 c = A5 := ⟨_, rfl⟩
    rw [hA5] at hs1 CG
    clear hA5
    clear HR3 HS3
    go_wp2_with fail
    refine (CS.out _).mono ?_
    rintro _ _ ⟨rfl, rfl⟩
    go_wp2_with fail
    refine (CG.out).mono ?_
    rintro _ _ ⟨rfl, rfl⟩
    go_wp2_with fail
    go_ret
    exact ⟨rfl, k3⟩
  · have hne := heq
    have hneb : (a != b) = true := by simpa using heq
    have Hne := hid heq
    clear heq
    by_cases hab : a ≤ b
    · have hle := HXY.out hab
      clear hne
      go_enter Try.func6, Try.ntmps6
      go_wp2_with fail
      refine (live_yes _).mono ?_
      rintro _ w1 ⟨rfl, k1⟩
      go_wp2_with fail
      refine (C1.out _).mono ?_
      rintro _ w2 ⟨A, c, rfl, ho, hb2⟩
      have kz2 := (one_cell w1 (.int .u64 a) 25).2
      have kx2 := kz2.trans hb2
      have k2 := k1.trans (kx2.mono k1.size)
      have hr := own_rd ho
      obtain ⟨q1, q2⟩ := own_cap ho
      have HR := hid hr
      clear ho hb2 hr kz2 kx2 k1
      go_wp2_with fail
      refine (C2.out _).mono ?_
      rintro _ w3 ⟨A2, c2, rfl, ho, hb3⟩
      have kz3 := (one_cell w2 (.int .u64 b) 25).2
      have kx3 := kz3.trans hb3
      have k3 := k2.trans (kx3.mono k2.size)
      have HR3 := hid (HR.out.on kx3)
      obtain ⟨q3, q4⟩ := own_cap ho
      have HS3 := hid (own_rd ho)
      clear ho hb3 kz3 kx3 k2 HR
      have CG := hid (leb_Get (A := cutA A 0 c) (c := c) V (by have := HVl.out; omega) q2 (by rw [← HV.out]; exact fun x hx => UX.out x (List.mem_of_mem_take hx)) 0 (by decide) w3 (by rw [← HV.out]; exact HR3.out.cut0 q1 _))
      rw [HCU.out.1, HCU.out.2.1, HCU.out.2.2] at CG
      have hs1 := fun W => run_upto (P := Try.prog) 22 Try.underlying22 Try.sizeOf5 A X.length c (X.length - 1) (by omega) W
      rw [← HVl.out, show ((V.length : Nat) : Int) = (X.length : Int) - 1 by have := HVl.out; omega] at hs1
      obtain ⟨A5, hA5⟩ : ∃ A5, cutA A 0 c = A5 := ⟨_, rfl⟩
      rw [hA5] at hs1 CG
      clear hA5
      have hzl := HZl.out hle
      have CM := hid (ref_Same (A := A) (B := cutA A2 0 c2) (c := c) (d := c2) X Z UX.out (by rw [← HZ.out]; exact fun x hx => UY.out x (List.mem_of_mem_take hx)) w3 HR3.out (by rw [← HZ.out]; exact HS3.out.cut0 q3 _))
      rw [HAP.out Hne.out] at CM
      have hs2 := fun W => run_upto (P := Try.prog) 22 Try.underlying22 Try.sizeOf5 A2 Y.length c2 X.length (by omega) W
      obtain ⟨A6, hA6⟩ : ∃ A6, cutA A2 0 c2 = A6 := ⟨_, rfl⟩
      rw [hA6] at hs2 CM
      rw [hzl] at CM
      clear hA6 hzl
      clear HR3 HS3
      go_wp2_with fail
      refine (CS.out _).mono ?_
      rintro _ _ ⟨rfl, rfl⟩
      go_wp2_with fail
      refine (CM.out).mono ?_
      rintro _ _ ⟨rfl, rfl⟩
      go_wp2_with fail
      refine (CG.out).mono ?_
      rintro _ _ ⟨rfl, rfl⟩
      go_wp2_with fail
      go_ret
      exact ⟨rfl, k3⟩
    · by_cases hle : X.length ≤ Y.length
      · clear hne
        go_enter Try.func6, Try.ntmps6
        go_wp2_with fail
        refine (live_yes _).mono ?_
        rintro _ w1 ⟨rfl, k1⟩
        go_wp2_with fail
        refine (C1.out _).mono ?_
        rintro _ w2 ⟨A, c, rfl, ho, hb2⟩
        have kz2 := (one_cell w1 (.int .u64 a) 25).2
        have kx2 := kz2.trans hb2
        have k2 := k1.trans (kx2.mono k1.size)
        have hr := own_rd ho
        obtain ⟨q1, q2⟩ := own_cap ho
        have HR := hid hr
        clear ho hb2 hr kz2 kx2 k1
        go_wp2_with fail
        refine (C2.out _).mono ?_
        rintro _ w3 ⟨A2, c2, rfl, ho, hb3⟩
        have kz3 := (one_cell w2 (.int .u64 b) 25).2
        have kx3 := kz3.trans hb3
        have k3 := k2.trans (kx3.mono k2.size)
        have HR3 := hid (HR.out.on kx3)
        obtain ⟨q3, q4⟩ := own_cap ho
        have HS3 := hid (own_rd ho)
        clear ho hb3 kz3 kx3 k2 HR
        have CG := hid (leb_Get (A := cutA A 0 c) (c := c) V (by have := HVl.out; omega) q2 (by rw [← HV.out]; exact fun x hx => UX.out x (List.mem_of_mem_take hx)) 0 (by decide) w3 (by rw [← HV.out]; exact HR3.out.cut0 q1 _))
        rw [HCU.out.1, HCU.out.2.1, HCU.out.2.2] at CG
        have hs1 := fun W => run_upto (P := Try.prog) 22 Try.underlying22 Try.sizeOf5 A X.length c (X.length - 1) (by omega) W
        rw [← HVl.out, show ((V.length : Nat) : Int) = (X.length : Int) - 1 by have := HVl.out; omega] at hs1
        obtain ⟨A5, hA5⟩ : ∃ A5, cutA A 0 c = A5 := ⟨_, rfl⟩
        rw [hA5] at hs1 CG
        clear hA5
        have hzl := HZl.out hle
        have CM := hid (ref_Same (A := A) (B := cutA A2 0 c2) (c := c) (d := c2) X Z UX.out (by rw [← HZ.out]; exact fun x hx => UY.out x (List.mem_of_mem_take hx)) w3 HR3.out (by rw [← HZ.out]; exact HS3.out.cut0 q3 _))
        rw [HAP.out Hne.out] at CM
        have hs2 := fun W => run_upto (P := Try.prog) 22 Try.underlying22 Try.sizeOf5 A2 Y.length c2 X.length (by omega) W
        obtain ⟨A6, hA6⟩ : ∃ A6, cutA A2 0 c2 = A6 := ⟨_, rfl⟩
        rw [hA6] at hs2 CM
        rw [hzl] at CM
        clear hA6 hzl
        clear HR3 HS3
        go_wp2_with fail
        refine (CS.out _).mono ?_
        rintro _ _ ⟨rfl, rfl⟩
        go_wp2_with fail
        refine (CM.out).mono ?_
        rintro _ _ ⟨rfl, rfl⟩
        go_wp2_with fail
        refine (CG.out).mono ?_
        rintro _ _ ⟨rfl, rfl⟩
        go_wp2_with fail
        go_ret
        exact ⟨rfl, k3⟩
      · clear hne
        go_enter Try.func6, Try.ntmps6
        go_wp2_with fail
        refine (live_yes _).mono ?_
        rintro _ w1 ⟨rfl, k1⟩
        go_wp2_with fail
        refine (C1.out _).mono ?_
        rintro _ w2 ⟨A, c, rfl, ho, hb2⟩
        have kz2 := (one_cell w1 (.int .u64 a) 25).2
        have kx2 := kz2.trans hb2
        have k2 := k1.trans (kx2.mono k1.size)
        have hr := own_rd ho
        obtain ⟨q1, q2⟩ := own_cap ho
        have HR := hid hr
        clear ho hb2 hr kz2 kx2 k1
        go_wp2_with fail
        refine (C2.out _).mono ?_
        rintro _ w3 ⟨A2, c2, rfl, ho, hb3⟩
        have kz3 := (one_cell w2 (.int .u64 b) 25).2
        have kx3 := kz3.trans hb3
        have k3 := k2.trans (kx3.mono k2.size)
        have HR3 := hid (HR.out.on kx3)
        obtain ⟨q3, q4⟩ := own_cap ho
        have HS3 := hid (own_rd ho)
        clear ho hb3 kz3 kx3 k2 HR
        have CG := hid (leb_Get (A := cutA A 0 c) (c := c) V (by have := HVl.out; omega) q2 (by rw [← HV.out]; exact fun x hx => UX.out x (List.mem_of_mem_take hx)) 0 (by decide) w3 (by rw [← HV.out]; exact HR3.out.cut0 q1 _))
        rw [HCU.out.1, HCU.out.2.1, HCU.out.2.2] at CG
        have hs1 := fun W => run_upto (P := Try.prog) 22 Try.underlying22 Try.sizeOf5 A X.length c (X.length - 1) (by omega) W
        rw [← HVl.out, show ((V.length : Nat) : Int) = (X.length : Int) - 1 by have := HVl.out; omega] at hs1
        obtain ⟨A5, hA5⟩ : ∃ A5, cutA A 0 c = A5 := ⟨_, rfl⟩
        rw [hA5] at hs1 CG
        clear hA5
        clear HR3 HS3
        go_wp2_with fail
        refine (CS.out _).mono ?_
        rintro _ _ ⟨rfl, rfl⟩
        go_wp2_with fail
        refine (CG.out).mono ?_
        rintro _ _ ⟨rfl, rfl⟩
        go_wp2_with fail
        go_ret
        exact ⟨rfl, k3⟩
theorem law_types : ∀ t ∈ Try.f6.params.toList, Try.prog.readableRec t = true ∧ t < Try.prog.types.size := by
  have h : (Try.f6.params.toList.all fun t => Try.prog.readableRec t && decide (t < Try.prog.types.size)) = true := by kernel_rfl
  intro t ht
  simpa using List.all_eq_true.1 h t ht
set_option maxRecDepth 100000 in
theorem lifted (os : Os) (started : os.Started) (H : Type) (enc : TypeId × Value → H) :
    ReturnsInHanded {} Try.checked os 6 .any (Rows.lebApartSpec.pre6 enc Try.prog Try.f6 Rows.lebApartRow.domain false) (Rows.lebApartSpec.post enc Try.prog Try.f6 false true false false) := by
  refine returnsInHanded_of_change (C := Try.checked) own started (by kernel_rfl) Try.func6
    (ChangeSpec.witness6 (enc := enc) (C := Try.checked) false ⟨#[], #[.int .u64 0, .int .u64 0], []⟩ 8 (by kernel_rfl) (by kernel_rfl) (by kernel_rfl) (by kernel_rfl)) ?_
  intro W base args ds gs before hval0 hW hcnd _
  have hval : ∀ (j : Nat) t v, Try.f6.params[j]? = some t → args[j]? = some v → Value.okWide Try.prog W .any base t v := hval0
  have hW' := hW
  obtain ⟨p, q, hA0, hV, rfl, hfz, hnd⟩ := hW
  have hA : DataW.TrodAll enc Try.prog W 0 (fun _ => true) true Try.f6.params.toList args.toList ds p := hA0
  rw [Try.params6] at hA hval
  obtain ⟨v0, vs0, d0, ds0, p0, q0, hargs, rfl, rfl, h0, r0⟩ := trodAll_cons hA
  obtain ⟨v1, vs1, d1, ds1, p1, q1, rfl, rfl, rfl, h1, r1⟩ := trodAll_cons r0
  obtain ⟨rfl, rfl, rfl⟩ := trodAll_nil r1
  obtain rfl : args = #[v0, v1] := by cases args; simp_all
  obtain ⟨rfl, rfl⟩ := trodVars_none hV
  obtain ⟨a, rfl, rfl, rfl, w0⟩ := open_int Try.underlying25 (hval 0 25 v0 rfl rfl) h0
  obtain ⟨b, rfl, rfl, rfl, w1⟩ := open_int Try.underlying25 (hval 1 25 v1 rfl rfl) h1
  clear hA0 hval0
  refine (walk a b (U64.of_wf w0) (U64.of_wf w1) W).mono fun e W' ⟨he, hb⟩ => ?_
  subst he
  exact ⟨_, rfl, law_post laid (fun t ht => law_types t ht) rfl hW' ⟨rfl, rfl, rfl⟩ (by kernel_rfl) Try.underlying4 hb⟩

theorem over : Rows.lebApartRow.holds Try.pinned (OpenSpec.ofChange Rows.lebApartSpec) :=
  OpenClaim.holds_of_wide 6 Try.f6 rfl rfl rfl rfl rfl rfl rfl ⟨rfl, rfl, rfl, rfl, rfl⟩ rfl rfl rfl rfl rfl (by kernel_rfl) Try.func6 (by kernel_rfl)
    (of_decide_eq_true (by kernel_rfl)) (by unfold Func.isWrapper; first | (rw [if_pos (by decide +kernel)]; kernel_rfl) | (rw [if_neg (by decide +kernel)]; exact ⟨rfl, rfl⟩))
    (fun os started H enc _ => lifted os started H enc)

theorem proved : Rows.LebApartSaid := over
end Go.Proofs.Ytaknlgkhjmffoaa.LebApart
