
/-
  FrameAcks answers true for every input. No condition.
-/
import Derived.Test.YtooipmcpbkbemaaMFsO
import Derived.Test.YtooipmcpbkbemaaMFsE
import Derived.Test.YtooipmcpbkbemaaMc
namespace Go.Proofs.Ytooipmcpbkbemaa.FrameAcks
open Go.ChangeShapes Go.WideShapes Go.ChangeAt Go.RowKit
set_option maxHeartbeats 400000
set_option linter.unusedVariables false
open Go.Proofs.Ytooipmcpbkbemaa
set_option maxHeartbeats 2000000 in
set_option maxRecDepth 100000 in
theorem walk (F : FrOk) (frm stp : Int) (hf : I64 frm) (hs : I64 stp) (w : World) :
    Calls Try.prog 8 #[.int .i64 frm, .int .i64 stp] w fun e w' => e = .returned (.bool true) ∧ Below w.heap.size w w' := by
  have CL := hid (fun W => fr_live F W)
  have CA := hid (fun W => (show Calls Try.prog 24 #[.int .i64 frm, .int .i64 stp] W fun e w' => e = .returned (.agg #[.int .i64 2, .int .i64 frm, .int .i64 stp, .int .i64 0, .int .i64 0, .slice none 0 0, .slice none 0 0, .int .i64 0, .int .i64 0, .slice none 0 0, .slice none 0 0]) ∧ Below W.heap.size W w' by exact F.ack frm stp hf hs W))
  have hw := ack_wf hf hs
  have CW := hid (fun W => (show Calls Try.prog 11 #[.agg #[.int .i64 2, .int .i64 frm, .int .i64 stp, .int .i64 0, .int .i64 0, .slice none 0 0, .slice none 0 0, .int .i64 0, .int .i64 0, .slice none 0 0, .slice none 0 0]] W (OwnE 5 .u8 W.heap.size (wrtV (ackF frm stp)) (wrtE (ackF frm stp)) W) by exact F.write (ackF frm stp) zeroP (ln_zero _) hw W (RdS.zero _ _)))
  have CC := hid (fun W => (show Calls Try.prog 20 #[.agg #[.int .i64 2, .int .i64 frm, .int .i64 stp, .int .i64 0, .int .i64 0, .slice none 0 0, .slice none 0 0, .int .i64 0, .int .i64 0, .slice none 0 0, .slice none 0 0]] W fun e w' => e = .returned (.int .i64 (chkF (ackF frm stp))) ∧ Below W.heap.size W w' by exact F.check (ackF frm stp) zeroP (ln_zero _) hw W (RdS.zero _ _)))
  have HB := hid (fun W => BoxL.new W [.int .i64 2, .int .i64 frm, .int .i64 stp, .int .i64 0, .int .i64 0, .slice none 0 0, .slice none 0 0, .int .i64 0, .int .i64 0, .slice none 0 0, .slice none 0 0] 29)
  have hwr := wrt_ok hw (show (ackF frm stp).S.V.length ≤ 1000 by simp [ackF, zeroS])
  unfold I64 at hf hs
  by_cases ok : 0 ≤ frm ∧ frm < 64 ∧ 0 ≤ stp ∧ stp ≤ 1073741824
  · obtain ⟨o1, o2, o3, o4⟩ := ok
    have hc : chkF (ackF frm stp) = 0 := ack_chk.2 ⟨o1, o2, o3, o4⟩
    have e2 : wrtE (ackF frm stp) = 0 := hwr.1.2 hc
    obtain ⟨e4, e5, e6, _⟩ := rd_wrt hw (show (ackF frm stp).S.V.length ≤ 1000 by simp [ackF, zeroS]) e2
    rw [ack_text] at e6
    have hu2 : U64s [frm, stp] := by
      intro x hx; simp at hx; rcases hx with rfl | rfl
      · unfold U64; omega
      · unfold U64; omega
    have hel := encs_len hu2
    have CP := hid (fun (A : Option Addr) (W : World) (h : Rd (Value.int .u64) W W.heap.size A [frm, stp]) => ref_Put (A := none) (B := A) (c := 0) (d := 2) [] [frm, stp] (by simp) (by simp) hu2 W Rd.none_ h)
    rw [e2] at CW
    obtain ⟨X, hX⟩ : ∃ X, wrtV (ackF frm stp) = X := ⟨_, rfl⟩
    rw [hX] at CW e4 e5 e6
    rw [List.nil_append] at CP
    obtain ⟨Y, hY⟩ : ∃ Y, encs [frm, stp] = Y := ⟨_, rfl⟩
    rw [hY] at CP e6 hel
    have hXl : X.length = Y.length + 6 := by rw [e6]; simp
    have hYl : Y.length ≤ 20 := by simpa using hel
    have CR := hid (fun A c (W : World) h1 h2 h => F.read A c X (by omega) h1 h2 e5 W h)
    have CRR := hid (fun A c (W : World) h1 h2 h => (show Calls Try.prog 26 #[.slice A X.length c] W fun e w' => ∃ p : SentP, e = .returned (.tuple #[.agg #[.int .i64 2, .int .i64 frm, .int .i64 stp, .int .i64 0, .int .i64 0, .slice p.AL 0 p.cL, .slice p.AV 0 p.cV, .int .i64 0, .int .i64 0, .slice p.AE 0 p.cE, .slice p.AN 0 p.cN], .int .i64 0]) ∧ Below W.heap.size W w' by
      have h' := CR.out A c W h1 h2 h
      rw [e4] at h'
      exact h'.mono fun _ _ ⟨p, q1, _, q3⟩ => ⟨p, q1, q3⟩))
    clear CR
    have hXY : ((X.length : Int) == 2 + (Y.length : Int) + 4) = true := by rw [hXl]; simp; omega
    have hXb : X.length ≤ 26 := by omega
    have HXY := hid hXY
    clear e2 e4 e5 e6 hX hY hc hwr hw hel hu2 CC hXl hXY
    go_enter Try.func8, Try.ntmps8
    go_wp2_with fail
    refine (CL.out _).mono ?_
    rintro _ w1 ⟨rfl, hb1⟩
    go_wp2_with fail
    refine (CA.out _).mono ?_
    rintro _ w2 ⟨rfl, hb2⟩
    have k2 := hb1.trans (hb2.mono hb1.size)
    go_wp2_with fail
    refine (CW.out _).mono ?_
    rintro _ w3 ⟨A3, d3, rfl, ho3, hb3⟩
    have k3 : Below w.heap.size w w3 := k2.trans (((grow w2 _).trans (hb3.mono (by simp))).mono k2.size)
    have hcap := own_cap ho3
    have CR1 := hid (CRR.out A3 d3 w3 hcap.1 hcap.2 (own_rd ho3))
    clear hb3 ho3 CW CA CL CRR
    go_wp2_with fail
    refine CR1.out.mono ?_
    rintro _ w4 ⟨p4, rfl, hb4⟩
    have k4 := k3.trans (hb4.mono k3.size)
    go_wp2_with fail
    have hz := (grow w4 (.cells #[.int .i64 2, .int .i64 frm, .int .i64 stp, .int .i64 0, .int .i64 0, .slice p4.AL 0 p4.cL, .slice p4.AV 0 p4.cV, .int .i64 0, .int .i64 0, .slice p4.AE 0 p4.cE, .slice p4.AN 0 p4.cN] 29)).trans ((grow (w4.alloc (.cells #[.int .i64 2, .int .i64 frm, .int .i64 stp, .int .i64 0, .int .i64 0, .slice p4.AL 0 p4.cL, .slice p4.AV 0 p4.cV, .int .i64 0, .int .i64 0, .slice p4.AE 0 p4.cE, .slice p4.AN 0 p4.cN] 29)) (.cells #[.int .u64 frm, .int .u64 stp] 51)).mono (by simp))
    have K0 := ((BoxL.new w4 [.int .i64 2, .int .i64 frm, .int .i64 stp, .int .i64 0, .int .i64 0, .slice p4.AL 0 p4.cL, .slice p4.AV 0 p4.cV, .int .i64 0, .int .i64 0, .slice p4.AE 0 p4.cE, .slice p4.AN 0 p4.cN] 29).below (grow _ (.cells #[.int .u64 frm, .int .u64 stp] 51)) (by simp))
    have hr2 : Rd (Value.int .u64) ((w4.alloc (.cells #[.int .i64 2, .int .i64 frm, .int .i64 stp, .int .i64 0, .int .i64 0, .slice p4.AL 0 p4.cL, .slice p4.AV 0 p4.cV, .int .i64 0, .int .i64 0, .slice p4.AE 0 p4.cE, .slice p4.AN 0 p4.cN] 29)).alloc (.cells #[.int .u64 frm, .int .u64 stp] 51)) _ (some ⟨w4.heap.size + 1, 0, none⟩) [frm, stp] := (by
      have h := rd_new (enc := Value.int .u64) (w4.alloc (.cells #[.int .i64 2, .int .i64 frm, .int .i64 stp, .int .i64 0, .int .i64 0, .slice p4.AL 0 p4.cL, .slice p4.AV 0 p4.cV, .int .i64 0, .int .i64 0, .slice p4.AE 0 p4.cE, .slice p4.AN 0 p4.cN] 29)) 51 [frm, stp]
      have e : (w4.alloc (.cells #[.int .i64 2, .int .i64 frm, .int .i64 stp, .int .i64 0, .int .i64 0, .slice p4.AL 0 p4.cL, .slice p4.AV 0 p4.cV, .int .i64 0, .int .i64 0, .slice p4.AE 0 p4.cE, .slice p4.AN 0 p4.cN] 29)).heap.size = w4.heap.size + 1 := World.size_alloc _ _
      rw [show (some (⟨(w4.alloc (.cells #[.int .i64 2, .int .i64 frm, .int .i64 stp, .int .i64 0, .int .i64 0, .slice p4.AL 0 p4.cL, .slice p4.AV 0 p4.cV, .int .i64 0, .int .i64 0, .slice p4.AE 0 p4.cE, .slice p4.AN 0 p4.cN] 29)).heap.size, 0, none⟩ : Addr)) = some ⟨w4.heap.size + 1, 0, none⟩ by rw [e]] at h
      exact h)
    refine (CP.out _ _ hr2).mono ?_
    rintro _ w5 ⟨A5, d5, rfl, ho5, hb5⟩
    have K5 := K0.below hb5 (by simp; omega)
    have k5 := k4.trans ((hz.trans (hb5.mono hz.size)).mono k4.size)
    obtain ⟨c0, c1, c2, c3, c4, c5, c6, c7, c8, c9, c10⟩ := K5.cells11
    have hXY := HXY.out
    clear K0 K5 hz hr2 ho5 hb5 CP HB
    go_wp2_with fail
    go_ret
    exact ⟨rfl, k5⟩
  · have e1 : chkF (ackF frm stp) = 1 := chkF_no (fun h => ok (ack_chk.1 (chkF_ok.2 h)))
    have e2 : wrtE (ackF frm stp) = 1 := by unfold wrtE; rw [if_neg (by rw [e1]; decide)]
    have e3 : wrtV (ackF frm stp) = [] := by unfold wrtV; rw [if_neg (by rw [e1]; decide)]
    rw [e2, e3] at CW
    rw [e1] at CC
    clear e1 e2 e3 hwr hw
    by_cases o1 : 0 ≤ frm
    · by_cases o2 : frm < 64
      · by_cases o3 : 0 ≤ stp
        · have o4 : ¬ stp ≤ 1073741824 := fun h => ok ⟨o1, o2, o3, h⟩
          clear ok
          go_enter Try.func8, Try.ntmps8
          go_wp2_with fail
          refine (CL.out _).mono ?_
          rintro _ w1 ⟨rfl, hb1⟩
          go_wp2_with fail
          refine (CA.out _).mono ?_
          rintro _ w2 ⟨rfl, hb2⟩
          have k2 := hb1.trans (hb2.mono hb1.size)
          go_wp2_with fail
          refine (CW.out _).mono ?_
          rintro _ w3 ⟨A3, d3, rfl, ho3, hb3⟩
          have K := (HB.out w2).below hb3 (by simp)
          have k3 : Below w.heap.size w w3 := k2.trans (((grow w2 _).trans (hb3.mono (by simp))).mono k2.size)
          obtain ⟨c0, c1, c2, c3, c4, c5, c6, c7, c8, c9, c10⟩ := K.cells11
          clear K ho3 hb3
          go_wp2_with fail
          refine (CC.out _).mono ?_
          rintro _ w4 ⟨rfl, hb4⟩
          go_wp2_with fail
          go_ret
          exact ⟨rfl, k3.trans (hb4.mono k3.size)⟩
        · clear ok
          go_enter Try.func8, Try.ntmps8
          go_wp2_with fail
          refine (CL.out _).mono ?_
          rintro _ w1 ⟨rfl, hb1⟩
          go_wp2_with fail
          refine (CA.out _).mono ?_
          rintro _ w2 ⟨rfl, hb2⟩
          have k2 := hb1.trans (hb2.mono hb1.size)
          go_wp2_with fail
          refine (CW.out _).mono ?_
          rintro _ w3 ⟨A3, d3, rfl, ho3, hb3⟩
          have K := (HB.out w2).below hb3 (by simp)
          have k3 : Below w.heap.size w w3 := k2.trans (((grow w2 _).trans (hb3.mono (by simp))).mono k2.size)
          obtain ⟨c0, c1, c2, c3, c4, c5, c6, c7, c8, c9, c10⟩ := K.cells11
          clear K ho3 hb3
          go_wp2_with fail
          refine (CC.out _).mono ?_
          rintro _ w4 ⟨rfl, hb4⟩
          go_wp2_with fail
          go_ret
          exact ⟨rfl, k3.trans (hb4.mono k3.size)⟩
      · clear ok
        go_enter Try.func8, Try.ntmps8
        go_wp2_with fail
        refine (CL.out _).mono ?_
        rintro _ w1 ⟨rfl, hb1⟩
        go_wp2_with fail
        refine (CA.out _).mono ?_
        rintro _ w2 ⟨rfl, hb2⟩
        have k2 := hb1.trans (hb2.mono hb1.size)
        go_wp2_with fail
        refine (CW.out _).mono ?_
        rintro _ w3 ⟨A3, d3, rfl, ho3, hb3⟩
        have K := (HB.out w2).below hb3 (by simp)
        have k3 : Below w.heap.size w w3 := k2.trans (((grow w2 _).trans (hb3.mono (by simp))).mono k2.size)
        obtain ⟨c0, c1, c2, c3, c4, c5, c6, c7, c8, c9, c10⟩ := K.cells11
        clear K ho3 hb3
        go_wp2_with fail
        refine (CC.out _).mono ?_
        rintro _ w4 ⟨rfl, hb4⟩
        go_wp2_with fail
        go_ret
        exact ⟨rfl, k3.trans (hb4.mono k3.size)⟩
    · clear ok
      go_enter Try.func8, Try.ntmps8
      go_wp2_with fail
      refine (CL.out _).mono ?_
      rintro _ w1 ⟨rfl, hb1⟩
      go_wp2_with fail
      refine (CA.out _).mono ?_
      rintro _ w2 ⟨rfl, hb2⟩
      have k2 := hb1.trans (hb2.mono hb1.size)
      go_wp2_with fail
      refine (CW.out _).mono ?_
      rintro _ w3 ⟨A3, d3, rfl, ho3, hb3⟩
      have K := (HB.out w2).below hb3 (by simp)
      have k3 : Below w.heap.size w w3 := k2.trans (((grow w2 _).trans (hb3.mono (by simp))).mono k2.size)
      obtain ⟨c0, c1, c2, c3, c4, c5, c6, c7, c8, c9, c10⟩ := K.cells11
      clear K ho3 hb3
      go_wp2_with fail
      refine (CC.out _).mono ?_
      rintro _ w4 ⟨rfl, hb4⟩
      go_wp2_with fail
      go_ret
      exact ⟨rfl, k3.trans (hb4.mono k3.size)⟩
theorem law_types : ∀ t ∈ Try.f8.params.toList, Try.prog.readableRec t = true ∧ t < Try.prog.types.size := by
  have h : (Try.f8.params.toList.all fun t => Try.prog.readableRec t && decide (t < Try.prog.types.size)) = true := by kernel_rfl
  intro t ht
  simpa using List.all_eq_true.1 h t ht
set_option maxRecDepth 100000 in
theorem lifted (os : Os) (started : os.Started) (H : Type) (enc : TypeId × Value → H) :
    ReturnsInHanded {} Try.checked os 8 .any (Rows.frameAcksSpec.pre6 enc Try.prog Try.f8 Rows.frameAcksRow.domain false) (Rows.frameAcksSpec.post enc Try.prog Try.f8 false true false false) := by
  refine returnsInHanded_of_change (C := Try.checked) own started (by kernel_rfl) Try.func8
    (ChangeSpec.witness6 (enc := enc) (C := Try.checked) false ⟨#[], #[.int .i64 0, .int .i64 0], []⟩ 8 (by kernel_rfl) (by kernel_rfl) (by kernel_rfl) (by kernel_rfl)) ?_
  intro W base args ds gs before hval0 hW hcnd _
  have hval : ∀ (j : Nat) t v, Try.f8.params[j]? = some t → args[j]? = some v → Value.okWide Try.prog W .any base t v := hval0
  have hW' := hW
  obtain ⟨p, q, hA0, hV, rfl, hfz, hnd⟩ := hW
  have hA : DataW.TrodAll enc Try.prog W 0 (fun _ => true) true Try.f8.params.toList args.toList ds p := hA0
  rw [Try.params8] at hA hval
  obtain ⟨v0, vs0, d0, ds0, p0, q0, hargs, rfl, rfl, h0, r0⟩ := trodAll_cons hA
  obtain ⟨v1, vs1, d1, ds1, p1, q1, rfl, rfl, rfl, h1, r1⟩ := trodAll_cons r0
  obtain ⟨rfl, rfl, rfl⟩ := trodAll_nil r1
  obtain rfl : args = #[v0, v1] := by cases args; simp_all
  obtain ⟨rfl, rfl⟩ := trodVars_none hV
  obtain ⟨frm, rfl, rfl, rfl, w0⟩ := open_int Try.underlying3 (hval 0 3 v0 rfl rfl) h0
  obtain ⟨stp, rfl, rfl, rfl, w1⟩ := open_int Try.underlying3 (hval 1 3 v1 rfl rfl) h1
  clear hA0 hval0
  refine (walk frOk frm stp (I64.of_wf w0) (I64.of_wf w1) W).mono fun e W' ⟨he, hb⟩ => ?_
  subst he
  exact ⟨_, rfl, law_post laid (fun t ht => law_types t ht) rfl hW' ⟨rfl, rfl, rfl⟩ (by kernel_rfl) Try.underlying4 hb⟩

theorem over : Rows.frameAcksRow.holds Try.pinned (OpenSpec.ofChange Rows.frameAcksSpec) :=
  OpenClaim.holds_of_wide 8 Try.f8 rfl rfl rfl rfl rfl rfl rfl ⟨rfl, rfl, rfl, rfl, rfl⟩ rfl rfl rfl rfl rfl (by kernel_rfl) Try.func8 (by kernel_rfl)
    (of_decide_eq_true (by kernel_rfl)) (by unfold Func.isWrapper; first | (rw [if_pos (by decide +kernel)]; kernel_rfl) | (rw [if_neg (by decide +kernel)]; exact ⟨rfl, rfl⟩))
    (fun os started H enc _ => lifted os started H enc)

theorem proved : Rows.FrameAcksSaid := over
end Go.Proofs.Ytooipmcpbkbemaa.FrameAcks
