
/-
  SoftRows answers true for every input. No condition.
-/
import Derived.Test.YtehbdnehlfplaaaPd
import Derived.Test.YtehbdnehlfplaaaPb
import Derived.Test.YtehbdnehlfplaaaPa
namespace Go.Proofs.Ytehbdnehlfplaaa.SoftRows
open Go.ChangeShapes Go.WideShapes Go.ChangeAt Go.RowKit
set_option maxHeartbeats 400000
set_option linter.unusedVariables false
open Go.Proofs.Ytehbdnehlfplaaa
theorem srows_all {o : Int} {u : List Int} (h : rwE o u = 0) : (rwL o u).flatten = u := by
  have h1 := rw_len h
  unfold rwL
  rw [rw_all _ (by rw [h1]; exact Nat.le_refl _), h1]
  exact List.take_of_length_le (Nat.le_refl _)
theorem srows_dim {o : Int} {u : List Int} {n : Nat} (h : rwE o u = 0) (hn : u.length / o.toNat = n) : sdE ((n : Int) - 1) o = 0 ∧ sdV ((n : Int) - 1) o = (u.length : Int) := by
  obtain ⟨o2, o8, _, n2, n17⟩ := rwE_ok.1 h
  have h1 := rw_len h
  rw [hn] at n2 n17 h1
  have e1 : sdE ((n : Int) - 1) o = 0 := if_neg (by omega)
  refine ⟨e1, ?_⟩
  unfold sdV
  rw [if_pos e1, show (n : Int) - 1 + 1 = (n : Int) by omega, ← h1]
  push_cast
  rw [show ((o.toNat : Nat) : Int) = o by omega]
theorem srows_wrap {n : Nat} (h : n ≤ 17) : IntKind.i64.wrap ((n : Int) - 1) = (n : Int) - 1 := Go.IntWalk.i64_in _ (by omega)
theorem srows_i64 {n : Nat} (h : n ≤ 17) : I64 ((n : Int) - 1) := by unfold I64; omega
theorem srows_flat {R : List (List Int)} {n k : Nat} (h : ∀ r ∈ R, r.length = n) (hn : n ≤ 17) (hR : R.length ≤ 8) : (R.take k).flatten.length ≤ 136 := by
  have h2 : ∀ l : List (List Int), (∀ r ∈ l, r.length = n) → l.flatten.length = l.length * n := fun l => by
    induction l with
    | nil => intro _; simp
    | cons a r ih =>
      intro h
      rw [List.flatten_cons, List.length_append, List.length_cons, Nat.succ_mul, ih (fun p hp => h p (by simp [hp])), h a (by simp)]
      omega
  rw [h2 _ (fun r hr => h r (List.mem_of_mem_take hr))]
  have h3 : (R.take k).length ≤ 8 := by rw [List.length_take]; omega
  exact Nat.le_trans (Nat.mul_le_mul h3 hn) (by decide)
set_option maxHeartbeats 4000000 in
set_option maxRecDepth 100000 in
theorem walk (o : Int) (Au : Option Addr) (u : List Int) (cu : Nat) (w : World) (ho : I64 o)
    (ru : Rd (Value.int .i64) w w.heap.size Au u) (iu : I64s u) (lcu : u.length ≤ cu) (lmu : cu ≤ 9223372036854775807) :
    Calls Try.prog 6 #[.int .i64 o, .slice Au u.length cu] w fun e w' => e = .returned (.bool true) ∧ Below w.heap.size w w' := by
  have C1 := hid (fun W h => sf_Rows (Au := Au) (cu := cu) o ho u lcu lmu W h)
  have C2 := hid (fun n hn W => sf_Dim n o hn ho W)
  have HA := hid (fun h => srows_all (o := o) (u := u) h)
  have HD := hid (fun n h hn => srows_dim (o := o) (u := u) (n := n) h hn)
  have HR := hid (fun h => rwL_row (o := o) (u := u) h)
  have HE := hid (rwE_ok (out := o) (w := u))
  have CS := hid (fun (h : u.length ≤ 500) (A B : Option Addr) (c d : Nat) (W : World) (h1 : Rd (Value.int .i64) W W.heap.size A u) (h2 : Rd (Value.int .i64) W W.heap.size B u) => sf_rsame (A := A) (B := B) (c := c) (d := d) u (by omega) W h1 h2)
  obtain ⟨U, hU⟩ : ∃ U, u.length = U := ⟨_, rfl⟩
  have HU := hid hU
  have RU := hid ru
  rw [hU] at C1 HD CS ⊢
  by_cases hU5 : U > 500
  · have t0 : (U : Int) > 500 := by omega
    clear hU ru iu lcu lmu hU5 ho
    go_enter Try.func6, Try.ntmps6
    go_wp2_with fail
    refine (sf_live _).mono ?_
    rintro _ w1 ⟨rfl, h1⟩
    have K1 := hid h1
    clear h1
    go_wp2_with fail
    go_ret
    exact ⟨rfl, K1.out⟩
  · have t0 : ¬ (U : Int) > 500 := by omega
    have HU5 : Hid (U ≤ 500) := hid (by omega)
    by_cases hE : rwE o u = 0
    · obtain ⟨o2, o8, _, n2, n17⟩ := HE.out.1 hE
      obtain ⟨r1, r2⟩ := HR.out hE
      have e0 : rwO o u = rwL o u := if_pos hE
      have hall := HA.out hE
      obtain ⟨n, hn⟩ : ∃ n, u.length / o.toNat = n := ⟨_, rfl⟩
      obtain ⟨d1, d2⟩ := HD.out n hE (by rw [← hU]; exact hn)
      have CD := hid (fun W => C2.out ((n : Int) - 1) (srows_i64 (by rw [← hn]; exact n17)) W)
      rw [hE, e0] at C1
      rw [hn] at r2 n2 n17
      rw [d1, d2] at CD
      obtain ⟨R, hR⟩ : ∃ R, rwL o u = R := ⟨_, rfl⟩
      rw [hR] at C1 r1 r2 hall
      obtain ⟨O, rfl⟩ : ∃ O : Nat, o = (O : Int) := ⟨o.toNat, by omega⟩
      rw [show ((O : Int)).toNat = O from rfl] at r1
      have hO8 : O ≤ 8 := by omega
      have hO2 : 2 ≤ O := by omega
      have HO8 := hid hO8
      have HN17 := hid n17
      have HRL := hid r1
      have HRR := hid r2
      have HALL := hid hall
      have hwn := srows_wrap n17
      obtain ⟨n1, hn1⟩ : ∃ n1, (n : Int) - 1 = n1 := ⟨_, rfl⟩
      rw [hn1] at CD
      replace hwn : IntKind.i64.wrap ((n : Int) - 1) = n1 := by rw [hwn, hn1]
      clear hU ru iu lcu lmu hU5 ho e0 hall hn d1 d2 hR r1 r2 hE C2 HA HD HR HE o2 o8 n2 hn1
      go_enter Try.func6, Try.ntmps6
      go_wp2_with fail
      refine (sf_live _).mono ?_
      rintro _ w1 ⟨rfl, h1⟩
      have K1 := hid h1
      clear h1
      go_wp2_with fail
      refine (C1.out _ (RU.out.on K1.out)).mono ?_
      rintro _ w2 ⟨A2, c2, rfl, ho2, h2⟩
      rw [HRL.out]
      have K2 : Hid (Below w.heap.size w w2) := hid (K1.out.trans (h2.mono K1.out.size))
      have HO2 := hid ho2
      obtain ⟨b0, off0, r0, A0, c0, rfl, hb0, er0, hc0, _, _, _⟩ := ho2.at_ (k := 0) (by rw [HRL.out]; omega)
      have hr0 : r0.length = n := HRR.out r0 (List.mem_of_getElem? er0)
      rw [hr0, Nat.add_zero] at hc0
      clear h2 ho2 hr0 er0 C1
      go_wp2_with fail
      go_loopw [8, 10, 36] (fun xa _ xi wr => ∃ (k : Nat) (T : List Int) (A3 : Option Addr) (c3 : Nat), k ≤ O ∧ xi = .int .i64 (k : Int) ∧ xa = .slice A3 T.length c3 ∧ T = (R.take k).flatten ∧ wr.ownsRow w2.heap.size 2 1 (.slice A3 T.length c3) T.length (T.map (Value.int .i64)) ∧ Below w2.heap.size w2 wr) (fun _ _ xi _ => O - (intOf xi).toNat)
      case atStart => exact ⟨0, [], none, 0, Nat.zero_le _, rfl, rfl, rfl, own_nil _ _ _, Below.refl _ _⟩
      case round =>
        obtain ⟨k, T, A3, c3, hk, rfl, rfl, hT, ho3, hbel⟩ := hrel
        have HT := hid hT
        have HO3 := hid ho3
        have HB := hid hbel
        have hTl : T.length ≤ 136 := by rw [hT]; exact srows_flat HRR.out HN17.out (by rw [HRL.out]; exact hO8)
        have HTL := hid hTl
        have z0 := (hbel.cell (p := ⟨b0, off0, none⟩) hb0).trans hc0
        clear hT ho3 hTl
        by_cases hlt : k < O
        · obtain ⟨b1, off1, r, Ar, cr, e1, hb1, er, hcr, _, _, rr⟩ := (HO2.out.on hbel).at_ (k := k) (by rw [HRL.out]; exact hlt)
          cases e1
          have hrl : r.length = n := HRR.out r (List.mem_of_getElem? er)
          have HRLn := hid hrl
          have hnx : Hid ((R.take (k + 1)).flatten = (R.take k).flatten ++ r) := hid (by rw [List.take_add_one, er]; simp)
          rw [hrl] at hcr
          have RRr := rr
          have ho4 := HO3.out
          have hz4 := HB.out.size
          have tn : ((n : Int) != (n : Int)) = false := by simp
          clear er rr hrl hbel
          go_wp2_with (at_builtin; refine wpList_app (Value.int .i64) (fun _ => rfl) _ rfl _ _ 22 rfl w2.heap.size 2 (.int .i64 0) 8 Try.underlying22 info_i64 rfl T A3 c3 rfl ho4 r Ar cr _ (by rw [HRLn.out]; rfl) RRr (by have := HTL.out; have := HRLn.out; have := HN17.out; simp [maxLen]; omega) (by have := HTL.out; have := HRLn.out; have := HN17.out; simp; omega) hz4 ?_)
          rintro S A5 c5 w5 hS ho5 hb5 _
          have HS := hid hS
          have HO5 := hid ho5
          have HB5 : Hid (Below w2.heap.size w2 w5) := hid (HB.out.trans hb5)
          have HKO := hid hlt
          clear hS ho5 hb5 ho4 hz4 RRr tn z0
          go_wp2_with fail
          go_roundw
          case rel => exact ⟨k + 1, S, A5, c5, HKO.out, by go_num, rfl, by rw [HS.out, hnx.out, HT.out], HO5.out, HB5.out⟩
          case measure => have := HKO.out; simp [intOf]; omega
        · obtain rfl : k = O := by omega
          have hTU : T = u := by rw [HT.out, List.take_of_length_le (by rw [HRL.out]; exact Nat.le_refl _)]; exact HALL.out
          subst hTU
          rw [HU.out]
          have KR : Hid (Below w.heap.size w wr) := hid (K2.out.trans (hbel.mono K2.out.size))
          have RT := hid (own_rd HO3.out)
          have t1 : ((k : Int) != (k : Int)) = false := by simp
          have t2 : ((k : Int) == 0) = false := beq_eq_false_iff_ne.2 (by omega)
          have t3 : ((U : Int) == (U : Int)) = true := by simp
          clear hbel HT HO3 HTL hlt hk
          go_wp2_with fail
          refine (CD.out _).mono ?_
          rintro _ _ ⟨rfl, rfl⟩
          go_wp2_with fail
          refine (CS.out HU5.out _ _ _ _ _ RT.out (RU.out.on KR.out)).mono ?_
          rintro _ w6 ⟨rfl, h6⟩
          have K6 : Hid (Below w.heap.size w w6) := hid (KR.out.trans (h6.mono KR.out.size))
          clear h6
          go_wp2_with fail
          go_ret
          exact ⟨rfl, K6.out⟩
    · have e0 : rwO o u = [] := if_neg hE
      obtain ⟨E, hEE⟩ : ∃ E, rwE o u = E := ⟨_, rfl⟩
      rw [e0, hEE] at C1
      rw [hEE] at hE
      have hne : (E != 0) = true := by simpa using hE
      clear hU ru iu lcu lmu hU5 ho e0 hEE hE HA HD HR HE C2
      go_enter Try.func6, Try.ntmps6
      go_wp2_with fail
      refine (sf_live _).mono ?_
      rintro _ w1 ⟨rfl, h1⟩
      have K1 := hid h1
      clear h1
      go_wp2_with fail
      refine (C1.out _ (RU.out.on K1.out)).mono ?_
      rintro _ w2 ⟨A2, c2, rfl, ho2, h2⟩
      have K2 : Hid (Below w.heap.size w w2) := hid (K1.out.trans (h2.mono K1.out.size))
      clear h2 ho2
      go_wp2_with fail
      go_ret
      exact ⟨rfl, K2.out⟩
theorem law_types : ∀ t ∈ Try.f6.params.toList, Try.prog.readableRec t = true ∧ t < Try.prog.types.size := by
  have h : (Try.f6.params.toList.all fun t => Try.prog.readableRec t && decide (t < Try.prog.types.size)) = true := by kernel_rfl
  intro t ht
  simpa using List.all_eq_true.1 h t ht
set_option maxRecDepth 100000 in
theorem lifted (os : Os) (started : os.Started) (H : Type) (enc : TypeId × Value → H) :
    ReturnsInHanded {} Try.checked os 6 .any (Rows.softRowsSpec.pre6 enc Try.prog Try.f6 Rows.softRowsRow.domain false) (Rows.softRowsSpec.post enc Try.prog Try.f6 false true false false) := by
  refine returnsInHanded_of_change (C := Try.checked) own started (by kernel_rfl) Try.func6
    (ChangeSpec.witness6 (enc := enc) (C := Try.checked) false ⟨#[], #[.int .i64 0, .slice none 0 0], []⟩ 8 (by kernel_rfl) (by kernel_rfl) (by kernel_rfl) (by kernel_rfl)) ?_
  intro W base args ds gs before hval0 hW hcnd _
  have hval : ∀ (j : Nat) t v, Try.f6.params[j]? = some t → args[j]? = some v → Value.okWide Try.prog W .any base t v := hval0
  have hW' := hW
  obtain ⟨p, q, hA0, hV, rfl, hfz, hnd⟩ := hW
  have hA : DataW.TrodAll enc Try.prog W 0 (fun _ => true) true Try.f6.params.toList args.toList ds p := hA0
  rw [Try.params6] at hA hval
  obtain ⟨v0, vs0, d0, ds0, p0, q0, hargs, rfl, rfl, h0, r0⟩ := trodAll_cons hA
  obtain ⟨v1, vs1, d1, ds1, p1, q1, rfl, rfl, rfl, h1, r1⟩ := trodAll_cons r0
  obtain ⟨rfl, rfl, rfl⟩ := trodAll_nil r1
  obtain rfl : args = #[v0, v1] := by cases args; simp_all
  obtain ⟨rfl, rfl⟩ := trodVars_none hV
  obtain ⟨o, rfl, rfl, rfl, w0⟩ := open_int Try.underlying3 (hval 0 3 v0 rfl rfl) h0
  obtain ⟨Au, u, cu, rfl, rdu, iu, lcu, lmu⟩ := open_nums Try.underlying22 Try.underlying2 cells_i64' (hval 1 22 v1 rfl rfl) h1
  clear hA0 hval0
  refine (walk o Au u cu W (I64.of_wf w0) rdu (fun x hx => I64.of_wf (iu x hx)) lcu lmu).mono fun e W' ⟨he, hb⟩ => ?_
  subst he
  exact ⟨_, rfl, law_post laid (fun t ht => law_types t ht) rfl hW' ⟨rfl, rfl, rfl⟩ (by kernel_rfl) Try.underlying4 hb⟩

theorem over : Rows.softRowsRow.holds Try.pinned (OpenSpec.ofChange Rows.softRowsSpec) :=
  OpenClaim.holds_of_wide 6 Try.f6 rfl rfl rfl rfl rfl rfl rfl ⟨rfl, rfl, rfl, rfl, rfl⟩ rfl rfl rfl rfl rfl (by kernel_rfl) Try.func6 (by kernel_rfl)
    (of_decide_eq_true (by kernel_rfl)) (by unfold Func.isWrapper; first | (rw [if_pos (by decide +kernel)]; kernel_rfl) | (rw [if_neg (by decide +kernel)]; exact ⟨rfl, rfl⟩))
    (fun os started H enc _ => lifted os started H enc)

theorem proved : Rows.SoftRowsSaid := over
end Go.Proofs.Ytehbdnehlfplaaa.SoftRows
