
/-
  CrcLinear answers true for every input. No condition.
-/
import Derived.Laws.Cover1
import Derived.Test.YtgkkliibeiklbaaCrcLv
import Derived.Test.YtgkkliibeiklbaaLaw
namespace Go.Proofs.Ytgkkliibeiklbaa.CrcLinear
open Go.ChangeShapes Go.WideShapes Go.ChangeAt Go.RowKit
set_option maxHeartbeats 400000
set_option linter.unusedVariables false
open Go.Proofs.Ytgkkliibeiklbaa
set_option maxHeartbeats 4000000 in
set_option maxRecDepth 100000 in
theorem walk (Aa : Option Addr) (a : List Int) (ca : Nat) (Ab : Option Addr) (b : List Int) (cb : Nat) (Ac : Option Addr) (c : List Int) (cc : Nat) (w : World) (ra : Rd (Value.int .u8) w w.heap.size Aa a) (ua : U8s a) (la : a.length ≤ ca) (ma : ca ≤ 9223372036854775807)
    (rb : Rd (Value.int .u8) w w.heap.size Ab b) (ub : U8s b) (lb : b.length ≤ cb) (mb : cb ≤ 9223372036854775807) (rc : Rd (Value.int .u8) w w.heap.size Ac c) (uc : U8s c) (lc : c.length ≤ cc) (mc : cc ≤ 9223372036854775807) :
    Calls Try.prog 7 #[.slice Aa a.length ca, .slice Ab b.length cb, .slice Ac c.length cc] w fun e w' => e = .returned (.bool true) ∧ Below w.heap.size w w' := by
  obtain ⟨n, hn⟩ : ∃ n : Nat, min (min a.length b.length) c.length = n := ⟨_, rfl⟩
  have hna : n ≤ a.length := by omega
  have hnb : n ≤ b.length := by omega
  have hnc : n ≤ c.length := by omega
  have hmin : ∀ ts t (w : World), (Builtin.min_ ts t #[.int .i64 (a.length : Int), .int .i64 (b.length : Int), .int .i64 (c.length : Int)]).run Try.prog w = .ok (.int .i64 (n : Int)) w := fun ts t w => by
    rw [run_min_int3]
    congr 2
    split <;> (split at * <;> omega)
  have RA := hid ra
  have RB := hid rb
  have RC := hid rc
  clear ra rb rc hn
  by_cases hf : n ≤ 3000
  · have uta := ua.take n
    have utb := ub.take n
    have utc := uc.take n
    have hla : (a.take n).length = n := by rw [List.length_take]; omega
    have hlb : (b.take n).length = n := by rw [List.length_take]; omega
    have hlc : (c.take n).length = n := by rw [List.length_take]; omega
    have hsum := sum_lin uta utb utc (by omega) (by omega)
    have hxx := xor_u32 (sumN_lt (a.take n)) (sumN_lt (b.take n))
    have hxy := xor_u32 (Nat.xor_lt_two_pow (sumN_lt (a.take n)) (sumN_lt (b.take n))) (sumN_lt (c.take n))
    have hDl : (xorL (xorL (a.take n) (b.take n)) (c.take n)).length = n := by rw [xorL_len (by rw [xorL_len (by omega)]; omega), xorL_len (by omega), hla]
    have uD := xorL_bytes (xorL_bytes uta utb) utc
    have HD : Hid (∀ k x y z : Nat, k < n → a[k]? = some (x : Int) → b[k]? = some (y : Int) → c[k]? = some (z : Int) → (xorL (xorL (a.take n) (b.take n)) (c.take n)).getD k 0 = ((x ^^^ y ^^^ z : Nat) : Int)) := fun k x y z hk ex ey ez => by
      have h1 := xorL_at (a := a.take n) (b := b.take n) (k := k) (by rw [List.getElem?_take_of_lt hk]; exact ex) (by rw [List.getElem?_take_of_lt hk]; exact ey)
      have h2 := xorL_at (b := c.take n) (k := k) h1 (by rw [List.getElem?_take_of_lt hk]; exact ez)
      rw [getD_of h2]
      simp only [Int.toNat_natCast]
    obtain ⟨ta, hta⟩ : ∃ t, a.take n = t := ⟨_, rfl⟩
    obtain ⟨tb, htb⟩ : ∃ t, b.take n = t := ⟨_, rfl⟩
    obtain ⟨tc, htc⟩ : ∃ t, c.take n = t := ⟨_, rfl⟩
    obtain ⟨D, hD⟩ : ∃ t, xorL (xorL (a.take n) (b.take n)) (c.take n) = t := ⟨_, rfl⟩
    rw [hD] at hsum hDl uD HD
    rw [hta] at hla uta hsum hxx hxy
    rw [htb] at hlb utb hsum hxx hxy
    rw [htc] at hlc utc hsum hxy
    obtain ⟨pa, hpa⟩ : ∃ t, sumN ta = t := ⟨_, rfl⟩
    obtain ⟨pb, hpb⟩ : ∃ t, sumN tb = t := ⟨_, rfl⟩
    obtain ⟨pc, hpc⟩ : ∃ t, sumN tc = t := ⟨_, rfl⟩
    obtain ⟨pd, hpd⟩ : ∃ t, sumN D = t := ⟨_, rfl⟩
    have CA := hid (fun A k W (hr : Rd (Value.int .u8) W W.heap.size A ta) => crc_Sum (A := A) (c := k) ta (by omega) uta W hr)
    have CB := hid (fun A k W (hr : Rd (Value.int .u8) W W.heap.size A tb) => crc_Sum (A := A) (c := k) tb (by omega) utb W hr)
    have CC := hid (fun A k W (hr : Rd (Value.int .u8) W W.heap.size A tc) => crc_Sum (A := A) (c := k) tc (by omega) utc W hr)
    have CD := hid (fun A k W (hr : Rd (Value.int .u8) W W.heap.size A D) => crc_Sum (A := A) (c := k) D (by omega) uD W hr)
    rw [hla, hpa] at CA
    rw [hlb, hpb] at CB
    rw [hlc, hpc] at CC
    rw [hDl, hpd] at CD
    rw [hpa, hpb, hpc, hpd] at hsum
    rw [hpa, hpb] at hxx
    rw [hpa, hpb, hpc, ← hsum] at hxy
    have HTA := hid hta
    have HTB := hid htb
    have HTC := hid htc
    have HXX := hid hxx
    have HXY := hid hxy
    have HDL := hid hDl
    have UA := hid ua
    have UB := hid ub
    have UC := hid uc
    have hmk := fun W => run_make_row' (P := Try.prog) 22 5 (.int .u8 0) 1 Try.underlying22 info_u8 rfl .i64 .i64 n (by omega) (by omega) W
    clear hta htb htc hD hpa hpb hpc hpd hla hlb hlc hxx hxy hsum hDl uta utb utc uD ua ub uc
    go_enter Try.func7, Try.ntmps7
    go_wp2_with fail
    refine (live_yes _).mono ?_
    rintro _ w1 ⟨rfl, k1⟩
    go_wp2_with fail
    go_loopw [28] (fun i wr => ∃ k : Nat, k ≤ n ∧ i = .int .i64 k ∧ wr.rowIs w1.heap.size 5 n (fun j => if j < k then .int .u8 (D.getD j 0) else .int .u8 0) ∧ Below w1.heap.size w1 wr) (fun i _ => n - (intOf i).toNat)
    case atStart => exact ⟨0, by omega, rfl, by simpa using World.rowIs_made w1 (.int .u8 0) n _, by go_grown⟩
    case round =>
      obtain ⟨k, hk, rfl, hrow, hbel⟩ := hrel
      have kr := k1.trans (hbel.mono k1.size)
      clear hmk hmin
      by_cases hlt : k < n
      · obtain ⟨b1, o1, x, rfl, l1, ex, c1⟩ := (RA.out.below kr).at_ (k := k) (by omega)
        obtain ⟨b2, o2, y, rfl, l2, ey, c2⟩ := (RB.out.below kr).at_ (k := k) (by omega)
        obtain ⟨b3, o3, z, rfl, l3, ez, c3⟩ := (RC.out.below kr).at_ (k := k) (by omega)
        obtain ⟨x0, x1⟩ := UA.out.at_ ex
        obtain ⟨y0, y1⟩ := UB.out.at_ ey
        obtain ⟨z0, z1⟩ := UC.out.at_ ez
        obtain ⟨x, rfl⟩ := Int.eq_ofNat_of_zero_le x0
        obtain ⟨y, rfl⟩ := Int.eq_ofNat_of_zero_le y0
        obtain ⟨z, rfl⟩ := Int.eq_ofNat_of_zero_le z0
        have e1 := xor_u8 (a := x) (b := y) (by omega) (by omega)
        have e2 := xor_u8 (a := x ^^^ y) (b := z) (Nat.xor_lt_two_pow (by omega) (by omega)) (by omega)
        have HV := hid (HD.out k x y z hlt ex ey ez)
        obtain ⟨u, hu⟩ : ∃ u, x ^^^ y = u := ⟨_, rfl⟩
        rw [hu] at e1 e2 HV
        obtain ⟨v, hv⟩ : ∃ v, u ^^^ z = v := ⟨_, rfl⟩
        rw [hv] at e2 HV
        have f1 := hrow.frozen k
        have c4 := hrow.cell hlt
        rw [if_neg (Nat.lt_irrefl k)] at c4
        have la1 : k < a.length := by omega
        have la2 : k < b.length := by omega
        have la3 : k < c.length := by omega
        have HR := hid hrow
        clear ex ey ez hu hv x0 y0 z0 hrow
        go_wp2_with fail
        go_region
        go_wp2_with fail
        go_roundw
        case rel =>
          refine ⟨k + 1, by omega, by go_num, ?_, hbel.drew.setCell (Nat.le_refl _) _⟩
          refine (HR.out.set k (.int .u8 (v : Int))).congr fun j hj => ?_
          by_cases e : j = k
          · subst e
            rw [if_pos rfl, if_pos (by omega), HV.out]
          · rw [if_neg e]
            by_cases e2 : j < k
            · rw [if_pos e2, if_pos (by omega)]
            · rw [if_neg e2, if_neg (by omega)]
        case measure => simp [intOf]; omega
      · obtain rfl : k = n := by omega
        have rD : Rd (Value.int .u8) wr wr.heap.size (some ⟨w1.heap.size, 0, none⟩) D := fun j y hy => by
          have hj : j < k := by rw [← HDL.out]; exact (List.getElem?_eq_some_iff.1 hy).1
          refine ⟨w1.heap.size, 0, rfl, hrow.lt, ?_⟩
          rw [Nat.zero_add, hrow.cell hj, if_pos hj, getD_of hy]
        have r1 := (RA.out.on kr).cut0 la k
        have r2 := (RB.out.on kr).cut0 lb k
        have r3 := (RC.out.on kr).cut0 lc k
        rw [HTA.out] at r1
        rw [HTB.out] at r2
        rw [HTC.out] at r3
        have s1 := fun W => run_upto (P := Try.prog) 22 Try.underlying22 Try.sizeOf5 Aa a.length ca k (by omega) W
        have s2 := fun W => run_upto (P := Try.prog) 22 Try.underlying22 Try.sizeOf5 Ab b.length cb k (by omega) W
        have s3 := fun W => run_upto (P := Try.prog) 22 Try.underlying22 Try.sizeOf5 Ac c.length cc k (by omega) W
        obtain ⟨A1, hA1⟩ : ∃ A1, cutA Aa 0 ca = A1 := ⟨_, rfl⟩
        obtain ⟨A2, hA2⟩ : ∃ A1, cutA Ab 0 cb = A1 := ⟨_, rfl⟩
        obtain ⟨A3, hA3⟩ : ∃ A1, cutA Ac 0 cc = A1 := ⟨_, rfl⟩
        rw [hA1] at r1 s1
        rw [hA2] at r2 s2
        rw [hA3] at r3 s3
        have QA := hid (fun k' n => CA.out A1 k' (wr.drewN n) r1)
        have QB := hid (fun k' n => CB.out A2 k' (wr.drewN n) r2)
        have QC := hid (fun k' n => CC.out A3 k' (wr.drewN n) r3)
        have QD := hid (fun k' n => CD.out _ k' (wr.drewN n) rD)
        have hxx := HXX.out
        have hxy := HXY.out
        obtain ⟨px, hpx⟩ : ∃ px, pa ^^^ pb = px := ⟨_, rfl⟩
        rw [hpx] at hxx hxy
        clear hA1 hA2 hA3 r1 r2 r3 rD hrow hpx HTA HTB HTC HDL RA RB RC HXX HXY CA CB CC CD HD
        go_wp2_with fail
        go_quiet ((go_at_call 15; first | with_reducible exact quietR (QD.out _) _ | with_reducible exact quietR (QA.out _) _ | with_reducible exact quietR (QB.out _) _ | with_reducible exact quietR (QC.out _) _))
        go_wp2_with fail
        go_ret
        exact ⟨by simp, kr.trans (belowN _ _ _)⟩
  · have hf2 : 3000 < n := by omega
    clear hf ua ub uc
    go_enter Try.func7, Try.ntmps7
    go_wp2_with fail
    refine (live_yes _).mono ?_
    rintro _ w1 ⟨rfl, k1⟩
    go_wp2_with fail
    go_ret
    exact ⟨rfl, k1⟩
theorem law_types : ∀ t ∈ Try.f7.params.toList, Try.prog.readableRec t = true ∧ t < Try.prog.types.size := by
  have h : (Try.f7.params.toList.all fun t => Try.prog.readableRec t && decide (t < Try.prog.types.size)) = true := by kernel_rfl
  intro t ht
  simpa using List.all_eq_true.1 h t ht
set_option maxRecDepth 100000 in
theorem lifted (os : Os) (started : os.Started) (H : Type) (enc : TypeId × Value → H) :
    ReturnsInHanded {} Try.checked os 7 .any (Rows.crcLinearSpec.pre6 enc Try.prog Try.f7 Rows.crcLinearRow.domain false) (Rows.crcLinearSpec.post enc Try.prog Try.f7 false true false false) := by
  refine returnsInHanded_of_change (C := Try.checked) own started (by kernel_rfl) Try.func7
    (ChangeSpec.witness6 (enc := enc) (C := Try.checked) false ⟨#[], #[.slice none 0 0, .slice none 0 0, .slice none 0 0], []⟩ 8 (by kernel_rfl) (by kernel_rfl) (by kernel_rfl) (by kernel_rfl)) ?_
  intro W base args ds gs before hval0 hW hcnd _
  have hval : ∀ (j : Nat) t v, Try.f7.params[j]? = some t → args[j]? = some v → Value.okWide Try.prog W .any base t v := hval0
  have hW' := hW
  obtain ⟨p, q, hA0, hV, rfl, hfz, hnd⟩ := hW
  have hA : DataW.TrodAll enc Try.prog W 0 (fun _ => true) true Try.f7.params.toList args.toList ds p := hA0
  rw [Try.params7] at hA hval
  obtain ⟨v0, vs0, d0, ds0, p0, q0, hargs, rfl, rfl, h0, r0⟩ := trodAll_cons hA
  obtain ⟨v1, vs1, d1, ds1, p1, q1, rfl, rfl, rfl, h1, r1⟩ := trodAll_cons r0
  obtain ⟨v2, vs2, d2, ds2, p2, q2, rfl, rfl, rfl, h2, r2⟩ := trodAll_cons r1
  obtain ⟨rfl, rfl, rfl⟩ := trodAll_nil r2
  obtain rfl : args = #[v0, v1, v2] := by cases args; simp_all
  obtain ⟨rfl, rfl⟩ := trodVars_none hV
  obtain ⟨Aa, a, ca, rfl, rda, ia, lca, lma⟩ := open_nums Try.underlying22 Try.underlying5 cells_u8 (hval 0 22 v0 rfl rfl) h0
  obtain ⟨Ab, b, cb, rfl, rdb, ib, lcb, lmb⟩ := open_nums Try.underlying22 Try.underlying5 cells_u8 (hval 1 22 v1 rfl rfl) h1
  obtain ⟨Ac, c, cc, rfl, rdc, ic, lcc, lmc⟩ := open_nums Try.underlying22 Try.underlying5 cells_u8 (hval 2 22 v2 rfl rfl) h2
  clear hA0 hval0
  refine (walk Aa a ca Ab b cb Ac c cc W rda (fun x hx => bounds_u8 (ia x hx)) lca lma rdb (fun x hx => bounds_u8 (ib x hx)) lcb lmb rdc (fun x hx => bounds_u8 (ic x hx)) lcc lmc).mono fun e W' ⟨he, hb⟩ => ?_
  subst he
  exact ⟨_, rfl, law_post laid (fun t ht => law_types t ht) rfl hW' ⟨rfl, rfl, rfl⟩ (by kernel_rfl) Try.underlying4 hb⟩

theorem over : Rows.crcLinearRow.holds Try.pinned (OpenSpec.ofChange Rows.crcLinearSpec) :=
  OpenClaim.holds_of_wide 7 Try.f7 rfl rfl rfl rfl rfl rfl rfl ⟨rfl, rfl, rfl, rfl, rfl⟩ rfl rfl rfl rfl rfl (by kernel_rfl) Try.func7 (by kernel_rfl)
    (of_decide_eq_true (by kernel_rfl)) (by unfold Func.isWrapper; first | (rw [if_pos (by decide +kernel)]; kernel_rfl) | (rw [if_neg (by decide +kernel)]; exact ⟨rfl, rfl⟩))
    (fun os started H enc _ => lifted os started H enc)

theorem proved : Rows.CrcLinearSaid := over
end Go.Proofs.Ytgkkliibeiklbaa.CrcLinear
