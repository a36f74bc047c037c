
/-
  VecReckons answers true for every input. No condition.
-/
import Derived.Test.YtmljhckbeoalgaaVecM
import Derived.Test.YtmljhckbeoalgaaOpen
namespace Go.Proofs.Ytmljhckbeoalgaa.VecReckons
open Go.ChangeShapes Go.WideShapes Go.ChangeAt Go.RowKit
set_option maxHeartbeats 400000
set_option linter.unusedVariables false
open Go.Proofs.Ytmljhckbeoalgaa
set_option maxRecDepth 100000 in
theorem walk (Aa : Option Addr) (a : List Int) (ca : Nat) (Ab : Option Addr) (b : List Int) (cb : Nat) (by_ frac n : Int) (w : World) (ra : Rd (Value.int .i64) w w.heap.size Aa a) (ia : I64s a) (la : a.length ≤ ca) (ma : ca ≤ 9223372036854775807) (rb : Rd (Value.int .i64) w w.heap.size Ab b) (ib : I64s b) (lb : b.length ≤ cb) (mb : cb ≤ 9223372036854775807) (iy : I64 by_) (ifr : I64 frac) (inn : I64 n) :
    Calls Try.prog 3 #[.slice Aa a.length ca, .slice Ab b.length cb, .int .i64 by_, .int .i64 frac, .int .i64 n] w fun e w' => e = .returned (.bool true) ∧ Below w.heap.size w w' := by
  have RA := hid ra
  have RB := hid rb
  have la' : a.length ≤ 9223372036854775807 := by omega
  have lb' : b.length ≤ 9223372036854775807 := by omega
  have CF := hid (fun (W : World) h1 h2 => few_two (A := Aa) (B := Ab) (c := ca) (d := cb) a b la' lb' W h1 h2)
  have C1 := hid (fun (W : World) r1 r2 => Add_any (A := Aa) (B := Ab) (c := ca) (d := cb) a b la' lb' ia ib W r1 r2)
  have R1 := hid (fun (W : World) r1 r2 => rAdd_any (A := Aa) (B := Ab) (c := ca) (d := cb) a b la' lb' ia ib W r1 r2)
  have C2 := hid (fun (W : World) r1 r2 => Sub_any (A := Aa) (B := Ab) (c := ca) (d := cb) a b la' lb' ia ib W r1 r2)
  have R2 := hid (fun (W : World) r1 r2 => rSub_any (A := Aa) (B := Ab) (c := ca) (d := cb) a b la' lb' ia ib W r1 r2)
  have C3 := hid (fun (W : World) r1 => Scale_any (A := Aa) (c := ca) a la' ia by_ frac iy W r1)
  have R3 := hid (fun (W : World) r1 => rScale_any (A := Aa) (c := ca) a la' ia by_ frac iy W r1)
  have C4 := hid (fun (W : World) r1 r2 => More_any (A := Aa) (B := Ab) (c := ca) (d := cb) b a lb' la' ib ia by_ frac iy W r1 r2)
  have R4 := hid (fun (W : World) r1 r2 => rMore_any (A := Aa) (B := Ab) (c := ca) (d := cb) b a lb' la' ib ia by_ frac iy W r1 r2)
  have C5 := hid (fun (W : World) r1 => Clip_any (A := Aa) (c := ca) a la' ia by_ iy W r1)
  have R5 := hid (fun (W : World) r1 => rClip_any (A := Aa) (c := ca) a la' ia by_ iy W r1)
  have C6 := hid (fun (W : World) => Zero_any n W)
  have R6 := hid (fun (W : World) => rZero_any n W)
  have C7 := hid (fun (W : World) r1 r2 => Same_any (A := Aa) (B := Ab) (c := ca) (d := cb) a b la' lb' W r1 r2)
  have R7 := hid (fun (W : World) r1 r2 => rSame_any (A := Aa) (B := Ab) (c := ca) (d := cb) a b la' lb' W r1 r2)
  have C8 := hid (fun (W : World) => Check_any Aa a.length ca la' W)
  have R8 := hid (fun (W : World) => rCheck_any Aa a.length ca la' W)
  have CW := hid (fun (A : Option Addr) (c : Nat) (W : World) r1 r2 => rSame_any (A := Aa) (B := A) (c := ca) (d := c) a a la' la' W r1 r2)
  rw [eqB_self] at CW
  obtain ⟨q, hq⟩ : ∃ q, eqB a b = q := ⟨_, rfl⟩
  rw [hq] at C7 R7
  clear hq
  obtain ⟨t, ht⟩ : ∃ t, oneE a.length = t := ⟨_, rfl⟩
  rw [ht] at C8 R8
  clear ht
  obtain ⟨S1, hS1⟩ : ∃ S, opV (· + ·) a b = S := ⟨_, rfl⟩
  obtain ⟨e1, he1⟩ : ∃ e, opE (· + ·) a b = e := ⟨_, rfl⟩
  have l1 : S1.length ≤ 4096 := by rw [← hS1]; exact opV_len _ _ _
  rw [hS1, he1] at C1 R1
  clear hS1 he1
  have Y1 := hid (fun (A B : Option Addr) (c d : Nat) (W : World) r1 r2 => rSame_any (A := A) (B := B) (c := c) (d := d) S1 S1 (by omega) (by omega) W r1 r2)
  rw [eqB_self] at Y1
  have q1 : (e1 != e1) = false := by simp
  have q1' : (e1 == e1) = true := by simp
  obtain ⟨S2, hS2⟩ : ∃ S, opV (· - ·) a b = S := ⟨_, rfl⟩
  obtain ⟨e2, he2⟩ : ∃ e, opE (· - ·) a b = e := ⟨_, rfl⟩
  have l2 : S2.length ≤ 4096 := by rw [← hS2]; exact opV_len _ _ _
  rw [hS2, he2] at C2 R2
  clear hS2 he2
  have Y2 := hid (fun (A B : Option Addr) (c d : Nat) (W : World) r1 r2 => rSame_any (A := A) (B := B) (c := c) (d := d) S2 S2 (by omega) (by omega) W r1 r2)
  rw [eqB_self] at Y2
  have q2 : (e2 != e2) = false := by simp
  have q2' : (e2 == e2) = true := by simp
  obtain ⟨S3, hS3⟩ : ∃ S, unV (behE frac) (numS a by_ frac) a.length = S := ⟨_, rfl⟩
  obtain ⟨e3, he3⟩ : ∃ e, unE (behE frac) (numS a by_ frac) a.length = e := ⟨_, rfl⟩
  have l3 : S3.length ≤ 4096 := by rw [← hS3]; exact unV_len _ _ _
  rw [hS3, he3] at C3 R3
  clear hS3 he3
  have Y3 := hid (fun (A B : Option Addr) (c d : Nat) (W : World) r1 r2 => rSame_any (A := A) (B := B) (c := c) (d := d) S3 S3 (by omega) (by omega) W r1 r2)
  rw [eqB_self] at Y3
  have q3 : (e3 != e3) = false := by simp
  have q3' : (e3 == e3) = true := by simp
  obtain ⟨S4, hS4⟩ : ∃ S, moreV b a by_ frac = S := ⟨_, rfl⟩
  obtain ⟨e4, he4⟩ : ∃ e, moreE b a by_ frac = e := ⟨_, rfl⟩
  have l4 : S4.length ≤ 4096 := by rw [← hS4]; exact moreV_len _ _ _ _
  rw [hS4, he4] at C4 R4
  clear hS4 he4
  have Y4 := hid (fun (A B : Option Addr) (c d : Nat) (W : World) r1 r2 => rSame_any (A := A) (B := B) (c := c) (d := d) S4 S4 (by omega) (by omega) W r1 r2)
  rw [eqB_self] at Y4
  have q4 : (e4 != e4) = false := by simp
  have q4' : (e4 == e4) = true := by simp
  obtain ⟨S5, hS5⟩ : ∃ S, unV (clipE by_) (numC a by_) a.length = S := ⟨_, rfl⟩
  obtain ⟨e5, he5⟩ : ∃ e, unE (clipE by_) (numC a by_) a.length = e := ⟨_, rfl⟩
  have l5 : S5.length ≤ 4096 := by rw [← hS5]; exact unV_len _ _ _
  rw [hS5, he5] at C5 R5
  clear hS5 he5
  have Y5 := hid (fun (A B : Option Addr) (c d : Nat) (W : World) r1 r2 => rSame_any (A := A) (B := B) (c := c) (d := d) S5 S5 (by omega) (by omega) W r1 r2)
  rw [eqB_self] at Y5
  have q5 : (e5 != e5) = false := by simp
  have q5' : (e5 == e5) = true := by simp
  obtain ⟨S6, hS6⟩ : ∃ S, zeroV n = S := ⟨_, rfl⟩
  obtain ⟨e6, he6⟩ : ∃ e, zeroE n = e := ⟨_, rfl⟩
  have l6 : S6.length ≤ 4096 := by rw [← hS6]; exact zeroV_len _
  rw [hS6, he6] at C6 R6
  clear hS6 he6
  have Y6 := hid (fun (A B : Option Addr) (c d : Nat) (W : World) r1 r2 => rSame_any (A := A) (B := B) (c := c) (d := d) S6 S6 (by omega) (by omega) W r1 r2)
  rw [eqB_self] at Y6
  have q6 : (e6 != e6) = false := by simp
  have q6' : (e6 == e6) = true := by simp
  have qt : (t == t) = true := by simp
  have qq : (q == q) = true := by simp
  clear ra rb ia ib
  go_enter Try.func3, Try.ntmps3
  go_wp2_with fail
  refine (live_yes _).mono ?_
  rintro _ w1 ⟨rfl, hb1⟩
  go_wp2_with fail
  have k1 : Below w.heap.size w (w1.alloc (.cells #[.slice Aa a.length ca, .slice Ab b.length cb] 22)) := hb1.alloc hb1.size _
  refine (CF.out w1 (RA.out.on hb1) (RB.out.on hb1)).mono ?_
  rintro _ _ ⟨rfl, rfl⟩
  obtain ⟨w2, hw2⟩ : ∃ w2, w1.alloc (.cells #[.slice Aa a.length ca, .slice Ab b.length cb] 22) = w2 := ⟨_, rfl⟩
  rw [hw2] at k1 ⊢
  clear hw2 hb1
  cases hf : fewB [a, b] with
  | false =>
    go_wp2_with fail
    go_ret
    exact ⟨rfl, k1⟩
  | true =>
    have hla := few_at hf (r := a) (by simp)
    clear hf
    have ra2 := RA.out.on k1
    have h0 := own_nil w2 w2.heap.size 2
    go_wp2_with (at_builtin; refine wpList_app (Value.int .i64) (fun _ => rfl) _ rfl _ _ 22 rfl w2.heap.size 2 (.int .i64 0) 8 Try.underlying22 info_i64 rfl [] _ 0 rfl h0 a _ ca _ rfl ra2 (by simp [maxLen]; omega) (by simp; omega) (Nat.le_refl _) ?_)
    rintro S Aw cw w3 hS hos hb3 _
    subst hS
    clear h0 ra2
    have HS3 := hid (own_rd hos)
    have k3 := k1.trans (hb3.mono k1.size)
    clear hos hb3 k1
    go_wp2_with fail
    refine (C1.out w3 (RA.out.on k3) (RB.out.on k3)).mono ?_
    rintro _ w4 ⟨A4, c4, rfl, ho4, hb4⟩
    have k4 := k3.trans (hb4.mono k3.size)
    have HL5 := hid (HS3.out.on hb4)
    clear HS3
    have HS4 := hid (own_rd ho4)
    have HO4 := hid ho4
    clear ho4
    clear hb4 k3
    go_wp2_with fail
    refine (R1.out w4 (RA.out.on k4) (RB.out.on k4)).mono ?_
    rintro _ w6 ⟨A6, c6, rfl, ho6, hb6⟩
    have k6 := k4.trans (hb6.mono k4.size)
    have HL7 := hid (HL5.out.on hb6)
    clear HL5
    have HL8 := hid (HS4.out.on hb6)
    clear HS4
    have HS6 := hid (own_rd ho6)
    have HO6 := hid ho6
    clear ho6
    clear hb6 k4
    go_wp2_with fail
    refine (Y1.out _ _ _ _ w6 HL8.out HS6.out).mono ?_
    rintro _ w9 ⟨rfl, hb9⟩
    have k9 := k6.trans (hb9.mono k6.size)
    have HL10 := hid (HL7.out.on hb9)
    clear HL7
    have HL11 := hid (HL8.out.on hb9)
    clear HL8
    have HL12 := hid (HS6.out.on hb9)
    clear HS6
    clear hb9 k6
    go_wp2_with fail
    refine (C2.out w9 (RA.out.on k9) (RB.out.on k9)).mono ?_
    rintro _ w13 ⟨A13, c13, rfl, ho13, hb13⟩
    have k13 := k9.trans (hb13.mono k9.size)
    have HL14 := hid (HL10.out.on hb13)
    clear HL10
    have HS13 := hid (own_rd ho13)
    have HO13 := hid ho13
    clear ho13
    clear hb13 k9
    go_wp2_with fail
    refine (R2.out w13 (RA.out.on k13) (RB.out.on k13)).mono ?_
    rintro _ w15 ⟨A15, c15, rfl, ho15, hb15⟩
    have k15 := k13.trans (hb15.mono k13.size)
    have HL16 := hid (HL14.out.on hb15)
    clear HL14
    have HL17 := hid (HS13.out.on hb15)
    clear HS13
    have HS15 := hid (own_rd ho15)
    have HO15 := hid ho15
    clear ho15
    clear hb15 k13
    go_wp2_with fail
    refine (Y2.out _ _ _ _ w15 HL17.out HS15.out).mono ?_
    rintro _ w18 ⟨rfl, hb18⟩
    have k18 := k15.trans (hb18.mono k15.size)
    have HL19 := hid (HL16.out.on hb18)
    clear HL16
    have HL20 := hid (HL17.out.on hb18)
    clear HL17
    have HL21 := hid (HS15.out.on hb18)
    clear HS15
    clear hb18 k15
    go_wp2_with fail
    refine (C3.out w18 (RA.out.on k18)).mono ?_
    rintro _ w22 ⟨A22, c22, rfl, ho22, hb22⟩
    have k22 := k18.trans (hb22.mono k18.size)
    have HL23 := hid (HL19.out.on hb22)
    clear HL19
    have HS22 := hid (own_rd ho22)
    have HO22 := hid ho22
    clear ho22
    clear hb22 k18
    go_wp2_with fail
    refine (R3.out w22 (RA.out.on k22)).mono ?_
    rintro _ w24 ⟨A24, c24, rfl, ho24, hb24⟩
    have k24 := k22.trans (hb24.mono k22.size)
    have HL25 := hid (HL23.out.on hb24)
    clear HL23
    have HL26 := hid (HS22.out.on hb24)
    clear HS22
    have HS24 := hid (own_rd ho24)
    have HO24 := hid ho24
    clear ho24
    clear hb24 k22
    go_wp2_with fail
    refine (Y3.out _ _ _ _ w24 HL26.out HS24.out).mono ?_
    rintro _ w27 ⟨rfl, hb27⟩
    have k27 := k24.trans (hb27.mono k24.size)
    have HL28 := hid (HL25.out.on hb27)
    clear HL25
    have HL29 := hid (HL26.out.on hb27)
    clear HL26
    have HL30 := hid (HS24.out.on hb27)
    clear HS24
    clear hb27 k24
    go_wp2_with fail
    refine (C4.out w27 (RA.out.on k27) (RB.out.on k27)).mono ?_
    rintro _ w31 ⟨A31, c31, rfl, ho31, hb31⟩
    have k31 := k27.trans (hb31.mono k27.size)
    have HL32 := hid (HL28.out.on hb31)
    clear HL28
    have HS31 := hid (own_rd ho31)
    have HO31 := hid ho31
    clear ho31
    clear hb31 k27
    go_wp2_with fail
    refine (R4.out w31 (RA.out.on k31) (RB.out.on k31)).mono ?_
    rintro _ w33 ⟨A33, c33, rfl, ho33, hb33⟩
    have k33 := k31.trans (hb33.mono k31.size)
    have HL34 := hid (HL32.out.on hb33)
    clear HL32
    have HL35 := hid (HS31.out.on hb33)
    clear HS31
    have HS33 := hid (own_rd ho33)
    have HO33 := hid ho33
    clear ho33
    clear hb33 k31
    go_wp2_with fail
    refine (Y4.out _ _ _ _ w33 HL35.out HS33.out).mono ?_
    rintro _ w36 ⟨rfl, hb36⟩
    have k36 := k33.trans (hb36.mono k33.size)
    have HL37 := hid (HL34.out.on hb36)
    clear HL34
    have HL38 := hid (HL35.out.on hb36)
    clear HL35
    have HL39 := hid (HS33.out.on hb36)
    clear HS33
    clear hb36 k33
    have lW := k36.size
    have MB := Below.refl w36.heap.size w36
    have HWAS := hid HL37.out
    go_wp2_with fail
    refine (C5.out w36 (RA.out.on k36)).mono ?_
    rintro _ w40 ⟨A40, c40, rfl, ho40, hb40⟩
    have k40 := k36.trans (hb40.mono k36.size)
    have HL41 := hid (HL37.out.on hb40)
    clear HL37
    have MK42 := MB.trans (hb40.mono MB.size)
    clear MB
    have HS40 := hid (own_rd ho40)
    have HO40 := hid ho40
    clear ho40
    clear hb40 k36
    have MX := Below.refl w40.heap.size w40
    go_wp2_with fail
    refine (R5.out w40 (RA.out.on k40)).mono ?_
    rintro _ w43 ⟨A43, c43, rfl, ho43, hb43⟩
    have k43 := k40.trans (hb43.mono k40.size)
    have HL44 := hid (HL41.out.on hb43)
    clear HL41
    have HL45 := hid (HS40.out.on hb43)
    clear HS40
    have MK46 := MK42.trans (hb43.mono MK42.size)
    clear MK42
    have MK47 := MX.trans (hb43.mono MX.size)
    clear MX
    have HS43 := hid (own_rd ho43)
    have HO43 := hid ho43
    clear ho43
    clear hb43 k40
    go_wp2_with fail
    refine (Y5.out _ _ _ _ w43 HL45.out HS43.out).mono ?_
    rintro _ w48 ⟨rfl, hb48⟩
    have k48 := k43.trans (hb48.mono k43.size)
    have HL49 := hid (HL44.out.on hb48)
    clear HL44
    have HL50 := hid (HL45.out.on hb48)
    clear HL45
    have HL51 := hid (HS43.out.on hb48)
    clear HS43
    have MK52 := MK46.trans (hb48.mono MK46.size)
    clear MK46
    have MK53 := MK47.trans (hb48.mono MK47.size)
    clear MK47
    clear hb48 k43
    have HX := hid (own_on HO40.out MK53)
    have HWX := hid (HWAS.out.below MK52)
    have lB := MK52.size
    have lB0 := k48.size
    clear HO40 MK53 HWAS
    go_wp2_with fail
    go_loopw [146] (fun i wr => ∃ (k : Nat) (zs : List Int), k ≤ S5.length ∧ i = .int .i64 k ∧ zs.length = S5.length ∧ wr.ownsRow w36.heap.size 2 1 (.slice A40 S5.length c40) S5.length (zs.map (Value.int .i64)) ∧ Below w36.heap.size w48 wr) (fun i _ => S5.length - (intOf i).toNat)
    case atStart => exact ⟨0, S5, by omega, rfl, rfl, HX.out, Below.refl _ _⟩
    case round =>
      obtain ⟨k, zs, hk, rfl, hz, hown, hbr⟩ := hrel
      have HZ := hid hz
      have HO := hid hown
      by_cases hlt : k < S5.length
      · obtain ⟨g, hg, hgb, hgc, hgf⟩ := own_cell hown (show k < zs.length by omega)
        subst hg
        clear hz hown
        go_wp2_with fail
        go_roundw
        case rel =>
          refine ⟨k + 1, zs.set k (wrap64 (zs.getD k 0 + 1)), by omega, by go_num, by rw [List.length_set]; exact HZ.out, ?_, hbr.setCell hgb _⟩
          have h := (HO.out.stored k (.int .i64 (wrap64 (zs.getD k 0 + 1)))).1
          rw [← List.map_set] at h
          exact h
        case measure => simp [intOf]; omega
      · obtain rfl : k = S5.length := by omega
        clear hz hown HZ HO HX
        have kr := k48.trans (hbr.mono lW)
        have HW2 := hid ((HWX.out.below hbr).more (Nat.le_trans lB hbr.size))
        clear HWX
        go_wp2_with fail
        refine (C6.out wr ).mono ?_
        rintro _ w901 ⟨A901, c901, rfl, ho901, hb901⟩
        have k901 := kr.trans (hb901.mono kr.size)
        have HL902 := hid (HW2.out.on hb901)
        clear HW2
        have HS901 := hid (own_rd ho901)
        have HO901 := hid ho901
        clear ho901
        clear hb901 kr
        go_wp2_with fail
        refine (R6.out w901 ).mono ?_
        rintro _ w903 ⟨A903, c903, rfl, ho903, hb903⟩
        have k903 := k901.trans (hb903.mono k901.size)
        have HL904 := hid (HL902.out.on hb903)
        clear HL902
        have HL905 := hid (HS901.out.on hb903)
        clear HS901
        have HS903 := hid (own_rd ho903)
        have HO903 := hid ho903
        clear ho903
        clear hb903 k901
        go_wp2_with fail
        refine (Y6.out _ _ _ _ w903 HL905.out HS903.out).mono ?_
        rintro _ w906 ⟨rfl, hb906⟩
        have k906 := k903.trans (hb906.mono k903.size)
        have HL907 := hid (HL904.out.on hb906)
        clear HL904
        have HL908 := hid (HL905.out.on hb906)
        clear HL905
        have HL909 := hid (HS903.out.on hb906)
        clear HS903
        clear hb906 k903
        go_wp2_with fail
        refine (C7.out w906 (RA.out.on k906) (RB.out.on k906)).mono ?_
        rintro _ w910 ⟨rfl, hb910⟩
        have k910 := k906.trans (hb910.mono k906.size)
        have HL911 := hid (HL907.out.on hb910)
        clear HL907
        clear hb910 k906
        go_wp2_with fail
        refine (R7.out w910 (RA.out.on k910) (RB.out.on k910)).mono ?_
        rintro _ w912 ⟨rfl, hb912⟩
        have k912 := k910.trans (hb912.mono k910.size)
        have HL913 := hid (HL911.out.on hb912)
        clear HL911
        clear hb912 k910
        go_wp2_with fail
        refine (C8.out _).mono ?_
        rintro _ _ ⟨rfl, rfl⟩
        go_wp2_with fail
        refine (R8.out _).mono ?_
        rintro _ _ ⟨rfl, rfl⟩
        go_wp2_with fail
        refine (CW.out _ _ w912 (RA.out.on k912) HL913.out).mono ?_
        rintro _ w914 ⟨rfl, hb914⟩
        have k914 := k912.trans (hb914.mono k912.size)
        have HL915 := hid (HL913.out.on hb914)
        clear HL913
        clear hb914 k912
        go_wp2_with fail
        go_ret
        exact ⟨rfl, k914⟩
theorem law_types : ∀ t ∈ Try.f3.params.toList, Try.prog.readableRec t = true ∧ t < Try.prog.types.size := by
  have h : (Try.f3.params.toList.all fun t => Try.prog.readableRec t && decide (t < Try.prog.types.size)) = true := by kernel_rfl
  intro t ht
  simpa using List.all_eq_true.1 h t ht
set_option maxRecDepth 100000 in
theorem lifted (os : Os) (started : os.Started) (H : Type) (enc : TypeId × Value → H) :
    ReturnsInHanded {} Try.checked os 3 .any (Rows.vecReckonsSpec.pre6 enc Try.prog Try.f3 Rows.vecReckonsRow.domain false) (Rows.vecReckonsSpec.post enc Try.prog Try.f3 false true false false) := by
  refine returnsInHanded_of_change (C := Try.checked) own started (by kernel_rfl) Try.func3
    (ChangeSpec.witness6 (enc := enc) (C := Try.checked) false ⟨#[], #[.slice none 0 0, .slice none 0 0, .int .i64 0, .int .i64 0, .int .i64 0], []⟩ 8 (by kernel_rfl) (by kernel_rfl) (by kernel_rfl) (by kernel_rfl)) ?_
  intro W base args ds gs before hval0 hW hcnd _
  have hval : ∀ (j : Nat) t v, Try.f3.params[j]? = some t → args[j]? = some v → Value.okWide Try.prog W .any base t v := hval0
  have hW' := hW
  obtain ⟨p, q, hA0, hV, rfl, hfz, hnd⟩ := hW
  have hA : DataW.TrodAll enc Try.prog W 0 (fun _ => true) true Try.f3.params.toList args.toList ds p := hA0
  rw [Try.params3] at hA hval
  obtain ⟨v0, vs0, d0, ds0, p0, q0, hargs, rfl, rfl, h0, r0⟩ := trodAll_cons hA
  obtain ⟨v1, vs1, d1, ds1, p1, q1, rfl, rfl, rfl, h1, r1⟩ := trodAll_cons r0
  obtain ⟨v2, vs2, d2, ds2, p2, q2, rfl, rfl, rfl, h2, r2⟩ := trodAll_cons r1
  obtain ⟨v3, vs3, d3, ds3, p3, q3, rfl, rfl, rfl, h3, r3⟩ := trodAll_cons r2
  obtain ⟨v4, vs4, d4, ds4, p4, q4, rfl, rfl, rfl, h4, r4⟩ := trodAll_cons r3
  obtain ⟨rfl, rfl, rfl⟩ := trodAll_nil r4
  obtain rfl : args = #[v0, v1, v2, v3, v4] := by cases args; simp_all
  obtain ⟨rfl, rfl⟩ := trodVars_none hV
  obtain ⟨Aa, a, ca, rfl, rda, ia, lca, lma⟩ := open_i64s Try.underlying22 Try.underlying2 cells_i64 (hval 0 22 v0 rfl rfl) h0
  obtain ⟨Ab, b, cb, rfl, rdb, ib, lcb, lmb⟩ := open_i64s Try.underlying22 Try.underlying2 cells_i64 (hval 1 22 v1 rfl rfl) h1
  obtain ⟨by_, rfl, rfl, rfl, w2⟩ := open_int Try.underlying2 (hval 2 2 v2 rfl rfl) h2
  obtain ⟨frac, rfl, rfl, rfl, w3⟩ := open_int Try.underlying3 (hval 3 3 v3 rfl rfl) h3
  obtain ⟨n, rfl, rfl, rfl, w4⟩ := open_int Try.underlying3 (hval 4 3 v4 rfl rfl) h4
  clear hA0 hval0
  refine (walk Aa a ca Ab b cb by_ frac n W rda ia lca lma rdb ib lcb lmb (I64.of_wf w2) (I64.of_wf w3) (I64.of_wf w4)).mono fun e W' ⟨he, hb⟩ => ?_
  subst he
  exact ⟨_, rfl, law_post laid (fun t ht => law_types t ht) rfl hW' ⟨rfl, rfl, rfl⟩ (by kernel_rfl) Try.underlying4 hb⟩

theorem over : Rows.vecReckonsRow.holds Try.pinned (OpenSpec.ofChange Rows.vecReckonsSpec) :=
  OpenClaim.holds_of_wide 3 Try.f3 rfl rfl rfl rfl rfl rfl rfl ⟨rfl, rfl, rfl, rfl, rfl⟩ rfl rfl rfl rfl rfl (by kernel_rfl) Try.func3 (by kernel_rfl)
    (of_decide_eq_true (by kernel_rfl)) (by unfold Func.isWrapper; first | (rw [if_pos (by decide +kernel)]; kernel_rfl) | (rw [if_neg (by decide +kernel)]; exact ⟨rfl, rfl⟩))
    (fun os started H enc _ => lifted os started H enc)

theorem proved : Rows.VecReckonsSaid := over
end Go.Proofs.Ytmljhckbeoalgaa.VecReckons
