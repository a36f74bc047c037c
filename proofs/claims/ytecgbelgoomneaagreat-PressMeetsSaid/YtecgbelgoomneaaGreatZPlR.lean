
/- ZPlR: texts joined: PlR. -/
import Derived.Test.YtecgbelgoomneaaGreatZb
/- The program's numbers written, each bit where a function value tells. -/
namespace Go.Proofs.YtecgbelgoomneaaGreat
open Go.RowKit
set_option maxHeartbeats 400000
set_option maxRecDepth 100000
set_option linter.unusedVariables false
theorem any_fits (wd : Int) (l : List Int) : (l.any fun x => decide (wd < (wdt x : Int))) = !fitsB wd l := by
  unfold fitsB
  induction l with
  | nil => rfl
  | cons x l ih =>
    rw [List.any_cons, List.all_cons, ih, Bool.not_and]
    congr 1
    by_cases h : wd < (wdt x : Int)
    · rw [decide_eq_true h, decide_eq_false (by omega)]; rfl
    · rw [decide_eq_false h, decide_eq_true (by omega)]; rfl
def pwrV (wd : Int) (l : List Int) (f : Nat → Bool) : List Int := if mayE wd l = 0 then pkL (wd.toNat * l.length) f else []
theorem shl_b {s : Nat} (hs : s ≤ 7) : (2 : Int) ^ s ≤ 128 := by
  have := Nat.pow_le_pow_right (show 0 < 2 by decide) hs
  have h2 : (2 : Int) ^ s = ((2 ^ s : Nat) : Int) := by norm_cast
  omega
theorem pl_write {A : Option Addr} {c : Nat} (K : FuncId) (caps : Array Value) (wd : Int) (l : List Int) (hw : I64 wd) (hl : l.length ≤ 100000) (ul : U64s l) (w : World) (ra : Rd (Value.int .u64) w w.heap.size A l)
   (hK : ∀ (args : Array Value) (W : World), (callFunc K args).run Tryz.prog W = .ok (.enter K args) W) (f : Nat → Bool) (pl : Nat → Nat → Nat) (nu bi : Nat → Nat)
   (HP : Places wd.toNat l.length pl nu bi) (HV : ∀ i j x, l[i]? = some x → j < wd.toNat → f (pl i j) = bt x (wd.toNat - 1 - j))
   (HC : mayE wd l = 0 → ∀ i j, i < l.length → j < wd.toNat → ∀ W, Below w.heap.size w W → Calls Tryz.prog K (#[.int .i64 (i : Int), .int .i64 (j : Int)] ++ caps) W fun e w' => e = .returned (.int .i64 (pl i j : Int)) ∧ W = w') :
    Calls Tryz.prog 189 #[.int .i64 wd, .slice A l.length c, .func (.func K) #[] caps] w (OwnE 5 .u8 w.heap.size (pwrV wd l f) (mayE wd l) w) := by
  have CB := hid (fun W => pl_Bytes wd l.length hw (by unfold I64; omega) W)
  obtain ⟨hbx, hb0⟩ := one_cell w (.int .i64 wd) 3
  by_cases h0 : bysE wd l.length = 0
  · have hwd := (bys_ok h0).1
    have hlen4 := (bys_ok h0).2.2
    obtain ⟨k, rfl⟩ := Int.eq_ofNat_of_zero_le hwd.1
    have hk : k ≤ 32 := by omega
    rw [Int.toNat_natCast] at HP HV HC
    have CF := hid (contains_any (A := A) (c := c) 214 #[.pointer (some ⟨w.heap.size, 0, none⟩)] l hl (fun x => decide ((k : Int) < (wdt x : Int))) (w.alloc (.cells #[.int .i64 (k : Int)] 3)) (cl_enter 214 (by kernel_rfl)) (ra.on hb0) (fun x hx n => width_cl (w := (w.alloc (.cells #[.int .i64 (k : Int)] 3)).drewN n) hbx (ul x hx)))
    rw [any_fits] at CF
    have hM : mayE (k : Int) l = if fitsB k l = true then 0 else 1 := if_pos h0
    rw [h0] at CB
    rw [bys_nat h0] at CB
    by_cases hfit : fitsB k l = true
    · have hV : pwrV (k : Int) l f = pkL (k * l.length) f := by unfold pwrV; rw [if_pos (by rw [hM, if_pos hfit]), Int.toNat_natCast]
      rw [hfit] at CF hM
      rw [if_pos rfl] at hM
      have HCl := hid (HC hM)
      rw [hM, hV]
      obtain ⟨m, hm⟩ : ∃ m, l.length = m := ⟨_, rfl⟩
      have hkm : k * m ≤ 131072 := by
        have := Nat.mul_le_mul (show k ≤ 32 by omega) (show m ≤ 4096 by omega)
        omega
      rw [hm] at HP HCl CF CB hl hlen4 ⊢
      obtain ⟨S, hS⟩ : ∃ S, (k * m + 7) / 8 = S := ⟨_, rfl⟩
      rw [hS] at CB
      have hS8 : S ≤ 20000 := by omega
      have hmk := fun W => run_make_row' (P := Tryz.prog) 50 5 (.int .u8 0) 1 Tryz.underlying50 info_u8 rfl .i64 .i64 S (by omega) (by omega) W
      have HM := hid hm
      have HSz := hid hS
      have HPl := hid HP
      have HVl : Hid (∀ i j x, l[i]? = some x → j < k → bt x (k - 1 - j) = f (pl i j)) := hid (fun i j x h1 h2 => (HV i j x h1 h2).symm)
      have UL := hid ul
      have RA := hid ra
      have HB := hid hb0
      have HBX := hid hbx
      clear hM hV hfit h0 hwd hm hS HP HV HC ul ra hb0 hbx hw
      go_enter Tryz.func189, Tryz.ntmps189
      go_wp2_with fail
      refine (CB.out _).mono ?_
      rintro _ _ ⟨rfl, rfl⟩
      go_wp2_with fail
      refine CF.out.mono ?_
      rintro _ w1 ⟨rfl, n0, hw1⟩
      have k1 : Below w.heap.size w w1 := by rw [hw1]; exact HB.out.trans (belowN _ _ n0)
      have hbox : w1.cell? ⟨w.heap.size, 0, none⟩ = some (.int .i64 (k : Int)) := by rw [hw1]; exact HBX.out
      have hboxl : w.heap.size < w1.heap.size := by rw [hw1]; simp [go_sem]
      have HK := hid k1
      have RA1 := hid (RA.out.on k1)
      have HC1 : Hid (∀ i j, i < m → j < k → ∀ W, Below w1.heap.size w1 W → Calls Tryz.prog K (#[.int .i64 (i : Int), .int .i64 (j : Int)] ++ caps) W fun e w' => e = .returned (.int .i64 (pl i j : Int)) ∧ W = w') := hid (fun i j hi hj W hW => HCl.out i j hi hj W (k1.trans (hW.mono k1.size)))
      clear hw1 k1 CF CB HB HBX HCl RA
      go_wp2_with fail
      go_loopw [11, 12, 13, 14, 32] (fun a1 a2 a3 a4 i wr => ∃ n : Nat, n ≤ m ∧ i = .int .i64 n ∧ wr.rowIs w1.heap.size 5 S (fun x => .int .u8 (byF (k * m) (GB f nu bi n 0) x)) ∧ Below w1.heap.size w1 wr) (fun _ _ _ _ i _ => m - (intOf i).toNat)
      case atStart => exact ⟨0, by omega, rfl, by simpa [GB_zero] using World.rowIs_made w1 (.int .u8 0) S _, by go_grown⟩
      case round =>
        obtain ⟨n, hn, rfl, hrow, hbel⟩ := hrel
        have HR := hid hrow
        clear hmk hrow
        by_cases hlt : n < m
        · obtain ⟨b1, o1, x, rfl, l1, ex, c1⟩ := (RA1.out.below hbel).at_ (k := n) (by rw [HM.out]; exact hlt)
          have hbx1 := (hbel.cell (p := ⟨w.heap.size, 0, none⟩) hboxl).trans hbox
          have hx64 := UL.out.at_ ex
          have HVx : Hid (∀ j, j < k → bits BinOp.and IntKind.u64 (x / 2 ^ (k - 1 - j)) 1 = b2 (f (pl n j))) := hid (fun j hj => by rw [and_u64 hx64, HVl.out n j x ex hj])
          unfold U64 at hx64
          clear ex
          go_wp2_with fail
          go_loopw [13, 14, 38] (fun a3 a4 j wr => ∃ t : Nat, t ≤ k ∧ j = .int .i64 t ∧ wr.rowIs w1.heap.size 5 S (fun x => .int .u8 (byF (k * m) (GB f nu bi n t) x)) ∧ Below w1.heap.size w1 wr) (fun _ _ j _ => k - (intOf j).toNat)
          case atStart => exact ⟨0, by omega, rfl, HR.out, hbel⟩
          case round =>
            clear c1 hbx1 HR hbel
            obtain ⟨t, ht, rfl, hrow, hbel⟩ := hrel
            have HR := hid hrow
            by_cases htl : t < k
            · have C := hid (HC1.out n t hlt htl wr hbel)
              have hbx2 := (hbel.cell (p := ⟨w.heap.size, 0, none⟩) hboxl).trans hbox
              have e1 := HVx.out t htl
              obtain ⟨q, hq⟩ : ∃ q, k - 1 - t = q := ⟨_, rfl⟩
              have hqi : (k : Int) - 1 - (t : Int) = (q : Int) := by omega
              rw [hq] at e1
              have hPn := (HPl.out.1 n t hlt htl).2.2
              have HOff := hid (GB_off (f := f) HPl.out (i := n) (j := t))
              have HOth := hid (fun x => GB_other (f := f) HPl.out (i := n) (j := t) (x := x))
              have HOn := hid (GB_on (f := f) HPl.out hlt htl)
              obtain ⟨P, hP⟩ : ∃ P, pl n t = P := ⟨_, rfl⟩
              rw [hP] at C e1 hPn HOff HOth HOn
              have hP8 : P / 8 < S := by have := HSz.out; omega
              have hPm : P ≤ 1000000 := by omega
              have f1 := hrow.frozen (P / 8)
              have c2 := hrow.cell hP8
              have hYb := byF_lt (k * m) (GB f nu bi n t) (P / 8)
              obtain ⟨Y, hY⟩ : ∃ Y, byF (k * m) (GB f nu bi n t) (P / 8) = Y := ⟨_, rfl⟩
              rw [hY] at c2 HOn hYb
              have CSq : Hid (∀ W, Calls Tryz.prog 215 #[.int .i64 (P : Int)] W fun e w'' => e = .returned (.int .i64 ((7 - P % 8 : Nat) : Int)) ∧ w'' = W) := hid (fun W => (pl_shift P hPm W).mono fun _ _ h => ⟨h.1, h.2.symm⟩)
              obtain ⟨s, hs⟩ : ∃ s, 7 - P % 8 = s := ⟨_, rfl⟩
              rw [hs] at CSq HOn
              have hs7 : s ≤ 7 := by omega
              have hq31 : q ≤ 31 := by omega
              have hi0 : (0 : Int) ≤ (P : Int) / 8 := by omega
              have hi1 : (P : Int) / 8 < (S : Int) := by omega
              obtain ⟨v, hv⟩ : ∃ v, f P = v := ⟨_, rfl⟩
              rw [hv] at e1 HOff HOn
              have hY' := hid hY
              obtain ⟨Q, hQ⟩ : ∃ Q, P / 8 = Q := ⟨_, rfl⟩
              have hq8 : (P : Int) / 8 = (Q : Int) := by omega
              have hqw : IntKind.i64.wrap (Q : Int) = (Q : Int) := Go.IntWalk.i64_in _ (by omega)
              have hQi : (Q : Int) < (S : Int) := by omega
              have hkw : IntKind.i64.wrap (IntKind.i64.wrap ((k : Int) - 1) - (t : Int)) = (q : Int) := by rw [Go.IntWalk.i64_in ((k : Int) - 1) (by omega), hqi]; exact Go.IntWalk.i64_in _ (by omega)
              rw [hQ] at f1 c2 HOth HOn hY'
              clear hrow hq hP hs hv hY hi0 hi1 hQ hP8
              cases v with
              | false =>
                rw [show b2 false = 0 from rfl] at e1
                have e2 := or_none hYb.1 hYb.2
                go_wp2_with fail
                refine C.out.mono ?_
                rintro _ _ ⟨rfl, rfl⟩
                go_wp2_with fail
                go_still_tail 18, (by kernel_rfl)
                still_call (CSq.out _)
                repeat still_step
                refine wpStill_nil ?_
                change wpList _ _ _ _ _ wr.drew
                generalize hw2 : wr.drew = w2
                have c2' : w2.cell? ⟨w1.heap.size, Q, none⟩ = some (.int .u8 Y) := by rw [← hw2]; exact c2
                have f2 : w2.frozen? ⟨w1.heap.size, Q, none⟩ = false := by rw [← hw2]; exact f1
                have HR2 : Hid (w2.rowIs w1.heap.size 5 S (fun x => .int .u8 (byF (k * m) (GB f nu bi n t) x))) := hid (by rw [← hw2]; exact HR.out)
                have hbel2 : Below w1.heap.size w1 w2 := by rw [← hw2]; exact hbel.drew
                clear hw2 c2 f1 HR hbel hbx2
                go_wp2_with fail
                go_roundw
                case rel =>
                  refine ⟨t + 1, by omega, by go_num, ?_, hbel2.setCell (Nat.le_refl _) _⟩
                  refine (HR2.out.set Q (.int .u8 Y)).congr fun j hj => ?_
                  rw [HOff.out trivial j]
                  by_cases e : j = Q
                  · rw [if_pos e, e, hY'.out]
                  · rw [if_neg e]
                case measure => simp [intOf]; omega
              | true =>
                rw [show b2 true = 1 from rfl] at e1
                have e2 := HOn.out rfl
                have hzb := byF_lt (k * m) (GB f nu bi n (t + 1)) Q
                obtain ⟨Z, hZ⟩ : ∃ Z, byF (k * m) (GB f nu bi n (t + 1)) Q = Z := ⟨_, rfl⟩
                rw [hZ] at e2 hzb
                have HZ := hid hZ
                have e3 : (2 : Int) ^ s % 256 = (2 : Int) ^ s := by
                  have := shl_b hs7
                  have h0 : (0 : Int) ≤ 2 ^ s := Int.pow_nonneg (by decide)
                  exact Int.emod_eq_of_lt h0 (by omega)
                clear hZ
                go_wp2_with fail
                refine C.out.mono ?_
                rintro _ _ ⟨rfl, rfl⟩
                go_wp2_with fail
                go_still_tail 18, (by kernel_rfl)
                still_call (CSq.out _)
                repeat still_step
                refine wpStill_nil ?_
                change wpList _ _ _ _ _ wr.drew
                generalize hw2 : wr.drew = w2
                have c2' : w2.cell? ⟨w1.heap.size, Q, none⟩ = some (.int .u8 Y) := by rw [← hw2]; exact c2
                have f2 : w2.frozen? ⟨w1.heap.size, Q, none⟩ = false := by rw [← hw2]; exact f1
                have HR2 : Hid (w2.rowIs w1.heap.size 5 S (fun x => .int .u8 (byF (k * m) (GB f nu bi n t) x))) := hid (by rw [← hw2]; exact HR.out)
                have hbel2 : Below w1.heap.size w1 w2 := by rw [← hw2]; exact hbel.drew
                clear hw2 c2 f1 HR hbel hbx2
                go_wp2_with fail
                go_roundw
                case rel =>
                  refine ⟨t + 1, by omega, by go_num, ?_, hbel2.setCell (Nat.le_refl _) _⟩
                  refine (HR2.out.set Q (.int .u8 Z)).congr fun j hj => ?_
                  by_cases e : j = Q
                  · rw [if_pos e, e, HZ.out]
                  · rw [if_neg e, HOth.out j e]
                case measure => simp [intOf]; omega
            · obtain rfl : t = k := by omega
              have HN2 : Hid (wr.rowIs w1.heap.size 5 S (fun x => .int .u8 (byF (t * m) (GB f nu bi (n + 1) 0) x))) := hid (HR.out.congr fun j hj => by rw [GB_next HPl.out hlt])
              clear hrow HR
              go_wp2_with fail
              go_roundw
              case rel => exact ⟨n + 1, by omega, by go_num, HN2.out, hbel⟩
              case measure => simp [intOf]; omega
        · obtain rfl : n = m := by omega
          have HN2 : Hid (wr.rowIs w1.heap.size 5 S (fun x => .int .u8 (byF (k * n) f x))) := hid (HR.out.congr fun j hj => by rw [GB_end HPl.out])
          clear HR
          go_wp2_with fail
          go_ret2
          have k1 := HK.out
          have h := own_made (w' := wr) HN2.out (show w.heap.size ≤ w1.heap.size from k1.size) (by unfold maxLen; omega)
          refine ⟨some ⟨w1.heap.size, 0, none⟩, S, ?_, ?_, k1.trans (hbel.mono k1.size)⟩
          · rw [pkL_len, HSz.out]; rfl
          · rw [pkL_len, HSz.out]
            unfold pkL
            rw [HSz.out, List.map_map]
            exact h
    · have hM1 : mayE (k : Int) l = 1 := by rw [hM, if_neg hfit]
      have hV : pwrV (k : Int) l f = [] := by unfold pwrV; rw [if_neg (by rw [hM1]; decide)]
      have hff : fitsB k l = false := by simpa using hfit
      rw [hff] at CF
      rw [hM1, hV]
      obtain ⟨S, hS⟩ : ∃ S, (k * l.length + 7) / 8 = S := ⟨_, rfl⟩
      rw [hS] at CB
      have HB := hid hb0
      clear hM hV hM1 hfit hff h0 hwd hS HP HV HC ul ra hb0 hbx hw
      go_enter Tryz.func189, Tryz.ntmps189
      go_wp2_with fail
      refine (CB.out _).mono ?_
      rintro _ _ ⟨rfl, rfl⟩
      go_wp2_with fail
      refine CF.out.mono ?_
      rintro _ _ ⟨rfl, n0, rfl⟩
      go_wp2_with fail
      go_ret2
      exact .nil (HB.out.trans (belowN _ _ n0))
  · have hM : mayE wd l = bysE wd l.length := if_neg h0
    have hV : pwrV wd l f = [] := by unfold pwrV; rw [if_neg (by rw [hM]; exact h0)]
    rw [hM, hV]
    obtain ⟨E, hE⟩ : ∃ E, bysE wd l.length = E := ⟨_, rfl⟩
    obtain ⟨V, hVe⟩ : ∃ V, bysV wd l.length = V := ⟨_, rfl⟩
    rw [hE] at CB h0 ⊢
    rw [hVe] at CB
    have hne : (E != 0) = true := by simpa using h0
    have HB := hid hb0
    clear hM hV h0 hE hVe HP HV HC ul ra hb0 hbx hw
    go_enter Tryz.func189, Tryz.ntmps189
    go_wp2_with fail
    refine (CB.out _).mono ?_
    rintro _ _ ⟨rfl, rfl⟩
    go_wp2_with fail
    go_ret2
    exact .nil HB.out
end Go.Proofs.YtecgbelgoomneaaGreat
