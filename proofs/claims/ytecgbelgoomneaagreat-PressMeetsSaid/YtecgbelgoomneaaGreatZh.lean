
/- Zh: texts joined: FsX. -/
import Derived.Test.YtecgbelgoomneaaGreatZFsW
import Derived.Test.YtecgbelgoomneaaGreatZe
import Derived.Test.YtecgbelgoomneaaGreatZc
/- The program's reader: a vector of no scheme; a frame; Read. -/
namespace Go.Proofs.YtecgbelgoomneaaGreat
open Go.RowKit
set_option maxHeartbeats 2000000
set_option maxRecDepth 100000
set_option linter.unusedVariables false
theorem fr_vec_none {g h c : Nat} {A : Option Addr} (o : List Int) (ho : o.length ≤ c) (hc : c ≤ 9223372036854775807) (hol : o.length ≤ 70000) (uo : U8s o) (σ : Rs) (ha : σ.1 ≤ o.length) (w : World) (hb : RdB w g A o.length c σ) (ra : Rd (Value.int .u8) w g A o) (hg : g < w.heap.size) (x0 : (one2 o σ).1 ≠ 0) (x1 : (one2 o σ).1 ≠ 1) (x2 : (one2 o σ).1 ≠ 2) (x3 : (one2 o σ).1 ≠ 3) :
    Calls Tryz.prog 116 #[.pointer (some ⟨g, 0, none⟩)] w (VecRet g A o.length c (vec2 o σ) w) := by
  have CO := hid (fun W (hB : RdB W g A o.length c σ) hR => fr_one (g := g) (A := A) o ho hc hol uo σ ha W hB hR)
  have hle : (one2 o σ).2.1 ≤ o.length := tak_le ha
  have CN := hid (fun W hB hR hz => fr_number (g := g) (A := A) o ho hc hol uo (one2 o σ).2 hle W hB hR hz)
  have hXI := one_i64 uo σ
  have hv : vec2 o σ = (bareS (one2 o σ).1 (num2 o (one2 o σ).2).1, (num2 o (one2 o σ).2).2) := by
    unfold vec2 rst2
    rw [if_neg x0, if_neg x1, if_neg x2, if_neg x3]
    rfl
  rw [hv]
  obtain ⟨X, υ, hX⟩ : ∃ X υ, one2 o σ = (X, υ) := ⟨_, _, rfl⟩
  rw [hX] at CO CN x0 x1 x2 x3 hXI ⊢
  simp only at CO CN x0 x1 x2 x3 hXI ⊢
  obtain ⟨D, τ, hD⟩ : ∃ D τ, num2 o υ = (D, τ) := ⟨_, _, rfl⟩
  rw [hD] at CN ⊢
  simp only at CN ⊢
  unfold I64 at hXI
  have HX := hid (And.intro hXI (And.intro x0 (And.intro x1 (And.intro x2 x3))))
  have g0 := growd w (.cells #[.int .i64 0, .int .i64 0, .slice none 0 0, .slice none 0 0, .int .i64 0, .int .i64 0, .slice none 0 0, .slice none 0 0] 32)
  have HB0 := hid (hb.below g0 hg)
  have HA0 := hid (ra.below (g0.mono (Nat.le_of_lt hg)))
  have HZ0 : Hid (BoxL (w.alloc (.cells #[.int .i64 0, .int .i64 0, .slice none 0 0, .slice none 0 0, .int .i64 0, .int .i64 0, .slice none 0 0, .slice none 0 0] 32)) w.heap.size (cellsT zeroS bareP)) := hid (BoxL.new w _ _)
  have q0 : Off g g w (w.alloc (.cells #[.int .i64 0, .int .i64 0, .slice none 0 0, .slice none 0 0, .int .i64 0, .int .i64 0, .slice none 0 0, .slice none 0 0] 32)) := Off.of g0
  have hz0 : w.heap.size < (w.alloc (.cells #[.int .i64 0, .int .i64 0, .slice none 0 0, .slice none 0 0, .int .i64 0, .int .i64 0, .slice none 0 0, .slice none 0 0] 32)).heap.size := by simp
  have hmm := @run_makeMap Tryz.prog
  clear hb ra hX hD hv hle ha g0 hXI x0 x1 x2 x3
  go_enter Tryz.func116, Tryz.ntmps116
  go_wp2_with fail
  refine (CO.out _ HB0.out HA0.out).mono ?_
  rintro _ w1 ⟨rfl, hb1, o1⟩
  have HB1 := hid hb1
  have HA1 := hid (HA0.out.below (o1.below (Nat.le_refl _) (Nat.le_refl _) (by omega)))
  have HZ1 := hid (o1.box HZ0.out (by simp [cellsT]) (by omega) (by omega))
  have q1 := q0.trans o1
  have hz1 : w.heap.size < w1.heap.size := Nat.lt_of_lt_of_le hz0 o1.size
  clear hb1 HB0 HA0 HZ0 o1 q0 hz0 CO
  go_wp2_with fail
  refine (CN.out _ HB1.out HA1.out (by omega)).mono ?_
  rintro _ w2 ⟨rfl, hb2, o2⟩
  have HB2 := hid hb2
  have HZ2 := hid (o2.box HZ1.out (by simp [cellsT]) (by omega) (by omega))
  have q2 := q1.trans o2
  have hz2 : w.heap.size < w2.heap.size := Nat.lt_of_lt_of_le hz1 o2.size
  clear hb2 HB1 HA1 HZ1 o2 q1 hz1 CN
  obtain ⟨W2, W3, W4, W5, u2, u3, u4, u5, b2, b3, b4, b5, hz5, hfm⟩ := fnmap (P := Tryz.prog) (t := 145) Tryz.underlying145 Tryz.underlying3 (z := .nilFunc) (fun w => by kernel_rfl) (.func (.func 156) #[.pointer (some ⟨g, 0, none⟩)] #[]) (.func (.func 157) #[.pointer (some ⟨g, 0, none⟩)] #[]) (.func (.func 158) #[.pointer (some ⟨g, 0, none⟩)] #[]) (.func (.func 159) #[.pointer (some ⟨g, 0, none⟩)] #[]) (by intro h; injection h with h1; injection h1 with h1; exact absurd h1 (by decide)) (by intro h; injection h with h1; injection h1 with h1; exact absurd h1 (by decide)) (by intro h; injection h with h1; injection h1 with h1; exact absurd h1 (by decide)) (by intro h; injection h with h1; injection h1 with h1; exact absurd h1 (by decide)) (by intro h; injection h with h1; injection h1 with h1; exact absurd h1 (by decide)) (by intro h; injection h with h1; injection h1 with h1; exact absurd h1 (by decide)) (w2.alloc (.cells #[.int .i64 X, .int .i64 D, .slice none 0 0, .slice none 0 0, .int .i64 0, .int .i64 0, .slice none 0 0, .slice none 0 0] 32)) (w2.heap.size + 1) (World.size_alloc _ _).symm
  obtain ⟨fv, hl⟩ := (hfm W5 rfl).kx X HX.out.1.1 HX.out.1.2 HX.out.2.1 HX.out.2.2.1 HX.out.2.2.2.1 HX.out.2.2.2.2
  have hbn : BoxL (w2.alloc (.cells #[.int .i64 X, .int .i64 D, .slice none 0 0, .slice none 0 0, .int .i64 0, .int .i64 0, .slice none 0 0, .slice none 0 0] 32)) w2.heap.size (cellsT (bareS X D) bareP) := BoxL.new w2 _ _
  have hb5 := hbn.below b5 (show w2.heap.size < w2.heap.size + 1 by omega)
  have b25 : Below w2.heap.size w2 W5 := (growd w2 _).trans (b5.mono (by omega))
  have hzz := HZ2.out.below b25 hz2
  have hb6 := HB2.out.below b25 (by omega)
  have q6 : Off g g w W5 := q2.trans (Off.of b25)
  have HY := hid (lay8_box hzz (bareS X D) bareP)
  have HO := hid (lay8_off W5 w.heap.size (bareS X D) bareP)
  have HQ := hid (q6.thenS HO.out (Nat.le_refl _))
  have HRR : Hid (RdFS (lay8 W5 w.heap.size (bareS X D) bareP) w.heap.size (bareS X D) bareP) := hid ⟨RdF.nil _ _, RdF.nil _ _, RdF.nil _ _, RdF.nil _ _⟩
  have HBB : Hid (RdB (lay8 W5 w.heap.size (bareS X D) bareP) g A o.length c τ) := hid (HO.out.box hb6 (by simp) (by omega) (by omega))
  obtain ⟨⟨k0, k1, k2, k3, k4, k5, k6, k7⟩, f0, f1, f2, f3, f4, f5, f6, f7⟩ := box_T hb5
  obtain ⟨⟨z0, z1, z2, z3, z4, z5, z6, z7⟩, y0, y1, y2, y3, y4, y5, y6, y7⟩ := box_T hzz
  simp only [bareS, bareP, List.length_nil] at k0 k1 k2 k3 k4 k5 k6 k7
  clear hb6 q6 HO hzz f0 f1 f2 f3 f4 f5 f6 f7 HB2 HZ2 q2 hfm hbn hb5 b2 b3 b4 b5 b25 HX
  go_wp2_with fail
  refine bodyPost_ret (v := encT (bareS X D) bareP) (by simp [results, Tryz.results116, go_sem, z0, z1, z2, z3, z4, z5, z6, z7, bareS, bareP]) rfl ⟨bareP, rfl, HRR.out, HBB.out, HQ.out⟩
theorem fr_vector {g c : Nat} {A : Option Addr} (o : List Int) (ho : o.length ≤ c) (hc : c ≤ 9223372036854775807) (hol : o.length ≤ 70000) (uo : U8s o) (σ : Rs) (ha : σ.1 ≤ o.length) (w : World) (hb : RdB w g A o.length c σ) (ra : Rd (Value.int .u8) w g A o) (hg : g < w.heap.size) :
    Calls Tryz.prog 116 #[.pointer (some ⟨g, 0, none⟩)] w (VecRet g A o.length c (vec2 o σ) w) := by
  by_cases x0 : (one2 o σ).1 = 0
  · exact fr_vec_dense (h := 0) o ho hc hol uo σ ha w hb ra hg x0
  · by_cases x1 : (one2 o σ).1 = 1
    · exact fr_vec_top (h := 0) o ho hc hol uo σ ha w hb ra hg x1
    · by_cases x2 : (one2 o σ).1 = 2
      · exact fr_vec_level (h := 0) o ho hc hol uo σ ha w hb ra hg x2
      · by_cases x3 : (one2 o σ).1 = 3
        · exact fr_vec_sign (h := 0) o ho hc hol uo σ ha w hb ra hg x3
        · exact fr_vec_none (h := 0) o ho hc hol uo σ ha w hb ra hg x0 x1 x2 x3
end Go.Proofs.YtecgbelgoomneaaGreat
