
/- ZFsW: texts joined: FsW. -/
import Derived.Test.YtecgbelgoomneaaGreatZg
/- The program's reader: a vector. -/
namespace Go.Proofs.YtecgbelgoomneaaGreat
open Go.RowKit
set_option maxHeartbeats 2000000
set_option maxRecDepth 100000
set_option linter.unusedVariables false
theorem Off.thenR {g h : Nat} {w W W' : World} (a : Off g g w W) (b : Off g h W W') (hh : w.heap.size ≤ h) : Off g g w W' := ⟨b.os.trans a.os, b.tape.trans a.tape, b.output.trans a.output, Nat.le_trans a.size b.size, fun k hk h1 _ => (b.block k (Nat.lt_of_lt_of_le hk a.size) h1 (by omega)).trans (a.block k hk h1 h1)⟩
theorem Off.thenS {g h : Nat} {w W W' : World} (a : Off g g w W) (b : Off h h W W') (hh : w.heap.size ≤ h) : Off g g w W' := ⟨b.os.trans a.os, b.tape.trans a.tape, b.output.trans a.output, Nat.le_trans a.size b.size, fun k hk h1 _ => (b.block k (Nat.lt_of_lt_of_le hk a.size) (by omega) (by omega)).trans (a.block k hk h1 h1)⟩
theorem num_i64 {o : List Int} (uo : U8s o) (σ : Rs) : I64 (num2 o σ).1 := by
  unfold num2
  simp only
  by_cases he : getE o σ.1 = 0
  · exact w64_i64 (get_ok uo he).2.1
  · have : getN o σ.1 = 0 := by
      unfold getE at he
      unfold getN
      rw [if_neg (by omega)] at he ⊢
      exact gL_bad _ _ _ he
    rw [this]
    decide
/-- What a reader of a vector tells, and leaves. -/
def VecRet (g : Nat) (A : Option Addr) (n c : Nat) (r : SentV × Rs) (w : World) (e : Ending) (w' : World) : Prop :=
  ∃ p, e = .returned (encT r.1 p) ∧ RdFS w' w.heap.size r.1 p ∧ RdB w' g A n c r.2 ∧ Off g g w w'
/-- Eight cells laid at once. -/
def lay8 (w : World) (k : Nat) (s : SentV) (p : SentP) : World := (((((((w.setCell ⟨k, 0, none⟩ (.int .i64 s.sch)).setCell ⟨k, 1, none⟩ (.int .i64 s.dim)).setCell ⟨k, 2, none⟩ (.slice p.AL s.L.length p.cL)).setCell ⟨k, 3, none⟩ (.slice p.AV s.V.length p.cV)).setCell ⟨k, 4, none⟩ (.int .i64 s.scale)).setCell ⟨k, 5, none⟩ (.int .i64 s.wide)).setCell ⟨k, 6, none⟩ (.slice p.AE s.lev.length p.cE)).setCell ⟨k, 7, none⟩ (.slice p.AN s.neg.length p.cN)
theorem lay8_off (w : World) (k : Nat) (s : SentV) (p : SentP) : Off k k w (lay8 w k s p) := (((((((Off.set 0 _).trans (Off.set 1 _)).trans (Off.set 2 _)).trans (Off.set 3 _)).trans (Off.set 4 _)).trans (Off.set 5 _)).trans (Off.set 6 _)).trans (Off.set 7 _)
theorem lay8_box {w : World} {k : Nat} {a0 a1 a2 a3 a4 a5 a6 a7 : Value} (hb : BoxL w k [a0, a1, a2, a3, a4, a5, a6, a7]) (s : SentV) (p : SentP) : BoxL (lay8 w k s p) k (cellsT s p) :=
  (((((((BoxL.one hb (k := 0) rfl _).one (k := 1) rfl _).one (k := 2) rfl _).one (k := 3) rfl _).one (k := 4) rfl _).one (k := 5) rfl _).one (k := 6) rfl _).one (k := 7) rfl _
theorem fr_vec_dense {g h c : Nat} {A : Option Addr} (o : List Int) (ho : o.length ≤ c) (hc : c ≤ 9223372036854775807) (hol : o.length ≤ 70000) (uo : U8s o) (σ : Rs) (ha : σ.1 ≤ o.length) (w : World) (hb : RdB w g A o.length c σ) (ra : Rd (Value.int .u8) w g A o) (hg : g < w.heap.size) (hx : (one2 o σ).1 = 0) :
    Calls Tryz.prog 116 #[.pointer (some ⟨g, 0, none⟩)] w (VecRet g A o.length c (vec2 o σ) w) := by
  have CO := hid (fun W (hB : RdB W g A o.length c σ) hR => fr_one (g := g) (A := A) o ho hc hol uo σ ha W hB hR)
  have hle : (one2 o σ).2.1 ≤ o.length := tak_le ha
  have CN := hid (fun W hB hR hz => fr_number (g := g) (A := A) o ho hc hol uo (one2 o σ).2 hle W hB hR hz)
  have hle2 : (num2 o (one2 o σ).2).2.1 ≤ o.length := pas_le hle (fun he => (get_fwd uo he).2)
  have hDI := num_i64 uo (one2 o σ).2
  have CT := hid (fun (h : Nat) W (hB : RdB W g A o.length c _) (hR : Rd (Value.int .u8) W g A o) hS h1 h2 => fr_dense (g := g) (A := A) (h := h) o ho hc hol uo (num2 o (one2 o σ).2).2 hle2 (num2 o (one2 o σ).2).1 hDI W hB hR hS h1 h2)
  have hv : vec2 o σ = dns2 o (num2 o (one2 o σ).2).1 (num2 o (one2 o σ).2).2 := by
    unfold vec2 rst2
    rw [hx]
    simp
  rw [hv]
  obtain ⟨X, υ, hX⟩ : ∃ X υ, one2 o σ = (X, υ) := ⟨_, _, rfl⟩
  rw [hX] at CO CN CT hx ⊢
  simp only at CO CN CT hx ⊢
  obtain ⟨D, τ, hD⟩ : ∃ D τ, num2 o υ = (D, τ) := ⟨_, _, rfl⟩
  rw [hD] at CN CT ⊢
  simp only at CN CT ⊢
  obtain ⟨⟨sv, ρ⟩, hR⟩ : ∃ r, dns2 o D τ = r := ⟨_, rfl⟩
  rw [hR] at CT ⊢
  have HX := hid hx
  have g0 := growd w (.cells #[.int .i64 0, .int .i64 0, .slice none 0 0, .slice none 0 0, .int .i64 0, .int .i64 0, .slice none 0 0, .slice none 0 0] 32)
  have HB0 := hid (hb.below g0 hg)
  have HA0 := hid (ra.below (g0.mono (Nat.le_of_lt hg)))
  have HZ0 : Hid (BoxL (w.alloc (.cells #[.int .i64 0, .int .i64 0, .slice none 0 0, .slice none 0 0, .int .i64 0, .int .i64 0, .slice none 0 0, .slice none 0 0] 32)) w.heap.size (cellsT zeroS bareP)) := hid (BoxL.new w _ _)
  have q0 : Off g g w (w.alloc (.cells #[.int .i64 0, .int .i64 0, .slice none 0 0, .slice none 0 0, .int .i64 0, .int .i64 0, .slice none 0 0, .slice none 0 0] 32)) := Off.of g0
  have hz0 : w.heap.size < (w.alloc (.cells #[.int .i64 0, .int .i64 0, .slice none 0 0, .slice none 0 0, .int .i64 0, .int .i64 0, .slice none 0 0, .slice none 0 0] 32)).heap.size := by simp
  have hmm := @run_makeMap Tryz.prog
  clear hb ra hx hX hD hv hR hle hle2 hDI ha g0
  go_enter Tryz.func116, Tryz.ntmps116
  go_wp2_with fail
  refine (CO.out _ HB0.out HA0.out).mono ?_
  rintro _ w1 ⟨rfl, hb1, o1⟩
  have HB1 := hid hb1
  have HA1 := hid (HA0.out.below (o1.below (Nat.le_refl _) (Nat.le_refl _) (by omega)))
  have HZ1 := hid (o1.box HZ0.out (by simp [cellsT]) (by omega) (by omega))
  have q1 := q0.trans o1
  have hz1 : w.heap.size < w1.heap.size := Nat.lt_of_lt_of_le hz0 o1.size
  clear hb1 HB0 HA0 HZ0 o1 q0 hz0 CO
  go_wp2_with fail
  refine (CN.out _ HB1.out HA1.out (by omega)).mono ?_
  rintro _ w2 ⟨rfl, hb2, o2⟩
  have HB2 := hid hb2
  have HA2 := hid (HA1.out.below (o2.below (Nat.le_refl _) (Nat.le_refl _) (by omega)))
  have HZ2 := hid (o2.box HZ1.out (by simp [cellsT]) (by omega) (by omega))
  have q2 := q1.trans o2
  have hz2 : w.heap.size < w2.heap.size := Nat.lt_of_lt_of_le hz1 o2.size
  clear hb2 HB1 HA1 HZ1 o2 q1 hz1 CN
  obtain ⟨W2, W3, W4, W5, u2, u3, u4, u5, b2, b3, b4, b5, hz5, hfm⟩ := fnmap (P := Tryz.prog) (t := 145) Tryz.underlying145 Tryz.underlying3 (z := .nilFunc) (fun w => by kernel_rfl) (.func (.func 156) #[.pointer (some ⟨g, 0, none⟩)] #[]) (.func (.func 157) #[.pointer (some ⟨g, 0, none⟩)] #[]) (.func (.func 158) #[.pointer (some ⟨g, 0, none⟩)] #[]) (.func (.func 159) #[.pointer (some ⟨g, 0, none⟩)] #[]) (by intro h; injection h with h1; injection h1 with h1; exact absurd h1 (by decide)) (by intro h; injection h with h1; injection h1 with h1; exact absurd h1 (by decide)) (by intro h; injection h with h1; injection h1 with h1; exact absurd h1 (by decide)) (by intro h; injection h with h1; injection h1 with h1; exact absurd h1 (by decide)) (by intro h; injection h with h1; injection h1 with h1; exact absurd h1 (by decide)) (by intro h; injection h with h1; injection h1 with h1; exact absurd h1 (by decide)) (w2.alloc (.cells #[.int .i64 X, .int .i64 D, .slice none 0 0, .slice none 0 0, .int .i64 0, .int .i64 0, .slice none 0 0, .slice none 0 0] 32)) (w2.heap.size + 1) (World.size_alloc _ _).symm
  have hl : (Instr.lookup 145 (.map (some (w2.heap.size + 1))) (.int .i64 X) true).run Tryz.prog W5 = .ok (.tuple #[.func (.func 156) #[.pointer (some ⟨g, 0, none⟩)] #[], .bool true]) W5 := (congrArg (fun x => (Instr.lookup 145 (.map (some (w2.heap.size + 1))) (.int .i64 x) true).run Tryz.prog W5) HX.out).trans (hfm W5 rfl).k0
  have hbn : BoxL (w2.alloc (.cells #[.int .i64 X, .int .i64 D, .slice none 0 0, .slice none 0 0, .int .i64 0, .int .i64 0, .slice none 0 0, .slice none 0 0] 32)) w2.heap.size (cellsT (bareS X D) bareP) := BoxL.new w2 _ _
  have hb5 := hbn.below b5 (show w2.heap.size < w2.heap.size + 1 by omega)
  have k0 : W5.cell? ⟨w2.heap.size, 0, none⟩ = some (.int .i64 X) := (hb5 0 _ rfl).1
  have b25 : Below w2.heap.size w2 W5 := (growd w2 _).trans (b5.mono (by omega))
  have HB5 := hid (HB2.out.below b25 (by omega))
  have HA5 := hid (HA2.out.below (b25.mono (by omega)))
  have HZ5 := hid (HZ2.out.below b25 hz2)
  have HS5 : Hid (BoxL W5 w2.heap.size (cellsT (bareS 0 D) bareP)) := hid (by rw [← HX.out]; exact hb5)
  have q5 : Off g g w W5 := q2.trans (Off.of b25)
  have CT5 := hid (CT.out w2.heap.size W5 HB5.out HA5.out HS5.out (by omega) (by omega))
  have hz25 := b25.size
  clear HB2 HA2 HZ2 q2 hfm hbn hb5 HB5 HA5 HS5 CT b2 b3 b4 b5 b25 HX
  go_wp2_with fail
  refine CT5.out.mono ?_
  rintro _ w6 ⟨rfl, ⟨p, hs6, hr6⟩, hb6, o6⟩
  simp only at hs6 hr6 hb6
  clear u2 u3 u4 u5 hl k0 hmm CT5
  have hzz := o6.box HZ5.out (by simp [cellsT]) (by omega) (by omega)
  have HY := hid (lay8_box hzz sv p)
  have HO := hid (lay8_off w6 w.heap.size sv p)
  have q6 := q5.thenR o6 (by omega)
  have HQ := hid (q6.thenS HO.out (Nat.le_refl _))
  have HRR : Hid (RdFS (lay8 w6 w.heap.size sv p) w.heap.size sv p) := hid (by
    have hw : w.heap.size ≤ W5.heap.size := by omega
    have hw2 : w.heap.size < W5.heap.size := by omega
    exact ⟨(hr6.1.off HO.out hw2 hw2).less hw, (hr6.2.1.off HO.out hw2 hw2).less hw, (hr6.2.2.1.off HO.out hw2 hw2).less hw, (hr6.2.2.2.off HO.out hw2 hw2).less hw⟩)
  have HBB : Hid (RdB (lay8 w6 w.heap.size sv p) g A o.length c ρ) := hid (HO.out.box hb6 (by simp) (by omega) (by omega))
  obtain ⟨⟨k0, k1, k2, k3, k4, k5, k6, k7⟩, f0, f1, f2, f3, f4, f5, f6, f7⟩ := box_T hs6
  obtain ⟨⟨z0, z1, z2, z3, z4, z5, z6, z7⟩, y0, y1, y2, y3, y4, y5, y6, y7⟩ := box_T hzz
  clear hs6 hr6 hb6 o6 q6 q5 HO hzz HZ5 f0 f1 f2 f3 f4 f5 f6 f7
  go_wp2_with fail
  obtain ⟨⟨k0', k1', k2', k3', k4', k5', k6', k7'⟩, _⟩ := box_T HY.out
  unfold lay8 at k0' k1' k2' k3' k4' k5' k6' k7'
  refine bodyPost_ret (v := encT sv p) (by simp [results, Tryz.results116, go_sem, z0, z1, z2, z3, z4, z5, z6, z7]) rfl ⟨p, rfl, HRR.out, HBB.out, HQ.out⟩
theorem fr_vec_top {g h c : Nat} {A : Option Addr} (o : List Int) (ho : o.length ≤ c) (hc : c ≤ 9223372036854775807) (hol : o.length ≤ 70000) (uo : U8s o) (σ : Rs) (ha : σ.1 ≤ o.length) (w : World) (hb : RdB w g A o.length c σ) (ra : Rd (Value.int .u8) w g A o) (hg : g < w.heap.size) (hx : (one2 o σ).1 = 1) :
    Calls Tryz.prog 116 #[.pointer (some ⟨g, 0, none⟩)] w (VecRet g A o.length c (vec2 o σ) w) := by
  have CO := hid (fun W (hB : RdB W g A o.length c σ) hR => fr_one (g := g) (A := A) o ho hc hol uo σ ha W hB hR)
  have hle : (one2 o σ).2.1 ≤ o.length := tak_le ha
  have CN := hid (fun W hB hR hz => fr_number (g := g) (A := A) o ho hc hol uo (one2 o σ).2 hle W hB hR hz)
  have hle2 : (num2 o (one2 o σ).2).2.1 ≤ o.length := pas_le hle (fun he => (get_fwd uo he).2)
  have hDI := num_i64 uo (one2 o σ).2
  have CT := hid (fun (h : Nat) W (hB : RdB W g A o.length c _) (hR : Rd (Value.int .u8) W g A o) hS h1 h2 => fr_top (g := g) (A := A) (h := h) o ho hc hol uo (num2 o (one2 o σ).2).2 hle2 (num2 o (one2 o σ).2).1 hDI W hB hR hS h1 h2)
  have hv : vec2 o σ = top2 o (num2 o (one2 o σ).2).1 (num2 o (one2 o σ).2).2 := by
    unfold vec2 rst2
    rw [hx]
    simp
  rw [hv]
  obtain ⟨X, υ, hX⟩ : ∃ X υ, one2 o σ = (X, υ) := ⟨_, _, rfl⟩
  rw [hX] at CO CN CT hx ⊢
  simp only at CO CN CT hx ⊢
  obtain ⟨D, τ, hD⟩ : ∃ D τ, num2 o υ = (D, τ) := ⟨_, _, rfl⟩
  rw [hD] at CN CT ⊢
  simp only at CN CT ⊢
  obtain ⟨⟨sv, ρ⟩, hR⟩ : ∃ r, top2 o D τ = r := ⟨_, rfl⟩
  rw [hR] at CT ⊢
  have HX := hid hx
  have g0 := growd w (.cells #[.int .i64 0, .int .i64 0, .slice none 0 0, .slice none 0 0, .int .i64 0, .int .i64 0, .slice none 0 0, .slice none 0 0] 32)
  have HB0 := hid (hb.below g0 hg)
  have HA0 := hid (ra.below (g0.mono (Nat.le_of_lt hg)))
  have HZ0 : Hid (BoxL (w.alloc (.cells #[.int .i64 0, .int .i64 0, .slice none 0 0, .slice none 0 0, .int .i64 0, .int .i64 0, .slice none 0 0, .slice none 0 0] 32)) w.heap.size (cellsT zeroS bareP)) := hid (BoxL.new w _ _)
  have q0 : Off g g w (w.alloc (.cells #[.int .i64 0, .int .i64 0, .slice none 0 0, .slice none 0 0, .int .i64 0, .int .i64 0, .slice none 0 0, .slice none 0 0] 32)) := Off.of g0
  have hz0 : w.heap.size < (w.alloc (.cells #[.int .i64 0, .int .i64 0, .slice none 0 0, .slice none 0 0, .int .i64 0, .int .i64 0, .slice none 0 0, .slice none 0 0] 32)).heap.size := by simp
  have hmm := @run_makeMap Tryz.prog
  clear hb ra hx hX hD hv hR hle hle2 hDI ha g0
  go_enter Tryz.func116, Tryz.ntmps116
  go_wp2_with fail
  refine (CO.out _ HB0.out HA0.out).mono ?_
  rintro _ w1 ⟨rfl, hb1, o1⟩
  have HB1 := hid hb1
  have HA1 := hid (HA0.out.below (o1.below (Nat.le_refl _) (Nat.le_refl _) (by omega)))
  have HZ1 := hid (o1.box HZ0.out (by simp [cellsT]) (by omega) (by omega))
  have q1 := q0.trans o1
  have hz1 : w.heap.size < w1.heap.size := Nat.lt_of_lt_of_le hz0 o1.size
  clear hb1 HB0 HA0 HZ0 o1 q0 hz0 CO
  go_wp2_with fail
  refine (CN.out _ HB1.out HA1.out (by omega)).mono ?_
  rintro _ w2 ⟨rfl, hb2, o2⟩
  have HB2 := hid hb2
  have HA2 := hid (HA1.out.below (o2.below (Nat.le_refl _) (Nat.le_refl _) (by omega)))
  have HZ2 := hid (o2.box HZ1.out (by simp [cellsT]) (by omega) (by omega))
  have q2 := q1.trans o2
  have hz2 : w.heap.size < w2.heap.size := Nat.lt_of_lt_of_le hz1 o2.size
  clear hb2 HB1 HA1 HZ1 o2 q1 hz1 CN
  obtain ⟨W2, W3, W4, W5, u2, u3, u4, u5, b2, b3, b4, b5, hz5, hfm⟩ := fnmap (P := Tryz.prog) (t := 145) Tryz.underlying145 Tryz.underlying3 (z := .nilFunc) (fun w => by kernel_rfl) (.func (.func 156) #[.pointer (some ⟨g, 0, none⟩)] #[]) (.func (.func 157) #[.pointer (some ⟨g, 0, none⟩)] #[]) (.func (.func 158) #[.pointer (some ⟨g, 0, none⟩)] #[]) (.func (.func 159) #[.pointer (some ⟨g, 0, none⟩)] #[]) (by intro h; injection h with h1; injection h1 with h1; exact absurd h1 (by decide)) (by intro h; injection h with h1; injection h1 with h1; exact absurd h1 (by decide)) (by intro h; injection h with h1; injection h1 with h1; exact absurd h1 (by decide)) (by intro h; injection h with h1; injection h1 with h1; exact absurd h1 (by decide)) (by intro h; injection h with h1; injection h1 with h1; exact absurd h1 (by decide)) (by intro h; injection h with h1; injection h1 with h1; exact absurd h1 (by decide)) (w2.alloc (.cells #[.int .i64 X, .int .i64 D, .slice none 0 0, .slice none 0 0, .int .i64 0, .int .i64 0, .slice none 0 0, .slice none 0 0] 32)) (w2.heap.size + 1) (World.size_alloc _ _).symm
  have hl : (Instr.lookup 145 (.map (some (w2.heap.size + 1))) (.int .i64 X) true).run Tryz.prog W5 = .ok (.tuple #[.func (.func 157) #[.pointer (some ⟨g, 0, none⟩)] #[], .bool true]) W5 := (congrArg (fun x => (Instr.lookup 145 (.map (some (w2.heap.size + 1))) (.int .i64 x) true).run Tryz.prog W5) HX.out).trans (hfm W5 rfl).k1
  have hbn : BoxL (w2.alloc (.cells #[.int .i64 X, .int .i64 D, .slice none 0 0, .slice none 0 0, .int .i64 0, .int .i64 0, .slice none 0 0, .slice none 0 0] 32)) w2.heap.size (cellsT (bareS X D) bareP) := BoxL.new w2 _ _
  have hb5 := hbn.below b5 (show w2.heap.size < w2.heap.size + 1 by omega)
  have k0 : W5.cell? ⟨w2.heap.size, 0, none⟩ = some (.int .i64 X) := (hb5 0 _ rfl).1
  have b25 : Below w2.heap.size w2 W5 := (growd w2 _).trans (b5.mono (by omega))
  have HB5 := hid (HB2.out.below b25 (by omega))
  have HA5 := hid (HA2.out.below (b25.mono (by omega)))
  have HZ5 := hid (HZ2.out.below b25 hz2)
  have HS5 : Hid (BoxL W5 w2.heap.size (cellsT (bareS 1 D) bareP)) := hid (by rw [← HX.out]; exact hb5)
  have q5 : Off g g w W5 := q2.trans (Off.of b25)
  have CT5 := hid (CT.out w2.heap.size W5 HB5.out HA5.out HS5.out (by omega) (by omega))
  have hz25 := b25.size
  clear HB2 HA2 HZ2 q2 hfm hbn hb5 HB5 HA5 HS5 CT b2 b3 b4 b5 b25 HX
  go_wp2_with fail
  refine CT5.out.mono ?_
  rintro _ w6 ⟨rfl, ⟨p, hs6, hr6⟩, hb6, o6⟩
  simp only at hs6 hr6 hb6
  clear u2 u3 u4 u5 hl k0 hmm CT5
  have hzz := o6.box HZ5.out (by simp [cellsT]) (by omega) (by omega)
  have HY := hid (lay8_box hzz sv p)
  have HO := hid (lay8_off w6 w.heap.size sv p)
  have q6 := q5.thenR o6 (by omega)
  have HQ := hid (q6.thenS HO.out (Nat.le_refl _))
  have HRR : Hid (RdFS (lay8 w6 w.heap.size sv p) w.heap.size sv p) := hid (by
    have hw : w.heap.size ≤ W5.heap.size := by omega
    have hw2 : w.heap.size < W5.heap.size := by omega
    exact ⟨(hr6.1.off HO.out hw2 hw2).less hw, (hr6.2.1.off HO.out hw2 hw2).less hw, (hr6.2.2.1.off HO.out hw2 hw2).less hw, (hr6.2.2.2.off HO.out hw2 hw2).less hw⟩)
  have HBB : Hid (RdB (lay8 w6 w.heap.size sv p) g A o.length c ρ) := hid (HO.out.box hb6 (by simp) (by omega) (by omega))
  obtain ⟨⟨k0, k1, k2, k3, k4, k5, k6, k7⟩, f0, f1, f2, f3, f4, f5, f6, f7⟩ := box_T hs6
  obtain ⟨⟨z0, z1, z2, z3, z4, z5, z6, z7⟩, y0, y1, y2, y3, y4, y5, y6, y7⟩ := box_T hzz
  clear hs6 hr6 hb6 o6 q6 q5 HO hzz HZ5 f0 f1 f2 f3 f4 f5 f6 f7
  go_wp2_with fail
  obtain ⟨⟨k0', k1', k2', k3', k4', k5', k6', k7'⟩, _⟩ := box_T HY.out
  unfold lay8 at k0' k1' k2' k3' k4' k5' k6' k7'
  refine bodyPost_ret (v := encT sv p) (by simp [results, Tryz.results116, go_sem, z0, z1, z2, z3, z4, z5, z6, z7]) rfl ⟨p, rfl, HRR.out, HBB.out, HQ.out⟩
theorem fr_vec_level {g h c : Nat} {A : Option Addr} (o : List Int) (ho : o.length ≤ c) (hc : c ≤ 9223372036854775807) (hol : o.length ≤ 70000) (uo : U8s o) (σ : Rs) (ha : σ.1 ≤ o.length) (w : World) (hb : RdB w g A o.length c σ) (ra : Rd (Value.int .u8) w g A o) (hg : g < w.heap.size) (hx : (one2 o σ).1 = 2) :
    Calls Tryz.prog 116 #[.pointer (some ⟨g, 0, none⟩)] w (VecRet g A o.length c (vec2 o σ) w) := by
  have CO := hid (fun W (hB : RdB W g A o.length c σ) hR => fr_one (g := g) (A := A) o ho hc hol uo σ ha W hB hR)
  have hle : (one2 o σ).2.1 ≤ o.length := tak_le ha
  have CN := hid (fun W hB hR hz => fr_number (g := g) (A := A) o ho hc hol uo (one2 o σ).2 hle W hB hR hz)
  have hle2 : (num2 o (one2 o σ).2).2.1 ≤ o.length := pas_le hle (fun he => (get_fwd uo he).2)
  have hDI := num_i64 uo (one2 o σ).2
  have CT := hid (fun (h : Nat) W (hB : RdB W g A o.length c _) (hR : Rd (Value.int .u8) W g A o) hS h1 h2 => fr_level (g := g) (A := A) (h := h) o ho hc hol uo (num2 o (one2 o σ).2).2 hle2 (num2 o (one2 o σ).2).1 hDI W hB hR hS h1 h2)
  have hv : vec2 o σ = lev2 o (num2 o (one2 o σ).2).1 (num2 o (one2 o σ).2).2 := by
    unfold vec2 rst2
    rw [hx]
    simp
  rw [hv]
  obtain ⟨X, υ, hX⟩ : ∃ X υ, one2 o σ = (X, υ) := ⟨_, _, rfl⟩
  rw [hX] at CO CN CT hx ⊢
  simp only at CO CN CT hx ⊢
  obtain ⟨D, τ, hD⟩ : ∃ D τ, num2 o υ = (D, τ) := ⟨_, _, rfl⟩
  rw [hD] at CN CT ⊢
  simp only at CN CT ⊢
  obtain ⟨⟨sv, ρ⟩, hR⟩ : ∃ r, lev2 o D τ = r := ⟨_, rfl⟩
  rw [hR] at CT ⊢
  have HX := hid hx
  have g0 := growd w (.cells #[.int .i64 0, .int .i64 0, .slice none 0 0, .slice none 0 0, .int .i64 0, .int .i64 0, .slice none 0 0, .slice none 0 0] 32)
  have HB0 := hid (hb.below g0 hg)
  have HA0 := hid (ra.below (g0.mono (Nat.le_of_lt hg)))
  have HZ0 : Hid (BoxL (w.alloc (.cells #[.int .i64 0, .int .i64 0, .slice none 0 0, .slice none 0 0, .int .i64 0, .int .i64 0, .slice none 0 0, .slice none 0 0] 32)) w.heap.size (cellsT zeroS bareP)) := hid (BoxL.new w _ _)
  have q0 : Off g g w (w.alloc (.cells #[.int .i64 0, .int .i64 0, .slice none 0 0, .slice none 0 0, .int .i64 0, .int .i64 0, .slice none 0 0, .slice none 0 0] 32)) := Off.of g0
  have hz0 : w.heap.size < (w.alloc (.cells #[.int .i64 0, .int .i64 0, .slice none 0 0, .slice none 0 0, .int .i64 0, .int .i64 0, .slice none 0 0, .slice none 0 0] 32)).heap.size := by simp
  have hmm := @run_makeMap Tryz.prog
  clear hb ra hx hX hD hv hR hle hle2 hDI ha g0
  go_enter Tryz.func116, Tryz.ntmps116
  go_wp2_with fail
  refine (CO.out _ HB0.out HA0.out).mono ?_
  rintro _ w1 ⟨rfl, hb1, o1⟩
  have HB1 := hid hb1
  have HA1 := hid (HA0.out.below (o1.below (Nat.le_refl _) (Nat.le_refl _) (by omega)))
  have HZ1 := hid (o1.box HZ0.out (by simp [cellsT]) (by omega) (by omega))
  have q1 := q0.trans o1
  have hz1 : w.heap.size < w1.heap.size := Nat.lt_of_lt_of_le hz0 o1.size
  clear hb1 HB0 HA0 HZ0 o1 q0 hz0 CO
  go_wp2_with fail
  refine (CN.out _ HB1.out HA1.out (by omega)).mono ?_
  rintro _ w2 ⟨rfl, hb2, o2⟩
  have HB2 := hid hb2
  have HA2 := hid (HA1.out.below (o2.below (Nat.le_refl _) (Nat.le_refl _) (by omega)))
  have HZ2 := hid (o2.box HZ1.out (by simp [cellsT]) (by omega) (by omega))
  have q2 := q1.trans o2
  have hz2 : w.heap.size < w2.heap.size := Nat.lt_of_lt_of_le hz1 o2.size
  clear hb2 HB1 HA1 HZ1 o2 q1 hz1 CN
  obtain ⟨W2, W3, W4, W5, u2, u3, u4, u5, b2, b3, b4, b5, hz5, hfm⟩ := fnmap (P := Tryz.prog) (t := 145) Tryz.underlying145 Tryz.underlying3 (z := .nilFunc) (fun w => by kernel_rfl) (.func (.func 156) #[.pointer (some ⟨g, 0, none⟩)] #[]) (.func (.func 157) #[.pointer (some ⟨g, 0, none⟩)] #[]) (.func (.func 158) #[.pointer (some ⟨g, 0, none⟩)] #[]) (.func (.func 159) #[.pointer (some ⟨g, 0, none⟩)] #[]) (by intro h; injection h with h1; injection h1 with h1; exact absurd h1 (by decide)) (by intro h; injection h with h1; injection h1 with h1; exact absurd h1 (by decide)) (by intro h; injection h with h1; injection h1 with h1; exact absurd h1 (by decide)) (by intro h; injection h with h1; injection h1 with h1; exact absurd h1 (by decide)) (by intro h; injection h with h1; injection h1 with h1; exact absurd h1 (by decide)) (by intro h; injection h with h1; injection h1 with h1; exact absurd h1 (by decide)) (w2.alloc (.cells #[.int .i64 X, .int .i64 D, .slice none 0 0, .slice none 0 0, .int .i64 0, .int .i64 0, .slice none 0 0, .slice none 0 0] 32)) (w2.heap.size + 1) (World.size_alloc _ _).symm
  have hl : (Instr.lookup 145 (.map (some (w2.heap.size + 1))) (.int .i64 X) true).run Tryz.prog W5 = .ok (.tuple #[.func (.func 158) #[.pointer (some ⟨g, 0, none⟩)] #[], .bool true]) W5 := (congrArg (fun x => (Instr.lookup 145 (.map (some (w2.heap.size + 1))) (.int .i64 x) true).run Tryz.prog W5) HX.out).trans (hfm W5 rfl).k2
  have hbn : BoxL (w2.alloc (.cells #[.int .i64 X, .int .i64 D, .slice none 0 0, .slice none 0 0, .int .i64 0, .int .i64 0, .slice none 0 0, .slice none 0 0] 32)) w2.heap.size (cellsT (bareS X D) bareP) := BoxL.new w2 _ _
  have hb5 := hbn.below b5 (show w2.heap.size < w2.heap.size + 1 by omega)
  have k0 : W5.cell? ⟨w2.heap.size, 0, none⟩ = some (.int .i64 X) := (hb5 0 _ rfl).1
  have b25 : Below w2.heap.size w2 W5 := (growd w2 _).trans (b5.mono (by omega))
  have HB5 := hid (HB2.out.below b25 (by omega))
  have HA5 := hid (HA2.out.below (b25.mono (by omega)))
  have HZ5 := hid (HZ2.out.below b25 hz2)
  have HS5 : Hid (BoxL W5 w2.heap.size (cellsT (bareS 2 D) bareP)) := hid (by rw [← HX.out]; exact hb5)
  have q5 : Off g g w W5 := q2.trans (Off.of b25)
  have CT5 := hid (CT.out w2.heap.size W5 HB5.out HA5.out HS5.out (by omega) (by omega))
  have hz25 := b25.size
  clear HB2 HA2 HZ2 q2 hfm hbn hb5 HB5 HA5 HS5 CT b2 b3 b4 b5 b25 HX
  go_wp2_with fail
  refine CT5.out.mono ?_
  rintro _ w6 ⟨rfl, ⟨p, hs6, hr6⟩, hb6, o6⟩
  simp only at hs6 hr6 hb6
  clear u2 u3 u4 u5 hl k0 hmm CT5
  have hzz := o6.box HZ5.out (by simp [cellsT]) (by omega) (by omega)
  have HY := hid (lay8_box hzz sv p)
  have HO := hid (lay8_off w6 w.heap.size sv p)
  have q6 := q5.thenR o6 (by omega)
  have HQ := hid (q6.thenS HO.out (Nat.le_refl _))
  have HRR : Hid (RdFS (lay8 w6 w.heap.size sv p) w.heap.size sv p) := hid (by
    have hw : w.heap.size ≤ W5.heap.size := by omega
    have hw2 : w.heap.size < W5.heap.size := by omega
    exact ⟨(hr6.1.off HO.out hw2 hw2).less hw, (hr6.2.1.off HO.out hw2 hw2).less hw, (hr6.2.2.1.off HO.out hw2 hw2).less hw, (hr6.2.2.2.off HO.out hw2 hw2).less hw⟩)
  have HBB : Hid (RdB (lay8 w6 w.heap.size sv p) g A o.length c ρ) := hid (HO.out.box hb6 (by simp) (by omega) (by omega))
  obtain ⟨⟨k0, k1, k2, k3, k4, k5, k6, k7⟩, f0, f1, f2, f3, f4, f5, f6, f7⟩ := box_T hs6
  obtain ⟨⟨z0, z1, z2, z3, z4, z5, z6, z7⟩, y0, y1, y2, y3, y4, y5, y6, y7⟩ := box_T hzz
  clear hs6 hr6 hb6 o6 q6 q5 HO hzz HZ5 f0 f1 f2 f3 f4 f5 f6 f7
  go_wp2_with fail
  obtain ⟨⟨k0', k1', k2', k3', k4', k5', k6', k7'⟩, _⟩ := box_T HY.out
  unfold lay8 at k0' k1' k2' k3' k4' k5' k6' k7'
  refine bodyPost_ret (v := encT sv p) (by simp [results, Tryz.results116, go_sem, z0, z1, z2, z3, z4, z5, z6, z7]) rfl ⟨p, rfl, HRR.out, HBB.out, HQ.out⟩
theorem fr_vec_sign {g h c : Nat} {A : Option Addr} (o : List Int) (ho : o.length ≤ c) (hc : c ≤ 9223372036854775807) (hol : o.length ≤ 70000) (uo : U8s o) (σ : Rs) (ha : σ.1 ≤ o.length) (w : World) (hb : RdB w g A o.length c σ) (ra : Rd (Value.int .u8) w g A o) (hg : g < w.heap.size) (hx : (one2 o σ).1 = 3) :
    Calls Tryz.prog 116 #[.pointer (some ⟨g, 0, none⟩)] w (VecRet g A o.length c (vec2 o σ) w) := by
  have CO := hid (fun W (hB : RdB W g A o.length c σ) hR => fr_one (g := g) (A := A) o ho hc hol uo σ ha W hB hR)
  have hle : (one2 o σ).2.1 ≤ o.length := tak_le ha
  have CN := hid (fun W hB hR hz => fr_number (g := g) (A := A) o ho hc hol uo (one2 o σ).2 hle W hB hR hz)
  have hle2 : (num2 o (one2 o σ).2).2.1 ≤ o.length := pas_le hle (fun he => (get_fwd uo he).2)
  have hDI := num_i64 uo (one2 o σ).2
  have CT := hid (fun (h : Nat) W (hB : RdB W g A o.length c _) (hR : Rd (Value.int .u8) W g A o) hS h1 h2 => fr_sign (g := g) (A := A) (h := h) o ho hc hol uo (num2 o (one2 o σ).2).2 hle2 (num2 o (one2 o σ).2).1 hDI W hB hR hS h1 h2)
  have hv : vec2 o σ = sgn2 o (num2 o (one2 o σ).2).1 (num2 o (one2 o σ).2).2 := by
    unfold vec2 rst2
    rw [hx]
    simp
  rw [hv]
  obtain ⟨X, υ, hX⟩ : ∃ X υ, one2 o σ = (X, υ) := ⟨_, _, rfl⟩
  rw [hX] at CO CN CT hx ⊢
  simp only at CO CN CT hx ⊢
  obtain ⟨D, τ, hD⟩ : ∃ D τ, num2 o υ = (D, τ) := ⟨_, _, rfl⟩
  rw [hD] at CN CT ⊢
  simp only at CN CT ⊢
  obtain ⟨⟨sv, ρ⟩, hR⟩ : ∃ r, sgn2 o D τ = r := ⟨_, rfl⟩
  rw [hR] at CT ⊢
  have HX := hid hx
  have g0 := growd w (.cells #[.int .i64 0, .int .i64 0, .slice none 0 0, .slice none 0 0, .int .i64 0, .int .i64 0, .slice none 0 0, .slice none 0 0] 32)
  have HB0 := hid (hb.below g0 hg)
  have HA0 := hid (ra.below (g0.mono (Nat.le_of_lt hg)))
  have HZ0 : Hid (BoxL (w.alloc (.cells #[.int .i64 0, .int .i64 0, .slice none 0 0, .slice none 0 0, .int .i64 0, .int .i64 0, .slice none 0 0, .slice none 0 0] 32)) w.heap.size (cellsT zeroS bareP)) := hid (BoxL.new w _ _)
  have q0 : Off g g w (w.alloc (.cells #[.int .i64 0, .int .i64 0, .slice none 0 0, .slice none 0 0, .int .i64 0, .int .i64 0, .slice none 0 0, .slice none 0 0] 32)) := Off.of g0
  have hz0 : w.heap.size < (w.alloc (.cells #[.int .i64 0, .int .i64 0, .slice none 0 0, .slice none 0 0, .int .i64 0, .int .i64 0, .slice none 0 0, .slice none 0 0] 32)).heap.size := by simp
  have hmm := @run_makeMap Tryz.prog
  clear hb ra hx hX hD hv hR hle hle2 hDI ha g0
  go_enter Tryz.func116, Tryz.ntmps116
  go_wp2_with fail
  refine (CO.out _ HB0.out HA0.out).mono ?_
  rintro _ w1 ⟨rfl, hb1, o1⟩
  have HB1 := hid hb1
  have HA1 := hid (HA0.out.below (o1.below (Nat.le_refl _) (Nat.le_refl _) (by omega)))
  have HZ1 := hid (o1.box HZ0.out (by simp [cellsT]) (by omega) (by omega))
  have q1 := q0.trans o1
  have hz1 : w.heap.size < w1.heap.size := Nat.lt_of_lt_of_le hz0 o1.size
  clear hb1 HB0 HA0 HZ0 o1 q0 hz0 CO
  go_wp2_with fail
  refine (CN.out _ HB1.out HA1.out (by omega)).mono ?_
  rintro _ w2 ⟨rfl, hb2, o2⟩
  have HB2 := hid hb2
  have HA2 := hid (HA1.out.below (o2.below (Nat.le_refl _) (Nat.le_refl _) (by omega)))
  have HZ2 := hid (o2.box HZ1.out (by simp [cellsT]) (by omega) (by omega))
  have q2 := q1.trans o2
  have hz2 : w.heap.size < w2.heap.size := Nat.lt_of_lt_of_le hz1 o2.size
  clear hb2 HB1 HA1 HZ1 o2 q1 hz1 CN
  obtain ⟨W2, W3, W4, W5, u2, u3, u4, u5, b2, b3, b4, b5, hz5, hfm⟩ := fnmap (P := Tryz.prog) (t := 145) Tryz.underlying145 Tryz.underlying3 (z := .nilFunc) (fun w => by kernel_rfl) (.func (.func 156) #[.pointer (some ⟨g, 0, none⟩)] #[]) (.func (.func 157) #[.pointer (some ⟨g, 0, none⟩)] #[]) (.func (.func 158) #[.pointer (some ⟨g, 0, none⟩)] #[]) (.func (.func 159) #[.pointer (some ⟨g, 0, none⟩)] #[]) (by intro h; injection h with h1; injection h1 with h1; exact absurd h1 (by decide)) (by intro h; injection h with h1; injection h1 with h1; exact absurd h1 (by decide)) (by intro h; injection h with h1; injection h1 with h1; exact absurd h1 (by decide)) (by intro h; injection h with h1; injection h1 with h1; exact absurd h1 (by decide)) (by intro h; injection h with h1; injection h1 with h1; exact absurd h1 (by decide)) (by intro h; injection h with h1; injection h1 with h1; exact absurd h1 (by decide)) (w2.alloc (.cells #[.int .i64 X, .int .i64 D, .slice none 0 0, .slice none 0 0, .int .i64 0, .int .i64 0, .slice none 0 0, .slice none 0 0] 32)) (w2.heap.size + 1) (World.size_alloc _ _).symm
  have hl : (Instr.lookup 145 (.map (some (w2.heap.size + 1))) (.int .i64 X) true).run Tryz.prog W5 = .ok (.tuple #[.func (.func 159) #[.pointer (some ⟨g, 0, none⟩)] #[], .bool true]) W5 := (congrArg (fun x => (Instr.lookup 145 (.map (some (w2.heap.size + 1))) (.int .i64 x) true).run Tryz.prog W5) HX.out).trans (hfm W5 rfl).k3
  have hbn : BoxL (w2.alloc (.cells #[.int .i64 X, .int .i64 D, .slice none 0 0, .slice none 0 0, .int .i64 0, .int .i64 0, .slice none 0 0, .slice none 0 0] 32)) w2.heap.size (cellsT (bareS X D) bareP) := BoxL.new w2 _ _
  have hb5 := hbn.below b5 (show w2.heap.size < w2.heap.size + 1 by omega)
  have k0 : W5.cell? ⟨w2.heap.size, 0, none⟩ = some (.int .i64 X) := (hb5 0 _ rfl).1
  have b25 : Below w2.heap.size w2 W5 := (growd w2 _).trans (b5.mono (by omega))
  have HB5 := hid (HB2.out.below b25 (by omega))
  have HA5 := hid (HA2.out.below (b25.mono (by omega)))
  have HZ5 := hid (HZ2.out.below b25 hz2)
  have HS5 : Hid (BoxL W5 w2.heap.size (cellsT (bareS 3 D) bareP)) := hid (by rw [← HX.out]; exact hb5)
  have q5 : Off g g w W5 := q2.trans (Off.of b25)
  have CT5 := hid (CT.out w2.heap.size W5 HB5.out HA5.out HS5.out (by omega) (by omega))
  have hz25 := b25.size
  clear HB2 HA2 HZ2 q2 hfm hbn hb5 HB5 HA5 HS5 CT b2 b3 b4 b5 b25 HX
  go_wp2_with fail
  refine CT5.out.mono ?_
  rintro _ w6 ⟨rfl, ⟨p, hs6, hr6⟩, hb6, o6⟩
  simp only at hs6 hr6 hb6
  clear u2 u3 u4 u5 hl k0 hmm CT5
  have hzz := o6.box HZ5.out (by simp [cellsT]) (by omega) (by omega)
  have HY := hid (lay8_box hzz sv p)
  have HO := hid (lay8_off w6 w.heap.size sv p)
  have q6 := q5.thenR o6 (by omega)
  have HQ := hid (q6.thenS HO.out (Nat.le_refl _))
  have HRR : Hid (RdFS (lay8 w6 w.heap.size sv p) w.heap.size sv p) := hid (by
    have hw : w.heap.size ≤ W5.heap.size := by omega
    have hw2 : w.heap.size < W5.heap.size := by omega
    exact ⟨(hr6.1.off HO.out hw2 hw2).less hw, (hr6.2.1.off HO.out hw2 hw2).less hw, (hr6.2.2.1.off HO.out hw2 hw2).less hw, (hr6.2.2.2.off HO.out hw2 hw2).less hw⟩)
  have HBB : Hid (RdB (lay8 w6 w.heap.size sv p) g A o.length c ρ) := hid (HO.out.box hb6 (by simp) (by omega) (by omega))
  obtain ⟨⟨k0, k1, k2, k3, k4, k5, k6, k7⟩, f0, f1, f2, f3, f4, f5, f6, f7⟩ := box_T hs6
  obtain ⟨⟨z0, z1, z2, z3, z4, z5, z6, z7⟩, y0, y1, y2, y3, y4, y5, y6, y7⟩ := box_T hzz
  clear hs6 hr6 hb6 o6 q6 q5 HO hzz HZ5 f0 f1 f2 f3 f4 f5 f6 f7
  go_wp2_with fail
  obtain ⟨⟨k0', k1', k2', k3', k4', k5', k6', k7'⟩, _⟩ := box_T HY.out
  unfold lay8 at k0' k1' k2' k3' k4' k5' k6' k7'
  refine bodyPost_ret (v := encT sv p) (by simp [results, Tryz.results116, go_sem, z0, z1, z2, z3, z4, z5, z6, z7]) rfl ⟨p, rfl, HRR.out, HBB.out, HQ.out⟩
end Go.Proofs.YtecgbelgoomneaaGreat
