
/- ZFsU: texts joined: FsU. -/
import Derived.Test.YtecgbelgoomneaaGreatZFsT
import Derived.Test.YtecgbelgoomneaaGreatZb
import Derived.Deep.RegionLaw
/- The program's reader: a vector's parts by its scheme. -/
namespace Go.Proofs.YtecgbelgoomneaaGreat
open Go.RowKit
set_option maxHeartbeats 1000000
set_option maxRecDepth 100000
set_option linter.unusedVariables false
def cellsT (s : SentV) (p : SentP) : List Value := [.int .i64 s.sch, .int .i64 s.dim, .slice p.AL s.L.length p.cL, .slice p.AV s.V.length p.cV, .int .i64 s.scale, .int .i64 s.wide, .slice p.AE s.lev.length p.cE, .slice p.AN s.neg.length p.cN]
def RdFS (w : World) (B : Nat) (s : SentV) (p : SentP) : Prop := RdF (Value.int .i64) w B p.AL s.L ∧ RdF (Value.int .i64) w B p.AV s.V ∧ RdF (Value.int .u64) w B p.AE s.lev ∧ RdF Value.bool w B p.AN s.neg
theorem box_T {w : World} {h : Nat} {s : SentV} {p : SentP} (hb : BoxL w h (cellsT s p)) : (w.cell? ⟨h, 0, none⟩ = some (.int .i64 s.sch) ∧ w.cell? ⟨h, 1, none⟩ = some (.int .i64 s.dim) ∧ w.cell? ⟨h, 2, none⟩ = some (.slice p.AL s.L.length p.cL) ∧ w.cell? ⟨h, 3, none⟩ = some (.slice p.AV s.V.length p.cV) ∧ w.cell? ⟨h, 4, none⟩ = some (.int .i64 s.scale) ∧ w.cell? ⟨h, 5, none⟩ = some (.int .i64 s.wide) ∧ w.cell? ⟨h, 6, none⟩ = some (.slice p.AE s.lev.length p.cE) ∧ w.cell? ⟨h, 7, none⟩ = some (.slice p.AN s.neg.length p.cN)) ∧
    (w.frozen? ⟨h, 0, none⟩ = false ∧ w.frozen? ⟨h, 1, none⟩ = false ∧ w.frozen? ⟨h, 2, none⟩ = false ∧ w.frozen? ⟨h, 3, none⟩ = false ∧ w.frozen? ⟨h, 4, none⟩ = false ∧ w.frozen? ⟨h, 5, none⟩ = false ∧ w.frozen? ⟨h, 6, none⟩ = false ∧ w.frozen? ⟨h, 7, none⟩ = false) := BoxL.eight hb
/-- What a reader of parts leaves: the vector in its box, the reader in its own. -/
def VecOut (g h : Nat) (A : Option Addr) (n c B : Nat) (r : SentV × Rs) (w : World) (e : Ending) (w' : World) : Prop :=
  e = .returned (.tuple #[]) ∧ (∃ p, BoxL w' h (cellsT r.1 p) ∧ RdFS w' B r.1 p) ∧ RdB w' g A n c r.2 ∧ Off g h w w'
def bareS (sch dim : Int) : SentV := ⟨sch, dim, [], [], 0, 0, [], []⟩
def bareP : SentP := ⟨none, 0, none, 0, none, 0, none, 0⟩
theorem one_i64 {o : List Int} (uo : U8s o) (σ : Rs) : I64 (one2 o σ).1 := by
  have hu := tak_u8 uo (σ := σ) (m := 1)
  unfold one2
  simp only
  obtain ⟨p, t, ht⟩ : ∃ p t, tak o σ 1 = (p, t) := ⟨_, _, rfl⟩
  rw [ht] at hu ⊢
  cases p with
  | nil => show I64 0; decide
  | cons x r =>
    have := hu x (by simp)
    show I64 x
    unfold I64; omega
theorem fr_dense {g h c : Nat} {A : Option Addr} (o : List Int) (ho : o.length ≤ c) (hc : c ≤ 9223372036854775807) (hol : o.length ≤ 70000) (uo : U8s o) (σ : Rs) (ha : σ.1 ≤ o.length) (dim : Int) (hd : I64 dim) (w : World) (hb : RdB w g A o.length c σ) (ra : Rd (Value.int .u8) w g A o) (hs : BoxL w h (cellsT (bareS 0 dim) bareP)) (hgh : g < h) (hh : h < w.heap.size) :
    Calls Tryz.prog 156 #[.pointer (some ⟨g, 0, none⟩), .pointer (some ⟨h, 0, none⟩)] w (VecOut g h A o.length c w.heap.size (dns2 o dim σ) w) := by
  have CN := hid (fr_numbers o ho hc hol uo σ ha dim hd w hb ra (by omega))
  unfold dns2
  obtain ⟨V, υ, hV⟩ : ∃ V υ, nms2 o σ dim = (V, υ) := ⟨_, _, rfl⟩
  rw [hV] at CN ⊢
  simp only at CN ⊢
  obtain ⟨⟨k0, k1, k2, k3, k4, k5, k6, k7⟩, f0, f1, f2, f3, f4, f5, f6, f7⟩ := box_T hs
  have HS := hid hs
  have kd : w.cell? ⟨h, 1, none⟩ = some (.int .i64 dim) := k1
  clear hV hb ra hs k0 k1 k2 k3 k4 k5 k6 k7 f0 f1 f2 f3 f4 f5 f6 f7 ha
  go_enter Tryz.func156, Tryz.ntmps156
  go_wp2_with fail
  refine CN.out.mono ?_
  rintro _ w1 ⟨A2, c2, rfl, hr1, hb1, o1⟩
  have hs1 := o1.box HS.out (by simp [cellsT]) (by omega) (by omega)
  obtain ⟨⟨k0, k1, k2, k3, k4, k5, k6, k7⟩, f0, f1, f2, f3, f4, f5, f6, f7⟩ := box_T hs1
  have hw := Off.setR (g := g) (h := h) (w := w1) 3 (.slice A2 V.length c2)
  have HQ : Hid ((∃ p, BoxL (w1.setCell ⟨h, 3, none⟩ (.slice A2 V.length c2)) h (cellsT ⟨0, dim, [], V, 0, 0, [], []⟩ p) ∧ RdFS (w1.setCell ⟨h, 3, none⟩ (.slice A2 V.length c2)) w.heap.size ⟨0, dim, [], V, 0, 0, [], []⟩ p) ∧ RdB (w1.setCell ⟨h, 3, none⟩ (.slice A2 V.length c2)) g A o.length c υ ∧ Off g h w (w1.setCell ⟨h, 3, none⟩ (.slice A2 V.length c2))) :=
    hid ⟨⟨⟨none, 0, A2, c2, none, 0, none, 0⟩, BoxL.one hs1 (k := 3) rfl _, RdF.nil _ _, hr1.off hw (by omega) (by omega), RdF.nil _ _, RdF.nil _ _⟩, BoxL.other hb1 (p := ⟨h, 3, none⟩) (by simp; omega) _, o1.left.trans hw⟩
  clear hr1 hb1 o1 hs1 hw
  go_wp2_with fail
  go_end0
  exact ⟨rfl, HQ.out⟩
theorem fr_sign {g h c : Nat} {A : Option Addr} (o : List Int) (ho : o.length ≤ c) (hc : c ≤ 9223372036854775807) (hol : o.length ≤ 70000) (uo : U8s o) (σ : Rs) (ha : σ.1 ≤ o.length) (dim : Int) (hd : I64 dim) (w : World) (hb : RdB w g A o.length c σ) (ra : Rd (Value.int .u8) w g A o) (hs : BoxL w h (cellsT (bareS 3 dim) bareP)) (hgh : g < h) (hh : h < w.heap.size) :
    Calls Tryz.prog 159 #[.pointer (some ⟨g, 0, none⟩), .pointer (some ⟨h, 0, none⟩)] w (VecOut g h A o.length c w.heap.size (sgn2 o dim σ) w) := by
  have CN := hid (fun W (hB : RdB W g A o.length c σ) (hR : Rd (Value.int .u8) W g A o) hz => fr_number o ho hc hol uo σ ha W hB hR hz)
  have hle : (num2 o σ).2.1 ≤ o.length := pas_le ha (fun he => (get_fwd uo he).2)
  have CS := hid (fun W hB hR hz => fr_signs (g := g) (A := A) o ho hc hol uo (num2 o σ).2 hle dim hd W hB hR hz)
  unfold sgn2
  obtain ⟨N, υ, hN⟩ : ∃ V υ, num2 o σ = (V, υ) := ⟨_, _, rfl⟩
  rw [hN] at CN CS ⊢
  simp only at CN CS ⊢
  obtain ⟨G, τ, hG⟩ : ∃ G τ, sgs2 o υ dim = (G, τ) := ⟨_, _, rfl⟩
  rw [hG] at CS ⊢
  simp only at CS ⊢
  obtain ⟨⟨k0, k1, k2, k3, k4, k5, k6, k7⟩, f0, f1, f2, f3, f4, f5, f6, f7⟩ := box_T hs
  have HS := hid hs
  have HB := hid hb
  have HA := hid ra
  have kd : w.cell? ⟨h, 1, none⟩ = some (.int .i64 dim) := k1
  clear hN hG hb ra hs k0 k1 k2 k3 k4 k5 k6 k7 f0 f1 f2 f3 f4 f5 f6 f7 ha hle
  go_enter Tryz.func159, Tryz.ntmps159
  go_wp2_with fail
  first | (go_region_law (first | (go_simp; go_at_call 115; refine (CN.out _ (by exact HB.out) (by exact HA.out) (by simp; omega)).mono ?_; rintro _ w1 ⟨rfl, hb1, o1⟩; have q1 : Off g g w w1 := (show Off g g w w.drew from Off.of ((Below.refl _ _).drew)).trans o1; have HS1 := hid (q1.box HS.out (by simp [cellsT]) (by omega) (by omega)); have kd1 : w1.cell? ⟨h, 1, none⟩ = some (.int .i64 dim) := (HS1.out 1 _ rfl).1; have HB1 := hid hb1; clear hb1) | (go_simp; go_at_call 196; refine (CS.out _ (by exact HB1.out) (by exact HA.out.below (q1.below (Nat.le_refl _) (Nat.le_refl _) (by omega))) (by exact Nat.lt_of_lt_of_le (by omega) q1.size)).mono ?_; rintro _ w2 ⟨A2, c2, rfl, hr2, hb2, o2⟩; have q2 := q1.trans o2; have HS2 := hid (o2.box HS1.out (by simp [cellsT]) (by omega) (by omega)); have kc : w2.cell? ⟨h, 4, none⟩ = some (.int .i64 0) := (HS2.out 4 _ rfl).1; have ke : w2.cell? ⟨h, 7, none⟩ = some (.slice none 0 0) := (HS2.out 7 _ rfl).1; have kf : w2.frozen? ⟨h, 4, none⟩ = false := (HS2.out 4 _ rfl).2; have kg : w2.frozen? ⟨h, 7, none⟩ = false := (HS2.out 7 _ rfl).2; have HB2 := hid hb2; have HR2 := hid (hr2.less q1.size); clear hb2 hr2))) | fail
  all_goals
    have hw := (Off.setR (g := g) (h := h) (w := w2) 4 (.int .i64 N)).trans (Off.setR 7 (.slice A2 G.length c2))
    go_end0
    exact ⟨rfl, ⟨⟨none, 0, none, 0, none, 0, A2, c2⟩, (BoxL.one HS2.out (k := 4) rfl _).one (k := 7) rfl _, RdF.nil _ _, RdF.nil _ _, RdF.nil _ _, HR2.out.off hw (by omega) (by omega)⟩, BoxL.other (BoxL.other HB2.out (p := ⟨h, 4, none⟩) (by simp; omega) _) (p := ⟨h, 7, none⟩) (by simp; omega) _, q2.left.trans hw⟩
theorem fr_level {g h c : Nat} {A : Option Addr} (o : List Int) (ho : o.length ≤ c) (hc : c ≤ 9223372036854775807) (hol : o.length ≤ 70000) (uo : U8s o) (σ : Rs) (ha : σ.1 ≤ o.length) (dim : Int) (hd : I64 dim) (w : World) (hb : RdB w g A o.length c σ) (ra : Rd (Value.int .u8) w g A o) (hs : BoxL w h (cellsT (bareS 2 dim) bareP)) (hgh : g < h) (hh : h < w.heap.size) :
    Calls Tryz.prog 158 #[.pointer (some ⟨g, 0, none⟩), .pointer (some ⟨h, 0, none⟩)] w (VecOut g h A o.length c w.heap.size (lev2 o dim σ) w) := by
  have CN := hid (fr_number o ho hc hol uo σ ha w hb ra (by omega))
  have hle : (num2 o σ).2.1 ≤ o.length := pas_le ha (fun he => (get_fwd uo he).2)
  have CO := hid (fun W hB hR => fr_one (g := g) (A := A) o ho hc hol uo (num2 o σ).2 hle W hB hR)
  have hle2 : (one2 o (num2 o σ).2).2.1 ≤ o.length := tak_le hle
  have hxI : I64 (one2 o (num2 o σ).2).1 := one_i64 uo _
  have CQ := hid (fun W hB hR hz => fr_planes (g := g) (A := A) o ho hc hol uo (one2 o (num2 o σ).2).2 hle2 (one2 o (num2 o σ).2).1 dim hxI hd W hB hR hz)
  have hle3 : (pln2 o (one2 o (num2 o σ).2).2 (one2 o (num2 o σ).2).1 dim).2.1 ≤ o.length := pas_le (tak_le hle2) (fun _ => by have := tak_le (m := bysV (one2 o (num2 o σ).2).1 dim) hle2; omega)
  have CS := hid (fun W hB hR hz => fr_signs (g := g) (A := A) o ho hc hol uo (pln2 o (one2 o (num2 o σ).2).2 (one2 o (num2 o σ).2).1 dim).2 hle3 dim hd W hB hR hz)
  unfold lev2
  obtain ⟨N, υ, hN⟩ : ∃ V υ, num2 o σ = (V, υ) := ⟨_, _, rfl⟩
  rw [hN] at CN CO CQ CS ⊢
  simp only at CN CO CQ CS ⊢
  obtain ⟨X, τ, hX⟩ : ∃ X τ, one2 o υ = (X, τ) := ⟨_, _, rfl⟩
  rw [hX] at CO CQ CS ⊢
  simp only at CO CQ CS ⊢
  obtain ⟨L, κ, hL⟩ : ∃ L κ, pln2 o τ X dim = (L, κ) := ⟨_, _, rfl⟩
  rw [hL] at CQ CS ⊢
  simp only at CQ CS ⊢
  obtain ⟨G, ρ, hG⟩ : ∃ G ρ, sgs2 o κ dim = (G, ρ) := ⟨_, _, rfl⟩
  rw [hG] at CS ⊢
  simp only at CS ⊢
  have HS := hid hs
  have HA := hid ra
  clear hN hX hL hG hb ra hs ha hle hle2 hle3 hxI
  go_enter Tryz.func158, Tryz.ntmps158
  go_wp2_with fail
  refine CN.out.mono ?_
  rintro _ w1 ⟨rfl, hb1, q1⟩
  have HB1 := hid hb1
  have HS1 := hid (q1.box HS.out (by simp [cellsT]) (by omega) (by omega))
  have HA1 := hid (HA.out.below (q1.below (Nat.le_refl _) (Nat.le_refl _) (by omega)))
  clear hb1 CN
  go_wp2_with fail
  refine (CO.out _ HB1.out HA1.out).mono ?_
  rintro _ w2 ⟨rfl, hb2, o2⟩
  have q2 := q1.trans o2
  have hz2 := q2.size
  have HB2 := hid hb2
  have HS2 := hid (o2.box HS1.out (by simp [cellsT]) (by omega) (by omega))
  have HA2 := hid (HA1.out.below (o2.below (Nat.le_refl _) (Nat.le_refl _) (by have := q1.size; omega)))
  clear hb2 HB1 HS1 HA1 CO
  have HH : Hid (BoxL ((w2.setCell ⟨h, 4, none⟩ (.int .i64 N)).setCell ⟨h, 5, none⟩ (.int .i64 X)) h (cellsT ⟨2, dim, [], [], N, X, [], []⟩ bareP) ∧ RdB ((w2.setCell ⟨h, 4, none⟩ (.int .i64 N)).setCell ⟨h, 5, none⟩ (.int .i64 X)) g A o.length c τ ∧ Off g h w ((w2.setCell ⟨h, 4, none⟩ (.int .i64 N)).setCell ⟨h, 5, none⟩ (.int .i64 X)) ∧ Rd (Value.int .u8) ((w2.setCell ⟨h, 4, none⟩ (.int .i64 N)).setCell ⟨h, 5, none⟩ (.int .i64 X)) g A o) :=
    hid ⟨(BoxL.one HS2.out (k := 4) rfl _).one (k := 5) rfl _, BoxL.other (BoxL.other HB2.out (p := ⟨h, 4, none⟩) (by simp; omega) _) (p := ⟨h, 5, none⟩) (by simp; omega) _, (q2.left.trans (Off.setR 4 _)).trans (Off.setR 5 _), (HA2.out.below (((Off.setR (g := g) (h := h) 4 _).trans (Off.setR 5 _)).below (Nat.le_refl _) (by omega) (by omega)))⟩
  obtain ⟨⟨k0, k1, k2, k3, k4, k5, k6, k7⟩, f0, f1, f2, f3, f4, f5, f6, f7⟩ := box_T HS2.out
  go_wp2_with fail
  clear k0 k1 k2 k3 k4 k5 k6 k7 f0 f1 f2 f3 f4 f5 f6 f7 HB2 HS2 HA2 HA HS q2 q1 o2 hz2
  generalize ((w2.setCell ⟨h, 4, none⟩ (.int .i64 N)).setCell ⟨h, 5, none⟩ (.int .i64 X)) = w3 at HH ⊢
  obtain ⟨hs3, hb3, q3, ha3⟩ := HH.out
  have HS3 := hid hs3
  have HB3 := hid hb3
  have HA3 := hid ha3
  have hz3 := q3.size
  have kd : w3.cell? ⟨h, 1, none⟩ = some (.int .i64 dim) := (hs3 1 _ rfl).1
  have kx : w3.cell? ⟨h, 5, none⟩ = some (.int .i64 X) := (hs3 5 _ rfl).1
  clear hs3 hb3 ha3 HH
  first | (go_region_law (first | (go_simp; go_at_call 195; refine (CQ.out _ (by exact HB3.out) (by exact HA3.out) (by simp; omega)).mono ?_; rintro _ w4 ⟨A4, c4, rfl, hr4, hb4, o4⟩; have q4 : Off g g w3 w4 := (show Off g g w3 w3.drew from Off.of ((Below.refl _ _).drew)).trans o4; have HS4 := hid (q4.box HS3.out (by simp [cellsT]) (by omega) (by omega)); have kd4 : w4.cell? ⟨h, 1, none⟩ = some (.int .i64 dim) := (HS4.out 1 _ rfl).1; have HB4 := hid hb4; have HR4 := hid hr4; clear hb4 hr4) | (go_simp; go_at_call 196; refine (CS.out _ (by exact HB4.out) (by exact HA3.out.below (q4.below (Nat.le_refl _) (Nat.le_refl _) (by omega))) (by exact Nat.lt_of_lt_of_le (by omega) q4.size)).mono ?_; rintro _ w5 ⟨A5, c5, rfl, hr5, hb5, o5⟩; have q5 := q4.trans o5; have HS5 := hid (o5.box HS4.out (by simp [cellsT]) (by omega) (by omega)); have kc : w5.cell? ⟨h, 6, none⟩ = some (.slice none 0 0) := (HS5.out 6 _ rfl).1; have ke : w5.cell? ⟨h, 7, none⟩ = some (.slice none 0 0) := (HS5.out 7 _ rfl).1; have kf : w5.frozen? ⟨h, 6, none⟩ = false := (HS5.out 6 _ rfl).2; have kg : w5.frozen? ⟨h, 7, none⟩ = false := (HS5.out 7 _ rfl).2; have HB5 := hid hb5; have HR5 := hid (hr5.less (Nat.le_trans hz3 q4.size)); have HR45 := hid ((HR4.out.off o5 (by have := q4.size; simp; omega) (by have := q4.size; simp; omega)).less (show w.heap.size ≤ _ by simp; omega)); clear hb5 hr5))) | fail
  all_goals
    have hw := (Off.setR (g := g) (h := h) (w := w5) 6 (.slice A4 L.length c4)).trans (Off.setR 7 (.slice A5 G.length c5))
    go_end0
    exact ⟨rfl, ⟨⟨none, 0, none, 0, A4, c4, A5, c5⟩, (BoxL.one HS5.out (k := 6) rfl _).one (k := 7) rfl _, RdF.nil _ _, RdF.nil _ _, HR45.out.off hw (by omega) (by omega), HR5.out.off hw (by omega) (by omega)⟩, BoxL.other (BoxL.other HB5.out (p := ⟨h, 6, none⟩) (by simp; omega) _) (p := ⟨h, 7, none⟩) (by simp; omega) _, (q3.trans q5.left).trans hw⟩
end Go.Proofs.YtecgbelgoomneaaGreat
