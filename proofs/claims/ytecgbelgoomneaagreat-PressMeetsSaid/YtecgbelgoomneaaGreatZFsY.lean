
/- ZFsY: texts joined: FsY. -/
import Derived.Test.YtecgbelgoomneaaGreatZh
import Derived.Test.YtecgbelgoomneaaGreatZc
import Derived.Deep.MidRow
/- The program's reader: a frame. -/
namespace Go.Proofs.YtecgbelgoomneaaGreat
open Go.RowKit
set_option maxHeartbeats 4000000
set_option maxRecDepth 100000
set_option linter.unusedVariables false
def lay8o (w : World) (k : Nat) (s : SentV) (p : SentP) : World := ((((((((w.setCell ⟨k, 3, none⟩ (.int .i64 s.sch)).setCell ⟨k, 4, none⟩ (.int .i64 s.dim)).setCell ⟨k, 5, none⟩ (.slice p.AL s.L.length p.cL)).setCell ⟨k, 6, none⟩ (.slice p.AV s.V.length p.cV)).setCell ⟨k, 7, none⟩ (.int .i64 s.scale)).setCell ⟨k, 8, none⟩ (.int .i64 s.wide)).setCell ⟨k, 9, none⟩ (.slice p.AE s.lev.length p.cE)).setCell ⟨k, 10, none⟩ (.slice p.AN s.neg.length p.cN))
theorem lay8o_off (w : World) (k : Nat) (s : SentV) (p : SentP) : Off k k w (lay8o w k s p) := (((((((Off.set 3 _).trans (Off.set 4 _)).trans (Off.set 5 _)).trans (Off.set 6 _)).trans (Off.set 7 _)).trans (Off.set 8 _)).trans (Off.set 9 _)).trans (Off.set 10 _)
theorem lay8o_box {w : World} {k : Nat} {K F T : Int} (hb : BoxL w k (cellsG ⟨K, F, T, zeroS⟩ bareP)) (s : SentV) (p : SentP) : BoxL (lay8o w k s p) k (cellsG ⟨K, F, T, s⟩ p) := (((((((BoxL.one hb (k := 3) rfl _).one (k := 4) rfl _).one (k := 5) rfl _).one (k := 6) rfl _).one (k := 7) rfl _).one (k := 8) rfl _).one (k := 9) rfl _).one (k := 10) rfl _
def lay11 (w : World) (k : Nat) (f : FrameV) (p : SentP) : World := (((((((((((w.setCell ⟨k, 0, none⟩ (.int .i64 f.knd)).setCell ⟨k, 1, none⟩ (.int .i64 f.frm)).setCell ⟨k, 2, none⟩ (.int .i64 f.stp)).setCell ⟨k, 3, none⟩ (.int .i64 f.S.sch)).setCell ⟨k, 4, none⟩ (.int .i64 f.S.dim)).setCell ⟨k, 5, none⟩ (.slice p.AL f.S.L.length p.cL)).setCell ⟨k, 6, none⟩ (.slice p.AV f.S.V.length p.cV)).setCell ⟨k, 7, none⟩ (.int .i64 f.S.scale)).setCell ⟨k, 8, none⟩ (.int .i64 f.S.wide)).setCell ⟨k, 9, none⟩ (.slice p.AE f.S.lev.length p.cE)).setCell ⟨k, 10, none⟩ (.slice p.AN f.S.neg.length p.cN))
theorem lay11_off (w : World) (k : Nat) (f : FrameV) (p : SentP) : Off k k w (lay11 w k f p) := ((((((((((Off.set 0 _).trans (Off.set 1 _)).trans (Off.set 2 _)).trans (Off.set 3 _)).trans (Off.set 4 _)).trans (Off.set 5 _)).trans (Off.set 6 _)).trans (Off.set 7 _)).trans (Off.set 8 _)).trans (Off.set 9 _)).trans (Off.set 10 _)
theorem lay11_box {w : World} {k : Nat} {f0 : FrameV} {p0 : SentP} (hb : BoxL w k (cellsG f0 p0)) (f : FrameV) (p : SentP) : BoxL (lay11 w k f p) k (cellsG f p) := ((((((((((BoxL.one hb (k := 0) rfl _).one (k := 1) rfl _).one (k := 2) rfl _).one (k := 3) rfl _).one (k := 4) rfl _).one (k := 5) rfl _).one (k := 6) rfl _).one (k := 7) rfl _).one (k := 8) rfl _).one (k := 9) rfl _).one (k := 10) rfl _
theorem wpList_st {P : Program} {ops : Array Oper} {rest : List Oper} {op : Oper} {a : Act} {w : World} {Q : Exit → Act → World → Prop} (hgd : op.guard = none) (ty : TypeId) (x y : Operand) (ho : op.op = .store ty x y)
    (b o : Nat) (cells : Array Value) (hx : a.eval x = .pointer (some ⟨b, o, none⟩)) (hy : a.eval y = .agg cells)
    (ht : w.there b o cells.size) (hi : (P.info? ty).map (·.size) = some cells.size) (h1 : cells.all (·.oneCell') = true)
    (h : ∀ W', Hid (W' = w.setCells b o cells.toList) → wpList P ops Q rest (a.put op.dst undef) W') : wpList P ops Q (op :: rest) a w :=
  wpList_store_mid hgd ty x y ho b o cells hx hy ht hi h1 (h _ (hid rfl))
theorem box_there {w : World} {k o n : Nat} {vs : List Value} (hb : BoxL w k vs) (h : o + n ≤ vs.length) : w.there k o n := fun j hj => by
  have hv := hb (o + j) _ (List.getElem?_eq_getElem (by omega))
  exact ⟨by rw [hv.1]; rfl, hv.2⟩
theorem info_sent : (Tryz.prog.info? 32).map (·.size) = some 8 := by kernel_rfl
theorem info_frame : (Tryz.prog.info? 54).map (·.size) = some 11 := by kernel_rfl
/-- What a reader of a frame tells, and leaves. -/
def FrmRet (g : Nat) (A : Option Addr) (n c : Nat) (r : FrameV × Rs) (w : World) (e : Ending) (w' : World) : Prop :=
  ∃ p, e = .returned (encF r.1 p) ∧ RdFS w' w.heap.size r.1.S p ∧ RdB w' g A n c r.2 ∧ Off g g w w'
theorem fr_frame {g c : Nat} {A : Option Addr} (o : List Int) (ho : o.length ≤ c) (hc : c ≤ 9223372036854775807) (hol : o.length ≤ 70000) (uo : U8s o) (w : World) (hb : RdB w g A o.length c (0, false)) (ra : Rd (Value.int .u8) w g A o) (hg : g < w.heap.size) :
    Calls Tryz.prog 62 #[.pointer (some ⟨g, 0, none⟩)] w (FrmRet g A o.length c (frm2 o) w) := by
  have CO := hid (fun W (hB : RdB W g A o.length c (0, false)) hR => fr_one (g := g) (A := A) o ho hc hol uo (0, false) (Nat.zero_le _) W hB hR)
  have hle : (one2 o (0, false)).2.1 ≤ o.length := tak_le (Nat.zero_le _)
  unfold frm2
  obtain ⟨M, μ, hM⟩ : ∃ M μ, one2 o (0, false) = (M, μ) := ⟨_, _, rfl⟩
  rw [hM] at CO hle ⊢
  simp only at CO hle ⊢
  obtain ⟨σ, hσ⟩ : ∃ σ : Rs, (μ.1, μ.2 || (M != 1)) = σ := ⟨_, rfl⟩
  have hls : σ.1 ≤ o.length := by rw [← hσ]; exact hle
  have hσ1 : M = 1 → μ = σ := fun e => by rw [← hσ, e]; simp
  have hσ2 : M ≠ 1 → (μ.1, true) = σ := fun e => by rw [← hσ]; simp [e]
  rw [hσ]
  have C1 := hid (fun W hB hR => fr_one (g := g) (A := A) o ho hc hol uo σ hls W hB hR)
  have hl1 : (one2 o σ).2.1 ≤ o.length := tak_le hls
  have C2 := hid (fun W hB hR hz => fr_number (g := g) (A := A) o ho hc hol uo (one2 o σ).2 hl1 W hB hR hz)
  have hl2 : (num2 o (one2 o σ).2).2.1 ≤ o.length := pas_le hl1 (fun he => (get_fwd uo he).2)
  have C3 := hid (fun W hB hR hz => fr_number (g := g) (A := A) o ho hc hol uo (num2 o (one2 o σ).2).2 hl2 W hB hR hz)
  have hl3 : (num2 o (num2 o (one2 o σ).2).2).2.1 ≤ o.length := pas_le hl2 (fun he => (get_fwd uo he).2)
  have C4 := hid (fun W hB hR hz => fr_vector (g := g) (A := A) o ho hc hol uo (num2 o (num2 o (one2 o σ).2).2).2 hl3 W hB hR hz)
  unfold hed2
  obtain ⟨K, κ, hK⟩ : ∃ K κ, one2 o σ = (K, κ) := ⟨_, _, rfl⟩
  rw [hK] at C1 C2 C3 C4 ⊢
  simp only at C1 C2 C3 C4 ⊢
  obtain ⟨F, φ, hF⟩ : ∃ F φ, num2 o κ = (F, φ) := ⟨_, _, rfl⟩
  rw [hF] at C2 C3 C4 ⊢
  simp only at C2 C3 C4 ⊢
  obtain ⟨T, τ, hT⟩ : ∃ T τ, num2 o φ = (T, τ) := ⟨_, _, rfl⟩
  rw [hT] at C3 C4 ⊢
  simp only at C3 C4 ⊢
  unfold bdy2
  obtain ⟨S, ρ, hS⟩ : ∃ S ρ, vec2 o τ = (S, ρ) := ⟨_, _, rfl⟩
  rw [hS] at C4 ⊢
  simp only at ⊢
  have C4' : Hid (∀ W, RdB W g A o.length c τ → Rd (Value.int .u8) W g A o → g < W.heap.size → Calls Tryz.prog 116 #[.pointer (some ⟨g, 0, none⟩)] W fun e w' => ∃ p : SentP, e = .returned (.agg #[.int .i64 S.sch, .int .i64 S.dim, .slice p.AL S.L.length p.cL, .slice p.AV S.V.length p.cV, .int .i64 S.scale, .int .i64 S.wide, .slice p.AE S.lev.length p.cE, .slice p.AN S.neg.length p.cN]) ∧ RdFS w' W.heap.size S p ∧ RdB w' g A o.length c ρ ∧ Off g g W w') := C4
  have g0 := growd w (.cells #[.int .i64 0, .int .i64 0, .int .i64 0, .int .i64 0, .int .i64 0, .slice none 0 0, .slice none 0 0, .int .i64 0, .int .i64 0, .slice none 0 0, .slice none 0 0] 54)
  have HB0 := hid (hb.below g0 hg)
  have HA0 := hid (ra.below (g0.mono (Nat.le_of_lt hg)))
  have HZ0 : Hid (BoxL (w.alloc (.cells #[.int .i64 0, .int .i64 0, .int .i64 0, .int .i64 0, .int .i64 0, .slice none 0 0, .slice none 0 0, .int .i64 0, .int .i64 0, .slice none 0 0, .slice none 0 0] 54)) w.heap.size (cellsG zeroF bareP)) := hid (BoxL.new w _ _)
  have q0 : Off g g w (w.alloc (.cells #[.int .i64 0, .int .i64 0, .int .i64 0, .int .i64 0, .int .i64 0, .slice none 0 0, .slice none 0 0, .int .i64 0, .int .i64 0, .slice none 0 0, .slice none 0 0] 54)) := Off.of g0
  have hz0 : w.heap.size < (w.alloc (.cells #[.int .i64 0, .int .i64 0, .int .i64 0, .int .i64 0, .int .i64 0, .slice none 0 0, .slice none 0 0, .int .i64 0, .int .i64 0, .slice none 0 0, .slice none 0 0] 54)).heap.size := by simp
  clear hb ra hM hσ hK hF hT hS hle hls hl1 hl2 hl3 g0 C4
  have HS1 := hid hσ1
  have HS2 := hid hσ2
  clear hσ1 hσ2
  by_cases hM : M = 1
  · by_cases hK : K = 1
    · have gM : (M != 1) = false := by rw [hM]; rfl
      have HM := hid hM
      clear hM
      have gK : (K == 1) = true := by rw [hK]; rfl
      rw [if_pos hK]
      clear hK
      go_enter Tryz.func62, Tryz.ntmps62
      go_wp2_with fail
      refine (CO.out _ HB0.out HA0.out).mono ?_
      rintro _ v0 ⟨rfl, hb1, o1⟩
      have HA1' := hid (HA0.out.below (o1.below (Nat.le_refl _) (Nat.le_refl _) (by omega)))
      have HZ1' := hid (o1.box HZ0.out (by simp [cellsG]) (by omega) (by omega))
      have q1' := q0.trans o1
      have hz1' : w.heap.size < v0.heap.size := Nat.lt_of_lt_of_le hz0 o1.size
      have HB1 : Hid (RdB v0 g A o.length c σ) := hid (by rw [← HS1.out HM.out]; exact hb1)
      have HA1 := HA1'
      have HZ1 := HZ1'
      have q1 := q1'
      have hz1 := hz1'
      clear hb1 HB0 HA0 HZ0 o1 q0 hz0 CO HA1' HZ1' q1' hz1'
      go_wp2_with fail
      refine (C1.out _ HB1.out HA1.out).mono ?_
      rintro _ w2 ⟨rfl, hb2, o2⟩
      have HB2 := hid hb2
      have HA2 := hid (HA1.out.below (o2.below (Nat.le_refl _) (Nat.le_refl _) (by omega)))
      have HZ2 := hid (o2.box HZ1.out (by simp [cellsG]) (by omega) (by omega))
      have q2 := q1.trans o2
      have hz2 : w.heap.size < w2.heap.size := Nat.lt_of_lt_of_le hz1 o2.size
      clear hb2 HB1 HA1 HZ1 o2 q1 hz1 C1
      go_wp2_with fail
      refine (C2.out _ HB2.out HA2.out (by omega)).mono ?_
      rintro _ w3 ⟨rfl, hb3, o3⟩
      have HB3 := hid hb3
      have HA3 := hid (HA2.out.below (o3.below (Nat.le_refl _) (Nat.le_refl _) (by omega)))
      have HZ3 := hid (o3.box HZ2.out (by simp [cellsG]) (by omega) (by omega))
      have q3 := q2.trans o3
      have hz3 : w.heap.size < w3.heap.size := Nat.lt_of_lt_of_le hz2 o3.size
      clear hb3 HB2 HA2 HZ2 o3 q2 hz2 C2
      go_wp2_with fail
      refine (C3.out _ HB3.out HA3.out (by omega)).mono ?_
      rintro _ w4 ⟨rfl, hb4, o4⟩
      have HB4 := hid hb4
      have HA4 := hid (HA3.out.below (o4.below (Nat.le_refl _) (Nat.le_refl _) (by omega)))
      have HZ4 := hid (o4.box HZ3.out (by simp [cellsG]) (by omega) (by omega))
      have q4 := q3.trans o4
      have hz4 : w.heap.size < w4.heap.size := Nat.lt_of_lt_of_le hz3 o4.size
      clear hb4 HB3 HA3 HZ3 o4 q3 hz3 C3
      have g4 := growd w4 (.cells #[.int .i64 K, .int .i64 F, .int .i64 T, .int .i64 0, .int .i64 0, .slice none 0 0, .slice none 0 0, .int .i64 0, .int .i64 0, .slice none 0 0, .slice none 0 0] 54)
      have HN5 : Hid (BoxL (w4.alloc (.cells #[.int .i64 K, .int .i64 F, .int .i64 T, .int .i64 0, .int .i64 0, .slice none 0 0, .slice none 0 0, .int .i64 0, .int .i64 0, .slice none 0 0, .slice none 0 0] 54)) w4.heap.size (cellsG ⟨K, F, T, zeroS⟩ bareP)) := hid (BoxL.new w4 _ _)
      have HB5 := hid (HB4.out.below g4 (by omega))
      have HZ5 := hid (HZ4.out.below g4 hz4)
      have HA5 := hid (HA4.out.below (g4.mono (by omega)))
      have q5 : Off g g w (w4.alloc (.cells #[.int .i64 K, .int .i64 F, .int .i64 T, .int .i64 0, .int .i64 0, .slice none 0 0, .slice none 0 0, .int .i64 0, .int .i64 0, .slice none 0 0, .slice none 0 0] 54)) := q4.trans (Off.of g4)
      have C5 := hid (C4'.out _ HB5.out HA5.out (by simp; omega))
      have hs5 : (w4.alloc (.cells #[.int .i64 K, .int .i64 F, .int .i64 T, .int .i64 0, .int .i64 0, .slice none 0 0, .slice none 0 0, .int .i64 0, .int .i64 0, .slice none 0 0, .slice none 0 0] 54)).heap.size = w4.heap.size + 1 := World.size_alloc _ _
      clear HA4 C4' g4
      go_wp2_with fail
      refine C5.out.mono ?_
      rintro _ w6 ⟨p, rfl, hr6, hb6, o6⟩
      rw [hs5] at hr6
      have hn6 := o6.box HN5.out (by simp [cellsG]) (by omega) (by omega)
      have hzz := o6.box HZ5.out (by simp [cellsG]) (by omega) (by omega)
      have hT8 := hid (box_there (o := 3) (n := 8) hn6 (by simp [cellsG]))
      have HG6 := hid (And.intro hr6 (And.intro hb6 (And.intro (q5.trans o6) (And.intro hn6 hzz))))
      clear hs5 hr6 hb6 o6 q5 q4 hn6 hzz HZ5 HN5 HB5 HA5 HZ4 HB4 C5 gK gM
      go_wp2_with (refine wpList_st rfl 32 _ _ rfl w4.heap.size 3 #[.int .i64 S.sch, .int .i64 S.dim, .slice p.AL S.L.length p.cL, .slice p.AV S.V.length p.cV, .int .i64 S.scale, .int .i64 S.wide, .slice p.AE S.lev.length p.cE, .slice p.AN S.neg.length p.cN] rfl rfl hT8.out info_sent (by simp [Value.oneCell']) ?_)
      intro W7 hW7
      have HG7 : Hid (BoxL W7 w4.heap.size (cellsG ⟨K, F, T, S⟩ p) ∧ BoxL W7 w.heap.size (cellsG zeroF bareP) ∧ RdB W7 g A o.length c ρ ∧ Off g g w W7 ∧ RdFS W7 (w4.heap.size + 1) S p) := hid (by
        rw [hW7.out]
        obtain ⟨hr6, hb6, q6, hn6, hzz⟩ := HG6.out
        have oa := lay8o_off w6 w4.heap.size S p
        have e1 : w4.heap.size < w4.heap.size + 1 := by omega
        exact ⟨lay8o_box hn6 S p, oa.box hzz (by simp [cellsG]) (by omega) (by omega), oa.box hb6 (by simp) (by omega) (by omega), q6.thenS oa (by omega), hr6.1.off oa e1 e1, hr6.2.1.off oa e1 e1, hr6.2.2.1.off oa e1 e1, hr6.2.2.2.off oa e1 e1⟩)
      clear hW7 HG6 hT8
      obtain ⟨⟨k0, k1, k2, k3, k4, k5, k6, k7, k8, k9, k10⟩, _⟩ := box_G HG7.out.1
      have hT11 := hid (box_there (o := 0) (n := 11) HG7.out.2.1 (by simp [cellsG]))
      go_wp2_with (refine wpList_st rfl 54 _ _ rfl w.heap.size 0 #[.int .i64 K, .int .i64 F, .int .i64 T, .int .i64 S.sch, .int .i64 S.dim, .slice p.AL S.L.length p.cL, .slice p.AV S.V.length p.cV, .int .i64 S.scale, .int .i64 S.wide, .slice p.AE S.lev.length p.cE, .slice p.AN S.neg.length p.cN] rfl rfl hT11.out info_frame (by simp [Value.oneCell']) ?_)
      intro W8 hW8
      have HG8 : Hid (BoxL W8 w.heap.size (cellsG ⟨K, F, T, S⟩ p) ∧ RdB W8 g A o.length c ρ ∧ Off g g w W8 ∧ RdFS W8 w.heap.size S p) := hid (by
        rw [hW8.out]
        obtain ⟨_, hz7, hb7, q7, hr7⟩ := HG7.out
        have ob := lay11_off W7 w.heap.size ⟨K, F, T, S⟩ p
        have e2 : w.heap.size < w4.heap.size + 1 := by omega
        have e3 : w.heap.size ≤ w4.heap.size + 1 := by omega
        exact ⟨lay11_box hz7 ⟨K, F, T, S⟩ p, ob.box hb7 (by simp) (by omega) (by omega), q7.thenS ob (Nat.le_refl _), (hr7.1.off ob e2 e2).less e3, (hr7.2.1.off ob e2 e2).less e3, (hr7.2.2.1.off ob e2 e2).less e3, (hr7.2.2.2.off ob e2 e2).less e3⟩)
      clear hW8 HG7 hT11 k0 k1 k2 k3 k4 k5 k6 k7 k8 k9 k10
      obtain ⟨⟨z0, z1, z2, z3, z4, z5, z6, z7, z8, z9, z10⟩, _⟩ := box_G HG8.out.1
      go_wp2_with fail
      refine bodyPost_ret (v := encF ⟨K, F, T, S⟩ p) (by simp [results, Tryz.results62, go_sem, z0, z1, z2, z3, z4, z5, z6, z7, z8, z9, z10]) rfl ⟨p, rfl, HG8.out.2.2.2, HG8.out.2.1, HG8.out.2.2.1⟩
    · have gM : (M != 1) = false := by rw [hM]; rfl
      have HM := hid hM
      clear hM
      have gK : (K == 1) = false := by simpa using hK
      rw [if_neg hK]
      clear hK
      go_enter Tryz.func62, Tryz.ntmps62
      go_wp2_with fail
      refine (CO.out _ HB0.out HA0.out).mono ?_
      rintro _ v0 ⟨rfl, hb1, o1⟩
      have HA1' := hid (HA0.out.below (o1.below (Nat.le_refl _) (Nat.le_refl _) (by omega)))
      have HZ1' := hid (o1.box HZ0.out (by simp [cellsG]) (by omega) (by omega))
      have q1' := q0.trans o1
      have hz1' : w.heap.size < v0.heap.size := Nat.lt_of_lt_of_le hz0 o1.size
      have HB1 : Hid (RdB v0 g A o.length c σ) := hid (by rw [← HS1.out HM.out]; exact hb1)
      have HA1 := HA1'
      have HZ1 := HZ1'
      have q1 := q1'
      have hz1 := hz1'
      clear hb1 HB0 HA0 HZ0 o1 q0 hz0 CO HA1' HZ1' q1' hz1'
      go_wp2_with fail
      refine (C1.out _ HB1.out HA1.out).mono ?_
      rintro _ w2 ⟨rfl, hb2, o2⟩
      have HB2 := hid hb2
      have HA2 := hid (HA1.out.below (o2.below (Nat.le_refl _) (Nat.le_refl _) (by omega)))
      have HZ2 := hid (o2.box HZ1.out (by simp [cellsG]) (by omega) (by omega))
      have q2 := q1.trans o2
      have hz2 : w.heap.size < w2.heap.size := Nat.lt_of_lt_of_le hz1 o2.size
      clear hb2 HB1 HA1 HZ1 o2 q1 hz1 C1
      go_wp2_with fail
      refine (C2.out _ HB2.out HA2.out (by omega)).mono ?_
      rintro _ w3 ⟨rfl, hb3, o3⟩
      have HB3 := hid hb3
      have HA3 := hid (HA2.out.below (o3.below (Nat.le_refl _) (Nat.le_refl _) (by omega)))
      have HZ3 := hid (o3.box HZ2.out (by simp [cellsG]) (by omega) (by omega))
      have q3 := q2.trans o3
      have hz3 : w.heap.size < w3.heap.size := Nat.lt_of_lt_of_le hz2 o3.size
      clear hb3 HB2 HA2 HZ2 o3 q2 hz2 C2
      go_wp2_with fail
      refine (C3.out _ HB3.out HA3.out (by omega)).mono ?_
      rintro _ w4 ⟨rfl, hb4, o4⟩
      have HB4 := hid hb4
      have HA4 := hid (HA3.out.below (o4.below (Nat.le_refl _) (Nat.le_refl _) (by omega)))
      have HZ4 := hid (o4.box HZ3.out (by simp [cellsG]) (by omega) (by omega))
      have q4 := q3.trans o4
      have hz4 : w.heap.size < w4.heap.size := Nat.lt_of_lt_of_le hz3 o4.size
      clear hb4 HB3 HA3 HZ3 o4 q3 hz3 C3
      have g4 := growd w4 (.cells #[.int .i64 K, .int .i64 F, .int .i64 T, .int .i64 0, .int .i64 0, .slice none 0 0, .slice none 0 0, .int .i64 0, .int .i64 0, .slice none 0 0, .slice none 0 0] 54)
      have HN5 : Hid (BoxL (w4.alloc (.cells #[.int .i64 K, .int .i64 F, .int .i64 T, .int .i64 0, .int .i64 0, .slice none 0 0, .slice none 0 0, .int .i64 0, .int .i64 0, .slice none 0 0, .slice none 0 0] 54)) w4.heap.size (cellsG ⟨K, F, T, zeroS⟩ bareP)) := hid (BoxL.new w4 _ _)
      have HB5 := hid (HB4.out.below g4 (by omega))
      have HZ5 := hid (HZ4.out.below g4 hz4)
      have q5 : Off g g w (w4.alloc (.cells #[.int .i64 K, .int .i64 F, .int .i64 T, .int .i64 0, .int .i64 0, .slice none 0 0, .slice none 0 0, .int .i64 0, .int .i64 0, .slice none 0 0, .slice none 0 0] 54)) := q4.trans (Off.of g4)
      have HG7 := hid (And.intro HZ5.out (And.intro HB5.out q5))
      obtain ⟨⟨k0, k1, k2, k3, k4, k5, k6, k7, k8, k9, k10⟩, _⟩ := box_G HN5.out
      have hT11 := hid (box_there (o := 0) (n := 11) HZ5.out (by simp [cellsG]))
      clear k0 k1 k2 k3 k4 k5 k6 k7 k8 k9 k10 q5 q4 HZ5 HN5 HB5 HZ4 HB4 HA4 C4' g4 gM
      go_wp2_with (refine wpList_st rfl 54 _ _ rfl w.heap.size 0 #[.int .i64 K, .int .i64 F, .int .i64 T, .int .i64 0, .int .i64 0, .slice none 0 0, .slice none 0 0, .int .i64 0, .int .i64 0, .slice none 0 0, .slice none 0 0] rfl rfl hT11.out info_frame (by simp [Value.oneCell']) ?_)
      intro W8 hW8
      have HG8 : Hid (BoxL W8 w.heap.size (cellsG ⟨K, F, T, zeroS⟩ bareP) ∧ RdB W8 g A o.length c τ ∧ Off g g w W8 ∧ RdFS W8 w.heap.size zeroS bareP) := hid (by
        rw [hW8.out]
        obtain ⟨hz7, hb7, q7⟩ := HG7.out
        have ob := lay11_off (w4.alloc (.cells #[.int .i64 K, .int .i64 F, .int .i64 T, .int .i64 0, .int .i64 0, .slice none 0 0, .slice none 0 0, .int .i64 0, .int .i64 0, .slice none 0 0, .slice none 0 0] 54)) w.heap.size ⟨K, F, T, zeroS⟩ bareP
        exact ⟨lay11_box hz7 ⟨K, F, T, zeroS⟩ bareP, ob.box hb7 (by simp) (by omega) (by omega), q7.thenS ob (Nat.le_refl _), RdF.nil _ _, RdF.nil _ _, RdF.nil _ _, RdF.nil _ _⟩)
      clear hW8 HG7 hT11
      obtain ⟨⟨z0, z1, z2, z3, z4, z5, z6, z7, z8, z9, z10⟩, _⟩ := box_G HG8.out.1
      go_wp2_with fail
      refine bodyPost_ret (v := encF ⟨K, F, T, zeroS⟩ bareP) (by simp [results, Tryz.results62, go_sem, z0, z1, z2, z3, z4, z5, z6, z7, z8, z9, z10, zeroS, bareP]) rfl ⟨bareP, rfl, HG8.out.2.2.2, HG8.out.2.1, HG8.out.2.2.1⟩
  · by_cases hK : K = 1
    · have gM : (M != 1) = true := by simpa using hM
      have HM := hid hM
      clear hM
      have gK : (K == 1) = true := by rw [hK]; rfl
      rw [if_pos hK]
      clear hK
      go_enter Tryz.func62, Tryz.ntmps62
      go_wp2_with fail
      refine (CO.out _ HB0.out HA0.out).mono ?_
      rintro _ v0 ⟨rfl, hb1, o1⟩
      have HA1' := hid (HA0.out.below (o1.below (Nat.le_refl _) (Nat.le_refl _) (by omega)))
      have HZ1' := hid (o1.box HZ0.out (by simp [cellsG]) (by omega) (by omega))
      have q1' := q0.trans o1
      have hz1' : w.heap.size < v0.heap.size := Nat.lt_of_lt_of_le hz0 o1.size
      have HB1 : Hid (RdB (v0.setCell ⟨g, 2, none⟩ (.bool true)) g A o.length c σ) := hid (by rw [← HS2.out HM.out]; exact BoxL.one hb1 (k := 2) rfl _)
      have HA1 : Hid (Rd (Value.int .u8) (v0.setCell ⟨g, 2, none⟩ (.bool true)) g A o) := hid (HA1'.out.below ((Off.set (g := g) 2 _).below (Nat.le_refl _) (Nat.le_refl _) (by omega)))
      have HZ1 : Hid (BoxL (v0.setCell ⟨g, 2, none⟩ (.bool true)) w.heap.size (cellsG zeroF bareP)) := hid ((Off.set (g := g) 2 _).box HZ1'.out (by simp [cellsG]) (by omega) (by omega))
      have q1 : Off g g w (v0.setCell ⟨g, 2, none⟩ (.bool true)) := q1'.trans (Off.set 2 _)
      have hz1 : w.heap.size < (v0.setCell ⟨g, 2, none⟩ (.bool true)).heap.size := by rw [World.size_setCell]; exact hz1'
      have k2 := (hb1 2 _ rfl).1
      have y2 := (hb1 2 _ rfl).2
      clear hb1 HB0 HA0 HZ0 o1 q0 hz0 CO HA1' HZ1' q1' hz1'
      go_wp2_with fail
      clear k2 y2
      generalize (v0.setCell ⟨g, 2, none⟩ (.bool true)) = v1 at HB1 HA1 HZ1 q1 hz1 ⊢
      refine (C1.out _ HB1.out HA1.out).mono ?_
      rintro _ w2 ⟨rfl, hb2, o2⟩
      have HB2 := hid hb2
      have HA2 := hid (HA1.out.below (o2.below (Nat.le_refl _) (Nat.le_refl _) (by omega)))
      have HZ2 := hid (o2.box HZ1.out (by simp [cellsG]) (by omega) (by omega))
      have q2 := q1.trans o2
      have hz2 : w.heap.size < w2.heap.size := Nat.lt_of_lt_of_le hz1 o2.size
      clear hb2 HB1 HA1 HZ1 o2 q1 hz1 C1
      go_wp2_with fail
      refine (C2.out _ HB2.out HA2.out (by omega)).mono ?_
      rintro _ w3 ⟨rfl, hb3, o3⟩
      have HB3 := hid hb3
      have HA3 := hid (HA2.out.below (o3.below (Nat.le_refl _) (Nat.le_refl _) (by omega)))
      have HZ3 := hid (o3.box HZ2.out (by simp [cellsG]) (by omega) (by omega))
      have q3 := q2.trans o3
      have hz3 : w.heap.size < w3.heap.size := Nat.lt_of_lt_of_le hz2 o3.size
      clear hb3 HB2 HA2 HZ2 o3 q2 hz2 C2
      go_wp2_with fail
      refine (C3.out _ HB3.out HA3.out (by omega)).mono ?_
      rintro _ w4 ⟨rfl, hb4, o4⟩
      have HB4 := hid hb4
      have HA4 := hid (HA3.out.below (o4.below (Nat.le_refl _) (Nat.le_refl _) (by omega)))
      have HZ4 := hid (o4.box HZ3.out (by simp [cellsG]) (by omega) (by omega))
      have q4 := q3.trans o4
      have hz4 : w.heap.size < w4.heap.size := Nat.lt_of_lt_of_le hz3 o4.size
      clear hb4 HB3 HA3 HZ3 o4 q3 hz3 C3
      have g4 := growd w4 (.cells #[.int .i64 K, .int .i64 F, .int .i64 T, .int .i64 0, .int .i64 0, .slice none 0 0, .slice none 0 0, .int .i64 0, .int .i64 0, .slice none 0 0, .slice none 0 0] 54)
      have HN5 : Hid (BoxL (w4.alloc (.cells #[.int .i64 K, .int .i64 F, .int .i64 T, .int .i64 0, .int .i64 0, .slice none 0 0, .slice none 0 0, .int .i64 0, .int .i64 0, .slice none 0 0, .slice none 0 0] 54)) w4.heap.size (cellsG ⟨K, F, T, zeroS⟩ bareP)) := hid (BoxL.new w4 _ _)
      have HB5 := hid (HB4.out.below g4 (by omega))
      have HZ5 := hid (HZ4.out.below g4 hz4)
      have HA5 := hid (HA4.out.below (g4.mono (by omega)))
      have q5 : Off g g w (w4.alloc (.cells #[.int .i64 K, .int .i64 F, .int .i64 T, .int .i64 0, .int .i64 0, .slice none 0 0, .slice none 0 0, .int .i64 0, .int .i64 0, .slice none 0 0, .slice none 0 0] 54)) := q4.trans (Off.of g4)
      have C5 := hid (C4'.out _ HB5.out HA5.out (by simp; omega))
      have hs5 : (w4.alloc (.cells #[.int .i64 K, .int .i64 F, .int .i64 T, .int .i64 0, .int .i64 0, .slice none 0 0, .slice none 0 0, .int .i64 0, .int .i64 0, .slice none 0 0, .slice none 0 0] 54)).heap.size = w4.heap.size + 1 := World.size_alloc _ _
      clear HA4 C4' g4
      go_wp2_with fail
      refine C5.out.mono ?_
      rintro _ w6 ⟨p, rfl, hr6, hb6, o6⟩
      rw [hs5] at hr6
      have hn6 := o6.box HN5.out (by simp [cellsG]) (by omega) (by omega)
      have hzz := o6.box HZ5.out (by simp [cellsG]) (by omega) (by omega)
      have hT8 := hid (box_there (o := 3) (n := 8) hn6 (by simp [cellsG]))
      have HG6 := hid (And.intro hr6 (And.intro hb6 (And.intro (q5.trans o6) (And.intro hn6 hzz))))
      clear hs5 hr6 hb6 o6 q5 q4 hn6 hzz HZ5 HN5 HB5 HA5 HZ4 HB4 C5 gK gM
      go_wp2_with (refine wpList_st rfl 32 _ _ rfl w4.heap.size 3 #[.int .i64 S.sch, .int .i64 S.dim, .slice p.AL S.L.length p.cL, .slice p.AV S.V.length p.cV, .int .i64 S.scale, .int .i64 S.wide, .slice p.AE S.lev.length p.cE, .slice p.AN S.neg.length p.cN] rfl rfl hT8.out info_sent (by simp [Value.oneCell']) ?_)
      intro W7 hW7
      have HG7 : Hid (BoxL W7 w4.heap.size (cellsG ⟨K, F, T, S⟩ p) ∧ BoxL W7 w.heap.size (cellsG zeroF bareP) ∧ RdB W7 g A o.length c ρ ∧ Off g g w W7 ∧ RdFS W7 (w4.heap.size + 1) S p) := hid (by
        rw [hW7.out]
        obtain ⟨hr6, hb6, q6, hn6, hzz⟩ := HG6.out
        have oa := lay8o_off w6 w4.heap.size S p
        have e1 : w4.heap.size < w4.heap.size + 1 := by omega
        exact ⟨lay8o_box hn6 S p, oa.box hzz (by simp [cellsG]) (by omega) (by omega), oa.box hb6 (by simp) (by omega) (by omega), q6.thenS oa (by omega), hr6.1.off oa e1 e1, hr6.2.1.off oa e1 e1, hr6.2.2.1.off oa e1 e1, hr6.2.2.2.off oa e1 e1⟩)
      clear hW7 HG6 hT8
      obtain ⟨⟨k0, k1, k2, k3, k4, k5, k6, k7, k8, k9, k10⟩, _⟩ := box_G HG7.out.1
      have hT11 := hid (box_there (o := 0) (n := 11) HG7.out.2.1 (by simp [cellsG]))
      go_wp2_with (refine wpList_st rfl 54 _ _ rfl w.heap.size 0 #[.int .i64 K, .int .i64 F, .int .i64 T, .int .i64 S.sch, .int .i64 S.dim, .slice p.AL S.L.length p.cL, .slice p.AV S.V.length p.cV, .int .i64 S.scale, .int .i64 S.wide, .slice p.AE S.lev.length p.cE, .slice p.AN S.neg.length p.cN] rfl rfl hT11.out info_frame (by simp [Value.oneCell']) ?_)
      intro W8 hW8
      have HG8 : Hid (BoxL W8 w.heap.size (cellsG ⟨K, F, T, S⟩ p) ∧ RdB W8 g A o.length c ρ ∧ Off g g w W8 ∧ RdFS W8 w.heap.size S p) := hid (by
        rw [hW8.out]
        obtain ⟨_, hz7, hb7, q7, hr7⟩ := HG7.out
        have ob := lay11_off W7 w.heap.size ⟨K, F, T, S⟩ p
        have e2 : w.heap.size < w4.heap.size + 1 := by omega
        have e3 : w.heap.size ≤ w4.heap.size + 1 := by omega
        exact ⟨lay11_box hz7 ⟨K, F, T, S⟩ p, ob.box hb7 (by simp) (by omega) (by omega), q7.thenS ob (Nat.le_refl _), (hr7.1.off ob e2 e2).less e3, (hr7.2.1.off ob e2 e2).less e3, (hr7.2.2.1.off ob e2 e2).less e3, (hr7.2.2.2.off ob e2 e2).less e3⟩)
      clear hW8 HG7 hT11 k0 k1 k2 k3 k4 k5 k6 k7 k8 k9 k10
      obtain ⟨⟨z0, z1, z2, z3, z4, z5, z6, z7, z8, z9, z10⟩, _⟩ := box_G HG8.out.1
      go_wp2_with fail
      refine bodyPost_ret (v := encF ⟨K, F, T, S⟩ p) (by simp [results, Tryz.results62, go_sem, z0, z1, z2, z3, z4, z5, z6, z7, z8, z9, z10]) rfl ⟨p, rfl, HG8.out.2.2.2, HG8.out.2.1, HG8.out.2.2.1⟩
    · have gM : (M != 1) = true := by simpa using hM
      have HM := hid hM
      clear hM
      have gK : (K == 1) = false := by simpa using hK
      rw [if_neg hK]
      clear hK
      go_enter Tryz.func62, Tryz.ntmps62
      go_wp2_with fail
      refine (CO.out _ HB0.out HA0.out).mono ?_
      rintro _ v0 ⟨rfl, hb1, o1⟩
      have HA1' := hid (HA0.out.below (o1.below (Nat.le_refl _) (Nat.le_refl _) (by omega)))
      have HZ1' := hid (o1.box HZ0.out (by simp [cellsG]) (by omega) (by omega))
      have q1' := q0.trans o1
      have hz1' : w.heap.size < v0.heap.size := Nat.lt_of_lt_of_le hz0 o1.size
      have HB1 : Hid (RdB (v0.setCell ⟨g, 2, none⟩ (.bool true)) g A o.length c σ) := hid (by rw [← HS2.out HM.out]; exact BoxL.one hb1 (k := 2) rfl _)
      have HA1 : Hid (Rd (Value.int .u8) (v0.setCell ⟨g, 2, none⟩ (.bool true)) g A o) := hid (HA1'.out.below ((Off.set (g := g) 2 _).below (Nat.le_refl _) (Nat.le_refl _) (by omega)))
      have HZ1 : Hid (BoxL (v0.setCell ⟨g, 2, none⟩ (.bool true)) w.heap.size (cellsG zeroF bareP)) := hid ((Off.set (g := g) 2 _).box HZ1'.out (by simp [cellsG]) (by omega) (by omega))
      have q1 : Off g g w (v0.setCell ⟨g, 2, none⟩ (.bool true)) := q1'.trans (Off.set 2 _)
      have hz1 : w.heap.size < (v0.setCell ⟨g, 2, none⟩ (.bool true)).heap.size := by rw [World.size_setCell]; exact hz1'
      have k2 := (hb1 2 _ rfl).1
      have y2 := (hb1 2 _ rfl).2
      clear hb1 HB0 HA0 HZ0 o1 q0 hz0 CO HA1' HZ1' q1' hz1'
      go_wp2_with fail
      clear k2 y2
      generalize (v0.setCell ⟨g, 2, none⟩ (.bool true)) = v1 at HB1 HA1 HZ1 q1 hz1 ⊢
      refine (C1.out _ HB1.out HA1.out).mono ?_
      rintro _ w2 ⟨rfl, hb2, o2⟩
      have HB2 := hid hb2
      have HA2 := hid (HA1.out.below (o2.below (Nat.le_refl _) (Nat.le_refl _) (by omega)))
      have HZ2 := hid (o2.box HZ1.out (by simp [cellsG]) (by omega) (by omega))
      have q2 := q1.trans o2
      have hz2 : w.heap.size < w2.heap.size := Nat.lt_of_lt_of_le hz1 o2.size
      clear hb2 HB1 HA1 HZ1 o2 q1 hz1 C1
      go_wp2_with fail
      refine (C2.out _ HB2.out HA2.out (by omega)).mono ?_
      rintro _ w3 ⟨rfl, hb3, o3⟩
      have HB3 := hid hb3
      have HA3 := hid (HA2.out.below (o3.below (Nat.le_refl _) (Nat.le_refl _) (by omega)))
      have HZ3 := hid (o3.box HZ2.out (by simp [cellsG]) (by omega) (by omega))
      have q3 := q2.trans o3
      have hz3 : w.heap.size < w3.heap.size := Nat.lt_of_lt_of_le hz2 o3.size
      clear hb3 HB2 HA2 HZ2 o3 q2 hz2 C2
      go_wp2_with fail
      refine (C3.out _ HB3.out HA3.out (by omega)).mono ?_
      rintro _ w4 ⟨rfl, hb4, o4⟩
      have HB4 := hid hb4
      have HA4 := hid (HA3.out.below (o4.below (Nat.le_refl _) (Nat.le_refl _) (by omega)))
      have HZ4 := hid (o4.box HZ3.out (by simp [cellsG]) (by omega) (by omega))
      have q4 := q3.trans o4
      have hz4 : w.heap.size < w4.heap.size := Nat.lt_of_lt_of_le hz3 o4.size
      clear hb4 HB3 HA3 HZ3 o4 q3 hz3 C3
      have g4 := growd w4 (.cells #[.int .i64 K, .int .i64 F, .int .i64 T, .int .i64 0, .int .i64 0, .slice none 0 0, .slice none 0 0, .int .i64 0, .int .i64 0, .slice none 0 0, .slice none 0 0] 54)
      have HN5 : Hid (BoxL (w4.alloc (.cells #[.int .i64 K, .int .i64 F, .int .i64 T, .int .i64 0, .int .i64 0, .slice none 0 0, .slice none 0 0, .int .i64 0, .int .i64 0, .slice none 0 0, .slice none 0 0] 54)) w4.heap.size (cellsG ⟨K, F, T, zeroS⟩ bareP)) := hid (BoxL.new w4 _ _)
      have HB5 := hid (HB4.out.below g4 (by omega))
      have HZ5 := hid (HZ4.out.below g4 hz4)
      have q5 : Off g g w (w4.alloc (.cells #[.int .i64 K, .int .i64 F, .int .i64 T, .int .i64 0, .int .i64 0, .slice none 0 0, .slice none 0 0, .int .i64 0, .int .i64 0, .slice none 0 0, .slice none 0 0] 54)) := q4.trans (Off.of g4)
      have HG7 := hid (And.intro HZ5.out (And.intro HB5.out q5))
      obtain ⟨⟨k0, k1, k2, k3, k4, k5, k6, k7, k8, k9, k10⟩, _⟩ := box_G HN5.out
      have hT11 := hid (box_there (o := 0) (n := 11) HZ5.out (by simp [cellsG]))
      clear k0 k1 k2 k3 k4 k5 k6 k7 k8 k9 k10 q5 q4 HZ5 HN5 HB5 HZ4 HB4 HA4 C4' g4 gM
      go_wp2_with (refine wpList_st rfl 54 _ _ rfl w.heap.size 0 #[.int .i64 K, .int .i64 F, .int .i64 T, .int .i64 0, .int .i64 0, .slice none 0 0, .slice none 0 0, .int .i64 0, .int .i64 0, .slice none 0 0, .slice none 0 0] rfl rfl hT11.out info_frame (by simp [Value.oneCell']) ?_)
      intro W8 hW8
      have HG8 : Hid (BoxL W8 w.heap.size (cellsG ⟨K, F, T, zeroS⟩ bareP) ∧ RdB W8 g A o.length c τ ∧ Off g g w W8 ∧ RdFS W8 w.heap.size zeroS bareP) := hid (by
        rw [hW8.out]
        obtain ⟨hz7, hb7, q7⟩ := HG7.out
        have ob := lay11_off (w4.alloc (.cells #[.int .i64 K, .int .i64 F, .int .i64 T, .int .i64 0, .int .i64 0, .slice none 0 0, .slice none 0 0, .int .i64 0, .int .i64 0, .slice none 0 0, .slice none 0 0] 54)) w.heap.size ⟨K, F, T, zeroS⟩ bareP
        exact ⟨lay11_box hz7 ⟨K, F, T, zeroS⟩ bareP, ob.box hb7 (by simp) (by omega) (by omega), q7.thenS ob (Nat.le_refl _), RdF.nil _ _, RdF.nil _ _, RdF.nil _ _, RdF.nil _ _⟩)
      clear hW8 HG7 hT11
      obtain ⟨⟨z0, z1, z2, z3, z4, z5, z6, z7, z8, z9, z10⟩, _⟩ := box_G HG8.out.1
      go_wp2_with fail
      refine bodyPost_ret (v := encF ⟨K, F, T, zeroS⟩ bareP) (by simp [results, Tryz.results62, go_sem, z0, z1, z2, z3, z4, z5, z6, z7, z8, z9, z10, zeroS, bareP]) rfl ⟨bareP, rfl, HG8.out.2.2.2, HG8.out.2.1, HG8.out.2.2.1⟩
end Go.Proofs.YtecgbelgoomneaaGreat
