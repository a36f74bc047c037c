
/- Zg: texts joined: FsV FsZ. -/
import Derived.Test.YtecgbelgoomneaaGreatZFsU
import Derived.Test.YtecgbelgoomneaaGreatZb
/- The program's reader: places and numbers; a vector; a frame. -/
namespace Go.Proofs.YtecgbelgoomneaaGreat
open Go.RowKit
set_option maxHeartbeats 1000000
set_option maxRecDepth 100000
set_option linter.unusedVariables false
theorem gix_fwd {dim : Int} {o : List Int} (uo : U8s o) {a : Nat} (ha : a ≤ o.length) (h : (gixR dim o a).2.2 = 0) : 0 ≤ (gixR dim o a).2.1 ∧ (gixR dim o a).2.1 ≤ o.length := by
  obtain ⟨l, y, e, hr⟩ : ∃ l y e, gixR dim o a = (l, y, e) := ⟨_, _, _, rfl⟩
  rw [hr] at h ⊢
  simp only at h
  subst h
  obtain ⟨_, j, rfl, hj, _⟩ := gix_backK uo hr ha
  simp only
  omega
theorem fr_top {g h c : Nat} {A : Option Addr} (o : List Int) (ho : o.length ≤ c) (hc : c ≤ 9223372036854775807) (hol : o.length ≤ 70000) (uo : U8s o) (σ : Rs) (ha : σ.1 ≤ o.length) (dim : Int) (hd : I64 dim) (w : World) (hb : RdB w g A o.length c σ) (ra : Rd (Value.int .u8) w g A o) (hs : BoxL w h (cellsT (bareS 1 dim) bareP)) (hgh : g < h) (hh : h < w.heap.size) :
    Calls Tryz.prog 157 #[.pointer (some ⟨g, 0, none⟩), .pointer (some ⟨h, 0, none⟩)] w (VecOut g h A o.length c w.heap.size (top2 o dim σ) w) := by
  have hle : (gix2 o σ dim).2.1 ≤ o.length := pas_le ha (fun he => (gix_fwd uo ha he).2)
  have hlen : (gix2 o σ dim).1.length ≤ 4096 := gix_len _ _ _
  have CN := hid (fun W hB hR hz => fr_numbers (g := g) (A := A) o ho hc hol uo (gix2 o σ dim).2 hle ((gix2 o σ dim).1.length : Int) (by unfold I64; omega) W hB hR hz)
  obtain ⟨c0, c1, c2, _, _, _⟩ := hb.three
  have kd : w.cell? ⟨h, 1, none⟩ = some (.int .i64 dim) := (hs 1 _ rfl).1
  have HB := hid hb
  have HS := hid hs
  have HA := hid ra
  obtain ⟨a, z⟩ := σ
  simp only at ha c1 c2
  have hfw := gix_fwd (dim := dim) uo ha
  have CG0 := fun W hW => ix_Get (A := A) (c := c) dim o hd ho hc uo a (by unfold I64; omega) W hW
  unfold top2
  unfold gix2 at CN hlen ⊢
  simp only at CN hlen ⊢
  obtain ⟨L, y, E, hr⟩ : ∃ l y e, gixR dim o a = (l, y, e) := ⟨_, _, _, rfl⟩
  rw [hr] at CN CG0 hfw hlen ⊢
  simp only at CN hfw hlen ⊢
  have CG : Hid (∀ W, Rd (Value.int .u8) W W.heap.size A o → Calls Tryz.prog 194 #[.int .i64 dim, .slice A o.length c, .int .i64 (a : Int)] W fun e w' => ∃ A2 d2, e = .returned (.tuple #[.slice A2 L.length d2, .int .i64 y, .int .i64 E]) ∧ w'.ownsRow W.heap.size 3 1 (.slice A2 L.length d2) L.length (L.map (Value.int .i64)) ∧ Below W.heap.size W w') := hid CG0
  have CP := hid (fun W hW => fr_pass (g := g) (n := o.length) (c := c) (A := A) (a, z) y E (fun h => (hfw h).1) W hW)
  obtain ⟨υ, hυ⟩ : ∃ υ, pas (a, z) y E = υ := ⟨_, rfl⟩
  rw [hυ] at CP CN ⊢
  obtain ⟨V, τ, hV⟩ : ∃ V τ, nms2 o υ (L.length : Int) = (V, τ) := ⟨_, _, rfl⟩
  rw [hV] at CN ⊢
  simp only at CN ⊢
  have lg : g < w.heap.size := by omega
  clear hV hυ hr CG0 hfw hlen hle hb ra hs ha
  go_enter Tryz.func157, Tryz.ntmps157
  go_wp2_with fail
  first | (go_region_held3 (fun w' => w'.cell? ⟨g, 0, none⟩ = some (.slice A o.length c) ∧ w'.cell? ⟨g, 1, none⟩ = some (.int .i64 (a : Int)) ∧ w'.cell? ⟨h, 1, none⟩ = some (.int .i64 dim) ∧ Below w.heap.size w w') (first | exact ⟨c0, c1, kd, (Below.refl _ _).drew⟩ | (have hk := below_step ((Below.refl _ _).drew) hb1 (Nat.le_refl _); exact ⟨(hk.cell lg).trans c0, (hk.cell lg).trans c1, (hk.cell hh).trans kd, hk⟩) | assumption) (first | (go_at_call 194; refine (CG.out _ (by exact (HA.out.more (Nat.le_of_lt lg)))).mono ?_; rintro _ w1 ⟨A1, d1, rfl, ho1, hb1⟩) | fail)) | fail
  all_goals
    have HO1 := hid (RdF.of_own ho1)
    have HB1 := hid ((show RdB w.drew g A o.length c (a, z) from HB.out).below hb1 lg)
    have q1 : Off g g w w1 := (show Off g g w w.drew from Off.of ((Below.refl _ _).drew)).trans (Off.of hb1)
    have HS1 := hid (q1.box HS.out (by simp [cellsT]) (by omega) (by omega))
    clear ho1
    go_wp2_with fail
    refine (CP.out _ HB1.out).mono ?_
    rintro _ w2 ⟨rfl, hb2, o2⟩
    have HO2 := hid (HO1.out.off o2 lg lg)
    have HB2 := hid hb2
    have HS2 := hid (o2.box HS1.out (by simp [cellsT]) (by omega) (by omega))
    have q2 := q1.trans o2
    have hq2 := q2.size
    have HA2 := hid (HA.out.below (q2.below (Nat.le_refl _) (Nat.le_refl _) (by omega)))
    clear hb2 HO1 HB1 HS1 hb1 CP CG c0 c1 c2 kd
    go_wp2_with fail
    refine (CN.out _ HB2.out HA2.out (by omega)).mono ?_
    rintro _ w3 ⟨A3, c3, rfl, hr3, hb3, o3⟩
    have HS3 := hid (o3.box HS2.out (by simp [cellsT]) (by omega) (by omega))
    have HB3 := hid hb3
    have hw := (Off.setR (g := g) (h := h) (w := w3) 2 (.slice A1 L.length d1)).trans (Off.setR 3 (.slice A3 V.length c3))
    have q3 := (q2.trans o3).left.trans hw
    have HR := hid ((hr3.less hq2).off hw (by omega) (by omega))
    have HL := hid (((HO2.out.off o3 lg lg).off hw (by exact lg) (by exact hh)))
    obtain ⟨⟨k0, k1, k2, k3, k4, k5, k6, k7⟩, f0, f1, f2, f3, f4, f5, f6, f7⟩ := box_T HS3.out
    clear hb3 hr3 HO2 HB2 HS2 q2 o3 hw
    go_wp2_with fail
    go_end0
    exact ⟨rfl, ⟨⟨A1, d1, A3, c3, none, 0, none, 0⟩, (BoxL.one HS3.out (k := 2) rfl _).one (k := 3) rfl _, HL.out, HR.out, RdF.nil _ _, RdF.nil _ _⟩, BoxL.other (BoxL.other HB3.out (p := ⟨h, 2, none⟩) (by simp; omega) _) (p := ⟨h, 3, none⟩) (by simp; omega) _, q3⟩
end Go.Proofs.YtecgbelgoomneaaGreat
/- The program's reader reads what the document's does: plain words. -/
namespace Go.Proofs.YtecgbelgoomneaaGreat
set_option maxRecDepth 100000
set_option linter.unusedVariables false
theorem one_le {o : List Int} {σ : Rs} (h : σ.1 ≤ o.length) : (one2 o σ).2.1 ≤ o.length := tak_le h
theorem num_le {o : List Int} (uo : U8s o) {σ : Rs} (h : σ.1 ≤ o.length) : (num2 o σ).2.1 ≤ o.length := pas_le h (fun he => (get_fwd uo he).2)
theorem gix_le {o : List Int} (uo : U8s o) {σ : Rs} {dim : Int} (h : σ.1 ≤ o.length) : (gix2 o σ dim).2.1 ≤ o.length := pas_le h (fun he => (gix_fwd uo h he).2)
theorem pln_le {o : List Int} {σ : Rs} {wd m : Int} (h : σ.1 ≤ o.length) : (pln2 o σ wd m).2.1 ≤ o.length := pas_le (tak_le h) (fun _ => by have := tak_le (m := bysV wd m) h; omega)
theorem tail0 (dim sc wd : Int) (L V E : List Int) (G : List Bool) : tailL ⟨0, dim, L, V, sc, wd, E, G⟩ = sgnd V := by simp [tailL]
theorem tail1 (dim sc wd : Int) (L V E : List Int) (G : List Bool) : tailL ⟨1, dim, L, V, sc, wd, E, G⟩ = pixV dim L ++ sgnd V := by simp [tailL]
theorem tail2 (dim sc wd : Int) (L V E : List Int) (G : List Bool) : tailL ⟨2, dim, L, V, sc, wd, E, G⟩ = lebI sc ++ ((wd :: wevV wd E) ++ sgnV G) := by simp [tailL]
theorem tail3 (dim sc wd : Int) (L V E : List Int) (G : List Bool) : tailL ⟨3, dim, L, V, sc, wd, E, G⟩ = lebI sc ++ ([] ++ sgnV G) := by simp [tailL]
theorem vec_back {o : List Int} (uo : U8s o) {a a' : Nat} {z : Bool} {S : SentV} (ha : a ≤ o.length) (h : vec2 o (a, z) = (S, (a', false))) (hm : mayP S) : z = false ∧ a' ≤ o.length ∧ wfS S ∧ o.drop a = bodyL S ++ o.drop a' := by
  unfold vec2 at h
  obtain ⟨X, ⟨u1, u2⟩, hX⟩ : ∃ X u, one2 o (a, z) = (X, u) := ⟨_, _, rfl⟩
  have hu : u1 ≤ o.length := by have := one_le (σ := (a, z)) ha; rw [hX] at this; exact this
  have hXI : I64 X := by have := one_i64 uo (a, z); rw [hX] at this; exact this
  rw [hX] at h
  simp only at h
  obtain ⟨D, ⟨t1, t2⟩, hD⟩ : ∃ X u, num2 o (u1, u2) = (X, u) := ⟨_, _, rfl⟩
  have ht : t1 ≤ o.length := by have := num_le uo (σ := (u1, u2)) hu; rw [hD] at this; exact this
  rw [hD] at h
  simp only at h
  have key : t2 = false → 1 ≤ D → D ≤ 4096 → ∀ tail, o.drop t1 = tail ++ o.drop a' → z = false ∧ o.drop a = X :: (lebI D ++ tail) ++ o.drop a' := by
    intro e1 d1 d4 tail e
    subst e1
    obtain ⟨n1, n2, n, nu, nv, ne⟩ := num2_back uo hu hD
    subst n1
    have hDn : D = n := by
      have := w64_pos nu (by omega)
      omega
    obtain ⟨m1, m2, m3⟩ := one2_back ha hX
    refine ⟨m1, ?_⟩
    rw [m3, ne, e, hDn]
    simp
  have nlI : ∀ x ∈ ([] : List Int), I64 x := by intro x hx; simp at hx
  have nlU : U64s [] := by intro x hx; simp at hx
  have h0I : I64 0 := by decide
  obtain ⟨d1, d4, hc⟩ := hm
  unfold rst2 at h
  split at h
  · rename_i e
    subst e
    unfold dns2 at h
    obtain ⟨V, ⟨r1, r2⟩, hV⟩ : ∃ X u, nms2 o (t1, t2) D = (X, u) := ⟨_, _, rfl⟩
    rw [hV] at h
    simp only [Prod.mk.injEq] at h
    obtain ⟨rfl, rfl, rfl⟩ := h
    simp only at d1 d4
    obtain ⟨z1, z2, z3, z4, z5⟩ := nms2_back uo ht hV
    obtain ⟨y1, y2⟩ := key z1 d1 d4 _ z5
    refine ⟨y1, z2, ⟨h0I, by show I64 D; unfold I64; omega, nlI, z4, h0I, h0I, nlU⟩, ?_⟩
    rw [y2]
    unfold bodyL
    rw [tail0]
  · rename_i n0
    split at h
    · rename_i e
      subst e
      unfold top2 at h
      obtain ⟨L, ⟨g1, g2⟩, hL⟩ : ∃ X u, gix2 o (t1, t2) D = (X, u) := ⟨_, _, rfl⟩
      have hg : g1 ≤ o.length := by have := gix_le uo (σ := (t1, t2)) (dim := D) ht; rw [hL] at this; exact this
      rw [hL] at h
      simp only at h
      obtain ⟨V, ⟨r1, r2⟩, hV⟩ : ∃ X u, nms2 o (g1, g2) (L.length : Int) = (X, u) := ⟨_, _, rfl⟩
      rw [hV] at h
      simp only [Prod.mk.injEq] at h
      obtain ⟨rfl, rfl, rfl⟩ := h
      simp only at d1 d4
      obtain ⟨z1, z2, z3, z4, z5⟩ := nms2_back uo hg hV
      subst z1
      obtain ⟨x1, x2, x3, x4⟩ := gix2_back uo ht hL
      obtain ⟨y1, y2⟩ := key x1 d1 d4 (pixV D L ++ sgnd V) (by rw [x4, z5]; simp)
      have hp := (chk_ok.1 x3).2.2.2
      refine ⟨y1, z2, ⟨show I64 1 from by decide, by show I64 D; unfold I64; omega, fun x hx => ?_, z4, h0I, h0I, nlU⟩, ?_⟩
      · have := hp x hx; unfold I64; omega
      · rw [y2]
        unfold bodyL
        rw [tail1]
    · rename_i n1
      split at h
      · rename_i e
        subst e
        unfold lev2 at h
        obtain ⟨N, ⟨g1, g2⟩, hN⟩ : ∃ X u, num2 o (t1, t2) = (X, u) := ⟨_, _, rfl⟩
        have hg : g1 ≤ o.length := by have := num_le uo (σ := (t1, t2)) ht; rw [hN] at this; exact this
        rw [hN] at h
        simp only at h
        obtain ⟨Wd, ⟨k1, k2⟩, hW⟩ : ∃ X u, one2 o (g1, g2) = (X, u) := ⟨_, _, rfl⟩
        have hk : k1 ≤ o.length := by have := one_le (σ := (g1, g2)) hg; rw [hW] at this; exact this
        rw [hW] at h
        simp only at h
        obtain ⟨E, ⟨l1, l2⟩, hE⟩ : ∃ X u, pln2 o (k1, k2) Wd D = (X, u) := ⟨_, _, rfl⟩
        have hl : l1 ≤ o.length := by have := pln_le (σ := (k1, k2)) (wd := Wd) (m := D) hk; rw [hE] at this; exact this
        rw [hE] at h
        simp only at h
        obtain ⟨G, ⟨r1, r2⟩, hG⟩ : ∃ X u, sgs2 o (l1, l2) D = (X, u) := ⟨_, _, rfl⟩
        rw [hG] at h
        simp only [Prod.mk.injEq] at h
        obtain ⟨rfl, rfl, rfl⟩ := h
        simp only at d1 d4 hc
        have hsc : 0 ≤ N := by
          rcases hc with h | h | h | h
          · exact absurd h.1 (by decide)
          · exact absurd h.1 (by decide)
          · exact h.2.2.2.2.2.2.2.1
          · exact absurd h.1 (by decide)
        have hwd : 1 ≤ Wd ∧ Wd ≤ 8 := by
          rcases hc with h | h | h | h
          · exact absurd h.1 (by decide)
          · exact absurd h.1 (by decide)
          · exact ⟨h.2.1, h.2.2.1⟩
          · exact absurd h.1 (by decide)
        obtain ⟨z1, z2, z3, z4⟩ := sgs2_back uo hl hG
        subst z1
        obtain ⟨x1, x2, x3, x4, x5⟩ := pln2_back uo hk hE
        subst x1
        obtain ⟨v1, v2, v3⟩ := one2_back hg hW
        subst v1
        obtain ⟨n1, n2, n, nu, nv, ne⟩ := num2_back uo ht hN
        have hNn : N = n := by
          have := w64_pos nu (by omega)
          omega
        obtain ⟨y1, y2⟩ := key n1 d1 d4 (lebI N ++ ((Wd :: wevV Wd E) ++ sgnV G)) (by rw [ne, v3, x5, z4, hNn]; simp)
        refine ⟨y1, z2, ⟨show I64 2 from by decide, by show I64 D; unfold I64; omega, nlI, nlI, ?_, by show I64 Wd; unfold I64; omega, x4⟩, ?_⟩
        · show I64 N
          rw [nv]; exact w64_i64 nu
        · rw [y2]
          unfold bodyL
          rw [tail2]
      · rename_i n2
        split at h
        · rename_i e
          subst e
          unfold sgn2 at h
          obtain ⟨N, ⟨g1, g2⟩, hN⟩ : ∃ X u, num2 o (t1, t2) = (X, u) := ⟨_, _, rfl⟩
          have hg : g1 ≤ o.length := by have := num_le uo (σ := (t1, t2)) ht; rw [hN] at this; exact this
          rw [hN] at h
          simp only at h
          obtain ⟨G, ⟨r1, r2⟩, hG⟩ : ∃ X u, sgs2 o (g1, g2) D = (X, u) := ⟨_, _, rfl⟩
          rw [hG] at h
          simp only [Prod.mk.injEq] at h
          obtain ⟨rfl, rfl, rfl⟩ := h
          simp only at d1 d4 hc
          have hsc : 0 ≤ N := by
            rcases hc with h | h | h | h
            · exact absurd h.1 (by decide)
            · exact absurd h.1 (by decide)
            · exact absurd h.1 (by decide)
            · exact h.2.2.2.2.2.1
          obtain ⟨z1, z2, z3, z4⟩ := sgs2_back uo hg hG
          subst z1
          obtain ⟨n1, n2, n, nu, nv, ne⟩ := num2_back uo ht hN
          have hNn : N = n := by
            have := w64_pos nu (by omega)
            omega
          obtain ⟨y1, y2⟩ := key n1 d1 d4 (lebI N ++ ([] ++ sgnV G)) (by rw [ne, z4, hNn]; simp)
          refine ⟨y1, z2, ⟨show I64 3 from by decide, by show I64 D; unfold I64; omega, nlI, nlI, ?_, h0I, nlU⟩, ?_⟩
          · show I64 N
            rw [nv]; exact w64_i64 nu
          · rw [y2]
            unfold bodyL
            rw [tail3]
        · rename_i n3
          simp only [Prod.mk.injEq] at h
          obtain ⟨rfl, _, _⟩ := h
          simp only at hc
          rcases hc with h | h | h | h
          · exact absurd h.1 n0
          · exact absurd h.1 n1
          · exact absurd h.1 n2
          · exact absurd h.1 n3
theorem frm_back {o : List Int} (uo : U8s o) {f : FrameV} {a : Nat} (h : frm2 o = (f, (a, false))) (ha : ¬ a < o.length) (hc : chkF f = 0) : wfF f ∧ textL f = o := by
  obtain ⟨p1, p2, p3, p4, p5⟩ := chkF_ok.1 hc
  unfold frm2 at h
  obtain ⟨M, ⟨m1, m2⟩, hM⟩ : ∃ X u, one2 o (0, false) = (X, u) := ⟨_, _, rfl⟩
  have hm : m1 ≤ o.length := by have := one_le (o := o) (σ := (0, false)) (Nat.zero_le _); rw [hM] at this; exact this
  rw [hM] at h
  simp only at h
  unfold hed2 at h
  obtain ⟨K, ⟨k1, k2⟩, hK⟩ : ∃ X u, one2 o (m1, m2 || (M != 1)) = (X, u) := ⟨_, _, rfl⟩
  have hk : k1 ≤ o.length := by have := one_le (o := o) (σ := (m1, m2 || (M != 1))) hm; rw [hK] at this; exact this
  have hKI : I64 K := by have := one_i64 uo (m1, m2 || (M != 1)); rw [hK] at this; exact this
  rw [hK] at h
  simp only at h
  obtain ⟨F, ⟨f1, f2⟩, hF⟩ : ∃ X u, num2 o (k1, k2) = (X, u) := ⟨_, _, rfl⟩
  have hf : f1 ≤ o.length := by have := num_le uo (σ := (k1, k2)) hk; rw [hF] at this; exact this
  rw [hF] at h
  simp only at h
  obtain ⟨T, ⟨t1, t2⟩, hT⟩ : ∃ X u, num2 o (f1, f2) = (X, u) := ⟨_, _, rfl⟩
  have ht : t1 ≤ o.length := by have := num_le uo (σ := (f1, f2)) hf; rw [hT] at this; exact this
  rw [hT] at h
  simp only at h
  have key : t2 = false → 0 ≤ F → 0 ≤ T → I64 F ∧ I64 T ∧ ∀ tail, o.drop t1 = tail → o = 1 :: K :: (lebI F ++ (lebI T ++ tail)) := by
    intro e1 hF0 hT0
    subst e1
    obtain ⟨a1, a2, n, nu, nv, ne⟩ := num2_back uo hf hT
    subst a1
    obtain ⟨b1, b2, q, qu, qv, qe⟩ := num2_back uo hk hF
    subst b1
    obtain ⟨c1, c2, c3⟩ := one2_back hm hK
    rw [Bool.or_eq_false_iff] at c1
    obtain ⟨d1, d2⟩ := c1
    subst d1
    obtain ⟨_, _, e3⟩ := one2_back (Nat.zero_le _) hM
    have hM1 : M = 1 := by simpa using d2
    have hTn : T = n := by have := w64_pos nu (by omega); omega
    have hFn : F = q := by have := w64_pos qu (by omega); omega
    refine ⟨by rw [qv]; exact w64_i64 qu, by rw [nv]; exact w64_i64 nu, fun tail e => ?_⟩
    rw [List.drop_zero] at e3
    rw [e3, c3, qe, ne, e, hM1, hTn, hFn]
  unfold bdy2 at h
  split at h
  · rename_i e
    obtain ⟨S, ⟨r1, r2⟩, hS⟩ : ∃ X u, vec2 o (t1, t2) = (X, u) := ⟨_, _, rfl⟩
    rw [hS] at h
    simp only [Prod.mk.injEq] at h
    obtain ⟨rfl, rfl, rfl⟩ := h
    simp only at p1 p2 p3 p4 p5
    have hmay : mayP S := by
      rcases p5 with h | h
      · exact mayB_iff.1 h.2
      · omega
    obtain ⟨v1, v2, v3, v4⟩ := vec_back uo ht hS hmay
    obtain ⟨w1, w2, w3⟩ := key v1 p1 p3
    have hz : o.drop r1 = [] := List.drop_eq_nil_of_le (by omega)
    rw [hz, List.append_nil] at v4
    refine ⟨⟨hKI, w1, w2, v3⟩, ?_⟩
    have := w3 _ v4
    unfold textL
    rw [if_pos e]
    exact this.symm
  · rename_i e
    simp only [Prod.mk.injEq] at h
    obtain ⟨rfl, rfl, rfl⟩ := h
    simp only at p1 p2 p3 p4 p5
    obtain ⟨w1, w2, w3⟩ := key rfl p1 p3
    have hz : o.drop t1 = [] := List.drop_eq_nil_of_le (by omega)
    refine ⟨⟨hKI, w1, w2, wf_zeroS⟩, ?_⟩
    have := w3 _ hz
    unfold textL
    rw [if_neg e]
    exact this.symm
/-- What was written is read. -/
theorem cut_drop {o p r : List Int} {a : Nat} (h : o.drop a = p ++ r) (ha : a ≤ o.length) : o.drop (a + p.length) = r ∧ a + p.length ≤ o.length := by
  refine ⟨by rw [← List.drop_drop, h, List.drop_left], ?_⟩
  have := congrArg List.length h
  rw [List.length_drop, List.length_append] at this
  omega
theorem tak_putD {o p r : List Int} {a : Nat} {z : Bool} {m : Int} (h : o.drop a = p ++ r) (ha : a ≤ o.length) (hm : (p.length : Int) = m) : tak o (a, z) m = (p, (a + p.length, z)) := by
  obtain ⟨_, h2⟩ := cut_drop h ha
  unfold tak
  have hn : m.toNat = p.length := by omega
  rw [if_neg (by simp only; omega), hn]
  simp only [h, List.take_left]
theorem one_putD {o r : List Int} {a : Nat} {z : Bool} {x : Int} (h : o.drop a = x :: r) (ha : a ≤ o.length) : ∃ a', one2 o (a, z) = (x, (a', z)) ∧ a' ≤ o.length ∧ o.drop a' = r := by
  have h' : o.drop a = [x] ++ r := h
  obtain ⟨h1, h2⟩ := cut_drop h' ha
  refine ⟨a + 1, ?_, h2, h1⟩
  have ht := tak_putD (z := z) h' ha (m := 1) rfl
  unfold one2
  rw [ht]
  rfl
theorem num_putD {o r : List Int} {a : Nat} {z : Bool} {n : Int} (hu : U64 n) (hn : n ≤ 9223372036854775807) (h : o.drop a = lebI n ++ r) (ha : a ≤ o.length) : ∃ a', num2 o (a, z) = (n, (a', z)) ∧ a' ≤ o.length ∧ o.drop a' = r := by
  obtain ⟨h1, h2⟩ := cut_drop h ha
  have hg : gL (o.drop (a : Int).toNat) 0 0 = (n, ((lebI n).length : Int), 0) := by rw [Int.toNat_natCast, h, gL_code hu]
  obtain ⟨e1, e2, e3⟩ := get_out (b := o) (a := (a : Int)) (by omega) hg
  refine ⟨a + (lebI n).length, ?_, h2, h1⟩
  have e4 : getA o (a : Int) = (a : Int) + ((lebI n).length : Int) := by rw [e3, if_pos rfl]
  have e5 : w64 n = n := by unfold w64; rw [if_pos hn]
  have e6 : ((a : Int) + ((lebI n).length : Int)).toNat = a + (lebI n).length := by omega
  unfold num2 pas
  simp only [e1, e2, e4, e5, e6, if_true]
theorem nms_putD {o r V : List Int} {a : Nat} {z : Bool} (hV : ∀ x ∈ V, I64 x) (h : o.drop a = sgnd V ++ r) (ha : a ≤ o.length) : ∃ a', nms2 o (a, z) (V.length : Int) = (V, (a', z)) ∧ a' ≤ o.length ∧ o.drop a' = r := by
  obtain ⟨h1, h2⟩ := cut_drop h ha
  have hl : (o.take a).length = a := by rw [List.length_take]; omega
  have hp := mny_put (b := o) (behind := r) (V.map zigI) (o.take a) [] (zigs_u64 hV) (by
    show o = o.take a ++ (sgnd V ++ r)
    rw [← h, List.take_append_drop])
  rw [hl, List.length_map, List.nil_append] at hp
  refine ⟨a + (sgnd V).length, ?_, h2, h1⟩
  unfold nms2 mnyV
  simp only
  rw [if_neg (by omega), Int.toNat_natCast, hp]
  simp only
  unfold pas
  rw [if_pos rfl, Int.toNat_natCast, List.length_append, hl, List.map_map]
  have e : V.map (zagI ∘ zigI) = V := by
    refine (List.map_congr_left fun x hx => ?_).trans (List.map_id V)
    exact zag_zig x
  rw [e]
  rfl
theorem gix_putD {o r L : List Int} {a : Nat} {z : Bool} {dim : Int} (hc : chkE dim L = 0) (h : o.drop a = pixV dim L ++ r) (ha : a ≤ o.length) : ∃ a', gix2 o (a, z) dim = (L, (a', z)) ∧ a' ≤ o.length ∧ o.drop a' = r := by
  obtain ⟨h1, h2⟩ := cut_drop h ha
  have hl : (o.take a).length = a := by rw [List.length_take]; omega
  have hp := gix_put (b := o) (ahead := o.take a) (behind := r) hc (by rw [← h, List.take_append_drop])
  rw [hl] at hp
  refine ⟨a + (pixV dim L).length, ?_, h2, h1⟩
  unfold gix2
  simp only
  rw [hp]
  simp only
  unfold pas
  rw [if_pos rfl, Int.toNat_natCast, List.length_append, hl]
theorem sgs_putD {o r : List Int} {G : List Bool} {a : Nat} {z : Bool} {m : Int} (hm : (G.length : Int) = m) (h4 : m ≤ 4096) (h : o.drop a = sgnV G ++ r) (ha : a ≤ o.length) : ∃ a', sgs2 o (a, z) m = (G, (a', z)) ∧ a' ≤ o.length ∧ o.drop a' = r := by
  obtain ⟨h1, h2⟩ := cut_drop h ha
  have hl := sgnV_len (l := G) (by omega)
  have hr := read_sgn (l := G) (by omega)
  rw [hm] at hr
  have hb : bysV 1 m = ((sgnV G).length : Int) := by
    have := (bitE_ok hr.1).2.1
    exact this.symm
  refine ⟨a + (sgnV G).length, ?_, h2, h1⟩
  unfold sgs2
  rw [hb, tak_putD h ha rfl]
  simp only
  rw [hr.1, hr.2]
  unfold pas
  rw [if_pos rfl]
  simp
  omega
theorem pln_putD {o r E : List Int} {a : Nat} {z : Bool} {wd m : Int} (h1w : 1 ≤ wd) (h8 : wd ≤ 8) (hm : (E.length : Int) = m) (h4 : m ≤ 4096) (hf : fitsB wd E = true) (uE : U64s E) (h : o.drop a = wevV wd E ++ r) (ha : a ≤ o.length) : ∃ a', pln2 o (a, z) wd m = (E, (a', z)) ∧ a' ≤ o.length ∧ o.drop a' = r := by
  obtain ⟨h1, h2⟩ := cut_drop h ha
  have hb8 : bysE wd E.length = 0 := by unfold bysE; rw [if_neg (by omega), if_neg (by omega)]
  have hme : mayE wd E = 0 := by unfold mayE; rw [if_pos hb8, if_pos hf]
  have hu := uwv_wev hme uE
  rw [hm] at hu
  have hb : bysV wd m = ((wevV wd E).length : Int) := by
    have := (bitE_ok hu.1).2.1
    exact this.symm
  refine ⟨a + (wevV wd E).length, ?_, h2, h1⟩
  unfold pln2
  rw [hb, tak_putD h ha rfl]
  simp only
  rw [hu.1, hu.2]
  unfold pas
  rw [if_pos rfl]
  simp
  omega
theorem vec_putD {o r : List Int} {S : SentV} {a : Nat} {z : Bool} (hm : mayP S) (hw : wfS S) (h : o.drop a = bodyL S ++ r) (ha : a ≤ o.length) : ∃ a', vec2 o (a, z) = (S, (a', z)) ∧ a' ≤ o.length ∧ o.drop a' = r := by
  obtain ⟨sch, dim, L, V, scale, wide, lev, neg⟩ := S
  obtain ⟨hd1, hd4, hc⟩ := hm
  obtain ⟨w1, w2, w3, w4, w5, w6, w7⟩ := hw
  simp only at hd1 hd4 hc w1 w2 w3 w4 w5 w6 w7
  unfold bodyL tailL at h
  simp only [List.cons_append, List.append_assoc] at h
  obtain ⟨a1, e1, l1, q1⟩ := one_putD (z := z) h ha
  obtain ⟨a2, e2, l2, q2⟩ := num_putD (z := z) (by unfold U64; omega) (by omega) q1 l1
  unfold I64 at w5
  unfold vec2
  rw [e1]
  simp only
  rw [e2]
  simp only
  unfold rst2
  rcases hc with ⟨rfl, rfl, h2, rfl, rfl, rfl, rfl⟩ | ⟨rfl, h1, h2, rfl, rfl, rfl, rfl⟩ | ⟨rfl, h1, h2, h3, h4, rfl, rfl, h7, h8⟩ | ⟨rfl, rfl, rfl, rfl, rfl, h5, h6⟩
  · rw [if_pos rfl] at q2 ⊢
    obtain ⟨a3, e3, l3, q3⟩ := nms_putD (z := z) w4 q2 l2
    rw [h2] at e3
    unfold dns2
    rw [e3]
    exact ⟨a3, rfl, l3, q3⟩
  · rw [if_neg (by decide), if_pos rfl] at q2 ⊢
    rw [List.append_assoc] at q2
    obtain ⟨a3, e3, l3, q3⟩ := gix_putD (z := z) h1 q2 l2
    obtain ⟨a4, e4, l4, q4⟩ := nms_putD (z := z) w4 q3 l3
    rw [h2] at e4
    unfold top2
    rw [e3]
    simp only
    rw [e4]
    exact ⟨a4, rfl, l4, q4⟩
  · rw [if_neg (by decide), if_neg (by decide), if_pos rfl] at q2 ⊢
    simp only [List.cons_append, List.append_assoc] at q2
    obtain ⟨a3, e3, l3, q3⟩ := num_putD (z := z) (by unfold U64; omega) (by omega) q2 l2
    obtain ⟨a4, e4, l4, q4⟩ := one_putD (z := z) q3 l3
    obtain ⟨a5, e5, l5, q5⟩ := pln_putD (z := z) h1 h2 h3 hd4 h4 w7 q4 l4
    obtain ⟨a6, e6, l6, q6⟩ := sgs_putD (z := z) h8 hd4 q5 l5
    unfold lev2
    rw [e3]
    simp only
    rw [e4]
    simp only
    rw [e5]
    simp only
    rw [e6]
    exact ⟨a6, rfl, l6, q6⟩
  · rw [if_neg (by decide), if_neg (by decide), if_neg (by decide)] at q2
    rw [if_neg (by decide), if_neg (by decide), if_neg (by decide), if_pos rfl]
    simp only [List.append_assoc, List.nil_append] at q2
    obtain ⟨a3, e3, l3, q3⟩ := num_putD (z := z) (by unfold U64; omega) (by omega) q2 l2
    obtain ⟨a6, e6, l6, q6⟩ := sgs_putD (z := z) h6 hd4 q3 l3
    unfold sgn2
    rw [e3]
    simp only
    rw [e6]
    exact ⟨a6, rfl, l6, q6⟩
theorem frm_putD {f : FrameV} (hc : chkF f = 0) (hw : wfF f) : frm2 (textL f) = (f, ((textL f).length, false)) := by
  obtain ⟨h1, h2, h3, h4, h5⟩ := chkF_ok.1 hc
  obtain ⟨knd, frm, stp, S⟩ := f
  simp only at h1 h2 h3 h4 h5
  obtain ⟨o, ho⟩ : ∃ o, textL ⟨knd, frm, stp, S⟩ = o := ⟨_, rfl⟩
  rw [ho]
  unfold textL at ho
  simp only at ho
  have hb : o.drop 0 = 1 :: knd :: (lebI frm ++ (lebI stp ++ (if knd = 1 then bodyL S else []))) := by rw [List.drop_zero]; exact ho.symm
  obtain ⟨a1, e1, l1, q1⟩ := one_putD (z := false) hb (Nat.zero_le _)
  obtain ⟨a2, e2, l2, q2⟩ := one_putD (z := false) q1 l1
  obtain ⟨a3, e3, l3, q3⟩ := num_putD (z := false) (by unfold U64; omega) (by omega) q2 l2
  obtain ⟨a4, e4, l4, q4⟩ := num_putD (z := false) (by unfold U64; omega) (by omega) q3 l3
  unfold frm2
  rw [e1]
  simp only
  rw [show (false || ((1 : Int) != 1)) = false from rfl]
  unfold hed2
  rw [e2]
  simp only
  rw [e3]
  simp only
  rw [e4]
  simp only
  unfold bdy2
  rcases h5 with ⟨rfl, hm⟩ | ⟨rfl, hz⟩
  · rw [if_pos rfl] at q4 ⊢
    obtain ⟨a5, e5, l5, q5⟩ := vec_putD (z := false) (r := []) (mayB_iff.1 hm) hw.2.2.2 (by rw [List.append_nil]; exact q4) l4
    rw [e5]
    simp only
    have : a5 = o.length := by
      have := congrArg List.length q5
      rw [List.length_drop] at this
      simp at this
      omega
    rw [this]
  · rw [if_neg (by decide)] at q4 ⊢
    have : a4 = o.length := by
      have := congrArg List.length q4
      rw [List.length_drop] at this
      simp at this
      omega
    rw [this, sameS_iff.1 hz]
theorem pr_rd {b : List Int} (ub : U8s b) : prR b = rdR b := by
  unfold prR rdR
  by_cases he : openE b = 0
  · rw [if_neg (by rw [he]; decide), if_neg (by rw [he]; decide)]
    have uo := openV_u8 ub
    obtain ⟨o, ho⟩ : ∃ o, openV b = o := ⟨_, rfl⟩
    rw [ho] at uo ⊢
    unfold fin2
    obtain ⟨f, ⟨a, z⟩, hf⟩ : ∃ f u, frm2 o = (f, u) := ⟨_, _, rfl⟩
    rw [hf]
    simp only
    by_cases hbad : z = true ∨ a < o.length ∨ chkF f ≠ 0
    · rw [if_pos hbad]
      by_cases hr : (read1 o).2 = 0
      · exfalso
        obtain ⟨f2, e2, h2⟩ : ∃ f e, read1 o = (f, e) := ⟨_, _, rfl⟩
        rw [h2] at hr
        simp only at hr
        subst hr
        obtain ⟨hc, hw, ht⟩ := read1_back uo h2
        have hp := frm_putD hc hw
        rw [ht, hf] at hp
        simp only [Prod.mk.injEq] at hp
        obtain ⟨rfl, rfl, rfl⟩ := hp
        rcases hbad with h | h | h
        · simp at h
        · omega
        · exact h hc
      · exact (read1_bad hr).symm
    · rw [if_neg hbad]
      have hz : z = false := by cases z with
        | false => rfl
        | true => exact absurd (Or.inl rfl) hbad
      subst hz
      have ha : ¬ a < o.length := fun h => hbad (Or.inr (Or.inl h))
      have hc : chkF f = 0 := by
        by_cases e : chkF f = 0
        · exact e
        · exact absurd (Or.inr (Or.inr e)) hbad
      obtain ⟨hw, ht⟩ := frm_back uo hf ha hc
      have := read1_put hc hw
      rw [ht] at this
      exact this.symm
  · rw [if_pos he, if_pos he]
end Go.Proofs.YtecgbelgoomneaaGreat
