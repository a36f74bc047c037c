
/- ZFsO: texts joined: FsO. -/
import Derived.Test.YtecgbelgoomneaaGreatZFsY
import Derived.Test.YtecgbelgoomneaaGreatZg
import Derived.Test.YtecgbelgoomneaaGreatZf
import Derived.Test.YtecgbelgoomneaaGreatZe
/- Read, by the program; the bundle of the program's frame. -/
namespace Go.Proofs.YtecgbelgoomneaaGreat
open Go.RowKit
set_option maxHeartbeats 4000000
set_option maxRecDepth 100000
set_option linter.unusedVariables false
theorem nms_wf {o : List Int} (uo : U8s o) {σ : Rs} (h : σ.1 ≤ o.length) (m : Int) : (∀ x ∈ (nms2 o σ m).1, I64 x) ∧ (nms2 o σ m).1.length ≤ o.length := by
  obtain ⟨h1, _, h3⟩ := mnyV_all uo m σ.1 h
  unfold nms2
  simp only
  refine ⟨fun x hx => ?_, by rw [List.length_map]; exact h1⟩
  obtain ⟨n, hn, rfl⟩ := List.mem_map.1 hx
  exact zag_i64 (h3 n hn)
theorem gix_wf {o : List Int} (uo : U8s o) {σ : Rs} (h : σ.1 ≤ o.length) (dim : Int) : (∀ x ∈ (gix2 o σ dim).1, I64 x) ∧ (gix2 o σ dim).1.length ≤ 4096 := by
  unfold gix2
  simp only
  refine ⟨?_, gix_len _ _ _⟩
  obtain ⟨l, y, e, hr⟩ : ∃ l y e, gixR dim o σ.1 = (l, y, e) := ⟨_, _, _, rfl⟩
  rw [hr]
  simp only
  by_cases he : e = 0
  · subst he
    obtain ⟨hc, _⟩ := gix_backK uo hr h
    obtain ⟨_, _, _, hp⟩ := chk_ok.1 hc
    have h2 := (chk_ok.1 hc).2.1
    intro x hx
    have := hp x hx
    unfold I64; omega
  · rw [gix_nil hr he]
    intro x hx; simp at hx
theorem sgs_wf {o : List Int} {σ : Rs} (m : Int) : (sgs2 o σ m).1.length ≤ 4096 := by
  unfold sgs2 bitV
  simp only
  split
  · rename_i h
    have := bys_ok (bitE_ok h).1
    rw [mkB_len]
    rw [show (1 : Int).toNat = 1 from rfl]
    omega
  · simp
theorem pln_wf {o : List Int} {σ : Rs} (wd m : Int) : (pln2 o σ wd m).1.length ≤ 4096 ∧ U64s (pln2 o σ wd m).1 := by
  unfold pln2
  simp only
  refine ⟨?_, uwvV_u64 _⟩
  by_cases h : bitE wd m (tak o σ (bysV wd m)).1 = 0
  · have := bys_ok (bitE_ok h).1
    have := uwv_len h
    omega
  · unfold uwvV
    rw [if_neg h]
    simp
theorem vec_wf {o : List Int} (uo : U8s o) (hol : o.length ≤ 70000) {σ : Rs} (h : σ.1 ≤ o.length) : wfS (vec2 o σ).1 ∧ lnS 100000 (vec2 o σ).1 := by
  have nlI : ∀ x ∈ ([] : List Int), I64 x := by intro x hx; simp at hx
  have nlU : U64s [] := by intro x hx; simp at hx
  have h0I : I64 0 := by decide
  have hX := one_i64 uo σ
  have h1 := one_le (o := o) h
  have hD := num_i64 uo (one2 o σ).2
  have h2 := num_le uo h1
  unfold vec2
  obtain ⟨X, hXX⟩ : ∃ X, (one2 o σ).1 = X := ⟨_, rfl⟩
  obtain ⟨D, hDD⟩ : ∃ X, (num2 o (one2 o σ).2).1 = X := ⟨_, rfl⟩
  obtain ⟨τ, hT⟩ : ∃ X, (num2 o (one2 o σ).2).2 = X := ⟨_, rfl⟩
  rw [hXX] at hX ⊢
  rw [hDD] at hD ⊢
  rw [hT] at h2 ⊢
  unfold rst2
  split
  · rename_i e
    subst e
    have hn := nms_wf uo h2 D
    exact ⟨⟨h0I, hD, nlI, hn.1, h0I, h0I, nlU⟩, by show 0 ≤ 100000; decide, by show (nms2 o τ D).1.length ≤ 100000; omega, by show 0 ≤ 100000; decide, by show 0 ≤ 100000; decide⟩
  · split
    · have hg := gix_wf uo h2 D
      have hn := nms_wf uo (gix_le uo h2 (dim := D)) ((gix2 o τ D).1.length : Int)
      exact ⟨⟨show I64 1 by decide, hD, hg.1, hn.1, h0I, h0I, nlU⟩, by show (gix2 o τ D).1.length ≤ 100000; omega, by show (nms2 o (gix2 o τ D).2 _).1.length ≤ 100000; omega, by show 0 ≤ 100000; decide, by show 0 ≤ 100000; decide⟩
    · split
      · have hN := num_i64 uo τ
        have hW := one_i64 uo (num2 o τ).2
        have hp := pln_wf (o := o) (σ := (one2 o (num2 o τ).2).2) (one2 o (num2 o τ).2).1 D
        have hs := sgs_wf (o := o) (σ := (pln2 o (one2 o (num2 o τ).2).2 (one2 o (num2 o τ).2).1 D).2) D
        exact ⟨⟨show I64 2 by decide, hD, nlI, nlI, hN, hW, hp.2⟩, by show 0 ≤ 100000; decide, by show 0 ≤ 100000; decide, by show (pln2 o _ _ D).1.length ≤ 100000; omega, by show (sgs2 o _ D).1.length ≤ 100000; omega⟩
      · split
        · have hN := num_i64 uo τ
          have hs := sgs_wf (o := o) (σ := (num2 o τ).2) D
          exact ⟨⟨show I64 3 by decide, hD, nlI, nlI, hN, h0I, nlU⟩, by show 0 ≤ 100000; decide, by show 0 ≤ 100000; decide, by show 0 ≤ 100000; decide, by show (sgs2 o _ D).1.length ≤ 100000; omega⟩
        · exact ⟨⟨hX, hD, nlI, nlI, h0I, h0I, nlU⟩, by show 0 ≤ 100000; decide, by show 0 ≤ 100000; decide, by show 0 ≤ 100000; decide, by show 0 ≤ 100000; decide⟩
theorem frm_wf {o : List Int} (uo : U8s o) (hol : o.length ≤ 70000) : wfF (frm2 o).1 ∧ lnS 100000 (frm2 o).1.S := by
  unfold frm2
  have h0 := one_le (o := o) (σ := (0, false)) (Nat.zero_le _)
  obtain ⟨σ, hσ⟩ : ∃ σ : Rs, ((one2 o (0, false)).2.1, (one2 o (0, false)).2.2 || ((one2 o (0, false)).1 != 1)) = σ := ⟨_, rfl⟩
  have hs : σ.1 ≤ o.length := by rw [← hσ]; exact h0
  rw [hσ]
  unfold hed2
  have hK := one_i64 uo σ
  have h1 := one_le (o := o) hs
  have hF := num_i64 uo (one2 o σ).2
  have h2 := num_le uo h1
  have hT := num_i64 uo (num2 o (one2 o σ).2).2
  have h3 := num_le uo h2
  unfold bdy2
  split
  · have hv := vec_wf uo hol h3
    exact ⟨⟨hK, hF, hT, hv.1⟩, hv.2⟩
  · exact ⟨⟨hK, hF, hT, wf_zeroS⟩, by show 0 ≤ 100000; decide, by show 0 ≤ 100000; decide, by show 0 ≤ 100000; decide, by show 0 ≤ 100000; decide⟩
theorem openV_len (b : List Int) : (openV b).length ≤ b.length := by
  unfold openV
  split
  · simp
  · rw [List.length_take]; omega
theorem fr_Read (A : Option Addr) (c : Nat) (b : List Int) (hb : b.length ≤ 70000) (hcap : b.length ≤ c) (hc : c ≤ 9223372036854775807) (ub : U8s b) (w : World) (ra : Rd (Value.int .u8) w w.heap.size A b) :
    Calls Tryz.prog 30 #[.slice A b.length c] w (OwnFr (rdR b) w) := by
  rw [← pr_rd ub]
  have CO := hid (fun W (h : Below w.heap.size w W) => crc_Open (A := A) (c := c) b (by omega) hcap ub W ((ra.below h).more h.size))
  have HZ0 : Hid (BoxL (w.alloc (.cells #[.int .i64 0, .int .i64 0, .int .i64 0, .int .i64 0, .int .i64 0, .slice none 0 0, .slice none 0 0, .int .i64 0, .int .i64 0, .slice none 0 0, .slice none 0 0] 54)) w.heap.size (cellsG zeroF bareP)) := hid (BoxL.new w _ _)
  unfold prR
  by_cases he : openE b = 0
  · rw [if_neg (by rw [he]; decide)]
    rw [he] at CO
    have uo := openV_u8 ub
    have hol : (openV b).length ≤ 70000 := by have := openV_len b; omega
    obtain ⟨o, ho⟩ : ∃ o, openV b = o := ⟨_, rfl⟩
    rw [ho] at uo hol CO ⊢
    have hwf := frm_wf uo hol
    have CF := hid (fun (g : Nat) (A1 : Option Addr) (c1 : Nat) W h1 h2 hB hR hg => fr_frame (g := g) (c := c1) (A := A1) o h1 h2 hol uo W hB hR hg)
    obtain ⟨⟨f, ⟨a, z⟩⟩, hf⟩ : ∃ r, frm2 o = r := ⟨_, rfl⟩
    rw [hf] at CF hwf ⊢
    simp only at hwf
    have CF' : Hid (∀ (g : Nat) (A1 : Option Addr) (c1 : Nat) W, o.length ≤ c1 → c1 ≤ 9223372036854775807 → RdB W g A1 o.length c1 (0, false) → Rd (Value.int .u8) W g A1 o → g < W.heap.size → Calls Tryz.prog 62 #[.pointer (some ⟨g, 0, none⟩)] W fun e w' => ∃ p : SentP, e = .returned (.agg #[.int .i64 f.knd, .int .i64 f.frm, .int .i64 f.stp, .int .i64 f.S.sch, .int .i64 f.S.dim, .slice p.AL f.S.L.length p.cL, .slice p.AV f.S.V.length p.cV, .int .i64 f.S.scale, .int .i64 f.S.wide, .slice p.AE f.S.lev.length p.cE, .slice p.AN f.S.neg.length p.cN]) ∧ RdFS w' W.heap.size f.S p ∧ RdB w' g A1 o.length c1 (a, z) ∧ Off g g W w') := CF
    have CK := hid (fun p W hr => fs_Check f p hwf.2 hwf.1 W hr)
    unfold fin2
    simp only
    obtain ⟨C, hC⟩ : ∃ C, chkF f = C := ⟨_, rfl⟩
    rw [hC] at CK ⊢
    clear hC hwf CF hf ho he ra ub uo hb
    cases z with
    | true =>
      rw [if_pos (Or.inl rfl)]
      go_enter Tryz.func30, Tryz.ntmps30
      go_wp2_with fail
      refine (CO.out _ (by go_grown)).mono ?_
      rintro _ w1 ⟨A1, c1, rfl, ho1, hb1⟩
      have hcap1 := own_cap ho1
      have k1 : Below w.heap.size w w1 := Below.trans (by go_grown) (hb1.mono (by simp))
      have hz1 : w.heap.size < w1.heap.size := Nat.lt_of_lt_of_le (by simp) hb1.size
      have HZ1 := hid (HZ0.out.below hb1 (by simp))
      have HR1 := hid (own_rd ho1)
      have g1 := growd w1 (.cells #[.slice A1 o.length c1, .int .i64 0, .bool false] 93)
      have HB1 : Hid (RdB (w1.alloc (.cells #[.slice A1 o.length c1, .int .i64 0, .bool false] 93)) w1.heap.size A1 o.length c1 (0, false)) := hid (BoxL.new w1 _ _)
      have HA1 : Hid (Rd (Value.int .u8) (w1.alloc (.cells #[.slice A1 o.length c1, .int .i64 0, .bool false] 93)) w1.heap.size A1 o) := hid (HR1.out.below g1)
      have HZ2 := hid (HZ1.out.below g1 hz1)
      have C5 := hid (CF'.out w1.heap.size A1 c1 _ hcap1.1 hcap1.2 HB1.out HA1.out (by simp))
      have hs1 : (w1.alloc (.cells #[.slice A1 o.length c1, .int .i64 0, .bool false] 93)).heap.size = w1.heap.size + 1 := World.size_alloc _ _
      clear hb1 ho1 HZ0 HZ1 HR1 HB1 HA1 CF' CO hcap1
      go_wp2_with fail
      refine C5.out.mono ?_
      rintro _ w2 ⟨p, rfl, hr2, hb2, o2⟩
      rw [hs1] at hr2
      have k2 : Below w.heap.size w w2 := (k1.trans (g1.mono k1.size)).trans (o2.below (Nat.le_of_lt hz1) (Nat.le_of_lt hz1) (by rw [hs1]; omega))
      have hz2 : w1.heap.size < w2.heap.size := Nat.lt_of_lt_of_le (by rw [hs1]; omega) o2.size
      have HZ2' := hid (o2.box HZ2.out (by simp [cellsG]) (by omega) (by omega))
      have g3 := growd w2 (.cells #[.int .i64 f.knd, .int .i64 f.frm, .int .i64 f.stp, .int .i64 f.S.sch, .int .i64 f.S.dim, .slice p.AL f.S.L.length p.cL, .slice p.AV f.S.V.length p.cV, .int .i64 f.S.scale, .int .i64 f.S.wide, .slice p.AE f.S.lev.length p.cE, .slice p.AN f.S.neg.length p.cN] 54)
      have HN3 : Hid (BoxL (w2.alloc (.cells #[.int .i64 f.knd, .int .i64 f.frm, .int .i64 f.stp, .int .i64 f.S.sch, .int .i64 f.S.dim, .slice p.AL f.S.L.length p.cL, .slice p.AV f.S.V.length p.cV, .int .i64 f.S.scale, .int .i64 f.S.wide, .slice p.AE f.S.lev.length p.cE, .slice p.AN f.S.neg.length p.cN] 54)) w2.heap.size (cellsG f p)) := hid (BoxL.new w2 _ _)
      have HZ3 := hid (HZ2'.out.below g3 (by omega))
      have k3 : Below w.heap.size w (w2.alloc (.cells #[.int .i64 f.knd, .int .i64 f.frm, .int .i64 f.stp, .int .i64 f.S.sch, .int .i64 f.S.dim, .slice p.AL f.S.L.length p.cL, .slice p.AV f.S.V.length p.cV, .int .i64 f.S.scale, .int .i64 f.S.wide, .slice p.AE f.S.lev.length p.cE, .slice p.AN f.S.neg.length p.cN] 54)) := k2.trans (g3.mono k2.size)
      have hb3 := hb2.below g3 hz2
      obtain ⟨q0, q1, q2, _, _, _⟩ := RdB.three hb3
      have HQ : Hid (RdFS (w2.alloc (.cells #[.int .i64 f.knd, .int .i64 f.frm, .int .i64 f.stp, .int .i64 f.S.sch, .int .i64 f.S.dim, .slice p.AL f.S.L.length p.cL, .slice p.AV f.S.V.length p.cV, .int .i64 f.S.scale, .int .i64 f.S.wide, .slice p.AE f.S.lev.length p.cE, .slice p.AN f.S.neg.length p.cN] 54)) (w1.heap.size + 1) f.S p) := hid ⟨hr2.1.below g3, hr2.2.1.below g3, hr2.2.2.1.below g3, hr2.2.2.2.below g3⟩
      have hs3 : (w2.alloc (.cells #[.int .i64 f.knd, .int .i64 f.frm, .int .i64 f.stp, .int .i64 f.S.sch, .int .i64 f.S.dim, .slice p.AL f.S.L.length p.cL, .slice p.AV f.S.V.length p.cV, .int .i64 f.S.scale, .int .i64 f.S.wide, .slice p.AE f.S.lev.length p.cE, .slice p.AN f.S.neg.length p.cN] 54)).heap.size = w2.heap.size + 1 := World.size_alloc _ _
      simp only at q1 q2
      clear hr2 hb2 hb3 o2 k2 HZ2 HZ2' g3 g1 C5
      clear HQ HN3 q0 q1
      have hT11 := hid (box_there (o := 0) (n := 11) HZ3.out (by simp [cellsG]))
      have HG7 := hid (And.intro HZ3.out k3)
      clear HZ3 k3
      go_wp2_with (refine wpList_st rfl 54 _ _ rfl w.heap.size 0 #[.int .i64 0, .int .i64 0, .int .i64 0, .int .i64 0, .int .i64 0, .slice none 0 0, .slice none 0 0, .int .i64 0, .int .i64 0, .slice none 0 0, .slice none 0 0] rfl rfl hT11.out info_frame (by simp [Value.oneCell']) ?_)
      intro W8 hW8
      have HG8 : Hid (BoxL W8 w.heap.size (cellsG zeroF bareP) ∧ Below w.heap.size w W8) := hid (by
        rw [hW8.out]
        obtain ⟨hz7, k7⟩ := HG7.out
        exact ⟨lay11_box hz7 zeroF bareP, k7.trans ((lay11_off (w2.alloc (.cells #[.int .i64 f.knd, .int .i64 f.frm, .int .i64 f.stp, .int .i64 f.S.sch, .int .i64 f.S.dim, .slice p.AL f.S.L.length p.cL, .slice p.AV f.S.V.length p.cV, .int .i64 f.S.scale, .int .i64 f.S.wide, .slice p.AE f.S.lev.length p.cE, .slice p.AN f.S.neg.length p.cN] 54)) w.heap.size zeroF bareP).below (Nat.le_refl _) (Nat.le_refl _) k7.size)⟩)
      clear hW8 HG7 hT11
      obtain ⟨⟨z0, z1, z2, z3, z4, z5, z6, z7, z8, z9, z10⟩, _⟩ := box_G HG8.out.1
      go_wp2_with fail
      refine bodyPost_ret (v := .tuple #[encF zeroF bareP, .int .i64 6]) (by simp [results, Tryz.results30, go_sem, z0, z1, z2, z3, z4, z5, z6, z7, z8, z9, z10, zeroF, zeroS, bareP]) rfl ⟨bareP, rfl, ⟨Rd.none_, Rd.none_, Rd.none_, Rd.none_⟩, HG8.out.2⟩
    | false =>
      by_cases ha : a < o.length
      · rw [if_pos (Or.inr (Or.inl ha))]
        have ha' : (a : Int) < (o.length : Int) := by omega
        clear ha
        go_enter Tryz.func30, Tryz.ntmps30
        go_wp2_with fail
        refine (CO.out _ (by go_grown)).mono ?_
        rintro _ w1 ⟨A1, c1, rfl, ho1, hb1⟩
        have hcap1 := own_cap ho1
        have k1 : Below w.heap.size w w1 := Below.trans (by go_grown) (hb1.mono (by simp))
        have hz1 : w.heap.size < w1.heap.size := Nat.lt_of_lt_of_le (by simp) hb1.size
        have HZ1 := hid (HZ0.out.below hb1 (by simp))
        have HR1 := hid (own_rd ho1)
        have g1 := growd w1 (.cells #[.slice A1 o.length c1, .int .i64 0, .bool false] 93)
        have HB1 : Hid (RdB (w1.alloc (.cells #[.slice A1 o.length c1, .int .i64 0, .bool false] 93)) w1.heap.size A1 o.length c1 (0, false)) := hid (BoxL.new w1 _ _)
        have HA1 : Hid (Rd (Value.int .u8) (w1.alloc (.cells #[.slice A1 o.length c1, .int .i64 0, .bool false] 93)) w1.heap.size A1 o) := hid (HR1.out.below g1)
        have HZ2 := hid (HZ1.out.below g1 hz1)
        have C5 := hid (CF'.out w1.heap.size A1 c1 _ hcap1.1 hcap1.2 HB1.out HA1.out (by simp))
        have hs1 : (w1.alloc (.cells #[.slice A1 o.length c1, .int .i64 0, .bool false] 93)).heap.size = w1.heap.size + 1 := World.size_alloc _ _
        clear hb1 ho1 HZ0 HZ1 HR1 HB1 HA1 CF' CO hcap1
        go_wp2_with fail
        refine C5.out.mono ?_
        rintro _ w2 ⟨p, rfl, hr2, hb2, o2⟩
        rw [hs1] at hr2
        have k2 : Below w.heap.size w w2 := (k1.trans (g1.mono k1.size)).trans (o2.below (Nat.le_of_lt hz1) (Nat.le_of_lt hz1) (by rw [hs1]; omega))
        have hz2 : w1.heap.size < w2.heap.size := Nat.lt_of_lt_of_le (by rw [hs1]; omega) o2.size
        have HZ2' := hid (o2.box HZ2.out (by simp [cellsG]) (by omega) (by omega))
        have g3 := growd w2 (.cells #[.int .i64 f.knd, .int .i64 f.frm, .int .i64 f.stp, .int .i64 f.S.sch, .int .i64 f.S.dim, .slice p.AL f.S.L.length p.cL, .slice p.AV f.S.V.length p.cV, .int .i64 f.S.scale, .int .i64 f.S.wide, .slice p.AE f.S.lev.length p.cE, .slice p.AN f.S.neg.length p.cN] 54)
        have HN3 : Hid (BoxL (w2.alloc (.cells #[.int .i64 f.knd, .int .i64 f.frm, .int .i64 f.stp, .int .i64 f.S.sch, .int .i64 f.S.dim, .slice p.AL f.S.L.length p.cL, .slice p.AV f.S.V.length p.cV, .int .i64 f.S.scale, .int .i64 f.S.wide, .slice p.AE f.S.lev.length p.cE, .slice p.AN f.S.neg.length p.cN] 54)) w2.heap.size (cellsG f p)) := hid (BoxL.new w2 _ _)
        have HZ3 := hid (HZ2'.out.below g3 (by omega))
        have k3 : Below w.heap.size w (w2.alloc (.cells #[.int .i64 f.knd, .int .i64 f.frm, .int .i64 f.stp, .int .i64 f.S.sch, .int .i64 f.S.dim, .slice p.AL f.S.L.length p.cL, .slice p.AV f.S.V.length p.cV, .int .i64 f.S.scale, .int .i64 f.S.wide, .slice p.AE f.S.lev.length p.cE, .slice p.AN f.S.neg.length p.cN] 54)) := k2.trans (g3.mono k2.size)
        have hb3 := hb2.below g3 hz2
        obtain ⟨q0, q1, q2, _, _, _⟩ := RdB.three hb3
        have HQ : Hid (RdFS (w2.alloc (.cells #[.int .i64 f.knd, .int .i64 f.frm, .int .i64 f.stp, .int .i64 f.S.sch, .int .i64 f.S.dim, .slice p.AL f.S.L.length p.cL, .slice p.AV f.S.V.length p.cV, .int .i64 f.S.scale, .int .i64 f.S.wide, .slice p.AE f.S.lev.length p.cE, .slice p.AN f.S.neg.length p.cN] 54)) (w1.heap.size + 1) f.S p) := hid ⟨hr2.1.below g3, hr2.2.1.below g3, hr2.2.2.1.below g3, hr2.2.2.2.below g3⟩
        have hs3 : (w2.alloc (.cells #[.int .i64 f.knd, .int .i64 f.frm, .int .i64 f.stp, .int .i64 f.S.sch, .int .i64 f.S.dim, .slice p.AL f.S.L.length p.cL, .slice p.AV f.S.V.length p.cV, .int .i64 f.S.scale, .int .i64 f.S.wide, .slice p.AE f.S.lev.length p.cE, .slice p.AN f.S.neg.length p.cN] 54)).heap.size = w2.heap.size + 1 := World.size_alloc _ _
        simp only at q1 q2
        clear hr2 hb2 hb3 o2 k2 HZ2 HZ2' g3 g1 C5
        clear HQ HN3
        have hT11 := hid (box_there (o := 0) (n := 11) HZ3.out (by simp [cellsG]))
        have HG7 := hid (And.intro HZ3.out k3)
        clear HZ3 k3
        go_wp2_with (refine wpList_st rfl 54 _ _ rfl w.heap.size 0 #[.int .i64 0, .int .i64 0, .int .i64 0, .int .i64 0, .int .i64 0, .slice none 0 0, .slice none 0 0, .int .i64 0, .int .i64 0, .slice none 0 0, .slice none 0 0] rfl rfl hT11.out info_frame (by simp [Value.oneCell']) ?_)
        intro W8 hW8
        have HG8 : Hid (BoxL W8 w.heap.size (cellsG zeroF bareP) ∧ Below w.heap.size w W8) := hid (by
          rw [hW8.out]
          obtain ⟨hz7, k7⟩ := HG7.out
          exact ⟨lay11_box hz7 zeroF bareP, k7.trans ((lay11_off (w2.alloc (.cells #[.int .i64 f.knd, .int .i64 f.frm, .int .i64 f.stp, .int .i64 f.S.sch, .int .i64 f.S.dim, .slice p.AL f.S.L.length p.cL, .slice p.AV f.S.V.length p.cV, .int .i64 f.S.scale, .int .i64 f.S.wide, .slice p.AE f.S.lev.length p.cE, .slice p.AN f.S.neg.length p.cN] 54)) w.heap.size zeroF bareP).below (Nat.le_refl _) (Nat.le_refl _) k7.size)⟩)
        clear hW8 HG7 hT11
        obtain ⟨⟨z0, z1, z2, z3, z4, z5, z6, z7, z8, z9, z10⟩, _⟩ := box_G HG8.out.1
        go_wp2_with fail
        refine bodyPost_ret (v := .tuple #[encF zeroF bareP, .int .i64 6]) (by simp [results, Tryz.results30, go_sem, z0, z1, z2, z3, z4, z5, z6, z7, z8, z9, z10, zeroF, zeroS, bareP]) rfl ⟨bareP, rfl, ⟨Rd.none_, Rd.none_, Rd.none_, Rd.none_⟩, HG8.out.2⟩
      · have ha' : ¬ (a : Int) < (o.length : Int) := by omega
        by_cases hC : C = 0
        · rw [if_neg (by simp [ha, hC])]
          subst hC
          clear ha
          go_enter Tryz.func30, Tryz.ntmps30
          go_wp2_with fail
          refine (CO.out _ (by go_grown)).mono ?_
          rintro _ w1 ⟨A1, c1, rfl, ho1, hb1⟩
          have hcap1 := own_cap ho1
          have k1 : Below w.heap.size w w1 := Below.trans (by go_grown) (hb1.mono (by simp))
          have hz1 : w.heap.size < w1.heap.size := Nat.lt_of_lt_of_le (by simp) hb1.size
          have HZ1 := hid (HZ0.out.below hb1 (by simp))
          have HR1 := hid (own_rd ho1)
          have g1 := growd w1 (.cells #[.slice A1 o.length c1, .int .i64 0, .bool false] 93)
          have HB1 : Hid (RdB (w1.alloc (.cells #[.slice A1 o.length c1, .int .i64 0, .bool false] 93)) w1.heap.size A1 o.length c1 (0, false)) := hid (BoxL.new w1 _ _)
          have HA1 : Hid (Rd (Value.int .u8) (w1.alloc (.cells #[.slice A1 o.length c1, .int .i64 0, .bool false] 93)) w1.heap.size A1 o) := hid (HR1.out.below g1)
          have HZ2 := hid (HZ1.out.below g1 hz1)
          have C5 := hid (CF'.out w1.heap.size A1 c1 _ hcap1.1 hcap1.2 HB1.out HA1.out (by simp))
          have hs1 : (w1.alloc (.cells #[.slice A1 o.length c1, .int .i64 0, .bool false] 93)).heap.size = w1.heap.size + 1 := World.size_alloc _ _
          clear hb1 ho1 HZ0 HZ1 HR1 HB1 HA1 CF' CO hcap1
          go_wp2_with fail
          refine C5.out.mono ?_
          rintro _ w2 ⟨p, rfl, hr2, hb2, o2⟩
          rw [hs1] at hr2
          have k2 : Below w.heap.size w w2 := (k1.trans (g1.mono k1.size)).trans (o2.below (Nat.le_of_lt hz1) (Nat.le_of_lt hz1) (by rw [hs1]; omega))
          have hz2 : w1.heap.size < w2.heap.size := Nat.lt_of_lt_of_le (by rw [hs1]; omega) o2.size
          have HZ2' := hid (o2.box HZ2.out (by simp [cellsG]) (by omega) (by omega))
          have g3 := growd w2 (.cells #[.int .i64 f.knd, .int .i64 f.frm, .int .i64 f.stp, .int .i64 f.S.sch, .int .i64 f.S.dim, .slice p.AL f.S.L.length p.cL, .slice p.AV f.S.V.length p.cV, .int .i64 f.S.scale, .int .i64 f.S.wide, .slice p.AE f.S.lev.length p.cE, .slice p.AN f.S.neg.length p.cN] 54)
          have HN3 : Hid (BoxL (w2.alloc (.cells #[.int .i64 f.knd, .int .i64 f.frm, .int .i64 f.stp, .int .i64 f.S.sch, .int .i64 f.S.dim, .slice p.AL f.S.L.length p.cL, .slice p.AV f.S.V.length p.cV, .int .i64 f.S.scale, .int .i64 f.S.wide, .slice p.AE f.S.lev.length p.cE, .slice p.AN f.S.neg.length p.cN] 54)) w2.heap.size (cellsG f p)) := hid (BoxL.new w2 _ _)
          have HZ3 := hid (HZ2'.out.below g3 (by omega))
          have k3 : Below w.heap.size w (w2.alloc (.cells #[.int .i64 f.knd, .int .i64 f.frm, .int .i64 f.stp, .int .i64 f.S.sch, .int .i64 f.S.dim, .slice p.AL f.S.L.length p.cL, .slice p.AV f.S.V.length p.cV, .int .i64 f.S.scale, .int .i64 f.S.wide, .slice p.AE f.S.lev.length p.cE, .slice p.AN f.S.neg.length p.cN] 54)) := k2.trans (g3.mono k2.size)
          have hb3 := hb2.below g3 hz2
          obtain ⟨q0, q1, q2, _, _, _⟩ := RdB.three hb3
          have HQ : Hid (RdFS (w2.alloc (.cells #[.int .i64 f.knd, .int .i64 f.frm, .int .i64 f.stp, .int .i64 f.S.sch, .int .i64 f.S.dim, .slice p.AL f.S.L.length p.cL, .slice p.AV f.S.V.length p.cV, .int .i64 f.S.scale, .int .i64 f.S.wide, .slice p.AE f.S.lev.length p.cE, .slice p.AN f.S.neg.length p.cN] 54)) (w1.heap.size + 1) f.S p) := hid ⟨hr2.1.below g3, hr2.2.1.below g3, hr2.2.2.1.below g3, hr2.2.2.2.below g3⟩
          have hs3 : (w2.alloc (.cells #[.int .i64 f.knd, .int .i64 f.frm, .int .i64 f.stp, .int .i64 f.S.sch, .int .i64 f.S.dim, .slice p.AL f.S.L.length p.cL, .slice p.AV f.S.V.length p.cV, .int .i64 f.S.scale, .int .i64 f.S.wide, .slice p.AE f.S.lev.length p.cE, .slice p.AN f.S.neg.length p.cN] 54)).heap.size = w2.heap.size + 1 := World.size_alloc _ _
          simp only at q1 q2
          clear hr2 hb2 hb3 o2 k2 HZ2 HZ2' g3 g1 C5
          have hRS : RdS (w2.alloc (.cells #[.int .i64 f.knd, .int .i64 f.frm, .int .i64 f.stp, .int .i64 f.S.sch, .int .i64 f.S.dim, .slice p.AL f.S.L.length p.cL, .slice p.AV f.S.V.length p.cV, .int .i64 f.S.scale, .int .i64 f.S.wide, .slice p.AE f.S.lev.length p.cE, .slice p.AN f.S.neg.length p.cN] 54)) (w2.alloc (.cells #[.int .i64 f.knd, .int .i64 f.frm, .int .i64 f.stp, .int .i64 f.S.sch, .int .i64 f.S.dim, .slice p.AL f.S.L.length p.cL, .slice p.AV f.S.V.length p.cV, .int .i64 f.S.scale, .int .i64 f.S.wide, .slice p.AE f.S.lev.length p.cE, .slice p.AN f.S.neg.length p.cN] 54)).heap.size f.S p := ⟨HQ.out.1.rd, HQ.out.2.1.rd, HQ.out.2.2.1.rd, HQ.out.2.2.2.rd⟩
          have CK1 := hid (CK.out p _ hRS)
          clear hRS CK
          go_wp2_with fail
          refine CK1.out.mono ?_
          rintro _ w4 ⟨rfl, hb4⟩
          have HN4 := hid (HN3.out.below hb4 (by rw [hs3]; omega))
          have HZ4 := hid (HZ3.out.below hb4 (by rw [hs3]; omega))
          have k4 := k3.trans (hb4.mono k3.size)
          have HQ4 : Hid (RdFS w4 (w1.heap.size + 1) f.S p) := hid ⟨HQ.out.1.below hb4, HQ.out.2.1.below hb4, HQ.out.2.2.1.below hb4, HQ.out.2.2.2.below hb4⟩
          clear HQ HN3 HZ3 k3 q0 q1 q2 hb4 CK1
          obtain ⟨⟨n0, n1, n2, n3, n4, n5, n6, n7, n8, n9, n10⟩, _⟩ := box_G HN4.out
          have hT11 := hid (box_there (o := 0) (n := 11) HZ4.out (by simp [cellsG]))
          have HG7 := hid (And.intro HZ4.out (And.intro k4 HQ4.out))
          clear HQ4 HN4 HZ4 k4
          go_wp2_with (refine wpList_st rfl 54 _ _ rfl w.heap.size 0 #[.int .i64 f.knd, .int .i64 f.frm, .int .i64 f.stp, .int .i64 f.S.sch, .int .i64 f.S.dim, .slice p.AL f.S.L.length p.cL, .slice p.AV f.S.V.length p.cV, .int .i64 f.S.scale, .int .i64 f.S.wide, .slice p.AE f.S.lev.length p.cE, .slice p.AN f.S.neg.length p.cN] rfl rfl hT11.out info_frame (by simp [Value.oneCell']) ?_)
          intro W8 hW8
          have HG8 : Hid (BoxL W8 w.heap.size (cellsG f p) ∧ Below w.heap.size w W8 ∧ RdS W8 W8.heap.size f.S p) := hid (by
            rw [hW8.out]
            obtain ⟨hz7, k7, hq7⟩ := HG7.out
            have ob := lay11_off w4 w.heap.size f p
            have e1 : w.heap.size < w1.heap.size + 1 := by omega
            exact ⟨lay11_box hz7 f p, k7.trans (ob.below (Nat.le_refl _) (Nat.le_refl _) k7.size), (hq7.1.off ob e1 e1).rd, (hq7.2.1.off ob e1 e1).rd, (hq7.2.2.1.off ob e1 e1).rd, (hq7.2.2.2.off ob e1 e1).rd⟩)
          clear hW8 HG7 hT11 n0 n1 n2 n3 n4 n5 n6 n7 n8 n9 n10
          obtain ⟨⟨z0, z1, z2, z3, z4, z5, z6, z7, z8, z9, z10⟩, _⟩ := box_G HG8.out.1
          go_wp2_with fail
          refine bodyPost_ret (v := .tuple #[encF f p, .int .i64 0]) (by simp [results, Tryz.results30, go_sem, z0, z1, z2, z3, z4, z5, z6, z7, z8, z9, z10]) rfl ⟨p, rfl, HG8.out.2.2, HG8.out.2.1⟩
        · rw [if_pos (Or.inr (Or.inr hC))]
          have gC : (C != 0) = true := by simpa using hC
          clear ha hC
          go_enter Tryz.func30, Tryz.ntmps30
          go_wp2_with fail
          refine (CO.out _ (by go_grown)).mono ?_
          rintro _ w1 ⟨A1, c1, rfl, ho1, hb1⟩
          have hcap1 := own_cap ho1
          have k1 : Below w.heap.size w w1 := Below.trans (by go_grown) (hb1.mono (by simp))
          have hz1 : w.heap.size < w1.heap.size := Nat.lt_of_lt_of_le (by simp) hb1.size
          have HZ1 := hid (HZ0.out.below hb1 (by simp))
          have HR1 := hid (own_rd ho1)
          have g1 := growd w1 (.cells #[.slice A1 o.length c1, .int .i64 0, .bool false] 93)
          have HB1 : Hid (RdB (w1.alloc (.cells #[.slice A1 o.length c1, .int .i64 0, .bool false] 93)) w1.heap.size A1 o.length c1 (0, false)) := hid (BoxL.new w1 _ _)
          have HA1 : Hid (Rd (Value.int .u8) (w1.alloc (.cells #[.slice A1 o.length c1, .int .i64 0, .bool false] 93)) w1.heap.size A1 o) := hid (HR1.out.below g1)
          have HZ2 := hid (HZ1.out.below g1 hz1)
          have C5 := hid (CF'.out w1.heap.size A1 c1 _ hcap1.1 hcap1.2 HB1.out HA1.out (by simp))
          have hs1 : (w1.alloc (.cells #[.slice A1 o.length c1, .int .i64 0, .bool false] 93)).heap.size = w1.heap.size + 1 := World.size_alloc _ _
          clear hb1 ho1 HZ0 HZ1 HR1 HB1 HA1 CF' CO hcap1
          go_wp2_with fail
          refine C5.out.mono ?_
          rintro _ w2 ⟨p, rfl, hr2, hb2, o2⟩
          rw [hs1] at hr2
          have k2 : Below w.heap.size w w2 := (k1.trans (g1.mono k1.size)).trans (o2.below (Nat.le_of_lt hz1) (Nat.le_of_lt hz1) (by rw [hs1]; omega))
          have hz2 : w1.heap.size < w2.heap.size := Nat.lt_of_lt_of_le (by rw [hs1]; omega) o2.size
          have HZ2' := hid (o2.box HZ2.out (by simp [cellsG]) (by omega) (by omega))
          have g3 := growd w2 (.cells #[.int .i64 f.knd, .int .i64 f.frm, .int .i64 f.stp, .int .i64 f.S.sch, .int .i64 f.S.dim, .slice p.AL f.S.L.length p.cL, .slice p.AV f.S.V.length p.cV, .int .i64 f.S.scale, .int .i64 f.S.wide, .slice p.AE f.S.lev.length p.cE, .slice p.AN f.S.neg.length p.cN] 54)
          have HN3 : Hid (BoxL (w2.alloc (.cells #[.int .i64 f.knd, .int .i64 f.frm, .int .i64 f.stp, .int .i64 f.S.sch, .int .i64 f.S.dim, .slice p.AL f.S.L.length p.cL, .slice p.AV f.S.V.length p.cV, .int .i64 f.S.scale, .int .i64 f.S.wide, .slice p.AE f.S.lev.length p.cE, .slice p.AN f.S.neg.length p.cN] 54)) w2.heap.size (cellsG f p)) := hid (BoxL.new w2 _ _)
          have HZ3 := hid (HZ2'.out.below g3 (by omega))
          have k3 : Below w.heap.size w (w2.alloc (.cells #[.int .i64 f.knd, .int .i64 f.frm, .int .i64 f.stp, .int .i64 f.S.sch, .int .i64 f.S.dim, .slice p.AL f.S.L.length p.cL, .slice p.AV f.S.V.length p.cV, .int .i64 f.S.scale, .int .i64 f.S.wide, .slice p.AE f.S.lev.length p.cE, .slice p.AN f.S.neg.length p.cN] 54)) := k2.trans (g3.mono k2.size)
          have hb3 := hb2.below g3 hz2
          obtain ⟨q0, q1, q2, _, _, _⟩ := RdB.three hb3
          have HQ : Hid (RdFS (w2.alloc (.cells #[.int .i64 f.knd, .int .i64 f.frm, .int .i64 f.stp, .int .i64 f.S.sch, .int .i64 f.S.dim, .slice p.AL f.S.L.length p.cL, .slice p.AV f.S.V.length p.cV, .int .i64 f.S.scale, .int .i64 f.S.wide, .slice p.AE f.S.lev.length p.cE, .slice p.AN f.S.neg.length p.cN] 54)) (w1.heap.size + 1) f.S p) := hid ⟨hr2.1.below g3, hr2.2.1.below g3, hr2.2.2.1.below g3, hr2.2.2.2.below g3⟩
          have hs3 : (w2.alloc (.cells #[.int .i64 f.knd, .int .i64 f.frm, .int .i64 f.stp, .int .i64 f.S.sch, .int .i64 f.S.dim, .slice p.AL f.S.L.length p.cL, .slice p.AV f.S.V.length p.cV, .int .i64 f.S.scale, .int .i64 f.S.wide, .slice p.AE f.S.lev.length p.cE, .slice p.AN f.S.neg.length p.cN] 54)).heap.size = w2.heap.size + 1 := World.size_alloc _ _
          simp only at q1 q2
          clear hr2 hb2 hb3 o2 k2 HZ2 HZ2' g3 g1 C5
          have hRS : RdS (w2.alloc (.cells #[.int .i64 f.knd, .int .i64 f.frm, .int .i64 f.stp, .int .i64 f.S.sch, .int .i64 f.S.dim, .slice p.AL f.S.L.length p.cL, .slice p.AV f.S.V.length p.cV, .int .i64 f.S.scale, .int .i64 f.S.wide, .slice p.AE f.S.lev.length p.cE, .slice p.AN f.S.neg.length p.cN] 54)) (w2.alloc (.cells #[.int .i64 f.knd, .int .i64 f.frm, .int .i64 f.stp, .int .i64 f.S.sch, .int .i64 f.S.dim, .slice p.AL f.S.L.length p.cL, .slice p.AV f.S.V.length p.cV, .int .i64 f.S.scale, .int .i64 f.S.wide, .slice p.AE f.S.lev.length p.cE, .slice p.AN f.S.neg.length p.cN] 54)).heap.size f.S p := ⟨HQ.out.1.rd, HQ.out.2.1.rd, HQ.out.2.2.1.rd, HQ.out.2.2.2.rd⟩
          have CK1 := hid (CK.out p _ hRS)
          clear hRS CK
          go_wp2_with fail
          refine CK1.out.mono ?_
          rintro _ w4 ⟨rfl, hb4⟩
          have HN4 := hid (HN3.out.below hb4 (by rw [hs3]; omega))
          have HZ4 := hid (HZ3.out.below hb4 (by rw [hs3]; omega))
          have k4 := k3.trans (hb4.mono k3.size)
          have HQ4 : Hid (RdFS w4 (w1.heap.size + 1) f.S p) := hid ⟨HQ.out.1.below hb4, HQ.out.2.1.below hb4, HQ.out.2.2.1.below hb4, HQ.out.2.2.2.below hb4⟩
          clear HQ HN3 HZ3 k3 q0 q1 q2 hb4 CK1
          clear HQ4 HN4
          have hT11 := hid (box_there (o := 0) (n := 11) HZ4.out (by simp [cellsG]))
          have HG7 := hid (And.intro HZ4.out k4)
          clear HZ4 k4
          go_wp2_with (refine wpList_st rfl 54 _ _ rfl w.heap.size 0 #[.int .i64 0, .int .i64 0, .int .i64 0, .int .i64 0, .int .i64 0, .slice none 0 0, .slice none 0 0, .int .i64 0, .int .i64 0, .slice none 0 0, .slice none 0 0] rfl rfl hT11.out info_frame (by simp [Value.oneCell']) ?_)
          intro W8 hW8
          have HG8 : Hid (BoxL W8 w.heap.size (cellsG zeroF bareP) ∧ Below w.heap.size w W8) := hid (by
            rw [hW8.out]
            obtain ⟨hz7, k7⟩ := HG7.out
            exact ⟨lay11_box hz7 zeroF bareP, k7.trans ((lay11_off w4 w.heap.size zeroF bareP).below (Nat.le_refl _) (Nat.le_refl _) k7.size)⟩)
          clear hW8 HG7 hT11
          obtain ⟨⟨z0, z1, z2, z3, z4, z5, z6, z7, z8, z9, z10⟩, _⟩ := box_G HG8.out.1
          go_wp2_with fail
          refine bodyPost_ret (v := .tuple #[encF zeroF bareP, .int .i64 6]) (by simp [results, Tryz.results30, go_sem, z0, z1, z2, z3, z4, z5, z6, z7, z8, z9, z10, zeroF, zeroS, bareP]) rfl ⟨bareP, rfl, ⟨Rd.none_, Rd.none_, Rd.none_, Rd.none_⟩, HG8.out.2⟩
  · rw [if_pos he]
    obtain ⟨V, hV⟩ : ∃ V, openV b = V := ⟨_, rfl⟩
    obtain ⟨E, hE⟩ : ∃ E, openE b = E := ⟨_, rfl⟩
    rw [hV, hE] at CO
    rw [hE] at he ⊢
    have gE : (E != 0) = true := by simpa using he
    clear hV hE he ra ub
    go_enter Tryz.func30, Tryz.ntmps30
    go_wp2_with fail
    refine (CO.out _ (by go_grown)).mono ?_
    rintro _ w1 ⟨A1, c1, rfl, _, hb1⟩
    have k1 : Below w.heap.size w w1 := Below.trans (by go_grown) (hb1.mono (by simp))
    have HZ1 := hid (HZ0.out.below hb1 (by simp))
    have hT11 := hid (box_there (o := 0) (n := 11) HZ1.out (by simp [cellsG]))
    have HG7 := hid (And.intro HZ1.out k1)
    clear hb1 HZ0 HZ1 k1 CO
    go_wp2_with (refine wpList_st rfl 54 _ _ rfl w.heap.size 0 #[.int .i64 0, .int .i64 0, .int .i64 0, .int .i64 0, .int .i64 0, .slice none 0 0, .slice none 0 0, .int .i64 0, .int .i64 0, .slice none 0 0, .slice none 0 0] rfl rfl hT11.out info_frame (by simp [Value.oneCell']) ?_)
    intro W8 hW8
    have HG8 : Hid (BoxL W8 w.heap.size (cellsG zeroF bareP) ∧ Below w.heap.size w W8) := hid (by
      rw [hW8.out]
      obtain ⟨hz7, k7⟩ := HG7.out
      exact ⟨lay11_box hz7 zeroF bareP, k7.trans ((lay11_off w1 w.heap.size zeroF bareP).below (Nat.le_refl _) (Nat.le_refl _) k7.size)⟩)
    clear hW8 HG7 hT11
    obtain ⟨⟨z0, z1, z2, z3, z4, z5, z6, z7, z8, z9, z10⟩, _⟩ := box_G HG8.out.1
    go_wp2_with fail
    refine bodyPost_ret (v := .tuple #[encF zeroF bareP, .int .i64 E]) (by simp [results, Tryz.results30, go_sem, z0, z1, z2, z3, z4, z5, z6, z7, z8, z9, z10, zeroF, zeroS, bareP]) rfl ⟨bareP, rfl, ⟨Rd.none_, Rd.none_, Rd.none_, Rd.none_⟩, HG8.out.2⟩
end Go.Proofs.YtecgbelgoomneaaGreat
