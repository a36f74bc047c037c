
/- Ye: texts joined: SgB FrD FrE FsC SpA SpB FsG FsL FsQ FsD FrF ArgF ArgV ArgT ArgH. -/
import Derived.Test.YtecgbelgoomneaaGreatYd
import Derived.Test.YtecgbelgoomneaaGreatYFrC
import Derived.Test.YtecgbelgoomneaaGreatYb
import Derived.Test.YtecgbelgoomneaaGreatYa
import Derived.Deep.RegionLaw
import Derived.Test.YtecgbelgoomneaaGreatYFsB
import Derived.Test.YtecgbelgoomneaaGreatYc
import Derived.Deep.RegionHeld3
import Derived.ChangeSame
import Derived.Deep.Slices
/- Loosened; whether one is pressed so: by the document. -/
namespace Go.Proofs.YtecgbelgoomneaaGreat
open Go.RowKit
set_option maxHeartbeats 1000000
set_option maxRecDepth 100000
set_option linter.unusedVariables false
theorem may_sg {s : SentV} (hm : mayB s = true) (h3 : s.sch = 3) : s.neg.length ≤ 4096 ∧ 0 ≤ s.scale ∧ s.dim = (s.neg.length : Int) ∧ s.L = [] ∧ s.V = [] ∧ s.wide = 0 ∧ s.lev = [] := by
  have h := mayB_iff.1 hm
  unfold mayP at h
  obtain ⟨a, b, h⟩ := h
  rcases h with h | h | h | ⟨_, c, d, e, f, g, i⟩
  · omega
  · omega
  · omega
  · exact ⟨by omega, g, by omega, c, d, e, f⟩
theorem ref_Loosen11 (s : SentV) (p : SentP) (hn : lnS 100000 s) (hw : wfS s) (w : World) (ra : RdS w w.heap.size s p) :
    Calls Tryz.prog 45 #[encT s p] w (OwnE 2 .i64 w.heap.size (lsgV s) (lsgE s) w) := by
  obtain ⟨AL, cL, AV, cV, AE, cE, AN, cN⟩ := p
  have CM := hid (fun W (h : Below w.heap.size w W) => show Calls Tryz.prog 43 #[.agg #[.int .i64 s.sch, .int .i64 s.dim, .slice AL s.L.length cL, .slice AV s.V.length cV, .int .i64 s.scale, .int .i64 s.wide, .slice AE s.lev.length cE, .slice AN s.neg.length cN]] W fun e w' => e = .returned (.bool (mayB s)) ∧ Below W.heap.size W w' from ref_May s ⟨AL, cL, AV, cV, AE, cE, AN, cN⟩ hn hw W (B := w.heap.size) h.size (ra.below h))
  show Calls Tryz.prog 45 #[.agg #[.int .i64 s.sch, .int .i64 s.dim, .slice AL s.L.length cL, .slice AV s.V.length cV, .int .i64 s.scale, .int .i64 s.wide, .slice AE s.lev.length cE, .slice AN s.neg.length cN]] w _
  by_cases hm : mayB s = true
  · rw [hm] at CM
    by_cases h2 : s.sch = 3
    · have he : lsgE s = 0 := if_pos ⟨hm, h2⟩
      have hv : lsgV s = lsgL s.scale s.neg := if_pos he
      rw [he, hv]
      obtain ⟨m1, m2, m3, m4, m5, m6, m7⟩ := may_sg hm h2
      have hsc := hw.2.2.2.2.1
      have HSL := hid (fun (q : Nat) (b : Bool) (hb : s.neg[q]? = some b) => lsgL_snoc (scale := s.scale) hb)
      have HLE := hid (show lsgL s.scale (s.neg.take s.neg.length) = lsgL s.scale s.neg by rw [List.take_length])
      have HLL := hid (fun q => show (lsgL s.scale (s.neg.take q)).length ≤ s.neg.length by unfold lsgL; rw [List.length_map, List.length_take]; omega)
      have H0 : Hid (lsgL s.scale (s.neg.take 0) = []) := rfl
      have RN : Hid (Rd Value.bool w w.heap.size AN s.neg) := hid ra.2.2.2
      have hs63 : s.scale ≤ 9223372036854775807 := by unfold I64 at hsc; omega
      have H2 := hid h2
      obtain ⟨Z, hZ⟩ : ∃ Z, -s.scale = Z := ⟨_, rfl⟩
      have hneg : IntKind.i64.wrap (-s.scale) = Z := by rw [IntKind.wrap_i64]; omega
      have hneg2 : wrap64 (-s.scale) = Z := by rw [wrap64_eq]; omega
      have HZ := hid hZ
      clear he hv hm ra hn hw hsc h2 hZ m3 m4 m5 m6 m7
      go_enter Tryz.func45, Tryz.ntmps45
      go_wp2_with fail
      have B0 := BoxL.new w [.int .i64 s.sch, .int .i64 s.dim, .slice AL s.L.length cL, .slice AV s.V.length cV, .int .i64 s.scale, .int .i64 s.wide, .slice AE s.lev.length cE, .slice AN s.neg.length cN] 32
      refine (CM.out _ (by go_grown)).mono ?_
      rintro _ w1 ⟨rfl, hb⟩
      have HB1 := hid (B0.below hb (by simp))
      have k1 : Below w.heap.size w w1 := Below.trans (by go_grown) (hb.mono (by simp))
      have hg1 : w.heap.size < w1.heap.size := by have := hb.size; simp at this; omega
      have f0 := (HB1.out 0 _ rfl).1
      rw [H2.out] at f0
      have f7 := (HB1.out 7 _ rfl).1
      clear B0 hb CM
      go_wp2_with fail
      clear f0 f7
      go_loopw [4, 6, 18] (fun o x6 i wr => ∃ (k : Nat) (S : List Int) (A2 : Option Addr) (c2 : Nat), k ≤ s.neg.length ∧ i = .int .i64 k ∧ o = .slice A2 S.length c2 ∧ S = lsgL s.scale (s.neg.take k) ∧ wr.ownsRow w1.heap.size 2 1 (.slice A2 S.length c2) S.length (S.map (Value.int .i64)) ∧ Below w1.heap.size w1 wr) (fun _ _ i _ => s.neg.length - (intOf i).toNat)
      case atStart => exact ⟨0, [], none, 0, by omega, rfl, rfl, H0.out.symm, own_nil _ _ _, Below.refl _ _⟩
      case round =>
        obtain ⟨k, S, A2, c2, hk, rfl, rfl, hS, hown, hbr⟩ := hrel
        have HS := hid hS
        have HO := hid hown
        have lS : S.length ≤ 4096 := by have := HLL.out k; rw [hS]; omega
        clear hS hown
        by_cases hlt : k < s.neg.length
        · have kw := k1.trans (hbr.mono k1.size)
          obtain ⟨b2, o2, y, rfl, l2, ey, d2⟩ := (RN.out.below kw).at_ hlt
          have HSK := hid (HSL.out k y ey)
          have HBr := HB1.out.below hbr hg1
          have f4 := (HBr 4 _ rfl).1
          clear ey HBr
          cases y with
          | false =>
            have g1 := own_on HO.out ((Below.refl wr.heap.size wr).alloc (Nat.le_refl _) (.cells #[.int .i64 s.scale] 2))
            have hr0 : Rd (Value.int .i64) (wr.alloc (.cells #[.int .i64 s.scale] 2)) _ (some ⟨wr.heap.size, 0, none⟩) [s.scale] := rd_one (one_cell wr (.int .i64 s.scale) 2).1
            go_wp2_with (at_builtin; refine wpList_app (Value.int .i64) (fun _ => rfl) _ rfl _ _ 24 rfl w1.heap.size 2 (.int .i64 0) 8 Tryz.underlying24 info_i64 rfl S _ _ rfl g1 [s.scale] _ 1 _ rfl hr0 (by simp [maxLen]; omega) (by simp; omega) (by have := hbr.size; simp; omega) ?_)
            rintro S' A' c' w5 hS' ho hb1 _
            have HS' := hid hS'
            have HO' := hid ho
            clear hS' ho f4 d2
            go_wp2_with fail
            go_roundw
            case rel => exact ⟨k + 1, S', A', c', by omega, by go_num, rfl, by rw [HS'.out, HSK.out, HS.out]; rfl, HO'.out, (hbr.alloc hbr.size _).trans hb1⟩
            case measure => simp [intOf]; omega
          | true =>
            have g1 := own_on HO.out ((Below.refl wr.heap.size wr).alloc (Nat.le_refl _) (.cells #[.int .i64 Z] 2))
            have hr0 : Rd (Value.int .i64) (wr.alloc (.cells #[.int .i64 Z] 2)) _ (some ⟨wr.heap.size, 0, none⟩) [Z] := rd_one (one_cell wr (.int .i64 Z) 2).1
            go_wp2_with (at_builtin; refine wpList_app (Value.int .i64) (fun _ => rfl) _ rfl _ _ 24 rfl w1.heap.size 2 (.int .i64 0) 8 Tryz.underlying24 info_i64 rfl S _ _ rfl g1 [Z] _ 1 _ rfl hr0 (by simp [maxLen]; omega) (by simp; omega) (by have := hbr.size; simp; omega) ?_)
            rintro S' A' c' w5 hS' ho hb1 _
            have HS' := hid hS'
            have HO' := hid ho
            clear hS' ho f4 d2
            go_wp2_with fail
            go_roundw
            case rel => exact ⟨k + 1, S', A', c', by omega, by go_num, rfl, by rw [HS'.out, HSK.out, HS.out, ← HZ.out]; rfl, HO'.out, (hbr.alloc hbr.size _).trans hb1⟩
            case measure => simp [intOf]; omega
        · obtain rfl : k = s.neg.length := by omega
          have kw := k1.trans (hbr.mono k1.size)
          have hfin : OwnE 2 .i64 w.heap.size (lsgL s.scale s.neg) 0 w (.returned (.tuple #[.slice A2 S.length c2, .int .i64 0])) wr := by rw [← HLE.out, ← HS.out]; exact ⟨A2, c2, rfl, own_base HO.out k1.size, kw⟩
          clear HO
          go_wp2_with fail
          go_ret2
          exact hfin
    · have he : lsgE s = 1 := if_neg (fun h => h2 h.2)
      have hv : lsgV s = [] := if_neg (by rw [he]; decide)
      rw [he, hv]
      have t1 : (s.sch == 3) = false := beq_eq_false_iff_ne.2 h2
      have t2 : (s.sch != 3) = true := by simpa using h2
      clear he hv hm ra hn hw h2
      go_enter Tryz.func45, Tryz.ntmps45
      go_wp2_with fail
      have B0 := BoxL.new w [.int .i64 s.sch, .int .i64 s.dim, .slice AL s.L.length cL, .slice AV s.V.length cV, .int .i64 s.scale, .int .i64 s.wide, .slice AE s.lev.length cE, .slice AN s.neg.length cN] 32
      refine (CM.out _ (by go_grown)).mono ?_
      rintro _ w1 ⟨rfl, hb⟩
      have HB1 := hid (B0.below hb (by simp))
      have k1 : Below w.heap.size w w1 := Below.trans (by go_grown) (hb.mono (by simp))
      have f0 := (HB1.out 0 _ rfl).1
      clear B0 hb CM
      go_wp2_with fail
      go_ret2
      exact .nil k1
  · have he : lsgE s = 1 := if_neg (fun h => hm h.1)
    have hv : lsgV s = [] := if_neg (by rw [he]; decide)
    rw [he, hv]
    have hm2 : mayB s = false := by simpa using hm
    rw [hm2] at CM
    clear he hv hm hm2 ra hn hw
    go_enter Tryz.func45, Tryz.ntmps45
    go_wp2_with fail
    refine (CM.out _ (by go_grown)).mono ?_
    rintro _ w1 ⟨rfl, hb⟩
    have k1 : Below w.heap.size w w1 := Below.trans (by go_grown) (hb.mono (by simp))
    go_wp2_with fail
    go_ret2
    exact .nil k1
/-- Whether one is pressed so. -/
def isSB (v : List Int) (s : SentV) : Bool := decide (mnE v = 0) && sameS (sgS v) s
theorem sgS_ln (v : List Int) : lnS 4096 (sgS v) := by
  unfold sgS
  split
  · rename_i h
    have h2 := (sizeV_is (mnE_ok.1 h).2).1
    exact ⟨by simp, by simp, by simp, by show (sgN v).length ≤ 4096; rw [sgN_len]; exact h2⟩
  · exact ⟨by simp [zeroS], by simp [zeroS], by simp [zeroS], by simp [zeroS]⟩
theorem sgS_wf {v : List Int} : wfS (sgS v) := by
  unfold sgS
  split
  · rename_i h
    have h2 := sizeV_is (mnE_ok.1 h).2
    have h3 := mnN_le v
    have h4 : mnV v = (mnN v : Int) := if_pos h
    refine ⟨by show I64 3; decide, by show I64 (v.length : Int); unfold I64; omega, by simp, by simp, by show I64 (mnV v); rw [h4]; unfold I64; omega, by show I64 0; decide, by intro x hx; simp at hx⟩
  · exact ⟨by show I64 0; decide, by show I64 0; decide, by simp [zeroS], by simp [zeroS], by show I64 0; decide, by show I64 0; decide, by simp [zeroS, U64s]⟩
theorem ref_Is11 {A : Option Addr} {c : Nat} (v : List Int) (uv : ∀ x ∈ v, I64 x) (hl : v.length ≤ 9223372036854775807) (s : SentV) (p : SentP) (hn : lnS 100000 s) (w : World) (ra : Rd (Value.int .i64) w w.heap.size A v) (rs : RdS w w.heap.size s p) :
    Calls Tryz.prog 52 #[.slice A v.length c, encT s p] w fun e w' => e = .returned (.bool (isSB v s)) ∧ Below w.heap.size w w' := by
  have CP := hid (fun (W : World) (h : Below w.heap.size w W) => ref_Press11 (A := A) (c := c) v uv hl W (ra.on h))
  have RS := hid rs
  have hT := sgS_ln v
  unfold isSB
  obtain ⟨T, hTT⟩ : ∃ T, sgS v = T := ⟨_, rfl⟩
  obtain ⟨E, hE⟩ : ∃ E, mnE v = E := ⟨_, rfl⟩
  rw [hTT, hE] at CP ⊢
  rw [hTT] at hT
  have CS := hid (fun (q : SentP) (W : World) (h1 : RdS W W.heap.size T q) (h2 : RdS W W.heap.size s p) => ref_SameSent T s q p (hT.more (by omega)) hn W (Nat.le_refl _) (Nat.le_refl _) h1 h2)
  obtain ⟨R, hR⟩ : ∃ R, sameS T s = R := ⟨_, rfl⟩
  rw [hR] at CS ⊢
  have HD1 : Hid (E = 0 → decide (E = 0) = true) := hid (fun h => decide_eq_true h)
  have HD0 : Hid (E ≠ 0 → decide (E = 0) = false) := hid (fun h => decide_eq_false h)
  obtain ⟨D, hD⟩ : ∃ D, decide (E = 0) = D := ⟨_, rfl⟩
  rw [hD] at HD1 HD0 ⊢
  clear hTT hE hR hT ra rs uv hn hD
  go_enter Tryz.func52, Tryz.ntmps52
  go_wp2_with fail
  have B0 := BoxL.new w [.int .i64 s.sch, .int .i64 s.dim, .slice p.AL s.L.length p.cL, .slice p.AV s.V.length p.cV, .int .i64 s.scale, .int .i64 s.wide, .slice p.AE s.lev.length p.cE, .slice p.AN s.neg.length p.cN] 32
  refine (CP.out _ (by go_grown)).mono ?_
  rintro _ w1 ⟨A1, c1, rfl, h1, h2, h3, o1, hb⟩
  have HX := hid (B0.below hb (by simp))
  have k1 : Below w.heap.size w w1 := Below.trans (by go_grown) (hb.mono (by simp))
  have HT := hid (OwnSg.rd h1 h2 h3 o1)
  clear B0 hb CP o1 h1 h2 h3
  have hg : w.heap.size < w1.heap.size := HX.out.lt (by simp)
  obtain ⟨⟨g0, g1, g2, g3, g4, g5, g6, g7⟩, _⟩ := HX.out.eight
  by_cases h0 : E = 0
  · have hD := HD1.out h0
    subst h0 hD
    go_wp2_with fail
    have kz : Below w1.heap.size w1 (w1.alloc (.cells #[.int .i64 T.sch, .int .i64 T.dim, .slice none T.L.length 0, .slice none T.V.length 0, .int .i64 T.scale, .int .i64 T.wide, .slice none T.lev.length 0, .slice A1 T.neg.length c1] 32)) := (Below.refl _ _).alloc (Nat.le_refl _) _
    refine (CS.out ⟨none, 0, none, 0, none, 0, A1, c1⟩ _ (HT.out.on kz) (RS.out.on (k1.trans (kz.mono k1.size)))).mono ?_
    rintro _ w3 ⟨rfl, hb3⟩
    go_wp2_with fail
    go_ret
    exact ⟨by simp, (k1.trans (kz.mono k1.size)).trans (hb3.mono (Nat.le_trans k1.size kz.size))⟩
  · have hne : (E == 0) = false := beq_eq_false_iff_ne.2 h0
    have hD := HD0.out h0
    subst hD
    clear h0 HD1 HD0
    go_wp2_with fail
    go_ret
    exact ⟨rfl, k1.trans (by go_grown)⟩
end Go.Proofs.YtecgbelgoomneaaGreat
/- Whether a frame may be, and is the same; an acknowledgement: by the document. -/
/- A vector's body, by the document. -/
namespace Go.Proofs.YtecgbelgoomneaaGreat
open Go.RowKit
set_option maxHeartbeats 400000
set_option maxRecDepth 100000
set_option linter.unusedVariables false
/-- A vector in a box of its own. -/
def BoxS (w : World) (b : Nat) (s : SentV) (p : SentP) : Prop :=
  w.cell? ⟨b, 0, none⟩ = some (.int .i64 s.sch) ∧ w.cell? ⟨b, 1, none⟩ = some (.int .i64 s.dim) ∧ w.cell? ⟨b, 2, none⟩ = some (.slice p.AL s.L.length p.cL) ∧ w.cell? ⟨b, 3, none⟩ = some (.slice p.AV s.V.length p.cV) ∧
  w.cell? ⟨b, 4, none⟩ = some (.int .i64 s.scale) ∧ w.cell? ⟨b, 5, none⟩ = some (.int .i64 s.wide) ∧ w.cell? ⟨b, 6, none⟩ = some (.slice p.AE s.lev.length p.cE) ∧ w.cell? ⟨b, 7, none⟩ = some (.slice p.AN s.neg.length p.cN)
theorem BoxS.below {w w' : World} {b B : Nat} {s : SentV} {p : SentP} (h : BoxS w b s p) (hb : Below B w w') (hB : b < B) : BoxS w' b s p := by
  obtain ⟨h0, h1, h2, h3, h4, h5, h6, h7⟩ := h
  exact ⟨(hb.cell (p := ⟨b, 0, none⟩) hB).trans h0, (hb.cell (p := ⟨b, 1, none⟩) hB).trans h1, (hb.cell (p := ⟨b, 2, none⟩) hB).trans h2, (hb.cell (p := ⟨b, 3, none⟩) hB).trans h3,
    (hb.cell (p := ⟨b, 4, none⟩) hB).trans h4, (hb.cell (p := ⟨b, 5, none⟩) hB).trans h5, (hb.cell (p := ⟨b, 6, none⟩) hB).trans h6, (hb.cell (p := ⟨b, 7, none⟩) hB).trans h7⟩
theorem boxS_new (w : World) (s : SentV) (p : SentP) (t : TypeId) : BoxS (w.alloc (.cells #[.int .i64 s.sch, .int .i64 s.dim, .slice p.AL s.L.length p.cL, .slice p.AV s.V.length p.cV, .int .i64 s.scale, .int .i64 s.wide, .slice p.AE s.lev.length p.cE, .slice p.AN s.neg.length p.cN] t)) w.heap.size s p :=
  ⟨by simp [go_sem], by simp [go_sem], by simp [go_sem], by simp [go_sem], by simp [go_sem], by simp [go_sem], by simp [go_sem], by simp [go_sem]⟩
theorem ref_Body (s : SentV) (p : SentP) (hn : lnS 600 s) (hw : wfS s) (w : World) (ra : RdS w w.heap.size s p) :
    Calls Tryz.prog 49 #[encT s p] w (OwnE 5 .u8 w.heap.size (bodyV s) (bodyE s) w) := by
  have CM := hid (fun W (h : Below w.heap.size w W) => ref_May s p (hn.more (by omega)) hw W (B := w.heap.size) h.size (ra.below h))
  unfold bodyV bodyE
  by_cases hm : mayB s = true
  · rw [if_pos hm, if_pos hm]
    have hp := mayB_iff.1 hm
    rw [hm] at CM
    obtain ⟨R, hR0⟩ : ∃ R, bodyL s = R := ⟨_, rfl⟩
    have HR0 := hid hR0
    rw [hR0]
    clear hR0
    have hd1 := hp.1
    have hd4 := hp.2.1
    have hs := hp.2.2
    have HB0 := hid (boxS_new w s p 32)
    have hs0 : 0 ≤ s.sch ∧ s.sch ≤ 3 := by
      rcases hs with h | h | h | h
      all_goals (have := h.1; omega)
    have CP : Hid (∀ (g1 g2 : Nat) (W : World), W.cell? ⟨g1, 0, none⟩ = some (.int .u8 s.sch) → W.cell? ⟨g2, 0, none⟩ = some (.int .u64 s.dim) → Calls Tryz.prog 99 #[.slice (some ⟨g1, 0, none⟩) 1 1, .slice (some ⟨g2, 0, none⟩) 1 1] W (OwnOf 5 .u8 W.heap.size ([s.sch] ++ encs [s.dim]) W)) := hid (fun g1 g2 W h1 h2 => by
      have h := ref_Put (A := some ⟨g1, 0, none⟩) (B := some ⟨g2, 0, none⟩) (c := 1) (d := 1) [s.sch] [s.dim] (by simp) (by simp) (by intro x hx; simp at hx; subst hx; unfold U64; omega) W (rd_one h1) (rd_one h2)
      exact h)
    have hX : [s.sch] ++ encs [s.dim] = s.sch :: lebI s.dim := by rw [encs_one]; rfl
    have lX := lebI_ten (n := s.dim) (by unfold U64; omega)
    rw [hX] at CP
    obtain ⟨X, hXX⟩ : ∃ X, s.sch :: lebI s.dim = X := ⟨_, rfl⟩
    have hXl : X.length ≤ 11 := by rw [← hXX, List.length_cons]; omega
    rw [hXX] at CP
    have HX := hid hXX
    clear hX lX hXX
    go_enter Tryz.func49, Tryz.ntmps49
    go_wp2_with fail
    refine (CM.out _ (by go_grown)).mono ?_
    rintro _ w1 ⟨rfl, hb1⟩
    have k1 : Below w.heap.size w w1 := Below.trans (by go_grown) (hb1.mono (by simp))
    have HB1 := hid (HB0.out.below hb1 (by simp))
    clear hb1
    obtain ⟨c0, c1, c2, c3, c4, c5, c6, c7⟩ := HB1.out
    have hlt1 : w.heap.size < w1.heap.size := lt_of_cell c0
    go_wp2_with fail
    refine (CP.out _ _ _ (by simp [go_sem]) (by simp [go_sem])).mono ?_
    rintro _ w2 ⟨A2, d2, rfl, ho2, hb2⟩
    have kz : Below w1.heap.size w1 ((w1.alloc (.cells #[.int .u8 s.sch] 5)).alloc (.cells #[.int .u64 s.dim] 25)) := by go_grown
    have hb12 : Below w1.heap.size w1 w2 := kz.trans (hb2.mono kz.size)
    have k2 : Below w.heap.size w w2 := k1.trans (hb12.mono k1.size)
    have HB2 := hid (HB1.out.below hb12 hlt1)
    have HO2 := hid (own_base ho2 (show w.heap.size ≤ _ by have := k1.size; have := kz.size; omega))
    have HO2b := hid (own_base ho2 (show w.heap.size + 1 ≤ _ by have := kz.size; omega))
    clear hb2 kz hb12 ho2 c0 c1 c2 c3 c4 c5 c6 c7 CP CM HB1 HB0 hlt1 k1
    obtain ⟨c0, c1, c2, c3, c4, c5, c6, c7⟩ := HB2.out
    have hlt2 : w.heap.size < w2.heap.size := lt_of_cell c0
    have RA := hid (ra.below k2)
    have KK := hid k2
    rcases hs with ⟨e, h1, h2, h3, h4, h5, h6⟩ | ⟨e, h1, h2, h3, h4, h5, h6⟩ | ⟨e, h1, h2, h3, h4, h5, h6, h7, h8⟩ | ⟨e, h1, h2, h3, h4, h5, h6⟩
    · have hR : X ++ encs (s.V.map zigI) = R := by
        rw [← HR0.out]
        unfold bodyL tailL sgnd
        rw [if_pos e, ← HX.out]; rfl
      have C := hid (ref_Signed (A := A2) (B := p.AV) (c := d2) (d := p.cV) X s.V (by omega) (by have := hn.2.1; omega) hw.2.2.2.1 w2 (own_rd HO2.out) (RA.out.2.1.more k2.size))
      rw [hR] at C
      clear hR HX HR0 h1 h2 h3 h4 h5 h6
      go_wp2_with fail
      refine C.out.mono ?_
      rintro _ w3 ⟨A3, d3, rfl, ho3, hb3⟩
      have HO3 := hid (own_base ho3 k2.size)
      clear ho3
      go_wp2_with fail
      go_ret2
      exact ⟨A3, d3, rfl, HO3.out, k2.trans (hb3.mono k2.size)⟩
    · have hR : (X ++ pixV s.dim s.L) ++ encs (s.V.map zigI) = R := by
        rw [← HR0.out]
        unfold bodyL tailL sgnd
        rw [if_neg (by omega), if_pos e, ← HX.out]
        simp
      have C := hid (ref_PutIx (A := p.AL) (c := p.cL) s.dim s.L hw.2.1 (by have := hn.1; omega) w2 (RA.out.1.more k2.size))
      rw [h1] at C
      have hLl : (pixV s.dim s.L).length ≤ 41000 := pixV_len _ _
      obtain ⟨LV, hLV⟩ : ∃ LV, pixV s.dim s.L = LV := ⟨_, rfl⟩
      rw [hLV] at hR C hLl
      have CG := hid (fun (Y : List Int) A d W (hY : Y = X ++ LV) (h : Rd (Value.int .u8) W W.heap.size A Y) (hv : Rd (Value.int .i64) W W.heap.size p.AV s.V) => (show Calls Tryz.prog 100 #[.slice A Y.length d, .slice p.AV s.V.length p.cV] W (OwnOf 5 .u8 W.heap.size R W) by
        have h := ref_Signed (A := A) (B := p.AV) (c := d) (d := p.cV) Y s.V (by rw [hY, List.length_append]; omega) (by have := hn.2.1; omega) hw.2.2.2.1 W h hv
        rw [hY, hR] at h
        rw [hY]; exact h))
      clear hR hLV HX HR0 h1 h2 h3 h4 h5 h6
      obtain ⟨B1, hBl, hBu⟩ : ∃ B1, w.heap.size < B1 ∧ B1 ≤ w.heap.size + 1 := ⟨w.heap.size + 1, by omega, by omega⟩
      have HO2c := hid (own_base HO2b.out hBu)
      clear HO2b HO2
      go_wp2_with fail
      refine C.out.mono ?_
      rintro _ w3 ⟨A3, d3, rfl, ho3, hb3⟩
      have HB3 := hid (HB2.out.below hb3 hlt2)
      have HO3 := hid (own_on HO2c.out hb3)
      have HL3 := hid (own_rd ho3)
      have k3 : Below w.heap.size w w3 := k2.trans (hb3.mono k2.size)
      clear c0 c1 c2 c3 c4 c5 c6 c7 ho3 hb3 HB2 HO2c C hlt2 RA KK
      obtain ⟨c0, c1, c2, c3, c4, c5, c6, c7⟩ := HB3.out
      have hlt3 : w.heap.size < w3.heap.size := lt_of_cell c0
      have RA3 := hid ((ra.below k3).more k3.size)
      go_wp2_with fail
      go_region_law (first | (refine step_app (Value.int .u8) (fun _ => rfl) rfl _ _ 50 rfl B1 5 (.int .u8 0) 1 Tryz.underlying50 info_u8 rfl X A2 d2 rfl HO3.out LV A3 d3 _ rfl HL3.out (by simp [maxLen]; omega) (by simp; omega) (by simp; omega) ?_; rintro Y A5 d5 w5 hY ho5 hb5 hg5; have hY2 := hid hY; have HO5 := hid ho5; clear hY ho5; have k5 := k3.trans (Below.trans ((Below.refl w.heap.size w3).drew) (hb5.mono (Nat.le_of_lt hBl))); have c3' := (hb5.cell (p := ⟨w.heap.size, 3, none⟩) hBl).trans c3) | (go_simp; go_at_call 100; refine (CG.out _ _ _ _ hY2.out (own_rd HO5.out) ((ra.below k5).2.1.more k5.size)).mono ?_; rintro _ w6 ⟨A6, d6, rfl, ho6, hb6⟩; have HO6 := hid (own_base ho6 k5.size); have k6 := k5.trans (hb6.mono k5.size); clear ho6))
      all_goals (go_wp2_with fail; go_ret2; exact ⟨A6, d6, rfl, HO6.out, k6⟩)
    · have hwd : I64 s.wide := hw.2.2.2.2.2.1
      have hsc : I64 s.scale := hw.2.2.2.2.1
      unfold I64 at hsc
      have hb8 : bysE s.wide s.lev.length = 0 := by unfold bysE; rw [if_neg (by omega), if_neg (by omega)]
      have hme : mayE s.wide s.lev = 0 := by unfold mayE; rw [if_pos hb8, if_pos h4]
      have hR : (X ++ encs [s.scale]) ++ [s.wide] ++ wevV s.wide s.lev ++ sgnV s.neg = R := by
        rw [← HR0.out]
        unfold bodyL tailL
        rw [if_neg (by omega), if_neg (by omega), if_pos e, ← HX.out, encs_one]
        simp
      have lS := lebI_ten (n := s.scale) (by unfold U64; omega)
      have hwl := ((may_same s.wide s.lev).2 hme).2
      have hnl := sgnV_len (l := s.neg) (by omega)
      have hwl2 : (wevV s.wide s.lev).length ≤ 5000 := by
        have h9 : s.wide.toNat * s.lev.length ≤ 8 * 4096 := Nat.mul_le_mul (by omega) (by omega)
        rw [hwl]; omega
      have CP := hid (fun (g : Nat) (W : World) (h : W.cell? ⟨g, 0, none⟩ = some (.int .u64 s.scale)) (hr : Rd (Value.int .u8) W W.heap.size A2 X) => ref_Put (A := A2) (B := some ⟨g, 0, none⟩) (c := d2) (d := 1) X [s.scale] (by omega) (by simp) (by intro x hx; simp at hx; subst hx; unfold U64; omega) W hr (rd_one h))
      have CW := hid (fun (W : World) (h : Rd (Value.int .u64) W W.heap.size p.AE s.lev) => ref_Weave (A := p.AE) (c := p.cE) s.wide s.lev hwd (by have := hn.2.2.1; omega) hw.2.2.2.2.2.2 W h)
      have CS := hid (fun (W : World) (h : Rd Value.bool W W.heap.size p.AN s.neg) => ref_Signs (A := p.AN) (c := p.cN) s.neg (by have := hn.2.2.2; omega) W h)
      rw [hme] at CW
      have hX1l : (X ++ encs [s.scale]).length ≤ 30 := by rw [List.length_append, encs_one]; omega
      obtain ⟨X1, hX1⟩ : ∃ X1, X ++ encs [s.scale] = X1 := ⟨_, rfl⟩
      rw [hX1] at hR CP hX1l
      obtain ⟨WV, hWV⟩ : ∃ WV, wevV s.wide s.lev = WV := ⟨_, rfl⟩
      rw [hWV] at hR CW hwl2
      obtain ⟨NV, hNV⟩ : ∃ NV, sgnV s.neg = NV := ⟨_, rfl⟩
      rw [hNV] at hR CS hnl
      have hnl2 : NV.length ≤ 600 := by omega
      have HR1 := hid hR
      clear hR hwl hnl HX HR0 h3 h4 h5 h6 hX1 hWV hNV hb8 hme lS hwd
      have hwb : s.wide % 256 = s.wide := by omega
      go_wp2_with fail
      refine (CP.out _ _ (by simp [go_sem]) ((own_rd HO2.out).on (grow _ _))).mono ?_
      rintro _ w3 ⟨A3, d3, rfl, ho3, hb3⟩
      have hb23 : Below w2.heap.size w2 w3 := (grow w2 _).trans (hb3.mono (by simp))
      have HB3 := hid (HB2.out.below hb23 hlt2)
      have k3 : Below w.heap.size w w3 := k2.trans (hb23.mono k2.size)
      obtain ⟨B1, hBl, hBu⟩ : ∃ B1, w.heap.size < B1 ∧ B1 ≤ w.heap.size + 1 := ⟨w.heap.size + 1, by omega, by omega⟩
      have HO3 := hid (own_base ho3 (show B1 ≤ _ by simp; omega))
      clear hb3 ho3 hb23 c0 c1 c2 c3 c4 c5 c6 c7 HB2 CP HO2 hlt2 RA KK
      obtain ⟨c0, c1, c2, c3, c4, c5, c6, c7⟩ := HB3.out
      have hlt3 : w.heap.size < w3.heap.size := lt_of_cell c0
      have hlow := HO3.out.lt
      have CW1 := hid (CW.out w3 ((ra.below k3).2.2.1.more k3.size))
      clear CW
      go_wp2_with fail
      refine CW1.out.mono ?_
      rintro _ w4 ⟨A4, d4, rfl, ho4, hb4⟩
      have HB4 := hid (HB3.out.below hb4 hlt3)
      have k4 : Below w.heap.size w w4 := k3.trans (hb4.mono k3.size)
      have HO4 := hid (own_on HO3.out hb4)
      have HW4 := hid ho4
      clear ho4 hb4 c0 c1 c2 c3 c4 c5 c6 c7 HB3 CW1 HO3
      obtain ⟨c0, c1, c2, c3, c4, c5, c6, c7⟩ := HB4.out
      have hlt4 : w.heap.size < w4.heap.size := lt_of_cell c0
      have hr0 : Rd (Value.int .u8) (w4.alloc (.cells #[.int .u8 s.wide] 5)) _ (some ⟨w4.heap.size, 0, none⟩) [s.wide] := rd_one (one_cell w4 (.int .u8 s.wide) 5).1
      have h0' := own_on HO4.out (grow w4 (.cells #[.int .u8 s.wide] 5))
      have hW4' := hid (own_on HW4.out (grow w4 (.cells #[.int .u8 s.wide] 5)))
      have hks := k4.size
      go_wp2_with (at_builtin; refine wpList_app (Value.int .u8) (fun _ => rfl) _ rfl _ _ 50 rfl B1 5 (.int .u8 0) 1 Tryz.underlying50 info_u8 rfl X1 _ _ rfl h0' [s.wide] _ 1 _ rfl hr0 (by simp [maxLen]; omega) (by simp; omega) (by simp; omega) ?_)
      rintro Y A5 d5 w5 hY ho5 hb5 hg5
      have k5 : Below w.heap.size w w5 := (k4.alloc k4.size _).trans (hb5.mono (by omega))
      have hW5 := own_far hW4'.out hg5 (fun k hk => (hlow k hk).2)
      have hr5 := own_rd hW5
      have HB5 := hid ((HB4.out.below (grow w4 (.cells #[.int .u8 s.wide] 5)) hlt4).below hb5 (by omega))
      have hYl : Y.length ≤ 40 := by rw [hY, List.length_append, List.length_singleton]; omega
      have hB5 : B1 ≤ w5.heap.size := by have := hb5.size; simp at this; omega
      have HY := hid hY
      clear hY c0 c1 c2 c3 c4 c5 c6 c7 hr0 h0' hg5 hlow
      go_wp2_with (at_builtin; refine wpList_app (Value.int .u8) (fun _ => rfl) _ rfl _ _ 50 rfl B1 5 (.int .u8 0) 1 Tryz.underlying50 info_u8 rfl Y _ _ rfl ho5 WV _ d4 _ rfl hr5 (by simp [maxLen]; omega) (by simp; omega) (hB5) ?_)
      rintro Y2 A6 d6 w6 hY2 ho6 hb6 _
      have k6 : Below w.heap.size w w6 := k5.trans (hb6.mono (by omega))
      have HB6 := hid (HB5.out.below hb6 (by omega))
      have HO6 := hid ho6
      have hY2l : Y2.length ≤ 5100 := by rw [hY2, List.length_append]; omega
      have HY2 := hid hY2
      clear hY2 ho5 ho6 hr5 hW5
      obtain ⟨c0, c1, c2, c3, c4, c5, c6, c7⟩ := HB6.out
      have hlt6 : w.heap.size < w6.heap.size := lt_of_cell c0
      have CS1 := hid (CS.out w6 ((ra.below k6).2.2.2.more k6.size))
      clear CS
      go_wp2_with fail
      refine CS1.out.mono ?_
      rintro _ w7 ⟨A7, d7, rfl, ho7, hb7⟩
      have h0 := own_on HO6.out hb7
      have hr7 := own_rd ho7
      have k7 := k6.trans (hb7.mono k6.size)
      have hB7 : B1 ≤ w7.heap.size := by have := hb7.size; omega
      clear CS1 c0 c1 c2 c3 c4 c5 c6 c7
      go_wp2_with (at_builtin; refine wpList_app (Value.int .u8) (fun _ => rfl) _ rfl _ _ 50 rfl B1 5 (.int .u8 0) 1 Tryz.underlying50 info_u8 rfl Y2 _ _ rfl h0 NV _ d7 _ rfl hr7 (by simp [maxLen]; omega) (by simp; omega) (hB7) ?_)
      rintro Z A8 d8 w8 hZ ho8 hb8 _
      have HZ := hid hZ
      have HO8 := hid ho8
      clear hZ ho8 h0 hr7
      go_wp2_with fail
      go_ret2
      have e8 : Z = R := by rw [HZ.out, HY2.out, HY.out]; exact HR1.out
      rw [← e8]
      exact ⟨A8, d8, rfl, own_base HO8.out (by omega), k7.trans (hb8.mono (by omega))⟩
    · have hsc : I64 s.scale := hw.2.2.2.2.1
      unfold I64 at hsc
      have hR : (X ++ encs [s.scale]) ++ sgnV s.neg = R := by
        rw [← HR0.out]
        unfold bodyL tailL
        rw [if_neg (by omega), if_neg (by omega), if_neg (by omega), ← HX.out, encs_one]
        simp
      have lS := lebI_ten (n := s.scale) (by unfold U64; omega)
      have hnl := sgnV_len (l := s.neg) (by omega)
      have CP := hid (fun (g : Nat) (W : World) (h : W.cell? ⟨g, 0, none⟩ = some (.int .u64 s.scale)) (hr : Rd (Value.int .u8) W W.heap.size A2 X) => ref_Put (A := A2) (B := some ⟨g, 0, none⟩) (c := d2) (d := 1) X [s.scale] (by omega) (by simp) (by intro x hx; simp at hx; subst hx; unfold U64; omega) W hr (rd_one h))
      have CS := hid (fun (W : World) (h : Rd Value.bool W W.heap.size p.AN s.neg) => ref_Signs (A := p.AN) (c := p.cN) s.neg (by have := hn.2.2.2; omega) W h)
      have hX1l : (X ++ encs [s.scale]).length ≤ 30 := by rw [List.length_append, encs_one]; omega
      obtain ⟨X1, hX1⟩ : ∃ X1, X ++ encs [s.scale] = X1 := ⟨_, rfl⟩
      rw [hX1] at hR CP hX1l
      obtain ⟨NV, hNV⟩ : ∃ NV, sgnV s.neg = NV := ⟨_, rfl⟩
      rw [hNV] at hR CS hnl
      have hnl2 : NV.length ≤ 600 := by omega
      have HR1 := hid hR
      clear hR hnl HX HR0 h1 h2 h3 h4 hX1 hNV lS
      go_wp2_with fail
      refine (CP.out _ _ (by simp [go_sem]) ((own_rd HO2.out).on (grow _ _))).mono ?_
      rintro _ w3 ⟨A3, d3, rfl, ho3, hb3⟩
      have hb23 : Below w2.heap.size w2 w3 := (grow w2 _).trans (hb3.mono (by simp))
      have HB3 := hid (HB2.out.below hb23 hlt2)
      have k3 : Below w.heap.size w w3 := k2.trans (hb23.mono k2.size)
      obtain ⟨B1, hBl, hBu⟩ : ∃ B1, w.heap.size < B1 ∧ B1 ≤ w.heap.size + 1 := ⟨w.heap.size + 1, by omega, by omega⟩
      have HO3 := hid (own_base ho3 (show B1 ≤ _ by simp; omega))
      clear hb3 ho3 hb23 c0 c1 c2 c3 c4 c5 c6 c7 HB2 CP HO2 hlt2 RA KK
      obtain ⟨c0, c1, c2, c3, c4, c5, c6, c7⟩ := HB3.out
      have hlt3 : w.heap.size < w3.heap.size := lt_of_cell c0
      obtain ⟨c0, c1, c2, c3, c4, c5, c6, c7⟩ := HB3.out
      have hlt6 : w.heap.size < w3.heap.size := lt_of_cell c0
      have CS1 := hid (CS.out w3 ((ra.below k3).2.2.2.more k3.size))
      clear CS
      go_wp2_with fail
      refine CS1.out.mono ?_
      rintro _ w7 ⟨A7, d7, rfl, ho7, hb7⟩
      have h0 := own_on HO3.out hb7
      have hr7 := own_rd ho7
      have k7 := k3.trans (hb7.mono k3.size)
      have hB7 : B1 ≤ w7.heap.size := by have := hb7.size; omega
      clear CS1 c0 c1 c2 c3 c4 c5 c6 c7
      go_wp2_with (at_builtin; refine wpList_app (Value.int .u8) (fun _ => rfl) _ rfl _ _ 50 rfl B1 5 (.int .u8 0) 1 Tryz.underlying50 info_u8 rfl X1 _ _ rfl h0 NV _ d7 _ rfl hr7 (by simp [maxLen]; omega) (by simp; omega) (hB7) ?_)
      rintro Z A8 d8 w8 hZ ho8 hb8 _
      have HZ := hid hZ
      have HO8 := hid ho8
      clear hZ ho8 h0 hr7
      go_wp2_with fail
      go_ret2
      have e8 : Z = R := by rw [HZ.out]; exact HR1.out
      rw [← e8]
      exact ⟨A8, d8, rfl, own_base HO8.out (by omega), k7.trans (hb8.mono (by omega))⟩
  · rw [if_neg hm, if_neg hm]
    have hm' : mayB s = false := by simpa using hm
    rw [hm'] at CM
    clear hm hm' ra hn hw
    go_enter Tryz.func49, Tryz.ntmps49
    go_wp2_with fail
    refine (CM.out _ (by go_grown)).mono ?_
    rintro _ w1 ⟨rfl, hb1⟩
    go_wp2_with fail
    go_ret2
    exact .nil (Below.trans (by go_grown) (hb1.mono (by simp)))
end Go.Proofs.YtecgbelgoomneaaGreat
/- Whether a vector may be, by the program. -/
namespace Go.Proofs.YtecgbelgoomneaaGreat
open Go.RowKit
set_option maxHeartbeats 400000
set_option maxRecDepth 100000
set_option linter.unusedVariables false
def namP (s : SentV) : Prop := (s.sch = 0 ∧ (s.V.length : Int) = s.dim) ∨ (s.sch = 1 ∧ chkE s.dim s.L = 0 ∧ s.V.length = s.L.length) ∨ (s.sch = 2 ∧ sgB s = true ∧ lvB s = true) ∨ (s.sch = 3 ∧ sgB s = true)
instance (s : SentV) : Decidable (namP s) := by unfold namP; infer_instance
def namB (s : SentV) : Bool := decide (namP s)
theorem namB_iff {s : SentV} : namB s = true ↔ namP s := by unfold namB; exact decide_eq_true_iff
theorem boxT_new (w : World) (s : SentV) (p : SentP) (t : TypeId) : BoxL (w.alloc (.cells #[.int .i64 s.sch, .int .i64 s.dim, .slice p.AL s.L.length p.cL, .slice p.AV s.V.length p.cV, .int .i64 s.scale, .int .i64 s.wide, .slice p.AE s.lev.length p.cE, .slice p.AN s.neg.length p.cN] t)) w.heap.size
    [.int .i64 s.sch, .int .i64 s.dim, .slice p.AL s.L.length p.cL, .slice p.AV s.V.length p.cV, .int .i64 s.scale, .int .i64 s.wide, .slice p.AE s.lev.length p.cE, .slice p.AN s.neg.length p.cN] := BoxL.new w _ t
theorem fs_named0 (s : SentV) (p : SentP) (w : World) (hs : s.sch = 0) :
    Calls Tryz.prog 90 #[encT s p] w fun e w' => e = .returned (.bool (namB s)) ∧ Below w.heap.size w w' := by
  have HR : namB s = true ↔ (s.V.length : Int) = s.dim := by rw [namB_iff]; unfold namP; simp [hs]
  obtain ⟨R, hR⟩ : ∃ R, namB s = R := ⟨_, rfl⟩
  rw [hR] at HR ⊢
  have HR2 := hid HR
  clear hR HR
  go_enter Tryz.func90, Tryz.ntmps90
  go_wp2_with fail
  all_goals (go_ret; refine ⟨ret_of ?_, by go_grown⟩; rw [HR2.out]; first | (simp [*]; done) | (simp [*]; omega))
theorem fs_named1 (s : SentV) (p : SentP) (hn : lnS 100000 s) (hd : I64 s.dim) (w : World) (ra : RdS w w.heap.size s p) (hs : s.sch = 1) :
    Calls Tryz.prog 90 #[encT s p] w fun e w' => e = .returned (.bool (namB s)) ∧ Below w.heap.size w w' := by
  have HR : namB s = true ↔ (chkE s.dim s.L = 0 ∧ s.V.length = s.L.length) := by rw [namB_iff]; unfold namP; simp [hs]
  have C := hid (fun W (h : Below w.heap.size w W) => ix_Check (A := p.AL) (c := p.cL) s.dim s.L hd (by have := hn.1; omega) W ((ra.1.below h).more h.size))
  obtain ⟨R, hR⟩ : ∃ R, namB s = R := ⟨_, rfl⟩
  rw [hR] at HR ⊢
  obtain ⟨E, hE⟩ : ∃ E, chkE s.dim s.L = E := ⟨_, rfl⟩
  rw [hE] at HR C
  have HR2 := hid HR
  have HB0 := hid (boxT_new w s p 32)
  clear hR HR hE ra hn hd
  have g0 : (s.sch == 0) = false := by rw [hs]; rfl
  have g1 : (s.sch == 1) = true := by rw [hs]; rfl
  clear hs
  go_enter Tryz.func90, Tryz.ntmps90
  go_wp2_with fail
  refine (C.out _ (by go_grown)).mono ?_
  rintro _ w1 ⟨rfl, hb1⟩
  have k1 : Below w.heap.size w w1 := Below.trans (by go_grown) (hb1.mono (by simp))
  have HB1 := hid (HB0.out.below hb1 (by simp))
  obtain ⟨⟨c0, c1, c2, c3, c4, c5, c6, c7⟩, _⟩ := HB1.out.eight
  clear hb1 HB0
  go_wp2_with fail
  all_goals (go_ret; refine ⟨ret_of ?_, k1⟩; rw [HR2.out]; first | (simp [*]; done) | (simp [*]; omega))
theorem fs_named2 (s : SentV) (p : SentP) (hn : lnS 100000 s) (ul : U64s s.lev) (w : World) (ra : RdS w w.heap.size s p) (hs : s.sch = 2) :
    Calls Tryz.prog 90 #[encT s p] w fun e w' => e = .returned (.bool (namB s)) ∧ Below w.heap.size w w' := by
  have HR : namB s = true ↔ (sgB s = true ∧ lvB s = true) := by rw [namB_iff]; unfold namP; simp [hs]
  have C := hid (fun W => fs_signs s p W)
  have D := hid (fun W (h : Below w.heap.size w W) => fs_levels s p hn ul W h.size (ra.below h))
  obtain ⟨R, hR⟩ : ∃ R, namB s = R := ⟨_, rfl⟩
  rw [hR] at HR ⊢
  obtain ⟨v1, h1⟩ : ∃ E, sgB s = E := ⟨_, rfl⟩
  rw [h1] at HR C
  obtain ⟨v2, h2⟩ : ∃ E, lvB s = E := ⟨_, rfl⟩
  rw [h2] at HR D
  have HR2 := hid HR
  have HB0 := hid (boxT_new w s p 32)
  clear hR HR h1 h2 ra hn ul
  have g0 : (s.sch == 0) = false := by rw [hs]; rfl
  have g1 : (s.sch == 1) = false := by rw [hs]; rfl
  have g2 : (s.sch == 2) = true := by rw [hs]; rfl
  clear hs
  go_enter Tryz.func90, Tryz.ntmps90
  go_wp2_with fail
  refine (C.out _).mono ?_
  rintro _ w1 ⟨rfl, hb1⟩
  have k1 : Below w.heap.size w w1 := Below.trans (by go_grown) (hb1.mono (by simp))
  have HB1 := hid (HB0.out.below hb1 (by simp))
  obtain ⟨⟨c0, c1, c2, c3, c4, c5, c6, c7⟩, _⟩ := HB1.out.eight
  clear hb1 HB0
  cases v1 with
  | false =>
    go_wp2_with fail
    go_ret
    exact ⟨ret_of (by rw [HR2.out]; simp), k1⟩
  | true =>
    go_wp2_with fail
    refine (D.out _ k1).mono ?_
    rintro _ w2 ⟨rfl, hb2⟩
    go_wp2_with fail
    go_ret
    exact ⟨ret_of (by rw [HR2.out]; simp), k1.trans (hb2.mono k1.size)⟩
theorem fs_named3 (s : SentV) (p : SentP) (w : World) (hs : s.sch = 3) :
    Calls Tryz.prog 90 #[encT s p] w fun e w' => e = .returned (.bool (namB s)) ∧ Below w.heap.size w w' := by
  have HR : namB s = true ↔ (sgB s = true) := by rw [namB_iff]; unfold namP; simp [hs]
  have C := hid (fun W => fs_signs s p W)
  obtain ⟨R, hR⟩ : ∃ R, namB s = R := ⟨_, rfl⟩
  rw [hR] at HR ⊢
  obtain ⟨v1, h1⟩ : ∃ E, sgB s = E := ⟨_, rfl⟩
  rw [h1] at HR C
  have HR2 := hid HR
  clear hR HR h1
  have g0 : (s.sch == 0) = false := by rw [hs]; rfl
  have g1 : (s.sch == 1) = false := by rw [hs]; rfl
  have g2 : (s.sch == 2) = false := by rw [hs]; rfl
  have g3 : (s.sch == 3) = true := by rw [hs]; rfl
  clear hs
  go_enter Tryz.func90, Tryz.ntmps90
  go_wp2_with fail
  refine (C.out _).mono ?_
  rintro _ w1 ⟨rfl, hb1⟩
  have k1 : Below w.heap.size w w1 := Below.trans (by go_grown) (hb1.mono (by simp))
  go_wp2_with fail
  go_ret
  exact ⟨ret_of (by rw [HR2.out]), k1⟩
theorem fs_namedX (s : SentV) (p : SentP) (w : World) (h0 : s.sch ≠ 0) (h1 : s.sch ≠ 1) (h2 : s.sch ≠ 2) (h3 : s.sch ≠ 3) :
    Calls Tryz.prog 90 #[encT s p] w fun e w' => e = .returned (.bool (namB s)) ∧ Below w.heap.size w w' := by
  have hR : namB s = false := decide_eq_false (by unfold namP; simp [h0, h1, h2, h3])
  rw [hR]
  clear hR
  go_enter Tryz.func90, Tryz.ntmps90
  go_wp2_with fail
  go_ret
  exact ⟨rfl, by go_grown⟩
theorem fs_named (s : SentV) (p : SentP) (hn : lnS 100000 s) (hw : wfS s) (w : World) (ra : RdS w w.heap.size s p) :
    Calls Tryz.prog 90 #[encT s p] w fun e w' => e = .returned (.bool (namB s)) ∧ Below w.heap.size w w' := by
  by_cases h0 : s.sch = 0
  · exact fs_named0 s p w h0
  · by_cases h1 : s.sch = 1
    · exact fs_named1 s p hn hw.2.1 w ra h1
    · by_cases h2 : s.sch = 2
      · exact fs_named2 s p hn hw.2.2.2.2.2.2 w ra h2
      · by_cases h3 : s.sch = 3
        · exact fs_named3 s p w h3
        · exact fs_namedX s p w h0 h1 h2 h3
theorem may_named {s : SentV} (h : mayP s) : namP s := by
  obtain ⟨h1, h2, h⟩ := h
  unfold namP sgB lvB
  rcases h with h | h | h | h
  · exact Or.inl ⟨h.1, h.2.2.1⟩
  · exact Or.inr (Or.inl ⟨h.1, h.2.1, h.2.2.1⟩)
  · exact Or.inr (Or.inr (Or.inl ⟨h.1, by simp [h.2.2.2.2.2.2.2.1, h.2.2.2.2.2.2.2.2], by simp [h.2.1, h.2.2.1, h.2.2.2.1, h.2.2.2.2.1]⟩))
  · exact Or.inr (Or.inr (Or.inr ⟨h.1, by simp [h.2.2.2.2.2.1, h.2.2.2.2.2.2]⟩))
/-- What is asked at the end, for any way that is left. -/
theorem fs_MayK (s t : SentV) (p q : SentP) (hn : lnS 100000 s) (hw : wfS s) (w : World) (ra : RdS w w.heap.size s p) (h1 : 1 ≤ s.dim) (h2 : s.dim ≤ 4096)
    (CR : ∀ W : World, Calls Tryz.prog 92 #[encT s p] W fun e w' => e = .returned (encT t q) ∧ Below W.heap.size W w') (hM : mayB s = true ↔ (namB s = true ∧ empB t = true)) :
    Calls Tryz.prog 42 #[encT s p] w fun e w' => e = .returned (.bool (mayB s)) ∧ Below w.heap.size w w' := by
  have C := hid (fun W (h : Below w.heap.size w W) => fs_named s p hn hw W ((ra.below h).more h.size))
  have D := hid CR
  have E := hid (fun W => fs_empty t q W)
  obtain ⟨R, hR⟩ : ∃ R, mayB s = R := ⟨_, rfl⟩
  rw [hR] at hM ⊢
  obtain ⟨v1, e1⟩ : ∃ E, namB s = E := ⟨_, rfl⟩
  rw [e1] at hM C
  obtain ⟨v2, e2⟩ : ∃ E, empB t = E := ⟨_, rfl⟩
  rw [e2] at hM E
  have HR2 := hid hM
  have HB0 := hid (boxT_new w s p 32)
  clear hR hM e1 e2 ra hn hw CR
  go_enter Tryz.func42, Tryz.ntmps42
  go_wp2_with fail
  refine (C.out _ (by go_grown)).mono ?_
  rintro _ w1 ⟨rfl, hb1⟩
  have k1 : Below w.heap.size w w1 := Below.trans (by go_grown) (hb1.mono (by simp))
  have HB1 := hid (HB0.out.below hb1 (by simp))
  obtain ⟨⟨c0, c1, c2, c3, c4, c5, c6, c7⟩, _⟩ := HB1.out.eight
  clear hb1 HB0
  cases v1 with
  | false =>
    go_wp2_with fail
    go_ret
    exact ⟨ret_of (by rw [HR2.out]; simp), k1⟩
  | true =>
    go_wp2_with fail
    refine (D.out _).mono ?_
    rintro _ w2 ⟨rfl, hb2⟩
    have k2 := k1.trans (hb2.mono k1.size)
    clear c0 c1 c2 c3 c4 c5 c6 c7
    go_wp2_with fail
    refine (E.out _).mono ?_
    rintro _ w3 ⟨rfl, hb3⟩
    have k3 := k2.trans (hb3.mono k2.size)
    go_wp2_with fail
    go_ret
    exact ⟨ret_of (by rw [HR2.out]; simp), k3⟩
theorem fs_MayD (s : SentV) (p : SentP) (w : World) (h : s.dim < 1 ∨ 4096 < s.dim) :
    Calls Tryz.prog 42 #[encT s p] w fun e w' => e = .returned (.bool (mayB s)) ∧ Below w.heap.size w w' := by
  have HR : mayB s = false := mayB_no (fun h2 => by have h3 := h2.1; have h4 := h2.2.1; omega)
  rw [HR]
  clear HR
  rcases h with h | h
  · go_enter Tryz.func42, Tryz.ntmps42
    go_wp2_with fail
    all_goals (go_ret; exact ⟨rfl, by go_grown⟩)
  · go_enter Tryz.func42, Tryz.ntmps42
    go_wp2_with fail
    all_goals (go_ret; exact ⟨rfl, by go_grown⟩)
theorem fs_May (s : SentV) (p : SentP) (hn : lnS 100000 s) (hw : wfS s) (w : World) (ra : RdS w w.heap.size s p) :
    Calls Tryz.prog 42 #[encT s p] w fun e w' => e = .returned (.bool (mayB s)) ∧ Below w.heap.size w w' := by
  by_cases hd : 1 ≤ s.dim ∧ s.dim ≤ 4096
  · by_cases h0 : s.sch = 0
    · refine fs_MayK s _ p _ hn hw w ra hd.1 hd.2 (fun W => fs_rest0 s p W h0) ?_
      rw [mayB_iff, namB_iff, empB_iff]; unfold mayP namP sgB lvB
      simp [h0, hd.1, hd.2]
      constructor
      · rintro ⟨a, b, c, d, e, f⟩; exact ⟨b, e, c, a, d, f⟩
      · rintro ⟨b, e, c, a, d, f⟩; exact ⟨a, b, c, d, e, f⟩
    · by_cases h1 : s.sch = 1
      · refine fs_MayK s _ p _ hn hw w ra hd.1 hd.2 (fun W => fs_rest1 s p W h1) ?_
        rw [mayB_iff, namB_iff, empB_iff]; unfold mayP namP sgB lvB
        simp [h1, hd.1, hd.2]
        constructor
        · rintro ⟨a, b, c, d, e, f⟩; exact ⟨⟨a, b⟩, e, c, d, f⟩
        · rintro ⟨⟨a, b⟩, e, c, d, f⟩; exact ⟨a, b, c, d, e, f⟩
      · by_cases h2 : s.sch = 2
        · refine fs_MayK s _ p _ hn hw w ra hd.1 hd.2 (fun W => fs_rest2 s p W h2) ?_
          rw [mayB_iff, namB_iff, empB_iff]; unfold mayP namP sgB lvB
          simp [h2, hd.1, hd.2]
          constructor
          · rintro ⟨a, b, c, d, e, f, g, h⟩; exact ⟨⟨⟨g, h⟩, a, b, c, d⟩, e, f⟩
          · rintro ⟨⟨⟨g, h⟩, a, b, c, d⟩, e, f⟩; exact ⟨a, b, c, d, e, f, g, h⟩
        · by_cases h3 : s.sch = 3
          · refine fs_MayK s _ p _ hn hw w ra hd.1 hd.2 (fun W => fs_rest3 s p W h3) ?_
            rw [mayB_iff, namB_iff, empB_iff]; unfold mayP namP sgB lvB
            simp [h3, hd.1, hd.2]
            constructor
            · rintro ⟨a, b, c, d, e, f⟩; exact ⟨⟨e, f⟩, c, a, b, d⟩
            · rintro ⟨⟨e, f⟩, c, a, b, d⟩; exact ⟨a, b, c, d, e, f⟩
          · have hN : namB s = false := decide_eq_false (by unfold namP; simp [h0, h1, h2, h3])
            have hM : mayB s = false := mayB_no (fun h => by have := may_named h; unfold namB at hN; rw [decide_eq_false_iff_not] at hN; exact hN this)
            have C := hid (fun W (h : Below w.heap.size w W) => fs_named s p hn hw W ((ra.below h).more h.size))
            rw [hN] at C
            rw [hM]
            obtain ⟨hd1, hd2⟩ := hd
            clear hN hM h0 h1 h2 h3 ra hn hw
            go_enter Tryz.func42, Tryz.ntmps42
            go_wp2_with fail
            refine (C.out _ (by go_grown)).mono ?_
            rintro _ w1 ⟨rfl, hb1⟩
            have k1 : Below w.heap.size w w1 := Below.trans (by go_grown) (hb1.mono (by simp))
            go_wp2_with fail
            go_ret
            exact ⟨rfl, k1⟩
  · exact fs_MayD s p w (by omega)
end Go.Proofs.YtecgbelgoomneaaGreat
/- Signs, by the program: something made of each thing; whether a vector is one of signs that may be; the mean size. -/
namespace Go.Proofs.YtecgbelgoomneaaGreat
open Go.RowKit
set_option maxHeartbeats 1000000
set_option maxRecDepth 100000
set_option linter.unusedVariables false
theorem made_map {α β : Type} (v : List α) (d : α) (f : α → β) : (List.range v.length).map (fun j => f (v.getD j d)) = v.map f := by
  refine List.ext_getElem (by simp) fun i h1 h2 => ?_
  have hi : i < v.length := by simpa using h2
  simp [List.getD_eq_getElem?_getD, List.getElem?_eq_getElem hi]
theorem each_ib {A : Option Addr} {c : Nat} (K : FuncId) (caps : Array Value) (v : List Int) (hl : v.length ≤ 4096) (P : Int → Bool) (w : World)
   (hK : ∀ (args : Array Value) (W : World), (callFunc K args).run Tryz.prog W = .ok (.enter K args) W) (ra : Rd (Value.int .i64) w w.heap.size A v)
   (H : ∀ x, x ∈ v → ∀ W, Below w.heap.size w W → Calls Tryz.prog K (#[Value.int .i64 x] ++ caps) W fun e w' => e = .returned (Value.bool (P x)) ∧ W = w') :
    Calls Tryz.prog 175 #[.slice A v.length c, .func (.func K) #[] caps] w fun e w' => ∃ A' c', e = .returned (.slice A' v.length c') ∧ w'.ownsRow w.heap.size 4 1 (.slice A' v.length c') v.length ((v.map P).map Value.bool) ∧ Below w.heap.size w w' := by
  have hmk := fun W => run_make_row' (P := Tryz.prog) 30 4 (Value.bool false) 1 Tryz.underlying30 info_bool rfl .i64 .i64 v.length (by omega) (by omega) W
  have HH := hid H
  have RA := hid ra
  have HM := hid (made_map v (0 : Int) (fun x => Value.bool (P x)))
  clear H ra
  go_enter Tryz.func175, Tryz.ntmps175
  go_wp2_with fail
  go_loopw [6, 7, 13] (fun x6 x7 i wr => ∃ k : Nat, k ≤ v.length ∧ i = .int .i64 k ∧ wr.rowIs w.heap.size 4 v.length (fun j => if j < k then Value.bool (P (v.getD j (0 : Int))) else Value.bool false) ∧ Below w.heap.size w wr) (fun _ _ i _ => v.length - (intOf i).toNat)
  case atStart => exact ⟨0, by omega, rfl, by simpa using World.rowIs_made w (Value.bool false) v.length _, by go_grown⟩
  case round =>
    obtain ⟨k, hk, rfl, hrow, hbel⟩ := hrel
    have hz := hrow.lt
    clear hmk
    by_cases hlt : k < v.length
    · obtain ⟨b1, o1, x, rfl, l1, ex, d1⟩ := (RA.out.below hbel).at_ hlt
      have hx := List.mem_of_getElem? ex
      have C := hid (HH.out x hx wr hbel)
      have hg : v.getD k (0 : Int) = x := by rw [List.getD_eq_getElem?_getD, ex]; rfl
      have HG := hid hg
      obtain ⟨y, hy⟩ : ∃ y, P x = y := ⟨_, rfl⟩
      rw [hy] at C
      have HY := hid hy
      have c1 := hrow.cell hlt
      rw [if_neg (Nat.lt_irrefl k)] at c1
      have f1 := hrow.frozen k
      have HR := hid hrow
      have hzz := hid hz
      clear ex hx hg hy hrow
      go_wp2_with fail
      refine C.out.mono ?_
      rintro _ _ ⟨rfl, rfl⟩
      go_wp2_with fail
      go_roundw
      case rel =>
        refine ⟨k + 1, by omega, by go_num, ?_, hbel.setCell (Nat.le_refl _) _⟩
        refine (HR.out.set k (Value.bool y)).congr fun j hj => ?_
        by_cases e : j = k
        · subst e
          rw [if_pos rfl, if_pos (by omega), HG.out, HY.out]
        · rw [if_neg e]
          by_cases e2 : j < k
          · rw [if_pos e2, if_pos (by omega)]
          · rw [if_neg e2, if_neg (by omega)]
      case measure => simp [intOf]; omega
    · obtain rfl : k = v.length := by omega
      have hfin : ∃ A' c', (Ending.returned (Value.slice (some ⟨w.heap.size, 0, none⟩) v.length v.length) : Ending) = .returned (.slice A' v.length c') ∧ wr.ownsRow w.heap.size 4 1 (.slice A' v.length c') v.length ((v.map P).map Value.bool) ∧ Below w.heap.size w wr := by
        refine ⟨_, _, rfl, ?_, hbel⟩
        have h := own_made (B := w.heap.size) (w' := w) (hrow.congr (g := fun j => Value.bool (P (v.getD j (0 : Int)))) fun i hi => by rw [if_pos hi]) (Nat.le_refl _) (by unfold maxLen; omega)
        rw [HM.out] at h
        rw [List.map_map]
        exact h
      clear hrow HM
      go_wp2_with fail
      go_ret
      exact hfin
theorem each_bi {A : Option Addr} {c : Nat} (K : FuncId) (caps : Array Value) (v : List Bool) (hl : v.length ≤ 4096) (P : Bool → Int) (w : World)
   (hK : ∀ (args : Array Value) (W : World), (callFunc K args).run Tryz.prog W = .ok (.enter K args) W) (ra : Rd Value.bool w w.heap.size A v)
   (H : ∀ x, x ∈ v → ∀ W, Below w.heap.size w W → Calls Tryz.prog K (#[Value.bool x] ++ caps) W fun e w' => e = .returned (Value.int .i64 (P x)) ∧ W = w') :
    Calls Tryz.prog 127 #[.slice A v.length c, .func (.func K) #[] caps] w fun e w' => ∃ A' c', e = .returned (.slice A' v.length c') ∧ w'.ownsRow w.heap.size 2 1 (.slice A' v.length c') v.length ((v.map P).map (Value.int .i64)) ∧ Below w.heap.size w w' := by
  have hmk := fun W => run_make_row' (P := Tryz.prog) 24 2 (Value.int .i64 0) 8 Tryz.underlying24 info_i64 rfl .i64 .i64 v.length (by omega) (by omega) W
  have HH := hid H
  have RA := hid ra
  have HM := hid (made_map v false (fun x => (Value.int .i64) (P x)))
  clear H ra
  go_enter Tryz.func127, Tryz.ntmps127
  go_wp2_with fail
  go_loopw [6, 7, 13] (fun x6 x7 i wr => ∃ k : Nat, k ≤ v.length ∧ i = .int .i64 k ∧ wr.rowIs w.heap.size 2 v.length (fun j => if j < k then (Value.int .i64) (P (v.getD j false)) else (Value.int .i64) 0) ∧ Below w.heap.size w wr) (fun _ _ i _ => v.length - (intOf i).toNat)
  case atStart => exact ⟨0, by omega, rfl, by simpa using World.rowIs_made w (Value.int .i64 0) v.length _, by go_grown⟩
  case round =>
    obtain ⟨k, hk, rfl, hrow, hbel⟩ := hrel
    have hz := hrow.lt
    clear hmk
    by_cases hlt : k < v.length
    · obtain ⟨b1, o1, x, rfl, l1, ex, d1⟩ := (RA.out.below hbel).at_ hlt
      have hx := List.mem_of_getElem? ex
      have C := hid (HH.out x hx wr hbel)
      have hg : v.getD k false = x := by rw [List.getD_eq_getElem?_getD, ex]; rfl
      have HG := hid hg
      obtain ⟨y, hy⟩ : ∃ y, P x = y := ⟨_, rfl⟩
      rw [hy] at C
      have HY := hid hy
      have c1 := hrow.cell hlt
      rw [if_neg (Nat.lt_irrefl k)] at c1
      have f1 := hrow.frozen k
      have HR := hid hrow
      have hzz := hid hz
      clear ex hx hg hy hrow
      go_wp2_with fail
      refine C.out.mono ?_
      rintro _ _ ⟨rfl, rfl⟩
      go_wp2_with fail
      go_roundw
      case rel =>
        refine ⟨k + 1, by omega, by go_num, ?_, hbel.setCell (Nat.le_refl _) _⟩
        refine (HR.out.set k ((Value.int .i64) y)).congr fun j hj => ?_
        by_cases e : j = k
        · subst e
          rw [if_pos rfl, if_pos (by omega), HG.out, HY.out]
        · rw [if_neg e]
          by_cases e2 : j < k
          · rw [if_pos e2, if_pos (by omega)]
          · rw [if_neg e2, if_neg (by omega)]
      case measure => simp [intOf]; omega
    · obtain rfl : k = v.length := by omega
      have hfin : ∃ A' c', (Ending.returned (Value.slice (some ⟨w.heap.size, 0, none⟩) v.length v.length) : Ending) = .returned (.slice A' v.length c') ∧ wr.ownsRow w.heap.size 2 1 (.slice A' v.length c') v.length ((v.map P).map (Value.int .i64)) ∧ Below w.heap.size w wr := by
        refine ⟨_, _, rfl, ?_, hbel⟩
        have h := own_made (B := w.heap.size) (w' := w) (hrow.congr (g := fun j => (Value.int .i64) (P (v.getD j false))) fun i hi => by rw [if_pos hi]) (Nat.le_refl _) (by unfold maxLen; omega)
        rw [HM.out] at h
        rw [List.map_map]
        exact h
      clear hrow HM
      go_wp2_with fail
      go_ret
      exact hfin
/-- One of signs that may be. -/
def mySg (s : SentV) : Bool := decide (s.sch = 3 ∧ 1 ≤ s.dim ∧ s.dim ≤ 4096 ∧ s.L = [] ∧ s.V = [] ∧ s.wide = 0 ∧ s.lev = [] ∧ 0 ≤ s.scale ∧ (s.neg.length : Int) = s.dim)
theorem mySg_iff {s : SentV} : mySg s = true ↔ mayB s = true ∧ s.sch = 3 := by
  unfold mySg
  rw [decide_eq_true_iff, mayB_iff]
  unfold mayP
  constructor
  · rintro ⟨a, b, c, d, e, f, g, h1, h2⟩
    exact ⟨⟨b, c, .inr (.inr (.inr ⟨a, d, e, f, g, h1, h2⟩))⟩, a⟩
  · rintro ⟨⟨b, c, h⟩, a⟩
    rcases h with h | h | h | ⟨_, d, e, f, g, h1, h2⟩
    · have := h.1; omega
    · have := h.1; omega
    · have := h.1; omega
    · exact ⟨a, b, c, d, e, f, g, h1, h2⟩
theorem sn_may_v (sch dim scale wide : Int) (nL nV nE nN : Nat) (AL AV AE AN : Option Addr) (cL cV cE cN : Nat) (R : Bool) (w : World)
    (HR : Hid (R = true ↔ (sch = 3 ∧ 1 ≤ dim ∧ dim ≤ 4096 ∧ nL = 0 ∧ nV = 0 ∧ wide = 0 ∧ nE = 0 ∧ 0 ≤ scale ∧ (nN : Int) = dim))) :
    Calls Tryz.prog 126 #[.agg #[.int .i64 sch, .int .i64 dim, .slice AL nL cL, .slice AV nV cV, .int .i64 scale, .int .i64 wide, .slice AE nE cE, .slice AN nN cN]] w fun e w' => e = .returned (.bool R) ∧ Below w.heap.size w w' := by
  by_cases h1 : sch = 3
  · subst h1
    by_cases h2 : dim ≥ 1
    · skip
      by_cases h3 : dim ≤ 4096
      · skip
        by_cases h4 : nL = 0
        · subst h4
          by_cases h5 : nV = 0
          · subst h5
            by_cases h6 : wide = 0
            · subst h6
              by_cases h7 : nE = 0
              · subst h7
                by_cases h8 : scale ≥ 0
                · skip
                  by_cases h9 : (nN : Int) = dim
                  · subst h9
                    have hF : R = true := HR.out.2 ⟨rfl, h2, h3, rfl, rfl, rfl, rfl, h8, rfl⟩
                    subst hF
                    clear HR
                    go_enter Tryz.func126, Tryz.ntmps126
                    go_wp2_with fail
                    go_ret
                    exact ⟨rfl, by go_grown⟩
                  · have hF : R = false := Bool.eq_false_iff.2 (fun hR => h9 (by have h := HR.out.1 hR; exact h.2.2.2.2.2.2.2.2))
                    have t9 : ((nN : Int) == dim) = false := beq_eq_false_iff_ne.2 h9
                    subst hF
                    clear HR
                    go_enter Tryz.func126, Tryz.ntmps126
                    go_wp2_with fail
                    go_ret
                    exact ⟨rfl, by go_grown⟩
                · have hF : R = false := Bool.eq_false_iff.2 (fun hR => h8 (by have h := HR.out.1 hR; exact h.2.2.2.2.2.2.2.1))
                  subst hF
                  clear HR
                  go_enter Tryz.func126, Tryz.ntmps126
                  go_wp2_with fail
                  go_ret
                  exact ⟨rfl, by go_grown⟩
              · have hF : R = false := Bool.eq_false_iff.2 (fun hR => h7 (by have h := HR.out.1 hR; exact h.2.2.2.2.2.2.1))
                have t7 : ((nE : Int) == 0) = false := beq_eq_false_iff_ne.2 (by omega)
                have t7b : (nE == 0) = false := beq_eq_false_iff_ne.2 h7
                subst hF
                clear HR
                go_enter Tryz.func126, Tryz.ntmps126
                go_wp2_with fail
                go_ret
                exact ⟨rfl, by go_grown⟩
            · have hF : R = false := Bool.eq_false_iff.2 (fun hR => h6 (by have h := HR.out.1 hR; exact h.2.2.2.2.2.1))
              have t6 : (wide == 0) = false := beq_eq_false_iff_ne.2 h6
              subst hF
              clear HR
              go_enter Tryz.func126, Tryz.ntmps126
              go_wp2_with fail
              go_ret
              exact ⟨rfl, by go_grown⟩
          · have hF : R = false := Bool.eq_false_iff.2 (fun hR => h5 (by have h := HR.out.1 hR; exact h.2.2.2.2.1))
            have t5 : ((nV : Int) == 0) = false := beq_eq_false_iff_ne.2 (by omega)
            have t5b : (nV == 0) = false := beq_eq_false_iff_ne.2 h5
            subst hF
            clear HR
            go_enter Tryz.func126, Tryz.ntmps126
            go_wp2_with fail
            go_ret
            exact ⟨rfl, by go_grown⟩
        · have hF : R = false := Bool.eq_false_iff.2 (fun hR => h4 (by have h := HR.out.1 hR; exact h.2.2.2.1))
          have t4 : ((nL : Int) == 0) = false := beq_eq_false_iff_ne.2 (by omega)
          have t4b : (nL == 0) = false := beq_eq_false_iff_ne.2 h4
          subst hF
          clear HR
          go_enter Tryz.func126, Tryz.ntmps126
          go_wp2_with fail
          go_ret
          exact ⟨rfl, by go_grown⟩
      · have hF : R = false := Bool.eq_false_iff.2 (fun hR => h3 (by have h := HR.out.1 hR; exact h.2.2.1))
        subst hF
        clear HR
        go_enter Tryz.func126, Tryz.ntmps126
        go_wp2_with fail
        go_ret
        exact ⟨rfl, by go_grown⟩
    · have hF : R = false := Bool.eq_false_iff.2 (fun hR => h2 (by have h := HR.out.1 hR; exact h.2.1))
      subst hF
      clear HR
      go_enter Tryz.func126, Tryz.ntmps126
      go_wp2_with fail
      go_ret
      exact ⟨rfl, by go_grown⟩
  · have hF : R = false := Bool.eq_false_iff.2 (fun hR => h1 (by have h := HR.out.1 hR; exact h.1))
    have t1 : (sch == 3) = false := beq_eq_false_iff_ne.2 h1
    subst hF
    clear HR
    go_enter Tryz.func126, Tryz.ntmps126
    go_wp2_with fail
    go_ret
    exact ⟨rfl, by go_grown⟩
theorem sn_may (s : SentV) (p : SentP) (w : World) :
    Calls Tryz.prog 126 #[encT s p] w fun e w' => e = .returned (.bool (mySg s)) ∧ Below w.heap.size w w' := by
  refine sn_may_v s.sch s.dim s.scale s.wide s.L.length s.V.length s.lev.length s.neg.length p.AL p.AV p.AE p.AN p.cL p.cV p.cE p.cN (mySg s) w (hid ?_)
  unfold mySg; rw [decide_eq_true_eq, List.length_eq_zero_iff, List.length_eq_zero_iff, List.length_eq_zero_iff]
theorem sn_Mean {A : Option Addr} {c : Nat} (v : List Int) (uv : ∀ x ∈ v, I64 x) (hl : v.length ≤ 9223372036854775807) (w : World) (ra : Rd (Value.int .i64) w w.heap.size A v) :
    Calls Tryz.prog 174 #[.slice A v.length c] w fun e w' => e = .returned (.tuple #[.int .i64 (mnV v), .int .i64 (mnE v)]) ∧ Below w.heap.size w w' := by
  by_cases h0 : v = []
  · have he : mnE v = 1 := if_pos h0
    have hv : mnV v = 0 := if_neg (by rw [he]; decide)
    rw [he, hv]
    subst h0
    clear he hv ra uv hl
    go_enter Tryz.func174, Tryz.ntmps174
    go_wp2_with fail
    go_ret2
    exact ⟨rfl, Below.refl _ _⟩
  · have h0' : ¬ v.length = 0 := fun h => h0 (List.length_eq_zero_iff.1 h)
    have t1 : ((v.length : Int) == 0) = false := beq_eq_false_iff_ne.2 (by omega)
    have t2 : (v.length == 0) = false := beq_eq_false_iff_ne.2 h0'
    have CS := hid (Size_any (A := A) (c := c) v hl uv w ra)
    have hE : mnE v = sizeE v := if_neg h0
    by_cases he : sizeE v = 0
    · obtain ⟨z1, z2, z3⟩ := sizeV_is he
      have hV : mnV v = ((sumS v / v.length : Nat) : Int) := if_pos (hE.trans he)
      rw [hE, he, hV]
      rw [he, z3] at CS
      obtain ⟨S, hS⟩ : ∃ S, sumS v = S := ⟨_, rfl⟩
      rw [hS] at CS z2 ⊢
      obtain ⟨q, hq⟩ : ∃ q, S / v.length = q := ⟨_, rfl⟩
      have i1 : (S : Int) / (v.length : Int) = (q : Int) := by rw [← hq]; simp
      have i2 : (S : Int).tdiv (v.length : Int) = (q : Int) := by rw [Int.tdiv_eq_ediv_of_nonneg (by omega)]; exact i1
      have hq2 : q ≤ S := by rw [← hq]; exact Nat.div_le_self _ _
      have i3 : (v.length : Int) ≠ 0 := by omega
      rw [hq]
      clear hS hq hE he hV z3 ra uv h0 h0'
      go_enter Tryz.func174, Tryz.ntmps174
      go_wp2_with fail
      refine CS.out.mono ?_
      rintro _ w1 ⟨rfl, hb⟩
      go_wp2_with fail
      go_ret2
      exact ⟨by go_num, hb⟩
    · have hV : mnV v = 0 := if_neg (by rw [hE]; exact he)
      rw [hV, hE]
      obtain ⟨E, hEE⟩ : ∃ E, sizeE v = E := ⟨_, rfl⟩
      rw [hEE] at CS he ⊢
      have hne : (E != 0) = true := by simpa using he
      clear hV hE hEE he ra uv h0 h0'
      go_enter Tryz.func174, Tryz.ntmps174
      go_wp2_with fail
      refine CS.out.mono ?_
      rintro _ w1 ⟨rfl, hb⟩
      go_wp2_with fail
      go_ret2
      exact ⟨rfl, hb⟩
end Go.Proofs.YtecgbelgoomneaaGreat
/- Signs, by the program: pressed, loosened, whether it is pressed so. -/
namespace Go.Proofs.YtecgbelgoomneaaGreat
open Go.RowKit
set_option maxHeartbeats 1000000
set_option maxRecDepth 100000
set_option linter.unusedVariables false
theorem press_cl (x : Int) (w : World) :
    Calls Tryz.prog 176 (#[.int .i64 x] ++ #[]) w fun e w' => e = .returned (.bool (decide (x < 0))) ∧ w = w' := by
  go_enter Tryz.func176, Tryz.ntmps176
  go_wp2_with fail
  go_ret
  exact ⟨rfl, rfl⟩
set_option maxHeartbeats 4000000 in
theorem sn_Press {A : Option Addr} {c : Nat} (v : List Int) (uv : ∀ x ∈ v, I64 x) (hl : v.length ≤ 9223372036854775807) (w : World) (ra : Rd (Value.int .i64) w w.heap.size A v) :
    Calls Tryz.prog 125 #[.slice A v.length c] w (OwnSg w.heap.size (sgS v) (mnE v) w) := by
  have CM := hid (fun W (h : Below w.heap.size w W) => sn_Mean (A := A) (c := c) v uv hl W (ra.on h))
  by_cases he : mnE v = 0
  · have hS : sgS v = ⟨3, v.length, [], [], mnV v, 0, [], sgN v⟩ := if_pos he
    obtain ⟨z1, z2, z3⟩ := sizeV_is (mnE_ok.1 he).2
    rw [hS, he]
    rw [he] at CM
    have hNl := sgN_len v
    have CE := hid (fun W (h : Below w.heap.size w W) => show Calls Tryz.prog 175 #[.slice A v.length c, .func (.func 176) #[] #[]] W fun e w' => ∃ A' c', e = .returned (.slice A' v.length c') ∧ w'.ownsRow W.heap.size 4 1 (.slice A' (sgN v).length c') (sgN v).length ((sgN v).map Value.bool) ∧ Below W.heap.size W w' from by
      rw [hNl]
      exact each_ib (A := A) (c := c) 176 #[] v z1 (fun x => decide (x < 0)) W (cl_enter 176 (by kernel_rfl)) (ra.on h) (fun x hx W2 h2 => press_cl x W2))
    have hm : mnV v = (mnN v : Int) := if_pos he
    have hle := mnN_le v
    rw [hm] at CM ⊢
    obtain ⟨M, hM⟩ : ∃ M, mnN v = M := ⟨_, rfl⟩
    rw [hM] at CM hle ⊢
    obtain ⟨N, hN⟩ : ∃ N, sgN v = N := ⟨_, rfl⟩
    rw [hN] at CE hNl ⊢
    have HNL := hid hNl
    clear hS he hm hM hN z3 ra uv hNl
    go_enter Tryz.func125, Tryz.ntmps125
    go_wp2_with fail
    have B0 := BoxL.new w [.int .i64 0, .int .i64 0, .slice none 0 0, .slice none 0 0, .int .i64 0, .int .i64 0, .slice none 0 0, .slice none 0 0] 32
    refine (CM.out _ (by go_grown)).mono ?_
    rintro _ w1 ⟨rfl, hb⟩
    have HB1 := hid (B0.below hb (by simp))
    have k1 : Below w.heap.size w w1 := Below.trans (by go_grown) (hb.mono (by simp))
    have hg1 : w.heap.size < w1.heap.size := by have := hb.size; simp at this; omega
    clear B0 hb CM
    go_wp2_with fail
    refine (CE.out _ k1).mono ?_
    rintro _ w2 ⟨A2, c2, rfl, o2, hb2⟩
    have B2 := HB1.out.below hb2 hg1
    have HO := hid (own_base o2 (show w.heap.size + 1 ≤ w1.heap.size by omega))
    have k2 : Below w.heap.size w w2 := k1.trans (hb2.mono k1.size)
    obtain ⟨⟨g0, g1, g2, g3, g4, g5, g6, g7⟩, n0, n1, n2, n3, n4, n5, n6, n7⟩ := B2.eight
    clear o2 hb2 CE HB1 B2
    go_wp2_with fail
    refine bodyPost_ret (v := .tuple #[.agg #[.int .i64 3, .int .i64 (v.length : Int), .slice none 0 0, .slice none 0 0, .int .i64 (M : Int), .int .i64 0, .slice none 0 0, .slice A2 v.length c2], .int .i64 0]) (by simp [results, Tryz.results125, go_sem, g0, g1, g2, g3, g4, g5, g6, g7]) rfl ?_
    refine ⟨A2, c2, by rw [← HNL.out]; rfl, rfl, rfl, rfl, ?_, ?_⟩
    · have hz : w.heap.size < w.heap.size + 1 := by omega
      exact own_base (own_set (own_set (own_set (own_set (own_set (own_set (own_set (own_set HO.out hz _) hz _) hz _) hz _) hz _) hz _) hz _) hz _) (by omega)
    · exact (((((((k2.setCell (by simp) _).setCell (by simp) _).setCell (by simp) _).setCell (by simp) _).setCell (by simp) _).setCell (by simp) _).setCell (by simp) _).setCell (by simp) _
  · have hS : sgS v = zeroS := if_neg he
    rw [hS]
    obtain ⟨E, hE⟩ : ∃ E, mnE v = E := ⟨_, rfl⟩
    obtain ⟨V, hV⟩ : ∃ V, mnV v = V := ⟨_, rfl⟩
    rw [hE, hV] at CM
    rw [hE] at he ⊢
    have hne : (E != 0) = true := by simpa using he
    clear hS he hE hV ra uv
    go_enter Tryz.func125, Tryz.ntmps125
    go_wp2_with fail
    have B0 := BoxL.new w [.int .i64 0, .int .i64 0, .slice none 0 0, .slice none 0 0, .int .i64 0, .int .i64 0, .slice none 0 0, .slice none 0 0] 32
    refine (CM.out _ (by go_grown)).mono ?_
    rintro _ w1 ⟨rfl, hb⟩
    have B1 := B0.below hb (by simp)
    have k1 : Below w.heap.size w w1 := Below.trans (by go_grown) (hb.mono (by simp))
    obtain ⟨⟨g0, g1, g2, g3, g4, g5, g6, g7⟩, n0, n1, n2, n3, n4, n5, n6, n7⟩ := B1.eight
    clear B0 B1 hb CM
    go_wp2_with fail
    refine bodyPost_ret (v := .tuple #[encT zeroS zeroP, .int .i64 E]) (by simp [results, Tryz.results125, go_sem, zeroS, zeroP, g0, g1, g2, g3, g4, g5, g6, g7]) rfl ⟨none, 0, rfl, rfl, rfl, rfl, own_nil _ _ _, ?_⟩
    exact (((((((k1.setCell (by simp) _).setCell (by simp) _).setCell (by simp) _).setCell (by simp) _).setCell (by simp) _).setCell (by simp) _).setCell (by simp) _).setCell (by simp) _
theorem loosen_cl {g : Nat} {scale : Int} {w : World} (hc : w.cell? ⟨g, 4, none⟩ = some (.int .i64 scale)) (h0 : 0 ≤ scale) (h1 : scale ≤ 9223372036854775807) (b : Bool) :
    Calls Tryz.prog 128 (#[.bool b] ++ #[.pointer (some ⟨g, 0, none⟩)]) w fun e w' => e = .returned (.int .i64 (if b = true then -scale else scale)) ∧ w = w' := by
  obtain ⟨Z, hZ⟩ : ∃ Z, -scale = Z := ⟨_, rfl⟩
  have hneg : IntKind.i64.wrap (-scale) = Z := by rw [IntKind.wrap_i64]; omega
  have hneg2 : wrap64 (-scale) = Z := by rw [wrap64_eq]; omega
  cases b with
  | true =>
    rw [if_pos rfl, hZ]
    clear hZ
    go_enter Tryz.func128, Tryz.ntmps128
    go_wp2_with fail
    go_ret
    exact ⟨rfl, rfl⟩
  | false =>
    rw [if_neg (by decide)]
    clear hZ
    go_enter Tryz.func128, Tryz.ntmps128
    go_wp2_with fail
    go_ret
    exact ⟨rfl, rfl⟩
set_option maxHeartbeats 4000000 in
theorem sn_Loosen (s : SentV) (p : SentP) (hn : lnS 100000 s) (hw : wfS s) (w : World) (ra : RdS w w.heap.size s p) :
    Calls Tryz.prog 80 #[encT s p] w (OwnE 2 .i64 w.heap.size (lsgV s) (lsgE s) w) := by
  obtain ⟨AL, cL, AV, cV, AE, cE, AN, cN⟩ := p
  have CM := hid (fun W => show Calls Tryz.prog 126 #[.agg #[.int .i64 s.sch, .int .i64 s.dim, .slice AL s.L.length cL, .slice AV s.V.length cV, .int .i64 s.scale, .int .i64 s.wide, .slice AE s.lev.length cE, .slice AN s.neg.length cN]] W fun e w' => e = .returned (.bool (mySg s)) ∧ Below W.heap.size W w' from sn_may s ⟨AL, cL, AV, cV, AE, cE, AN, cN⟩ W)
  show Calls Tryz.prog 80 #[.agg #[.int .i64 s.sch, .int .i64 s.dim, .slice AL s.L.length cL, .slice AV s.V.length cV, .int .i64 s.scale, .int .i64 s.wide, .slice AE s.lev.length cE, .slice AN s.neg.length cN]] w _
  by_cases hm : mayB s = true ∧ s.sch = 3
  · have he : lsgE s = 0 := if_pos hm
    have hv : lsgV s = lsgL s.scale s.neg := if_pos he
    rw [he, hv]
    rw [mySg_iff.2 hm] at CM
    have hmy := of_decide_eq_true (mySg_iff.2 hm)
    have hsc := hw.2.2.2.2.1
    have hs0 : 0 ≤ s.scale := hmy.2.2.2.2.2.2.2.1
    have hs63 : s.scale ≤ 9223372036854775807 := by unfold I64 at hsc; omega
    have hnl : s.neg.length ≤ 4096 := by have h1 := hmy.2.2.1; have h2 := hmy.2.2.2.2.2.2.2.2; omega
    have hln : (lsgL s.scale s.neg).length = s.neg.length := by unfold lsgL; rw [List.length_map]
    have CE := hid (fun W (h : Below w.heap.size w W) (hX : BoxL W w.heap.size [.int .i64 s.sch, .int .i64 s.dim, .slice AL s.L.length cL, .slice AV s.V.length cV, .int .i64 s.scale, .int .i64 s.wide, .slice AE s.lev.length cE, .slice AN s.neg.length cN]) => show Calls Tryz.prog 127 #[.slice AN s.neg.length cN, .func (.func 128) #[] #[.pointer (some ⟨w.heap.size, 0, none⟩)]] W fun e w' => ∃ A' c', e = .returned (.slice A' (lsgL s.scale s.neg).length c') ∧ w'.ownsRow W.heap.size 2 1 (.slice A' (lsgL s.scale s.neg).length c') (lsgL s.scale s.neg).length ((lsgL s.scale s.neg).map (Value.int .i64)) ∧ Below W.heap.size W w' from by
      rw [hln]
      exact each_bi (A := AN) (c := cN) 128 #[.pointer (some ⟨w.heap.size, 0, none⟩)] s.neg hnl (fun b => if b = true then -s.scale else s.scale) W (cl_enter 128 (by kernel_rfl)) ((ra.2.2.2.below h).more h.size) (fun x hx W2 h2 => loosen_cl ((hX.below h2 (hX.lt (by simp))) 4 _ rfl).1 hs0 hs63 x))
    obtain ⟨Q, hQ⟩ : ∃ Q, lsgL s.scale s.neg = Q := ⟨_, rfl⟩
    rw [hQ] at CE ⊢
    clear he hv hm ra hn hw hsc hmy hln hQ
    go_enter Tryz.func80, Tryz.ntmps80
    go_wp2_with fail
    have B0 := BoxL.new w [.int .i64 s.sch, .int .i64 s.dim, .slice AL s.L.length cL, .slice AV s.V.length cV, .int .i64 s.scale, .int .i64 s.wide, .slice AE s.lev.length cE, .slice AN s.neg.length cN] 32
    refine (CM.out _).mono ?_
    rintro _ w1 ⟨rfl, hb⟩
    have HB1 := hid (B0.below hb (by simp))
    have k1 : Below w.heap.size w w1 := Below.trans (by go_grown) (hb.mono (by simp))
    have f7 := (HB1.out 7 _ rfl).1
    clear B0 hb CM
    go_wp2_with fail
    refine (CE.out _ k1 HB1.out).mono ?_
    rintro _ w2 ⟨A2, c2, rfl, o2, hb2⟩
    have hfin : OwnE 2 .i64 w.heap.size Q 0 w (.returned (.tuple #[.slice A2 Q.length c2, .int .i64 0])) w2 := ⟨A2, c2, rfl, own_base o2 k1.size, k1.trans (hb2.mono k1.size)⟩
    clear o2 hb2 CE HB1 f7
    go_wp2_with fail
    go_ret2
    exact hfin
  · have he : lsgE s = 1 := if_neg hm
    have hv : lsgV s = [] := if_neg (by rw [he]; decide)
    rw [he, hv]
    have hq : mySg s = false := by
      cases h : mySg s with
      | false => rfl
      | true => exact absurd (mySg_iff.1 h) hm
    rw [hq] at CM
    clear he hv hm ra hn hw hq
    go_enter Tryz.func80, Tryz.ntmps80
    go_wp2_with fail
    refine (CM.out _).mono ?_
    rintro _ w1 ⟨rfl, hb⟩
    have k1 : Below w.heap.size w w1 := Below.trans (by go_grown) (hb.mono (by simp))
    go_wp2_with fail
    go_ret2
    exact .nil k1
theorem isSB_no {v : List Int} {s : SentV} (h : ¬ (mnE v = 0 ∧ sgS v = s)) : isSB v s = false := by
  unfold isSB
  by_cases h0 : mnE v = 0
  · rw [decide_eq_true h0, Bool.true_and]
    exact Bool.eq_false_iff.2 (fun h2 => h ⟨h0, sameS_iff.1 h2⟩)
  · rw [decide_eq_false h0, Bool.false_and]
theorem isSB_in {v : List Int} {s : SentV} (h0 : mnE v = 0) (hm : mySg s = true) (hs : s.scale = mnV v) : isSB v s = eqN s.neg (sgN v) := by
  obtain ⟨a, b, c, d, e, f, g, h1, h2⟩ := of_decide_eq_true hm
  unfold isSB
  rw [decide_eq_true h0, Bool.true_and]
  rw [Bool.eq_iff_iff, sameS_iff]
  unfold eqN
  rw [decide_eq_true_eq]
  have hS : sgS v = ⟨3, v.length, [], [], mnV v, 0, [], sgN v⟩ := if_pos h0
  constructor
  · intro h
    rw [← h, hS]
  · intro h
    rw [hS]
    obtain ⟨s1, s2, s3, s4, s5, s6, s7, s8⟩ := s
    simp only at a b c d e f g h1 h2 hs h
    subst a d e f g hs h
    rw [sgN_len] at h2
    rw [← h2]
theorem isSB_parts {v : List Int} {s : SentV} (h : sgS v = s) (h0 : mnE v = 0) : mySg s = true ∧ s.scale = mnV v := by
  have hm := sg_may h0
  rw [h] at hm
  have hS : sgS v = ⟨3, v.length, [], [], mnV v, 0, [], sgN v⟩ := if_pos h0
  rw [hS] at h
  subst h
  exact ⟨mySg_iff.2 ⟨hm, rfl⟩, rfl⟩
set_option maxHeartbeats 4000000 in
theorem sn_Is {A : Option Addr} {c : Nat} (v : List Int) (uv : ∀ x ∈ v, I64 x) (hl : v.length ≤ 9223372036854775807) (s : SentV) (p : SentP) (hn : lnS 100000 s) (w : World) (ra : Rd (Value.int .i64) w w.heap.size A v) (rs : RdS w w.heap.size s p) :
    Calls Tryz.prog 129 #[.slice A v.length c, encT s p] w fun e w' => e = .returned (.bool (isSB v s)) ∧ Below w.heap.size w w' := by
  obtain ⟨AL, cL, AV, cV, AE, cE, AN, cN⟩ := p
  have CM := hid (fun W => show Calls Tryz.prog 126 #[.agg #[.int .i64 s.sch, .int .i64 s.dim, .slice AL s.L.length cL, .slice AV s.V.length cV, .int .i64 s.scale, .int .i64 s.wide, .slice AE s.lev.length cE, .slice AN s.neg.length cN]] W fun e w' => e = .returned (.bool (mySg s)) ∧ Below W.heap.size W w' from sn_may s ⟨AL, cL, AV, cV, AE, cE, AN, cN⟩ W)
  have CP := hid (fun W (h : Below w.heap.size w W) => sn_Press (A := A) (c := c) v uv hl W (ra.on h))
  show Calls Tryz.prog 129 #[.slice A v.length c, .agg #[.int .i64 s.sch, .int .i64 s.dim, .slice AL s.L.length cL, .slice AV s.V.length cV, .int .i64 s.scale, .int .i64 s.wide, .slice AE s.lev.length cE, .slice AN s.neg.length cN]] w _
  by_cases he : mnE v = 0
  · have hS : sgS v = ⟨3, v.length, [], [], mnV v, 0, [], sgN v⟩ := if_pos he
    have hNl := sgN_len v
    have hv5 : v.length ≤ 4096 := (sizeV_is (mnE_ok.1 he).2).1
    have CQ := hid (fun W (h : Below w.heap.size w W) => show Calls Tryz.prog 125 #[.slice A v.length c] W fun e w' => ∃ A' c', e = .returned (.tuple #[.agg #[.int .i64 3, .int .i64 (v.length : Int), .slice none 0 0, .slice none 0 0, .int .i64 (mnV v), .int .i64 0, .slice none 0 0, .slice A' (sgN v).length c'], .int .i64 0]) ∧ Rd Value.bool w' w'.heap.size A' (sgN v) ∧ Below W.heap.size W w' from (CP.out W h).mono (by
      intro e w' H
      rw [hS, he] at H
      obtain ⟨A', c', h1, _, _, _, h2, h3⟩ := H
      exact ⟨A', c', h1, own_rd h2, h3⟩))
    have CEq := hid (fun (A' : Option Addr) (c' : Nat) W (h : Below w.heap.size w W) (r : Rd Value.bool W W.heap.size A' (sgN v)) => eq_bools (A := AN) (B := A') (c := cN) (d := c') s.neg (sgN v) (by have := hn.2.2.2; omega) (by omega) W (rs.2.2.2.below h) r)
    have HIN := hid (fun h1 h2 => isSB_in (v := v) (s := s) he h1 h2)
    have HNO := hid (fun h => isSB_no (v := v) (s := s) h)
    have HPA := hid (fun h => isSB_parts (v := v) (s := s) h he)
    obtain ⟨R, hR⟩ : ∃ R, isSB v s = R := ⟨_, rfl⟩
    rw [hR] at HIN HNO ⊢
    obtain ⟨G, hG⟩ : ∃ G, sgS v = G := ⟨_, rfl⟩
    rw [hG] at HNO HPA
    obtain ⟨N, hN⟩ : ∃ N, sgN v = N := ⟨_, rfl⟩
    rw [hN] at CQ CEq HIN
    obtain ⟨M, hM⟩ : ∃ M, mnV v = M := ⟨_, rfl⟩
    rw [hM] at CQ HIN HPA
    obtain ⟨nl, hnl⟩ : ∃ nl, N.length = nl := ⟨_, rfl⟩
    rw [hnl] at CQ CEq
    clear hS hNl hR hG hN hM hnl uv ra rs CP he hn
    by_cases hm : mySg s = true
    · rw [hm] at CM
      by_cases hsc : s.scale = M
      · have hF : R = eqN s.neg N := HIN.out hm hsc
        obtain ⟨z, hz⟩ : ∃ z, eqN s.neg N = z := ⟨_, rfl⟩
        rw [hz] at CEq hF
        subst hF
        have HSC := hid hsc
        clear hm hsc hz HIN HNO HPA
        go_enter Tryz.func129, Tryz.ntmps129
        go_wp2_with fail
        have B0 := BoxL.new w [.int .i64 s.sch, .int .i64 s.dim, .slice AL s.L.length cL, .slice AV s.V.length cV, .int .i64 s.scale, .int .i64 s.wide, .slice AE s.lev.length cE, .slice AN s.neg.length cN] 32
        refine (CQ.out _ (by go_grown)).mono ?_
        rintro _ w1 ⟨A1, c1, rfl, r1, hb⟩
        have HB1 := hid (B0.below hb (by simp))
        have k1 : Below w.heap.size w w1 := Below.trans (by go_grown) (hb.mono (by simp))
        have hg1 : w.heap.size < w1.heap.size := by have := hb.size; simp at this; omega
        have R1 := hid r1
        clear B0 hb CQ r1
        have N2 := BoxL.new w1 [.int .i64 3, .int .i64 (v.length : Int), .slice none 0 0, .slice none 0 0, .int .i64 M, .int .i64 0, .slice none 0 0, .slice A1 nl c1] 32
        have G2 : Below w1.heap.size w1 (w1.alloc (.cells #[.int .i64 3, .int .i64 (v.length : Int), .slice none 0 0, .slice none 0 0, .int .i64 M, .int .i64 0, .slice none 0 0, .slice A1 nl c1] 32)) := (Below.refl _ _).alloc (Nat.le_refl _) _
        obtain ⟨w2, hw2⟩ : ∃ w2, w1.alloc (.cells #[.int .i64 3, .int .i64 (v.length : Int), .slice none 0 0, .slice none 0 0, .int .i64 M, .int .i64 0, .slice none 0 0, .slice A1 nl c1] 32) = w2 := ⟨_, rfl⟩
        simp only [List.toArray] at N2
        rw [hw2] at N2 G2
        have HN2 := hid N2
        have X2 := HB1.out.below G2 hg1
        have k2 : Below w.heap.size w w2 := k1.trans (G2.mono k1.size)
        have R2 := hid (R1.out.on G2)
        obtain ⟨⟨f0, f1, f2, f3, f4, f5, f6, f7⟩, _⟩ := X2.eight
        have HX2 := hid X2
        have hg2 : w.heap.size < w2.heap.size := by have := G2.size; omega
        have hg3 : w1.heap.size < w2.heap.size := HN2.out.lt (by simp)
        clear N2 G2 X2 R1 HB1
        go_wp2_with fail
        refine (CM.out _).mono ?_
        rintro _ w3 ⟨rfl, hb3⟩
        have X3 := HX2.out.below hb3 hg2
        have N3 := HN2.out.below hb3 hg3
        have k3 : Below w.heap.size w w3 := k2.trans (hb3.mono k2.size)
        have R3 := R2.out.on hb3
        have g4 := (X3 4 _ rfl).1
        have g7 := (X3 7 _ rfl).1
        have e4 := (N3 4 _ rfl).1
        have e7 := (N3 7 _ rfl).1
        rw [HSC.out] at g4
        have t1 : (M == M) = true := by simp
        have CE := hid (CEq.out A1 c1 w3 k3 R3)
        clear f0 f1 f2 f3 f4 f5 f6 f7 hb3 X3 N3 HX2 HN2 R2 R3 CEq CM
        go_wp2_with fail
        refine CE.out.mono ?_
        rintro _ _ ⟨rfl, n, rfl⟩
        go_wp2_with fail
        go_ret
        exact ⟨rfl, k3.trans (belowN _ _ _)⟩
      · have hF : R = false := HNO.out (fun h => hsc (HPA.out h.2).2)
        have t1 : (s.scale == M) = false := beq_eq_false_iff_ne.2 hsc
        subst hF
        clear hm hsc HIN HNO HPA CEq
        go_enter Tryz.func129, Tryz.ntmps129
        go_wp2_with fail
        have B0 := BoxL.new w [.int .i64 s.sch, .int .i64 s.dim, .slice AL s.L.length cL, .slice AV s.V.length cV, .int .i64 s.scale, .int .i64 s.wide, .slice AE s.lev.length cE, .slice AN s.neg.length cN] 32
        refine (CQ.out _ (by go_grown)).mono ?_
        rintro _ w1 ⟨A1, c1, rfl, r1, hb⟩
        have HB1 := hid (B0.below hb (by simp))
        have k1 : Below w.heap.size w w1 := Below.trans (by go_grown) (hb.mono (by simp))
        have hg1 : w.heap.size < w1.heap.size := by have := hb.size; simp at this; omega
        clear B0 hb CQ r1
        have N2 := BoxL.new w1 [.int .i64 3, .int .i64 (v.length : Int), .slice none 0 0, .slice none 0 0, .int .i64 M, .int .i64 0, .slice none 0 0, .slice A1 nl c1] 32
        have G2 : Below w1.heap.size w1 (w1.alloc (.cells #[.int .i64 3, .int .i64 (v.length : Int), .slice none 0 0, .slice none 0 0, .int .i64 M, .int .i64 0, .slice none 0 0, .slice A1 nl c1] 32)) := (Below.refl _ _).alloc (Nat.le_refl _) _
        obtain ⟨w2, hw2⟩ : ∃ w2, w1.alloc (.cells #[.int .i64 3, .int .i64 (v.length : Int), .slice none 0 0, .slice none 0 0, .int .i64 M, .int .i64 0, .slice none 0 0, .slice A1 nl c1] 32) = w2 := ⟨_, rfl⟩
        simp only [List.toArray] at N2
        rw [hw2] at N2 G2
        have HN2 := hid N2
        have X2 := HB1.out.below G2 hg1
        have k2 : Below w.heap.size w w2 := k1.trans (G2.mono k1.size)
        obtain ⟨⟨f0, f1, f2, f3, f4, f5, f6, f7⟩, _⟩ := X2.eight
        have HX2 := hid X2
        have hg2 : w.heap.size < w2.heap.size := by have := G2.size; omega
        have hg3 : w1.heap.size < w2.heap.size := HN2.out.lt (by simp)
        clear N2 G2 X2 HB1
        go_wp2_with fail
        refine (CM.out _).mono ?_
        rintro _ w3 ⟨rfl, hb3⟩
        have X3 := HX2.out.below hb3 hg2
        have N3 := HN2.out.below hb3 hg3
        have k3 : Below w.heap.size w w3 := k2.trans (hb3.mono k2.size)
        have g4 := (X3 4 _ rfl).1
        have e4 := (N3 4 _ rfl).1
        clear f0 f1 f2 f3 f4 f5 f6 f7 hb3 X3 N3 HX2 HN2 CM
        go_wp2_with fail
        go_ret
        exact ⟨rfl, k3⟩
    · have hF : R = false := HNO.out (fun h => hm (HPA.out h.2).1)
      have hm2 : mySg s = false := by simpa using hm
      rw [hm2] at CM
      subst hF
      clear hm hm2 HIN HNO HPA CEq
      go_enter Tryz.func129, Tryz.ntmps129
      go_wp2_with fail
      have B0 := BoxL.new w [.int .i64 s.sch, .int .i64 s.dim, .slice AL s.L.length cL, .slice AV s.V.length cV, .int .i64 s.scale, .int .i64 s.wide, .slice AE s.lev.length cE, .slice AN s.neg.length cN] 32
      refine (CQ.out _ (by go_grown)).mono ?_
      rintro _ w1 ⟨A1, c1, rfl, r1, hb⟩
      have HB1 := hid (B0.below hb (by simp))
      have k1 : Below w.heap.size w w1 := Below.trans (by go_grown) (hb.mono (by simp))
      have hg1 : w.heap.size < w1.heap.size := by have := hb.size; simp at this; omega
      clear B0 hb CQ r1
      have G2 : Below w1.heap.size w1 (w1.alloc (.cells #[.int .i64 3, .int .i64 (v.length : Int), .slice none 0 0, .slice none 0 0, .int .i64 M, .int .i64 0, .slice none 0 0, .slice A1 nl c1] 32)) := (Below.refl _ _).alloc (Nat.le_refl _) _
      obtain ⟨w2, hw2⟩ : ∃ w2, w1.alloc (.cells #[.int .i64 3, .int .i64 (v.length : Int), .slice none 0 0, .slice none 0 0, .int .i64 M, .int .i64 0, .slice none 0 0, .slice A1 nl c1] 32) = w2 := ⟨_, rfl⟩
      rw [hw2] at G2
      have X2 := HB1.out.below G2 hg1
      have k2 : Below w.heap.size w w2 := k1.trans (G2.mono k1.size)
      obtain ⟨⟨f0, f1, f2, f3, f4, f5, f6, f7⟩, _⟩ := X2.eight
      clear G2 X2 HB1
      go_wp2_with fail
      refine (CM.out _).mono ?_
      rintro _ w3 ⟨rfl, hb3⟩
      have k3 : Below w.heap.size w w3 := k2.trans (hb3.mono k2.size)
      clear f0 f1 f2 f3 f4 f5 f6 f7 hb3 CM
      go_wp2_with fail
      go_ret
      exact ⟨rfl, k3⟩
  · have hF : isSB v s = false := isSB_no (fun h => he h.1)
    have hS : sgS v = zeroS := if_neg he
    rw [hF]
    rw [hS] at CP
    obtain ⟨E, hE⟩ : ∃ E, mnE v = E := ⟨_, rfl⟩
    rw [hE] at CP he
    have hne : (E == 0) = false := beq_eq_false_iff_ne.2 he
    have CQ := hid (fun W (h : Below w.heap.size w W) => show Calls Tryz.prog 125 #[.slice A v.length c] W fun e w' => ∃ A' c', e = .returned (.tuple #[.agg #[.int .i64 0, .int .i64 0, .slice none 0 0, .slice none 0 0, .int .i64 0, .int .i64 0, .slice none 0 0, .slice A' 0 c'], .int .i64 E]) ∧ Below W.heap.size W w' from (CP.out W h).mono (by
      intro e w' H
      obtain ⟨A', c', h1, _, _, _, h2, h3⟩ := H
      exact ⟨A', c', h1, h3⟩))
    clear hF hS hE he uv ra rs CP CM hn
    go_enter Tryz.func129, Tryz.ntmps129
    go_wp2_with fail
    refine (CQ.out _ (by go_grown)).mono ?_
    rintro _ w1 ⟨A1, c1, rfl, hb⟩
    have k1 : Below w.heap.size w w1 := Below.trans (by go_grown) (hb.mono (by simp))
    have k2 : Below w.heap.size w (w1.alloc (.cells #[.int .i64 0, .int .i64 0, .slice none 0 0, .slice none 0 0, .int .i64 0, .int .i64 0, .slice none 0 0, .slice A1 0 c1] 32)) := k1.alloc k1.size _
    clear hb CQ
    go_wp2_with fail
    go_ret
    exact ⟨rfl, k2⟩
end Go.Proofs.YtecgbelgoomneaaGreat
/- The parts of a vector's body, by the program. -/
namespace Go.Proofs.YtecgbelgoomneaaGreat
open Go.RowKit
set_option maxHeartbeats 1000000
set_option maxRecDepth 100000
set_option linter.unusedVariables false
theorem held8 {w W w1 : World} {g : Nat} {a b c d e f i j : Value} (h : W.cell? ⟨g, 0, none⟩ = some a ∧ W.cell? ⟨g, 1, none⟩ = some b ∧ W.cell? ⟨g, 2, none⟩ = some c ∧ W.cell? ⟨g, 3, none⟩ = some d ∧ W.cell? ⟨g, 4, none⟩ = some e ∧ W.cell? ⟨g, 5, none⟩ = some f ∧ W.cell? ⟨g, 6, none⟩ = some i ∧ W.cell? ⟨g, 7, none⟩ = some j ∧ Below w.heap.size w W) (hb : Below W.heap.size W w1) : w1.cell? ⟨g, 0, none⟩ = some a ∧ w1.cell? ⟨g, 1, none⟩ = some b ∧ w1.cell? ⟨g, 2, none⟩ = some c ∧ w1.cell? ⟨g, 3, none⟩ = some d ∧ w1.cell? ⟨g, 4, none⟩ = some e ∧ w1.cell? ⟨g, 5, none⟩ = some f ∧ w1.cell? ⟨g, 6, none⟩ = some i ∧ w1.cell? ⟨g, 7, none⟩ = some j ∧ Below w.heap.size w w1 := by
  obtain ⟨h0, h1, h2, h3, h4, h5, h6, h7, h8⟩ := h
  have hg := lt_of_cell h0
  exact ⟨(hb.cell (p := ⟨g, 0, none⟩) hg).trans h0, (hb.cell (p := ⟨g, 1, none⟩) hg).trans h1, (hb.cell (p := ⟨g, 2, none⟩) hg).trans h2, (hb.cell (p := ⟨g, 3, none⟩) hg).trans h3, (hb.cell (p := ⟨g, 4, none⟩) hg).trans h4, (hb.cell (p := ⟨g, 5, none⟩) hg).trans h5, (hb.cell (p := ⟨g, 6, none⟩) hg).trans h6, (hb.cell (p := ⟨g, 7, none⟩) hg).trans h7, h8.trans (hb.mono h8.size)⟩
theorem heldB {w W : World} {g : Nat} {a b c d e f i j : Value} (h : W.cell? ⟨g, 0, none⟩ = some a ∧ W.cell? ⟨g, 1, none⟩ = some b ∧ W.cell? ⟨g, 2, none⟩ = some c ∧ W.cell? ⟨g, 3, none⟩ = some d ∧ W.cell? ⟨g, 4, none⟩ = some e ∧ W.cell? ⟨g, 5, none⟩ = some f ∧ W.cell? ⟨g, 6, none⟩ = some i ∧ W.cell? ⟨g, 7, none⟩ = some j ∧ Below w.heap.size w W) : Below w.heap.size w W := h.2.2.2.2.2.2.2.2
theorem growd (w : World) (o : Obj) : Below w.heap.size w (w.alloc o) := (Below.refl _ _).alloc (Nat.le_refl _) _
theorem wx_scale (s : SentV) (p : SentP) (h0 : 0 ≤ s.scale) (h1 : s.scale ≤ 9223372036854775807) (w : World) :
    Calls Tryz.prog 149 #[encT s p] w (OwnOf 5 .u8 w.heap.size (lebI s.scale) w) := by
  have CP : Hid (∀ (g : Nat) (W : World), W.cell? ⟨g, 0, none⟩ = some (.int .u64 s.scale) → Calls Tryz.prog 58 #[.slice none 0 0, .slice (some ⟨g, 0, none⟩) 1 1] W (OwnOf 5 .u8 W.heap.size (lebI s.scale) W)) := hid (fun g W h => by
    have h2 := leb_Put (A := none) (B := some ⟨g, 0, none⟩) (c := 0) (d := 1) [] [s.scale] (by simp) (by simp) (by intro x hx; simp at hx; subst hx; unfold U64; omega) W Rd.none_ (rd_one h)
    rw [List.nil_append, encs_one] at h2
    exact h2)
  obtain ⟨X, hX⟩ : ∃ X, lebI s.scale = X := ⟨_, rfl⟩
  rw [hX] at CP ⊢
  clear hX
  go_enter Tryz.func149, Tryz.ntmps149
  go_wp2_with fail
  refine (CP.out _ _ (by simp [go_sem])).mono ?_
  rintro _ w1 ⟨A1, d1, rfl, ho1, hb1⟩
  have HO := hid (own_base ho1 (show w.heap.size ≤ _ by simp; omega))
  clear ho1
  go_wp2_with fail
  go_ret
  exact ⟨A1, d1, rfl, HO.out, Below.trans (by go_grown) (hb1.mono (by simp; omega))⟩
theorem wx_dense (s : SentV) (p : SentP) (hn : lnS 5000 s) (hw : wfS s) (w : World) (ra : RdS w w.heap.size s p) :
    Calls Tryz.prog 107 #[encT s p] w (OwnOf 5 .u8 w.heap.size (sgnd s.V) w) := by
  have CP : Hid (∀ (W : World), Below w.heap.size w W → Calls Tryz.prog 146 #[.slice none 0 0, .slice p.AV s.V.length p.cV] W (OwnOf 5 .u8 W.heap.size (sgnd s.V) W)) := hid (fun W h => by
    have h2 := leb_Signed (A := none) (B := p.AV) (c := 0) (d := p.cV) [] s.V (by simp) hn.2.1 hw.2.2.2.1 W Rd.none_ ((ra.2.1.below h).more h.size)
    rw [List.nil_append] at h2
    exact h2)
  obtain ⟨X, hX⟩ : ∃ X, sgnd s.V = X := ⟨_, rfl⟩
  rw [hX] at CP ⊢
  clear hX ra hn hw
  go_enter Tryz.func107, Tryz.ntmps107
  go_wp2_with fail
  refine (CP.out _ (by go_grown)).mono ?_
  rintro _ w1 ⟨A1, d1, rfl, ho1, hb1⟩
  have HO := hid (own_base ho1 (show w.heap.size ≤ _ by simp))
  clear ho1
  go_wp2_with fail
  go_ret
  exact ⟨A1, d1, rfl, HO.out, Below.trans (by go_grown) (hb1.mono (by simp))⟩
theorem wx_sgns (s : SentV) (p : SentP) (hn : lnS 5000 s) (w : World) (ra : RdS w w.heap.size s p) :
    Calls Tryz.prog 150 #[encT s p] w (OwnOf 5 .u8 w.heap.size (sgnV s.neg) w) := by
  have CP := hid (fun W (h : Below w.heap.size w W) => pl_Signs (A := p.AN) (c := p.cN) s.neg (by have := hn.2.2.2; omega) W ((ra.2.2.2.below h).more h.size))
  obtain ⟨X, hX⟩ : ∃ X, sgnV s.neg = X := ⟨_, rfl⟩
  obtain ⟨E, hE⟩ : ∃ X, sgnE s.neg = X := ⟨_, rfl⟩
  rw [hX, hE] at CP
  rw [hX]
  clear hX hE ra hn
  go_enter Tryz.func150, Tryz.ntmps150
  go_wp2_with fail
  refine (CP.out _ (by go_grown)).mono ?_
  rintro _ w1 ⟨A1, d1, rfl, ho1, hb1⟩
  have HO := hid (own_base ho1 (show w.heap.size ≤ _ by simp))
  clear ho1
  go_wp2_with fail
  go_ret
  exact ⟨A1, d1, rfl, HO.out, Below.trans (by go_grown) (hb1.mono (by simp))⟩
theorem wx_top (s : SentV) (p : SentP) (hn : lnS 5000 s) (hw : wfS s) (w : World) (ra : RdS w w.heap.size s p) :
    Calls Tryz.prog 108 #[encT s p] w (OwnOf 5 .u8 w.heap.size (pixV s.dim s.L ++ sgnd s.V) w) := by
  have CI := hid (fun W (h : Below w.heap.size w W) => ix_Put (A := p.AL) (c := p.cL) s.dim s.L hw.2.1 (by have := hn.1; omega) W ((ra.1.below h).more h.size))
  have CP := hid (fun A c W (h : Below w.heap.size w W) (hr : Rd (Value.int .u8) W W.heap.size A (pixV s.dim s.L)) => leb_Signed (A := A) (B := p.AV) (c := c) (d := p.cV) (pixV s.dim s.L) s.V (by have := pixV_len s.dim s.L; omega) hn.2.1 hw.2.2.2.1 W hr ((ra.2.1.below h).more h.size))
  have hR : pixV s.dim s.L ++ encs (s.V.map zigI) = pixV s.dim s.L ++ sgnd s.V := rfl
  rw [hR] at CP
  obtain ⟨R, hRR⟩ : ∃ R, pixV s.dim s.L ++ sgnd s.V = R := ⟨_, rfl⟩
  rw [hRR] at CP ⊢
  obtain ⟨X, hX⟩ : ∃ X, pixV s.dim s.L = X := ⟨_, rfl⟩
  obtain ⟨E, hE⟩ : ∃ X, chkE s.dim s.L = X := ⟨_, rfl⟩
  rw [hX] at CP
  rw [hX, hE] at CI
  have HB0 := hid (boxT_new w s p 87)
  clear hR hRR hX hE ra hn hw
  go_enter Tryz.func108, Tryz.ntmps108
  go_wp2_with fail
  refine (CI.out _ (by go_grown)).mono ?_
  rintro _ w1 ⟨A1, d1, rfl, ho1, hb1⟩
  have k1 : Below w.heap.size w w1 := Below.trans (by go_grown) (hb1.mono (by simp))
  have HB1 := hid (HB0.out.below hb1 (by simp))
  have HR1 := hid (own_rd ho1)
  obtain ⟨⟨c0, c1, c2, c3, c4, c5, c6, c7⟩, _⟩ := HB1.out.eight
  clear hb1 HB0 ho1
  go_wp2_with fail
  refine (CP.out _ _ _ k1 HR1.out).mono ?_
  rintro _ w2 ⟨A2, d2, rfl, ho2, hb2⟩
  have HO := hid (own_base ho2 k1.size)
  clear ho2
  go_wp2_with fail
  go_ret
  exact ⟨A2, d2, rfl, HO.out, k1.trans (hb2.mono k1.size)⟩
theorem wx_sign (s : SentV) (p : SentP) (hn : lnS 5000 s) (h0 : 0 ≤ s.scale) (h1 : s.scale ≤ 9223372036854775807) (w : World) (ra : RdS w w.heap.size s p) :
    Calls Tryz.prog 110 #[encT s p] w (OwnOf 5 .u8 w.heap.size (lebI s.scale ++ sgnV s.neg) w) := by
  have CSc := hid (fun W => wx_scale s p h0 h1 W)
  have CSg := hid (fun W (h : Below w.heap.size w W) => wx_sgns s p hn W ((ra.1.below h).more h.size |> fun a => ⟨a, (ra.2.1.below h).more h.size, (ra.2.2.1.below h).more h.size, (ra.2.2.2.below h).more h.size⟩))
  have l1 := lebI_ten (n := s.scale) (by unfold U64; omega)
  have l2 : (sgnV s.neg).length ≤ 1000 := by
    by_cases h : s.neg.length ≤ 4096
    · rw [sgnV_len h]; omega
    · unfold sgnV; rw [if_pos (by omega)]; simp
  obtain ⟨X, hX⟩ : ∃ X, lebI s.scale = X := ⟨_, rfl⟩
  obtain ⟨Y, hY⟩ : ∃ X, sgnV s.neg = X := ⟨_, rfl⟩
  rw [hX] at CSc l1
  rw [hY] at CSg l2
  rw [hX, hY]
  have CC : Hid (∀ (A : Option Addr) (c : Nat) (W : World), Below w.heap.size w W → RdRow8 W W.heap.size A [X, Y] → Calls Tryz.prog 112 #[.slice A 2 c] W fun e w' => ∃ A3 d3, e = .returned (.slice A3 (X ++ Y).length d3) ∧ w'.ownsRow w.heap.size 5 1 (.slice A3 (X ++ Y).length d3) (X ++ Y).length ((X ++ Y).map (Value.int .u8)) ∧ Below W.heap.size W w') := hid (fun A c W h hr => by
    have hh := by_concat (A := A) (c := c) [X, Y] (by simp) (by simp; omega) W hr
    simp only [List.flatten_cons, List.flatten_nil, List.append_nil] at hh
    exact hh.mono fun _ _ ⟨A3, d3, e1, e2, e3⟩ => ⟨A3, d3, e1, own_base e2 h.size, e3⟩)
  obtain ⟨R, hR⟩ : ∃ R, X ++ Y = R := ⟨_, rfl⟩
  rw [hR] at CC ⊢
  clear hX hY hR ra hn l1 l2
  go_enter Tryz.func110, Tryz.ntmps110
  go_wp2_with fail
  go_region_held3 (fun w' => w'.cell? ⟨w.heap.size, 0, none⟩ = some (.int .i64 s.sch) ∧ w'.cell? ⟨w.heap.size, 1, none⟩ = some (.int .i64 s.dim) ∧ w'.cell? ⟨w.heap.size, 2, none⟩ = some (.slice p.AL s.L.length p.cL) ∧ w'.cell? ⟨w.heap.size, 3, none⟩ = some (.slice p.AV s.V.length p.cV) ∧ w'.cell? ⟨w.heap.size, 4, none⟩ = some (.int .i64 s.scale) ∧ w'.cell? ⟨w.heap.size, 5, none⟩ = some (.int .i64 s.wide) ∧ w'.cell? ⟨w.heap.size, 6, none⟩ = some (.slice p.AE s.lev.length p.cE) ∧ w'.cell? ⟨w.heap.size, 7, none⟩ = some (.slice p.AN s.neg.length p.cN) ∧ Below w.heap.size w w') (first | exact ⟨by simp [go_sem], by simp [go_sem], by simp [go_sem], by simp [go_sem], by simp [go_sem], by simp [go_sem], by simp [go_sem], by simp [go_sem], by go_grown⟩ | exact held8 (by assumption) hb3 | exact held8 (by assumption) hb2 | exact held8 (by assumption) hb1 | exact held8 (by assumption) (growd _ _))
    (first | (go_at_call 149; refine (CSc.out _).mono ?_; rintro _ w1 ⟨A1, d1, rfl, ho1, hb1⟩) | (go_at_call 150; refine (CSg.out _ (heldB (by assumption))).mono ?_; rintro _ w2 ⟨A2, d2, rfl, ho2, hb2⟩) | (go_at_call 112; refine (CC.out _ _ _ (heldB (by assumption)) (row8_two X Y _ (own_rd (own_on ho1 hb2)) (own_rd ho2) _)).mono ?_; rintro _ w3 ⟨A3, d3, rfl, ho3, hb3⟩))
  all_goals
    have HO := hid ho3
    clear ho1 ho2 ho3
    go_wp2_with fail
    go_ret
    exact ⟨A3, d3, rfl, HO.out, heldB (by assumption)⟩
end Go.Proofs.YtecgbelgoomneaaGreat
/- A vector's body with levels, by the program. -/
namespace Go.Proofs.YtecgbelgoomneaaGreat
open Go.RowKit
set_option maxHeartbeats 1000000
set_option maxRecDepth 100000
set_option linter.unusedVariables false
theorem row8_fourG {A1 A2 A3 A4 : Option Addr} {c1 c2 c3 c4 g : Nat} (x1 x2 x3 x4 : List Int) (W : World) (r1 : Rd (Value.int .u8) W W.heap.size A1 x1) (r2 : Rd (Value.int .u8) W W.heap.size A2 x2) (r3 : Rd (Value.int .u8) W W.heap.size A3 x3) (r4 : Rd (Value.int .u8) W W.heap.size A4 x4) (t : TypeId) (hg : g = W.heap.size) :
    RdRow8 (W.alloc (.cells #[.slice A1 x1.length c1, .slice A2 x2.length c2, .slice A3 x3.length c3, .slice A4 x4.length c4] t)) (W.alloc (.cells #[.slice A1 x1.length c1, .slice A2 x2.length c2, .slice A3 x3.length c3, .slice A4 x4.length c4] t)).heap.size (some ⟨g, 0, none⟩) [x1, x2, x3, x4] := by
  subst hg
  exact row8_four x1 x2 x3 x4 W r1 r2 r3 r4 t
theorem wx_level (s : SentV) (p : SentP) (hn : lnS 5000 s) (hw : wfS s) (h0 : 0 ≤ s.scale) (h1 : 1 ≤ s.wide) (h8 : s.wide ≤ 8) (hl4 : s.lev.length ≤ 4096) (hf : fitsB s.wide s.lev = true) (w : World) (ra : RdS w w.heap.size s p) :
    Calls Tryz.prog 109 #[encT s p] w (OwnOf 5 .u8 w.heap.size (lebI s.scale ++ ((s.wide :: wevV s.wide s.lev) ++ sgnV s.neg)) w) := by
  have hsc : I64 s.scale := hw.2.2.2.2.1
  have hwd : I64 s.wide := hw.2.2.2.2.2.1
  unfold I64 at hsc
  have CSc := hid (fun W => wx_scale s p h0 hsc.2 W)
  have CSg := hid (fun W (h : Below w.heap.size w W) => wx_sgns s p hn W ⟨(ra.1.below h).more h.size, (ra.2.1.below h).more h.size, (ra.2.2.1.below h).more h.size, (ra.2.2.2.below h).more h.size⟩)
  have CWv := hid (fun W (h : Below w.heap.size w W) => pl_Weave (A := p.AE) (c := p.cE) s.wide s.lev hwd (by omega) hw.2.2.2.2.2.2 W ((ra.2.2.1.below h).more h.size))
  have hb8 : bysE s.wide s.lev.length = 0 := by unfold bysE; rw [if_neg (by omega), if_neg (by omega)]
  have hme : mayE s.wide s.lev = 0 := by unfold mayE; rw [if_pos hb8, if_pos hf]
  rw [hme] at CWv
  have hwl := ((may_same s.wide s.lev).2 hme).2
  have hwl2 : (wevV s.wide s.lev).length ≤ 5000 := by
    have h9 : s.wide.toNat * s.lev.length ≤ 8 * 4096 := Nat.mul_le_mul (by omega) (by omega)
    rw [hwl]; omega
  have l1 := lebI_ten (n := s.scale) (by unfold U64; omega)
  have l2 : (sgnV s.neg).length ≤ 1000 := by
    by_cases h : s.neg.length ≤ 4096
    · rw [sgnV_len h]; omega
    · unfold sgnV; rw [if_pos (by omega)]; simp
  obtain ⟨X, hX⟩ : ∃ X, lebI s.scale = X := ⟨_, rfl⟩
  obtain ⟨NV, hY⟩ : ∃ X, sgnV s.neg = X := ⟨_, rfl⟩
  obtain ⟨WV, hV⟩ : ∃ X, wevV s.wide s.lev = X := ⟨_, rfl⟩
  rw [hX] at CSc l1
  rw [hY] at CSg l2
  rw [hV] at CWv hwl2
  rw [hX, hY, hV]
  obtain ⟨R, hR⟩ : ∃ R, X ++ ((s.wide :: WV) ++ NV) = R := ⟨_, rfl⟩
  have CC : Hid (∀ (A : Option Addr) (c : Nat) (W : World), Below w.heap.size w W → RdRow8 W W.heap.size A [X, [s.wide], WV, NV] → Calls Tryz.prog 112 #[.slice A 4 c] W fun e w' => ∃ A3 d3, e = .returned (.slice A3 R.length d3) ∧ w'.ownsRow w.heap.size 5 1 (.slice A3 R.length d3) R.length (R.map (Value.int .u8)) ∧ Below W.heap.size W w') := hid (fun A c W h hr => by
    have hh := by_concat (A := A) (c := c) [X, [s.wide], WV, NV] (by simp) (by simp; omega) W hr
    have e : [X, [s.wide], WV, NV].flatten = R := by rw [← hR]; simp
    rw [e] at hh
    exact hh.mono fun _ _ ⟨A3, d3, e1, e2, e3⟩ => ⟨A3, d3, e1, own_base e2 h.size, e3⟩)
  have HB0 := hid (boxT_new w s p 87)
  have hwb : s.wide % 256 = s.wide := by omega
  have hwb2 : IntKind.u8.wrap s.wide = s.wide := by rw [IntKind.wrap_u8]; omega
  rw [hR]
  clear hwb hX hY hV hR ra hn l1 l2 hwl hwl2 hb8 hme hf hw hwd
  go_enter Tryz.func109, Tryz.ntmps109
  go_wp2_with fail
  refine (CWv.out _ (by go_grown)).mono ?_
  rintro _ w0 ⟨AW, dW, rfl, ho0, hb0⟩
  have k0 : Below w.heap.size w w0 := Below.trans (by go_grown) (hb0.mono (by simp))
  have HB1 := hid (HB0.out.below hb0 (by simp))
  have HRW : Hid (Rd (Value.int .u8) w0.drew w0.drew.heap.size AW WV) := hid (own_rd ho0)
  clear hb0 HB0 ho0 CWv
  go_wp2_with fail
  obtain ⟨⟨c0, c1, c2, c3, c4, c5, c6, c7⟩, _⟩ := HB1.out.eight
  go_region_held3 (fun w' => w'.cell? ⟨w.heap.size, 0, none⟩ = some (.int .i64 s.sch) ∧ w'.cell? ⟨w.heap.size, 1, none⟩ = some (.int .i64 s.dim) ∧ w'.cell? ⟨w.heap.size, 2, none⟩ = some (.slice p.AL s.L.length p.cL) ∧ w'.cell? ⟨w.heap.size, 3, none⟩ = some (.slice p.AV s.V.length p.cV) ∧ w'.cell? ⟨w.heap.size, 4, none⟩ = some (.int .i64 s.scale) ∧ w'.cell? ⟨w.heap.size, 5, none⟩ = some (.int .i64 s.wide) ∧ w'.cell? ⟨w.heap.size, 6, none⟩ = some (.slice p.AE s.lev.length p.cE) ∧ w'.cell? ⟨w.heap.size, 7, none⟩ = some (.slice p.AN s.neg.length p.cN) ∧ Below w.heap.size w w') (first | exact ⟨c0, c1, c2, c3, c4, c5, c6, c7, k0.drew⟩ | exact held8 (by assumption) hb3 | exact held8 (by assumption) hb2 | exact held8 (by assumption) hb1 | exact held8 (by assumption) (growd _ _))
    (first | (go_at_call 149; refine (CSc.out _).mono ?_; rintro _ w1 ⟨A1, d1, rfl, ho1, hb1⟩) | (go_at_call 150; refine (CSg.out _ (heldB (by assumption))).mono ?_; rintro _ w2 ⟨A2, d2, rfl, ho2, hb2⟩) | (go_at_call 112; (with_reducible have e0 := hb2); (with_reducible have e00 : Below (w0.alloc (.cells #[.int .u8 s.wide] 5)).drew.heap.size (w0.alloc (.cells #[.int .u8 s.wide] 5)).drew w1 := hb1); have r2 := ((show Rd (Value.int .u8) (w0.alloc (.cells #[.int .u8 s.wide] 5)).drew (w0.alloc (.cells #[.int .u8 s.wide] 5)).drew.heap.size (some ⟨w0.heap.size, 0, none⟩) [s.wide] from rd_one (enc := Value.int .u8) (one_cell w0 (.int .u8 s.wide) 5).1).on hb1).on hb2; have r1 := own_rd (own_on ho1 hb2); have r3 := ((show Rd (Value.int .u8) (w0.alloc (.cells #[.int .u8 s.wide] 5)).drew (w0.alloc (.cells #[.int .u8 s.wide] 5)).drew.heap.size AW WV from (show Rd (Value.int .u8) w0 w0.heap.size AW WV from HRW.out).on (growd w0 (.cells #[.int .u8 s.wide] 5)).drew).on hb1).on hb2; have r4 := own_rd ho2; refine (CC.out _ _ _ (heldB (by assumption)) (row8_fourG X [s.wide] WV NV _ r1 r2 r3 r4 _ (by first | rfl | simp))).mono ?_; rintro _ w3 ⟨A3, d3, rfl, ho3, hb3⟩) | (go_at_call 112; (with_reducible have r2 := (rd_one (enc := Value.int .u8) (one_cell w1 (.int .u8 s.wide) 5).1).on hb2); have e1 := (growd w1 (.cells #[.int .u8 s.wide] 5)).trans (hb2.mono (growd w1 (.cells #[.int .u8 s.wide] 5)).size); have r1 := own_rd (own_on ho1 e1); have r3 := (HRW.out.on hb1).on e1; have r4 := own_rd ho2; refine (CC.out _ _ _ (heldB (by assumption)) (row8_fourG X [s.wide] WV NV _ r1 r2 r3 r4 _ (by first | rfl | simp))).mono ?_; rintro _ w3 ⟨A3, d3, rfl, ho3, hb3⟩) | (go_at_call 112; have r2 := (rd_one (enc := Value.int .u8) (one_cell w2 (.int .u8 s.wide) 5).1); have e1 := growd w2 (.cells #[.int .u8 s.wide] 5); have r1 := own_rd (own_on (own_on ho1 hb2) e1); have r3 := ((HRW.out.on hb1).on hb2).on e1; have r4 := own_rd (own_on ho2 e1); refine (CC.out _ _ _ (heldB (by assumption)) (row8_fourG X [s.wide] WV NV _ r1 r2 r3 r4 _ (by first | rfl | simp))).mono ?_; rintro _ w3 ⟨A3, d3, rfl, ho3, hb3⟩) | fail)
  all_goals
    have HO := hid ho3
    clear r1 r2 r3 r4 ho1 ho2 ho3
    go_wp2_with fail
    go_ret
    exact ⟨A3, d3, rfl, HO.out, heldB (by assumption)⟩
end Go.Proofs.YtecgbelgoomneaaGreat
/- A vector's body, by the program: its scheme's method out of a map. -/
namespace Go.Proofs.YtecgbelgoomneaaGreat
open Go.RowKit
set_option maxHeartbeats 2000000
set_option maxRecDepth 100000
set_option linter.unusedVariables false
theorem held12 {P : Program} {t : TypeId} {key F : Value} {w W W5 w1 : World} {g : Nat} {a b c d e f i j : Value} (HL : ∀ W : World, W.heap[g + 1]? = W5.heap[g + 1]? → (Instr.lookup t (.map (some (g + 1))) key false).run P W = .ok F W)
    (h : W.cell? ⟨g, 0, none⟩ = some a ∧ W.cell? ⟨g, 1, none⟩ = some b ∧ W.cell? ⟨g, 2, none⟩ = some c ∧ W.cell? ⟨g, 3, none⟩ = some d ∧ W.cell? ⟨g, 4, none⟩ = some e ∧ W.cell? ⟨g, 5, none⟩ = some f ∧ W.cell? ⟨g, 6, none⟩ = some i ∧ W.cell? ⟨g, 7, none⟩ = some j ∧ (Instr.lookup t (.map (some (g + 1))) key false).run P W = .ok F W ∧ W.heap[g + 1]? = W5.heap[g + 1]? ∧ g + 2 ≤ W.heap.size ∧ Below g w W) (hb : Below (g + 2) W w1) : w1.cell? ⟨g, 0, none⟩ = some a ∧ w1.cell? ⟨g, 1, none⟩ = some b ∧ w1.cell? ⟨g, 2, none⟩ = some c ∧ w1.cell? ⟨g, 3, none⟩ = some d ∧ w1.cell? ⟨g, 4, none⟩ = some e ∧ w1.cell? ⟨g, 5, none⟩ = some f ∧ w1.cell? ⟨g, 6, none⟩ = some i ∧ w1.cell? ⟨g, 7, none⟩ = some j ∧ (Instr.lookup t (.map (some (g + 1))) key false).run P w1 = .ok F w1 ∧ w1.heap[g + 1]? = W5.heap[g + 1]? ∧ g + 2 ≤ w1.heap.size ∧ Below g w w1 := by
  obtain ⟨h0, h1, h2, h3, h4, h5, h6, h7, hl, hm, hz, hB⟩ := h
  have hm1 := (hb.block (g + 1) (by omega)).trans hm
  exact ⟨(hb.cell (p := ⟨g, 0, none⟩) (by simp)).trans h0, (hb.cell (p := ⟨g, 1, none⟩) (by simp)).trans h1, (hb.cell (p := ⟨g, 2, none⟩) (by simp)).trans h2, (hb.cell (p := ⟨g, 3, none⟩) (by simp)).trans h3, (hb.cell (p := ⟨g, 4, none⟩) (by simp)).trans h4, (hb.cell (p := ⟨g, 5, none⟩) (by simp)).trans h5, (hb.cell (p := ⟨g, 6, none⟩) (by simp)).trans h6, (hb.cell (p := ⟨g, 7, none⟩) (by simp)).trans h7, HL _ hm1, hm1, Nat.le_trans hz hb.size, hB.trans (hb.mono (by omega))⟩
theorem held12B {P : Program} {t : TypeId} {key F : Value} {w W W5 : World} {g : Nat} {a b c d e f i j : Value} (h : W.cell? ⟨g, 0, none⟩ = some a ∧ W.cell? ⟨g, 1, none⟩ = some b ∧ W.cell? ⟨g, 2, none⟩ = some c ∧ W.cell? ⟨g, 3, none⟩ = some d ∧ W.cell? ⟨g, 4, none⟩ = some e ∧ W.cell? ⟨g, 5, none⟩ = some f ∧ W.cell? ⟨g, 6, none⟩ = some i ∧ W.cell? ⟨g, 7, none⟩ = some j ∧ (Instr.lookup t (.map (some (g + 1))) key false).run P W = .ok F W ∧ W.heap[g + 1]? = W5.heap[g + 1]? ∧ g + 2 ≤ W.heap.size ∧ Below g w W) : Below g w W := h.2.2.2.2.2.2.2.2.2.2.2
theorem held12Z {P : Program} {t : TypeId} {key F : Value} {w W W5 : World} {g : Nat} {a b c d e f i j : Value} (h : W.cell? ⟨g, 0, none⟩ = some a ∧ W.cell? ⟨g, 1, none⟩ = some b ∧ W.cell? ⟨g, 2, none⟩ = some c ∧ W.cell? ⟨g, 3, none⟩ = some d ∧ W.cell? ⟨g, 4, none⟩ = some e ∧ W.cell? ⟨g, 5, none⟩ = some f ∧ W.cell? ⟨g, 6, none⟩ = some i ∧ W.cell? ⟨g, 7, none⟩ = some j ∧ (Instr.lookup t (.map (some (g + 1))) key false).run P W = .ok F W ∧ W.heap[g + 1]? = W5.heap[g + 1]? ∧ g + 2 ≤ W.heap.size ∧ Below g w W) : g + 2 ≤ W.heap.size := h.2.2.2.2.2.2.2.2.2.2.1
theorem head_len {s : SentV} (hd1 : 1 ≤ s.dim) (hd4 : s.dim ≤ 4096) : ([s.sch] ++ encs [s.dim]).length ≤ 11 := by
  have h := lebI_ten (n := s.dim) (by unfold U64; omega)
  rw [encs_one, List.length_append, List.length_singleton]
  omega
end Go.Proofs.YtecgbelgoomneaaGreat
/- Whether a frame may be, and is the same; an acknowledgement: by the program. -/
/- A frame's text, and how many bytes it has, by the document. -/
namespace Go.Proofs.YtecgbelgoomneaaGreat
open Go.RowKit
set_option maxHeartbeats 400000
set_option maxRecDepth 100000
set_option linter.unusedVariables false
/-- A frame in a box of its own. -/
def BoxF (w : World) (b : Nat) (f : FrameV) (p : SentP) : Prop :=
  w.cell? ⟨b, 0, none⟩ = some (.int .i64 f.knd) ∧ w.cell? ⟨b, 1, none⟩ = some (.int .i64 f.frm) ∧ w.cell? ⟨b, 2, none⟩ = some (.int .i64 f.stp) ∧
  w.cell? ⟨b, 3, none⟩ = some (.int .i64 f.S.sch) ∧ w.cell? ⟨b, 4, none⟩ = some (.int .i64 f.S.dim) ∧ w.cell? ⟨b, 5, none⟩ = some (.slice p.AL f.S.L.length p.cL) ∧ w.cell? ⟨b, 6, none⟩ = some (.slice p.AV f.S.V.length p.cV) ∧
  w.cell? ⟨b, 7, none⟩ = some (.int .i64 f.S.scale) ∧ w.cell? ⟨b, 8, none⟩ = some (.int .i64 f.S.wide) ∧ w.cell? ⟨b, 9, none⟩ = some (.slice p.AE f.S.lev.length p.cE) ∧ w.cell? ⟨b, 10, none⟩ = some (.slice p.AN f.S.neg.length p.cN)
theorem BoxF.below {w w' : World} {b B : Nat} {f : FrameV} {p : SentP} (h : BoxF w b f p) (hb : Below B w w') (hB : b < B) : BoxF w' b f p := by
  obtain ⟨h0, h1, h2, h3, h4, h5, h6, h7, h8, h9, h10⟩ := h
  exact ⟨(hb.cell (p := ⟨b, 0, none⟩) hB).trans h0, (hb.cell (p := ⟨b, 1, none⟩) hB).trans h1, (hb.cell (p := ⟨b, 2, none⟩) hB).trans h2, (hb.cell (p := ⟨b, 3, none⟩) hB).trans h3,
    (hb.cell (p := ⟨b, 4, none⟩) hB).trans h4, (hb.cell (p := ⟨b, 5, none⟩) hB).trans h5, (hb.cell (p := ⟨b, 6, none⟩) hB).trans h6, (hb.cell (p := ⟨b, 7, none⟩) hB).trans h7, (hb.cell (p := ⟨b, 8, none⟩) hB).trans h8, (hb.cell (p := ⟨b, 9, none⟩) hB).trans h9, (hb.cell (p := ⟨b, 10, none⟩) hB).trans h10⟩
end Go.Proofs.YtecgbelgoomneaaGreat
/- An argument that is a frame, opened. -/
namespace Go.Proofs.YtecgbelgoomneaaGreat
open Go.ChangeShapes Go.WideShapes Go.ChangeAt Go.RowKit
set_option maxRecDepth 100000
set_option linter.unusedVariables false
theorem cellsOf_int : Tryz.prog.cellsOf 3 = 1 := by kernel_rfl
theorem cellsOf_i64 : Tryz.prog.cellsOf 2 = 1 := by kernel_rfl
theorem cellsOf_u64 : Tryz.prog.cellsOf 25 = 1 := by kernel_rfl
theorem cellsOf_ints : Tryz.prog.cellsOf 26 = 1 := by kernel_rfl
theorem cellsOf_i64s : Tryz.prog.cellsOf 24 = 1 := by kernel_rfl
theorem cellsOf_u64s : Tryz.prog.cellsOf 29 = 1 := by kernel_rfl
theorem cellsOf_bools : Tryz.prog.cellsOf 30 = 1 := by kernel_rfl
theorem cellsOf_sent : Tryz.prog.cellsOf 32 = 8 := by kernel_rfl
section
variable {H : Type} {enc : TypeId × Value → H} {P : Program} {W : World}
theorem cell_nums {k : IntKind} {t e : TypeId} {cs : List Value} {fuel : Nat} {x : DataW H × List MemPlace} (ht : P.underlying t = some (.slice e)) (he : P.underlying e = some (.int k)) (hc : P.cellsOf e = 1)
    (hf : DataW.trod enc P W 0 (fun _ => true) true fuel t cs = some x) :
    ∃ A xs c, cs = [.slice A xs.length c] ∧ Rd (Value.int k) W W.heap.size A xs ∧ (∀ x ∈ xs, (Lit.int k x).wf = true) ∧ xs.length ≤ c ∧ c ≤ 9223372036854775807 := by
  rcases open_ints ht he hc hf with ⟨rfl, _⟩ | ⟨a, len, cap, zs, rfl, _, hl, hm, hz, _, hcell, hwz⟩
  · exact ⟨none, [], 0, rfl, Rd.none_, by intro x hx; simp at hx, by simp, by omega⟩
  · simp only [if_true] at hz
    have hlen : (zs.take len).length = len := by rw [List.length_take]; omega
    refine ⟨some a, zs.take len, cap, by rw [hlen], nums_rd rfl fun i hi => hcell i (by omega), fun x hx => hwz x (List.mem_of_mem_take hx), by omega, by unfold maxLen at hm; omega⟩
theorem cell_bls {t e : TypeId} {cs : List Value} {fuel : Nat} {x : DataW H × List MemPlace} (ht : P.underlying t = some (.slice e)) (he : P.underlying e = some .bool) (hc : P.cellsOf e = 1)
    (hf : DataW.trod enc P W 0 (fun _ => true) true fuel t cs = some x) :
    ∃ A xs c, cs = [.slice A xs.length c] ∧ Rd Value.bool W W.heap.size A xs ∧ xs.length ≤ c ∧ c ≤ 9223372036854775807 := by
  rcases Deep.open_bools ht he hc hf with ⟨rfl, _⟩ | ⟨a, len, cap, B, rfl, _, hl, hm, _, hcell⟩
  · exact ⟨none, [], 0, rfl, Rd.none_, by simp, by omega⟩
  · have hlen : ((List.range len).map B).length = len := by simp
    exact ⟨some a, (List.range len).map B, cap, by rw [hlen], bools_rd fun i hi => hcell i (by omega), by omega, by unfold maxLen at hm; omega⟩
/-- What bounds a vector that came in. -/
def capS (s : SentV) (p : SentP) : Prop := (s.L.length ≤ p.cL ∧ p.cL ≤ 9223372036854775807) ∧ (s.V.length ≤ p.cV ∧ p.cV ≤ 9223372036854775807) ∧ (s.lev.length ≤ p.cE ∧ p.cE ≤ 9223372036854775807) ∧ (s.neg.length ≤ p.cN ∧ p.cN ≤ 9223372036854775807)
theorem cell_sent {c0 c1 c2 c3 c4 c5 c6 c7 : Value} {fuel : Nat} {x : DataW H × List MemPlace}
    (hf : DataW.trod enc Tryz.prog W 0 (fun _ => true) true fuel 32 [c0, c1, c2, c3, c4, c5, c6, c7] = some x) :
    ∃ s p, [c0, c1, c2, c3, c4, c5, c6, c7] = [.int .i64 s.sch, .int .i64 s.dim, .slice p.AL s.L.length p.cL, .slice p.AV s.V.length p.cV, .int .i64 s.scale, .int .i64 s.wide, .slice p.AE s.lev.length p.cE, .slice p.AN s.neg.length p.cN] ∧ RdS W W.heap.size s p ∧ wfS s ∧ capS s p := by
  obtain ⟨xs, n, _, _, _, hlen, hg⟩ := DataW.trod_struct Tryz.underlying32 hf
  have h0 := hg 0 _ rfl
  have h1 := hg 1 _ rfl
  have h2 := hg 2 _ rfl
  have h3 := hg 3 _ rfl
  have h4 := hg 4 _ rfl
  have h5 := hg 5 _ rfl
  have h6 := hg 6 _ rfl
  have h7 := hg 7 _ rfl
  have hlen8 : xs.length = 8 := hlen
  obtain ⟨x0, x1, x2, x3, x4, x5, x6, x7, rfl⟩ : ∃ x0 x1 x2 x3 x4 x5 x6 x7, xs = [x0, x1, x2, x3, x4, x5, x6, x7] := by
    match xs, hlen8 with
    | [x0, x1, x2, x3, x4, x5, x6, x7], _ => exact ⟨x0, x1, x2, x3, x4, x5, x6, x7, rfl⟩
  simp [cellsOf_int] at h0
  simp [cellsOf_int] at h1
  simp [cellsOf_ints] at h2
  simp [cellsOf_i64s] at h3
  simp [cellsOf_i64] at h4
  simp [cellsOf_int] at h5
  simp [cellsOf_u64s] at h6
  simp [cellsOf_bools] at h7
  obtain ⟨sch, e0, _, w0⟩ := DataW.trod_int Tryz.underlying3 h0
  obtain ⟨dim, e1, _, w1⟩ := DataW.trod_int Tryz.underlying3 h1
  obtain ⟨AL, L, cL, e2, r2, w2, l2, m2⟩ := cell_nums Tryz.underlying26 Tryz.underlying3 cellsOf_int h2
  obtain ⟨AV, V, cV, e3, r3, w3, l3, m3⟩ := cell_nums Tryz.underlying24 Tryz.underlying2 cellsOf_i64 h3
  obtain ⟨scale, e4, _, w4⟩ := DataW.trod_int Tryz.underlying2 h4
  obtain ⟨wide, e5, _, w5⟩ := DataW.trod_int Tryz.underlying3 h5
  obtain ⟨AE, lev, cE, e6, r6, w6, l6, m6⟩ := cell_nums Tryz.underlying29 Tryz.underlying25 cellsOf_u64 h6
  obtain ⟨AN, neg, cN, e7, r7, l7, m7⟩ := cell_bls Tryz.underlying30 Tryz.underlying4 cells_bool h7
  simp only [List.cons.injEq, and_true] at e0 e1 e2 e3 e4 e5 e6 e7
  subst e0 e1 e2 e3 e4 e5 e6 e7
  exact ⟨⟨sch, dim, L, V, scale, wide, lev, neg⟩, ⟨AL, cL, AV, cV, AE, cE, AN, cN⟩, rfl, ⟨r2, r3, r6, r7⟩,
    ⟨I64.of_wf w0, I64.of_wf w1, fun x hx => I64.of_wf (w2 x hx), fun x hx => I64.of_wf (w3 x hx), I64.of_wf w4, I64.of_wf w5, fun x hx => U64.of_wf (w6 x hx)⟩, ⟨l2, m2⟩, ⟨l3, m3⟩, ⟨l6, m6⟩, ⟨l7, m7⟩⟩
end
end Go.Proofs.YtecgbelgoomneaaGreat
/- An argument that is a way of pressing: a struct of three numbers; and a list of these. -/
namespace Go.Proofs.YtecgbelgoomneaaGreat
open Go.RowKit Go.ChangeShapes Go.WideShapes
set_option maxRecDepth 100000
set_option linter.unusedVariables false
theorem cellsOf_how : Tryz.prog.cellsOf 23 = 3 := by kernel_rfl
section
variable {H : Type} {enc : TypeId × Value → H} {W : World}
theorem list3 {cs : List Value} (h : cs.length = 3) : ∃ a b c, cs = [a, b, c] := by
  match cs, h with
  | [a, b, c], _ => exact ⟨a, b, c, rfl⟩
theorem cell_how {c0 c1 c2 : Value} {fuel : Nat} {x : DataW H × List MemPlace}
    (hf : DataW.trod enc Tryz.prog W 0 (fun _ => true) true fuel 23 [c0, c1, c2] = some x) :
    ∃ a b c : Int, [c0, c1, c2] = [.int .i64 a, .int .i64 b, .int .i64 c] ∧ I64 a ∧ I64 b ∧ I64 c := by
  obtain ⟨xs, n, _, _, _, hlen, hg⟩ := DataW.trod_struct Tryz.underlying23 hf
  have h0 := hg 0 _ rfl
  have h1 := hg 1 _ rfl
  have h2 := hg 2 _ rfl
  have hlen3 : xs.length = 3 := hlen
  obtain ⟨x0, x1, x2, rfl⟩ : ∃ x0 x1 x2, xs = [x0, x1, x2] := by
    match xs, hlen3 with
    | [x0, x1, x2], _ => exact ⟨x0, x1, x2, rfl⟩
  simp [cellsOf_int] at h0
  simp [cellsOf_int] at h1
  simp [cellsOf_int] at h2
  obtain ⟨a, e0, _, w0⟩ := DataW.trod_int Tryz.underlying3 h0
  obtain ⟨b, e1, _, w1⟩ := DataW.trod_int Tryz.underlying3 h1
  obtain ⟨c, e2, _, w2⟩ := DataW.trod_int Tryz.underlying3 h2
  simp only [List.cons.injEq, and_true] at e0 e1 e2
  subst e0 e1 e2
  exact ⟨a, b, c, rfl, I64.of_wf w0, I64.of_wf w1, I64.of_wf w2⟩
theorem open_how {r : Reach} {v : Value} {d : DataW H} {ps : List MemPlace} {b0 : Nat}
    (hval : Value.okWide Tryz.prog W r b0 23 v) (hd : DataW.Trod enc Tryz.prog W 0 (fun _ => true) true 23 v d ps) :
    ∃ a b c : Int, v = .agg #[.int .i64 a, .int .i64 b, .int .i64 c] ∧ I64 a ∧ I64 b ∧ I64 c := by
  obtain ⟨cs, rfl, hs⟩ := okWide_struct Tryz.underlying23 hval
  obtain ⟨fuel, hf⟩ := hd
  rw [cellsOf_how] at hs
  obtain ⟨cs⟩ := cs
  obtain ⟨c0, c1, c2, rfl⟩ := list3 (by simpa using hs)
  have hf' : DataW.trod enc Tryz.prog W 0 (fun _ => true) true fuel 23 [c0, c1, c2] = some (d, ps) := by simpa [Value.cells] using hf
  obtain ⟨a, b, c, e, ha, hb, hc⟩ := cell_how hf'
  simp only [List.cons.injEq, and_true] at e
  obtain ⟨e0, e1, e2⟩ := e
  subst e0 e1 e2
  exact ⟨a, b, c, rfl, ha, hb, hc⟩
end
end Go.Proofs.YtecgbelgoomneaaGreat
/- An argument that is a pressed vector. -/
namespace Go.Proofs.YtecgbelgoomneaaGreat
open Go.RowKit Go.ChangeShapes Go.WideShapes
set_option maxRecDepth 100000
set_option linter.unusedVariables false
section
variable {H : Type} {enc : TypeId × Value → H} {W : World}
theorem list8 {cs : List Value} (h : cs.length = 8) : ∃ a b c d e f g i, cs = [a, b, c, d, e, f, g, i] := by
  match cs, h with
  | [a, b, c, d, e, f, g, i], _ => exact ⟨a, b, c, d, e, f, g, i, rfl⟩
theorem open_sent {r : Reach} {v : Value} {d : DataW H} {ps : List MemPlace} {b0 : Nat}
    (hval : Value.okWide Tryz.prog W r b0 32 v) (hd : DataW.Trod enc Tryz.prog W 0 (fun _ => true) true 32 v d ps) :
    ∃ s p, v = encT s p ∧ RdS W W.heap.size s p ∧ wfS s ∧ capS s p := by
  obtain ⟨cs, rfl, hs⟩ := okWide_struct Tryz.underlying32 hval
  obtain ⟨fuel, hf⟩ := hd
  rw [cellsOf_sent] at hs
  obtain ⟨cs⟩ := cs
  obtain ⟨c0, c1, c2, c3, c4, c5, c6, c7, rfl⟩ := list8 (by simpa using hs)
  have hf' : DataW.trod enc Tryz.prog W 0 (fun _ => true) true fuel 32 [c0, c1, c2, c3, c4, c5, c6, c7] = some (d, ps) := by simpa [Value.cells] using hf
  obtain ⟨s, p, e, hr, hw, hc⟩ := cell_sent hf'
  simp only [List.cons.injEq, and_true] at e
  obtain ⟨e0, e1, e2, e3, e4, e5, e6, e7⟩ := e
  subst e0 e1 e2 e3 e4 e5 e6 e7
  exact ⟨s, p, rfl, hr, hw, hc⟩
end
end Go.Proofs.YtecgbelgoomneaaGreat
/- An argument that is a list of ways of pressing, opened. -/
namespace Go.Proofs.YtecgbelgoomneaaGreat
open Go.RowKit Go.ChangeShapes Go.WideShapes
set_option maxRecDepth 100000
set_option linter.unusedVariables false
/-- A slice of ways at A reads so. -/
def RdH (w : World) (B : Nat) (A : Option Addr) (hs : List (Int × Int × Int)) : Prop :=
  ∀ (k : Nat) (h : Int × Int × Int), hs[k]? = some h → ∃ b off, A = some ⟨b, off, none⟩ ∧ b < B ∧ w.cell? ⟨b, off + k * 3, none⟩ = some (.int .i64 h.1) ∧ w.cell? ⟨b, off + k * 3 + 1, none⟩ = some (.int .i64 h.2.1) ∧ w.cell? ⟨b, off + k * 3 + 2, none⟩ = some (.int .i64 h.2.2)
theorem RdH.below {w w' : World} {B : Nat} {A : Option Addr} {hs : List (Int × Int × Int)} (h : RdH w B A hs) (hb : Below B w w') : RdH w' B A hs := fun k x hx => by
  obtain ⟨b, off, e, hl, h0, h1, h2⟩ := h k x hx
  exact ⟨b, off, e, hl, (hb.cell (p := ⟨b, off + k * 3, none⟩) hl).trans h0, (hb.cell (p := ⟨b, off + k * 3 + 1, none⟩) hl).trans h1, (hb.cell (p := ⟨b, off + k * 3 + 2, none⟩) hl).trans h2⟩
section
variable {H : Type} {enc : TypeId × Value → H} {W : World}
theorem open_hows {r : Reach} {v : Value} {d : DataW H} {ps : List MemPlace} {b0 : Nat}
    (hval : Value.okWide Tryz.prog W r b0 58 v) (hd : DataW.Trod enc Tryz.prog W 0 (fun _ => true) true 58 v d ps) :
    ∃ A hs c, v = .slice A hs.length c ∧ RdH W W.heap.size A hs ∧ (∀ h ∈ hs, I64 h.1 ∧ I64 h.2.1 ∧ I64 h.2.2) ∧ hs.length ≤ c ∧ c ≤ 9223372036854775807 := by
  obtain ⟨A, len, cap, rfl⟩ := okWide_slice Tryz.underlying58 hval
  obtain ⟨fuel, hf⟩ := hd
  rcases Deep.open_slice Tryz.underlying58 hf with ⟨hcs, _⟩ | ⟨a, len', cap', m, n, D, Pl, hcs, _, hl, hm, hmm, _, hx⟩
  · simp [Value.cells] at hcs
    obtain ⟨rfl, rfl, rfl⟩ := hcs
    exact ⟨none, [], 0, rfl, fun k x hx => by simp at hx, by simp, by simp, by omega⟩
  · simp [Value.cells] at hcs
    obtain ⟨rfl, rfl, rfl⟩ := hcs
    simp only [if_true] at hmm
    subst hmm
    rw [cellsOf_how] at hx
    have each : ∀ i, i < m → ∃ y : Int × Int × Int, W.cell? ((a.add (i * 3)).add 0) = some (.int .i64 y.1) ∧ W.cell? ((a.add (i * 3)).add 1) = some (.int .i64 y.2.1) ∧ W.cell? ((a.add (i * 3)).add 2) = some (.int .i64 y.2.2) ∧ I64 y.1 ∧ I64 y.2.1 ∧ I64 y.2.2 := by
      intro i hi
      obtain ⟨cs, h1, h2⟩ := hx i hi
      obtain ⟨_, hlen, hcell⟩ := World.cells?_some h1
      obtain ⟨c0, c1, c2, rfl⟩ := list3 hlen
      obtain ⟨p, q, t, e, i1, i2, i3⟩ := cell_how h2
      simp only [List.cons.injEq, and_true] at e
      obtain ⟨e0, e1, e2⟩ := e
      subst e0 e1 e2
      exact ⟨(p, q, t), hcell 0 (by omega), hcell 1 (by omega), hcell 2 (by omega), i1, i2, i3⟩
    obtain ⟨y, hy⟩ := Deep.choose_lt each
    have hml : m ≤ 9223372036854775807 := by unfold maxLen at hm; omega
    refine ⟨some a, (List.range len).map y, m, by simp, ?_, ?_, by simp; omega, hml⟩
    · intro k x hx
      have hk : k < len := by have := (List.getElem?_eq_some_iff.1 hx).1; simpa using this
      have hxs : x = y k := by simpa [hk] using hx.symm
      subst hxs
      obtain ⟨h0, h1, h2, _⟩ := hy k (by omega)
      obtain ⟨b, off, spot⟩ := a
      have hs : spot = none := by
        have h9 := (hy 0 (by omega)).1
        have h8 := World.cell?_spot h9
        simpa [Addr.add] using h8
      subst hs
      rw [add_plain, add_plain] at h0 h1 h2
      exact ⟨b, off, rfl, lt_of_cell h0, by simpa using h0, h1, h2⟩
    · intro h hh
      obtain ⟨k, hk, rfl⟩ := List.mem_map.1 hh
      have hk' : k < len := by simpa using hk
      exact (hy k (by omega)).2.2.2
end
end Go.Proofs.YtecgbelgoomneaaGreat
