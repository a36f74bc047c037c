
/- YQuC: texts joined: QuC. -/
import Derived.Test.YtecgbelgoomneaaGreatYQuB
import Derived.Test.YtecgbelgoomneaaGreatYFrC
/- Loosened, by the document. -/
namespace Go.Proofs.YtecgbelgoomneaaGreat
open Go.RowKit
set_option maxHeartbeats 1000000
set_option maxRecDepth 100000
set_option linter.unusedVariables false
theorem may_lev {s : SentV} (hm : mayB s = true) (h2 : s.sch = 2) : s.lev.length ≤ 4096 ∧ s.neg.length = s.lev.length ∧ stsE s.wide = 0 ∧ 0 ≤ s.scale := by
  have h := mayB_iff.1 hm
  unfold mayP at h
  obtain ⟨a, b, h⟩ := h
  rcases h with h | h | h | h
  · omega
  · omega
  · obtain ⟨_, c, d, e, _, _, _, f, g⟩ := h
    exact ⟨by omega, by omega, stsE_ok.2 ⟨c, d⟩, f⟩
  · omega
theorem valV_le {l : Nat} {scale wide : Int} (hs : 0 ≤ scale) : (valV l scale wide : Int) ≤ scale := by
  unfold valV
  split
  · rename_i h
    have h2 := valE_ok.1 h
    have := vlQ_le (s := scale.toNat) h2.2.2
    omega
  · omega
theorem ref_Loosen10 (s : SentV) (p : SentP) (hn : lnS 100000 s) (hw : wfS s) (w : World) (ra : RdS w w.heap.size s p) :
    Calls Tryz.prog 44 #[encT s p] w (OwnE 2 .i64 w.heap.size (loqV s) (loqE s) w) := by
  obtain ⟨AL, cL, AV, cV, AE, cE, AN, cN⟩ := p
  have CM := hid (fun W (h : Below w.heap.size w W) => show Calls Tryz.prog 43 #[.agg #[.int .i64 s.sch, .int .i64 s.dim, .slice AL s.L.length cL, .slice AV s.V.length cV, .int .i64 s.scale, .int .i64 s.wide, .slice AE s.lev.length cE, .slice AN s.neg.length cN]] W fun e w' => e = .returned (.bool (mayB s)) ∧ Below W.heap.size W w' from ref_May s ⟨AL, cL, AV, cV, AE, cE, AN, cN⟩ hn hw W (B := w.heap.size) h.size (ra.below h))
  show Calls Tryz.prog 44 #[.agg #[.int .i64 s.sch, .int .i64 s.dim, .slice AL s.L.length cL, .slice AV s.V.length cV, .int .i64 s.scale, .int .i64 s.wide, .slice AE s.lev.length cE, .slice AN s.neg.length cN]] w _
  by_cases hm : mayB s = true
  · rw [hm] at CM
    by_cases h2 : s.sch = 2
    · have he : loqE s = 0 := if_pos ⟨hm, h2⟩
      have hv : loqV s = loqL s s.lev.length := if_pos he
      rw [he, hv]
      obtain ⟨m1, m2, m3, m4⟩ := may_lev hm h2
      have hsc := hw.2.2.2.2.1
      have hwd := hw.2.2.2.2.2.1
      have CV := hid (fun (l : Nat) (hl : l < 2 ^ 64) W => ref_Value l s.scale s.wide hl hsc hwd W)
      have HU := hid hw.2.2.2.2.2.2
      have HVL := hid (fun l : Nat => valV_le (l := l) (wide := s.wide) m4)
      have HSL := hid (fun q => loqL_snoc s q)
      have HLO := hid (fun q => show loQ s q = if s.neg.getD q false = true then -(valV (s.lev.getD q 0).toNat s.scale s.wide : Int) else (valV (s.lev.getD q 0).toNat s.scale s.wide : Int) from rfl)
      have HLL := hid (fun q => loqL_len s q)
      have H0 : Hid (loqL s 0 = []) := rfl
      have RA : Hid (Rd (Value.int .u64) w w.heap.size AE s.lev) := hid ra.2.2.1
      have RN : Hid (Rd Value.bool w w.heap.size AN s.neg) := hid ra.2.2.2
      have hs63 : s.scale ≤ 9223372036854775807 := by unfold I64 at hsc; omega
      have hl63 : s.lev.length ≤ 9223372036854775807 := by omega
      have HNL := hid m2
      have H2 := hid h2
      clear he hv hm ra hn hw m2 m3 hsc hwd h2
      go_enter Tryz.func44, Tryz.ntmps44
      go_wp2_with fail
      have B0 := BoxL.new w [.int .i64 s.sch, .int .i64 s.dim, .slice AL s.L.length cL, .slice AV s.V.length cV, .int .i64 s.scale, .int .i64 s.wide, .slice AE s.lev.length cE, .slice AN s.neg.length cN] 32
      refine (CM.out _ (by go_grown)).mono ?_
      rintro _ w1 ⟨rfl, hb⟩
      have HB1 := hid (B0.below hb (by simp))
      have k1 : Below w.heap.size w w1 := Below.trans (by go_grown) (hb.mono (by simp))
      have hg1 : w.heap.size < w1.heap.size := by have := hb.size; simp at this; omega
      have f0 := (HB1.out 0 _ rfl).1
      rw [H2.out] at f0
      have f6 := (HB1.out 6 _ rfl).1
      clear B0 hb CM
      go_wp2_with fail
      clear f0 f6
      go_loopw [4, 20] (fun o i wr => ∃ (k : Nat) (S : List Int) (A2 : Option Addr) (c2 : Nat), k ≤ s.lev.length ∧ i = .int .i64 k ∧ o = .slice A2 S.length c2 ∧ S = loqL s k ∧ wr.ownsRow w1.heap.size 2 1 (.slice A2 S.length c2) S.length (S.map (Value.int .i64)) ∧ Below w1.heap.size w1 wr) (fun _ i _ => s.lev.length - (intOf i).toNat)
      case atStart => exact ⟨0, [], none, 0, by omega, rfl, rfl, H0.out.symm, own_nil _ _ _, Below.refl _ _⟩
      case round =>
        obtain ⟨k, S, A2, c2, hk, rfl, rfl, hS, hown, hbr⟩ := hrel
        have HS := hid hS
        have HO := hid hown
        have lS : S.length ≤ 4096 := by rw [hS, HLL.out]; omega
        clear hS hown
        by_cases hlt : k < s.lev.length
        · have kw := k1.trans (hbr.mono k1.size)
          obtain ⟨b1, o1, x, rfl, l1, ex, d1⟩ := (RA.out.below kw).at_ hlt
          obtain ⟨b2, o2, y, rfl, l2, ey, d2⟩ := (RN.out.below kw).at_ (k := k) (by rw [HNL.out]; exact hlt)
          have hltn : k < s.neg.length := by rw [HNL.out]; exact hlt
          obtain ⟨x1, x2⟩ := HU.out.at_ ex
          obtain ⟨l, rfl⟩ := Int.eq_ofNat_of_zero_le x1
          have C := hid (CV.out l (by omega) wr)
          have hvl := HVL.out l
          have hlo := HLO.out k
          rw [getD_of ex, show s.neg.getD k false = y by rw [List.getD_eq_getElem?_getD, ey]; rfl, Int.toNat_natCast] at hlo
          have HSk := HSL.out k
          obtain ⟨z, hz⟩ : ∃ z, valV l s.scale s.wide = z := ⟨_, rfl⟩
          rw [hz] at C hvl hlo
          have HLO2 := hid hlo
          have HSK := hid HSk
          have HBr := HB1.out.below hbr hg1
          have f4 := (HBr 4 _ rfl).1
          have f5 := (HBr 5 _ rfl).1
          have f7 := (HBr 7 _ rfl).1
          clear ex ey hlo HSk hz HBr
          go_wp2_with fail
          refine C.out.mono ?_
          rintro _ _ ⟨rfl, rfl⟩
          cases y with
          | false =>
            have HL := hid (show loQ s k = (z : Int) from HLO2.out)
            have g1 := own_on HO.out ((Below.refl wr.heap.size wr).alloc (Nat.le_refl _) (.cells #[.int .i64 (z : Int)] 2))
            have hr0 : Rd (Value.int .i64) (wr.alloc (.cells #[.int .i64 (z : Int)] 2)) _ (some ⟨wr.heap.size, 0, none⟩) [(z : Int)] := rd_one (one_cell wr (.int .i64 (z : Int)) 2).1
            go_wp2_with (at_builtin; refine wpList_app (Value.int .i64) (fun _ => rfl) _ rfl _ _ 24 rfl w1.heap.size 2 (.int .i64 0) 8 Tryz.underlying24 info_i64 rfl S _ _ rfl g1 [(z : Int)] _ 1 _ rfl hr0 (by simp [maxLen]; omega) (by simp; omega) (by have := hbr.size; simp; omega) ?_)
            rintro S' A' c' w5 hS' ho hb1 _
            have HS' := hid hS'
            have HO' := hid ho
            clear hS' ho f4 f5 f7 d1 d2
            go_wp2_with fail
            go_roundw
            case rel => exact ⟨k + 1, S', A', c', by omega, by go_num, rfl, by rw [HS'.out, HS.out, HSK.out, HL.out], HO'.out, (hbr.alloc hbr.size _).trans hb1⟩
            case measure => simp [intOf]; omega
          | true =>
            have HL := hid (show loQ s k = -(z : Int) from HLO2.out)
            have g1 := own_on HO.out ((Below.refl wr.heap.size wr).alloc (Nat.le_refl _) (.cells #[.int .i64 (-(z : Int))] 2))
            have hr0 : Rd (Value.int .i64) (wr.alloc (.cells #[.int .i64 (-(z : Int))] 2)) _ (some ⟨wr.heap.size, 0, none⟩) [-(z : Int)] := rd_one (one_cell wr (.int .i64 (-(z : Int))) 2).1
            have hwr : IntKind.i64.wrap (-(z : Int)) = -(z : Int) := by rw [IntKind.wrap_i64]; omega
            go_wp2_with (at_builtin; refine wpList_app (Value.int .i64) (fun _ => rfl) _ rfl _ _ 24 rfl w1.heap.size 2 (.int .i64 0) 8 Tryz.underlying24 info_i64 rfl S _ _ rfl g1 [-(z : Int)] _ 1 _ rfl hr0 (by simp [maxLen]; omega) (by simp; omega) (by have := hbr.size; simp; omega) ?_)
            rintro S' A' c' w5 hS' ho hb1 _
            have HS' := hid hS'
            have HO' := hid ho
            clear hS' ho f4 f5 f7 d1 d2
            go_wp2_with fail
            go_roundw
            case rel => exact ⟨k + 1, S', A', c', by omega, by go_num, rfl, by rw [HS'.out, HS.out, HSK.out, HL.out], HO'.out, (hbr.alloc hbr.size _).trans hb1⟩
            case measure => simp [intOf]; omega
        · obtain rfl : k = s.lev.length := by omega
          have kw := k1.trans (hbr.mono k1.size)
          have hfin : OwnE 2 .i64 w.heap.size (loqL s s.lev.length) 0 w (.returned (.tuple #[.slice A2 S.length c2, .int .i64 0])) wr := by rw [← HS.out]; exact ⟨A2, c2, rfl, own_base HO.out k1.size, kw⟩
          clear HO
          go_wp2_with fail
          go_ret2
          exact hfin
    · have he : loqE s = 1 := if_neg (fun h => h2 h.2)
      have hv : loqV s = [] := if_neg (by rw [he]; decide)
      rw [he, hv]
      have t1 : (s.sch == 2) = false := beq_eq_false_iff_ne.2 h2
      clear he hv hm ra hn hw
      go_enter Tryz.func44, Tryz.ntmps44
      go_wp2_with fail
      have B0 := BoxL.new w [.int .i64 s.sch, .int .i64 s.dim, .slice AL s.L.length cL, .slice AV s.V.length cV, .int .i64 s.scale, .int .i64 s.wide, .slice AE s.lev.length cE, .slice AN s.neg.length cN] 32
      refine (CM.out _ (by go_grown)).mono ?_
      rintro _ w1 ⟨rfl, hb⟩
      have HB1 := hid (B0.below hb (by simp))
      have k1 : Below w.heap.size w w1 := Below.trans (by go_grown) (hb.mono (by simp))
      have f0 := (HB1.out 0 _ rfl).1
      clear B0 hb CM
      go_wp2_with fail
      go_ret2
      exact OwnE.nil k1
  · have he : loqE s = 1 := if_neg (fun h => hm h.1)
    have hv : loqV s = [] := if_neg (by rw [he]; decide)
    rw [he, hv]
    have hm2 : mayB s = false := by simpa using hm
    rw [hm2] at CM
    clear he hv hm hm2 ra hn hw
    go_enter Tryz.func44, Tryz.ntmps44
    go_wp2_with fail
    refine (CM.out _ (by go_grown)).mono ?_
    rintro _ w1 ⟨rfl, hb⟩
    have k1 : Below w.heap.size w w1 := Below.trans (by go_grown) (hb.mono (by simp))
    clear hb CM
    go_wp2_with fail
    go_ret2
    exact OwnE.nil k1
end Go.Proofs.YtecgbelgoomneaaGreat
