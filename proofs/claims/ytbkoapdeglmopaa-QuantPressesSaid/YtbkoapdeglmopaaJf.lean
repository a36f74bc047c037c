
/- Jf: texts joined: QuC QpB QpC QuD QpE FrD ArgF ArgT. -/
import Derived.Test.YtbkoapdeglmopaaJQuB
import Derived.Test.YtbkoapdeglmopaaJFrC
import Derived.Test.YtbkoapdeglmopaaJb
import Derived.Test.YtbkoapdeglmopaaJe
import Derived.Test.YtbkoapdeglmopaaJd
import Derived.ChangeSame
/- Loosened, by the document. -/
namespace Go.Proofs.Ytbkoapdeglmopaa
open Go.RowKit
set_option maxHeartbeats 1000000
set_option maxRecDepth 100000
set_option linter.unusedVariables false
theorem may_lev {s : SentV} (hm : mayB s = true) (h2 : s.sch = 2) : s.lev.length ≤ 4096 ∧ s.neg.length = s.lev.length ∧ stsE s.wide = 0 ∧ 0 ≤ s.scale := by
  have h := mayB_iff.1 hm
  unfold mayP at h
  obtain ⟨a, b, h⟩ := h
  rcases h with h | h | h | h
  · omega
  · omega
  · obtain ⟨_, c, d, e, _, _, _, f, g⟩ := h
    exact ⟨by omega, by omega, stsE_ok.2 ⟨c, d⟩, f⟩
  · omega
theorem valV_le {l : Nat} {scale wide : Int} (hs : 0 ≤ scale) : (valV l scale wide : Int) ≤ scale := by
  unfold valV
  split
  · rename_i h
    have h2 := valE_ok.1 h
    have := vlQ_le (s := scale.toNat) h2.2.2
    omega
  · omega
theorem ref_Loosen10 (s : SentV) (p : SentP) (hn : lnS 100000 s) (hw : wfS s) (w : World) (ra : RdS w w.heap.size s p) :
    Calls Try.prog 21 #[encT s p] w (OwnE 2 .i64 w.heap.size (loqV s) (loqE s) w) := by
  obtain ⟨AL, cL, AV, cV, AE, cE, AN, cN⟩ := p
  have CM := hid (fun W (h : Below w.heap.size w W) => show Calls Try.prog 37 #[.agg #[.int .i64 s.sch, .int .i64 s.dim, .slice AL s.L.length cL, .slice AV s.V.length cV, .int .i64 s.scale, .int .i64 s.wide, .slice AE s.lev.length cE, .slice AN s.neg.length cN]] W fun e w' => e = .returned (.bool (mayB s)) ∧ Below W.heap.size W w' from ref_May s ⟨AL, cL, AV, cV, AE, cE, AN, cN⟩ hn hw W (B := w.heap.size) h.size (ra.below h))
  show Calls Try.prog 21 #[.agg #[.int .i64 s.sch, .int .i64 s.dim, .slice AL s.L.length cL, .slice AV s.V.length cV, .int .i64 s.scale, .int .i64 s.wide, .slice AE s.lev.length cE, .slice AN s.neg.length cN]] w _
  by_cases hm : mayB s = true
  · rw [hm] at CM
    by_cases h2 : s.sch = 2
    · have he : loqE s = 0 := if_pos ⟨hm, h2⟩
      have hv : loqV s = loqL s s.lev.length := if_pos he
      rw [he, hv]
      obtain ⟨m1, m2, m3, m4⟩ := may_lev hm h2
      have hsc := hw.2.2.2.2.1
      have hwd := hw.2.2.2.2.2.1
      have CV := hid (fun (l : Nat) (hl : l < 2 ^ 64) W => ref_Value l s.scale s.wide hl hsc hwd W)
      have HU := hid hw.2.2.2.2.2.2
      have HVL := hid (fun l : Nat => valV_le (l := l) (wide := s.wide) m4)
      have HSL := hid (fun q => loqL_snoc s q)
      have HLO := hid (fun q => show loQ s q = if s.neg.getD q false = true then -(valV (s.lev.getD q 0).toNat s.scale s.wide : Int) else (valV (s.lev.getD q 0).toNat s.scale s.wide : Int) from rfl)
      have HLL := hid (fun q => loqL_len s q)
      have H0 : Hid (loqL s 0 = []) := rfl
      have RA : Hid (Rd (Value.int .u64) w w.heap.size AE s.lev) := hid ra.2.2.1
      have RN : Hid (Rd Value.bool w w.heap.size AN s.neg) := hid ra.2.2.2
      have hs63 : s.scale ≤ 9223372036854775807 := by unfold I64 at hsc; omega
      have hl63 : s.lev.length ≤ 9223372036854775807 := by omega
      have HNL := hid m2
      have H2 := hid h2
      clear he hv hm ra hn hw m2 m3 hsc hwd h2
      go_enter Try.func21, Try.ntmps21
      go_wp2_with fail
      have B0 := BoxL.new w [.int .i64 s.sch, .int .i64 s.dim, .slice AL s.L.length cL, .slice AV s.V.length cV, .int .i64 s.scale, .int .i64 s.wide, .slice AE s.lev.length cE, .slice AN s.neg.length cN] 37
      refine (CM.out _ (by go_grown)).mono ?_
      rintro _ w1 ⟨rfl, hb⟩
      have HB1 := hid (B0.below hb (by simp))
      have k1 : Below w.heap.size w w1 := Below.trans (by go_grown) (hb.mono (by simp))
      have hg1 : w.heap.size < w1.heap.size := by have := hb.size; simp at this; omega
      have f0 := (HB1.out 0 _ rfl).1
      rw [H2.out] at f0
      have f6 := (HB1.out 6 _ rfl).1
      clear B0 hb CM
      go_wp2_with fail
      clear f0 f6
      go_loopw [4, 20] (fun o i wr => ∃ (k : Nat) (S : List Int) (A2 : Option Addr) (c2 : Nat), k ≤ s.lev.length ∧ i = .int .i64 k ∧ o = .slice A2 S.length c2 ∧ S = loqL s k ∧ wr.ownsRow w1.heap.size 2 1 (.slice A2 S.length c2) S.length (S.map (Value.int .i64)) ∧ Below w1.heap.size w1 wr) (fun _ i _ => s.lev.length - (intOf i).toNat)
      case atStart => exact ⟨0, [], none, 0, by omega, rfl, rfl, H0.out.symm, own_nil _ _ _, Below.refl _ _⟩
      case round =>
        obtain ⟨k, S, A2, c2, hk, rfl, rfl, hS, hown, hbr⟩ := hrel
        have HS := hid hS
        have HO := hid hown
        have lS : S.length ≤ 4096 := by rw [hS, HLL.out]; omega
        clear hS hown
        by_cases hlt : k < s.lev.length
        · have kw := k1.trans (hbr.mono k1.size)
          obtain ⟨b1, o1, x, rfl, l1, ex, d1⟩ := (RA.out.below kw).at_ hlt
          obtain ⟨b2, o2, y, rfl, l2, ey, d2⟩ := (RN.out.below kw).at_ (k := k) (by rw [HNL.out]; exact hlt)
          have hltn : k < s.neg.length := by rw [HNL.out]; exact hlt
          obtain ⟨x1, x2⟩ := HU.out.at_ ex
          obtain ⟨l, rfl⟩ := Int.eq_ofNat_of_zero_le x1
          have C := hid (CV.out l (by omega) wr)
          have hvl := HVL.out l
          have hlo := HLO.out k
          rw [getD_of ex, show s.neg.getD k false = y by rw [List.getD_eq_getElem?_getD, ey]; rfl, Int.toNat_natCast] at hlo
          have HSk := HSL.out k
          obtain ⟨z, hz⟩ : ∃ z, valV l s.scale s.wide = z := ⟨_, rfl⟩
          rw [hz] at C hvl hlo
          have HLO2 := hid hlo
          have HSK := hid HSk
          have HBr := HB1.out.below hbr hg1
          have f4 := (HBr 4 _ rfl).1
          have f5 := (HBr 5 _ rfl).1
          have f7 := (HBr 7 _ rfl).1
          clear ex ey hlo HSk hz HBr
          go_wp2_with fail
          refine C.out.mono ?_
          rintro _ _ ⟨rfl, rfl⟩
          cases y with
          | false =>
            have HL := hid (show loQ s k = (z : Int) from HLO2.out)
            have g1 := own_on HO.out ((Below.refl wr.heap.size wr).alloc (Nat.le_refl _) (.cells #[.int .i64 (z : Int)] 2))
            have hr0 : Rd (Value.int .i64) (wr.alloc (.cells #[.int .i64 (z : Int)] 2)) _ (some ⟨wr.heap.size, 0, none⟩) [(z : Int)] := rd_one (one_cell wr (.int .i64 (z : Int)) 2).1
            go_wp2_with (at_builtin; refine wpList_app (Value.int .i64) (fun _ => rfl) _ rfl _ _ 32 rfl w1.heap.size 2 (.int .i64 0) 8 Try.underlying32 info_i64 rfl S _ _ rfl g1 [(z : Int)] _ 1 _ rfl hr0 (by simp [maxLen]; omega) (by simp; omega) (by have := hbr.size; simp; omega) ?_)
            rintro S' A' c' w5 hS' ho hb1 _
            have HS' := hid hS'
            have HO' := hid ho
            clear hS' ho f4 f5 f7 d1 d2
            go_wp2_with fail
            go_roundw
            case rel => exact ⟨k + 1, S', A', c', by omega, by go_num, rfl, by rw [HS'.out, HS.out, HSK.out, HL.out], HO'.out, (hbr.alloc hbr.size _).trans hb1⟩
            case measure => simp [intOf]; omega
          | true =>
            have HL := hid (show loQ s k = -(z : Int) from HLO2.out)
            have g1 := own_on HO.out ((Below.refl wr.heap.size wr).alloc (Nat.le_refl _) (.cells #[.int .i64 (-(z : Int))] 2))
            have hr0 : Rd (Value.int .i64) (wr.alloc (.cells #[.int .i64 (-(z : Int))] 2)) _ (some ⟨wr.heap.size, 0, none⟩) [-(z : Int)] := rd_one (one_cell wr (.int .i64 (-(z : Int))) 2).1
            have hwr : IntKind.i64.wrap (-(z : Int)) = -(z : Int) := by rw [IntKind.wrap_i64]; omega
            go_wp2_with (at_builtin; refine wpList_app (Value.int .i64) (fun _ => rfl) _ rfl _ _ 32 rfl w1.heap.size 2 (.int .i64 0) 8 Try.underlying32 info_i64 rfl S _ _ rfl g1 [-(z : Int)] _ 1 _ rfl hr0 (by simp [maxLen]; omega) (by simp; omega) (by have := hbr.size; simp; omega) ?_)
            rintro S' A' c' w5 hS' ho hb1 _
            have HS' := hid hS'
            have HO' := hid ho
            clear hS' ho f4 f5 f7 d1 d2
            go_wp2_with fail
            go_roundw
            case rel => exact ⟨k + 1, S', A', c', by omega, by go_num, rfl, by rw [HS'.out, HS.out, HSK.out, HL.out], HO'.out, (hbr.alloc hbr.size _).trans hb1⟩
            case measure => simp [intOf]; omega
        · obtain rfl : k = s.lev.length := by omega
          have kw := k1.trans (hbr.mono k1.size)
          have hfin : OwnE 2 .i64 w.heap.size (loqL s s.lev.length) 0 w (.returned (.tuple #[.slice A2 S.length c2, .int .i64 0])) wr := by rw [← HS.out]; exact ⟨A2, c2, rfl, own_base HO.out k1.size, kw⟩
          clear HO
          go_wp2_with fail
          go_ret2
          exact hfin
    · have he : loqE s = 1 := if_neg (fun h => h2 h.2)
      have hv : loqV s = [] := if_neg (by rw [he]; decide)
      rw [he, hv]
      have t1 : (s.sch == 2) = false := beq_eq_false_iff_ne.2 h2
      clear he hv hm ra hn hw
      go_enter Try.func21, Try.ntmps21
      go_wp2_with fail
      have B0 := BoxL.new w [.int .i64 s.sch, .int .i64 s.dim, .slice AL s.L.length cL, .slice AV s.V.length cV, .int .i64 s.scale, .int .i64 s.wide, .slice AE s.lev.length cE, .slice AN s.neg.length cN] 37
      refine (CM.out _ (by go_grown)).mono ?_
      rintro _ w1 ⟨rfl, hb⟩
      have HB1 := hid (B0.below hb (by simp))
      have k1 : Below w.heap.size w w1 := Below.trans (by go_grown) (hb.mono (by simp))
      have f0 := (HB1.out 0 _ rfl).1
      clear B0 hb CM
      go_wp2_with fail
      go_ret2
      exact OwnE.nil k1
  · have he : loqE s = 1 := if_neg (fun h => hm h.1)
    have hv : loqV s = [] := if_neg (by rw [he]; decide)
    rw [he, hv]
    have hm2 : mayB s = false := by simpa using hm
    rw [hm2] at CM
    clear he hv hm hm2 ra hn hw
    go_enter Try.func21, Try.ntmps21
    go_wp2_with fail
    refine (CM.out _ (by go_grown)).mono ?_
    rintro _ w1 ⟨rfl, hb⟩
    have k1 : Below w.heap.size w w1 := Below.trans (by go_grown) (hb.mono (by simp))
    clear hb CM
    go_wp2_with fail
    go_ret2
    exact OwnE.nil k1
end Go.Proofs.Ytbkoapdeglmopaa
/- Whether a vector is one in levels that may be; loosened: by the program. -/
namespace Go.Proofs.Ytbkoapdeglmopaa
open Go.RowKit
set_option maxHeartbeats 400000
set_option maxRecDepth 100000
set_option linter.unusedVariables false
theorem width_qp {g : Nat} {wd x : Int} {w : World} (hc : w.cell? ⟨g, 5, none⟩ = some (.int .i64 wd)) (ux : U64 x) :
    Calls Try.prog 73 (#[.int .u64 x] ++ #[.pointer (some ⟨g, 0, none⟩)]) w fun e w' => e = .returned (.bool (decide (wd < (wdt x : Int)))) ∧ ∃ n, w' = w.drewN n := by
  have CW := hid (fun W => pl_Width x ux W)
  obtain ⟨z, hz⟩ : ∃ z, wdt x = z := ⟨_, rfl⟩
  rw [hz] at CW ⊢
  clear hz
  go_enter Try.func73, Try.ntmps73
  go_wp2_with fail
  go_quiet ((go_at_call 74; exact quietL CW.out _))
  go_wp2_with fail
  go_ret
  exact ⟨rfl, _, rfl⟩
theorem qp_levels (s : SentV) (p : SentP) (hn : lnS 100000 s) (hw : I64 s.wide) (ul : U64s s.lev) (w : World) {B : Nat} (hB : B ≤ w.heap.size) (ra : RdS w B s p) :
    Calls Try.prog 60 #[encT s p] w fun e w' => e = .returned (.bool (lvB s)) ∧ Below w.heap.size w w' := by
  have HR : lvB s = true ↔ (stsE s.wide = 0 ∧ (s.lev.length : Int) = s.dim ∧ fitsB s.wide s.lev = true) := by
    unfold lvB
    rw [decide_eq_true_eq, stsE_ok]
    constructor
    · rintro ⟨a, b, c, d⟩; exact ⟨⟨a, b⟩, c, d⟩
    · rintro ⟨⟨a, b⟩, c, d⟩; exact ⟨a, b, c, d⟩
  obtain ⟨R, hR⟩ : ∃ R, lvB s = R := ⟨_, rfl⟩
  rw [hR] at HR ⊢
  have CS := hid (fun W => qp_Steps s.wide hw W)
  have CC : Hid (∀ W, Below w.heap.size w W → W.cell? ⟨w.heap.size, 5, none⟩ = some (.int .i64 s.wide) → Calls Try.prog 72 #[.slice p.AE s.lev.length p.cE, .func (.func 73) #[] #[.pointer (some ⟨w.heap.size, 0, none⟩)]] W fun e w' => e = .returned (.bool (!fitsB s.wide s.lev)) ∧ ∃ n, w' = W.drewN n) := hid (fun W hb hc => by
    have h := contains_any (A := p.AE) (c := p.cE) 73 #[.pointer (some ⟨w.heap.size, 0, none⟩)] s.lev (by have := hn.2.2.1; omega) (fun x => decide (s.wide < (wdt x : Int))) W (cl_enter 73 (by kernel_rfl)) (ra.2.2.1.below (hb.mono hB)) (fun x hx n => width_qp (w := W.drewN n) hc (ul x hx))
    rw [any_fits] at h
    exact h)
  obtain ⟨v, hv⟩ : ∃ v, fitsB s.wide s.lev = v := ⟨_, rfl⟩
  rw [hv] at HR CC
  obtain ⟨E, hE⟩ : ∃ E, stsE s.wide = E := ⟨_, rfl⟩
  obtain ⟨V, hV⟩ : ∃ V, stsV s.wide = V := ⟨_, rfl⟩
  rw [hE] at HR CS
  rw [hV] at CS
  have HR2 := hid HR
  clear hR HR hv ra hn ul hE hV
  go_enter Try.func60, Try.ntmps60
  go_wp2_with fail
  refine (CS.out _).mono ?_
  rintro _ _ ⟨rfl, rfl⟩
  by_cases h0 : E = 0
  · subst h0
    go_wp2_with fail
    any_goals (go_ret; refine ⟨ret_of ?_, by go_grown⟩; rw [HR2.out]; first | (simp [*]; done) | (simp [*]; omega))
    refine (CC.out _ (by go_grown) (by simp [go_sem])).mono ?_
    rintro _ _ ⟨rfl, n1, rfl⟩
    go_wp2_with fail
    go_ret
    refine ⟨ret_of ?_, Below.trans (by go_grown) (belowN _ _ _)⟩
    rw [HR2.out]
    first | (simp [*]; done) | (simp [*]; omega)
  · have h0' : (E != 0) = true := by simpa using h0
    have hRf : R = false := by
      cases R with
      | false => rfl
      | true => exact absurd (HR2.out.1 rfl).1 h0
    subst hRf
    clear h0 HR2
    go_wp2_with fail
    go_ret
    exact ⟨rfl, by go_grown⟩
/-- One in levels that may be. -/
def myQ (s : SentV) : Bool := decide (s.sch = 2 ∧ 1 ≤ s.dim ∧ s.dim ≤ 4096 ∧ s.L = [] ∧ s.V = [] ∧ 0 ≤ s.scale ∧ (s.neg.length : Int) = s.dim ∧ lvB s = true)
theorem myQ_iff {s : SentV} : myQ s = true ↔ mayB s = true ∧ s.sch = 2 := by
  unfold myQ lvB
  rw [decide_eq_true_iff, decide_eq_true_iff, mayB_iff]
  unfold mayP
  constructor
  · rintro ⟨a, b, c, d, e, f, g, h1, h2, h3, h4⟩
    exact ⟨⟨b, c, .inr (.inr (.inl ⟨a, h1, h2, h3, h4, d, e, f, g⟩))⟩, a⟩
  · rintro ⟨⟨b, c, h⟩, a⟩
    rcases h with h | h | ⟨_, h1, h2, h3, h4, d, e, f, g⟩ | h
    · have := h.1; omega
    · have := h.1; omega
    · exact ⟨a, b, c, d, e, f, g, h1, h2, h3, h4⟩
    · have := h.1; omega
theorem qp_may_v (sch dim scale wide : Int) (nL nV nE nN : Nat) (AL AV AE AN : Option Addr) (cL cV cE cN : Nat) (R v : Bool) (hd : I64 dim) (w : World)
    (HR : Hid (R = true ↔ (sch = 2 ∧ 1 ≤ dim ∧ dim ≤ 4096 ∧ nL = 0 ∧ nV = 0 ∧ 0 ≤ scale ∧ (nN : Int) = dim ∧ v = true)))
    (CL : Hid (∀ W, Below w.heap.size w W → Calls Try.prog 60 #[.agg #[.int .i64 sch, .int .i64 dim, .slice AL nL cL, .slice AV nV cV, .int .i64 scale, .int .i64 wide, .slice AE nE cE, .slice AN nN cN]] W fun e w' => e = .returned (.bool v) ∧ Below W.heap.size W w')) :
    Calls Try.prog 36 #[.agg #[.int .i64 sch, .int .i64 dim, .slice AL nL cL, .slice AV nV cV, .int .i64 scale, .int .i64 wide, .slice AE nE cE, .slice AN nN cN]] w fun e w' => e = .returned (.bool R) ∧ Below w.heap.size w w' := by
  unfold I64 at hd
  by_cases h1 : sch = 2
  · subst h1
    by_cases h2 : dim ≥ 1
    · by_cases h3 : dim ≤ 4096
      · by_cases h4 : nL = 0
        · subst h4
          by_cases h5 : nV = 0
          · subst h5
            by_cases h6 : scale ≥ 0
            · by_cases h7 : (nN : Int) = dim
              · subst h7
                have hF : R = v := by
                  rw [Bool.eq_iff_iff, HR.out]
                  exact ⟨fun h => h.2.2.2.2.2.2.2, fun h => ⟨rfl, h2, h3, rfl, rfl, h6, rfl, h⟩⟩
                subst hF
                clear HR
                go_enter Try.func36, Try.ntmps36
                go_wp2_with fail
                refine (CL.out _ (by go_grown)).mono ?_
                rintro _ w1 ⟨rfl, hb⟩
                go_wp2_with fail
                go_ret
                exact ⟨by simp, Below.trans (by go_grown) (hb.mono (by simp))⟩
              · have t7 : ((nN : Int) == dim) = false := beq_eq_false_iff_ne.2 h7
                have hF : R = false := Bool.eq_false_iff.2 (fun h => h7 (HR.out.1 h).2.2.2.2.2.2.1)
                subst hF
                clear CL HR
                go_enter Try.func36, Try.ntmps36
                go_wp2_with fail
                go_ret
                exact ⟨rfl, by go_grown⟩
            · have hF : R = false := Bool.eq_false_iff.2 (fun h => h6 (HR.out.1 h).2.2.2.2.2.1)
              subst hF
              clear CL HR
              go_enter Try.func36, Try.ntmps36
              go_wp2_with fail
              go_ret
              exact ⟨rfl, by go_grown⟩
          · have t5 : ((nV : Int) == 0) = false := beq_eq_false_iff_ne.2 (by omega)
            have t5b : (nV == 0) = false := beq_eq_false_iff_ne.2 h5
            have hF : R = false := Bool.eq_false_iff.2 (fun h => h5 (HR.out.1 h).2.2.2.2.1)
            subst hF
            clear CL HR
            go_enter Try.func36, Try.ntmps36
            go_wp2_with fail
            go_ret
            exact ⟨rfl, by go_grown⟩
        · have t4 : ((nL : Int) == 0) = false := beq_eq_false_iff_ne.2 (by omega)
          have t4b : (nL == 0) = false := beq_eq_false_iff_ne.2 h4
          have hF : R = false := Bool.eq_false_iff.2 (fun h => h4 (HR.out.1 h).2.2.2.1)
          subst hF
          clear CL HR
          go_enter Try.func36, Try.ntmps36
          go_wp2_with fail
          go_ret
          exact ⟨rfl, by go_grown⟩
      · have hF : R = false := Bool.eq_false_iff.2 (fun h => h3 (HR.out.1 h).2.2.1)
        subst hF
        clear CL HR
        go_enter Try.func36, Try.ntmps36
        go_wp2_with fail
        go_ret
        exact ⟨rfl, by go_grown⟩
    · have hF : R = false := Bool.eq_false_iff.2 (fun h => h2 (HR.out.1 h).2.1)
      subst hF
      clear CL HR
      go_enter Try.func36, Try.ntmps36
      go_wp2_with fail
      go_ret
      exact ⟨rfl, by go_grown⟩
  · have t1 : (sch == 2) = false := beq_eq_false_iff_ne.2 h1
    have hF : R = false := Bool.eq_false_iff.2 (fun h => h1 (HR.out.1 h).1)
    subst hF
    clear CL HR
    go_enter Try.func36, Try.ntmps36
    go_wp2_with fail
    go_ret
    exact ⟨rfl, by go_grown⟩
theorem qp_may (s : SentV) (p : SentP) (hn : lnS 100000 s) (hw : wfS s) (w : World) {B : Nat} (hB : B ≤ w.heap.size) (ra : RdS w B s p) :
    Calls Try.prog 36 #[encT s p] w fun e w' => e = .returned (.bool (myQ s)) ∧ Below w.heap.size w w' := by
  refine qp_may_v s.sch s.dim s.scale s.wide s.L.length s.V.length s.lev.length s.neg.length p.AL p.AV p.AE p.AN p.cL p.cV p.cE p.cN (myQ s) (lvB s) hw.2.1 w (hid ?_) (hid fun W h => ?_)
  · unfold myQ; rw [decide_eq_true_eq, List.length_eq_zero_iff, List.length_eq_zero_iff]
  · exact qp_levels s p hn hw.2.2.2.2.2.1 hw.2.2.2.2.2.2 W (B := w.heap.size) h.size ((ra.below (h.mono hB)).more hB)
end Go.Proofs.Ytbkoapdeglmopaa
/- Loosened, by the program. -/
namespace Go.Proofs.Ytbkoapdeglmopaa
open Go.RowKit
set_option maxHeartbeats 1000000
set_option maxRecDepth 100000
set_option linter.unusedVariables false
theorem own_loq {w' : World} {b B M : Nat} {e : TypeId} {s : SentV} (h : w'.rowIs b e M (fun j => .int .i64 (loQ s j))) (hB : B ≤ b) (hM : M ≤ 4096) :
    w'.ownsRow B e 1 (.slice (some ⟨b, 0, none⟩) (loqL s M).length M) (loqL s M).length ((loqL s M).map (Value.int .i64)) := by
  have h2 := own_made (w' := w') h hB (by unfold maxLen; omega)
  unfold loqL
  rw [List.length_map, List.length_range, List.map_map]
  exact h2
set_option maxHeartbeats 4000000 in
theorem qp_Loosen (s : SentV) (p : SentP) (hn : lnS 100000 s) (hw : wfS s) (w : World) (ra : RdS w w.heap.size s p) :
    Calls Try.prog 20 #[encT s p] w (OwnE 2 .i64 w.heap.size (loqV s) (loqE s) w) := by
  obtain ⟨AL, cL, AV, cV, AE, cE, AN, cN⟩ := p
  have CM := hid (fun W (h : Below w.heap.size w W) => show Calls Try.prog 36 #[.agg #[.int .i64 s.sch, .int .i64 s.dim, .slice AL s.L.length cL, .slice AV s.V.length cV, .int .i64 s.scale, .int .i64 s.wide, .slice AE s.lev.length cE, .slice AN s.neg.length cN]] W fun e w' => e = .returned (.bool (myQ s)) ∧ Below W.heap.size W w' from qp_may s ⟨AL, cL, AV, cV, AE, cE, AN, cN⟩ hn hw W (B := w.heap.size) h.size (ra.below h))
  show Calls Try.prog 20 #[.agg #[.int .i64 s.sch, .int .i64 s.dim, .slice AL s.L.length cL, .slice AV s.V.length cV, .int .i64 s.scale, .int .i64 s.wide, .slice AE s.lev.length cE, .slice AN s.neg.length cN]] w _
  by_cases hm : mayB s = true ∧ s.sch = 2
  · have he : loqE s = 0 := if_pos hm
    have hv : loqV s = loqL s s.lev.length := if_pos he
    rw [he, hv]
    rw [myQ_iff.2 hm] at CM
    obtain ⟨m1, m2, m3, m4⟩ := may_lev hm.1 hm.2
    have m5 : s.dim = (s.lev.length : Int) := by
      have h := of_decide_eq_true (myQ_iff.2 hm)
      have h2 := h.2.2.2.2.2.2.1
      omega
    have hsc := hw.2.2.2.2.1
    have hwd := hw.2.2.2.2.2.1
    have CV := hid (fun (l : Nat) (hl : l < 18446744073709551616) W => qp_Value l s.scale s.wide hl hsc hwd W)
    have HU := hid hw.2.2.2.2.2.2
    have HVL := hid (fun l : Nat => valV_le (l := l) (wide := s.wide) m4)
    have HLO := hid (fun q => show loQ s q = if s.neg.getD q false = true then -(valV (s.lev.getD q 0).toNat s.scale s.wide : Int) else (valV (s.lev.getD q 0).toNat s.scale s.wide : Int) from rfl)
    have RA : Hid (Rd (Value.int .u64) w w.heap.size AE s.lev) := hid ra.2.2.1
    have RN : Hid (Rd Value.bool w w.heap.size AN s.neg) := hid ra.2.2.2
    have hs63 : s.scale ≤ 9223372036854775807 := by unfold I64 at hsc; omega
    have HNL := hid m2
    have H2 := hid hm.2
    have HD := hid m5
    have hmk := fun (n : Nat) (hn : n ≤ 4096) W => run_make_row' (P := Try.prog) 32 2 (.int .i64 0) 8 Try.underlying32 info_i64 rfl .i64 .i64 n (by omega) (by omega) W
    have hmk1 := hmk s.lev.length m1
    obtain ⟨F, hF⟩ : ∃ F, loQ s = F := ⟨_, rfl⟩
    have HF := hid hF
    rw [hF] at HLO
    clear he hv hm ra hn hw m2 m3 hsc hwd m5 hmk hF
    go_enter Try.func20, Try.ntmps20
    go_wp2_with fail
    have B0 := BoxL.new w [.int .i64 s.sch, .int .i64 s.dim, .slice AL s.L.length cL, .slice AV s.V.length cV, .int .i64 s.scale, .int .i64 s.wide, .slice AE s.lev.length cE, .slice AN s.neg.length cN] 37
    refine (CM.out _ (by go_grown)).mono ?_
    rintro _ w1 ⟨rfl, hb⟩
    have HB1 := hid (B0.below hb (by simp))
    have k1 : Below w.heap.size w w1 := Below.trans (by go_grown) (hb.mono (by simp))
    have hg1 : w.heap.size < w1.heap.size := by have := hb.size; simp at this; omega
    have f1 := (HB1.out 1 _ rfl).1
    rw [HD.out] at f1
    have f6 := (HB1.out 6 _ rfl).1
    clear B0 hb CM
    go_wp2_with fail
    clear f1 f6
    go_loopw [5, 6, 16] (fun x5 x6 i wr => ∃ k : Nat, k ≤ s.lev.length ∧ i = .int .i64 k ∧ wr.rowIs w1.heap.size 2 s.lev.length (fun j => .int .i64 (if j < k then F j else 0)) ∧ Below w1.heap.size w1 wr) (fun _ _ i _ => s.lev.length - (intOf i).toNat)
    case atStart => exact ⟨0, by omega, rfl, by simpa using World.rowIs_made w1 (.int .i64 0) s.lev.length _, by go_grown⟩
    case round =>
      clear hmk1
      obtain ⟨k, hk, rfl, hrow, hbr⟩ := hrel
      have HR := hid hrow
      by_cases hlt : k < s.lev.length
      · have kw := k1.trans (hbr.mono k1.size)
        obtain ⟨b1, o1, x, rfl, l1, ex, d1⟩ := (RA.out.below kw).at_ hlt
        obtain ⟨b2, o2, y, rfl, l2, ey, d2⟩ := (RN.out.below kw).at_ (k := k) (by rw [HNL.out]; exact hlt)
        have hltn : k < s.neg.length := by rw [HNL.out]; exact hlt
        obtain ⟨x1, x2⟩ := HU.out.at_ ex
        obtain ⟨l, rfl⟩ := Int.eq_ofNat_of_zero_le x1
        have C := hid (CV.out l (by omega) wr)
        have hvl := HVL.out l
        have hlo := HLO.out k
        rw [getD_of ex, show s.neg.getD k false = y by rw [List.getD_eq_getElem?_getD, ey]; rfl, Int.toNat_natCast] at hlo
        obtain ⟨z, hz⟩ : ∃ z, valV l s.scale s.wide = z := ⟨_, rfl⟩
        rw [hz] at C hvl hlo
        have HLO2 := hid hlo
        have HX := hid (HB1.out.below hbr hg1)
        have f4 := (HX.out 4 _ rfl).1
        have f5 := (HX.out 5 _ rfl).1
        have c3 := hrow.cell hlt
        have f3 := hrow.frozen k
        clear ex ey hlo hz hrow
        go_wp2_with fail
        refine C.out.mono ?_
        rintro _ _ ⟨rfl, m, rfl⟩
        obtain ⟨W1, hW1⟩ : ∃ W1, (wr.drewN m).setCell ⟨w1.heap.size, k, none⟩ (.int .i64 (z : Int)) = W1 := ⟨_, rfl⟩
        have hlw : w1.heap.size < wr.heap.size := by have := HR.out.lt; omega
        have hwl : w.heap.size < wr.heap.size := by omega
        have z0 : Below wr.heap.size wr (wr.drewN m) := belowN _ _ _
        have z1 : Below w1.heap.size wr W1 := by rw [← hW1]; exact (belowN w1.heap.size wr m).setCell (Nat.le_refl _) _
        have f7 := (HX.out.below z1 hg1 7 _ rfl).1
        have d2' : W1.cell? ⟨b2, o2 + k, none⟩ = some (.bool y) := by rw [z1.cell (p := ⟨b2, o2 + k, none⟩) (by show b2 < _; omega)]; exact d2
        have hR1 : W1.rowIs w1.heap.size 2 s.lev.length (fun j => if j = k then .int .i64 (z : Int) else .int .i64 (if j < k then F j else 0)) := by rw [← hW1]; exact (HR.out.of_block (z0.block _ hlw)).set k _
        have r1 := hR1.cell hlt
        rw [if_pos rfl] at r1
        have r2 := hR1.frozen k
        have HR1 := hid hR1
        have HB2 := hid (hbr.trans z1)
        have HLT := hid hlw
        clear HX d2 hR1 z0 z1 hbr HR hlw hwl
        cases y with
        | false =>
          have HL := hid (show F k = (z : Int) from HLO2.out)
          go_wp2_with fail
          go_roundw
          case rel =>
            refine ⟨k + 1, by omega, by go_num, HR1.out.congr fun j hj => ?_, HB2.out⟩
            by_cases e : j = k
            · rw [if_pos e, if_pos (by omega), e, HL.out]
            · by_cases e2 : j < k
              · rw [if_neg e, if_pos e2, if_pos (by omega)]
              · rw [if_neg e, if_neg e2, if_neg (by omega)]
          case measure => simp [intOf]; omega
        | true =>
          have HL := hid (show F k = -(z : Int) from HLO2.out)
          have hwr : IntKind.i64.wrap (-(z : Int)) = -(z : Int) := by rw [IntKind.wrap_i64]; omega
          go_wp2_with fail
          go_roundw
          case rel =>
            refine ⟨k + 1, by omega, by go_num, (HR1.out.set k (.int .i64 (-(z : Int)))).congr fun j hj => ?_, HB2.out.setCell (Nat.le_refl _) _⟩
            by_cases e : j = k
            · rw [if_pos e, if_pos (by omega), e, HL.out]
            · by_cases e2 : j < k
              · rw [if_neg e, if_neg e, if_pos e2, if_pos (by omega)]
              · rw [if_neg e, if_neg e, if_neg e2, if_neg (by omega)]
          case measure => simp [intOf]; omega
      · obtain rfl : k = s.lev.length := by omega
        have kw := k1.trans (hbr.mono k1.size)
        have hfin : OwnE 2 .i64 w.heap.size (loqL s s.lev.length) 0 w (.returned (.tuple #[.slice (some ⟨w1.heap.size, 0, none⟩) s.lev.length s.lev.length, .int .i64 0])) wr := by
          have h3 := own_loq (w' := wr) (s := s) (M := s.lev.length) (B := w.heap.size) (HR.out.congr fun j hj => by rw [if_pos hj, HF.out]) (by omega) m1
          rw [loqL_len] at h3
          exact ⟨some ⟨w1.heap.size, 0, none⟩, s.lev.length, by rw [loqL_len], by rw [loqL_len]; exact h3, kw⟩
        clear HR
        go_wp2_with fail
        go_ret2
        exact hfin
  · have he : loqE s = 1 := if_neg hm
    have hv : loqV s = [] := if_neg (by rw [he]; decide)
    rw [he, hv]
    have hq : myQ s = false := by
      cases h : myQ s with
      | false => rfl
      | true => exact absurd (myQ_iff.1 h) hm
    rw [hq] at CM
    clear he hv hm ra hn hw hq
    go_enter Try.func20, Try.ntmps20
    go_wp2_with fail
    refine (CM.out _ (by go_grown)).mono ?_
    rintro _ w1 ⟨rfl, hb⟩
    have k1 : Below w.heap.size w w1 := Below.trans (by go_grown) (hb.mono (by simp))
    go_wp2_with fail
    go_ret2
    exact .nil k1
end Go.Proofs.Ytbkoapdeglmopaa
/- Near, by the document. -/
namespace Go.Proofs.Ytbkoapdeglmopaa
open Go.RowKit
set_option maxHeartbeats 1000000
set_option maxRecDepth 100000
set_option linter.unusedVariables false
theorem lvlL_le (n scale wide : Int) : lvlL n scale wide ≤ 255 := by
  by_cases h : lvlE n scale wide = 0
  · exact plQ_le (seed := 0) (n := []) (i := 0) h
  · have : lvlL n scale wide = 0 := if_neg h
    omega
theorem lvlR_lt {n scale wide : Int} (hs : scale ≤ 9223372036854775807) : lvlR n scale wide ≤ 9223372036854775807 := by
  unfold lvlR
  split
  · rename_i h
    obtain ⟨a, b, c⟩ := lvlE_ok.1 h
    rcases Nat.eq_zero_or_pos scale.toNat with e | e
    · rw [e, show szN n = 0 by omega, (lvQ_none _).2]; omega
    · have := rsQ_lt (z := szN n) (t := topQ wide) e
      omega
  · omega
theorem near_no {v : List Int} {s : SentV} (h : ¬ (mostE v = 0 ∧ mayB s = true ∧ s.sch = 2 ∧ s.dim = v.length ∧ s.scale = mostV v)) : nearB v s = false := by
  unfold nearB nrHead
  rw [decide_eq_false h]
  rfl
theorem near_in {v : List Int} {s : SentV} (h : mostE v = 0 ∧ mayB s = true ∧ s.sch = 2 ∧ s.dim = v.length ∧ s.scale = mostV v) : nearB v s = nrAll v s v.length := by
  unfold nearB nrHead
  rw [decide_eq_true h]
  rfl
theorem ref_Near10 {A : Option Addr} {c : Nat} (v : List Int) (uv : ∀ x ∈ v, I64 x) (hl : v.length ≤ 9223372036854775807) (s : SentV) (p : SentP) (hn : lnS 100000 s) (hw : wfS s) (w : World) (rv : Rd (Value.int .i64) w w.heap.size A v) (ra : RdS w w.heap.size s p) :
    Calls Try.prog 25 #[.slice A v.length c, encT s p] w fun e w' => e = .returned (.bool (nearB v s)) ∧ Below w.heap.size w w' := by
  obtain ⟨AL, cL, AV, cV, AE, cE, AN, cN⟩ := p
  have CM := hid (fun W (h : Below w.heap.size w W) => show Calls Try.prog 37 #[.agg #[.int .i64 s.sch, .int .i64 s.dim, .slice AL s.L.length cL, .slice AV s.V.length cV, .int .i64 s.scale, .int .i64 s.wide, .slice AE s.lev.length cE, .slice AN s.neg.length cN]] W fun e w' => e = .returned (.bool (mayB s)) ∧ Below W.heap.size W w' from ref_May s ⟨AL, cL, AV, cV, AE, cE, AN, cN⟩ hn hw W (B := w.heap.size) h.size (ra.below h))
  have C2 := hid (fun W (h : Below w.heap.size w W) => rMost_any (A := A) (c := c) v hl uv W (rv.on h))
  show Calls Try.prog 25 #[.slice A v.length c, .agg #[.int .i64 s.sch, .int .i64 s.dim, .slice AL s.L.length cL, .slice AV s.V.length cV, .int .i64 s.scale, .int .i64 s.wide, .slice AE s.lev.length cE, .slice AN s.neg.length cN]] w _
  by_cases he : mostE v = 0
  · rw [he] at C2
    by_cases hm : mayB s = true
    · rw [hm] at CM
      by_cases h2 : s.sch = 2
      · by_cases hd : s.dim = v.length
        · by_cases hsc : s.scale = mostV v
          · rw [near_in ⟨he, hm, h2, hd, hsc⟩]
            have m0 := mostq_ok he
            have hmi := most_i64 v
            obtain ⟨n1, n2, n3, n4⟩ := may_lev hm h2
            have hwd := hw.2.2.2.2.2.1
            have hml := (mayB_iff.1 hm)
            have hdl : (s.lev.length : Int) = s.dim := by
              unfold mayP at hml
              obtain ⟨_, _, h | h | h | h⟩ := hml
              · omega
              · omega
              · exact h.2.2.2.1
              · omega
            have CL := hid (fun x (hx : I64 x) W => ref_Level x (mostV v) s.wide hx hmi hwd W)
            have HU := hid hw.2.2.2.2.2.2
            have UV := hid uv
            have HSN := hid (fun m => nrAll_snoc v s m)
            have HNO := hid (fun m (h : nrOne (v.getD m 0) (mostV v) s.wide (s.lev.getD m 0) (s.neg.getD m false) = false) n (hn : m < n) => nrAll_no (v := v) (s := s) h hn)
            have H0 : Hid (nrAll v s 0 = true) := rfl
            have HLL := hid (fun x => lvlL_le x (mostV v) s.wide)
            have HLR := hid (fun x => lvlR_lt (n := x) (wide := s.wide) m0.2.2.1)
            have HON := hid (fun x lev neg => show nrOne x (mostV v) s.wide lev neg = ((neg == decide (x < 0)) && ((lev == (lvlL x (mostV v) s.wide : Int)) || ((lvlR x (mostV v) s.wide != 0) && (lev == (lvlL x (mostV v) s.wide : Int) + 1)))) from rfl)
            have RV := hid rv
            have RA : Hid (Rd (Value.int .u64) w w.heap.size AE s.lev) := hid ra.2.2.1
            have RN : Hid (Rd Value.bool w w.heap.size AN s.neg) := hid ra.2.2.2
            have HLN := hid (show s.lev.length = v.length by omega)
            have HNN := hid (show s.neg.length = v.length by omega)
            have hv63 : v.length ≤ 4096 := m0.1
            have H2 := hid h2
            have HD := hid hd
            have HSC := hid hsc
            obtain ⟨M, hM⟩ : ∃ M, mostV v = M := ⟨_, rfl⟩
            rw [hM] at C2 CL HNO HLL HLR HON hmi HSC
            have HM := hid hM
            obtain ⟨R, hR⟩ : ∃ R, nrAll v s v.length = R := ⟨_, rfl⟩
            rw [hR]
            have HR := hid hR
            clear he hm h2 hd hsc m0 n1 n2 n3 n4 hwd hml hdl hM hR uv rv ra hn hw
            go_enter Try.func25, Try.ntmps25
            go_wp2_with fail
            have B0 := BoxL.new w [.int .i64 s.sch, .int .i64 s.dim, .slice AL s.L.length cL, .slice AV s.V.length cV, .int .i64 s.scale, .int .i64 s.wide, .slice AE s.lev.length cE, .slice AN s.neg.length cN] 37
            refine (C2.out _ (by go_grown)).mono ?_
            rintro _ w1 ⟨rfl, hb⟩
            have HX := hid (B0.below hb (by simp))
            have k1 : Below w.heap.size w w1 := Below.trans (by go_grown) (hb.mono (by simp))
            clear B0 hb C2
            have hg : w.heap.size < w1.heap.size := HX.out.lt (by simp)
            obtain ⟨⟨g0, g1, g2, g3, g4, g5, g6, g7⟩, _⟩ := HX.out.eight
            go_wp2_with fail
            refine (CM.out _ k1).mono ?_
            rintro _ w2 ⟨rfl, hb2⟩
            clear g0 g1 g2 g3 g4 g5 g6 g7
            have k2 : Below w.heap.size w w2 := k1.trans (hb2.mono k1.size)
            have HY := hid (HX.out.below hb2 hg)
            clear HX CM hb2
            have f0 := (HY.out 0 _ rfl).1
            have f1 := (HY.out 1 _ rfl).1
            have f4 := (HY.out 4 _ rfl).1
            rw [H2.out] at f0
            rw [HD.out] at f1
            rw [HSC.out] at f4
            go_wp2_with fail
            clear f0 f1 f4
            have f5 := (HY.out 5 _ rfl).1
            have f6 := (HY.out 6 _ rfl).1
            have f7 := (HY.out 7 _ rfl).1
            go_loop [44] (fun i => ∃ k : Nat, k ≤ v.length ∧ i = .int .i64 k ∧ nrAll v s k = true) (fun i => v.length - (intOf i).toNat)
            case atStart => exact ⟨0, by omega, rfl, H0.out⟩
            case round =>
              obtain ⟨k, hk, rfl, hall⟩ := hrel
              have HAL := hid hall
              clear hall
              by_cases hlt : k < v.length
              · obtain ⟨b1, o1, x, rfl, l1, ex, d1⟩ := (RV.out.below k2).at_ hlt
                obtain ⟨b2, o2, y, rfl, l2, ey, d2⟩ := (RA.out.below k2).at_ (k := k) (by rw [HLN.out]; exact hlt)
                obtain ⟨b3, o3, z, rfl, l3, ez, d3⟩ := (RN.out.below k2).at_ (k := k) (by rw [HNN.out]; exact hlt)
                have hlt2 : k < s.lev.length := by rw [HLN.out]; exact hlt
                have hlt3 : k < s.neg.length := by rw [HNN.out]; exact hlt
                obtain ⟨y1, y2⟩ := HU.out.at_ ey
                obtain ⟨lv, rfl⟩ := Int.eq_ofNat_of_zero_le y1
                have C := hid (CL.out x (UV.out x (List.mem_of_getElem? ex)) w2)
                have hon := HON.out x lv z
                have hll := HLL.out x
                have hlr := HLR.out x
                have hsn := HSN.out k
                have hno := HNO.out k
                rw [getD_of ex, getD_of ey, show s.neg.getD k false = z by rw [List.getD_eq_getElem?_getD, ez]; rfl] at hsn hno
                rw [HM.out] at hsn
                obtain ⟨l, hl1⟩ : ∃ l, lvlL x M s.wide = l := ⟨_, rfl⟩
                obtain ⟨r, hr1⟩ : ∃ r, lvlR x M s.wide = r := ⟨_, rfl⟩
                obtain ⟨e, he1⟩ : ∃ e, lvlE x M s.wide = e := ⟨_, rfl⟩
                rw [hl1, hr1, he1] at C
                rw [hl1] at hll
                rw [hr1] at hlr
                rw [hl1, hr1] at hon
                have HYES := hid (fun (h : nrOne x M s.wide lv z = true) => show nrAll v s (k + 1) = true by rw [hsn, HAL.out, h]; rfl)
                have HNOK := hid (fun (h : nrOne x M s.wide lv z = false) => show R = false by rw [← HR.out]; exact hno h v.length hlt)
                have HONK := hid hon
                clear hon hsn hno hl1 hr1 he1 ex ey ez
                obtain ⟨l9, hl9⟩ : ∃ l9, l + 1 = l9 := ⟨_, rfl⟩
                have hl2 : (l : Int) + 1 = (l9 : Int) := by omega
                rw [hl2] at HONK
                go_wp2_with fail
                refine C.out.mono ?_
                rintro _ _ ⟨rfl, rfl⟩
                obtain ⟨d, hd⟩ : ∃ d, decide (x < 0) = d := ⟨_, rfl⟩
                rw [hd] at HONK
                by_cases hz : z = d
                · have tz : (z != z) = false := by simp
                  subst hz
                  by_cases ha : lv = l
                  · have HQ := hid (HYES.out (by rw [HONK.out, ha]; simp))
                    have ta : ((lv : Int) == (l : Int)) = true := by rw [ha]; simp
                    have ta2 : ((lv : Int) != (l : Int)) = false := by rw [ha]; simp
                    clear ha
                    go_wp2_with fail
                    go_round
                    case rel => exact ⟨k + 1, by omega, by go_num, HQ.out⟩
                    case measure => simp [intOf]; omega
                  · have ta : ((lv : Int) == (l : Int)) = false := beq_eq_false_iff_ne.2 (by omega)
                    have ta2 : ((lv : Int) != (l : Int)) = true := by simp; omega
                    by_cases hr : r = 0
                    · have HQ := HNOK.out (by rw [HONK.out, hr, ta]; simp)
                      subst hr
                      clear ha HONK HYES HNOK
                      go_wp2_with fail
                      go_ret
                      exact ⟨by first | (simp; done) | (simp [HQ]; done), k2⟩
                    · have tr : ((r : Int) == 0) = false := beq_eq_false_iff_ne.2 (by omega)
                      have tr2 : (r == 0) = false := beq_eq_false_iff_ne.2 hr
                      have tr3 : (r != 0) = true := by simpa using hr
                      by_cases hb : lv = l9
                      · have HQ := hid (HYES.out (by rw [HONK.out, ta, tr3, hb]; simp))
                        have tb : ((lv : Int) == (l9 : Int)) = true := by rw [hb]; simp
                        have tb2 : ((lv : Int) != (l9 : Int)) = false := by rw [hb]; simp
                        clear hb ha hr HONK HYES HNOK
                        go_wp2_with fail
                        go_round
                        case rel => exact ⟨k + 1, by omega, by go_num, HQ.out⟩
                        case measure => simp [intOf]; omega
                      · have tb : ((lv : Int) == (l9 : Int)) = false := beq_eq_false_iff_ne.2 (by omega)
                        have tb2 : ((lv : Int) != (l9 : Int)) = true := by simp; omega
                        have HQ := HNOK.out (by rw [HONK.out, ta, tr3, tb]; simp)
                        clear hb ha hr HONK HYES HNOK
                        go_wp2_with fail
                        go_ret
                        exact ⟨by first | (simp; done) | (simp [HQ]; done), k2⟩
                · have tz : (z != d) = true := by simpa using hz
                  have tz2 : (z == d) = false := by simpa using hz
                  have HQ := HNOK.out (by rw [HONK.out, tz2]; simp)
                  clear hz HONK HYES HNOK
                  go_wp2_with fail
                  go_ret
                  exact ⟨by first | (simp; done) | (simp [HQ]; done), k2⟩
              · obtain rfl : k = v.length := by omega
                have HQ : R = true := by rw [← HR.out]; exact HAL.out
                go_wp2_with fail
                go_ret
                exact ⟨by first | (simp; done) | (simp [HQ]; done), k2⟩
          · rw [near_no (fun h => hsc h.2.2.2.2)]
            have t1 : (s.scale == mostV v) = false := beq_eq_false_iff_ne.2 hsc
            have H2 := hid h2
            have HD := hid hd
            obtain ⟨M, hM⟩ : ∃ M, mostV v = M := ⟨_, rfl⟩
            rw [hM] at C2 t1
            clear he hm h2 hd hsc hM uv rv ra hn hw
            go_enter Try.func25, Try.ntmps25
            go_wp2_with fail
            have B0 := BoxL.new w [.int .i64 s.sch, .int .i64 s.dim, .slice AL s.L.length cL, .slice AV s.V.length cV, .int .i64 s.scale, .int .i64 s.wide, .slice AE s.lev.length cE, .slice AN s.neg.length cN] 37
            refine (C2.out _ (by go_grown)).mono ?_
            rintro _ w1 ⟨rfl, hb⟩
            have HX := hid (B0.below hb (by simp))
            have k1 : Below w.heap.size w w1 := Below.trans (by go_grown) (hb.mono (by simp))
            clear B0 hb C2
            have hg : w.heap.size < w1.heap.size := HX.out.lt (by simp)
            obtain ⟨⟨g0, g1, g2, g3, g4, g5, g6, g7⟩, _⟩ := HX.out.eight
            go_wp2_with fail
            refine (CM.out _ k1).mono ?_
            rintro _ w2 ⟨rfl, hb2⟩
            clear g0 g1 g2 g3 g4 g5 g6 g7
            have k2 : Below w.heap.size w w2 := k1.trans (hb2.mono k1.size)
            have HY := hid (HX.out.below hb2 hg)
            clear HX CM hb2
            have f0 := (HY.out 0 _ rfl).1
            have f1 := (HY.out 1 _ rfl).1
            have f4 := (HY.out 4 _ rfl).1
            rw [H2.out] at f0
            rw [HD.out] at f1
            go_wp2_with fail
            go_ret
            exact ⟨rfl, k2⟩
        · rw [near_no (fun h => hd h.2.2.2.1)]
          have t1 : (s.dim == (v.length : Int)) = false := beq_eq_false_iff_ne.2 hd
          have H2 := hid h2
          obtain ⟨M, hM⟩ : ∃ M, mostV v = M := ⟨_, rfl⟩
          rw [hM] at C2
          clear he hm h2 hd hM uv rv ra hn hw
          go_enter Try.func25, Try.ntmps25
          go_wp2_with fail
          have B0 := BoxL.new w [.int .i64 s.sch, .int .i64 s.dim, .slice AL s.L.length cL, .slice AV s.V.length cV, .int .i64 s.scale, .int .i64 s.wide, .slice AE s.lev.length cE, .slice AN s.neg.length cN] 37
          refine (C2.out _ (by go_grown)).mono ?_
          rintro _ w1 ⟨rfl, hb⟩
          have HX := hid (B0.below hb (by simp))
          have k1 : Below w.heap.size w w1 := Below.trans (by go_grown) (hb.mono (by simp))
          clear B0 hb C2
          have hg : w.heap.size < w1.heap.size := HX.out.lt (by simp)
          obtain ⟨⟨g0, g1, g2, g3, g4, g5, g6, g7⟩, _⟩ := HX.out.eight
          go_wp2_with fail
          refine (CM.out _ k1).mono ?_
          rintro _ w2 ⟨rfl, hb2⟩
          clear g0 g1 g2 g3 g4 g5 g6 g7
          have k2 : Below w.heap.size w w2 := k1.trans (hb2.mono k1.size)
          have HY := hid (HX.out.below hb2 hg)
          clear HX CM hb2
          have f0 := (HY.out 0 _ rfl).1
          have f1 := (HY.out 1 _ rfl).1
          have f4 := (HY.out 4 _ rfl).1
          rw [H2.out] at f0
          go_wp2_with fail
          go_ret
          exact ⟨rfl, k2⟩
      · rw [near_no (fun h => h2 h.2.2.1)]
        have t1 : (s.sch == 2) = false := beq_eq_false_iff_ne.2 h2
        have t1b : (s.sch != 2) = true := by simpa using h2
        obtain ⟨M, hM⟩ : ∃ M, mostV v = M := ⟨_, rfl⟩
        rw [hM] at C2
        clear he hm h2 hM uv rv ra hn hw
        go_enter Try.func25, Try.ntmps25
        go_wp2_with fail
        have B0 := BoxL.new w [.int .i64 s.sch, .int .i64 s.dim, .slice AL s.L.length cL, .slice AV s.V.length cV, .int .i64 s.scale, .int .i64 s.wide, .slice AE s.lev.length cE, .slice AN s.neg.length cN] 37
        refine (C2.out _ (by go_grown)).mono ?_
        rintro _ w1 ⟨rfl, hb⟩
        have HX := hid (B0.below hb (by simp))
        have k1 : Below w.heap.size w w1 := Below.trans (by go_grown) (hb.mono (by simp))
        clear B0 hb C2
        have hg : w.heap.size < w1.heap.size := HX.out.lt (by simp)
        obtain ⟨⟨g0, g1, g2, g3, g4, g5, g6, g7⟩, _⟩ := HX.out.eight
        go_wp2_with fail
        refine (CM.out _ k1).mono ?_
        rintro _ w2 ⟨rfl, hb2⟩
        clear g0 g1 g2 g3 g4 g5 g6 g7
        have k2 : Below w.heap.size w w2 := k1.trans (hb2.mono k1.size)
        have HY := hid (HX.out.below hb2 hg)
        clear HX CM hb2
        have f0 := (HY.out 0 _ rfl).1
        have f1 := (HY.out 1 _ rfl).1
        have f4 := (HY.out 4 _ rfl).1
        go_wp2_with fail
        go_ret
        exact ⟨rfl, k2⟩
    · rw [near_no (fun h => hm h.2.1)]
      have hm2 : mayB s = false := by simpa using hm
      rw [hm2] at CM
      obtain ⟨M, hM⟩ : ∃ M, mostV v = M := ⟨_, rfl⟩
      rw [hM] at C2
      clear he hm hm2 hM uv rv ra hn hw
      go_enter Try.func25, Try.ntmps25
      go_wp2_with fail
      have B0 := BoxL.new w [.int .i64 s.sch, .int .i64 s.dim, .slice AL s.L.length cL, .slice AV s.V.length cV, .int .i64 s.scale, .int .i64 s.wide, .slice AE s.lev.length cE, .slice AN s.neg.length cN] 37
      refine (C2.out _ (by go_grown)).mono ?_
      rintro _ w1 ⟨rfl, hb⟩
      have HX := hid (B0.below hb (by simp))
      have k1 : Below w.heap.size w w1 := Below.trans (by go_grown) (hb.mono (by simp))
      clear B0 hb C2
      have hg : w.heap.size < w1.heap.size := HX.out.lt (by simp)
      obtain ⟨⟨g0, g1, g2, g3, g4, g5, g6, g7⟩, _⟩ := HX.out.eight
      go_wp2_with fail
      refine (CM.out _ k1).mono ?_
      rintro _ w2 ⟨rfl, hb2⟩
      clear g0 g1 g2 g3 g4 g5 g6 g7
      have k2 : Below w.heap.size w w2 := k1.trans (hb2.mono k1.size)
      have HY := hid (HX.out.below hb2 hg)
      clear HX CM hb2
      have f0 := (HY.out 0 _ rfl).1
      have f1 := (HY.out 1 _ rfl).1
      have f4 := (HY.out 4 _ rfl).1
      go_wp2_with fail
      go_ret
      exact ⟨rfl, k2⟩
  · rw [near_no (fun h => he h.1)]
    have t1 : (mostE v == 0) = false := beq_eq_false_iff_ne.2 he
    obtain ⟨M, hM⟩ : ∃ M, mostV v = M := ⟨_, rfl⟩
    obtain ⟨E, hE⟩ : ∃ E, mostE v = E := ⟨_, rfl⟩
    rw [hM, hE] at C2
    rw [hE] at t1
    have t1b : (E != 0) = true := by simpa using t1
    clear he hM hE uv rv ra hn hw CM
    go_enter Try.func25, Try.ntmps25
    go_wp2_with fail
    have B0 := BoxL.new w [.int .i64 s.sch, .int .i64 s.dim, .slice AL s.L.length cL, .slice AV s.V.length cV, .int .i64 s.scale, .int .i64 s.wide, .slice AE s.lev.length cE, .slice AN s.neg.length cN] 37
    refine (C2.out _ (by go_grown)).mono ?_
    rintro _ w1 ⟨rfl, hb⟩
    have HX := hid (B0.below hb (by simp))
    have k1 : Below w.heap.size w w1 := Below.trans (by go_grown) (hb.mono (by simp))
    clear B0 hb C2
    have hg : w.heap.size < w1.heap.size := HX.out.lt (by simp)
    go_wp2_with fail
    go_ret
    exact ⟨rfl, k1⟩
end Go.Proofs.Ytbkoapdeglmopaa
/- Near, by the program. -/
namespace Go.Proofs.Ytbkoapdeglmopaa
open Go.RowKit
set_option maxHeartbeats 1000000
set_option maxRecDepth 100000
set_option linter.unusedVariables false
def allB (P : Nat → Bool) (m : Nat) : Bool := (List.range m).all P
theorem allB_snoc (P : Nat → Bool) (m : Nat) : allB P (m + 1) = (allB P m && P m) := by
  unfold allB
  rw [List.range_succ, List.all_append]
  simp
theorem allB_no {P : Nat → Bool} {m n : Nat} (h : P m = false) (hn : m < n) : allB P n = false := by
  unfold allB
  rw [List.all_eq_false]
  exact ⟨m, List.mem_range.2 hn, by rw [h]; decide⟩
theorem each_any {A : Option Addr} {c : Nat} (K : FuncId) (caps : Array Value) (v : List Int) (hl : v.length ≤ 9223372036854775807) (P : Nat → Bool) (w : World)
   (hK : ∀ (args : Array Value) (W : World), (callFunc K args).run Try.prog W = .ok (.enter K args) W) (ra : Rd (Value.int .i64) w w.heap.size A v)
   (H : ∀ (k : Nat) x, v[k]? = some x → ∀ W, Below w.heap.size w W → Calls Try.prog K (#[.int .i64 (k : Int), .int .i64 x] ++ caps) W fun e w' => e = .returned (.bool (P k)) ∧ Below W.heap.size W w') :
    Calls Try.prog 41 #[.slice A v.length c, .func (.func K) #[] caps] w fun e w' => e = .returned (.bool (allB P v.length)) ∧ Below w.heap.size w w' := by
  have HH := hid H
  have RA := hid ra
  have HS := hid (fun m => allB_snoc P m)
  have HNO := hid (fun m (h : P m = false) n (hn : m < n) => allB_no h hn)
  have H0 : Hid (allB P 0 = true) := rfl
  obtain ⟨R, hR⟩ : ∃ R, allB P v.length = R := ⟨_, rfl⟩
  have HR := hid hR
  rw [hR]
  clear hR H ra
  go_enter Try.func41, Try.ntmps41
  go_wp2_with fail
  go_loopw [5, 6, 9] (fun x5 x6 i wr => ∃ k : Nat, k ≤ v.length ∧ i = .int .i64 k ∧ allB P k = true ∧ Below w.heap.size w wr) (fun _ _ i _ => v.length - (intOf i).toNat)
  case atStart => exact ⟨0, by omega, rfl, H0.out, Below.refl _ _⟩
  case round =>
    obtain ⟨k, hk, rfl, hall, hb⟩ := hrel
    have HAL := hid hall
    clear hall
    by_cases hlt : k < v.length
    · obtain ⟨b1, o1, x, rfl, l1, ex, c1⟩ := (RA.out.below hb).at_ hlt
      have C := hid (HH.out k x ex wr hb)
      have hs := HS.out k
      have hno := HNO.out k
      obtain ⟨d, hd⟩ : ∃ d, P k = d := ⟨_, rfl⟩
      rw [hd] at C hs hno
      have HSK := hid (show allB P (k + 1) = d by rw [hs, HAL.out]; rfl)
      have HN := hid hno
      clear ex hs hno hd
      cases d with
      | true =>
        go_wp2_with fail
        refine C.out.mono ?_
        rintro _ w2 ⟨rfl, hb2⟩
        go_wp2_with fail
        go_roundw
        case rel => exact ⟨k + 1, by omega, by go_num, HSK.out, hb.trans (hb2.mono hb.size)⟩
        case measure => simp [intOf]; omega
      | false =>
        have hF : R = false := by rw [← HR.out]; exact HN.out rfl _ hlt
        subst hF
        go_wp2_with fail
        refine C.out.mono ?_
        rintro _ w2 ⟨rfl, hb2⟩
        go_wp2_with fail
        go_ret
        exact ⟨rfl, hb.trans (hb2.mono hb.size)⟩
    · obtain rfl : k = v.length := by omega
      have hF : R = true := by rw [← HR.out]; exact HAL.out
      subst hF
      go_wp2_with fail
      go_ret
      exact ⟨rfl, hb⟩
set_option maxHeartbeats 4000000 in
theorem near_cl (sch dim scale wide : Int) (nL nV nE nN : Nat) (AL AV AE AN : Option Addr) (cL cV cE cN : Nat) (g : Nat) (hs : I64 scale) (hw : I64 wide) (k : Nat) (hk : k < nE) (hk2 : k < nN) (hk3 : nE ≤ 100000) (hk4 : nN ≤ 100000) (x : Int) (hx : I64 x) (b1 o1 b2 o2 : Nat) (lv : Nat) (hlv : lv < 18446744073709551616) (z : Bool)
    (w : World) (HX : BoxL w g [.int .i64 sch, .int .i64 dim, .slice AL nL cL, .slice AV nV cV, .int .i64 scale, .int .i64 wide, .slice AE nE cE, .slice AN nN cN])
    (hE : AE = some ⟨b1, o1, none⟩) (hN : AN = some ⟨b2, o2, none⟩) (d1 : w.cell? ⟨b1, o1 + k, none⟩ = some (.int .u64 (lv : Int))) (d2 : w.cell? ⟨b2, o2 + k, none⟩ = some (.bool z)) :
    Calls Try.prog 42 (#[.int .i64 (k : Int), .int .i64 x] ++ #[.pointer (some ⟨g, 0, none⟩)]) w fun e w' => e = .returned (.bool (nrOne x scale wide (lv : Int) z)) ∧ Below w.heap.size w w' := by
  subst hE hN
  have hg := HX.lt (by simp)
  have h1 := lt_of_cell d1
  have h2 := lt_of_cell d2
  have C := hid (qp_levelOf x scale wide hx hs hw w)
  have hll := lvlL_le x scale wide
  have HON := hid (show nrOne x scale wide (lv : Int) z = ((z == decide (x < 0)) && (((lv : Int) == (lvlL x scale wide : Int)) || ((lvlR x scale wide != 0) && ((lv : Int) == (lvlL x scale wide : Int) + 1)))) from rfl)
  obtain ⟨l, hl1⟩ : ∃ l, lvlL x scale wide = l := ⟨_, rfl⟩
  obtain ⟨r, hr1⟩ : ∃ r, lvlR x scale wide = r := ⟨_, rfl⟩
  rw [hl1, hr1] at C HON
  rw [hl1] at hll
  obtain ⟨l9, hl9⟩ : ∃ l9, l + 1 = l9 := ⟨_, rfl⟩
  have hl2 : (l : Int) + 1 = (l9 : Int) := by omega
  rw [hl2] at HON
  obtain ⟨R, hR⟩ : ∃ R, nrOne x scale wide (lv : Int) z = R := ⟨_, rfl⟩
  rw [hR] at HON
  rw [hR]
  obtain ⟨d, hd⟩ : ∃ d, decide (x < 0) = d := ⟨_, rfl⟩
  rw [hd] at HON
  have HB := hid HX
  have f4 := (HX 4 _ rfl).1
  have f5 := (HX 5 _ rfl).1
  have hid1 : k < b1 + k + 1 := by omega
  clear HX hl1 hr1 hR
  go_enter Try.func42, Try.ntmps42
  go_wp2_with fail
  refine C.out.mono ?_
  rintro _ w2 ⟨rfl, hb2⟩
  have HY := hid (HB.out.below hb2 hg)
  have D1 : w2.cell? ⟨b1, o1 + k, none⟩ = some (.int .u64 (lv : Int)) := by rw [hb2.cell (p := ⟨b1, o1 + k, none⟩) h1]; exact d1
  have D2 : w2.cell? ⟨b2, o2 + k, none⟩ = some (.bool z) := by rw [hb2.cell (p := ⟨b2, o2 + k, none⟩) h2]; exact d2
  have f6 := (HY.out 6 _ rfl).1
  have f7 := (HY.out 7 _ rfl).1
  clear f4 f5 d1 d2 HB h1 h2 hid1
  by_cases hz : z = d
  · have tz : (z == z) = true := by simp
    subst hz
    by_cases ha : lv = l
    · have ta : ((lv : Int) == (l : Int)) = true := by rw [ha]; simp
      have hF : R = true := by rw [HON.out, ta]; simp
      subst hF
      clear ha HON
      go_wp2_with fail
      go_ret
      exact ⟨rfl, hb2⟩
    · have ta : ((lv : Int) == (l : Int)) = false := beq_eq_false_iff_ne.2 (by omega)
      by_cases hr : r = 0
      · have hF : R = false := by rw [HON.out, ta, hr]; simp
        subst hr hF
        clear ha HON
        go_wp2_with fail
        go_ret
        exact ⟨rfl, hb2⟩
      · have tr : ((r : Int) == 0) = false := beq_eq_false_iff_ne.2 (by omega)
        have tr2 : ((r : Int) != 0) = true := by simpa using hr
        have tr3 : (r != 0) = true := by simpa using hr
        obtain ⟨q, hq⟩ : ∃ q, ((lv : Int) == (l9 : Int)) = q := ⟨_, rfl⟩
        have hF : R = q := by rw [HON.out, ta, tr3, hq]; simp
        subst hF
        clear ha HON hr
        go_wp2_with fail
        go_ret
        exact ⟨by simp, hb2⟩
  · have tz : (z == d) = false := by simpa using hz
    have hF : R = false := by rw [HON.out, tz]; simp
    subst hF
    clear hz HON
    go_wp2_with fail
    go_ret
    exact ⟨rfl, hb2⟩
set_option maxHeartbeats 4000000 in
theorem qp_Near {A : Option Addr} {c : Nat} (v : List Int) (uv : ∀ x ∈ v, I64 x) (hl : v.length ≤ 9223372036854775807) (s : SentV) (p : SentP) (hn : lnS 100000 s) (hw : wfS s) (w : World) (rv : Rd (Value.int .i64) w w.heap.size A v) (ra : RdS w w.heap.size s p) :
    Calls Try.prog 24 #[.slice A v.length c, encT s p] w fun e w' => e = .returned (.bool (nearB v s)) ∧ Below w.heap.size w w' := by
  obtain ⟨AL, cL, AV, cV, AE, cE, AN, cN⟩ := p
  have CM := hid (fun W (h : Below w.heap.size w W) => show Calls Try.prog 36 #[.agg #[.int .i64 s.sch, .int .i64 s.dim, .slice AL s.L.length cL, .slice AV s.V.length cV, .int .i64 s.scale, .int .i64 s.wide, .slice AE s.lev.length cE, .slice AN s.neg.length cN]] W fun e w' => e = .returned (.bool (myQ s)) ∧ Below W.heap.size W w' from qp_may s ⟨AL, cL, AV, cV, AE, cE, AN, cN⟩ hn hw W (B := w.heap.size) h.size (ra.below h))
  have C2 := hid (fun W (h : Below w.heap.size w W) => Most_any (A := A) (c := c) v hl uv W (rv.on h))
  show Calls Try.prog 24 #[.slice A v.length c, .agg #[.int .i64 s.sch, .int .i64 s.dim, .slice AL s.L.length cL, .slice AV s.V.length cV, .int .i64 s.scale, .int .i64 s.wide, .slice AE s.lev.length cE, .slice AN s.neg.length cN]] w _
  by_cases hm : mayB s = true ∧ s.sch = 2
  · rw [myQ_iff.2 hm] at CM
    by_cases hd : s.dim = v.length
    · have HD := hid hd
      by_cases he : mostE v = 0
      · rw [he] at C2
        by_cases hsc : s.scale = mostV v
        · rw [near_in ⟨he, hm.1, hm.2, hd, hsc⟩]
          obtain ⟨m1, m2, m3, m4⟩ := may_lev hm.1 hm.2
          have m5 : s.dim = (s.lev.length : Int) := by
            have h := of_decide_eq_true (myQ_iff.2 hm)
            have h2 := h.2.2.2.2.2.2.1
            omega
          have hlE : s.lev.length = v.length := by omega
          have hlN : s.neg.length = v.length := by omega
          have CE := hid (fun W (h : Below w.heap.size w W) (hX : BoxL W w.heap.size [.int .i64 s.sch, .int .i64 s.dim, .slice AL s.L.length cL, .slice AV s.V.length cV, .int .i64 s.scale, .int .i64 s.wide, .slice AE s.lev.length cE, .slice AN s.neg.length cN]) => show Calls Try.prog 41 #[.slice A v.length c, .func (.func 42) #[] #[.pointer (some ⟨w.heap.size, 0, none⟩)]] W fun e w' => e = .returned (.bool (nrAll v s v.length)) ∧ Below W.heap.size W w' from by
            refine each_any (A := A) (c := c) 42 #[.pointer (some ⟨w.heap.size, 0, none⟩)] v hl (fun k => nrOne (v.getD k 0) (mostV v) s.wide (s.lev.getD k 0) (s.neg.getD k false)) W (cl_enter 42 (by kernel_rfl)) (rv.on h) (fun k x hx W2 h2 => ?_)
            have hk := (List.getElem?_eq_some_iff.1 hx).1
            have kw := h.trans (h2.mono h.size)
            obtain ⟨b1, o1, y, e1, l1, ey, d1⟩ := (ra.2.2.1.below kw).at_ (k := k) (by omega)
            obtain ⟨b2, o2, z, e2, l2, ez, d2⟩ := (ra.2.2.2.below kw).at_ (k := k) (by omega)
            obtain ⟨y1, y2⟩ := hw.2.2.2.2.2.2.at_ ey
            obtain ⟨lv, rfl⟩ := Int.eq_ofNat_of_zero_le y1
            rw [getD_of hx, getD_of ey, show s.neg.getD k false = z by rw [List.getD_eq_getElem?_getD, ez]; rfl, ← hsc]
            exact near_cl s.sch s.dim s.scale s.wide s.L.length s.V.length s.lev.length s.neg.length AL AV AE AN cL cV cE cN w.heap.size hw.2.2.2.2.1 hw.2.2.2.2.2.1 k (by omega) (by omega) (by omega) (by omega) x (uv x (List.mem_of_getElem? hx)) b1 o1 b2 o2 lv (by omega) z W2 (hX.below h2 (hX.lt (by simp))) e1 e2 d1 d2)
          obtain ⟨R, hR⟩ : ∃ R, nrAll v s v.length = R := ⟨_, rfl⟩
          rw [hR] at CE
          rw [hR]
          obtain ⟨M, hM⟩ : ∃ M, mostV v = M := ⟨_, rfl⟩
          rw [hM] at C2 hsc
          have HSC := hid hsc
          clear he hm hd hsc m1 m2 m3 m4 m5 hlE hlN hM hR uv rv ra hn hw
          go_enter Try.func24, Try.ntmps24
          go_wp2_with fail
          have B0 := BoxL.new w [.int .i64 s.sch, .int .i64 s.dim, .slice AL s.L.length cL, .slice AV s.V.length cV, .int .i64 s.scale, .int .i64 s.wide, .slice AE s.lev.length cE, .slice AN s.neg.length cN] 37
          refine (CM.out _ (by go_grown)).mono ?_
          rintro _ w1 ⟨rfl, hb⟩
          have HX := hid (B0.below hb (by simp))
          have k1 : Below w.heap.size w w1 := Below.trans (by go_grown) (hb.mono (by simp))
          clear B0 hb CM
          have f1 := (HX.out 1 _ rfl).1
          rw [HD.out] at f1
          go_wp2_with fail
          refine (C2.out _ k1).mono ?_
          rintro _ w2 ⟨rfl, hb2⟩
          have k2 : Below w.heap.size w w2 := k1.trans (hb2.mono k1.size)
          have HY := hid (HX.out.below hb2 (HX.out.lt (by simp)))
          have f4 := (HY.out 4 _ rfl).1
          clear f1 HX hb2 k1
          rw [HSC.out] at f4
          go_wp2_with fail
          refine (CE.out _ k2 HY.out).mono ?_
          rintro _ w3 ⟨rfl, hb3⟩
          go_wp2_with fail
          go_ret
          exact ⟨rfl, k2.trans (hb3.mono k2.size)⟩
        · rw [near_no (fun h => hsc h.2.2.2.2)]
          have t1 : (mostV v != s.scale) = true := by simpa using fun h => hsc h.symm
          obtain ⟨M, hM⟩ : ∃ M, mostV v = M := ⟨_, rfl⟩
          rw [hM] at C2 t1
          clear he hm hd hsc hM uv rv ra hn hw
          go_enter Try.func24, Try.ntmps24
          go_wp2_with fail
          have B0 := BoxL.new w [.int .i64 s.sch, .int .i64 s.dim, .slice AL s.L.length cL, .slice AV s.V.length cV, .int .i64 s.scale, .int .i64 s.wide, .slice AE s.lev.length cE, .slice AN s.neg.length cN] 37
          refine (CM.out _ (by go_grown)).mono ?_
          rintro _ w1 ⟨rfl, hb⟩
          have HX := hid (B0.below hb (by simp))
          have k1 : Below w.heap.size w w1 := Below.trans (by go_grown) (hb.mono (by simp))
          clear B0 hb CM
          have f1 := (HX.out 1 _ rfl).1
          rw [HD.out] at f1
          go_wp2_with fail
          refine (C2.out _ k1).mono ?_
          rintro _ w2 ⟨rfl, hb2⟩
          have k2 : Below w.heap.size w w2 := k1.trans (hb2.mono k1.size)
          have HY := hid (HX.out.below hb2 (HX.out.lt (by simp)))
          have f4 := (HY.out 4 _ rfl).1
          clear f1 HX hb2 k1
          go_wp2_with fail
          go_ret
          exact ⟨rfl, k2⟩
      · rw [near_no (fun h => he h.1)]
        obtain ⟨M, hM⟩ : ∃ M, mostV v = M := ⟨_, rfl⟩
        obtain ⟨E, hE⟩ : ∃ E, mostE v = E := ⟨_, rfl⟩
        rw [hM, hE] at C2
        rw [hE] at he
        have t1b : (E != 0) = true := by simpa using he
        clear he hm hd hM hE uv rv ra hn hw
        go_enter Try.func24, Try.ntmps24
        go_wp2_with fail
        have B0 := BoxL.new w [.int .i64 s.sch, .int .i64 s.dim, .slice AL s.L.length cL, .slice AV s.V.length cV, .int .i64 s.scale, .int .i64 s.wide, .slice AE s.lev.length cE, .slice AN s.neg.length cN] 37
        refine (CM.out _ (by go_grown)).mono ?_
        rintro _ w1 ⟨rfl, hb⟩
        have HX := hid (B0.below hb (by simp))
        have k1 : Below w.heap.size w w1 := Below.trans (by go_grown) (hb.mono (by simp))
        clear B0 hb CM
        have f1 := (HX.out 1 _ rfl).1
        rw [HD.out] at f1
        go_wp2_with fail
        refine (C2.out _ k1).mono ?_
        rintro _ w2 ⟨rfl, hb2⟩
        have k2 : Below w.heap.size w w2 := k1.trans (hb2.mono k1.size)
        have HY := hid (HX.out.below hb2 (HX.out.lt (by simp)))
        have f4 := (HY.out 4 _ rfl).1
        clear f1 HX hb2 k1
        go_wp2_with fail
        go_ret
        exact ⟨rfl, k2⟩
    · rw [near_no (fun h => hd h.2.2.2.1)]
      have t1 : (s.dim != (v.length : Int)) = true := by simpa using hd
      clear hd hm uv rv ra hn hw C2
      go_enter Try.func24, Try.ntmps24
      go_wp2_with fail
      have B0 := BoxL.new w [.int .i64 s.sch, .int .i64 s.dim, .slice AL s.L.length cL, .slice AV s.V.length cV, .int .i64 s.scale, .int .i64 s.wide, .slice AE s.lev.length cE, .slice AN s.neg.length cN] 37
      refine (CM.out _ (by go_grown)).mono ?_
      rintro _ w1 ⟨rfl, hb⟩
      have HX := hid (B0.below hb (by simp))
      have k1 : Below w.heap.size w w1 := Below.trans (by go_grown) (hb.mono (by simp))
      clear B0 hb CM
      have f1 := (HX.out 1 _ rfl).1
      go_wp2_with fail
      go_ret
      exact ⟨rfl, k1⟩
  · rw [near_no (fun h => hm ⟨h.2.1, h.2.2.1⟩)]
    have hq : myQ s = false := by
      cases h : myQ s with
      | false => rfl
      | true => exact absurd (myQ_iff.1 h) hm
    rw [hq] at CM
    clear hm hq uv rv ra hn hw C2
    go_enter Try.func24, Try.ntmps24
    go_wp2_with fail
    have B0 := BoxL.new w [.int .i64 s.sch, .int .i64 s.dim, .slice AL s.L.length cL, .slice AV s.V.length cV, .int .i64 s.scale, .int .i64 s.wide, .slice AE s.lev.length cE, .slice AN s.neg.length cN] 37
    refine (CM.out _ (by go_grown)).mono ?_
    rintro _ w1 ⟨rfl, hb⟩
    have HX := hid (B0.below hb (by simp))
    have k1 : Below w.heap.size w w1 := Below.trans (by go_grown) (hb.mono (by simp))
    clear B0 hb CM
    go_wp2_with fail
    go_ret
    exact ⟨rfl, k1⟩
end Go.Proofs.Ytbkoapdeglmopaa
/- Whether a frame may be, and is the same; an acknowledgement: by the document. -/
namespace Go.Proofs.Ytbkoapdeglmopaa
open Go.RowKit
set_option maxHeartbeats 400000
set_option maxRecDepth 100000
set_option linter.unusedVariables false
abbrev encF (f : FrameV) (p : SentP) : Value := .agg #[.int .i64 f.knd, .int .i64 f.frm, .int .i64 f.stp, .int .i64 f.S.sch, .int .i64 f.S.dim, .slice p.AL f.S.L.length p.cL, .slice p.AV f.S.V.length p.cV, .int .i64 f.S.scale, .int .i64 f.S.wide, .slice p.AE f.S.lev.length p.cE, .slice p.AN f.S.neg.length p.cN]
end Go.Proofs.Ytbkoapdeglmopaa
/- An argument that is a frame, opened. -/
namespace Go.Proofs.Ytbkoapdeglmopaa
open Go.ChangeShapes Go.WideShapes Go.ChangeAt Go.RowKit
set_option maxRecDepth 100000
set_option linter.unusedVariables false
theorem cellsOf_int : Try.prog.cellsOf 3 = 1 := by kernel_rfl
theorem cellsOf_i64 : Try.prog.cellsOf 2 = 1 := by kernel_rfl
theorem cellsOf_u64 : Try.prog.cellsOf 22 = 1 := by kernel_rfl
theorem cellsOf_ints : Try.prog.cellsOf 33 = 1 := by kernel_rfl
theorem cellsOf_i64s : Try.prog.cellsOf 32 = 1 := by kernel_rfl
theorem cellsOf_u64s : Try.prog.cellsOf 34 = 1 := by kernel_rfl
theorem cellsOf_bools : Try.prog.cellsOf 35 = 1 := by kernel_rfl
theorem cellsOf_sent : Try.prog.cellsOf 37 = 8 := by kernel_rfl
section
variable {H : Type} {enc : TypeId × Value → H} {P : Program} {W : World}
theorem cell_nums {k : IntKind} {t e : TypeId} {cs : List Value} {fuel : Nat} {x : DataW H × List MemPlace} (ht : P.underlying t = some (.slice e)) (he : P.underlying e = some (.int k)) (hc : P.cellsOf e = 1)
    (hf : DataW.trod enc P W 0 (fun _ => true) true fuel t cs = some x) :
    ∃ A xs c, cs = [.slice A xs.length c] ∧ Rd (Value.int k) W W.heap.size A xs ∧ (∀ x ∈ xs, (Lit.int k x).wf = true) ∧ xs.length ≤ c ∧ c ≤ 9223372036854775807 := by
  rcases open_ints ht he hc hf with ⟨rfl, _⟩ | ⟨a, len, cap, zs, rfl, _, hl, hm, hz, _, hcell, hwz⟩
  · exact ⟨none, [], 0, rfl, Rd.none_, by intro x hx; simp at hx, by simp, by omega⟩
  · simp only [if_true] at hz
    have hlen : (zs.take len).length = len := by rw [List.length_take]; omega
    refine ⟨some a, zs.take len, cap, by rw [hlen], nums_rd rfl fun i hi => hcell i (by omega), fun x hx => hwz x (List.mem_of_mem_take hx), by omega, by unfold maxLen at hm; omega⟩
theorem cell_bls {t e : TypeId} {cs : List Value} {fuel : Nat} {x : DataW H × List MemPlace} (ht : P.underlying t = some (.slice e)) (he : P.underlying e = some .bool) (hc : P.cellsOf e = 1)
    (hf : DataW.trod enc P W 0 (fun _ => true) true fuel t cs = some x) :
    ∃ A xs c, cs = [.slice A xs.length c] ∧ Rd Value.bool W W.heap.size A xs ∧ xs.length ≤ c ∧ c ≤ 9223372036854775807 := by
  rcases Deep.open_bools ht he hc hf with ⟨rfl, _⟩ | ⟨a, len, cap, B, rfl, _, hl, hm, _, hcell⟩
  · exact ⟨none, [], 0, rfl, Rd.none_, by simp, by omega⟩
  · have hlen : ((List.range len).map B).length = len := by simp
    exact ⟨some a, (List.range len).map B, cap, by rw [hlen], bools_rd fun i hi => hcell i (by omega), by omega, by unfold maxLen at hm; omega⟩
/-- What bounds a vector that came in. -/
def capS (s : SentV) (p : SentP) : Prop := (s.L.length ≤ p.cL ∧ p.cL ≤ 9223372036854775807) ∧ (s.V.length ≤ p.cV ∧ p.cV ≤ 9223372036854775807) ∧ (s.lev.length ≤ p.cE ∧ p.cE ≤ 9223372036854775807) ∧ (s.neg.length ≤ p.cN ∧ p.cN ≤ 9223372036854775807)
theorem cell_sent {c0 c1 c2 c3 c4 c5 c6 c7 : Value} {fuel : Nat} {x : DataW H × List MemPlace}
    (hf : DataW.trod enc Try.prog W 0 (fun _ => true) true fuel 37 [c0, c1, c2, c3, c4, c5, c6, c7] = some x) :
    ∃ s p, [c0, c1, c2, c3, c4, c5, c6, c7] = [.int .i64 s.sch, .int .i64 s.dim, .slice p.AL s.L.length p.cL, .slice p.AV s.V.length p.cV, .int .i64 s.scale, .int .i64 s.wide, .slice p.AE s.lev.length p.cE, .slice p.AN s.neg.length p.cN] ∧ RdS W W.heap.size s p ∧ wfS s ∧ capS s p := by
  obtain ⟨xs, n, _, _, _, hlen, hg⟩ := DataW.trod_struct Try.underlying37 hf
  have h0 := hg 0 _ rfl
  have h1 := hg 1 _ rfl
  have h2 := hg 2 _ rfl
  have h3 := hg 3 _ rfl
  have h4 := hg 4 _ rfl
  have h5 := hg 5 _ rfl
  have h6 := hg 6 _ rfl
  have h7 := hg 7 _ rfl
  have hlen8 : xs.length = 8 := hlen
  obtain ⟨x0, x1, x2, x3, x4, x5, x6, x7, rfl⟩ : ∃ x0 x1 x2 x3 x4 x5 x6 x7, xs = [x0, x1, x2, x3, x4, x5, x6, x7] := by
    match xs, hlen8 with
    | [x0, x1, x2, x3, x4, x5, x6, x7], _ => exact ⟨x0, x1, x2, x3, x4, x5, x6, x7, rfl⟩
  simp [cellsOf_int] at h0
  simp [cellsOf_int] at h1
  simp [cellsOf_ints] at h2
  simp [cellsOf_i64s] at h3
  simp [cellsOf_i64] at h4
  simp [cellsOf_int] at h5
  simp [cellsOf_u64s] at h6
  simp [cellsOf_bools] at h7
  obtain ⟨sch, e0, _, w0⟩ := DataW.trod_int Try.underlying3 h0
  obtain ⟨dim, e1, _, w1⟩ := DataW.trod_int Try.underlying3 h1
  obtain ⟨AL, L, cL, e2, r2, w2, l2, m2⟩ := cell_nums Try.underlying33 Try.underlying3 cellsOf_int h2
  obtain ⟨AV, V, cV, e3, r3, w3, l3, m3⟩ := cell_nums Try.underlying32 Try.underlying2 cellsOf_i64 h3
  obtain ⟨scale, e4, _, w4⟩ := DataW.trod_int Try.underlying2 h4
  obtain ⟨wide, e5, _, w5⟩ := DataW.trod_int Try.underlying3 h5
  obtain ⟨AE, lev, cE, e6, r6, w6, l6, m6⟩ := cell_nums Try.underlying34 Try.underlying22 cellsOf_u64 h6
  obtain ⟨AN, neg, cN, e7, r7, l7, m7⟩ := cell_bls Try.underlying35 Try.underlying4 cells_bool h7
  simp only [List.cons.injEq, and_true] at e0 e1 e2 e3 e4 e5 e6 e7
  subst e0 e1 e2 e3 e4 e5 e6 e7
  exact ⟨⟨sch, dim, L, V, scale, wide, lev, neg⟩, ⟨AL, cL, AV, cV, AE, cE, AN, cN⟩, rfl, ⟨r2, r3, r6, r7⟩,
    ⟨I64.of_wf w0, I64.of_wf w1, fun x hx => I64.of_wf (w2 x hx), fun x hx => I64.of_wf (w3 x hx), I64.of_wf w4, I64.of_wf w5, fun x hx => U64.of_wf (w6 x hx)⟩, ⟨l2, m2⟩, ⟨l3, m3⟩, ⟨l6, m6⟩, ⟨l7, m7⟩⟩
theorem list11 {cs : List Value} (h : cs.length = 11) : ∃ a b c d e f g i j k l, cs = [a, b, c, d, e, f, g, i, j, k, l] := by
  match cs, h with
  | [a, b, c, d, e, f, g, i, j, k, l], _ => exact ⟨a, b, c, d, e, f, g, i, j, k, l, rfl⟩
end
end Go.Proofs.Ytbkoapdeglmopaa
/- An argument that is a pressed vector. -/
namespace Go.Proofs.Ytbkoapdeglmopaa
open Go.RowKit Go.ChangeShapes Go.WideShapes
set_option maxRecDepth 100000
set_option linter.unusedVariables false
section
variable {H : Type} {enc : TypeId × Value → H} {W : World}
theorem list8 {cs : List Value} (h : cs.length = 8) : ∃ a b c d e f g i, cs = [a, b, c, d, e, f, g, i] := by
  match cs, h with
  | [a, b, c, d, e, f, g, i], _ => exact ⟨a, b, c, d, e, f, g, i, rfl⟩
theorem open_sent {r : Reach} {v : Value} {d : DataW H} {ps : List MemPlace} {b0 : Nat}
    (hval : Value.okWide Try.prog W r b0 37 v) (hd : DataW.Trod enc Try.prog W 0 (fun _ => true) true 37 v d ps) :
    ∃ s p, v = encT s p ∧ RdS W W.heap.size s p ∧ wfS s ∧ capS s p := by
  obtain ⟨cs, rfl, hs⟩ := okWide_struct Try.underlying37 hval
  obtain ⟨fuel, hf⟩ := hd
  rw [cellsOf_sent] at hs
  obtain ⟨cs⟩ := cs
  obtain ⟨c0, c1, c2, c3, c4, c5, c6, c7, rfl⟩ := list8 (by simpa using hs)
  have hf' : DataW.trod enc Try.prog W 0 (fun _ => true) true fuel 37 [c0, c1, c2, c3, c4, c5, c6, c7] = some (d, ps) := by simpa [Value.cells] using hf
  obtain ⟨s, p, e, hr, hw, hc⟩ := cell_sent hf'
  simp only [List.cons.injEq, and_true] at e
  obtain ⟨e0, e1, e2, e3, e4, e5, e6, e7⟩ := e
  subst e0 e1 e2 e3 e4 e5 e6 e7
  exact ⟨s, p, rfl, hr, hw, hc⟩
end
end Go.Proofs.Ytbkoapdeglmopaa
