
/- Ng: texts joined: SgB SpA SpB SpC SgP SgLv FrD ArgF ArgT. -/
import Derived.Test.YtkcckncglbjjdaaNd
import Derived.Test.YtkcckncglbjjdaaNFrC
import Derived.Test.YtkcckncglbjjdaaNb
import Derived.Test.YtkcckncglbjjdaaNa
import Derived.Deep.RegionHeld3
import Derived.Test.YtkcckncglbjjdaaNe
import Derived.ChangeSame
/- Loosened; whether one is pressed so: by the document. -/
namespace Go.Proofs.Ytkcckncglbjjdaa
open Go.RowKit
set_option maxHeartbeats 1000000
set_option maxRecDepth 100000
set_option linter.unusedVariables false
theorem may_sg {s : SentV} (hm : mayB s = true) (h3 : s.sch = 3) : s.neg.length ≤ 4096 ∧ 0 ≤ s.scale ∧ s.dim = (s.neg.length : Int) ∧ s.L = [] ∧ s.V = [] ∧ s.wide = 0 ∧ s.lev = [] := by
  have h := mayB_iff.1 hm
  unfold mayP at h
  obtain ⟨a, b, h⟩ := h
  rcases h with h | h | h | ⟨_, c, d, e, f, g, i⟩
  · omega
  · omega
  · omega
  · exact ⟨by omega, g, by omega, c, d, e, f⟩
theorem ref_Loosen11 (s : SentV) (p : SentP) (hn : lnS 100000 s) (hw : wfS s) (w : World) (ra : RdS w w.heap.size s p) :
    Calls Try.prog 17 #[encT s p] w (OwnE 2 .i64 w.heap.size (lsgV s) (lsgE s) w) := by
  obtain ⟨AL, cL, AV, cV, AE, cE, AN, cN⟩ := p
  have CM := hid (fun W (h : Below w.heap.size w W) => show Calls Try.prog 35 #[.agg #[.int .i64 s.sch, .int .i64 s.dim, .slice AL s.L.length cL, .slice AV s.V.length cV, .int .i64 s.scale, .int .i64 s.wide, .slice AE s.lev.length cE, .slice AN s.neg.length cN]] W fun e w' => e = .returned (.bool (mayB s)) ∧ Below W.heap.size W w' from ref_May s ⟨AL, cL, AV, cV, AE, cE, AN, cN⟩ hn hw W (B := w.heap.size) h.size (ra.below h))
  show Calls Try.prog 17 #[.agg #[.int .i64 s.sch, .int .i64 s.dim, .slice AL s.L.length cL, .slice AV s.V.length cV, .int .i64 s.scale, .int .i64 s.wide, .slice AE s.lev.length cE, .slice AN s.neg.length cN]] w _
  by_cases hm : mayB s = true
  · rw [hm] at CM
    by_cases h2 : s.sch = 3
    · have he : lsgE s = 0 := if_pos ⟨hm, h2⟩
      have hv : lsgV s = lsgL s.scale s.neg := if_pos he
      rw [he, hv]
      obtain ⟨m1, m2, m3, m4, m5, m6, m7⟩ := may_sg hm h2
      have hsc := hw.2.2.2.2.1
      have HSL := hid (fun (q : Nat) (b : Bool) (hb : s.neg[q]? = some b) => lsgL_snoc (scale := s.scale) hb)
      have HLE := hid (show lsgL s.scale (s.neg.take s.neg.length) = lsgL s.scale s.neg by rw [List.take_length])
      have HLL := hid (fun q => show (lsgL s.scale (s.neg.take q)).length ≤ s.neg.length by unfold lsgL; rw [List.length_map, List.length_take]; omega)
      have H0 : Hid (lsgL s.scale (s.neg.take 0) = []) := rfl
      have RN : Hid (Rd Value.bool w w.heap.size AN s.neg) := hid ra.2.2.2
      have hs63 : s.scale ≤ 9223372036854775807 := by unfold I64 at hsc; omega
      have H2 := hid h2
      obtain ⟨Z, hZ⟩ : ∃ Z, -s.scale = Z := ⟨_, rfl⟩
      have hneg : IntKind.i64.wrap (-s.scale) = Z := by rw [IntKind.wrap_i64]; omega
      have hneg2 : wrap64 (-s.scale) = Z := by rw [wrap64_eq]; omega
      have HZ := hid hZ
      clear he hv hm ra hn hw hsc h2 hZ m3 m4 m5 m6 m7
      go_enter Try.func17, Try.ntmps17
      go_wp2_with fail
      have B0 := BoxL.new w [.int .i64 s.sch, .int .i64 s.dim, .slice AL s.L.length cL, .slice AV s.V.length cV, .int .i64 s.scale, .int .i64 s.wide, .slice AE s.lev.length cE, .slice AN s.neg.length cN] 27
      refine (CM.out _ (by go_grown)).mono ?_
      rintro _ w1 ⟨rfl, hb⟩
      have HB1 := hid (B0.below hb (by simp))
      have k1 : Below w.heap.size w w1 := Below.trans (by go_grown) (hb.mono (by simp))
      have hg1 : w.heap.size < w1.heap.size := by have := hb.size; simp at this; omega
      have f0 := (HB1.out 0 _ rfl).1
      rw [H2.out] at f0
      have f7 := (HB1.out 7 _ rfl).1
      clear B0 hb CM
      go_wp2_with fail
      clear f0 f7
      go_loopw [4, 6, 18] (fun o x6 i wr => ∃ (k : Nat) (S : List Int) (A2 : Option Addr) (c2 : Nat), k ≤ s.neg.length ∧ i = .int .i64 k ∧ o = .slice A2 S.length c2 ∧ S = lsgL s.scale (s.neg.take k) ∧ wr.ownsRow w1.heap.size 2 1 (.slice A2 S.length c2) S.length (S.map (Value.int .i64)) ∧ Below w1.heap.size w1 wr) (fun _ _ i _ => s.neg.length - (intOf i).toNat)
      case atStart => exact ⟨0, [], none, 0, by omega, rfl, rfl, H0.out.symm, own_nil _ _ _, Below.refl _ _⟩
      case round =>
        obtain ⟨k, S, A2, c2, hk, rfl, rfl, hS, hown, hbr⟩ := hrel
        have HS := hid hS
        have HO := hid hown
        have lS : S.length ≤ 4096 := by have := HLL.out k; rw [hS]; omega
        clear hS hown
        by_cases hlt : k < s.neg.length
        · have kw := k1.trans (hbr.mono k1.size)
          obtain ⟨b2, o2, y, rfl, l2, ey, d2⟩ := (RN.out.below kw).at_ hlt
          have HSK := hid (HSL.out k y ey)
          have HBr := HB1.out.below hbr hg1
          have f4 := (HBr 4 _ rfl).1
          clear ey HBr
          cases y with
          | false =>
            have g1 := own_on HO.out ((Below.refl wr.heap.size wr).alloc (Nat.le_refl _) (.cells #[.int .i64 s.scale] 2))
            have hr0 : Rd (Value.int .i64) (wr.alloc (.cells #[.int .i64 s.scale] 2)) _ (some ⟨wr.heap.size, 0, none⟩) [s.scale] := rd_one (one_cell wr (.int .i64 s.scale) 2).1
            go_wp2_with (at_builtin; refine wpList_app (Value.int .i64) (fun _ => rfl) _ rfl _ _ 22 rfl w1.heap.size 2 (.int .i64 0) 8 Try.underlying22 info_i64 rfl S _ _ rfl g1 [s.scale] _ 1 _ rfl hr0 (by simp [maxLen]; omega) (by simp; omega) (by have := hbr.size; simp; omega) ?_)
            rintro S' A' c' w5 hS' ho hb1 _
            have HS' := hid hS'
            have HO' := hid ho
            clear hS' ho f4 d2
            go_wp2_with fail
            go_roundw
            case rel => exact ⟨k + 1, S', A', c', by omega, by go_num, rfl, by rw [HS'.out, HSK.out, HS.out]; rfl, HO'.out, (hbr.alloc hbr.size _).trans hb1⟩
            case measure => simp [intOf]; omega
          | true =>
            have g1 := own_on HO.out ((Below.refl wr.heap.size wr).alloc (Nat.le_refl _) (.cells #[.int .i64 Z] 2))
            have hr0 : Rd (Value.int .i64) (wr.alloc (.cells #[.int .i64 Z] 2)) _ (some ⟨wr.heap.size, 0, none⟩) [Z] := rd_one (one_cell wr (.int .i64 Z) 2).1
            go_wp2_with (at_builtin; refine wpList_app (Value.int .i64) (fun _ => rfl) _ rfl _ _ 22 rfl w1.heap.size 2 (.int .i64 0) 8 Try.underlying22 info_i64 rfl S _ _ rfl g1 [Z] _ 1 _ rfl hr0 (by simp [maxLen]; omega) (by simp; omega) (by have := hbr.size; simp; omega) ?_)
            rintro S' A' c' w5 hS' ho hb1 _
            have HS' := hid hS'
            have HO' := hid ho
            clear hS' ho f4 d2
            go_wp2_with fail
            go_roundw
            case rel => exact ⟨k + 1, S', A', c', by omega, by go_num, rfl, by rw [HS'.out, HSK.out, HS.out, ← HZ.out]; rfl, HO'.out, (hbr.alloc hbr.size _).trans hb1⟩
            case measure => simp [intOf]; omega
        · obtain rfl : k = s.neg.length := by omega
          have kw := k1.trans (hbr.mono k1.size)
          have hfin : OwnE 2 .i64 w.heap.size (lsgL s.scale s.neg) 0 w (.returned (.tuple #[.slice A2 S.length c2, .int .i64 0])) wr := by rw [← HLE.out, ← HS.out]; exact ⟨A2, c2, rfl, own_base HO.out k1.size, kw⟩
          clear HO
          go_wp2_with fail
          go_ret2
          exact hfin
    · have he : lsgE s = 1 := if_neg (fun h => h2 h.2)
      have hv : lsgV s = [] := if_neg (by rw [he]; decide)
      rw [he, hv]
      have t1 : (s.sch == 3) = false := beq_eq_false_iff_ne.2 h2
      have t2 : (s.sch != 3) = true := by simpa using h2
      clear he hv hm ra hn hw h2
      go_enter Try.func17, Try.ntmps17
      go_wp2_with fail
      have B0 := BoxL.new w [.int .i64 s.sch, .int .i64 s.dim, .slice AL s.L.length cL, .slice AV s.V.length cV, .int .i64 s.scale, .int .i64 s.wide, .slice AE s.lev.length cE, .slice AN s.neg.length cN] 27
      refine (CM.out _ (by go_grown)).mono ?_
      rintro _ w1 ⟨rfl, hb⟩
      have HB1 := hid (B0.below hb (by simp))
      have k1 : Below w.heap.size w w1 := Below.trans (by go_grown) (hb.mono (by simp))
      have f0 := (HB1.out 0 _ rfl).1
      clear B0 hb CM
      go_wp2_with fail
      go_ret2
      exact .nil k1
  · have he : lsgE s = 1 := if_neg (fun h => hm h.1)
    have hv : lsgV s = [] := if_neg (by rw [he]; decide)
    rw [he, hv]
    have hm2 : mayB s = false := by simpa using hm
    rw [hm2] at CM
    clear he hv hm hm2 ra hn hw
    go_enter Try.func17, Try.ntmps17
    go_wp2_with fail
    refine (CM.out _ (by go_grown)).mono ?_
    rintro _ w1 ⟨rfl, hb⟩
    have k1 : Below w.heap.size w w1 := Below.trans (by go_grown) (hb.mono (by simp))
    go_wp2_with fail
    go_ret2
    exact .nil k1
/-- Whether one is pressed so. -/
def isSB (v : List Int) (s : SentV) : Bool := decide (mnE v = 0) && sameS (sgS v) s
theorem sgS_ln (v : List Int) : lnS 4096 (sgS v) := by
  unfold sgS
  split
  · rename_i h
    have h2 := (sizeV_is (mnE_ok.1 h).2).1
    exact ⟨by simp, by simp, by simp, by show (sgN v).length ≤ 4096; rw [sgN_len]; exact h2⟩
  · exact ⟨by simp [zeroS], by simp [zeroS], by simp [zeroS], by simp [zeroS]⟩
theorem sgS_wf {v : List Int} : wfS (sgS v) := by
  unfold sgS
  split
  · rename_i h
    have h2 := sizeV_is (mnE_ok.1 h).2
    have h3 := mnN_le v
    have h4 : mnV v = (mnN v : Int) := if_pos h
    refine ⟨by show I64 3; decide, by show I64 (v.length : Int); unfold I64; omega, by simp, by simp, by show I64 (mnV v); rw [h4]; unfold I64; omega, by show I64 0; decide, by intro x hx; simp at hx⟩
  · exact ⟨by show I64 0; decide, by show I64 0; decide, by simp [zeroS], by simp [zeroS], by show I64 0; decide, by show I64 0; decide, by simp [zeroS, U64s]⟩
theorem ref_Is11 {A : Option Addr} {c : Nat} (v : List Int) (uv : ∀ x ∈ v, I64 x) (hl : v.length ≤ 9223372036854775807) (s : SentV) (p : SentP) (hn : lnS 100000 s) (w : World) (ra : Rd (Value.int .i64) w w.heap.size A v) (rs : RdS w w.heap.size s p) :
    Calls Try.prog 21 #[.slice A v.length c, encT s p] w fun e w' => e = .returned (.bool (isSB v s)) ∧ Below w.heap.size w w' := by
  have CP := hid (fun (W : World) (h : Below w.heap.size w W) => ref_Press11 (A := A) (c := c) v uv hl W (ra.on h))
  have RS := hid rs
  have hT := sgS_ln v
  unfold isSB
  obtain ⟨T, hTT⟩ : ∃ T, sgS v = T := ⟨_, rfl⟩
  obtain ⟨E, hE⟩ : ∃ E, mnE v = E := ⟨_, rfl⟩
  rw [hTT, hE] at CP ⊢
  rw [hTT] at hT
  have CS := hid (fun (q : SentP) (W : World) (h1 : RdS W W.heap.size T q) (h2 : RdS W W.heap.size s p) => ref_SameSent T s q p (hT.more (by omega)) hn W (Nat.le_refl _) (Nat.le_refl _) h1 h2)
  obtain ⟨R, hR⟩ : ∃ R, sameS T s = R := ⟨_, rfl⟩
  rw [hR] at CS ⊢
  have HD1 : Hid (E = 0 → decide (E = 0) = true) := hid (fun h => decide_eq_true h)
  have HD0 : Hid (E ≠ 0 → decide (E = 0) = false) := hid (fun h => decide_eq_false h)
  obtain ⟨D, hD⟩ : ∃ D, decide (E = 0) = D := ⟨_, rfl⟩
  rw [hD] at HD1 HD0 ⊢
  clear hTT hE hR hT ra rs uv hn hD
  go_enter Try.func21, Try.ntmps21
  go_wp2_with fail
  have B0 := BoxL.new w [.int .i64 s.sch, .int .i64 s.dim, .slice p.AL s.L.length p.cL, .slice p.AV s.V.length p.cV, .int .i64 s.scale, .int .i64 s.wide, .slice p.AE s.lev.length p.cE, .slice p.AN s.neg.length p.cN] 27
  refine (CP.out _ (by go_grown)).mono ?_
  rintro _ w1 ⟨A1, c1, rfl, h1, h2, h3, o1, hb⟩
  have HX := hid (B0.below hb (by simp))
  have k1 : Below w.heap.size w w1 := Below.trans (by go_grown) (hb.mono (by simp))
  have HT := hid (OwnSg.rd h1 h2 h3 o1)
  clear B0 hb CP o1 h1 h2 h3
  have hg : w.heap.size < w1.heap.size := HX.out.lt (by simp)
  obtain ⟨⟨g0, g1, g2, g3, g4, g5, g6, g7⟩, _⟩ := HX.out.eight
  by_cases h0 : E = 0
  · have hD := HD1.out h0
    subst h0 hD
    go_wp2_with fail
    have kz : Below w1.heap.size w1 (w1.alloc (.cells #[.int .i64 T.sch, .int .i64 T.dim, .slice none T.L.length 0, .slice none T.V.length 0, .int .i64 T.scale, .int .i64 T.wide, .slice none T.lev.length 0, .slice A1 T.neg.length c1] 27)) := (Below.refl _ _).alloc (Nat.le_refl _) _
    refine (CS.out ⟨none, 0, none, 0, none, 0, A1, c1⟩ _ (HT.out.on kz) (RS.out.on (k1.trans (kz.mono k1.size)))).mono ?_
    rintro _ w3 ⟨rfl, hb3⟩
    go_wp2_with fail
    go_ret
    exact ⟨by simp, (k1.trans (kz.mono k1.size)).trans (hb3.mono (Nat.le_trans k1.size kz.size))⟩
  · have hne : (E == 0) = false := beq_eq_false_iff_ne.2 h0
    have hD := HD0.out h0
    subst hD
    clear h0 HD1 HD0
    go_wp2_with fail
    go_ret
    exact ⟨rfl, k1.trans (by go_grown)⟩
end Go.Proofs.Ytkcckncglbjjdaa
/- Signs, by the program: something made of each thing; whether a vector is one of signs that may be; the mean size. -/
namespace Go.Proofs.Ytkcckncglbjjdaa
open Go.RowKit
set_option maxHeartbeats 1000000
set_option maxRecDepth 100000
set_option linter.unusedVariables false
theorem made_map {α β : Type} (v : List α) (d : α) (f : α → β) : (List.range v.length).map (fun j => f (v.getD j d)) = v.map f := by
  refine List.ext_getElem (by simp) fun i h1 h2 => ?_
  have hi : i < v.length := by simpa using h2
  simp [List.getD_eq_getElem?_getD, List.getElem?_eq_getElem hi]
theorem each_ib {A : Option Addr} {c : Nat} (K : FuncId) (caps : Array Value) (v : List Int) (hl : v.length ≤ 4096) (P : Int → Bool) (w : World)
   (hK : ∀ (args : Array Value) (W : World), (callFunc K args).run Try.prog W = .ok (.enter K args) W) (ra : Rd (Value.int .i64) w w.heap.size A v)
   (H : ∀ x, x ∈ v → ∀ W, Below w.heap.size w W → Calls Try.prog K (#[Value.int .i64 x] ++ caps) W fun e w' => e = .returned (Value.bool (P x)) ∧ W = w') :
    Calls Try.prog 30 #[.slice A v.length c, .func (.func K) #[] caps] w fun e w' => ∃ A' c', e = .returned (.slice A' v.length c') ∧ w'.ownsRow w.heap.size 4 1 (.slice A' v.length c') v.length ((v.map P).map Value.bool) ∧ Below w.heap.size w w' := by
  have hmk := fun W => run_make_row' (P := Try.prog) 25 4 (Value.bool false) 1 Try.underlying25 info_bool rfl .i64 .i64 v.length (by omega) (by omega) W
  have HH := hid H
  have RA := hid ra
  have HM := hid (made_map v (0 : Int) (fun x => Value.bool (P x)))
  clear H ra
  go_enter Try.func30, Try.ntmps30
  go_wp2_with fail
  go_loopw [6, 7, 13] (fun x6 x7 i wr => ∃ k : Nat, k ≤ v.length ∧ i = .int .i64 k ∧ wr.rowIs w.heap.size 4 v.length (fun j => if j < k then Value.bool (P (v.getD j (0 : Int))) else Value.bool false) ∧ Below w.heap.size w wr) (fun _ _ i _ => v.length - (intOf i).toNat)
  case atStart => exact ⟨0, by omega, rfl, by simpa using World.rowIs_made w (Value.bool false) v.length _, by go_grown⟩
  case round =>
    obtain ⟨k, hk, rfl, hrow, hbel⟩ := hrel
    have hz := hrow.lt
    clear hmk
    by_cases hlt : k < v.length
    · obtain ⟨b1, o1, x, rfl, l1, ex, d1⟩ := (RA.out.below hbel).at_ hlt
      have hx := List.mem_of_getElem? ex
      have C := hid (HH.out x hx wr hbel)
      have hg : v.getD k (0 : Int) = x := by rw [List.getD_eq_getElem?_getD, ex]; rfl
      have HG := hid hg
      obtain ⟨y, hy⟩ : ∃ y, P x = y := ⟨_, rfl⟩
      rw [hy] at C
      have HY := hid hy
      have c1 := hrow.cell hlt
      rw [if_neg (Nat.lt_irrefl k)] at c1
      have f1 := hrow.frozen k
      have HR := hid hrow
      have hzz := hid hz
      clear ex hx hg hy hrow
      go_wp2_with fail
      refine C.out.mono ?_
      rintro _ _ ⟨rfl, rfl⟩
      go_wp2_with fail
      go_roundw
      case rel =>
        refine ⟨k + 1, by omega, by go_num, ?_, hbel.setCell (Nat.le_refl _) _⟩
        refine (HR.out.set k (Value.bool y)).congr fun j hj => ?_
        by_cases e : j = k
        · subst e
          rw [if_pos rfl, if_pos (by omega), HG.out, HY.out]
        · rw [if_neg e]
          by_cases e2 : j < k
          · rw [if_pos e2, if_pos (by omega)]
          · rw [if_neg e2, if_neg (by omega)]
      case measure => simp [intOf]; omega
    · obtain rfl : k = v.length := by omega
      have hfin : ∃ A' c', (Ending.returned (Value.slice (some ⟨w.heap.size, 0, none⟩) v.length v.length) : Ending) = .returned (.slice A' v.length c') ∧ wr.ownsRow w.heap.size 4 1 (.slice A' v.length c') v.length ((v.map P).map Value.bool) ∧ Below w.heap.size w wr := by
        refine ⟨_, _, rfl, ?_, hbel⟩
        have h := own_made (B := w.heap.size) (w' := w) (hrow.congr (g := fun j => Value.bool (P (v.getD j (0 : Int)))) fun i hi => by rw [if_pos hi]) (Nat.le_refl _) (by unfold maxLen; omega)
        rw [HM.out] at h
        rw [List.map_map]
        exact h
      clear hrow HM
      go_wp2_with fail
      go_ret
      exact hfin
theorem each_bi {A : Option Addr} {c : Nat} (K : FuncId) (caps : Array Value) (v : List Bool) (hl : v.length ≤ 4096) (P : Bool → Int) (w : World)
   (hK : ∀ (args : Array Value) (W : World), (callFunc K args).run Try.prog W = .ok (.enter K args) W) (ra : Rd Value.bool w w.heap.size A v)
   (H : ∀ x, x ∈ v → ∀ W, Below w.heap.size w W → Calls Try.prog K (#[Value.bool x] ++ caps) W fun e w' => e = .returned (Value.int .i64 (P x)) ∧ W = w') :
    Calls Try.prog 33 #[.slice A v.length c, .func (.func K) #[] caps] w fun e w' => ∃ A' c', e = .returned (.slice A' v.length c') ∧ w'.ownsRow w.heap.size 2 1 (.slice A' v.length c') v.length ((v.map P).map (Value.int .i64)) ∧ Below w.heap.size w w' := by
  have hmk := fun W => run_make_row' (P := Try.prog) 22 2 (Value.int .i64 0) 8 Try.underlying22 info_i64 rfl .i64 .i64 v.length (by omega) (by omega) W
  have HH := hid H
  have RA := hid ra
  have HM := hid (made_map v false (fun x => (Value.int .i64) (P x)))
  clear H ra
  go_enter Try.func33, Try.ntmps33
  go_wp2_with fail
  go_loopw [6, 7, 13] (fun x6 x7 i wr => ∃ k : Nat, k ≤ v.length ∧ i = .int .i64 k ∧ wr.rowIs w.heap.size 2 v.length (fun j => if j < k then (Value.int .i64) (P (v.getD j false)) else (Value.int .i64) 0) ∧ Below w.heap.size w wr) (fun _ _ i _ => v.length - (intOf i).toNat)
  case atStart => exact ⟨0, by omega, rfl, by simpa using World.rowIs_made w (Value.int .i64 0) v.length _, by go_grown⟩
  case round =>
    obtain ⟨k, hk, rfl, hrow, hbel⟩ := hrel
    have hz := hrow.lt
    clear hmk
    by_cases hlt : k < v.length
    · obtain ⟨b1, o1, x, rfl, l1, ex, d1⟩ := (RA.out.below hbel).at_ hlt
      have hx := List.mem_of_getElem? ex
      have C := hid (HH.out x hx wr hbel)
      have hg : v.getD k false = x := by rw [List.getD_eq_getElem?_getD, ex]; rfl
      have HG := hid hg
      obtain ⟨y, hy⟩ : ∃ y, P x = y := ⟨_, rfl⟩
      rw [hy] at C
      have HY := hid hy
      have c1 := hrow.cell hlt
      rw [if_neg (Nat.lt_irrefl k)] at c1
      have f1 := hrow.frozen k
      have HR := hid hrow
      have hzz := hid hz
      clear ex hx hg hy hrow
      go_wp2_with fail
      refine C.out.mono ?_
      rintro _ _ ⟨rfl, rfl⟩
      go_wp2_with fail
      go_roundw
      case rel =>
        refine ⟨k + 1, by omega, by go_num, ?_, hbel.setCell (Nat.le_refl _) _⟩
        refine (HR.out.set k ((Value.int .i64) y)).congr fun j hj => ?_
        by_cases e : j = k
        · subst e
          rw [if_pos rfl, if_pos (by omega), HG.out, HY.out]
        · rw [if_neg e]
          by_cases e2 : j < k
          · rw [if_pos e2, if_pos (by omega)]
          · rw [if_neg e2, if_neg (by omega)]
      case measure => simp [intOf]; omega
    · obtain rfl : k = v.length := by omega
      have hfin : ∃ A' c', (Ending.returned (Value.slice (some ⟨w.heap.size, 0, none⟩) v.length v.length) : Ending) = .returned (.slice A' v.length c') ∧ wr.ownsRow w.heap.size 2 1 (.slice A' v.length c') v.length ((v.map P).map (Value.int .i64)) ∧ Below w.heap.size w wr := by
        refine ⟨_, _, rfl, ?_, hbel⟩
        have h := own_made (B := w.heap.size) (w' := w) (hrow.congr (g := fun j => (Value.int .i64) (P (v.getD j false))) fun i hi => by rw [if_pos hi]) (Nat.le_refl _) (by unfold maxLen; omega)
        rw [HM.out] at h
        rw [List.map_map]
        exact h
      clear hrow HM
      go_wp2_with fail
      go_ret
      exact hfin
theorem each_nb {A : Option Addr} {c : Nat} (K : FuncId) (caps : Array Value) (v : List Int) (hl : v.length ≤ 4096) (P : Int → Bool) (w : World)
   (hK : ∀ (args : Array Value) (W : World), (callFunc K args).run Try.prog W = .ok (.enter K args) W) (ra : Rd (Value.int .i64) w w.heap.size A v)
   (H : ∀ x, x ∈ v → ∀ W, Below w.heap.size w W → Calls Try.prog K (#[Value.int .i64 x] ++ caps) W fun e w' => e = .returned (Value.bool (P x)) ∧ W = w') :
    Calls Try.prog 40 #[.slice A v.length c, .func (.func K) #[] caps] w fun e w' => ∃ A' c', e = .returned (.slice A' v.length c') ∧ w'.ownsRow w.heap.size 4 1 (.slice A' v.length c') v.length ((v.map P).map Value.bool) ∧ Below w.heap.size w w' := by
  have hmk := fun W => run_make_row' (P := Try.prog) 25 4 (Value.bool false) 1 Try.underlying25 info_bool rfl .i64 .i64 v.length (by omega) (by omega) W
  have HH := hid H
  have RA := hid ra
  have HM := hid (made_map v (0 : Int) (fun x => Value.bool (P x)))
  clear H ra
  go_enter Try.func40, Try.ntmps40
  go_wp2_with fail
  go_loopw [6, 7, 13] (fun x6 x7 i wr => ∃ k : Nat, k ≤ v.length ∧ i = .int .i64 k ∧ wr.rowIs w.heap.size 4 v.length (fun j => if j < k then Value.bool (P (v.getD j (0 : Int))) else Value.bool false) ∧ Below w.heap.size w wr) (fun _ _ i _ => v.length - (intOf i).toNat)
  case atStart => exact ⟨0, by omega, rfl, by simpa using World.rowIs_made w (Value.bool false) v.length _, by go_grown⟩
  case round =>
    obtain ⟨k, hk, rfl, hrow, hbel⟩ := hrel
    have hz := hrow.lt
    clear hmk
    by_cases hlt : k < v.length
    · obtain ⟨b1, o1, x, rfl, l1, ex, d1⟩ := (RA.out.below hbel).at_ hlt
      have hx := List.mem_of_getElem? ex
      have C := hid (HH.out x hx wr hbel)
      have hg : v.getD k (0 : Int) = x := by rw [List.getD_eq_getElem?_getD, ex]; rfl
      have HG := hid hg
      obtain ⟨y, hy⟩ : ∃ y, P x = y := ⟨_, rfl⟩
      rw [hy] at C
      have HY := hid hy
      have c1 := hrow.cell hlt
      rw [if_neg (Nat.lt_irrefl k)] at c1
      have f1 := hrow.frozen k
      have HR := hid hrow
      have hzz := hid hz
      clear ex hx hg hy hrow
      go_wp2_with fail
      refine C.out.mono ?_
      rintro _ _ ⟨rfl, rfl⟩
      go_wp2_with fail
      go_roundw
      case rel =>
        refine ⟨k + 1, by omega, by go_num, ?_, hbel.setCell (Nat.le_refl _) _⟩
        refine (HR.out.set k (Value.bool y)).congr fun j hj => ?_
        by_cases e : j = k
        · subst e
          rw [if_pos rfl, if_pos (by omega), HG.out, HY.out]
        · rw [if_neg e]
          by_cases e2 : j < k
          · rw [if_pos e2, if_pos (by omega)]
          · rw [if_neg e2, if_neg (by omega)]
      case measure => simp [intOf]; omega
    · obtain rfl : k = v.length := by omega
      have hfin : ∃ A' c', (Ending.returned (Value.slice (some ⟨w.heap.size, 0, none⟩) v.length v.length) : Ending) = .returned (.slice A' v.length c') ∧ wr.ownsRow w.heap.size 4 1 (.slice A' v.length c') v.length ((v.map P).map Value.bool) ∧ Below w.heap.size w wr := by
        refine ⟨_, _, rfl, ?_, hbel⟩
        have h := own_made (B := w.heap.size) (w' := w) (hrow.congr (g := fun j => Value.bool (P (v.getD j (0 : Int)))) fun i hi => by rw [if_pos hi]) (Nat.le_refl _) (by unfold maxLen; omega)
        rw [HM.out] at h
        rw [List.map_map]
        exact h
      clear hrow HM
      go_wp2_with fail
      go_ret
      exact hfin
/-- One of signs that may be. -/
def mySg (s : SentV) : Bool := decide (s.sch = 3 ∧ 1 ≤ s.dim ∧ s.dim ≤ 4096 ∧ s.L = [] ∧ s.V = [] ∧ s.wide = 0 ∧ s.lev = [] ∧ 0 ≤ s.scale ∧ (s.neg.length : Int) = s.dim)
theorem mySg_iff {s : SentV} : mySg s = true ↔ mayB s = true ∧ s.sch = 3 := by
  unfold mySg
  rw [decide_eq_true_iff, mayB_iff]
  unfold mayP
  constructor
  · rintro ⟨a, b, c, d, e, f, g, h1, h2⟩
    exact ⟨⟨b, c, .inr (.inr (.inr ⟨a, d, e, f, g, h1, h2⟩))⟩, a⟩
  · rintro ⟨⟨b, c, h⟩, a⟩
    rcases h with h | h | h | ⟨_, d, e, f, g, h1, h2⟩
    · have := h.1; omega
    · have := h.1; omega
    · have := h.1; omega
    · exact ⟨a, b, c, d, e, f, g, h1, h2⟩
theorem sn_may_v (sch dim scale wide : Int) (nL nV nE nN : Nat) (AL AV AE AN : Option Addr) (cL cV cE cN : Nat) (R : Bool) (w : World)
    (HR : Hid (R = true ↔ (sch = 3 ∧ 1 ≤ dim ∧ dim ≤ 4096 ∧ nL = 0 ∧ nV = 0 ∧ wide = 0 ∧ nE = 0 ∧ 0 ≤ scale ∧ (nN : Int) = dim))) :
    Calls Try.prog 32 #[.agg #[.int .i64 sch, .int .i64 dim, .slice AL nL cL, .slice AV nV cV, .int .i64 scale, .int .i64 wide, .slice AE nE cE, .slice AN nN cN]] w fun e w' => e = .returned (.bool R) ∧ Below w.heap.size w w' := by
  by_cases h1 : sch = 3
  · subst h1
    by_cases h2 : dim ≥ 1
    · skip
      by_cases h3 : dim ≤ 4096
      · skip
        by_cases h4 : nL = 0
        · subst h4
          by_cases h5 : nV = 0
          · subst h5
            by_cases h6 : wide = 0
            · subst h6
              by_cases h7 : nE = 0
              · subst h7
                by_cases h8 : scale ≥ 0
                · skip
                  by_cases h9 : (nN : Int) = dim
                  · subst h9
                    have hF : R = true := HR.out.2 ⟨rfl, h2, h3, rfl, rfl, rfl, rfl, h8, rfl⟩
                    subst hF
                    clear HR
                    go_enter Try.func32, Try.ntmps32
                    go_wp2_with fail
                    go_ret
                    exact ⟨rfl, by go_grown⟩
                  · have hF : R = false := Bool.eq_false_iff.2 (fun hR => h9 (by have h := HR.out.1 hR; exact h.2.2.2.2.2.2.2.2))
                    have t9 : ((nN : Int) == dim) = false := beq_eq_false_iff_ne.2 h9
                    subst hF
                    clear HR
                    go_enter Try.func32, Try.ntmps32
                    go_wp2_with fail
                    go_ret
                    exact ⟨rfl, by go_grown⟩
                · have hF : R = false := Bool.eq_false_iff.2 (fun hR => h8 (by have h := HR.out.1 hR; exact h.2.2.2.2.2.2.2.1))
                  subst hF
                  clear HR
                  go_enter Try.func32, Try.ntmps32
                  go_wp2_with fail
                  go_ret
                  exact ⟨rfl, by go_grown⟩
              · have hF : R = false := Bool.eq_false_iff.2 (fun hR => h7 (by have h := HR.out.1 hR; exact h.2.2.2.2.2.2.1))
                have t7 : ((nE : Int) == 0) = false := beq_eq_false_iff_ne.2 (by omega)
                have t7b : (nE == 0) = false := beq_eq_false_iff_ne.2 h7
                subst hF
                clear HR
                go_enter Try.func32, Try.ntmps32
                go_wp2_with fail
                go_ret
                exact ⟨rfl, by go_grown⟩
            · have hF : R = false := Bool.eq_false_iff.2 (fun hR => h6 (by have h := HR.out.1 hR; exact h.2.2.2.2.2.1))
              have t6 : (wide == 0) = false := beq_eq_false_iff_ne.2 h6
              subst hF
              clear HR
              go_enter Try.func32, Try.ntmps32
              go_wp2_with fail
              go_ret
              exact ⟨rfl, by go_grown⟩
          · have hF : R = false := Bool.eq_false_iff.2 (fun hR => h5 (by have h := HR.out.1 hR; exact h.2.2.2.2.1))
            have t5 : ((nV : Int) == 0) = false := beq_eq_false_iff_ne.2 (by omega)
            have t5b : (nV == 0) = false := beq_eq_false_iff_ne.2 h5
            subst hF
            clear HR
            go_enter Try.func32, Try.ntmps32
            go_wp2_with fail
            go_ret
            exact ⟨rfl, by go_grown⟩
        · have hF : R = false := Bool.eq_false_iff.2 (fun hR => h4 (by have h := HR.out.1 hR; exact h.2.2.2.1))
          have t4 : ((nL : Int) == 0) = false := beq_eq_false_iff_ne.2 (by omega)
          have t4b : (nL == 0) = false := beq_eq_false_iff_ne.2 h4
          subst hF
          clear HR
          go_enter Try.func32, Try.ntmps32
          go_wp2_with fail
          go_ret
          exact ⟨rfl, by go_grown⟩
      · have hF : R = false := Bool.eq_false_iff.2 (fun hR => h3 (by have h := HR.out.1 hR; exact h.2.2.1))
        subst hF
        clear HR
        go_enter Try.func32, Try.ntmps32
        go_wp2_with fail
        go_ret
        exact ⟨rfl, by go_grown⟩
    · have hF : R = false := Bool.eq_false_iff.2 (fun hR => h2 (by have h := HR.out.1 hR; exact h.2.1))
      subst hF
      clear HR
      go_enter Try.func32, Try.ntmps32
      go_wp2_with fail
      go_ret
      exact ⟨rfl, by go_grown⟩
  · have hF : R = false := Bool.eq_false_iff.2 (fun hR => h1 (by have h := HR.out.1 hR; exact h.1))
    have t1 : (sch == 3) = false := beq_eq_false_iff_ne.2 h1
    subst hF
    clear HR
    go_enter Try.func32, Try.ntmps32
    go_wp2_with fail
    go_ret
    exact ⟨rfl, by go_grown⟩
theorem sn_may (s : SentV) (p : SentP) (w : World) :
    Calls Try.prog 32 #[encT s p] w fun e w' => e = .returned (.bool (mySg s)) ∧ Below w.heap.size w w' := by
  refine sn_may_v s.sch s.dim s.scale s.wide s.L.length s.V.length s.lev.length s.neg.length p.AL p.AV p.AE p.AN p.cL p.cV p.cE p.cN (mySg s) w (hid ?_)
  unfold mySg; rw [decide_eq_true_eq, List.length_eq_zero_iff, List.length_eq_zero_iff, List.length_eq_zero_iff]
theorem sn_Mean {A : Option Addr} {c : Nat} (v : List Int) (uv : ∀ x ∈ v, I64 x) (hl : v.length ≤ 9223372036854775807) (w : World) (ra : Rd (Value.int .i64) w w.heap.size A v) :
    Calls Try.prog 12 #[.slice A v.length c] w fun e w' => e = .returned (.tuple #[.int .i64 (mnV v), .int .i64 (mnE v)]) ∧ Below w.heap.size w w' := by
  by_cases h0 : v = []
  · have he : mnE v = 1 := if_pos h0
    have hv : mnV v = 0 := if_neg (by rw [he]; decide)
    rw [he, hv]
    subst h0
    clear he hv ra uv hl
    go_enter Try.func12, Try.ntmps12
    go_wp2_with fail
    go_ret2
    exact ⟨rfl, Below.refl _ _⟩
  · have h0' : ¬ v.length = 0 := fun h => h0 (List.length_eq_zero_iff.1 h)
    have t1 : ((v.length : Int) == 0) = false := beq_eq_false_iff_ne.2 (by omega)
    have t2 : (v.length == 0) = false := beq_eq_false_iff_ne.2 h0'
    have CS := hid (Size_any (A := A) (c := c) v hl uv w ra)
    have hE : mnE v = sizeE v := if_neg h0
    by_cases he : sizeE v = 0
    · obtain ⟨z1, z2, z3⟩ := sizeV_is he
      have hV : mnV v = ((sumS v / v.length : Nat) : Int) := if_pos (hE.trans he)
      rw [hE, he, hV]
      rw [he, z3] at CS
      obtain ⟨S, hS⟩ : ∃ S, sumS v = S := ⟨_, rfl⟩
      rw [hS] at CS z2 ⊢
      obtain ⟨q, hq⟩ : ∃ q, S / v.length = q := ⟨_, rfl⟩
      have i1 : (S : Int) / (v.length : Int) = (q : Int) := by rw [← hq]; simp
      have i2 : (S : Int).tdiv (v.length : Int) = (q : Int) := by rw [Int.tdiv_eq_ediv_of_nonneg (by omega)]; exact i1
      have hq2 : q ≤ S := by rw [← hq]; exact Nat.div_le_self _ _
      have i3 : (v.length : Int) ≠ 0 := by omega
      rw [hq]
      clear hS hq hE he hV z3 ra uv h0 h0'
      go_enter Try.func12, Try.ntmps12
      go_wp2_with fail
      refine CS.out.mono ?_
      rintro _ w1 ⟨rfl, hb⟩
      go_wp2_with fail
      go_ret2
      exact ⟨by go_num, hb⟩
    · have hV : mnV v = 0 := if_neg (by rw [hE]; exact he)
      rw [hV, hE]
      obtain ⟨E, hEE⟩ : ∃ E, sizeE v = E := ⟨_, rfl⟩
      rw [hEE] at CS he ⊢
      have hne : (E != 0) = true := by simpa using he
      clear hV hE hEE he ra uv h0 h0'
      go_enter Try.func12, Try.ntmps12
      go_wp2_with fail
      refine CS.out.mono ?_
      rintro _ w1 ⟨rfl, hb⟩
      go_wp2_with fail
      go_ret2
      exact ⟨rfl, hb⟩
end Go.Proofs.Ytkcckncglbjjdaa
/- Signs, by the program: pressed, loosened, whether it is pressed so. -/
namespace Go.Proofs.Ytkcckncglbjjdaa
open Go.RowKit
set_option maxHeartbeats 1000000
set_option maxRecDepth 100000
set_option linter.unusedVariables false
theorem press_cl (x : Int) (w : World) :
    Calls Try.prog 31 (#[.int .i64 x] ++ #[]) w fun e w' => e = .returned (.bool (decide (x < 0))) ∧ w = w' := by
  go_enter Try.func31, Try.ntmps31
  go_wp2_with fail
  go_ret
  exact ⟨rfl, rfl⟩
set_option maxHeartbeats 4000000 in
theorem sn_Press {A : Option Addr} {c : Nat} (v : List Int) (uv : ∀ x ∈ v, I64 x) (hl : v.length ≤ 9223372036854775807) (w : World) (ra : Rd (Value.int .i64) w w.heap.size A v) :
    Calls Try.prog 14 #[.slice A v.length c] w (OwnSg w.heap.size (sgS v) (mnE v) w) := by
  have CM := hid (fun W (h : Below w.heap.size w W) => sn_Mean (A := A) (c := c) v uv hl W (ra.on h))
  by_cases he : mnE v = 0
  · have hS : sgS v = ⟨3, v.length, [], [], mnV v, 0, [], sgN v⟩ := if_pos he
    obtain ⟨z1, z2, z3⟩ := sizeV_is (mnE_ok.1 he).2
    rw [hS, he]
    rw [he] at CM
    have hNl := sgN_len v
    have CE := hid (fun W (h : Below w.heap.size w W) => show Calls Try.prog 30 #[.slice A v.length c, .func (.func 31) #[] #[]] W fun e w' => ∃ A' c', e = .returned (.slice A' v.length c') ∧ w'.ownsRow W.heap.size 4 1 (.slice A' (sgN v).length c') (sgN v).length ((sgN v).map Value.bool) ∧ Below W.heap.size W w' from by
      rw [hNl]
      exact each_ib (A := A) (c := c) 31 #[] v z1 (fun x => decide (x < 0)) W (cl_enter 31 (by kernel_rfl)) (ra.on h) (fun x hx W2 h2 => press_cl x W2))
    have hm : mnV v = (mnN v : Int) := if_pos he
    have hle := mnN_le v
    rw [hm] at CM ⊢
    obtain ⟨M, hM⟩ : ∃ M, mnN v = M := ⟨_, rfl⟩
    rw [hM] at CM hle ⊢
    obtain ⟨N, hN⟩ : ∃ N, sgN v = N := ⟨_, rfl⟩
    rw [hN] at CE hNl ⊢
    have HNL := hid hNl
    clear hS he hm hM hN z3 ra uv hNl
    go_enter Try.func14, Try.ntmps14
    go_wp2_with fail
    have B0 := BoxL.new w [.int .i64 0, .int .i64 0, .slice none 0 0, .slice none 0 0, .int .i64 0, .int .i64 0, .slice none 0 0, .slice none 0 0] 27
    refine (CM.out _ (by go_grown)).mono ?_
    rintro _ w1 ⟨rfl, hb⟩
    have HB1 := hid (B0.below hb (by simp))
    have k1 : Below w.heap.size w w1 := Below.trans (by go_grown) (hb.mono (by simp))
    have hg1 : w.heap.size < w1.heap.size := by have := hb.size; simp at this; omega
    clear B0 hb CM
    go_wp2_with fail
    refine (CE.out _ k1).mono ?_
    rintro _ w2 ⟨A2, c2, rfl, o2, hb2⟩
    have B2 := HB1.out.below hb2 hg1
    have HO := hid (own_base o2 (show w.heap.size + 1 ≤ w1.heap.size by omega))
    have k2 : Below w.heap.size w w2 := k1.trans (hb2.mono k1.size)
    obtain ⟨⟨g0, g1, g2, g3, g4, g5, g6, g7⟩, n0, n1, n2, n3, n4, n5, n6, n7⟩ := B2.eight
    clear o2 hb2 CE HB1 B2
    go_wp2_with fail
    refine bodyPost_ret (v := .tuple #[.agg #[.int .i64 3, .int .i64 (v.length : Int), .slice none 0 0, .slice none 0 0, .int .i64 (M : Int), .int .i64 0, .slice none 0 0, .slice A2 v.length c2], .int .i64 0]) (by simp [results, Try.results14, go_sem, g0, g1, g2, g3, g4, g5, g6, g7]) rfl ?_
    refine ⟨A2, c2, by rw [← HNL.out]; rfl, rfl, rfl, rfl, ?_, ?_⟩
    · have hz : w.heap.size < w.heap.size + 1 := by omega
      exact own_base (own_set (own_set (own_set (own_set (own_set (own_set (own_set (own_set HO.out hz _) hz _) hz _) hz _) hz _) hz _) hz _) hz _) (by omega)
    · exact (((((((k2.setCell (by simp) _).setCell (by simp) _).setCell (by simp) _).setCell (by simp) _).setCell (by simp) _).setCell (by simp) _).setCell (by simp) _).setCell (by simp) _
  · have hS : sgS v = zeroS := if_neg he
    rw [hS]
    obtain ⟨E, hE⟩ : ∃ E, mnE v = E := ⟨_, rfl⟩
    obtain ⟨V, hV⟩ : ∃ V, mnV v = V := ⟨_, rfl⟩
    rw [hE, hV] at CM
    rw [hE] at he ⊢
    have hne : (E != 0) = true := by simpa using he
    clear hS he hE hV ra uv
    go_enter Try.func14, Try.ntmps14
    go_wp2_with fail
    have B0 := BoxL.new w [.int .i64 0, .int .i64 0, .slice none 0 0, .slice none 0 0, .int .i64 0, .int .i64 0, .slice none 0 0, .slice none 0 0] 27
    refine (CM.out _ (by go_grown)).mono ?_
    rintro _ w1 ⟨rfl, hb⟩
    have B1 := B0.below hb (by simp)
    have k1 : Below w.heap.size w w1 := Below.trans (by go_grown) (hb.mono (by simp))
    obtain ⟨⟨g0, g1, g2, g3, g4, g5, g6, g7⟩, n0, n1, n2, n3, n4, n5, n6, n7⟩ := B1.eight
    clear B0 B1 hb CM
    go_wp2_with fail
    refine bodyPost_ret (v := .tuple #[encT zeroS zeroP, .int .i64 E]) (by simp [results, Try.results14, go_sem, zeroS, zeroP, g0, g1, g2, g3, g4, g5, g6, g7]) rfl ⟨none, 0, rfl, rfl, rfl, rfl, own_nil _ _ _, ?_⟩
    exact (((((((k1.setCell (by simp) _).setCell (by simp) _).setCell (by simp) _).setCell (by simp) _).setCell (by simp) _).setCell (by simp) _).setCell (by simp) _).setCell (by simp) _
theorem loosen_cl {g : Nat} {scale : Int} {w : World} (hc : w.cell? ⟨g, 4, none⟩ = some (.int .i64 scale)) (h0 : 0 ≤ scale) (h1 : scale ≤ 9223372036854775807) (b : Bool) :
    Calls Try.prog 34 (#[.bool b] ++ #[.pointer (some ⟨g, 0, none⟩)]) w fun e w' => e = .returned (.int .i64 (if b = true then -scale else scale)) ∧ w = w' := by
  obtain ⟨Z, hZ⟩ : ∃ Z, -scale = Z := ⟨_, rfl⟩
  have hneg : IntKind.i64.wrap (-scale) = Z := by rw [IntKind.wrap_i64]; omega
  have hneg2 : wrap64 (-scale) = Z := by rw [wrap64_eq]; omega
  cases b with
  | true =>
    rw [if_pos rfl, hZ]
    clear hZ
    go_enter Try.func34, Try.ntmps34
    go_wp2_with fail
    go_ret
    exact ⟨rfl, rfl⟩
  | false =>
    rw [if_neg (by decide)]
    clear hZ
    go_enter Try.func34, Try.ntmps34
    go_wp2_with fail
    go_ret
    exact ⟨rfl, rfl⟩
set_option maxHeartbeats 4000000 in
theorem sn_Loosen (s : SentV) (p : SentP) (hn : lnS 100000 s) (hw : wfS s) (w : World) (ra : RdS w w.heap.size s p) :
    Calls Try.prog 16 #[encT s p] w (OwnE 2 .i64 w.heap.size (lsgV s) (lsgE s) w) := by
  obtain ⟨AL, cL, AV, cV, AE, cE, AN, cN⟩ := p
  have CM := hid (fun W => show Calls Try.prog 32 #[.agg #[.int .i64 s.sch, .int .i64 s.dim, .slice AL s.L.length cL, .slice AV s.V.length cV, .int .i64 s.scale, .int .i64 s.wide, .slice AE s.lev.length cE, .slice AN s.neg.length cN]] W fun e w' => e = .returned (.bool (mySg s)) ∧ Below W.heap.size W w' from sn_may s ⟨AL, cL, AV, cV, AE, cE, AN, cN⟩ W)
  show Calls Try.prog 16 #[.agg #[.int .i64 s.sch, .int .i64 s.dim, .slice AL s.L.length cL, .slice AV s.V.length cV, .int .i64 s.scale, .int .i64 s.wide, .slice AE s.lev.length cE, .slice AN s.neg.length cN]] w _
  by_cases hm : mayB s = true ∧ s.sch = 3
  · have he : lsgE s = 0 := if_pos hm
    have hv : lsgV s = lsgL s.scale s.neg := if_pos he
    rw [he, hv]
    rw [mySg_iff.2 hm] at CM
    have hmy := of_decide_eq_true (mySg_iff.2 hm)
    have hsc := hw.2.2.2.2.1
    have hs0 : 0 ≤ s.scale := hmy.2.2.2.2.2.2.2.1
    have hs63 : s.scale ≤ 9223372036854775807 := by unfold I64 at hsc; omega
    have hnl : s.neg.length ≤ 4096 := by have h1 := hmy.2.2.1; have h2 := hmy.2.2.2.2.2.2.2.2; omega
    have hln : (lsgL s.scale s.neg).length = s.neg.length := by unfold lsgL; rw [List.length_map]
    have CE := hid (fun W (h : Below w.heap.size w W) (hX : BoxL W w.heap.size [.int .i64 s.sch, .int .i64 s.dim, .slice AL s.L.length cL, .slice AV s.V.length cV, .int .i64 s.scale, .int .i64 s.wide, .slice AE s.lev.length cE, .slice AN s.neg.length cN]) => show Calls Try.prog 33 #[.slice AN s.neg.length cN, .func (.func 34) #[] #[.pointer (some ⟨w.heap.size, 0, none⟩)]] W fun e w' => ∃ A' c', e = .returned (.slice A' (lsgL s.scale s.neg).length c') ∧ w'.ownsRow W.heap.size 2 1 (.slice A' (lsgL s.scale s.neg).length c') (lsgL s.scale s.neg).length ((lsgL s.scale s.neg).map (Value.int .i64)) ∧ Below W.heap.size W w' from by
      rw [hln]
      exact each_bi (A := AN) (c := cN) 34 #[.pointer (some ⟨w.heap.size, 0, none⟩)] s.neg hnl (fun b => if b = true then -s.scale else s.scale) W (cl_enter 34 (by kernel_rfl)) ((ra.2.2.2.below h).more h.size) (fun x hx W2 h2 => loosen_cl ((hX.below h2 (hX.lt (by simp))) 4 _ rfl).1 hs0 hs63 x))
    obtain ⟨Q, hQ⟩ : ∃ Q, lsgL s.scale s.neg = Q := ⟨_, rfl⟩
    rw [hQ] at CE ⊢
    clear he hv hm ra hn hw hsc hmy hln hQ
    go_enter Try.func16, Try.ntmps16
    go_wp2_with fail
    have B0 := BoxL.new w [.int .i64 s.sch, .int .i64 s.dim, .slice AL s.L.length cL, .slice AV s.V.length cV, .int .i64 s.scale, .int .i64 s.wide, .slice AE s.lev.length cE, .slice AN s.neg.length cN] 27
    refine (CM.out _).mono ?_
    rintro _ w1 ⟨rfl, hb⟩
    have HB1 := hid (B0.below hb (by simp))
    have k1 : Below w.heap.size w w1 := Below.trans (by go_grown) (hb.mono (by simp))
    have f7 := (HB1.out 7 _ rfl).1
    clear B0 hb CM
    go_wp2_with fail
    refine (CE.out _ k1 HB1.out).mono ?_
    rintro _ w2 ⟨A2, c2, rfl, o2, hb2⟩
    have hfin : OwnE 2 .i64 w.heap.size Q 0 w (.returned (.tuple #[.slice A2 Q.length c2, .int .i64 0])) w2 := ⟨A2, c2, rfl, own_base o2 k1.size, k1.trans (hb2.mono k1.size)⟩
    clear o2 hb2 CE HB1 f7
    go_wp2_with fail
    go_ret2
    exact hfin
  · have he : lsgE s = 1 := if_neg hm
    have hv : lsgV s = [] := if_neg (by rw [he]; decide)
    rw [he, hv]
    have hq : mySg s = false := by
      cases h : mySg s with
      | false => rfl
      | true => exact absurd (mySg_iff.1 h) hm
    rw [hq] at CM
    clear he hv hm ra hn hw hq
    go_enter Try.func16, Try.ntmps16
    go_wp2_with fail
    refine (CM.out _).mono ?_
    rintro _ w1 ⟨rfl, hb⟩
    have k1 : Below w.heap.size w w1 := Below.trans (by go_grown) (hb.mono (by simp))
    go_wp2_with fail
    go_ret2
    exact .nil k1
theorem isSB_no {v : List Int} {s : SentV} (h : ¬ (mnE v = 0 ∧ sgS v = s)) : isSB v s = false := by
  unfold isSB
  by_cases h0 : mnE v = 0
  · rw [decide_eq_true h0, Bool.true_and]
    exact Bool.eq_false_iff.2 (fun h2 => h ⟨h0, sameS_iff.1 h2⟩)
  · rw [decide_eq_false h0, Bool.false_and]
theorem isSB_in {v : List Int} {s : SentV} (h0 : mnE v = 0) (hm : mySg s = true) (hs : s.scale = mnV v) : isSB v s = eqN s.neg (sgN v) := by
  obtain ⟨a, b, c, d, e, f, g, h1, h2⟩ := of_decide_eq_true hm
  unfold isSB
  rw [decide_eq_true h0, Bool.true_and]
  rw [Bool.eq_iff_iff, sameS_iff]
  unfold eqN
  rw [decide_eq_true_eq]
  have hS : sgS v = ⟨3, v.length, [], [], mnV v, 0, [], sgN v⟩ := if_pos h0
  constructor
  · intro h
    rw [← h, hS]
  · intro h
    rw [hS]
    obtain ⟨s1, s2, s3, s4, s5, s6, s7, s8⟩ := s
    simp only at a b c d e f g h1 h2 hs h
    subst a d e f g hs h
    rw [sgN_len] at h2
    rw [← h2]
theorem isSB_parts {v : List Int} {s : SentV} (h : sgS v = s) (h0 : mnE v = 0) : mySg s = true ∧ s.scale = mnV v := by
  have hm := sg_may h0
  rw [h] at hm
  have hS : sgS v = ⟨3, v.length, [], [], mnV v, 0, [], sgN v⟩ := if_pos h0
  rw [hS] at h
  subst h
  exact ⟨mySg_iff.2 ⟨hm, rfl⟩, rfl⟩
set_option maxHeartbeats 4000000 in
theorem sn_Is {A : Option Addr} {c : Nat} (v : List Int) (uv : ∀ x ∈ v, I64 x) (hl : v.length ≤ 9223372036854775807) (s : SentV) (p : SentP) (hn : lnS 100000 s) (w : World) (ra : Rd (Value.int .i64) w w.heap.size A v) (rs : RdS w w.heap.size s p) :
    Calls Try.prog 20 #[.slice A v.length c, encT s p] w fun e w' => e = .returned (.bool (isSB v s)) ∧ Below w.heap.size w w' := by
  obtain ⟨AL, cL, AV, cV, AE, cE, AN, cN⟩ := p
  have CM := hid (fun W => show Calls Try.prog 32 #[.agg #[.int .i64 s.sch, .int .i64 s.dim, .slice AL s.L.length cL, .slice AV s.V.length cV, .int .i64 s.scale, .int .i64 s.wide, .slice AE s.lev.length cE, .slice AN s.neg.length cN]] W fun e w' => e = .returned (.bool (mySg s)) ∧ Below W.heap.size W w' from sn_may s ⟨AL, cL, AV, cV, AE, cE, AN, cN⟩ W)
  have CP := hid (fun W (h : Below w.heap.size w W) => sn_Press (A := A) (c := c) v uv hl W (ra.on h))
  show Calls Try.prog 20 #[.slice A v.length c, .agg #[.int .i64 s.sch, .int .i64 s.dim, .slice AL s.L.length cL, .slice AV s.V.length cV, .int .i64 s.scale, .int .i64 s.wide, .slice AE s.lev.length cE, .slice AN s.neg.length cN]] w _
  by_cases he : mnE v = 0
  · have hS : sgS v = ⟨3, v.length, [], [], mnV v, 0, [], sgN v⟩ := if_pos he
    have hNl := sgN_len v
    have hv5 : v.length ≤ 4096 := (sizeV_is (mnE_ok.1 he).2).1
    have CQ := hid (fun W (h : Below w.heap.size w W) => show Calls Try.prog 14 #[.slice A v.length c] W fun e w' => ∃ A' c', e = .returned (.tuple #[.agg #[.int .i64 3, .int .i64 (v.length : Int), .slice none 0 0, .slice none 0 0, .int .i64 (mnV v), .int .i64 0, .slice none 0 0, .slice A' (sgN v).length c'], .int .i64 0]) ∧ Rd Value.bool w' w'.heap.size A' (sgN v) ∧ Below W.heap.size W w' from (CP.out W h).mono (by
      intro e w' H
      rw [hS, he] at H
      obtain ⟨A', c', h1, _, _, _, h2, h3⟩ := H
      exact ⟨A', c', h1, own_rd h2, h3⟩))
    have CEq := hid (fun (A' : Option Addr) (c' : Nat) W (h : Below w.heap.size w W) (r : Rd Value.bool W W.heap.size A' (sgN v)) => eq_bools (A := AN) (B := A') (c := cN) (d := c') s.neg (sgN v) (by have := hn.2.2.2; omega) (by omega) W (rs.2.2.2.below h) r)
    have HIN := hid (fun h1 h2 => isSB_in (v := v) (s := s) he h1 h2)
    have HNO := hid (fun h => isSB_no (v := v) (s := s) h)
    have HPA := hid (fun h => isSB_parts (v := v) (s := s) h he)
    obtain ⟨R, hR⟩ : ∃ R, isSB v s = R := ⟨_, rfl⟩
    rw [hR] at HIN HNO ⊢
    obtain ⟨G, hG⟩ : ∃ G, sgS v = G := ⟨_, rfl⟩
    rw [hG] at HNO HPA
    obtain ⟨N, hN⟩ : ∃ N, sgN v = N := ⟨_, rfl⟩
    rw [hN] at CQ CEq HIN
    obtain ⟨M, hM⟩ : ∃ M, mnV v = M := ⟨_, rfl⟩
    rw [hM] at CQ HIN HPA
    obtain ⟨nl, hnl⟩ : ∃ nl, N.length = nl := ⟨_, rfl⟩
    rw [hnl] at CQ CEq
    clear hS hNl hR hG hN hM hnl uv ra rs CP he hn
    by_cases hm : mySg s = true
    · rw [hm] at CM
      by_cases hsc : s.scale = M
      · have hF : R = eqN s.neg N := HIN.out hm hsc
        obtain ⟨z, hz⟩ : ∃ z, eqN s.neg N = z := ⟨_, rfl⟩
        rw [hz] at CEq hF
        subst hF
        have HSC := hid hsc
        clear hm hsc hz HIN HNO HPA
        go_enter Try.func20, Try.ntmps20
        go_wp2_with fail
        have B0 := BoxL.new w [.int .i64 s.sch, .int .i64 s.dim, .slice AL s.L.length cL, .slice AV s.V.length cV, .int .i64 s.scale, .int .i64 s.wide, .slice AE s.lev.length cE, .slice AN s.neg.length cN] 27
        refine (CQ.out _ (by go_grown)).mono ?_
        rintro _ w1 ⟨A1, c1, rfl, r1, hb⟩
        have HB1 := hid (B0.below hb (by simp))
        have k1 : Below w.heap.size w w1 := Below.trans (by go_grown) (hb.mono (by simp))
        have hg1 : w.heap.size < w1.heap.size := by have := hb.size; simp at this; omega
        have R1 := hid r1
        clear B0 hb CQ r1
        have N2 := BoxL.new w1 [.int .i64 3, .int .i64 (v.length : Int), .slice none 0 0, .slice none 0 0, .int .i64 M, .int .i64 0, .slice none 0 0, .slice A1 nl c1] 27
        have G2 : Below w1.heap.size w1 (w1.alloc (.cells #[.int .i64 3, .int .i64 (v.length : Int), .slice none 0 0, .slice none 0 0, .int .i64 M, .int .i64 0, .slice none 0 0, .slice A1 nl c1] 27)) := (Below.refl _ _).alloc (Nat.le_refl _) _
        obtain ⟨w2, hw2⟩ : ∃ w2, w1.alloc (.cells #[.int .i64 3, .int .i64 (v.length : Int), .slice none 0 0, .slice none 0 0, .int .i64 M, .int .i64 0, .slice none 0 0, .slice A1 nl c1] 27) = w2 := ⟨_, rfl⟩
        simp only [List.toArray] at N2
        rw [hw2] at N2 G2
        have HN2 := hid N2
        have X2 := HB1.out.below G2 hg1
        have k2 : Below w.heap.size w w2 := k1.trans (G2.mono k1.size)
        have R2 := hid (R1.out.on G2)
        obtain ⟨⟨f0, f1, f2, f3, f4, f5, f6, f7⟩, _⟩ := X2.eight
        have HX2 := hid X2
        have hg2 : w.heap.size < w2.heap.size := by have := G2.size; omega
        have hg3 : w1.heap.size < w2.heap.size := HN2.out.lt (by simp)
        clear N2 G2 X2 R1 HB1
        go_wp2_with fail
        refine (CM.out _).mono ?_
        rintro _ w3 ⟨rfl, hb3⟩
        have X3 := HX2.out.below hb3 hg2
        have N3 := HN2.out.below hb3 hg3
        have k3 : Below w.heap.size w w3 := k2.trans (hb3.mono k2.size)
        have R3 := R2.out.on hb3
        have g4 := (X3 4 _ rfl).1
        have g7 := (X3 7 _ rfl).1
        have e4 := (N3 4 _ rfl).1
        have e7 := (N3 7 _ rfl).1
        rw [HSC.out] at g4
        have t1 : (M == M) = true := by simp
        have CE := hid (CEq.out A1 c1 w3 k3 R3)
        clear f0 f1 f2 f3 f4 f5 f6 f7 hb3 X3 N3 HX2 HN2 R2 R3 CEq CM
        go_wp2_with fail
        refine CE.out.mono ?_
        rintro _ _ ⟨rfl, n, rfl⟩
        go_wp2_with fail
        go_ret
        exact ⟨rfl, k3.trans (belowN _ _ _)⟩
      · have hF : R = false := HNO.out (fun h => hsc (HPA.out h.2).2)
        have t1 : (s.scale == M) = false := beq_eq_false_iff_ne.2 hsc
        subst hF
        clear hm hsc HIN HNO HPA CEq
        go_enter Try.func20, Try.ntmps20
        go_wp2_with fail
        have B0 := BoxL.new w [.int .i64 s.sch, .int .i64 s.dim, .slice AL s.L.length cL, .slice AV s.V.length cV, .int .i64 s.scale, .int .i64 s.wide, .slice AE s.lev.length cE, .slice AN s.neg.length cN] 27
        refine (CQ.out _ (by go_grown)).mono ?_
        rintro _ w1 ⟨A1, c1, rfl, r1, hb⟩
        have HB1 := hid (B0.below hb (by simp))
        have k1 : Below w.heap.size w w1 := Below.trans (by go_grown) (hb.mono (by simp))
        have hg1 : w.heap.size < w1.heap.size := by have := hb.size; simp at this; omega
        clear B0 hb CQ r1
        have N2 := BoxL.new w1 [.int .i64 3, .int .i64 (v.length : Int), .slice none 0 0, .slice none 0 0, .int .i64 M, .int .i64 0, .slice none 0 0, .slice A1 nl c1] 27
        have G2 : Below w1.heap.size w1 (w1.alloc (.cells #[.int .i64 3, .int .i64 (v.length : Int), .slice none 0 0, .slice none 0 0, .int .i64 M, .int .i64 0, .slice none 0 0, .slice A1 nl c1] 27)) := (Below.refl _ _).alloc (Nat.le_refl _) _
        obtain ⟨w2, hw2⟩ : ∃ w2, w1.alloc (.cells #[.int .i64 3, .int .i64 (v.length : Int), .slice none 0 0, .slice none 0 0, .int .i64 M, .int .i64 0, .slice none 0 0, .slice A1 nl c1] 27) = w2 := ⟨_, rfl⟩
        simp only [List.toArray] at N2
        rw [hw2] at N2 G2
        have HN2 := hid N2
        have X2 := HB1.out.below G2 hg1
        have k2 : Below w.heap.size w w2 := k1.trans (G2.mono k1.size)
        obtain ⟨⟨f0, f1, f2, f3, f4, f5, f6, f7⟩, _⟩ := X2.eight
        have HX2 := hid X2
        have hg2 : w.heap.size < w2.heap.size := by have := G2.size; omega
        have hg3 : w1.heap.size < w2.heap.size := HN2.out.lt (by simp)
        clear N2 G2 X2 HB1
        go_wp2_with fail
        refine (CM.out _).mono ?_
        rintro _ w3 ⟨rfl, hb3⟩
        have X3 := HX2.out.below hb3 hg2
        have N3 := HN2.out.below hb3 hg3
        have k3 : Below w.heap.size w w3 := k2.trans (hb3.mono k2.size)
        have g4 := (X3 4 _ rfl).1
        have e4 := (N3 4 _ rfl).1
        clear f0 f1 f2 f3 f4 f5 f6 f7 hb3 X3 N3 HX2 HN2 CM
        go_wp2_with fail
        go_ret
        exact ⟨rfl, k3⟩
    · have hF : R = false := HNO.out (fun h => hm (HPA.out h.2).1)
      have hm2 : mySg s = false := by simpa using hm
      rw [hm2] at CM
      subst hF
      clear hm hm2 HIN HNO HPA CEq
      go_enter Try.func20, Try.ntmps20
      go_wp2_with fail
      have B0 := BoxL.new w [.int .i64 s.sch, .int .i64 s.dim, .slice AL s.L.length cL, .slice AV s.V.length cV, .int .i64 s.scale, .int .i64 s.wide, .slice AE s.lev.length cE, .slice AN s.neg.length cN] 27
      refine (CQ.out _ (by go_grown)).mono ?_
      rintro _ w1 ⟨A1, c1, rfl, r1, hb⟩
      have HB1 := hid (B0.below hb (by simp))
      have k1 : Below w.heap.size w w1 := Below.trans (by go_grown) (hb.mono (by simp))
      have hg1 : w.heap.size < w1.heap.size := by have := hb.size; simp at this; omega
      clear B0 hb CQ r1
      have G2 : Below w1.heap.size w1 (w1.alloc (.cells #[.int .i64 3, .int .i64 (v.length : Int), .slice none 0 0, .slice none 0 0, .int .i64 M, .int .i64 0, .slice none 0 0, .slice A1 nl c1] 27)) := (Below.refl _ _).alloc (Nat.le_refl _) _
      obtain ⟨w2, hw2⟩ : ∃ w2, w1.alloc (.cells #[.int .i64 3, .int .i64 (v.length : Int), .slice none 0 0, .slice none 0 0, .int .i64 M, .int .i64 0, .slice none 0 0, .slice A1 nl c1] 27) = w2 := ⟨_, rfl⟩
      rw [hw2] at G2
      have X2 := HB1.out.below G2 hg1
      have k2 : Below w.heap.size w w2 := k1.trans (G2.mono k1.size)
      obtain ⟨⟨f0, f1, f2, f3, f4, f5, f6, f7⟩, _⟩ := X2.eight
      clear G2 X2 HB1
      go_wp2_with fail
      refine (CM.out _).mono ?_
      rintro _ w3 ⟨rfl, hb3⟩
      have k3 : Below w.heap.size w w3 := k2.trans (hb3.mono k2.size)
      clear f0 f1 f2 f3 f4 f5 f6 f7 hb3 CM
      go_wp2_with fail
      go_ret
      exact ⟨rfl, k3⟩
  · have hF : isSB v s = false := isSB_no (fun h => he h.1)
    have hS : sgS v = zeroS := if_neg he
    rw [hF]
    rw [hS] at CP
    obtain ⟨E, hE⟩ : ∃ E, mnE v = E := ⟨_, rfl⟩
    rw [hE] at CP he
    have hne : (E == 0) = false := beq_eq_false_iff_ne.2 he
    have CQ := hid (fun W (h : Below w.heap.size w W) => show Calls Try.prog 14 #[.slice A v.length c] W fun e w' => ∃ A' c', e = .returned (.tuple #[.agg #[.int .i64 0, .int .i64 0, .slice none 0 0, .slice none 0 0, .int .i64 0, .int .i64 0, .slice none 0 0, .slice A' 0 c'], .int .i64 E]) ∧ Below W.heap.size W w' from (CP.out W h).mono (by
      intro e w' H
      obtain ⟨A', c', h1, _, _, _, h2, h3⟩ := H
      exact ⟨A', c', h1, h3⟩))
    clear hF hS hE he uv ra rs CP CM hn
    go_enter Try.func20, Try.ntmps20
    go_wp2_with fail
    refine (CQ.out _ (by go_grown)).mono ?_
    rintro _ w1 ⟨A1, c1, rfl, hb⟩
    have k1 : Below w.heap.size w w1 := Below.trans (by go_grown) (hb.mono (by simp))
    have k2 : Below w.heap.size w (w1.alloc (.cells #[.int .i64 0, .int .i64 0, .slice none 0 0, .slice none 0 0, .int .i64 0, .int .i64 0, .slice none 0 0, .slice A1 0 c1] 27)) := k1.alloc k1.size _
    clear hb CQ
    go_wp2_with fail
    go_ret
    exact ⟨rfl, k2⟩
end Go.Proofs.Ytkcckncglbjjdaa
/- Signs, by the program: whether lists are as long as one another, what most say, how many turn. -/
namespace Go.Proofs.Ytkcckncglbjjdaa
open Go.RowKit
set_option maxHeartbeats 1000000
set_option maxRecDepth 100000
set_option linter.unusedVariables false
theorem sn_match {A : Option Addr} {c : Nat} (ls : List (List Bool)) (hl : ls.length ≤ 9223372036854775807) (hL : ∀ u ∈ ls, u.length ≤ 9223372036854775807) (w : World) {B : Nat} (ra : RdBs w B A ls) :
    Calls Try.prog 39 #[.slice A ls.length c] w fun e w' => e = .returned (.int .i64 (ftE ls)) ∧ w = w' := by
  have RA := hid ra
  have HLN := hid hL
  have H3 := hid (fun (k : Nat) (x : List Bool) (hx : ls[k]? = some x) (h : 4096 < x.length) => ftE_long hx h)
  have H4 := hid (fun (hs : ∀ x ∈ ls, x.length ≤ 4096) (k : Nat) (x : List Bool) (hx : ls[k]? = some x) (h : x.length ≠ (ls.headD []).length) => ftE_odd hs hx h)
  have H0 := hid (fun (hs : ∀ x ∈ ls, x.length ≤ 4096) (h : ∀ x ∈ ls, x.length = (ls.headD []).length) => ftE_fine hs h)
  obtain ⟨R, hR⟩ : ∃ R, ftE ls = R := ⟨_, rfl⟩
  rw [hR] at H3 H4 H0 ⊢
  obtain ⟨m, hm⟩ : ∃ m, (ls.headD []).length = m := ⟨_, rfl⟩
  rw [hm] at H4 H0
  have HM := hid hm
  clear hR hm ra hL
  go_enter Try.func39, Try.ntmps39
  go_wp2_with fail
  go_loop [4, 9] (fun x4 i => ∃ k : Nat, k ≤ ls.length ∧ i = .int .i64 k ∧ ∀ x ∈ ls.take k, x.length ≤ 4096) (fun _ i => ls.length - (intOf i).toNat)
  case atStart => exact ⟨0, by omega, rfl, by simp⟩
  case round =>
    obtain ⟨k, hk, rfl, hs⟩ := hrel
    have HS := hid hs
    clear hs
    by_cases hlt : k < ls.length
    · obtain ⟨b1, o1, A1, c1, x, rfl, l1, ex, d1, r1⟩ := RA.out.at_ hlt
      by_cases hx : (x.length : Int) > 4096
      · have hF := H3.out k x ex (by omega)
        subst hF
        clear ex r1
        go_wp2_with fail
        go_ret
        exact ⟨rfl, rfl⟩
      · have HS2 := hid (mem_take_snoc ex HS.out (show x.length ≤ 4096 by omega))
        clear ex r1
        go_wp2_with fail
        go_round
        case rel => exact ⟨k + 1, by omega, by go_num, HS2.out⟩
        case measure => simp [intOf]; omega
    · have hke : k = ls.length := by omega
      have HA := hid (show ∀ x ∈ ls, x.length ≤ 4096 by have h := HS.out; rw [hke, List.take_length] at h; exact h)
      clear HS
      go_wp2_with fail
      go_loop [6, 19] (fun x6 i => ∃ j : Nat, j ≤ ls.length ∧ i = .int .i64 j ∧ ∀ x ∈ ls.take j, x.length = m) (fun _ i => ls.length - (intOf i).toNat)
      case atStart => exact ⟨0, by omega, rfl, by simp⟩
      case round =>
        obtain ⟨j, hj, rfl, hs⟩ := hrel
        have HS := hid hs
        clear hs
        by_cases hjl : j < ls.length
        · obtain ⟨b1, o1, A1, c1, x, e1, l1, ex, d1, r1⟩ := RA.out.at_ hjl
          obtain ⟨b2, o2, A2, c2, y, e2, l2, ey, d2, r2⟩ := RA.out.at_ (k := 0) (by omega)
          rw [e1] at e2
          injection e2 with e2
          injection e2 with e3 e4
          subst e3 e4
          have hy : y.length = m := by rw [← HM.out, head_at ey]
          rw [hy] at d2
          rw [Nat.add_zero] at d2
          have h0 : 0 < ls.length := by omega
          by_cases hx : x.length = m
          · have HS2 := hid (mem_take_snoc ex HS.out hx)
            rw [hx] at d1
            have t1 : ((m : Int) != (m : Int)) = false := by simp
            subst e1
            clear ex ey r1 r2 hy hx
            go_wp2_with fail
            go_round
            case rel => exact ⟨j + 1, by omega, by go_num, HS2.out⟩
            case measure => simp [intOf]; omega
          · have hF := H4.out HA.out j x ex hx
            have t1 : ((x.length : Int) != (m : Int)) = true := by simp; omega
            have t2 : (x.length != m) = true := by simpa using hx
            subst hF e1
            clear ex ey r1 r2 hy hx
            go_wp2_with fail
            go_ret
            exact ⟨rfl, rfl⟩
        · have hje : j = ls.length := by omega
          have hF := H0.out HA.out (by have h := HS.out; rw [hje, List.take_length] at h; exact h)
          subst hF
          clear HS hje hke
          go_wp2_with fail
          go_ret
          exact ⟨rfl, rfl⟩
theorem votes_cl {g n : Nat} {A : Option Addr} {c : Nat} {w : World} (hc : w.cell? ⟨g, 0, none⟩ = some (.slice A n c)) (hn : n ≤ 1000) (y : Int) :
    Calls Try.prog 41 (#[.int .i64 y] ++ #[.pointer (some ⟨g, 0, none⟩)]) w fun e w' => e = .returned (.bool (decide (y > ((n / 2 : Nat) : Int)))) ∧ w = w' := by
  obtain ⟨q, hq⟩ : ∃ q, n / 2 = q := ⟨_, rfl⟩
  have i1 : (n : Int) / 2 = (q : Int) := by rw [← hq]; simp
  have i2 : (n : Int).tdiv 2 = (q : Int) := by rw [Int.tdiv_eq_ediv_of_nonneg (by omega)]; exact i1
  have i3 : q ≤ 1000 := by omega
  rw [hq]
  clear hq
  go_enter Try.func41, Try.ntmps41
  go_wp2_with fail
  go_ret
  exact ⟨rfl, rfl⟩
theorem votes_map (ls : List (List Bool)) (m : Nat) : ((List.range m).map fun j => (cntB ls j : Int)).map (fun y => decide (y > ((ls.length / 2 : Nat) : Int))) = votL ls m := by
  unfold votL
  rw [List.map_map]
  refine List.map_congr_left fun j _ => ?_
  unfold votB
  show decide ((cntB ls j : Int) > ((ls.length / 2 : Nat) : Int)) = _
  exact decide_eq_decide.2 (by omega)
set_option maxHeartbeats 4000000 in
theorem sn_Votes {A : Option Addr} {c : Nat} (ls : List (List Bool)) (hl : ls.length ≤ 1000) (hL : ∀ u ∈ ls, u.length ≤ 9223372036854775807) (w : World) (ra : RdBs w w.heap.size A ls) :
    Calls Try.prog 22 #[.slice A ls.length c] w (OwnBl w.heap.size (vtV ls) (ftE ls) w) := by
  have CF := hid (fun W (h : Below w.heap.size w W) => sn_match (A := A) (c := c) ls (by omega) hL W (B := w.heap.size) (ra.below h))
  have g0 := one_cell w (.slice A ls.length c) 41
  have HB0 := hid g0.1
  have K0 := hid g0.2
  clear g0
  by_cases he : ftE ls = 0
  · have hv : vtV ls = votL ls (ls.headD []).length := if_pos he
    rw [hv, he]
    rw [he] at CF
    by_cases h0 : ls = []
    · subst h0
      clear he hv ra hL
      go_enter Try.func22, Try.ntmps22
      go_wp2_with fail
      refine (CF.out _ K0.out).mono ?_
      rintro _ _ ⟨rfl, rfl⟩
      go_wp2_with fail
      go_ret2
      exact ⟨none, 0, rfl, own_nil _ _ _, K0.out⟩
    · have h0' : 0 < ls.length := List.length_pos_iff.2 h0
      have t1 : ((ls.length : Int) == 0) = false := beq_eq_false_iff_ne.2 (by omega)
      have t2 : (ls.length == 0) = false := beq_eq_false_iff_ne.2 (by omega)
      have hft := ftE_ok.1 he
      obtain ⟨b0, o0, A0, c0, x0, e0, l0, ex0, d0, r0⟩ := ra.at_ h0'
      have hm0 : (ls.headD []).length = x0.length := by rw [head_at ex0]
      have hm1 := (hft x0 (List.mem_of_getElem? ex0)).1
      obtain ⟨m, hm⟩ : ∃ m, (ls.headD []).length = m := ⟨_, rfl⟩
      rw [hm] at hm0 hft ⊢
      rw [← hm0] at d0 hm1
      have HFT := hid hft
      have HCS := hid (fun (k i : Nat) (x : List Bool) (hx : ls[k]? = some x) (y : Bool) (hy : x[i]? = some y) => cntB_step hx hy)
      have HCL := hid (fun k i => show cntB (ls.take k) i ≤ 1000 by have := cntB_le (ls.take k) i; rw [List.length_take] at this; omega)
      have HCE := hid (fun i => show cntB (ls.take ls.length) i = cntB ls i by rw [List.take_length])
      have HC0 := hid (fun i => show cntB (ls.take 0) i = 0 from rfl)
      have HVM := hid (votes_map ls m)
      have HVL := hid (votL_len ls m)
      obtain ⟨Q, hQ⟩ : ∃ Q, votL ls m = Q := ⟨_, rfl⟩
      rw [hQ] at HVM HVL ⊢
      have RA := hid ra
      have hmk := fun W => run_make_row' (P := Try.prog) 23 3 (.int .i64 0) 8 Try.underlying23 info_int rfl .i64 .i64 m (by omega) (by omega) W
      subst e0
      rw [Nat.add_zero] at d0
      have D0 := hid d0
      have L0 := hid l0
      clear hv he h0 hft ra hL hm hm0 ex0 r0 d0 l0 hQ
      go_enter Try.func22, Try.ntmps22
      go_wp2_with fail
      refine (CF.out _ K0.out).mono ?_
      rintro _ w1 ⟨rfl, hw1⟩
      rw [hw1] at HB0 K0
      have hz1 : w1.heap.size = w.heap.size + 1 := by rw [← hw1]; simp
      have HZ := hid hz1
      have cb := HB0.out
      have d0 : w1.cell? ⟨b0, o0, none⟩ = some (.slice A0 m c0) := by rw [K0.out.cell (p := ⟨b0, o0, none⟩) L0.out]; exact D0.out
      have KW := hid (show Below w.heap.size w w1 from K0.out)
      have cb2 : (w1.alloc (Obj.cells (madeCells #[Value.int IntKind.i64 0] m) 3)).cell? ⟨w.heap.size, 0, none⟩ = some (.slice (some ⟨b0, o0, none⟩) ls.length c) := by
        rw [((Below.refl w1.heap.size w1).alloc (Nat.le_refl _) _).cell (p := ⟨w.heap.size, 0, none⟩) (by show w.heap.size < w1.heap.size; omega)]; exact cb
      clear CF hw1 hz1
      go_wp2_with fail
      clear d0 cb cb2
      go_loopw [7, 8, 9, 27] (fun x7 x8 x9 i wr => ∃ k : Nat, k ≤ ls.length ∧ i = .int .i64 k ∧ wr.rowIs w1.heap.size 3 m (fun j => .int .i64 (cntB (ls.take k) j : Int)) ∧ Below w1.heap.size w1 wr) (fun _ _ _ i _ => ls.length - (intOf i).toNat)
      case atStart => exact ⟨0, by omega, rfl, (World.rowIs_made w1 (.int .i64 0) m _).congr fun j hj => by rw [HC0.out]; rfl, by go_grown⟩
      case round =>
        clear hmk
        obtain ⟨k, hk, rfl, hrow, hbel⟩ := hrel
        by_cases hlt : k < ls.length
        · have HR := hid hrow
          have HBL := hid hbel
          obtain ⟨b1, o1, A1, c1, x, e1, l1, ex, d1', r1⟩ := RA.out.at_ hlt
          have d1 : wr.cell? ⟨b1, o1 + k, none⟩ = some (.slice A1 x.length c1) := by rw [(KW.out.trans (hbel.mono KW.out.size)).cell (p := ⟨b1, o1 + k, none⟩) l1]; exact d1'
          have hxm : x.length = m := (HFT.out x (List.mem_of_getElem? ex)).2
          rw [hxm] at d1
          injection e1 with e1
          injection e1 with e5 e6
          subst e5 e6
          have HX := hid (fun i y (hy : x[i]? = some y) => HCS.out k i x ex y hy)
          have HXM := hid hxm
          have R1 := hid r1
          clear ex r1 hrow hbel hxm d1'
          go_wp2_with fail
          clear d1
          go_loopw [8, 9, 33] (fun x8 x9 i wr2 => ∃ q : Nat, q ≤ m ∧ i = .int .i64 q ∧ wr2.rowIs w1.heap.size 3 m (fun j => .int .i64 (if j < q then (cntB (ls.take (k + 1)) j : Int) else (cntB (ls.take k) j : Int))) ∧ Below w1.heap.size w1 wr2) (fun _ _ i _ => m - (intOf i).toNat)
          case atStart => exact ⟨0, by omega, rfl, HR.out.congr fun j hj => by rw [if_neg (by omega)], HBL.out⟩
          case round =>
            obtain ⟨q, hq, rfl, hrow2, hbel2⟩ := hrel
            by_cases hql : q < m
            · obtain ⟨b3, o3, y, e3, l3, ey, d3⟩ := (R1.out.below (KW.out.trans (hbel2.mono KW.out.size))).at_ (k := q) (by rw [HXM.out]; exact hql)
              have hst := HX.out q y ey
              have hcl := HCL.out k q
              have c3 := hrow2.cell hql
              rw [if_neg (Nat.lt_irrefl q)] at c3
              have f3 := hrow2.frozen q
              obtain ⟨n, hn⟩ : ∃ n, cntB (ls.take k) q = n := ⟨_, rfl⟩
              rw [hn] at hst hcl c3
              have HN := hid hn
              have HR2 := hid hrow2
              have d4 : wr.cell? ⟨b3, o3 + q, none⟩ = some (.bool y) := d3
              subst e3
              clear ey hn hrow2 d3
              cases y with
              | true =>
                have HST := hid (show cntB (ls.take (k + 1)) q = n + 1 from hst)
                clear hst
                go_wp2_with fail
                go_roundw
                case rel =>
                  refine ⟨q + 1, by omega, by go_num, (HR2.out.set q (.int .i64 ((n : Int) + 1))).congr fun j hj => ?_, hbel2.setCell (Nat.le_refl _) _⟩
                  by_cases e : j = q
                  · subst e
                    rw [if_pos rfl, if_pos (by omega), HST.out]; rfl
                  · rw [if_neg e]
                    by_cases e2 : j < q
                    · rw [if_pos e2, if_pos (by omega)]
                    · rw [if_neg e2, if_neg (by omega)]
                case measure => simp [intOf]; omega
              | false =>
                have HST := hid (show cntB (ls.take (k + 1)) q = n from hst)
                clear hst
                go_wp2_with fail
                go_roundw
                case rel =>
                  refine ⟨q + 1, by omega, by go_num, HR2.out.congr fun j hj => ?_, hbel2⟩
                  by_cases e : j = q
                  · subst e
                    rw [if_neg (Nat.lt_irrefl _), if_pos (by omega), HST.out, HN.out]
                  · by_cases e2 : j < q
                    · rw [if_pos e2, if_pos (by omega)]
                    · rw [if_neg e2, if_neg (by omega)]
                case measure => simp [intOf]; omega
            · obtain rfl : q = m := by omega
              have HR2 := hid hrow2
              clear hrow2
              go_wp2_with fail
              go_roundw
              case rel => exact ⟨k + 1, by omega, by go_num, HR2.out.congr fun j hj => by rw [if_pos hj], hbel2⟩
              case measure => simp [intOf]; omega
        · obtain rfl : k = ls.length := by omega
          have hrw := hrow.congr (g := fun j => .int .i64 (cntB ls j : Int)) (fun j hj => by rw [HCE.out])
          have hown := own_made (B := w1.heap.size) (w' := w) hrw (Nat.le_refl _) (by unfold maxLen; omega)
          obtain ⟨V, hV⟩ : ∃ V, ((List.range m).map fun j => (cntB ls j : Int)) = V := ⟨_, rfl⟩
          have hVl : V.length = m := by rw [← hV]; simp
          have hVm : V.map (fun y => decide (y > ((ls.length / 2 : Nat) : Int))) = Q := by rw [← hV]; exact HVM.out
          have rv : Rd (Value.int .i64) wr wr.heap.size (some ⟨w1.heap.size, 0, none⟩) V := by
            refine own_rd (base := w1.heap.size) (e := 3) (c := m) ?_
            rw [hVl, ← hV, List.map_map]
            exact hown
          have kw : Below w.heap.size w wr := KW.out.trans (hbel.mono KW.out.size)
          have hcb : wr.cell? ⟨w.heap.size, 0, none⟩ = some (.slice (some ⟨b0, o0, none⟩) ls.length c) := by
            rw [hbel.cell (p := ⟨w.heap.size, 0, none⟩) (by show w.heap.size < w1.heap.size; have := HZ.out; omega)]; exact HB0.out
          have hlb := lt_of_cell hcb
          have CE := hid (show Calls Try.prog 40 #[.slice (some ⟨w1.heap.size, 0, none⟩) m m, .func (.func 41) #[] #[.pointer (some ⟨w.heap.size, 0, none⟩)]] wr fun e w' => ∃ A' c', e = .returned (.slice A' Q.length c') ∧ w'.ownsRow wr.heap.size 4 1 (.slice A' Q.length c') Q.length (Q.map Value.bool) ∧ Below wr.heap.size wr w' from by
            have h := each_nb (A := some ⟨w1.heap.size, 0, none⟩) (c := m) 41 #[.pointer (some ⟨w.heap.size, 0, none⟩)] V (by omega) (fun y => decide (y > ((ls.length / 2 : Nat) : Int))) wr (cl_enter 41 (by kernel_rfl)) rv (fun y hy W2 h2 => votes_cl (n := ls.length) (A := some ⟨b0, o0, none⟩) (c := c) (by rw [h2.cell (p := ⟨w.heap.size, 0, none⟩) hlb]; exact hcb) hl y)
            rw [hVm, hVl] at h
            rw [HVL.out]
            exact h)
          have KWR := hid kw
          clear hrw hown hV hVl hVm rv kw hcb hrow HVL HVM
          go_wp2_with fail
          refine CE.out.mono ?_
          rintro _ w5 ⟨A5, c5, rfl, o5, hb5⟩
          have hfin : OwnBl w.heap.size Q 0 w (.returned (.tuple #[.slice A5 Q.length c5, .int .i64 0])) w5 := ⟨A5, c5, rfl, own_base o5 KWR.out.size, KWR.out.trans (hb5.mono KWR.out.size)⟩
          clear o5 hb5 CE
          go_wp2_with fail
          go_ret2
          exact hfin
  · have hv : vtV ls = [] := if_neg he
    rw [hv]
    obtain ⟨E, hE⟩ : ∃ E, ftE ls = E := ⟨_, rfl⟩
    rw [hE] at CF he ⊢
    have hne : (E != 0) = true := by simpa using he
    clear hv he hE ra hL
    go_enter Try.func22, Try.ntmps22
    go_wp2_with fail
    refine (CF.out _ K0.out).mono ?_
    rintro _ _ ⟨rfl, rfl⟩
    go_wp2_with fail
    go_ret2
    exact ⟨none, 0, rfl, own_nil _ _ _, K0.out⟩
theorem sn_Turns {A B : Option Addr} {c d : Nat} (a b : List Bool) (ha : a.length ≤ 9223372036854775807) (hb : b.length ≤ 9223372036854775807) (w : World) (ra : Rd Value.bool w w.heap.size A a) (rb : Rd Value.bool w w.heap.size B b) :
    Calls Try.prog 24 #[.slice A a.length c, .slice B b.length d] w fun e w' => e = .returned (.tuple #[.int .i64 (trnN a b : Int), .int .i64 (ftE [a, b])]) ∧ Below w.heap.size w w' := by
  have g1 : Below w.heap.size w (w.alloc (.cells #[.slice A a.length c, .slice B b.length d] 25)) := (Below.refl _ _).alloc (Nat.le_refl _) _
  have rr : RdBs (w.alloc (.cells #[.slice A a.length c, .slice B b.length d] 25)) (w.alloc (.cells #[.slice A a.length c, .slice B b.length d] 25)).heap.size (some ⟨w.heap.size, 0, none⟩) [a, b] := rdbs_new w 25 [a, b] [.slice A a.length c, .slice B b.length d] (fun k xs hx => by
    match k, hx with
    | 0, hx => simp at hx; subst hx; exact ⟨A, c, rfl, ra⟩
    | 1, hx => simp at hx; subst hx; exact ⟨B, d, rfl, rb⟩
    | k + 2, hx => simp at hx)
  have CF := hid (sn_match (A := some ⟨w.heap.size, 0, none⟩) (c := 2) [a, b] (by simp) (by intro u hu; simp at hu; rcases hu with rfl | rfl; exact ha; exact hb) _ rr)
  rw [show ([a, b] : List (List Bool)).length = 2 from rfl] at CF
  have RA := hid (ra.on g1)
  have RB := hid (rb.on g1)
  have G1 := hid g1
  by_cases he : ftE [a, b] = 0
  · obtain ⟨h1, h2, h3⟩ := trnN_ok he
    rw [he, h1]
    rw [he] at CF
    have HS := hid (fun m => show trnM a b (m + 1) = trnM a b m + if a.getD m false = b.getD m false then 0 else 1 from rfl)
    have HLE := hid (fun m => trnM_le a b m)
    have H0 : Hid (trnM a b 0 = 0) := rfl
    obtain ⟨F, hF⟩ : ∃ F, trnM a b = F := ⟨_, rfl⟩
    rw [hF] at HS HLE H0 ⊢
    have HBL := hid h3
    clear he h1 h3 ra rb rr g1 hF
    go_enter Try.func24, Try.ntmps24
    go_wp2_with fail
    refine CF.out.mono ?_
    rintro _ w1 ⟨rfl, hw1⟩
    rw [hw1] at RA RB G1
    clear CF hw1
    go_wp2_with fail
    go_loopw [7, 8, 9, 19] (fun x7 x8 x9 i wr => ∃ k : Nat, k ≤ a.length ∧ i = .int .i64 k ∧ x7 = .int .i64 (F k : Int) ∧ ∃ n, wr = w1.drewN n) (fun _ _ _ i _ => a.length - (intOf i).toNat)
    case atStart => exact ⟨0, by omega, rfl, by rw [H0.out]; rfl, 0, rfl⟩
    case round =>
      obtain ⟨k, hk, rfl, rfl, n, rfl⟩ := hrel
      by_cases hlt : k < a.length
      · obtain ⟨b1, o1, x, rfl, l1, ex, d1⟩ := RA.out.at_ hlt
        have hlb : k < b.length := by rw [HBL.out]; exact hlt
        obtain ⟨b2, o2, y, rfl, l2, ey, d2⟩ := RB.out.at_ hlb
        have hs := HS.out k
        have hle := HLE.out k
        rw [List.getD_eq_getElem?_getD, List.getD_eq_getElem?_getD, ex, ey] at hs
        obtain ⟨f, hf⟩ : ∃ f, F k = f := ⟨_, rfl⟩
        rw [hf] at hs hle ⊢
        clear ex ey hf
        by_cases hxy : x = y
        · have HSK := hid (show F (k + 1) = f by rw [hs]; simp [hxy])
          have t1 : (y != y) = false := by simp
          subst hxy
          clear hs
          go_wp2_with fail
          go_roundw
          case rel => exact ⟨k + 1, by omega, by go_num, by rw [HSK.out], _, rfl⟩
          case measure => simp [intOf]; omega
        · have HSK := hid (show F (k + 1) = f + 1 by rw [hs]; simp [hxy])
          have t1 : (x != y) = true := by simpa using hxy
          have t2 : (x == y) = false := by simpa using hxy
          have t3 : (!(x == y)) = true := by simpa using hxy
          clear hs hxy
          go_wp2_with fail
          go_roundw
          case rel => exact ⟨k + 1, by omega, by go_num, by rw [HSK.out]; rfl, _, rfl⟩
          case measure => simp [intOf]; omega
      · obtain rfl : k = a.length := by omega
        go_wp2_with fail
        go_ret2
        exact ⟨rfl, G1.out.trans (belowN _ _ _)⟩
  · have hv : trnN a b = 0 := if_neg he
    rw [hv]
    obtain ⟨E, hE⟩ : ∃ E, ftE [a, b] = E := ⟨_, rfl⟩
    rw [hE] at CF he ⊢
    have hne : (E != 0) = true := by simpa using he
    clear hv he hE ra rb rr g1
    go_enter Try.func24, Try.ntmps24
    go_wp2_with fail
    refine CF.out.mono ?_
    rintro _ w1 ⟨rfl, hw1⟩
    rw [hw1] at G1
    go_wp2_with fail
    go_ret2
    exact ⟨rfl, G1.out⟩

end Go.Proofs.Ytkcckncglbjjdaa
/- The landed sign's contracts: imports alone. -/
namespace Go.Proofs.Ytkcckncglbjjdaa
end Go.Proofs.Ytkcckncglbjjdaa
/- The chapter's example of signs; how many numbers and lists are few enough; what is pressed, part by part. (SgP: the program's Mean, Press, Loosen, Is, Votes, Turns as sn_Mean ..) -/
namespace Go.Proofs.Ytkcckncglbjjdaa
open Go.RowKit
set_option maxHeartbeats 400000
set_option maxRecDepth 100000
set_option linter.unusedVariables false
theorem sg_grow (w : World) (o : Obj) : Below w.heap.size w (w.alloc o) := (Below.refl _ _).alloc (Nat.le_refl _) o
theorem sgS_parts {v : List Int} (h : mnE v = 0) : sgS v = ⟨3, v.length, [], [], mnV v, 0, [], sgN v⟩ := if_pos h
/-- What is pressed, where nothing is wrong. -/
theorem gs_parts {base : Nat} {v : List Int} {w w' : World} {e : Ending} (h : mnE v = 0) (H : OwnSg base (sgS v) (mnE v) w e w') :
    ∃ A c, e = .returned (.tuple #[.agg #[.int .i64 3, .int .i64 (v.length : Int), .slice none 0 0, .slice none 0 0, .int .i64 (mnV v), .int .i64 0, .slice none 0 0, .slice A v.length c], .int .i64 0]) ∧
      w'.ownsRow base 4 1 (.slice A v.length c) v.length ((sgN v).map Value.bool) ∧ Below base w w' := by
  rw [h, sgS_parts h] at H
  obtain ⟨A, c, he, _, _, _, o, hb⟩ := H
  simp only [encT, sgN_len, List.length_nil] at he o
  exact ⟨A, c, he, o, hb⟩
/-- What is pressed, where something is wrong. -/
theorem gs_none {base : Nat} {v : List Int} {w w' : World} {e : Ending} (h : ¬ mnE v = 0) (H : OwnSg base (sgS v) (mnE v) w e w') :
    ∃ A c, e = .returned (.tuple #[.agg #[.int .i64 0, .int .i64 0, .slice none 0 0, .slice none 0 0, .int .i64 0, .int .i64 0, .slice none 0 0, .slice A 0 c], .int .i64 (mnE v)]) ∧ Below base w w' := by
  rw [show sgS v = zeroS from if_neg h] at H
  obtain ⟨A, c, he, _, _, _, _, hb⟩ := H
  exact ⟨A, c, he, hb⟩
/-- .. and it reads so. -/
theorem gs_rd {base : Nat} {v : List Int} {w' : World} {A : Option Addr} {c : Nat} (h : mnE v = 0) (o : w'.ownsRow base 4 1 (.slice A v.length c) v.length ((sgN v).map Value.bool)) :
    RdS w' w'.heap.size (sgS v) ⟨none, 0, none, 0, none, 0, A, c⟩ := by
  rw [sgS_parts h]
  refine ⟨Rd.none_, Rd.none_, Rd.none_, own_rd (base := base) (e := 4) (c := c) ?_⟩
  rw [sgN_len]; exact o
set_option maxHeartbeats 2000000 in
theorem sg_live (w : World) :
    Calls Try.prog 9 #[] w fun e w' => e = .returned (.bool true) ∧ Below w.heap.size w w' := by
  have hE : mnE [3, -5, 0] = 0 := by decide
  have hM : mnV [3, -5, 0] = 2 := by decide
  have u5 : ∀ x ∈ ([3, -5, 0] : List Int), I64 x := by intro x hx; simp at hx; unfold I64; omega
  have C1 := hid (fun (A : Option Addr) W (h : Rd (Value.int .i64) W W.heap.size A [3, -5, 0]) => (sn_Press (A := A) (c := 3) [3, -5, 0] u5 (by decide) W h).mono fun e w' => gs_parts hE)
  have C2 := hid (fun (A1 : Option Addr) (c1 : Nat) W (h : RdS W W.heap.size (sgS [3, -5, 0]) ⟨none, 0, none, 0, none, 0, A1, c1⟩) => sn_Loosen (sgS [3, -5, 0]) ⟨none, 0, none, 0, none, 0, A1, c1⟩ ((sgS_ln _).more (by decide)) sgS_wf W h)
  have hLE : lsgE (sgS [3, -5, 0]) = 0 := (sg_loose hE).1
  have hLV : lsgV (sgS [3, -5, 0]) = [2, -2, 2] := by rw [(sg_loose hE).2.1]; decide
  rw [hLE, hLV] at C2
  have C3 := hid (fun (A B : Option Addr) (c d : Nat) W (h1 : Rd (Value.int .i64) W W.heap.size A [2, -2, 2]) (h2 : Rd (Value.int .i64) W W.heap.size B [2, -2, 2]) => rSame_any (A := A) (B := B) (c := c) (d := d) [2, -2, 2] [2, -2, 2] (by decide) (by decide) W h1 h2)
  rw [eqB_self] at C3
  have HRD := hid (fun (base : Nat) (w' : World) (A : Option Addr) (c : Nat) o => gs_rd (base := base) (w' := w') (A := A) (c := c) hE o)
  have l1 := sgN_len [3, -5, 0]
  rw [hM] at C1
  rw [sgS_parts hE, hM] at C2 HRD
  obtain ⟨NG, hNG⟩ : ∃ L, sgN [3, -5, 0] = L := ⟨_, rfl⟩
  rw [hNG] at C1 C2 HRD l1
  have C4 := hid (fun A1 c1 W h => show Calls Try.prog 16 #[.agg #[.int .i64 3, .int .i64 3, .slice none 0 0, .slice none 0 0, .int .i64 2, .int .i64 0, .slice none 0 0, .slice A1 3 c1]] W (OwnE 2 .i64 W.heap.size [2, -2, 2] 0 W) by
    have h := C2.out A1 c1 W h
    simp only [encT, l1] at h
    exact h)
  rw [show ([3, -5, 0] : List Int).length = 3 from rfl] at C1 HRD
  rw [show ([2, -2, 2] : List Int).length = 3 from rfl] at C3
  clear hE hM u5 hLE hLV l1 hNG C2
  go_enter Try.func9, Try.ntmps9
  go_wp2_with fail
  refine (C1.out _ _ (rd_new (enc := Value.int .i64) w 2 [3, -5, 0])).mono ?_
  rintro _ w1 ⟨A1, c1, rfl, o1, hb1⟩
  have k1 : Below w.heap.size w w1 := Below.trans (sg_grow w _) (hb1.mono (by simp))
  have RD := hid (HRD.out _ w1 A1 c1 o1)
  clear o1 hb1 HRD C1
  have g1 := sg_grow w1 (.cells #[.int .i64 3, .int .i64 3, .slice none 0 0, .slice none 0 0, .int .i64 2, .int .i64 0, .slice none 0 0, .slice A1 3 c1] 27)
  have n1 : BoxL (w1.alloc (.cells #[.int .i64 3, .int .i64 3, .slice none 0 0, .slice none 0 0, .int .i64 2, .int .i64 0, .slice none 0 0, .slice A1 3 c1] 27)) w1.heap.size [.int .i64 3, .int .i64 3, .slice none 0 0, .slice none 0 0, .int .i64 2, .int .i64 0, .slice none 0 0, .slice A1 3 c1] := BoxL.new w1 [.int .i64 3, .int .i64 3, .slice none 0 0, .slice none 0 0, .int .i64 2, .int .i64 0, .slice none 0 0, .slice A1 3 c1] 27
  obtain ⟨w2, hw2⟩ : ∃ wn, w1.alloc (.cells #[.int .i64 3, .int .i64 3, .slice none 0 0, .slice none 0 0, .int .i64 2, .int .i64 0, .slice none 0 0, .slice A1 3 c1] 27) = wn := ⟨_, rfl⟩
  rw [hw2] at g1 n1
  have XB := hid n1
  obtain ⟨⟨f0, f1, f2, f3, f4, f5, f6, f7⟩, _⟩ := n1.eight
  have k2 := k1.trans (g1.mono k1.size)
  have RD2 := hid (RD.out.on g1)
  clear g1 RD k1
  go_wp2_with fail
  refine (C4.out _ _ w2 RD2.out).mono ?_
  rintro _ w3 ⟨A3, c3, rfl, o3, hb3⟩
  have k3 := k2.trans (hb3.mono k2.size)
  have XB3 := hid (XB.out.below hb3 (XB.out.lt (by simp)))
  have R3 := hid (own_rd o3)
  clear o3 hb3 XB RD2 k2 f0 f1 f2 f3 f4 f5 f6 f7 hw2 C4
  have f4 := (XB3.out 4 _ rfl).1
  have g3 := sg_grow w3 (.cells #[.int .i64 2, .int .i64 (-2), .int .i64 2] 2)
  have r3 := rd_new (enc := Value.int .i64) w3 2 [2, -2, 2]
  go_wp2_with fail
  refine (C3.out _ _ _ _ _ (R3.out.on g3) r3).mono ?_
  rintro _ w4 ⟨rfl, hb4⟩
  have k4 := k3.trans ((g3.trans (hb4.mono g3.size)).mono k3.size)
  clear r3 g3 hb4 R3 C3
  go_wp2_with fail
  go_ret
  exact ⟨by simp, k4⟩
/-- The greatest of lengths. -/
def mxB (n : Nat) (ls : List (List Bool)) : Nat := (ls.map List.length).foldl max n
theorem mxB_snoc {n : Nat} {ls : List (List Bool)} {k : Nat} {x : List Bool} (hx : ls[k]? = some x) : mxB n (ls.take (k + 1)) = max (mxB n (ls.take k)) x.length := by
  unfold mxB
  rw [List.take_add_one, hx]
  simp
theorem mxB_ge (n : Nat) : ∀ (ls : List (List Bool)), n ≤ mxB n ls ∧ (∀ x ∈ ls, x.length ≤ mxB n ls) := by
  unfold mxB
  intro ls
  induction ls generalizing n with
  | nil => exact ⟨Nat.le_refl _, by simp⟩
  | cons y t ih =>
    obtain ⟨h1, h2⟩ := ih (max n y.length)
    refine ⟨Nat.le_trans (Nat.le_max_left _ _) h1, fun x hx => ?_⟩
    rcases List.mem_cons.1 hx with rfl | hx
    · exact Nat.le_trans (Nat.le_max_right n x.length) h1
    · exact h2 x hx
/-- Few enough to be played. -/
def fewS (n : Nat) (ls : List (List Bool)) : Bool := decide (mxB n ls ≤ 5000 ∧ ls.length ≤ 30)
theorem fewS_ok {n : Nat} {ls : List (List Bool)} (h : fewS n ls = true) : n ≤ 5000 ∧ (∀ x ∈ ls, x.length ≤ 5000) ∧ ls.length ≤ 30 := by
  have h1 := of_decide_eq_true h
  obtain ⟨h2, h3⟩ := mxB_ge n ls
  exact ⟨by omega, fun x hx => by have := h3 x hx; omega, h1.2⟩
theorem sg_few {A B : Option Addr} {n c d : Nat} (ls : List (List Bool)) (hn : n ≤ 9223372036854775807) (hl : ls.length ≤ 9223372036854775807) (hL : ∀ u ∈ ls, u.length ≤ 9223372036854775807) (w : World) {L : Nat} (ra : RdBs w L B ls) :
    Calls Try.prog 10 #[.slice A n c, .slice B ls.length d] w fun e w' => e = .returned (.bool (fewS n ls)) ∧ w = w' := by
  have HR : Hid (fewS n ls = true ↔ ((mxB n ls : Int) ≤ 5000 ∧ (ls.length : Int) ≤ 30)) := hid (by unfold fewS; rw [decide_eq_true_iff]; omega)
  obtain ⟨R, hR⟩ : ∃ R, fewS n ls = R := ⟨_, rfl⟩
  rw [hR] at HR ⊢
  have RA := hid ra
  have HS := hid (fun (k : Nat) (x : List Bool) (hx : ls[k]? = some x) => mxB_snoc (n := n) hx)
  have HE := hid (show mxB n (ls.take ls.length) = mxB n ls by rw [List.take_length])
  have H0 : Hid (mxB n (ls.take 0) = n) := rfl
  have HLN := hid hL
  clear hR ra hL
  go_enter Try.func10, Try.ntmps10
  go_wp2_with fail
  go_loop [5, 7, 12] (fun x5 x7 i => ∃ k : Nat, k ≤ ls.length ∧ i = .int .i64 k ∧ x5 = .int .i64 (mxB n (ls.take k) : Int)) (fun _ _ i => ls.length - (intOf i).toNat)
  case atStart => exact ⟨0, by omega, rfl, by rw [H0.out]⟩
  case round =>
    obtain ⟨k, hk, rfl, rfl⟩ := hrel
    by_cases hlt : k < ls.length
    · obtain ⟨b1, o1, A1, c1, x, rfl, l1, ex, d1, r1⟩ := RA.out.at_ hlt
      have HSK := hid (HS.out k x ex)
      obtain ⟨m, hm⟩ : ∃ m, mxB n (ls.take k) = m := ⟨_, rfl⟩
      rw [hm] at HSK ⊢
      obtain ⟨z, hz⟩ : ∃ z, max m x.length = z := ⟨_, rfl⟩
      rw [hz] at HSK
      have hzi : max (m : Int) (x.length : Int) = (z : Int) := by omega
      clear ex r1 hm
      go_wp2_with fail
      go_round
      case rel => exact ⟨k + 1, by omega, by go_num, by rw [HSK.out, ← hz]⟩
      case measure => simp [intOf]; omega
    · obtain rfl : k = ls.length := by omega
      rw [HE.out]
      go_wp2_with fail
      all_goals (go_ret; refine ⟨ret_of ?_, rfl⟩; rw [HR.out]; first | (simp [*]; done) | (simp [*]; omega))
end Go.Proofs.Ytkcckncglbjjdaa
/- Whether a frame may be, and is the same; an acknowledgement: by the document. -/
namespace Go.Proofs.Ytkcckncglbjjdaa
open Go.RowKit
set_option maxHeartbeats 400000
set_option maxRecDepth 100000
set_option linter.unusedVariables false
abbrev encF (f : FrameV) (p : SentP) : Value := .agg #[.int .i64 f.knd, .int .i64 f.frm, .int .i64 f.stp, .int .i64 f.S.sch, .int .i64 f.S.dim, .slice p.AL f.S.L.length p.cL, .slice p.AV f.S.V.length p.cV, .int .i64 f.S.scale, .int .i64 f.S.wide, .slice p.AE f.S.lev.length p.cE, .slice p.AN f.S.neg.length p.cN]
end Go.Proofs.Ytkcckncglbjjdaa
/- An argument that is a frame, opened. -/
namespace Go.Proofs.Ytkcckncglbjjdaa
open Go.ChangeShapes Go.WideShapes Go.ChangeAt Go.RowKit
set_option maxRecDepth 100000
set_option linter.unusedVariables false
theorem cellsOf_int : Try.prog.cellsOf 3 = 1 := by kernel_rfl
theorem cellsOf_i64 : Try.prog.cellsOf 2 = 1 := by kernel_rfl
theorem cellsOf_u64 : Try.prog.cellsOf 68 = 1 := by kernel_rfl
theorem cellsOf_ints : Try.prog.cellsOf 23 = 1 := by kernel_rfl
theorem cellsOf_i64s : Try.prog.cellsOf 22 = 1 := by kernel_rfl
theorem cellsOf_u64s : Try.prog.cellsOf 24 = 1 := by kernel_rfl
theorem cellsOf_bools : Try.prog.cellsOf 25 = 1 := by kernel_rfl
theorem cellsOf_sent : Try.prog.cellsOf 27 = 8 := by kernel_rfl
section
variable {H : Type} {enc : TypeId × Value → H} {P : Program} {W : World}
theorem cell_nums {k : IntKind} {t e : TypeId} {cs : List Value} {fuel : Nat} {x : DataW H × List MemPlace} (ht : P.underlying t = some (.slice e)) (he : P.underlying e = some (.int k)) (hc : P.cellsOf e = 1)
    (hf : DataW.trod enc P W 0 (fun _ => true) true fuel t cs = some x) :
    ∃ A xs c, cs = [.slice A xs.length c] ∧ Rd (Value.int k) W W.heap.size A xs ∧ (∀ x ∈ xs, (Lit.int k x).wf = true) ∧ xs.length ≤ c ∧ c ≤ 9223372036854775807 := by
  rcases open_ints ht he hc hf with ⟨rfl, _⟩ | ⟨a, len, cap, zs, rfl, _, hl, hm, hz, _, hcell, hwz⟩
  · exact ⟨none, [], 0, rfl, Rd.none_, by intro x hx; simp at hx, by simp, by omega⟩
  · simp only [if_true] at hz
    have hlen : (zs.take len).length = len := by rw [List.length_take]; omega
    refine ⟨some a, zs.take len, cap, by rw [hlen], nums_rd rfl fun i hi => hcell i (by omega), fun x hx => hwz x (List.mem_of_mem_take hx), by omega, by unfold maxLen at hm; omega⟩
theorem cell_bls {t e : TypeId} {cs : List Value} {fuel : Nat} {x : DataW H × List MemPlace} (ht : P.underlying t = some (.slice e)) (he : P.underlying e = some .bool) (hc : P.cellsOf e = 1)
    (hf : DataW.trod enc P W 0 (fun _ => true) true fuel t cs = some x) :
    ∃ A xs c, cs = [.slice A xs.length c] ∧ Rd Value.bool W W.heap.size A xs ∧ xs.length ≤ c ∧ c ≤ 9223372036854775807 := by
  rcases Deep.open_bools ht he hc hf with ⟨rfl, _⟩ | ⟨a, len, cap, B, rfl, _, hl, hm, _, hcell⟩
  · exact ⟨none, [], 0, rfl, Rd.none_, by simp, by omega⟩
  · have hlen : ((List.range len).map B).length = len := by simp
    exact ⟨some a, (List.range len).map B, cap, by rw [hlen], bools_rd fun i hi => hcell i (by omega), by omega, by unfold maxLen at hm; omega⟩
/-- What bounds a vector that came in. -/
def capS (s : SentV) (p : SentP) : Prop := (s.L.length ≤ p.cL ∧ p.cL ≤ 9223372036854775807) ∧ (s.V.length ≤ p.cV ∧ p.cV ≤ 9223372036854775807) ∧ (s.lev.length ≤ p.cE ∧ p.cE ≤ 9223372036854775807) ∧ (s.neg.length ≤ p.cN ∧ p.cN ≤ 9223372036854775807)
theorem cell_sent {c0 c1 c2 c3 c4 c5 c6 c7 : Value} {fuel : Nat} {x : DataW H × List MemPlace}
    (hf : DataW.trod enc Try.prog W 0 (fun _ => true) true fuel 27 [c0, c1, c2, c3, c4, c5, c6, c7] = some x) :
    ∃ s p, [c0, c1, c2, c3, c4, c5, c6, c7] = [.int .i64 s.sch, .int .i64 s.dim, .slice p.AL s.L.length p.cL, .slice p.AV s.V.length p.cV, .int .i64 s.scale, .int .i64 s.wide, .slice p.AE s.lev.length p.cE, .slice p.AN s.neg.length p.cN] ∧ RdS W W.heap.size s p ∧ wfS s ∧ capS s p := by
  obtain ⟨xs, n, _, _, _, hlen, hg⟩ := DataW.trod_struct Try.underlying27 hf
  have h0 := hg 0 _ rfl
  have h1 := hg 1 _ rfl
  have h2 := hg 2 _ rfl
  have h3 := hg 3 _ rfl
  have h4 := hg 4 _ rfl
  have h5 := hg 5 _ rfl
  have h6 := hg 6 _ rfl
  have h7 := hg 7 _ rfl
  have hlen8 : xs.length = 8 := hlen
  obtain ⟨x0, x1, x2, x3, x4, x5, x6, x7, rfl⟩ : ∃ x0 x1 x2 x3 x4 x5 x6 x7, xs = [x0, x1, x2, x3, x4, x5, x6, x7] := by
    match xs, hlen8 with
    | [x0, x1, x2, x3, x4, x5, x6, x7], _ => exact ⟨x0, x1, x2, x3, x4, x5, x6, x7, rfl⟩
  simp [cellsOf_int] at h0
  simp [cellsOf_int] at h1
  simp [cellsOf_ints] at h2
  simp [cellsOf_i64s] at h3
  simp [cellsOf_i64] at h4
  simp [cellsOf_int] at h5
  simp [cellsOf_u64s] at h6
  simp [cellsOf_bools] at h7
  obtain ⟨sch, e0, _, w0⟩ := DataW.trod_int Try.underlying3 h0
  obtain ⟨dim, e1, _, w1⟩ := DataW.trod_int Try.underlying3 h1
  obtain ⟨AL, L, cL, e2, r2, w2, l2, m2⟩ := cell_nums Try.underlying23 Try.underlying3 cellsOf_int h2
  obtain ⟨AV, V, cV, e3, r3, w3, l3, m3⟩ := cell_nums Try.underlying22 Try.underlying2 cellsOf_i64 h3
  obtain ⟨scale, e4, _, w4⟩ := DataW.trod_int Try.underlying2 h4
  obtain ⟨wide, e5, _, w5⟩ := DataW.trod_int Try.underlying3 h5
  obtain ⟨AE, lev, cE, e6, r6, w6, l6, m6⟩ := cell_nums Try.underlying24 Try.underlying68 cellsOf_u64 h6
  obtain ⟨AN, neg, cN, e7, r7, l7, m7⟩ := cell_bls Try.underlying25 Try.underlying4 cells_bool h7
  simp only [List.cons.injEq, and_true] at e0 e1 e2 e3 e4 e5 e6 e7
  subst e0 e1 e2 e3 e4 e5 e6 e7
  exact ⟨⟨sch, dim, L, V, scale, wide, lev, neg⟩, ⟨AL, cL, AV, cV, AE, cE, AN, cN⟩, rfl, ⟨r2, r3, r6, r7⟩,
    ⟨I64.of_wf w0, I64.of_wf w1, fun x hx => I64.of_wf (w2 x hx), fun x hx => I64.of_wf (w3 x hx), I64.of_wf w4, I64.of_wf w5, fun x hx => U64.of_wf (w6 x hx)⟩, ⟨l2, m2⟩, ⟨l3, m3⟩, ⟨l6, m6⟩, ⟨l7, m7⟩⟩
theorem list11 {cs : List Value} (h : cs.length = 11) : ∃ a b c d e f g i j k l, cs = [a, b, c, d, e, f, g, i, j, k, l] := by
  match cs, h with
  | [a, b, c, d, e, f, g, i, j, k, l], _ => exact ⟨a, b, c, d, e, f, g, i, j, k, l, rfl⟩
end
end Go.Proofs.Ytkcckncglbjjdaa
/- An argument that is a pressed vector. -/
namespace Go.Proofs.Ytkcckncglbjjdaa
open Go.RowKit Go.ChangeShapes Go.WideShapes
set_option maxRecDepth 100000
set_option linter.unusedVariables false
section
variable {H : Type} {enc : TypeId × Value → H} {W : World}
theorem list8 {cs : List Value} (h : cs.length = 8) : ∃ a b c d e f g i, cs = [a, b, c, d, e, f, g, i] := by
  match cs, h with
  | [a, b, c, d, e, f, g, i], _ => exact ⟨a, b, c, d, e, f, g, i, rfl⟩
theorem open_sent {r : Reach} {v : Value} {d : DataW H} {ps : List MemPlace} {b0 : Nat}
    (hval : Value.okWide Try.prog W r b0 27 v) (hd : DataW.Trod enc Try.prog W 0 (fun _ => true) true 27 v d ps) :
    ∃ s p, v = encT s p ∧ RdS W W.heap.size s p ∧ wfS s ∧ capS s p := by
  obtain ⟨cs, rfl, hs⟩ := okWide_struct Try.underlying27 hval
  obtain ⟨fuel, hf⟩ := hd
  rw [cellsOf_sent] at hs
  obtain ⟨cs⟩ := cs
  obtain ⟨c0, c1, c2, c3, c4, c5, c6, c7, rfl⟩ := list8 (by simpa using hs)
  have hf' : DataW.trod enc Try.prog W 0 (fun _ => true) true fuel 27 [c0, c1, c2, c3, c4, c5, c6, c7] = some (d, ps) := by simpa [Value.cells] using hf
  obtain ⟨s, p, e, hr, hw, hc⟩ := cell_sent hf'
  simp only [List.cons.injEq, and_true] at e
  obtain ⟨e0, e1, e2, e3, e4, e5, e6, e7⟩ := e
  subst e0 e1 e2 e3 e4 e5 e6 e7
  exact ⟨s, p, rfl, hr, hw, hc⟩
end
end Go.Proofs.Ytkcckncglbjjdaa
