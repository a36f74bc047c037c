
/- TTkC: texts joined: TkC. -/
import Derived.Test.YtjkhdfncahhnoaaTc
import Derived.Test.YtjkhdfncahhnoaaTFrA
import Derived.Test.YtjkhdfncahhnoaaTa
import Derived.Test.YtjkhdfncahhnoaaTb
import Derived.Deep.RegionLaw
/- What is pressed, and whether something is that: by the document. -/
namespace Go.Proofs.Ytjkhdfncahhnoaa
open Go.RowKit
set_option maxHeartbeats 1000000
set_option maxRecDepth 100000
set_option linter.unusedVariables false
def prsE (v : List Int) (k : Int) : Int := if v = [] then 1 else pikE v k
/-- The numbers at some places. -/
def atL (v l : List Int) : List Int := l.map fun n => v.getD n.toNat 0
def prsS (v : List Int) (k : Int) : SentV := if prsE v k = 0 then ⟨1, v.length, pikV v k, atL v (pikV v k), 0, 0, [], []⟩ else zeroS
/-- A vector that a call tells, its two lists the call's own. -/
def OwnSt (base : Nat) (s : SentV) (er : Int) (w : World) (e : Ending) (w' : World) : Prop :=
  ∃ A c A' c', e = .returned (.tuple #[encT s ⟨A, c, A', c', none, 0, none, 0⟩, .int .i64 er]) ∧ s.lev = [] ∧ s.neg = [] ∧
    w'.ownsRow base 3 1 (.slice A s.L.length c) s.L.length (s.L.map (Value.int .i64)) ∧ w'.ownsRow base 2 1 (.slice A' s.V.length c') s.V.length (s.V.map (Value.int .i64)) ∧ Below base w w'
theorem ref_Press9 {A : Option Addr} {c : Nat} (k : Int) (v : List Int) (uv : ∀ x ∈ v, I64 x) (hl : v.length ≤ 9223372036854775807) (w : World) (ra : Rd (Value.int .i64) w w.heap.size A v) :
    Calls Try.prog 16 #[.int .i64 k, .slice A v.length c] w (OwnSt w.heap.size (prsS v k) (prsE v k) w) := by
  by_cases h0 : v = []
  · have he : prsE v k = 1 := if_pos h0
    have hs : prsS v k = zeroS := if_neg (by rw [he]; decide)
    rw [he, hs]
    subst h0
    clear he hs ra uv hl
    go_enter Try.func16, Try.ntmps16
    go_wp2_with fail
    refine bodyPost_ret (v := .tuple #[encT zeroS zeroP, .int .i64 1]) (by simp [results, Try.results16, go_sem, zeroS, zeroP]) rfl ⟨none, 0, none, 0, rfl, rfl, rfl, own_nil _ _ _, own_nil _ _ _, by go_grown⟩
  · have h0' : ¬ v.length = 0 := fun h => h0 (List.length_eq_zero_iff.1 h)
    have hp : prsE v k = pikE v k := if_neg h0
    have CP := hid (fun (W : World) (h : Below w.heap.size w W) => ref_Pick9 (A := A) (c := c) k v uv hl W (ra.on h))
    have RA := hid ra
    have h1' : ((v.length : Int) == 0) = false := beq_eq_false_iff_ne.2 (by omega)
    have h1'' : (v.length == 0) = false := beq_eq_false_iff_ne.2 h0'
    by_cases h : pikE v k = 0
    · have hs : prsS v k = ⟨1, v.length, pikV v k, atL v (pikV v k), 0, 0, [], []⟩ := if_pos (by rw [hp]; exact h)
      have hLm : ∀ n ∈ pikV v k, ∃ m : Nat, n = m ∧ m < v.length := fun n hn => by
        unfold pikV at hn
        rw [if_pos h] at hn
        obtain ⟨i, e, hi, _⟩ := pkI_mem.1 hn
        exact ⟨i, e, hi⟩
      have hLl := pikV_le v k
      have hv4 := (pikE_ok.1 h).1
      rw [hp, hs, h]
      rw [h] at CP
      obtain ⟨L, hL⟩ : ∃ L, pikV v k = L := ⟨_, rfl⟩
      rw [hL] at CP hLm hLl ⊢
      have hL4 : L.length ≤ 4096 := by omega
      have HL := hid hLm
      have HST := hid (fun q n (hq : L[q]? = some n) => show atL v (L.take (q + 1)) = atL v (L.take q) ++ [v.getD n.toNat 0] by unfold atL; rw [take_snoc hq, List.map_append]; rfl)
      have HLE := hid (fun q => show (atL v (L.take q)).length ≤ 4096 by unfold atL; rw [List.length_map, List.length_take]; omega)
      have HLX : Hid (atL v (L.take L.length) = atL v L) := hid (by rw [List.take_length])
      clear hs hLm hL hp h0 uv h h0' ra
      go_enter Try.func16, Try.ntmps16
      go_wp2_with fail
      have B0 := BoxL.new w [.int .i64 0, .int .i64 0, .slice none 0 0, .slice none 0 0, .int .i64 0, .int .i64 0, .slice none 0 0, .slice none 0 0] 27
      refine (CP.out _ (by go_grown)).mono ?_
      rintro _ w1 ⟨A1, c1, rfl, ho1, hb⟩
      have HB1 := hid (B0.below hb (by simp))
      have k1 : Below w.heap.size w w1 := Below.trans (by go_grown) (hb.mono (by simp))
      have hg1 : w.heap.size < w1.heap.size := by have := hb.size; simp at this; omega
      have HO1 := hid (own_base ho1 (show w.heap.size + 1 ≤ _ by simp))
      have HR1 := hid (own_rd ho1)
      clear B0 hb CP ho1
      go_wp2_with fail
      have B2 := BoxL.new w1 [.int .i64 1, .int .i64 (v.length : Int), .slice A1 L.length c1, .slice none 0 0, .int .i64 0, .int .i64 0, .slice none 0 0, .slice none 0 0] 27
      have hz2 : Below w1.heap.size w1 (w1.alloc (.cells #[.int .i64 1, .int .i64 (v.length : Int), .slice A1 L.length c1, .slice none 0 0, .int .i64 0, .int .i64 0, .slice none 0 0, .slice none 0 0] 27)) := (Below.refl _ _).alloc (Nat.le_refl _) _
      have hsz2 : (w1.alloc (.cells #[.int .i64 1, .int .i64 (v.length : Int), .slice A1 L.length c1, .slice none 0 0, .int .i64 0, .int .i64 0, .slice none 0 0, .slice none 0 0] 27)).heap.size = w1.heap.size + 1 := by simp
      obtain ⟨w2, hw2⟩ : ∃ w2, w1.alloc (.cells #[.int .i64 1, .int .i64 (v.length : Int), .slice A1 L.length c1, .slice none 0 0, .int .i64 0, .int .i64 0, .slice none 0 0, .slice none 0 0] 27) = w2 := ⟨_, rfl⟩
      have B2' : BoxL w2 w1.heap.size [.int .i64 1, .int .i64 (v.length : Int), .slice A1 L.length c1, .slice none 0 0, .int .i64 0, .int .i64 0, .slice none 0 0, .slice none 0 0] := by rw [← hw2]; exact B2
      rw [hw2] at hz2 hsz2 ⊢
      have HB2 := hid B2'
      have HB1' := hid (HB1.out.below hz2 hg1)
      clear hw2 B2 B2' HB1
      go_loopw [10, 31] (fun x10 i wr => ∃ (q : Nat) (S : List Int) (A2 : Option Addr) (c2 : Nat), q ≤ L.length ∧ i = .int .i64 q ∧ S = atL v (L.take q) ∧ BoxL wr w.heap.size [.int .i64 0, .int .i64 0, .slice none 0 0, .slice none 0 0, .int .i64 0, .int .i64 0, .slice none 0 0, .slice none 0 0] ∧ BoxL wr w1.heap.size [.int .i64 1, .int .i64 (v.length : Int), .slice A1 L.length c1, .slice A2 S.length c2, .int .i64 0, .int .i64 0, .slice none 0 0, .slice none 0 0] ∧ wr.ownsRow (w1.heap.size + 1) 2 1 (.slice A2 S.length c2) S.length (S.map (Value.int .i64)) ∧ Below w1.heap.size w1 wr ∧ w1.heap.size + 1 ≤ wr.heap.size) (fun _ i _ => L.length - (intOf i).toNat)
      case atStart => exact ⟨0, [], none, 0, by omega, rfl, rfl, HB1'.out, HB2.out, own_nil _ _ _, hz2, by omega⟩
      case round =>
        clear HB1' HB2 hz2 hsz2
        obtain ⟨q, S, A2, c2, hq, rfl, hS, hB1, hB2, hO, hbel, hsz⟩ := hrel
        have HSq := hid hS
        have HO := hid hO
        have HX1 := hid hB1
        have HX2 := hid hB2
        have hSl : S.length ≤ 4096 := by rw [hS]; exact HLE.out q
        clear hS hO hB1 hB2
        by_cases hlt : q < L.length
        · obtain ⟨b1, o1, n, rfl, l1, en, d1⟩ := (HR1.out.below hbel).at_ hlt
          obtain ⟨m, rfl, hm⟩ := HL.out n (List.mem_of_getElem? en)
          have kw := k1.trans (hbel.mono k1.size)
          obtain ⟨b2, o2, x, rfl, l2, ex, d2⟩ := (RA.out.below kw).at_ hm
          have HSn : Hid (atL v (L.take (q + 1)) = atL v (L.take q) ++ [x]) := hid (by rw [HST.out q _ en, Int.toNat_natCast, getD_of ex])
          have d3 := (HX2.out 3 _ rfl).1
          have hlw : w1.heap.size < wr.heap.size := by omega
          have e1 : b1 < wr.heap.size := by omega
          have e2 : b2 < wr.heap.size := by omega
          clear en ex
          go_wp2_with fail
          go_region_law (first | (refine step_app (Value.int .i64) (fun _ => rfl) rfl _ _ 22 rfl (w1.heap.size + 1) 2 (.int .i64 0) 8 Try.underlying22 info_i64 rfl S A2 c2 rfl (own_on HO.out (by first | exact ((Below.refl _ wr).drew).alloc (Nat.le_refl _) _ | exact ((Below.refl _ wr).alloc (Nat.le_refl _) _).drew)) [x] (some ⟨wr.heap.size, 0, none⟩) 1 (wr.heap.size + 1) rfl (by first | exact (rd_one (enc := Value.int .i64) (one_cell wr.drew (.int .i64 x) 2).1).more (by simp) | exact (rd_one (enc := Value.int .i64) (one_cell wr (.int .i64 x) 2).1).more (by simp) | fail) (by simp [maxLen]; omega) (by simp; omega) (by simp; omega) ?_; rintro S5 A5 c5 w5 hS5 ho5 hb5 hg5; have HS5 := hid hS5; have HO5 := hid ho5; have KK : Hid (Below (w1.heap.size + 1) wr w5) := hid (by first | exact Below.trans (((Below.refl (w1.heap.size + 1) wr).drew).alloc hsz _) hb5 | exact Below.trans (((Below.refl (w1.heap.size + 1) wr).alloc hsz _).drew) hb5 | fail); clear hS5 ho5; have HY2 := hid (HX2.out.below KK.out (by omega)); have p3 := (HY2.out 3 _ rfl).1; have n3 := (HY2.out 3 _ rfl).2) | fail)
          all_goals (
            have k5 : Below w1.heap.size w1 w5 := hbel.trans (KK.out.mono (by omega))
            have HY1 := hid (HX1.out.below KK.out (by omega))
            have hs5 : w1.heap.size + 1 ≤ w5.heap.size := Nat.le_trans hsz KK.out.size
            go_wp2_with fail
            go_roundw
            case rel => exact ⟨q + 1, S5, A5, c5, by omega, by go_num, by rw [HS5.out, HSq.out, HSn.out], HY1.out.other (by simp; omega) _, HY2.out.one (k := 3) rfl _, own_set HO5.out (by simp) _, k5.setCell (by simp) _, by simpa using hs5⟩
            case measure => simp [intOf]; omega)
        · obtain rfl : q = L.length := by omega
          have hSe : Hid (S = atL v L) := hid (by rw [HSq.out, HLX.out])
          obtain ⟨⟨g0, g1, g2, g3, g4, g5, g6, g7⟩, n0, n1, n2, n3, n4, n5, n6, n7⟩ := HX1.out.eight
          obtain ⟨⟨h0, h1, h2, h3, h4, h5, h6, h7⟩, _⟩ := HX2.out.eight
          have kw := k1.trans (hbel.mono k1.size)
          have HOL := hid (own_on HO1.out hbel)
          have hz : w.heap.size < w1.heap.size + 1 := by omega
          clear hlt
          go_wp2_with fail
          refine bodyPost_ret (v := .tuple #[encT ⟨1, v.length, L, S, 0, 0, [], []⟩ ⟨A1, c1, A2, c2, none, 0, none, 0⟩, .int .i64 0]) (by simp [results, Try.results16, go_sem, g0, g1, g2, g3, g4, g5, g6, g7]) rfl ?_
          rw [← hSe.out]
          refine ⟨A1, c1, A2, c2, rfl, rfl, rfl, ?_, ?_, ?_⟩
          · exact own_base (own_set (own_set (own_set (own_set (own_set (own_set (own_set (own_set HOL.out (by simp) _) (by simp) _) (by simp) _) (by simp) _) (by simp) _) (by simp) _) (by simp) _) (by simp) _) (Nat.le_succ _)
          · exact own_base (own_set (own_set (own_set (own_set (own_set (own_set (own_set (own_set HO.out hz _) hz _) hz _) hz _) hz _) hz _) hz _) hz _) (by omega)
          · exact (((((((kw.setCell (by simp) _).setCell (by simp) _).setCell (by simp) _).setCell (by simp) _).setCell (by simp) _).setCell (by simp) _).setCell (by simp) _).setCell (by simp) _
    · have he : prsS v k = zeroS := if_neg (by rw [hp]; exact h)
      have hv : pikV v k = [] := if_neg h
      rw [he, hp]
      rw [hv] at CP
      obtain ⟨E, hE⟩ : ∃ E, pikE v k = E := ⟨_, rfl⟩
      rw [hE] at CP h ⊢
      have hne : (E != 0) = true := by simpa using h
      clear he hv hE hp h0 ra uv h h0'
      go_enter Try.func16, Try.ntmps16
      go_wp2_with fail
      have B0 := BoxL.new w [.int .i64 0, .int .i64 0, .slice none 0 0, .slice none 0 0, .int .i64 0, .int .i64 0, .slice none 0 0, .slice none 0 0] 27
      refine (CP.out _ (by go_grown)).mono ?_
      rintro _ w1 ⟨A1, c1, rfl, _, hb⟩
      have B1 := B0.below hb (by simp)
      have k1 : Below w.heap.size w w1 := Below.trans (by go_grown) (hb.mono (by simp))
      obtain ⟨⟨g0, g1, g2, g3, g4, g5, g6, g7⟩, n0, n1, n2, n3, n4, n5, n6, n7⟩ := B1.eight
      clear B0 B1 hb CP
      go_wp2_with fail
      refine bodyPost_ret (v := .tuple #[encT zeroS zeroP, .int .i64 E]) (by simp [results, Try.results16, go_sem, zeroS, zeroP, g0, g1, g2, g3, g4, g5, g6, g7]) rfl ⟨none, 0, none, 0, rfl, rfl, rfl, own_nil _ _ _, own_nil _ _ _, ?_⟩
      exact (((((((k1.setCell (by simp) _).setCell (by simp) _).setCell (by simp) _).setCell (by simp) _).setCell (by simp) _).setCell (by simp) _).setCell (by simp) _).setCell (by simp) _
/-- Whether something is what is pressed. -/
def isTB (v : List Int) (k : Int) (s : SentV) : Bool := decide (prsE v k = 0) && sameS (prsS v k) s
theorem prsS_ln (v : List Int) (k : Int) : lnS 4096 (prsS v k) := by
  unfold prsS
  split
  · rename_i h
    have h1 : pikE v k = 0 := by
      unfold prsE at h
      split at h
      · cases h
      · exact h
    have h2 := pikV_le v k
    have h3 := (pikE_ok.1 h1).1
    refine ⟨by show (pikV v k).length ≤ _; omega, by show (atL v (pikV v k)).length ≤ _; unfold atL; rw [List.length_map]; omega, by simp, by simp⟩
  · exact ln_zero _
theorem OwnSt.rd {base : Nat} {s : SentV} {w' : World} {A A' : Option Addr} {c c' : Nat} (h1 : s.lev = []) (h2 : s.neg = []) (hL : w'.ownsRow base 3 1 (.slice A s.L.length c) s.L.length (s.L.map (Value.int .i64))) (hV : w'.ownsRow base 2 1 (.slice A' s.V.length c') s.V.length (s.V.map (Value.int .i64))) :
    RdS w' w'.heap.size s ⟨A, c, A', c', none, 0, none, 0⟩ := ⟨own_rd hL, own_rd hV, by rw [h1]; exact Rd.none_, by rw [h2]; exact Rd.none_⟩
theorem ref_Is9 {A : Option Addr} {c : Nat} (k : Int) (v : List Int) (uv : ∀ x ∈ v, I64 x) (hl : v.length ≤ 9223372036854775807) (s : SentV) (p : SentP) (hn : lnS 100000 s) (w : World) (ra : Rd (Value.int .i64) w w.heap.size A v) (rs : RdS w w.heap.size s p) :
    Calls Try.prog 22 #[.int .i64 k, .slice A v.length c, encT s p] w fun e w' => e = .returned (.bool (isTB v k s)) ∧ Below w.heap.size w w' := by
  have CP := hid (fun (W : World) (h : Below w.heap.size w W) => ref_Press9 (A := A) (c := c) k v uv hl W (ra.on h))
  have RS := hid rs
  have hT := prsS_ln v k
  unfold isTB
  obtain ⟨T, hTT⟩ : ∃ T, prsS v k = T := ⟨_, rfl⟩
  obtain ⟨E, hE⟩ : ∃ E, prsE v k = E := ⟨_, rfl⟩
  rw [hTT, hE] at CP ⊢
  rw [hTT] at hT
  have CS := hid (fun (q : SentP) (W : World) (h1 : RdS W W.heap.size T q) (h2 : RdS W W.heap.size s p) => ref_SameSent T s q p (hT.more (by omega)) hn W (Nat.le_refl _) (Nat.le_refl _) h1 h2)
  obtain ⟨R, hR⟩ : ∃ R, sameS T s = R := ⟨_, rfl⟩
  rw [hR] at CS ⊢
  have HD1 : Hid (E = 0 → decide (E = 0) = true) := hid (fun h => decide_eq_true h)
  have HD0 : Hid (E ≠ 0 → decide (E = 0) = false) := hid (fun h => decide_eq_false h)
  obtain ⟨D, hD⟩ : ∃ D, decide (E = 0) = D := ⟨_, rfl⟩
  rw [hD] at HD1 HD0 ⊢
  clear hTT hE hR hT ra rs uv hn hD
  go_enter Try.func22, Try.ntmps22
  go_wp2_with fail
  have B0 := BoxL.new w [.int .i64 s.sch, .int .i64 s.dim, .slice p.AL s.L.length p.cL, .slice p.AV s.V.length p.cV, .int .i64 s.scale, .int .i64 s.wide, .slice p.AE s.lev.length p.cE, .slice p.AN s.neg.length p.cN] 27
  refine (CP.out _ (by go_grown)).mono ?_
  rintro _ w1 ⟨A1, c1, A2, c2, rfl, hlev, hneg, hoL, hoV, hb⟩
  have HX := hid (B0.below hb (by simp))
  have k1 : Below w.heap.size w w1 := Below.trans (by go_grown) (hb.mono (by simp))
  have HT := hid (OwnSt.rd hlev hneg hoL hoV)
  clear B0 hb CP hoL hoV hlev hneg
  have hg : w.heap.size < w1.heap.size := HX.out.lt (by simp)
  obtain ⟨⟨g0, g1, g2, g3, g4, g5, g6, g7⟩, _⟩ := HX.out.eight
  by_cases h0 : E = 0
  · have hD := HD1.out h0
    subst h0 hD
    go_wp2_with fail
    have hz := BoxL.new w1 [.int .i64 T.sch, .int .i64 T.dim, .slice A1 T.L.length c1, .slice A2 T.V.length c2, .int .i64 T.scale, .int .i64 T.wide, .slice none T.lev.length 0, .slice none T.neg.length 0] 27
    have kz : Below w1.heap.size w1 (w1.alloc (.cells #[.int .i64 T.sch, .int .i64 T.dim, .slice A1 T.L.length c1, .slice A2 T.V.length c2, .int .i64 T.scale, .int .i64 T.wide, .slice none T.lev.length 0, .slice none T.neg.length 0] 27)) := (Below.refl _ _).alloc (Nat.le_refl _) _
    refine (CS.out ⟨A1, c1, A2, c2, none, 0, none, 0⟩ _ (HT.out.on kz) (RS.out.on (k1.trans (kz.mono k1.size)))).mono ?_
    rintro _ w3 ⟨rfl, hb3⟩
    go_wp2_with fail
    go_ret
    exact ⟨by simp, (k1.trans (kz.mono k1.size)).trans (hb3.mono (Nat.le_trans k1.size kz.size))⟩
  · have hne : (E == 0) = false := beq_eq_false_iff_ne.2 h0
    have hD := HD0.out h0
    subst hD
    clear h0 HD1 HD0
    go_wp2_with fail
    go_ret
    exact ⟨rfl, k1.trans (by go_grown)⟩
end Go.Proofs.Ytjkhdfncahhnoaa
