
/- Re: texts joined: FrJ FrD FsD FrK FsX FrE FsQ FrF FrLv. -/
import Derived.Test.YtngdgbicjhlnaaaGreatRFrIs
import Derived.Test.YtngdgbicjhlnaaaGreatRFrIt
import Derived.Test.YtngdgbicjhlnaaaGreatRFrIu
import Derived.Test.YtngdgbicjhlnaaaGreatRFrIv
import Derived.Test.YtngdgbicjhlnaaaGreatRFrIw
import Derived.Test.YtngdgbicjhlnaaaGreatRFrIx
import Derived.Test.YtngdgbicjhlnaaaGreatRFrC
import Derived.Test.YtngdgbicjhlnaaaGreatRb
import Derived.Test.YtngdgbicjhlnaaaGreatRd
import Derived.Deep.RegionHeld3
import Derived.Test.YtngdgbicjhlnaaaGreatRFsW
import Derived.Test.YtngdgbicjhlnaaaGreatRc
import Derived.Test.YtngdgbicjhlnaaaGreatRa
import Derived.Deep.RegionLaw
/- The document's reader of a vector, whatever there is to be read. -/
namespace Go.Proofs.YtngdgbicjhlnaaaGreat
open Go.RowKit
set_option maxHeartbeats 1000000
set_option maxRecDepth 100000
set_option linter.unusedVariables false
theorem neg1_is {s : SentV} {t q r : List Int} {b b' : Bool} {sg : Int} (hs : (s.dim + 7) / 8 = sg) (h : prt1 sg (t, b) = (q, r, b')) : neg1 s (t, b) = ({ s with neg := bitV 1 s.dim q }, (r, b' || (bitE 1 s.dim q != 0))) := by
  subst hs
  unfold neg1
  rw [h]
theorem ref_sent {A : Option Addr} {c B : Nat} (t : List Int) (b : Bool) (hl : t.length ≤ 70000) (w : World) (hB : B ≤ w.heap.size) (ut : U8s t) (ht : TxP w B t A c) :
    Calls Tryz.prog 18 #[.agg #[.slice A t.length c, .bool b]] w (OwnSn B (sent1 (t, b)) w) := by
  obtain ⟨x, t1, b1, hx⟩ : ∃ x t1 b1, by1 (t, b) = (x, t1, b1) := ⟨_, _, _, rfl⟩
  obtain ⟨ut1, l1, hx0, hx255⟩ := by1_all ut hx
  obtain ⟨n, t2, b2, hn⟩ : ∃ n t2 b2, num1 4096 (t1, b1) = (n, t2, b2) := ⟨_, _, _, rfl⟩
  obtain ⟨ut2, l2, hn0, hn4⟩ := num1_all (by decide) ut1 hn
  have e : sent1 (t, b) = if b2 = true ∨ n = 0 then (⟨x, n, [], [], 0, 0, [], []⟩, badT) else rest1 x n (t2, b2) := by
    unfold sent1
    rw [hx]
    simp only [hn]
  rw [e]
  cases b2 with
  | true =>
    rw [if_pos (Or.inl rfl)]
    exact sent_0a t b hl w hB ut ht hx ut1 hn hn0 hn4 ut2 rfl
  | false =>
    by_cases hz : n = 0
    · rw [if_pos (Or.inr hz)]
      exact sent_0b t b hl w hB ut ht hx ut1 hn hn0 hn4 ut2 rfl hz
    · rw [if_neg (fun h => h.elim (fun h => by cases h) hz)]
      obtain ⟨N, rfl⟩ := Int.eq_ofNat_of_zero_le hn0
      have hN1 : 1 ≤ N := by omega
      have hN4 : N ≤ 4096 := by omega
      unfold rest1
      by_cases h1 : x = 1
      · rw [if_pos h1]
        unfold top1
        simp only
        obtain ⟨L, a, E, hg⟩ : ∃ L a E, gixR (N : Int) t2 0 = (L, a, E) := ⟨_, _, _, rfl⟩
        have hL := gix_len (N : Int) t2 0
        rw [hg] at hL ⊢
        simp only at hL ⊢
        by_cases hE : E = 0
        · subst hE
          rw [if_neg (by simp)]
          obtain ⟨_, j, rfl, hj, _⟩ := gix_back ut2 hg
          rw [Int.toNat_natCast]
          obtain ⟨V, t3, b3, hs⟩ : ∃ V t3 b3, sgd1 L.length [] (t2.drop j, false) = (V, t3, b3) := ⟨_, _, _, rfl⟩
          rw [hs]
          exact sent_2 t b hl w hB ut ht hx ut1 hn hN1 hN4 ut2 h1 hg hj hL rfl (ut2.drop j) hs
        · rw [if_pos hE]
          exact sent_1 t b hl w hB ut ht hx ut1 hn hN1 hN4 ut2 h1 hg hE
      · rw [if_neg h1]
        by_cases h0 : x = 0
        · rw [if_pos h0]
          unfold dns1
          rw [Int.toNat_natCast]
          obtain ⟨V, t3, b3, hs⟩ : ∃ V t3 b3, sgd1 N [] (t2, false) = (V, t3, b3) := ⟨_, _, _, rfl⟩
          rw [hs]
          exact sent_3 t b hl w hB ut ht hx ut1 hn hN1 hN4 ut2 h0 hs
        · rw [if_neg h0]
          obtain ⟨sc, t3, b3, hsc⟩ : ∃ sc t3 b3, num1 9223372036854775807 (t2, false) = (sc, t3, b3) := ⟨_, _, _, rfl⟩
          obtain ⟨ut3, l3, _, _⟩ := num1_all (by decide) ut2 hsc
          rw [show num1 top63 (t2, false) = (sc, t3, b3) from hsc]
          simp only
          by_cases h2 : x = 2
          · rw [if_pos h2]
            obtain ⟨wd, t4, b4, hwd⟩ : ∃ wd t4 b4, by1 (t3, b3) = (wd, t4, b4) := ⟨_, _, _, rfl⟩
            obtain ⟨ut4, l4, hw0, hw255⟩ := by1_all ut3 hwd
            rw [hwd]
            unfold lev1
            simp only
            by_cases hw1 : wd < 1
            · rw [if_pos (Or.inl hw1)]
              exact sent_4a t b hl w hB ut ht hx ut1 hn hN1 hN4 ut2 h2 hsc ut3 hwd hw1
            · by_cases hw8 : 8 < wd
              · rw [if_pos (Or.inr hw8)]
                exact sent_4b t b hl w hB ut ht hx ut1 hn hN1 hN4 ut2 h2 hsc ut3 hwd hw1 hw8
              · rw [if_neg (fun h => h.elim hw1 hw8)]
                obtain ⟨kw, rfl⟩ := Int.eq_ofNat_of_zero_le hw0
                have hk1 : 1 ≤ kw := by omega
                have hk8 : kw ≤ 8 := by omega
                have hR : ((kw : Int) * (N : Int) + 7) / 8 = (((kw * N + 7) / 8 : Nat) : Int) := by rw [← Int.natCast_mul]; omega
                rw [hR]
                obtain ⟨pp, t5, b5, hpp⟩ : ∃ pp t5 b5, prt1 (((kw * N + 7) / 8 : Nat) : Int) (t4, b4) = (pp, t5, b5) := ⟨_, _, _, rfl⟩
                obtain ⟨utp, ut5, hp1, hp2⟩ := prt1_all ut4 hpp
                rw [hpp]
                simp only
                cases b5 with
                | true =>
                  rw [if_pos (Or.inl rfl)]
                  exact sent_5a t b hl w hB ut ht hx ut1 hn hN1 hN4 ut2 h2 hsc ut3 hwd hk1 hk8 rfl rfl hpp utp (by omega) rfl rfl
                | false =>
                  by_cases hE : bitE (kw : Int) (N : Int) pp = 0
                  · rw [if_neg (fun h => h.elim (fun h => by cases h) (fun h => h hE))]
                    have hS : ((N : Int) + 7) / 8 = (((N + 7) / 8 : Nat) : Int) := by omega
                    obtain ⟨qq, t6, b6, hqq⟩ : ∃ qq t6 b6, prt1 (((N + 7) / 8 : Nat) : Int) (t5, false) = (qq, t6, b6) := ⟨_, _, _, rfl⟩
                    obtain ⟨utq, _, hq1, _⟩ := prt1_all ut5 hqq
                    rw [neg1_is (s := ⟨2, (N : Int), [], [], sc, (kw : Int), uwvV (kw : Int) (N : Int) pp, []⟩) hS hqq]
                    cases b6 with
                    | true => exact sent_6a t b hl w hB ut ht hx ut1 hn hN1 hN4 ut2 h2 hsc ut3 hwd hk1 hk8 rfl rfl hpp utp (by omega) rfl rfl hE rfl hqq utq (by omega) rfl rfl
                    | false => exact sent_6b t b hl w hB ut ht hx ut1 hn hN1 hN4 ut2 h2 hsc ut3 hwd hk1 hk8 rfl rfl hpp utp (by omega) rfl rfl hE rfl hqq utq (by omega) rfl rfl rfl
                  · rw [if_pos (Or.inr hE)]
                    exact sent_5b t b hl w hB ut ht hx ut1 hn hN1 hN4 ut2 h2 hsc ut3 hwd hk1 hk8 rfl rfl hpp utp (by omega) rfl rfl hE
          · rw [if_neg h2]
            have hS : ((N : Int) + 7) / 8 = (((N + 7) / 8 : Nat) : Int) := by omega
            obtain ⟨qq, t6, b6, hqq⟩ : ∃ qq t6 b6, prt1 (((N + 7) / 8 : Nat) : Int) (t3, b3) = (qq, t6, b6) := ⟨_, _, _, rfl⟩
            obtain ⟨utq, _, hq1, _⟩ := prt1_all ut3 hqq
            rw [neg1_is (s := ⟨x, (N : Int), [], [], sc, 0, [], []⟩) hS hqq]
            cases b6 with
            | true => exact sent_7a t b hl w hB ut ht hx ut1 hn hN1 hN4 ut2 h0 h1 h2 hsc ut3 rfl hqq utq (by omega) rfl rfl
            | false => exact sent_7b t b hl w hB ut ht hx ut1 hn hN1 hN4 ut2 h0 h1 h2 hsc ut3 rfl hqq utq (by omega) rfl rfl rfl
end Go.Proofs.YtngdgbicjhlnaaaGreat
/- Whether a frame may be, and is the same; an acknowledgement: by the document. -/
namespace Go.Proofs.YtngdgbicjhlnaaaGreat
open Go.RowKit
set_option maxHeartbeats 400000
set_option maxRecDepth 100000
set_option linter.unusedVariables false
@[reducible] def encF (f : FrameV) (p : SentP) : Value := .agg #[.int .i64 f.knd, .int .i64 f.frm, .int .i64 f.stp, .int .i64 f.S.sch, .int .i64 f.S.dim, .slice p.AL f.S.L.length p.cL, .slice p.AV f.S.V.length p.cV, .int .i64 f.S.scale, .int .i64 f.S.wide, .slice p.AE f.S.lev.length p.cE, .slice p.AN f.S.neg.length p.cN]
theorem ref_CheckF (f : FrameV) (p : SentP) (hn : lnS 100000 f.S) (hw : wfF f) (w : World) {B : Nat} (hB : B ≤ w.heap.size) (ra : RdS w B f.S p) :
    Calls Tryz.prog 19 #[encF f p] w fun e w' => e = .returned (.int .i64 (chkF f)) ∧ Below w.heap.size w w' := by
  have CM := hid (fun W (h : Below w.heap.size w W) => ref_May f.S p hn hw.2.2.2 W (B := B) (Nat.le_trans hB h.size) (ra.below (h.mono hB)))
  have CS := hid (fun W (h : Below w.heap.size w W) => ref_SameSent f.S zeroS p zeroP hn (ln_zero _) W (B := B) (D := 0) (Nat.le_trans hB h.size) (by omega) (ra.below (h.mono hB)) (RdS.zero _ _))
  have HR : chkF f = 0 ↔ (0 ≤ f.frm ∧ f.frm < 64 ∧ 0 ≤ f.stp ∧ f.stp ≤ 1073741824 ∧ ((f.knd = 1 ∧ mayB f.S = true) ∨ (f.knd = 2 ∧ sameS f.S zeroS = true))) := chkF_ok
  have HE : chkF f = 0 ∨ chkF f = 1 := by unfold chkF; split <;> simp
  obtain ⟨R, hR⟩ : ∃ R, chkF f = R := ⟨_, rfl⟩
  obtain ⟨vM, hM⟩ : ∃ v, mayB f.S = v := ⟨_, rfl⟩
  obtain ⟨vS, hS⟩ : ∃ v, sameS f.S zeroS = v := ⟨_, rfl⟩
  rw [hM] at CM
  rw [hS] at CS
  rw [hR, hM, hS] at HR
  rw [hR] at HE ⊢
  have HR2 : Hid (∀ v : Int, v = 0 ∨ v = 1 → (v = 0 ↔ (0 ≤ f.frm ∧ f.frm < 64 ∧ 0 ≤ f.stp ∧ f.stp ≤ 1073741824 ∧ ((f.knd = 1 ∧ vM = true) ∨ (f.knd = 2 ∧ vS = true)))) → R = v) := hid (fun v h1 h2 => by
    rw [← HR] at h2; omega)
  have hknd : I64 f.knd := hw.1
  clear hR hM hS HR HE ra hn hw
  by_cases ok : 0 ≤ f.frm ∧ f.frm < 64 ∧ 0 ≤ f.stp ∧ f.stp ≤ 1073741824
  · obtain ⟨o1, o2, o3, o4⟩ := ok
    by_cases hk1 : f.knd = 1
    · cases vM with
      | true =>
        obtain rfl : R = 0 := HR2.out 0 (by omega) (by simp [hk1, o1, o2, o3, o4])
        clear HR2 CS
        go_enter Tryz.func19, Tryz.ntmps19
        go_wp2_with fail
        refine (CM.out _ (by go_grown)).mono ?_
        rintro _ w1 ⟨rfl, hb1⟩
        go_wp2_with fail
        go_ret
        exact ⟨rfl, Below.trans (by go_grown) (hb1.mono (by simp))⟩
      | false =>
        obtain rfl : R = 1 := HR2.out 1 (by omega) (by simp [hk1])
        clear HR2 CS
        go_enter Tryz.func19, Tryz.ntmps19
        go_wp2_with fail
        refine (CM.out _ (by go_grown)).mono ?_
        rintro _ w1 ⟨rfl, hb1⟩
        go_wp2_with fail
        go_ret
        exact ⟨rfl, Below.trans (by go_grown) (hb1.mono (by simp))⟩
    · by_cases hk2 : f.knd = 2
      · cases vS with
        | true =>
          obtain rfl : R = 0 := HR2.out 0 (by omega) (by simp [hk2, o1, o2, o3, o4])
          clear HR2 CM
          go_enter Tryz.func19, Tryz.ntmps19
          go_wp2_with fail
          refine (CS.out _ (by go_grown)).mono ?_
          rintro _ w1 ⟨rfl, hb1⟩
          go_wp2_with fail
          go_ret
          exact ⟨rfl, Below.trans (by go_grown) (hb1.mono (by simp))⟩
        | false =>
          obtain rfl : R = 1 := HR2.out 1 (by omega) (by simp [hk2])
          clear HR2 CM
          go_enter Tryz.func19, Tryz.ntmps19
          go_wp2_with fail
          refine (CS.out _ (by go_grown)).mono ?_
          rintro _ w1 ⟨rfl, hb1⟩
          go_wp2_with fail
          go_ret
          exact ⟨rfl, Below.trans (by go_grown) (hb1.mono (by simp))⟩
      · obtain rfl : R = 1 := HR2.out 1 (by omega) (by simp [hk1, hk2])
        clear HR2 CM CS
        go_enter Tryz.func19, Tryz.ntmps19
        go_wp2_with fail
        all_goals (go_ret; exact ⟨rfl, by go_grown⟩)
  · obtain rfl : R = 1 := HR2.out 1 (by omega) (by
      constructor
      · intro h; omega
      · rintro ⟨h1, h2, h3, h4, _⟩; exact absurd ⟨h1, h2, h3, h4⟩ ok)
    clear HR2 CM CS
    by_cases hk1 : f.knd = 1
    · by_cases o1 : 0 ≤ f.frm
      · by_cases o2 : f.frm < 64
        · by_cases o3 : 0 ≤ f.stp
          · have o4 : ¬ f.stp ≤ 1073741824 := fun h => ok ⟨o1, o2, o3, h⟩
            clear ok
            go_enter Tryz.func19, Tryz.ntmps19
            go_wp2_with fail
            all_goals (go_ret; exact ⟨rfl, by go_grown⟩)
          · clear ok
            go_enter Tryz.func19, Tryz.ntmps19
            go_wp2_with fail
            all_goals (go_ret; exact ⟨rfl, by go_grown⟩)
        · clear ok
          go_enter Tryz.func19, Tryz.ntmps19
          go_wp2_with fail
          all_goals (go_ret; exact ⟨rfl, by go_grown⟩)
      · clear ok
        go_enter Tryz.func19, Tryz.ntmps19
        go_wp2_with fail
        all_goals (go_ret; exact ⟨rfl, by go_grown⟩)
    · by_cases o1 : 0 ≤ f.frm
      · by_cases o2 : f.frm < 64
        · by_cases o3 : 0 ≤ f.stp
          · have o4 : ¬ f.stp ≤ 1073741824 := fun h => ok ⟨o1, o2, o3, h⟩
            clear ok
            go_enter Tryz.func19, Tryz.ntmps19
            go_wp2_with fail
            all_goals (go_ret; exact ⟨rfl, by go_grown⟩)
          · clear ok
            go_enter Tryz.func19, Tryz.ntmps19
            go_wp2_with fail
            all_goals (go_ret; exact ⟨rfl, by go_grown⟩)
        · clear ok
          go_enter Tryz.func19, Tryz.ntmps19
          go_wp2_with fail
          all_goals (go_ret; exact ⟨rfl, by go_grown⟩)
      · clear ok
        go_enter Tryz.func19, Tryz.ntmps19
        go_wp2_with fail
        all_goals (go_ret; exact ⟨rfl, by go_grown⟩)
theorem ref_SameF (a b : FrameV) (p q : SentP) (ha : lnS 100000 a.S) (hb : lnS 100000 b.S) (w : World) {B D : Nat} (hB : B ≤ w.heap.size) (hD : D ≤ w.heap.size) (ra : RdS w B a.S p) (rb : RdS w D b.S q) :
    Calls Tryz.prog 8 #[encF a p, encF b q] w fun e w' => e = .returned (.bool (sameF a b)) ∧ Below w.heap.size w w' := by
  have CS := hid (fun W (h : Below w.heap.size w W) => ref_SameSent a.S b.S p q ha hb W (B := B) (D := D) (Nat.le_trans hB h.size) (Nat.le_trans hD h.size) (ra.below (h.mono hB)) (rb.below (h.mono hD)))
  unfold sameF
  obtain ⟨vS, hS⟩ : ∃ v, sameS a.S b.S = v := ⟨_, rfl⟩
  rw [hS] at CS ⊢
  obtain ⟨v1, h1⟩ : ∃ v, (a.knd == b.knd) = v := ⟨_, rfl⟩
  obtain ⟨v2, h2⟩ : ∃ v, (a.frm == b.frm) = v := ⟨_, rfl⟩
  obtain ⟨v3, h3⟩ : ∃ v, (a.stp == b.stp) = v := ⟨_, rfl⟩
  rw [h1, h2, h3]
  clear hS ra rb ha hb
  go_enter Tryz.func8, Tryz.ntmps8
  go_wp2_with fail
  any_goals (go_ret; exact ⟨by simp [*], by go_grown⟩)
  refine (CS.out _ (by go_grown)).mono ?_
  rintro _ w1 ⟨rfl, hb1⟩
  go_wp2_with fail
  go_ret
  exact ⟨by simp [*], Below.trans (by go_grown) (hb1.mono (by simp; omega))⟩
end Go.Proofs.YtngdgbicjhlnaaaGreat
/- Whether a frame may be, and is the same; an acknowledgement: by the program. -/
namespace Go.Proofs.YtngdgbicjhlnaaaGreat
open Go.RowKit
set_option maxHeartbeats 400000
set_option maxRecDepth 100000
set_option linter.unusedVariables false
theorem fs_Ack (frm stp : Int) (w : World) :
    Calls Tryz.prog 10 #[.int .i64 frm, .int .i64 stp] w fun e w' => e = .returned (encF (ackF frm stp) zeroP) ∧ Below w.heap.size w w' := by
  go_enter Tryz.func10, Tryz.ntmps10
  go_wp2_with fail
  refine bodyPost_ret (v := encF (ackF frm stp) zeroP) (by simp [results, Tryz.results10, go_sem, ackF, zeroS, zeroP]) rfl ⟨rfl, by go_grown⟩
def carP (f : FrameV) : Prop := (f.knd = 1 ∧ mayB f.S = true) ∨ (f.knd = 2 ∧ empB f.S = true)
instance (f : FrameV) : Decidable (carP f) := by unfold carP; infer_instance
def carB (f : FrameV) : Bool := decide (carP f)
theorem carB_iff {f : FrameV} : carB f = true ↔ carP f := by unfold carB; exact decide_eq_true_iff
theorem emp_zero {s : SentV} : empB s = true ↔ sameS s zeroS = true := by
  rw [empB_iff, sameS_iff]
  obtain ⟨a1, a2, a3, a4, a5, a6, a7, a8⟩ := s
  unfold zeroS
  simp
  intros
  constructor
  · rintro ⟨h3, h4, h5, h6, h7, h8⟩; exact ⟨h5, h6, h3, h4, h7, h8⟩
  · rintro ⟨h5, h6, h3, h4, h7, h8⟩; exact ⟨h3, h4, h5, h6, h7, h8⟩
theorem fs_carries (f : FrameV) (p : SentP) (hn : lnS 100000 f.S) (hw : wfF f) (w : World) (ra : RdS w w.heap.size f.S p) :
    Calls Tryz.prog 29 #[encF f p] w fun e w' => e = .returned (.bool (carB f)) ∧ Below w.heap.size w w' := by
  by_cases h1 : f.knd = 1
  · have C := hid (fun W (h : Below w.heap.size w W) => fs_May f.S p hn hw.2.2.2 W ((ra.below h).more h.size))
    have HR : carB f = mayB f.S := by
      have h : carB f = true ↔ mayB f.S = true := by rw [carB_iff]; unfold carP; simp [h1]
      cases hx : mayB f.S <;> simp_all
    rw [HR]
    have g0 : (f.knd == 1) = true := by rw [h1]; rfl
    clear h1 HR ra hn hw
    go_enter Tryz.func29, Tryz.ntmps29
    go_wp2_with fail
    refine (C.out _ (by go_grown)).mono ?_
    rintro _ w1 ⟨rfl, hb1⟩
    go_wp2_with fail
    go_ret
    exact ⟨rfl, Below.trans (by go_grown) (hb1.mono (by simp))⟩
  · by_cases h2 : f.knd = 2
    · have C := hid (fun W => fs_empty f.S p W)
      have HR : carB f = empB f.S := by
        have h : carB f = true ↔ empB f.S = true := by rw [carB_iff]; unfold carP; simp [h2]
        cases hx : empB f.S <;> simp_all
      rw [HR]
      have g0 : (f.knd == 1) = false := by rw [h2]; rfl
      have g1 : (f.knd == 2) = true := by rw [h2]; rfl
      clear h1 h2 HR ra hn hw
      go_enter Tryz.func29, Tryz.ntmps29
      go_wp2_with fail
      refine (C.out _).mono ?_
      rintro _ w1 ⟨rfl, hb1⟩
      go_wp2_with fail
      go_ret
      exact ⟨rfl, Below.trans (by go_grown) (hb1.mono (by simp))⟩
    · have HR : carB f = false := decide_eq_false (by unfold carP; simp [h1, h2])
      rw [HR]
      clear HR ra hn hw
      go_enter Tryz.func29, Tryz.ntmps29
      go_wp2_with fail
      go_ret
      exact ⟨rfl, by go_grown⟩
theorem fs_Check (f : FrameV) (p : SentP) (hn : lnS 100000 f.S) (hw : wfF f) (w : World) (ra : RdS w w.heap.size f.S p) :
    Calls Tryz.prog 14 #[encF f p] w fun e w' => e = .returned (.int .i64 (chkF f)) ∧ Below w.heap.size w w' := by
  have C := hid (fun W (h : Below w.heap.size w W) => fs_carries f p hn hw W ((ra.below h).more h.size))
  have HR : chkF f = 0 ↔ (0 ≤ f.frm ∧ f.frm < 64 ∧ 0 ≤ f.stp ∧ f.stp ≤ 1073741824 ∧ carB f = true) := by
    rw [chkF_ok, carB_iff]; unfold frmP carP; rw [emp_zero]
  have HE : chkF f = 0 ∨ chkF f = 1 := by unfold chkF; split <;> simp
  obtain ⟨R, hR⟩ : ∃ R, chkF f = R := ⟨_, rfl⟩
  obtain ⟨v, hv⟩ : ∃ R, carB f = R := ⟨_, rfl⟩
  rw [hR] at HR HE ⊢
  rw [hv] at HR C
  have HR2 := hid HR
  have HE2 := hid HE
  clear hR hv HR HE ra hn hw
  by_cases ok : 0 ≤ f.frm ∧ f.frm < 64 ∧ 0 ≤ f.stp ∧ f.stp ≤ 1073741824
  · obtain ⟨o1, o2, o3, o4⟩ := ok
    cases v with
    | true =>
      obtain rfl : R = 0 := HR2.out.2 ⟨o1, o2, o3, o4, rfl⟩
      clear HR2 HE2
      go_enter Tryz.func14, Tryz.ntmps14
      go_wp2_with fail
      refine (C.out _ (by go_grown)).mono ?_
      rintro _ w1 ⟨rfl, hb1⟩
      go_wp2_with fail
      go_ret
      exact ⟨rfl, Below.trans (by go_grown) (hb1.mono (by simp))⟩
    | false =>
      obtain rfl : R = 1 := by rcases HE2.out with h | h; have := (HR2.out.1 h).2.2.2.2; simp at this; exact h
      clear HR2 HE2
      go_enter Tryz.func14, Tryz.ntmps14
      go_wp2_with fail
      refine (C.out _ (by go_grown)).mono ?_
      rintro _ w1 ⟨rfl, hb1⟩
      go_wp2_with fail
      go_ret
      exact ⟨rfl, Below.trans (by go_grown) (hb1.mono (by simp))⟩
  · obtain rfl : R = 1 := by
      rcases HE2.out with h | h
      · have h5 := HR2.out.1 h; exact absurd ⟨h5.1, h5.2.1, h5.2.2.1, h5.2.2.2.1⟩ ok
      · exact h
    clear HR2 HE2 C
    by_cases o1 : 0 ≤ f.frm
    · by_cases o2 : f.frm < 64
      · by_cases o3 : 0 ≤ f.stp
        · have o4 : ¬ f.stp ≤ 1073741824 := fun h => ok ⟨o1, o2, o3, h⟩
          clear ok
          go_enter Tryz.func14, Tryz.ntmps14
          go_wp2_with fail
          all_goals (go_ret; exact ⟨rfl, by go_grown⟩)
        · clear ok
          go_enter Tryz.func14, Tryz.ntmps14
          go_wp2_with fail
          all_goals (go_ret; exact ⟨rfl, by go_grown⟩)
      · clear ok
        go_enter Tryz.func14, Tryz.ntmps14
        go_wp2_with fail
        all_goals (go_ret; exact ⟨rfl, by go_grown⟩)
    · clear ok
      go_enter Tryz.func14, Tryz.ntmps14
      go_wp2_with fail
      all_goals (go_ret; exact ⟨rfl, by go_grown⟩)
end Go.Proofs.YtngdgbicjhlnaaaGreat
/- What the laws ask of the program's frame: seven contracts, as one bundle; to be shown over the landed code. -/
namespace Go.Proofs.YtngdgbicjhlnaaaGreat
open Go.RowKit
set_option maxRecDepth 100000
set_option linter.unusedVariables false
/-- A frame told, in memory that reads so, and an error. -/
def OwnFr (r : FrameV × Int) (w : World) (e : Ending) (w' : World) : Prop :=
  ∃ p, e = .returned (.tuple #[encF r.1 p, .int .i64 r.2]) ∧ RdS w' w'.heap.size r.1.S p ∧ Below w.heap.size w w'
end Go.Proofs.YtngdgbicjhlnaaaGreat
/- The program's reader: a vector of no scheme; a frame; Read. -/
namespace Go.Proofs.YtngdgbicjhlnaaaGreat
open Go.RowKit
set_option maxHeartbeats 2000000
set_option maxRecDepth 100000
set_option linter.unusedVariables false
theorem fr_vec_none {g h c : Nat} {A : Option Addr} (o : List Int) (ho : o.length ≤ c) (hc : c ≤ 9223372036854775807) (hol : o.length ≤ 70000) (uo : U8s o) (σ : Rs) (ha : σ.1 ≤ o.length) (w : World) (hb : RdB w g A o.length c σ) (ra : Rd (Value.int .u8) w g A o) (hg : g < w.heap.size) (x0 : (one2 o σ).1 ≠ 0) (x1 : (one2 o σ).1 ≠ 1) (x2 : (one2 o σ).1 ≠ 2) (x3 : (one2 o σ).1 ≠ 3) :
    Calls Tryz.prog 28 #[.pointer (some ⟨g, 0, none⟩)] w (VecRet g A o.length c (vec2 o σ) w) := by
  have CO := hid (fun W (hB : RdB W g A o.length c σ) hR => fr_one (g := g) (A := A) o ho hc hol uo σ ha W hB hR)
  have hle : (one2 o σ).2.1 ≤ o.length := tak_le ha
  have CN := hid (fun W hB hR hz => fr_number (g := g) (A := A) o ho hc hol uo (one2 o σ).2 hle W hB hR hz)
  have hXI := one_i64 uo σ
  have hv : vec2 o σ = (bareS (one2 o σ).1 (num2 o (one2 o σ).2).1, (num2 o (one2 o σ).2).2) := by
    unfold vec2 rst2
    rw [if_neg x0, if_neg x1, if_neg x2, if_neg x3]
    rfl
  rw [hv]
  obtain ⟨X, υ, hX⟩ : ∃ X υ, one2 o σ = (X, υ) := ⟨_, _, rfl⟩
  rw [hX] at CO CN x0 x1 x2 x3 hXI ⊢
  simp only at CO CN x0 x1 x2 x3 hXI ⊢
  obtain ⟨D, τ, hD⟩ : ∃ D τ, num2 o υ = (D, τ) := ⟨_, _, rfl⟩
  rw [hD] at CN ⊢
  simp only at CN ⊢
  unfold I64 at hXI
  have HX := hid (And.intro hXI (And.intro x0 (And.intro x1 (And.intro x2 x3))))
  have g0 := growd w (.cells #[.int .i64 0, .int .i64 0, .slice none 0 0, .slice none 0 0, .int .i64 0, .int .i64 0, .slice none 0 0, .slice none 0 0] 29)
  have HB0 := hid (hb.below g0 hg)
  have HA0 := hid (ra.below (g0.mono (Nat.le_of_lt hg)))
  have HZ0 : Hid (BoxL (w.alloc (.cells #[.int .i64 0, .int .i64 0, .slice none 0 0, .slice none 0 0, .int .i64 0, .int .i64 0, .slice none 0 0, .slice none 0 0] 29)) w.heap.size (cellsT zeroS bareP)) := hid (BoxL.new w _ _)
  have q0 : Off g g w (w.alloc (.cells #[.int .i64 0, .int .i64 0, .slice none 0 0, .slice none 0 0, .int .i64 0, .int .i64 0, .slice none 0 0, .slice none 0 0] 29)) := Off.of g0
  have hz0 : w.heap.size < (w.alloc (.cells #[.int .i64 0, .int .i64 0, .slice none 0 0, .slice none 0 0, .int .i64 0, .int .i64 0, .slice none 0 0, .slice none 0 0] 29)).heap.size := by simp
  have hmm := @run_makeMap Tryz.prog
  clear hb ra hX hD hv hle ha g0 hXI x0 x1 x2 x3
  go_enter Tryz.func28, Tryz.ntmps28
  go_wp2_with fail
  refine (CO.out _ HB0.out HA0.out).mono ?_
  rintro _ w1 ⟨rfl, hb1, o1⟩
  have HB1 := hid hb1
  have HA1 := hid (HA0.out.below (o1.below (Nat.le_refl _) (Nat.le_refl _) (by omega)))
  have HZ1 := hid (o1.box HZ0.out (by simp [cellsT]) (by omega) (by omega))
  have q1 := q0.trans o1
  have hz1 : w.heap.size < w1.heap.size := Nat.lt_of_lt_of_le hz0 o1.size
  clear hb1 HB0 HA0 HZ0 o1 q0 hz0 CO
  go_wp2_with fail
  refine (CN.out _ HB1.out HA1.out (by omega)).mono ?_
  rintro _ w2 ⟨rfl, hb2, o2⟩
  have HB2 := hid hb2
  have HZ2 := hid (o2.box HZ1.out (by simp [cellsT]) (by omega) (by omega))
  have q2 := q1.trans o2
  have hz2 : w.heap.size < w2.heap.size := Nat.lt_of_lt_of_le hz1 o2.size
  clear hb2 HB1 HA1 HZ1 o2 q1 hz1 CN
  obtain ⟨W2, W3, W4, W5, u2, u3, u4, u5, b2, b3, b4, b5, hz5, hfm⟩ := fnmap (P := Tryz.prog) (t := 95) Tryz.underlying95 Tryz.underlying3 (z := .nilFunc) (fun w => by kernel_rfl) (.func (.func 53) #[.pointer (some ⟨g, 0, none⟩)] #[]) (.func (.func 54) #[.pointer (some ⟨g, 0, none⟩)] #[]) (.func (.func 55) #[.pointer (some ⟨g, 0, none⟩)] #[]) (.func (.func 56) #[.pointer (some ⟨g, 0, none⟩)] #[]) (by intro h; injection h with h1; injection h1 with h1; exact absurd h1 (by decide)) (by intro h; injection h with h1; injection h1 with h1; exact absurd h1 (by decide)) (by intro h; injection h with h1; injection h1 with h1; exact absurd h1 (by decide)) (by intro h; injection h with h1; injection h1 with h1; exact absurd h1 (by decide)) (by intro h; injection h with h1; injection h1 with h1; exact absurd h1 (by decide)) (by intro h; injection h with h1; injection h1 with h1; exact absurd h1 (by decide)) (w2.alloc (.cells #[.int .i64 X, .int .i64 D, .slice none 0 0, .slice none 0 0, .int .i64 0, .int .i64 0, .slice none 0 0, .slice none 0 0] 29)) (w2.heap.size + 1) (World.size_alloc _ _).symm
  obtain ⟨fv, hl⟩ := (hfm W5 rfl).kx X HX.out.1.1 HX.out.1.2 HX.out.2.1 HX.out.2.2.1 HX.out.2.2.2.1 HX.out.2.2.2.2
  have hbn : BoxL (w2.alloc (.cells #[.int .i64 X, .int .i64 D, .slice none 0 0, .slice none 0 0, .int .i64 0, .int .i64 0, .slice none 0 0, .slice none 0 0] 29)) w2.heap.size (cellsT (bareS X D) bareP) := BoxL.new w2 _ _
  have hb5 := hbn.below b5 (show w2.heap.size < w2.heap.size + 1 by omega)
  have b25 : Below w2.heap.size w2 W5 := (growd w2 _).trans (b5.mono (by omega))
  have hzz := HZ2.out.below b25 hz2
  have hb6 := HB2.out.below b25 (by omega)
  have q6 : Off g g w W5 := q2.trans (Off.of b25)
  have HY := hid (lay8_box hzz (bareS X D) bareP)
  have HO := hid (lay8_off W5 w.heap.size (bareS X D) bareP)
  have HQ := hid (q6.thenS HO.out (Nat.le_refl _))
  have HRR : Hid (RdFS (lay8 W5 w.heap.size (bareS X D) bareP) w.heap.size (bareS X D) bareP) := hid ⟨RdF.nil _ _, RdF.nil _ _, RdF.nil _ _, RdF.nil _ _⟩
  have HBB : Hid (RdB (lay8 W5 w.heap.size (bareS X D) bareP) g A o.length c τ) := hid (HO.out.box hb6 (by simp) (by omega) (by omega))
  obtain ⟨⟨k0, k1, k2, k3, k4, k5, k6, k7⟩, f0, f1, f2, f3, f4, f5, f6, f7⟩ := box_T hb5
  obtain ⟨⟨z0, z1, z2, z3, z4, z5, z6, z7⟩, y0, y1, y2, y3, y4, y5, y6, y7⟩ := box_T hzz
  simp only [bareS, bareP, List.length_nil] at k0 k1 k2 k3 k4 k5 k6 k7
  clear hb6 q6 HO hzz f0 f1 f2 f3 f4 f5 f6 f7 HB2 HZ2 q2 hfm hbn hb5 b2 b3 b4 b5 b25 HX
  go_wp2_with fail
  refine bodyPost_ret (v := encT (bareS X D) bareP) (by simp [results, Tryz.results28, go_sem, z0, z1, z2, z3, z4, z5, z6, z7, bareS, bareP]) rfl ⟨bareP, rfl, HRR.out, HBB.out, HQ.out⟩
theorem fr_vector {g c : Nat} {A : Option Addr} (o : List Int) (ho : o.length ≤ c) (hc : c ≤ 9223372036854775807) (hol : o.length ≤ 70000) (uo : U8s o) (σ : Rs) (ha : σ.1 ≤ o.length) (w : World) (hb : RdB w g A o.length c σ) (ra : Rd (Value.int .u8) w g A o) (hg : g < w.heap.size) :
    Calls Tryz.prog 28 #[.pointer (some ⟨g, 0, none⟩)] w (VecRet g A o.length c (vec2 o σ) w) := by
  by_cases x0 : (one2 o σ).1 = 0
  · exact fr_vec_dense (h := 0) o ho hc hol uo σ ha w hb ra hg x0
  · by_cases x1 : (one2 o σ).1 = 1
    · exact fr_vec_top (h := 0) o ho hc hol uo σ ha w hb ra hg x1
    · by_cases x2 : (one2 o σ).1 = 2
      · exact fr_vec_level (h := 0) o ho hc hol uo σ ha w hb ra hg x2
      · by_cases x3 : (one2 o σ).1 = 3
        · exact fr_vec_sign (h := 0) o ho hc hol uo σ ha w hb ra hg x3
        · exact fr_vec_none (h := 0) o ho hc hol uo σ ha w hb ra hg x0 x1 x2 x3
end Go.Proofs.YtngdgbicjhlnaaaGreat
/- A vector's body, by the document. -/
namespace Go.Proofs.YtngdgbicjhlnaaaGreat
open Go.RowKit
set_option maxHeartbeats 400000
set_option maxRecDepth 100000
set_option linter.unusedVariables false
theorem step_app {P : Program} {α : Type} (enc : α → Value) (h1 : ∀ x, (enc x).oneCell' = true) {w : World} {ops : Array Oper} {o : Oper} {a : Act} {K : Act → World → Prop} {Q : Exit → Act → World → Prop} {E : Prop} (hgd : o.guard = none) (s x : Operand) (t : TypeId)
    (ho : o.op = .call { callee := .builtin .append, args := #[s, x], argTypes := #[t, t] })
    (base : Nat) (e : TypeId) (z : Value) (bytes : Nat) (ht : P.underlying t = some (.slice e)) (hinfo : (P.info? e).map (fun i => (i.zero, i.size, i.bytes)) = some (some z, 1, bytes)) (hzs : z.cells.size = 1)
    (ys : List α) (A0 : Option Addr) (c0 : Nat) (hs : a.eval s = .slice A0 ys.length c0) (hown : w.ownsRow base e 1 (.slice A0 ys.length c0) ys.length (ys.map enc))
    (xs : List α) (A : Option Addr) (c B : Nat) (hx : a.eval x = .slice A xs.length c) (hr : Rd enc w B A xs) (h63 : ys.length + xs.length ≤ maxLen) (hbytes : (ys.length + xs.length) * bytes ≤ 140737488355328) (hbase : base ≤ w.heap.size)
    (h : ∀ (S : List α) (A' : Option Addr) (c' : Nat) (w' : World), S = ys ++ xs → w'.ownsRow base e 1 (.slice A' S.length c') S.length (S.map enc) → Below base w w' → w.grownBy w' (Value.slice A0 ys.length c0).ownBlock → K (a.put o.dst (.slice A' S.length c')) w') :
    if Region.wanted o (yielded ops a.tmps) = true then Oper.wp P o a w K Q else E := by
  have hw : Region.wanted o (yielded ops a.tmps) = true := by simp [Region.wanted, hgd]
  rw [if_pos hw]
  obtain ⟨A', c', w', hrun, h2, h3, h4, _⟩ := run_app (P := P) enc h1 w base t o.type e z bytes ht hinfo hzs ys A0 c0 hown xs A c B hr h63 hbytes hbase
  unfold Oper.wp execOp
  simp only [ho, resolve, invoke, builtin, Sem.run_bind, Sem.run_pure, Result.andThen_ok, List.map_toArray, List.map_cons, List.map_nil, hs, hx, hrun]
  exact h _ A' c' w' rfl h2 h3 h4
theorem own_far {w w' : World} {base n : Nat} {e : TypeId} {v : Value} {vs : List Value} {row : Option Nat} (h : w.ownsRow base e 1 v n vs) (hg : w.grownBy w' row) (hr : ∀ k, row = some k → k < base) : w'.ownsRow base e 1 v n vs := by
  refine ⟨h.1, ?_⟩
  rcases h.2 with hn | ⟨g, cap, cur, hv, hg2, hh, r⟩
  · exact .inl hn
  · exact .inr ⟨g, cap, cur, hv, hg2, (hg.block g (Array.getElem?_eq_some_iff.1 hh).1 (by intro e; have := hr g e.symm; omega)).trans hh, r⟩
/-- A vector in a box of its own. -/
def BoxS (w : World) (b : Nat) (s : SentV) (p : SentP) : Prop :=
  w.cell? ⟨b, 0, none⟩ = some (.int .i64 s.sch) ∧ w.cell? ⟨b, 1, none⟩ = some (.int .i64 s.dim) ∧ w.cell? ⟨b, 2, none⟩ = some (.slice p.AL s.L.length p.cL) ∧ w.cell? ⟨b, 3, none⟩ = some (.slice p.AV s.V.length p.cV) ∧
  w.cell? ⟨b, 4, none⟩ = some (.int .i64 s.scale) ∧ w.cell? ⟨b, 5, none⟩ = some (.int .i64 s.wide) ∧ w.cell? ⟨b, 6, none⟩ = some (.slice p.AE s.lev.length p.cE) ∧ w.cell? ⟨b, 7, none⟩ = some (.slice p.AN s.neg.length p.cN)
theorem BoxS.below {w w' : World} {b B : Nat} {s : SentV} {p : SentP} (h : BoxS w b s p) (hb : Below B w w') (hB : b < B) : BoxS w' b s p := by
  obtain ⟨h0, h1, h2, h3, h4, h5, h6, h7⟩ := h
  exact ⟨(hb.cell (p := ⟨b, 0, none⟩) hB).trans h0, (hb.cell (p := ⟨b, 1, none⟩) hB).trans h1, (hb.cell (p := ⟨b, 2, none⟩) hB).trans h2, (hb.cell (p := ⟨b, 3, none⟩) hB).trans h3,
    (hb.cell (p := ⟨b, 4, none⟩) hB).trans h4, (hb.cell (p := ⟨b, 5, none⟩) hB).trans h5, (hb.cell (p := ⟨b, 6, none⟩) hB).trans h6, (hb.cell (p := ⟨b, 7, none⟩) hB).trans h7⟩
theorem boxS_new (w : World) (s : SentV) (p : SentP) (t : TypeId) : BoxS (w.alloc (.cells #[.int .i64 s.sch, .int .i64 s.dim, .slice p.AL s.L.length p.cL, .slice p.AV s.V.length p.cV, .int .i64 s.scale, .int .i64 s.wide, .slice p.AE s.lev.length p.cE, .slice p.AN s.neg.length p.cN] t)) w.heap.size s p :=
  ⟨by simp [go_sem], by simp [go_sem], by simp [go_sem], by simp [go_sem], by simp [go_sem], by simp [go_sem], by simp [go_sem], by simp [go_sem]⟩
end Go.Proofs.YtngdgbicjhlnaaaGreat
/- A vector's body, by the program: its scheme's method out of a map. -/
namespace Go.Proofs.YtngdgbicjhlnaaaGreat
open Go.RowKit
set_option maxHeartbeats 2000000
set_option maxRecDepth 100000
set_option linter.unusedVariables false
theorem held12 {P : Program} {t : TypeId} {key F : Value} {w W W5 w1 : World} {g : Nat} {a b c d e f i j : Value} (HL : ∀ W : World, W.heap[g + 1]? = W5.heap[g + 1]? → (Instr.lookup t (.map (some (g + 1))) key false).run P W = .ok F W)
    (h : W.cell? ⟨g, 0, none⟩ = some a ∧ W.cell? ⟨g, 1, none⟩ = some b ∧ W.cell? ⟨g, 2, none⟩ = some c ∧ W.cell? ⟨g, 3, none⟩ = some d ∧ W.cell? ⟨g, 4, none⟩ = some e ∧ W.cell? ⟨g, 5, none⟩ = some f ∧ W.cell? ⟨g, 6, none⟩ = some i ∧ W.cell? ⟨g, 7, none⟩ = some j ∧ (Instr.lookup t (.map (some (g + 1))) key false).run P W = .ok F W ∧ W.heap[g + 1]? = W5.heap[g + 1]? ∧ g + 2 ≤ W.heap.size ∧ Below g w W) (hb : Below (g + 2) W w1) : w1.cell? ⟨g, 0, none⟩ = some a ∧ w1.cell? ⟨g, 1, none⟩ = some b ∧ w1.cell? ⟨g, 2, none⟩ = some c ∧ w1.cell? ⟨g, 3, none⟩ = some d ∧ w1.cell? ⟨g, 4, none⟩ = some e ∧ w1.cell? ⟨g, 5, none⟩ = some f ∧ w1.cell? ⟨g, 6, none⟩ = some i ∧ w1.cell? ⟨g, 7, none⟩ = some j ∧ (Instr.lookup t (.map (some (g + 1))) key false).run P w1 = .ok F w1 ∧ w1.heap[g + 1]? = W5.heap[g + 1]? ∧ g + 2 ≤ w1.heap.size ∧ Below g w w1 := by
  obtain ⟨h0, h1, h2, h3, h4, h5, h6, h7, hl, hm, hz, hB⟩ := h
  have hm1 := (hb.block (g + 1) (by omega)).trans hm
  exact ⟨(hb.cell (p := ⟨g, 0, none⟩) (by simp)).trans h0, (hb.cell (p := ⟨g, 1, none⟩) (by simp)).trans h1, (hb.cell (p := ⟨g, 2, none⟩) (by simp)).trans h2, (hb.cell (p := ⟨g, 3, none⟩) (by simp)).trans h3, (hb.cell (p := ⟨g, 4, none⟩) (by simp)).trans h4, (hb.cell (p := ⟨g, 5, none⟩) (by simp)).trans h5, (hb.cell (p := ⟨g, 6, none⟩) (by simp)).trans h6, (hb.cell (p := ⟨g, 7, none⟩) (by simp)).trans h7, HL _ hm1, hm1, Nat.le_trans hz hb.size, hB.trans (hb.mono (by omega))⟩
theorem held12B {P : Program} {t : TypeId} {key F : Value} {w W W5 : World} {g : Nat} {a b c d e f i j : Value} (h : W.cell? ⟨g, 0, none⟩ = some a ∧ W.cell? ⟨g, 1, none⟩ = some b ∧ W.cell? ⟨g, 2, none⟩ = some c ∧ W.cell? ⟨g, 3, none⟩ = some d ∧ W.cell? ⟨g, 4, none⟩ = some e ∧ W.cell? ⟨g, 5, none⟩ = some f ∧ W.cell? ⟨g, 6, none⟩ = some i ∧ W.cell? ⟨g, 7, none⟩ = some j ∧ (Instr.lookup t (.map (some (g + 1))) key false).run P W = .ok F W ∧ W.heap[g + 1]? = W5.heap[g + 1]? ∧ g + 2 ≤ W.heap.size ∧ Below g w W) : Below g w W := h.2.2.2.2.2.2.2.2.2.2.2
theorem held12Z {P : Program} {t : TypeId} {key F : Value} {w W W5 : World} {g : Nat} {a b c d e f i j : Value} (h : W.cell? ⟨g, 0, none⟩ = some a ∧ W.cell? ⟨g, 1, none⟩ = some b ∧ W.cell? ⟨g, 2, none⟩ = some c ∧ W.cell? ⟨g, 3, none⟩ = some d ∧ W.cell? ⟨g, 4, none⟩ = some e ∧ W.cell? ⟨g, 5, none⟩ = some f ∧ W.cell? ⟨g, 6, none⟩ = some i ∧ W.cell? ⟨g, 7, none⟩ = some j ∧ (Instr.lookup t (.map (some (g + 1))) key false).run P W = .ok F W ∧ W.heap[g + 1]? = W5.heap[g + 1]? ∧ g + 2 ≤ W.heap.size ∧ Below g w W) : g + 2 ≤ W.heap.size := h.2.2.2.2.2.2.2.2.2.2.1
theorem head_len {s : SentV} (hd1 : 1 ≤ s.dim) (hd4 : s.dim ≤ 4096) : ([s.sch] ++ encs [s.dim]).length ≤ 11 := by
  have h := lebI_ten (n := s.dim) (by unfold U64; omega)
  rw [encs_one, List.length_append, List.length_singleton]
  omega
end Go.Proofs.YtngdgbicjhlnaaaGreat
/- A frame's text, and how many bytes it has, by the document. -/
namespace Go.Proofs.YtngdgbicjhlnaaaGreat
open Go.RowKit
set_option maxHeartbeats 400000
set_option maxRecDepth 100000
set_option linter.unusedVariables false
/-- A frame in a box of its own. -/
def BoxF (w : World) (b : Nat) (f : FrameV) (p : SentP) : Prop :=
  w.cell? ⟨b, 0, none⟩ = some (.int .i64 f.knd) ∧ w.cell? ⟨b, 1, none⟩ = some (.int .i64 f.frm) ∧ w.cell? ⟨b, 2, none⟩ = some (.int .i64 f.stp) ∧
  w.cell? ⟨b, 3, none⟩ = some (.int .i64 f.S.sch) ∧ w.cell? ⟨b, 4, none⟩ = some (.int .i64 f.S.dim) ∧ w.cell? ⟨b, 5, none⟩ = some (.slice p.AL f.S.L.length p.cL) ∧ w.cell? ⟨b, 6, none⟩ = some (.slice p.AV f.S.V.length p.cV) ∧
  w.cell? ⟨b, 7, none⟩ = some (.int .i64 f.S.scale) ∧ w.cell? ⟨b, 8, none⟩ = some (.int .i64 f.S.wide) ∧ w.cell? ⟨b, 9, none⟩ = some (.slice p.AE f.S.lev.length p.cE) ∧ w.cell? ⟨b, 10, none⟩ = some (.slice p.AN f.S.neg.length p.cN)
theorem BoxF.below {w w' : World} {b B : Nat} {f : FrameV} {p : SentP} (h : BoxF w b f p) (hb : Below B w w') (hB : b < B) : BoxF w' b f p := by
  obtain ⟨h0, h1, h2, h3, h4, h5, h6, h7, h8, h9, h10⟩ := h
  exact ⟨(hb.cell (p := ⟨b, 0, none⟩) hB).trans h0, (hb.cell (p := ⟨b, 1, none⟩) hB).trans h1, (hb.cell (p := ⟨b, 2, none⟩) hB).trans h2, (hb.cell (p := ⟨b, 3, none⟩) hB).trans h3,
    (hb.cell (p := ⟨b, 4, none⟩) hB).trans h4, (hb.cell (p := ⟨b, 5, none⟩) hB).trans h5, (hb.cell (p := ⟨b, 6, none⟩) hB).trans h6, (hb.cell (p := ⟨b, 7, none⟩) hB).trans h7, (hb.cell (p := ⟨b, 8, none⟩) hB).trans h8, (hb.cell (p := ⟨b, 9, none⟩) hB).trans h9, (hb.cell (p := ⟨b, 10, none⟩) hB).trans h10⟩
theorem boxF_new (w : World) (f : FrameV) (p : SentP) (t : TypeId) : BoxF (w.alloc (.cells #[.int .i64 f.knd, .int .i64 f.frm, .int .i64 f.stp, .int .i64 f.S.sch, .int .i64 f.S.dim, .slice p.AL f.S.L.length p.cL, .slice p.AV f.S.V.length p.cV, .int .i64 f.S.scale, .int .i64 f.S.wide, .slice p.AE f.S.lev.length p.cE, .slice p.AN f.S.neg.length p.cN] t)) w.heap.size f p :=
  ⟨by simp [go_sem], by simp [go_sem], by simp [go_sem], by simp [go_sem], by simp [go_sem], by simp [go_sem], by simp [go_sem], by simp [go_sem], by simp [go_sem], by simp [go_sem], by simp [go_sem]⟩
theorem two_rd (w : World) (k k' : IntKind) (a b c d : Int) (t t' : TypeId) :
    Rd (Value.int k) ((w.alloc (.cells #[.int k a, .int k b] t)).alloc (.cells #[.int k' c, .int k' d] t')) ((w.alloc (.cells #[.int k a, .int k b] t)).alloc (.cells #[.int k' c, .int k' d] t')).heap.size (some ⟨w.heap.size, 0, none⟩) [a, b] ∧
    Rd (Value.int k') ((w.alloc (.cells #[.int k a, .int k b] t)).alloc (.cells #[.int k' c, .int k' d] t')) ((w.alloc (.cells #[.int k a, .int k b] t)).alloc (.cells #[.int k' c, .int k' d] t')).heap.size (some ⟨w.heap.size + 1, 0, none⟩) [c, d] ∧
    Below w.heap.size w ((w.alloc (.cells #[.int k a, .int k b] t)).alloc (.cells #[.int k' c, .int k' d] t')) := by
  refine ⟨?_, ?_, by go_grown⟩
  · have h := rd_new (enc := Value.int k) w t [a, b]
    exact h.on (grow (w.alloc (.cells #[.int k a, .int k b] t)) _)
  · have h := rd_new (enc := Value.int k') (w.alloc (.cells #[.int k a, .int k b] t)) t' [c, d]
    have e : (w.alloc (.cells #[.int k a, .int k b] t)).heap.size = w.heap.size + 1 := World.size_alloc _ _
    have h2 := h
    rw [show (some (⟨(w.alloc (.cells #[.int k a, .int k b] t)).heap.size, 0, none⟩ : Addr)) = some ⟨w.heap.size + 1, 0, none⟩ by rw [e]] at h2
    exact h2
theorem wrtV_len (f : FrameV) (hw : wfF f) (h : f.S.V.length ≤ 1000) : (wrtV f).length ≤ 65536 := by
  unfold wrtV
  split
  · rename_i hc
    have := text_len hc hw h
    unfold sealV
    split
    · simp
    · rw [List.length_append, le4_len]; omega
  · simp
end Go.Proofs.YtngdgbicjhlnaaaGreat
/- The chapter's example. -/
namespace Go.Proofs.YtngdgbicjhlnaaaGreat
open Go.RowKit
set_option maxHeartbeats 400000
set_option maxRecDepth 100000
set_option linter.unusedVariables false
theorem leb300 : lebI 300 = [172, 2] := by
  rw [lebI_more (by decide), lebI_last (by decide) (by decide)]
  rfl
theorem ack_live : textL (ackF 3 300) = [1, 2, 3, 172, 2] := by
  rw [ack_text, encs_cons, encs_one, lebI_last (by decide) (by decide), leb300]
  rfl
theorem ack_wrt : ∃ s : List Int, wrtV (ackF 3 300) = [1, 2, 3, 172, 2] ++ s ∧ s.length = 4 ∧ wrtE (ackF 3 300) = 0 := by
  have hc : chkF (ackF 3 300) = 0 := ack_chk.2 ⟨by decide, by decide, by decide, by decide⟩
  refine ⟨le4 (sumN [1, 2, 3, 172, 2]), ?_, le4_len _, ?_⟩
  · unfold wrtV sealV
    rw [if_pos hc, ack_live, if_neg (by decide)]
  · unfold wrtE sealE
    rw [if_pos hc, ack_live, if_neg (by decide)]
end Go.Proofs.YtngdgbicjhlnaaaGreat
