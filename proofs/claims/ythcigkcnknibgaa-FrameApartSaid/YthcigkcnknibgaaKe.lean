
/- Ke: texts joined: FrD FsD FrE FsQ FrF FrK FrLv ArgF. -/
import Derived.Test.YthcigkcnknibgaaKFrC
import Derived.Test.YthcigkcnknibgaaKb
import Derived.Test.YthcigkcnknibgaaKd
import Derived.Deep.RegionHeld3
import Derived.Test.YthcigkcnknibgaaKa
import Derived.Deep.RegionLaw
import Derived.Test.YthcigkcnknibgaaKc
import Derived.ChangeSame
/- Whether a frame may be, and is the same; an acknowledgement: by the document. -/
namespace Go.Proofs.Ythcigkcnknibgaa
open Go.RowKit
set_option maxHeartbeats 400000
set_option maxRecDepth 100000
set_option linter.unusedVariables false
@[reducible] def encF (f : FrameV) (p : SentP) : Value := .agg #[.int .i64 f.knd, .int .i64 f.frm, .int .i64 f.stp, .int .i64 f.S.sch, .int .i64 f.S.dim, .slice p.AL f.S.L.length p.cL, .slice p.AV f.S.V.length p.cV, .int .i64 f.S.scale, .int .i64 f.S.wide, .slice p.AE f.S.lev.length p.cE, .slice p.AN f.S.neg.length p.cN]
theorem ref_CheckF (f : FrameV) (p : SentP) (hn : lnS 100000 f.S) (hw : wfF f) (w : World) {B : Nat} (hB : B ≤ w.heap.size) (ra : RdS w B f.S p) :
    Calls Try.prog 17 #[encF f p] w fun e w' => e = .returned (.int .i64 (chkF f)) ∧ Below w.heap.size w w' := by
  have CM := hid (fun W (h : Below w.heap.size w W) => ref_May f.S p hn hw.2.2.2 W (B := B) (Nat.le_trans hB h.size) (ra.below (h.mono hB)))
  have CS := hid (fun W (h : Below w.heap.size w W) => ref_SameSent f.S zeroS p zeroP hn (ln_zero _) W (B := B) (D := 0) (Nat.le_trans hB h.size) (by omega) (ra.below (h.mono hB)) (RdS.zero _ _))
  have HR : chkF f = 0 ↔ (0 ≤ f.frm ∧ f.frm < 64 ∧ 0 ≤ f.stp ∧ f.stp ≤ 1073741824 ∧ ((f.knd = 1 ∧ mayB f.S = true) ∨ (f.knd = 2 ∧ sameS f.S zeroS = true))) := chkF_ok
  have HE : chkF f = 0 ∨ chkF f = 1 := by unfold chkF; split <;> simp
  obtain ⟨R, hR⟩ : ∃ R, chkF f = R := ⟨_, rfl⟩
  obtain ⟨vM, hM⟩ : ∃ v, mayB f.S = v := ⟨_, rfl⟩
  obtain ⟨vS, hS⟩ : ∃ v, sameS f.S zeroS = v := ⟨_, rfl⟩
  rw [hM] at CM
  rw [hS] at CS
  rw [hR, hM, hS] at HR
  rw [hR] at HE ⊢
  have HR2 : Hid (∀ v : Int, v = 0 ∨ v = 1 → (v = 0 ↔ (0 ≤ f.frm ∧ f.frm < 64 ∧ 0 ≤ f.stp ∧ f.stp ≤ 1073741824 ∧ ((f.knd = 1 ∧ vM = true) ∨ (f.knd = 2 ∧ vS = true)))) → R = v) := hid (fun v h1 h2 => by
    rw [← HR] at h2; omega)
  have hknd : I64 f.knd := hw.1
  clear hR hM hS HR HE ra hn hw
  by_cases ok : 0 ≤ f.frm ∧ f.frm < 64 ∧ 0 ≤ f.stp ∧ f.stp ≤ 1073741824
  · obtain ⟨o1, o2, o3, o4⟩ := ok
    by_cases hk1 : f.knd = 1
    · cases vM with
      | true =>
        obtain rfl : R = 0 := HR2.out 0 (by omega) (by simp [hk1, o1, o2, o3, o4])
        clear HR2 CS
        go_enter Try.func17, Try.ntmps17
        go_wp2_with fail
        refine (CM.out _ (by go_grown)).mono ?_
        rintro _ w1 ⟨rfl, hb1⟩
        go_wp2_with fail
        go_ret
        exact ⟨rfl, Below.trans (by go_grown) (hb1.mono (by simp))⟩
      | false =>
        obtain rfl : R = 1 := HR2.out 1 (by omega) (by simp [hk1])
        clear HR2 CS
        go_enter Try.func17, Try.ntmps17
        go_wp2_with fail
        refine (CM.out _ (by go_grown)).mono ?_
        rintro _ w1 ⟨rfl, hb1⟩
        go_wp2_with fail
        go_ret
        exact ⟨rfl, Below.trans (by go_grown) (hb1.mono (by simp))⟩
    · by_cases hk2 : f.knd = 2
      · cases vS with
        | true =>
          obtain rfl : R = 0 := HR2.out 0 (by omega) (by simp [hk2, o1, o2, o3, o4])
          clear HR2 CM
          go_enter Try.func17, Try.ntmps17
          go_wp2_with fail
          refine (CS.out _ (by go_grown)).mono ?_
          rintro _ w1 ⟨rfl, hb1⟩
          go_wp2_with fail
          go_ret
          exact ⟨rfl, Below.trans (by go_grown) (hb1.mono (by simp))⟩
        | false =>
          obtain rfl : R = 1 := HR2.out 1 (by omega) (by simp [hk2])
          clear HR2 CM
          go_enter Try.func17, Try.ntmps17
          go_wp2_with fail
          refine (CS.out _ (by go_grown)).mono ?_
          rintro _ w1 ⟨rfl, hb1⟩
          go_wp2_with fail
          go_ret
          exact ⟨rfl, Below.trans (by go_grown) (hb1.mono (by simp))⟩
      · obtain rfl : R = 1 := HR2.out 1 (by omega) (by simp [hk1, hk2])
        clear HR2 CM CS
        go_enter Try.func17, Try.ntmps17
        go_wp2_with fail
        all_goals (go_ret; exact ⟨rfl, by go_grown⟩)
  · obtain rfl : R = 1 := HR2.out 1 (by omega) (by
      constructor
      · intro h; omega
      · rintro ⟨h1, h2, h3, h4, _⟩; exact absurd ⟨h1, h2, h3, h4⟩ ok)
    clear HR2 CM CS
    by_cases hk1 : f.knd = 1
    · by_cases o1 : 0 ≤ f.frm
      · by_cases o2 : f.frm < 64
        · by_cases o3 : 0 ≤ f.stp
          · have o4 : ¬ f.stp ≤ 1073741824 := fun h => ok ⟨o1, o2, o3, h⟩
            clear ok
            go_enter Try.func17, Try.ntmps17
            go_wp2_with fail
            all_goals (go_ret; exact ⟨rfl, by go_grown⟩)
          · clear ok
            go_enter Try.func17, Try.ntmps17
            go_wp2_with fail
            all_goals (go_ret; exact ⟨rfl, by go_grown⟩)
        · clear ok
          go_enter Try.func17, Try.ntmps17
          go_wp2_with fail
          all_goals (go_ret; exact ⟨rfl, by go_grown⟩)
      · clear ok
        go_enter Try.func17, Try.ntmps17
        go_wp2_with fail
        all_goals (go_ret; exact ⟨rfl, by go_grown⟩)
    · by_cases o1 : 0 ≤ f.frm
      · by_cases o2 : f.frm < 64
        · by_cases o3 : 0 ≤ f.stp
          · have o4 : ¬ f.stp ≤ 1073741824 := fun h => ok ⟨o1, o2, o3, h⟩
            clear ok
            go_enter Try.func17, Try.ntmps17
            go_wp2_with fail
            all_goals (go_ret; exact ⟨rfl, by go_grown⟩)
          · clear ok
            go_enter Try.func17, Try.ntmps17
            go_wp2_with fail
            all_goals (go_ret; exact ⟨rfl, by go_grown⟩)
        · clear ok
          go_enter Try.func17, Try.ntmps17
          go_wp2_with fail
          all_goals (go_ret; exact ⟨rfl, by go_grown⟩)
      · clear ok
        go_enter Try.func17, Try.ntmps17
        go_wp2_with fail
        all_goals (go_ret; exact ⟨rfl, by go_grown⟩)
theorem ref_SameF (a b : FrameV) (p q : SentP) (ha : lnS 100000 a.S) (hb : lnS 100000 b.S) (w : World) {B D : Nat} (hB : B ≤ w.heap.size) (hD : D ≤ w.heap.size) (ra : RdS w B a.S p) (rb : RdS w D b.S q) :
    Calls Try.prog 19 #[encF a p, encF b q] w fun e w' => e = .returned (.bool (sameF a b)) ∧ Below w.heap.size w w' := by
  have CS := hid (fun W (h : Below w.heap.size w W) => ref_SameSent a.S b.S p q ha hb W (B := B) (D := D) (Nat.le_trans hB h.size) (Nat.le_trans hD h.size) (ra.below (h.mono hB)) (rb.below (h.mono hD)))
  unfold sameF
  obtain ⟨vS, hS⟩ : ∃ v, sameS a.S b.S = v := ⟨_, rfl⟩
  rw [hS] at CS ⊢
  obtain ⟨v1, h1⟩ : ∃ v, (a.knd == b.knd) = v := ⟨_, rfl⟩
  obtain ⟨v2, h2⟩ : ∃ v, (a.frm == b.frm) = v := ⟨_, rfl⟩
  obtain ⟨v3, h3⟩ : ∃ v, (a.stp == b.stp) = v := ⟨_, rfl⟩
  rw [h1, h2, h3]
  clear hS ra rb ha hb
  go_enter Try.func19, Try.ntmps19
  go_wp2_with fail
  any_goals (go_ret; exact ⟨by simp [*], by go_grown⟩)
  refine (CS.out _ (by go_grown)).mono ?_
  rintro _ w1 ⟨rfl, hb1⟩
  go_wp2_with fail
  go_ret
  exact ⟨by simp [*], Below.trans (by go_grown) (hb1.mono (by simp; omega))⟩
theorem ref_Ack (frm stp : Int) (w : World) :
    Calls Try.prog 21 #[.int .i64 frm, .int .i64 stp] w fun e w' => e = .returned (encF (ackF frm stp) zeroP) ∧ Below w.heap.size w w' := by
  go_enter Try.func21, Try.ntmps21
  go_wp2_with fail
  refine bodyPost_ret (v := encF (ackF frm stp) zeroP) (by simp [results, Try.results21, go_sem, ackF, zeroS, zeroP]) rfl ⟨rfl, by go_grown⟩
end Go.Proofs.Ythcigkcnknibgaa
/- Whether a frame may be, and is the same; an acknowledgement: by the program. -/
namespace Go.Proofs.Ythcigkcnknibgaa
open Go.RowKit
set_option maxHeartbeats 400000
set_option maxRecDepth 100000
set_option linter.unusedVariables false
theorem fs_Ack (frm stp : Int) (w : World) :
    Calls Try.prog 20 #[.int .i64 frm, .int .i64 stp] w fun e w' => e = .returned (encF (ackF frm stp) zeroP) ∧ Below w.heap.size w w' := by
  go_enter Try.func20, Try.ntmps20
  go_wp2_with fail
  refine bodyPost_ret (v := encF (ackF frm stp) zeroP) (by simp [results, Try.results20, go_sem, ackF, zeroS, zeroP]) rfl ⟨rfl, by go_grown⟩
theorem fs_head (f : FrameV) (p : SentP) (w : World) :
    Calls Try.prog 38 #[encF f p] w fun e w' => e = .returned (.agg #[.int .i64 f.knd, .int .i64 f.frm, .int .i64 f.stp]) ∧ Below w.heap.size w w' := by
  go_enter Try.func38, Try.ntmps38
  go_wp2_with fail
  refine bodyPost_ret (v := .agg #[.int .i64 f.knd, .int .i64 f.frm, .int .i64 f.stp]) (by simp [results, Try.results38, go_sem]) rfl ⟨rfl, by go_grown⟩
def carP (f : FrameV) : Prop := (f.knd = 1 ∧ mayB f.S = true) ∨ (f.knd = 2 ∧ empB f.S = true)
instance (f : FrameV) : Decidable (carP f) := by unfold carP; infer_instance
def carB (f : FrameV) : Bool := decide (carP f)
theorem carB_iff {f : FrameV} : carB f = true ↔ carP f := by unfold carB; exact decide_eq_true_iff
theorem emp_zero {s : SentV} : empB s = true ↔ sameS s zeroS = true := by
  rw [empB_iff, sameS_iff]
  obtain ⟨a1, a2, a3, a4, a5, a6, a7, a8⟩ := s
  unfold zeroS
  simp
  intros
  constructor
  · rintro ⟨h3, h4, h5, h6, h7, h8⟩; exact ⟨h5, h6, h3, h4, h7, h8⟩
  · rintro ⟨h5, h6, h3, h4, h7, h8⟩; exact ⟨h3, h4, h5, h6, h7, h8⟩
theorem fs_carries (f : FrameV) (p : SentP) (hn : lnS 100000 f.S) (hw : wfF f) (w : World) (ra : RdS w w.heap.size f.S p) :
    Calls Try.prog 36 #[encF f p] w fun e w' => e = .returned (.bool (carB f)) ∧ Below w.heap.size w w' := by
  by_cases h1 : f.knd = 1
  · have C := hid (fun W (h : Below w.heap.size w W) => fs_May f.S p hn hw.2.2.2 W ((ra.below h).more h.size))
    have HR : carB f = mayB f.S := by
      have h : carB f = true ↔ mayB f.S = true := by rw [carB_iff]; unfold carP; simp [h1]
      cases hx : mayB f.S <;> simp_all
    rw [HR]
    have g0 : (f.knd == 1) = true := by rw [h1]; rfl
    clear h1 HR ra hn hw
    go_enter Try.func36, Try.ntmps36
    go_wp2_with fail
    refine (C.out _ (by go_grown)).mono ?_
    rintro _ w1 ⟨rfl, hb1⟩
    go_wp2_with fail
    go_ret
    exact ⟨rfl, Below.trans (by go_grown) (hb1.mono (by simp))⟩
  · by_cases h2 : f.knd = 2
    · have C := hid (fun W => fs_empty f.S p W)
      have HR : carB f = empB f.S := by
        have h : carB f = true ↔ empB f.S = true := by rw [carB_iff]; unfold carP; simp [h2]
        cases hx : empB f.S <;> simp_all
      rw [HR]
      have g0 : (f.knd == 1) = false := by rw [h2]; rfl
      have g1 : (f.knd == 2) = true := by rw [h2]; rfl
      clear h1 h2 HR ra hn hw
      go_enter Try.func36, Try.ntmps36
      go_wp2_with fail
      refine (C.out _).mono ?_
      rintro _ w1 ⟨rfl, hb1⟩
      go_wp2_with fail
      go_ret
      exact ⟨rfl, Below.trans (by go_grown) (hb1.mono (by simp))⟩
    · have HR : carB f = false := decide_eq_false (by unfold carP; simp [h1, h2])
      rw [HR]
      clear HR ra hn hw
      go_enter Try.func36, Try.ntmps36
      go_wp2_with fail
      go_ret
      exact ⟨rfl, by go_grown⟩
theorem fs_Check (f : FrameV) (p : SentP) (hn : lnS 100000 f.S) (hw : wfF f) (w : World) (ra : RdS w w.heap.size f.S p) :
    Calls Try.prog 16 #[encF f p] w fun e w' => e = .returned (.int .i64 (chkF f)) ∧ Below w.heap.size w w' := by
  have C := hid (fun W (h : Below w.heap.size w W) => fs_carries f p hn hw W ((ra.below h).more h.size))
  have HR : chkF f = 0 ↔ (0 ≤ f.frm ∧ f.frm < 64 ∧ 0 ≤ f.stp ∧ f.stp ≤ 1073741824 ∧ carB f = true) := by
    rw [chkF_ok, carB_iff]; unfold frmP carP; rw [emp_zero]
  have HE : chkF f = 0 ∨ chkF f = 1 := by unfold chkF; split <;> simp
  obtain ⟨R, hR⟩ : ∃ R, chkF f = R := ⟨_, rfl⟩
  obtain ⟨v, hv⟩ : ∃ R, carB f = R := ⟨_, rfl⟩
  rw [hR] at HR HE ⊢
  rw [hv] at HR C
  have HR2 := hid HR
  have HE2 := hid HE
  clear hR hv HR HE ra hn hw
  by_cases ok : 0 ≤ f.frm ∧ f.frm < 64 ∧ 0 ≤ f.stp ∧ f.stp ≤ 1073741824
  · obtain ⟨o1, o2, o3, o4⟩ := ok
    cases v with
    | true =>
      obtain rfl : R = 0 := HR2.out.2 ⟨o1, o2, o3, o4, rfl⟩
      clear HR2 HE2
      go_enter Try.func16, Try.ntmps16
      go_wp2_with fail
      refine (C.out _ (by go_grown)).mono ?_
      rintro _ w1 ⟨rfl, hb1⟩
      go_wp2_with fail
      go_ret
      exact ⟨rfl, Below.trans (by go_grown) (hb1.mono (by simp))⟩
    | false =>
      obtain rfl : R = 1 := by rcases HE2.out with h | h; have := (HR2.out.1 h).2.2.2.2; simp at this; exact h
      clear HR2 HE2
      go_enter Try.func16, Try.ntmps16
      go_wp2_with fail
      refine (C.out _ (by go_grown)).mono ?_
      rintro _ w1 ⟨rfl, hb1⟩
      go_wp2_with fail
      go_ret
      exact ⟨rfl, Below.trans (by go_grown) (hb1.mono (by simp))⟩
  · obtain rfl : R = 1 := by
      rcases HE2.out with h | h
      · have h5 := HR2.out.1 h; exact absurd ⟨h5.1, h5.2.1, h5.2.2.1, h5.2.2.2.1⟩ ok
      · exact h
    clear HR2 HE2 C
    by_cases o1 : 0 ≤ f.frm
    · by_cases o2 : f.frm < 64
      · by_cases o3 : 0 ≤ f.stp
        · have o4 : ¬ f.stp ≤ 1073741824 := fun h => ok ⟨o1, o2, o3, h⟩
          clear ok
          go_enter Try.func16, Try.ntmps16
          go_wp2_with fail
          all_goals (go_ret; exact ⟨rfl, by go_grown⟩)
        · clear ok
          go_enter Try.func16, Try.ntmps16
          go_wp2_with fail
          all_goals (go_ret; exact ⟨rfl, by go_grown⟩)
      · clear ok
        go_enter Try.func16, Try.ntmps16
        go_wp2_with fail
        all_goals (go_ret; exact ⟨rfl, by go_grown⟩)
    · clear ok
      go_enter Try.func16, Try.ntmps16
      go_wp2_with fail
      all_goals (go_ret; exact ⟨rfl, by go_grown⟩)
end Go.Proofs.Ythcigkcnknibgaa
/- A vector's body, by the document. -/
namespace Go.Proofs.Ythcigkcnknibgaa
open Go.RowKit
set_option maxHeartbeats 400000
set_option maxRecDepth 100000
set_option linter.unusedVariables false
theorem step_app {P : Program} {α : Type} (enc : α → Value) (h1 : ∀ x, (enc x).oneCell' = true) {w : World} {ops : Array Oper} {o : Oper} {a : Act} {K : Act → World → Prop} {Q : Exit → Act → World → Prop} {E : Prop} (hgd : o.guard = none) (s x : Operand) (t : TypeId)
    (ho : o.op = .call { callee := .builtin .append, args := #[s, x], argTypes := #[t, t] })
    (base : Nat) (e : TypeId) (z : Value) (bytes : Nat) (ht : P.underlying t = some (.slice e)) (hinfo : (P.info? e).map (fun i => (i.zero, i.size, i.bytes)) = some (some z, 1, bytes)) (hzs : z.cells.size = 1)
    (ys : List α) (A0 : Option Addr) (c0 : Nat) (hs : a.eval s = .slice A0 ys.length c0) (hown : w.ownsRow base e 1 (.slice A0 ys.length c0) ys.length (ys.map enc))
    (xs : List α) (A : Option Addr) (c B : Nat) (hx : a.eval x = .slice A xs.length c) (hr : Rd enc w B A xs) (h63 : ys.length + xs.length ≤ maxLen) (hbytes : (ys.length + xs.length) * bytes ≤ 140737488355328) (hbase : base ≤ w.heap.size)
    (h : ∀ (S : List α) (A' : Option Addr) (c' : Nat) (w' : World), S = ys ++ xs → w'.ownsRow base e 1 (.slice A' S.length c') S.length (S.map enc) → Below base w w' → w.grownBy w' (Value.slice A0 ys.length c0).ownBlock → K (a.put o.dst (.slice A' S.length c')) w') :
    if Region.wanted o (yielded ops a.tmps) = true then Oper.wp P o a w K Q else E := by
  have hw : Region.wanted o (yielded ops a.tmps) = true := by simp [Region.wanted, hgd]
  rw [if_pos hw]
  obtain ⟨A', c', w', hrun, h2, h3, h4, _⟩ := run_app (P := P) enc h1 w base t o.type e z bytes ht hinfo hzs ys A0 c0 hown xs A c B hr h63 hbytes hbase
  unfold Oper.wp execOp
  simp only [ho, resolve, invoke, builtin, Sem.run_bind, Sem.run_pure, Result.andThen_ok, List.map_toArray, List.map_cons, List.map_nil, hs, hx, hrun]
  exact h _ A' c' w' rfl h2 h3 h4
theorem own_far {w w' : World} {base n : Nat} {e : TypeId} {v : Value} {vs : List Value} {row : Option Nat} (h : w.ownsRow base e 1 v n vs) (hg : w.grownBy w' row) (hr : ∀ k, row = some k → k < base) : w'.ownsRow base e 1 v n vs := by
  refine ⟨h.1, ?_⟩
  rcases h.2 with hn | ⟨g, cap, cur, hv, hg2, hh, r⟩
  · exact .inl hn
  · exact .inr ⟨g, cap, cur, hv, hg2, (hg.block g (Array.getElem?_eq_some_iff.1 hh).1 (by intro e; have := hr g e.symm; omega)).trans hh, r⟩
/-- A vector in a box of its own. -/
def BoxS (w : World) (b : Nat) (s : SentV) (p : SentP) : Prop :=
  w.cell? ⟨b, 0, none⟩ = some (.int .i64 s.sch) ∧ w.cell? ⟨b, 1, none⟩ = some (.int .i64 s.dim) ∧ w.cell? ⟨b, 2, none⟩ = some (.slice p.AL s.L.length p.cL) ∧ w.cell? ⟨b, 3, none⟩ = some (.slice p.AV s.V.length p.cV) ∧
  w.cell? ⟨b, 4, none⟩ = some (.int .i64 s.scale) ∧ w.cell? ⟨b, 5, none⟩ = some (.int .i64 s.wide) ∧ w.cell? ⟨b, 6, none⟩ = some (.slice p.AE s.lev.length p.cE) ∧ w.cell? ⟨b, 7, none⟩ = some (.slice p.AN s.neg.length p.cN)
theorem BoxS.below {w w' : World} {b B : Nat} {s : SentV} {p : SentP} (h : BoxS w b s p) (hb : Below B w w') (hB : b < B) : BoxS w' b s p := by
  obtain ⟨h0, h1, h2, h3, h4, h5, h6, h7⟩ := h
  exact ⟨(hb.cell (p := ⟨b, 0, none⟩) hB).trans h0, (hb.cell (p := ⟨b, 1, none⟩) hB).trans h1, (hb.cell (p := ⟨b, 2, none⟩) hB).trans h2, (hb.cell (p := ⟨b, 3, none⟩) hB).trans h3,
    (hb.cell (p := ⟨b, 4, none⟩) hB).trans h4, (hb.cell (p := ⟨b, 5, none⟩) hB).trans h5, (hb.cell (p := ⟨b, 6, none⟩) hB).trans h6, (hb.cell (p := ⟨b, 7, none⟩) hB).trans h7⟩
theorem boxS_new (w : World) (s : SentV) (p : SentP) (t : TypeId) : BoxS (w.alloc (.cells #[.int .i64 s.sch, .int .i64 s.dim, .slice p.AL s.L.length p.cL, .slice p.AV s.V.length p.cV, .int .i64 s.scale, .int .i64 s.wide, .slice p.AE s.lev.length p.cE, .slice p.AN s.neg.length p.cN] t)) w.heap.size s p :=
  ⟨by simp [go_sem], by simp [go_sem], by simp [go_sem], by simp [go_sem], by simp [go_sem], by simp [go_sem], by simp [go_sem], by simp [go_sem]⟩
theorem ref_Body (s : SentV) (p : SentP) (hn : lnS 600 s) (hw : wfS s) (w : World) (ra : RdS w w.heap.size s p) :
    Calls Try.prog 10 #[encT s p] w (OwnE 5 .u8 w.heap.size (bodyV s) (bodyE s) w) := by
  have CM := hid (fun W (h : Below w.heap.size w W) => ref_May s p (hn.more (by omega)) hw W (B := w.heap.size) h.size (ra.below h))
  unfold bodyV bodyE
  by_cases hm : mayB s = true
  · rw [if_pos hm, if_pos hm]
    have hp := mayB_iff.1 hm
    rw [hm] at CM
    obtain ⟨R, hR0⟩ : ∃ R, bodyL s = R := ⟨_, rfl⟩
    have HR0 := hid hR0
    rw [hR0]
    clear hR0
    have hd1 := hp.1
    have hd4 := hp.2.1
    have hs := hp.2.2
    have HB0 := hid (boxS_new w s p 27)
    have hs0 : 0 ≤ s.sch ∧ s.sch ≤ 3 := by
      rcases hs with h | h | h | h
      all_goals (have := h.1; omega)
    have CP : Hid (∀ (g1 g2 : Nat) (W : World), W.cell? ⟨g1, 0, none⟩ = some (.int .u8 s.sch) → W.cell? ⟨g2, 0, none⟩ = some (.int .u64 s.dim) → Calls Try.prog 25 #[.slice (some ⟨g1, 0, none⟩) 1 1, .slice (some ⟨g2, 0, none⟩) 1 1] W (OwnOf 5 .u8 W.heap.size ([s.sch] ++ encs [s.dim]) W)) := hid (fun g1 g2 W h1 h2 => by
      have h := ref_Put (A := some ⟨g1, 0, none⟩) (B := some ⟨g2, 0, none⟩) (c := 1) (d := 1) [s.sch] [s.dim] (by simp) (by simp) (by intro x hx; simp at hx; subst hx; unfold U64; omega) W (rd_one h1) (rd_one h2)
      exact h)
    have hX : [s.sch] ++ encs [s.dim] = s.sch :: lebI s.dim := by rw [encs_one]; rfl
    have lX := lebI_ten (n := s.dim) (by unfold U64; omega)
    rw [hX] at CP
    obtain ⟨X, hXX⟩ : ∃ X, s.sch :: lebI s.dim = X := ⟨_, rfl⟩
    have hXl : X.length ≤ 11 := by rw [← hXX, List.length_cons]; omega
    rw [hXX] at CP
    have HX := hid hXX
    clear hX lX hXX
    go_enter Try.func10, Try.ntmps10
    go_wp2_with fail
    refine (CM.out _ (by go_grown)).mono ?_
    rintro _ w1 ⟨rfl, hb1⟩
    have k1 : Below w.heap.size w w1 := Below.trans (by go_grown) (hb1.mono (by simp))
    have HB1 := hid (HB0.out.below hb1 (by simp))
    clear hb1
    obtain ⟨c0, c1, c2, c3, c4, c5, c6, c7⟩ := HB1.out
    have hlt1 : w.heap.size < w1.heap.size := lt_of_cell c0
    go_wp2_with fail
    refine (CP.out _ _ _ (by simp [go_sem]) (by simp [go_sem])).mono ?_
    rintro _ w2 ⟨A2, d2, rfl, ho2, hb2⟩
    have kz : Below w1.heap.size w1 ((w1.alloc (.cells #[.int .u8 s.sch] 5)).alloc (.cells #[.int .u64 s.dim] 44)) := by go_grown
    have hb12 : Below w1.heap.size w1 w2 := kz.trans (hb2.mono kz.size)
    have k2 : Below w.heap.size w w2 := k1.trans (hb12.mono k1.size)
    have HB2 := hid (HB1.out.below hb12 hlt1)
    have HO2 := hid (own_base ho2 (show w.heap.size ≤ _ by have := k1.size; have := kz.size; omega))
    have HO2b := hid (own_base ho2 (show w.heap.size + 1 ≤ _ by have := kz.size; omega))
    clear hb2 kz hb12 ho2 c0 c1 c2 c3 c4 c5 c6 c7 CP CM HB1 HB0 hlt1 k1
    obtain ⟨c0, c1, c2, c3, c4, c5, c6, c7⟩ := HB2.out
    have hlt2 : w.heap.size < w2.heap.size := lt_of_cell c0
    have RA := hid (ra.below k2)
    have KK := hid k2
    rcases hs with ⟨e, h1, h2, h3, h4, h5, h6⟩ | ⟨e, h1, h2, h3, h4, h5, h6⟩ | ⟨e, h1, h2, h3, h4, h5, h6, h7, h8⟩ | ⟨e, h1, h2, h3, h4, h5, h6⟩
    · have hR : X ++ encs (s.V.map zigI) = R := by
        rw [← HR0.out]
        unfold bodyL tailL sgnd
        rw [if_pos e, ← HX.out]; rfl
      have C := hid (ref_Signed (A := A2) (B := p.AV) (c := d2) (d := p.cV) X s.V (by omega) (by have := hn.2.1; omega) hw.2.2.2.1 w2 (own_rd HO2.out) (RA.out.2.1.more k2.size))
      rw [hR] at C
      clear hR HX HR0 h1 h2 h3 h4 h5 h6
      go_wp2_with fail
      refine C.out.mono ?_
      rintro _ w3 ⟨A3, d3, rfl, ho3, hb3⟩
      have HO3 := hid (own_base ho3 k2.size)
      clear ho3
      go_wp2_with fail
      go_ret2
      exact ⟨A3, d3, rfl, HO3.out, k2.trans (hb3.mono k2.size)⟩
    · have hR : (X ++ pixV s.dim s.L) ++ encs (s.V.map zigI) = R := by
        rw [← HR0.out]
        unfold bodyL tailL sgnd
        rw [if_neg (by omega), if_pos e, ← HX.out]
        simp
      have C := hid (ref_PutIx (A := p.AL) (c := p.cL) s.dim s.L hw.2.1 (by have := hn.1; omega) w2 (RA.out.1.more k2.size))
      rw [h1] at C
      have hLl : (pixV s.dim s.L).length ≤ 41000 := pixV_len _ _
      obtain ⟨LV, hLV⟩ : ∃ LV, pixV s.dim s.L = LV := ⟨_, rfl⟩
      rw [hLV] at hR C hLl
      have CG := hid (fun (Y : List Int) A d W (hY : Y = X ++ LV) (h : Rd (Value.int .u8) W W.heap.size A Y) (hv : Rd (Value.int .i64) W W.heap.size p.AV s.V) => (show Calls Try.prog 27 #[.slice A Y.length d, .slice p.AV s.V.length p.cV] W (OwnOf 5 .u8 W.heap.size R W) by
        have h := ref_Signed (A := A) (B := p.AV) (c := d) (d := p.cV) Y s.V (by rw [hY, List.length_append]; omega) (by have := hn.2.1; omega) hw.2.2.2.1 W h hv
        rw [hY, hR] at h
        rw [hY]; exact h))
      clear hR hLV HX HR0 h1 h2 h3 h4 h5 h6
      obtain ⟨B1, hBl, hBu⟩ : ∃ B1, w.heap.size < B1 ∧ B1 ≤ w.heap.size + 1 := ⟨w.heap.size + 1, by omega, by omega⟩
      have HO2c := hid (own_base HO2b.out hBu)
      clear HO2b HO2
      go_wp2_with fail
      refine C.out.mono ?_
      rintro _ w3 ⟨A3, d3, rfl, ho3, hb3⟩
      have HB3 := hid (HB2.out.below hb3 hlt2)
      have HO3 := hid (own_on HO2c.out hb3)
      have HL3 := hid (own_rd ho3)
      have k3 : Below w.heap.size w w3 := k2.trans (hb3.mono k2.size)
      clear c0 c1 c2 c3 c4 c5 c6 c7 ho3 hb3 HB2 HO2c C hlt2 RA KK
      obtain ⟨c0, c1, c2, c3, c4, c5, c6, c7⟩ := HB3.out
      have hlt3 : w.heap.size < w3.heap.size := lt_of_cell c0
      have RA3 := hid ((ra.below k3).more k3.size)
      go_wp2_with fail
      go_region_law (first | (refine step_app (Value.int .u8) (fun _ => rfl) rfl _ _ 32 rfl B1 5 (.int .u8 0) 1 Try.underlying32 info_u8 rfl X A2 d2 rfl HO3.out LV A3 d3 _ rfl HL3.out (by simp [maxLen]; omega) (by simp; omega) (by simp; omega) ?_; rintro Y A5 d5 w5 hY ho5 hb5 hg5; have hY2 := hid hY; have HO5 := hid ho5; clear hY ho5; have k5 := k3.trans (Below.trans ((Below.refl w.heap.size w3).drew) (hb5.mono (Nat.le_of_lt hBl))); have c3' := (hb5.cell (p := ⟨w.heap.size, 3, none⟩) hBl).trans c3) | (go_simp; go_at_call 27; refine (CG.out _ _ _ _ hY2.out (own_rd HO5.out) ((ra.below k5).2.1.more k5.size)).mono ?_; rintro _ w6 ⟨A6, d6, rfl, ho6, hb6⟩; have HO6 := hid (own_base ho6 k5.size); have k6 := k5.trans (hb6.mono k5.size); clear ho6))
      all_goals (go_wp2_with fail; go_ret2; exact ⟨A6, d6, rfl, HO6.out, k6⟩)
    · have hwd : I64 s.wide := hw.2.2.2.2.2.1
      have hsc : I64 s.scale := hw.2.2.2.2.1
      unfold I64 at hsc
      have hb8 : bysE s.wide s.lev.length = 0 := by unfold bysE; rw [if_neg (by omega), if_neg (by omega)]
      have hme : mayE s.wide s.lev = 0 := by unfold mayE; rw [if_pos hb8, if_pos h4]
      have hR : (X ++ encs [s.scale]) ++ [s.wide] ++ wevV s.wide s.lev ++ sgnV s.neg = R := by
        rw [← HR0.out]
        unfold bodyL tailL
        rw [if_neg (by omega), if_neg (by omega), if_pos e, ← HX.out, encs_one]
        simp
      have lS := lebI_ten (n := s.scale) (by unfold U64; omega)
      have hwl := ((may_same s.wide s.lev).2 hme).2
      have hnl := sgnV_len (l := s.neg) (by omega)
      have hwl2 : (wevV s.wide s.lev).length ≤ 5000 := by
        have h9 : s.wide.toNat * s.lev.length ≤ 8 * 4096 := Nat.mul_le_mul (by omega) (by omega)
        rw [hwl]; omega
      have CP := hid (fun (g : Nat) (W : World) (h : W.cell? ⟨g, 0, none⟩ = some (.int .u64 s.scale)) (hr : Rd (Value.int .u8) W W.heap.size A2 X) => ref_Put (A := A2) (B := some ⟨g, 0, none⟩) (c := d2) (d := 1) X [s.scale] (by omega) (by simp) (by intro x hx; simp at hx; subst hx; unfold U64; omega) W hr (rd_one h))
      have CW := hid (fun (W : World) (h : Rd (Value.int .u64) W W.heap.size p.AE s.lev) => ref_Weave (A := p.AE) (c := p.cE) s.wide s.lev hwd (by have := hn.2.2.1; omega) hw.2.2.2.2.2.2 W h)
      have CS := hid (fun (W : World) (h : Rd Value.bool W W.heap.size p.AN s.neg) => ref_Signs (A := p.AN) (c := p.cN) s.neg (by have := hn.2.2.2; omega) W h)
      rw [hme] at CW
      have hX1l : (X ++ encs [s.scale]).length ≤ 30 := by rw [List.length_append, encs_one]; omega
      obtain ⟨X1, hX1⟩ : ∃ X1, X ++ encs [s.scale] = X1 := ⟨_, rfl⟩
      rw [hX1] at hR CP hX1l
      obtain ⟨WV, hWV⟩ : ∃ WV, wevV s.wide s.lev = WV := ⟨_, rfl⟩
      rw [hWV] at hR CW hwl2
      obtain ⟨NV, hNV⟩ : ∃ NV, sgnV s.neg = NV := ⟨_, rfl⟩
      rw [hNV] at hR CS hnl
      have hnl2 : NV.length ≤ 600 := by omega
      have HR1 := hid hR
      clear hR hwl hnl HX HR0 h3 h4 h5 h6 hX1 hWV hNV hb8 hme lS hwd
      have hwb : s.wide % 256 = s.wide := by omega
      go_wp2_with fail
      refine (CP.out _ _ (by simp [go_sem]) ((own_rd HO2.out).on (grow _ _))).mono ?_
      rintro _ w3 ⟨A3, d3, rfl, ho3, hb3⟩
      have hb23 : Below w2.heap.size w2 w3 := (grow w2 _).trans (hb3.mono (by simp))
      have HB3 := hid (HB2.out.below hb23 hlt2)
      have k3 : Below w.heap.size w w3 := k2.trans (hb23.mono k2.size)
      obtain ⟨B1, hBl, hBu⟩ : ∃ B1, w.heap.size < B1 ∧ B1 ≤ w.heap.size + 1 := ⟨w.heap.size + 1, by omega, by omega⟩
      have HO3 := hid (own_base ho3 (show B1 ≤ _ by simp; omega))
      clear hb3 ho3 hb23 c0 c1 c2 c3 c4 c5 c6 c7 HB2 CP HO2 hlt2 RA KK
      obtain ⟨c0, c1, c2, c3, c4, c5, c6, c7⟩ := HB3.out
      have hlt3 : w.heap.size < w3.heap.size := lt_of_cell c0
      have hlow := HO3.out.lt
      have CW1 := hid (CW.out w3 ((ra.below k3).2.2.1.more k3.size))
      clear CW
      go_wp2_with fail
      refine CW1.out.mono ?_
      rintro _ w4 ⟨A4, d4, rfl, ho4, hb4⟩
      have HB4 := hid (HB3.out.below hb4 hlt3)
      have k4 : Below w.heap.size w w4 := k3.trans (hb4.mono k3.size)
      have HO4 := hid (own_on HO3.out hb4)
      have HW4 := hid ho4
      clear ho4 hb4 c0 c1 c2 c3 c4 c5 c6 c7 HB3 CW1 HO3
      obtain ⟨c0, c1, c2, c3, c4, c5, c6, c7⟩ := HB4.out
      have hlt4 : w.heap.size < w4.heap.size := lt_of_cell c0
      have hr0 : Rd (Value.int .u8) (w4.alloc (.cells #[.int .u8 s.wide] 5)) _ (some ⟨w4.heap.size, 0, none⟩) [s.wide] := rd_one (one_cell w4 (.int .u8 s.wide) 5).1
      have h0' := own_on HO4.out (grow w4 (.cells #[.int .u8 s.wide] 5))
      have hW4' := hid (own_on HW4.out (grow w4 (.cells #[.int .u8 s.wide] 5)))
      have hks := k4.size
      go_wp2_with (at_builtin; refine wpList_app (Value.int .u8) (fun _ => rfl) _ rfl _ _ 32 rfl B1 5 (.int .u8 0) 1 Try.underlying32 info_u8 rfl X1 _ _ rfl h0' [s.wide] _ 1 _ rfl hr0 (by simp [maxLen]; omega) (by simp; omega) (by simp; omega) ?_)
      rintro Y A5 d5 w5 hY ho5 hb5 hg5
      have k5 : Below w.heap.size w w5 := (k4.alloc k4.size _).trans (hb5.mono (by omega))
      have hW5 := own_far hW4'.out hg5 (fun k hk => (hlow k hk).2)
      have hr5 := own_rd hW5
      have HB5 := hid ((HB4.out.below (grow w4 (.cells #[.int .u8 s.wide] 5)) hlt4).below hb5 (by omega))
      have hYl : Y.length ≤ 40 := by rw [hY, List.length_append, List.length_singleton]; omega
      have hB5 : B1 ≤ w5.heap.size := by have := hb5.size; simp at this; omega
      have HY := hid hY
      clear hY c0 c1 c2 c3 c4 c5 c6 c7 hr0 h0' hg5 hlow
      go_wp2_with (at_builtin; refine wpList_app (Value.int .u8) (fun _ => rfl) _ rfl _ _ 32 rfl B1 5 (.int .u8 0) 1 Try.underlying32 info_u8 rfl Y _ _ rfl ho5 WV _ d4 _ rfl hr5 (by simp [maxLen]; omega) (by simp; omega) (hB5) ?_)
      rintro Y2 A6 d6 w6 hY2 ho6 hb6 _
      have k6 : Below w.heap.size w w6 := k5.trans (hb6.mono (by omega))
      have HB6 := hid (HB5.out.below hb6 (by omega))
      have HO6 := hid ho6
      have hY2l : Y2.length ≤ 5100 := by rw [hY2, List.length_append]; omega
      have HY2 := hid hY2
      clear hY2 ho5 ho6 hr5 hW5
      obtain ⟨c0, c1, c2, c3, c4, c5, c6, c7⟩ := HB6.out
      have hlt6 : w.heap.size < w6.heap.size := lt_of_cell c0
      have CS1 := hid (CS.out w6 ((ra.below k6).2.2.2.more k6.size))
      clear CS
      go_wp2_with fail
      refine CS1.out.mono ?_
      rintro _ w7 ⟨A7, d7, rfl, ho7, hb7⟩
      have h0 := own_on HO6.out hb7
      have hr7 := own_rd ho7
      have k7 := k6.trans (hb7.mono k6.size)
      have hB7 : B1 ≤ w7.heap.size := by have := hb7.size; omega
      clear CS1 c0 c1 c2 c3 c4 c5 c6 c7
      go_wp2_with (at_builtin; refine wpList_app (Value.int .u8) (fun _ => rfl) _ rfl _ _ 32 rfl B1 5 (.int .u8 0) 1 Try.underlying32 info_u8 rfl Y2 _ _ rfl h0 NV _ d7 _ rfl hr7 (by simp [maxLen]; omega) (by simp; omega) (hB7) ?_)
      rintro Z A8 d8 w8 hZ ho8 hb8 _
      have HZ := hid hZ
      have HO8 := hid ho8
      clear hZ ho8 h0 hr7
      go_wp2_with fail
      go_ret2
      have e8 : Z = R := by rw [HZ.out, HY2.out, HY.out]; exact HR1.out
      rw [← e8]
      exact ⟨A8, d8, rfl, own_base HO8.out (by omega), k7.trans (hb8.mono (by omega))⟩
    · have hsc : I64 s.scale := hw.2.2.2.2.1
      unfold I64 at hsc
      have hR : (X ++ encs [s.scale]) ++ sgnV s.neg = R := by
        rw [← HR0.out]
        unfold bodyL tailL
        rw [if_neg (by omega), if_neg (by omega), if_neg (by omega), ← HX.out, encs_one]
        simp
      have lS := lebI_ten (n := s.scale) (by unfold U64; omega)
      have hnl := sgnV_len (l := s.neg) (by omega)
      have CP := hid (fun (g : Nat) (W : World) (h : W.cell? ⟨g, 0, none⟩ = some (.int .u64 s.scale)) (hr : Rd (Value.int .u8) W W.heap.size A2 X) => ref_Put (A := A2) (B := some ⟨g, 0, none⟩) (c := d2) (d := 1) X [s.scale] (by omega) (by simp) (by intro x hx; simp at hx; subst hx; unfold U64; omega) W hr (rd_one h))
      have CS := hid (fun (W : World) (h : Rd Value.bool W W.heap.size p.AN s.neg) => ref_Signs (A := p.AN) (c := p.cN) s.neg (by have := hn.2.2.2; omega) W h)
      have hX1l : (X ++ encs [s.scale]).length ≤ 30 := by rw [List.length_append, encs_one]; omega
      obtain ⟨X1, hX1⟩ : ∃ X1, X ++ encs [s.scale] = X1 := ⟨_, rfl⟩
      rw [hX1] at hR CP hX1l
      obtain ⟨NV, hNV⟩ : ∃ NV, sgnV s.neg = NV := ⟨_, rfl⟩
      rw [hNV] at hR CS hnl
      have hnl2 : NV.length ≤ 600 := by omega
      have HR1 := hid hR
      clear hR hnl HX HR0 h1 h2 h3 h4 hX1 hNV lS
      go_wp2_with fail
      refine (CP.out _ _ (by simp [go_sem]) ((own_rd HO2.out).on (grow _ _))).mono ?_
      rintro _ w3 ⟨A3, d3, rfl, ho3, hb3⟩
      have hb23 : Below w2.heap.size w2 w3 := (grow w2 _).trans (hb3.mono (by simp))
      have HB3 := hid (HB2.out.below hb23 hlt2)
      have k3 : Below w.heap.size w w3 := k2.trans (hb23.mono k2.size)
      obtain ⟨B1, hBl, hBu⟩ : ∃ B1, w.heap.size < B1 ∧ B1 ≤ w.heap.size + 1 := ⟨w.heap.size + 1, by omega, by omega⟩
      have HO3 := hid (own_base ho3 (show B1 ≤ _ by simp; omega))
      clear hb3 ho3 hb23 c0 c1 c2 c3 c4 c5 c6 c7 HB2 CP HO2 hlt2 RA KK
      obtain ⟨c0, c1, c2, c3, c4, c5, c6, c7⟩ := HB3.out
      have hlt3 : w.heap.size < w3.heap.size := lt_of_cell c0
      obtain ⟨c0, c1, c2, c3, c4, c5, c6, c7⟩ := HB3.out
      have hlt6 : w.heap.size < w3.heap.size := lt_of_cell c0
      have CS1 := hid (CS.out w3 ((ra.below k3).2.2.2.more k3.size))
      clear CS
      go_wp2_with fail
      refine CS1.out.mono ?_
      rintro _ w7 ⟨A7, d7, rfl, ho7, hb7⟩
      have h0 := own_on HO3.out hb7
      have hr7 := own_rd ho7
      have k7 := k3.trans (hb7.mono k3.size)
      have hB7 : B1 ≤ w7.heap.size := by have := hb7.size; omega
      clear CS1 c0 c1 c2 c3 c4 c5 c6 c7
      go_wp2_with (at_builtin; refine wpList_app (Value.int .u8) (fun _ => rfl) _ rfl _ _ 32 rfl B1 5 (.int .u8 0) 1 Try.underlying32 info_u8 rfl X1 _ _ rfl h0 NV _ d7 _ rfl hr7 (by simp [maxLen]; omega) (by simp; omega) (hB7) ?_)
      rintro Z A8 d8 w8 hZ ho8 hb8 _
      have HZ := hid hZ
      have HO8 := hid ho8
      clear hZ ho8 h0 hr7
      go_wp2_with fail
      go_ret2
      have e8 : Z = R := by rw [HZ.out]; exact HR1.out
      rw [← e8]
      exact ⟨A8, d8, rfl, own_base HO8.out (by omega), k7.trans (hb8.mono (by omega))⟩
  · rw [if_neg hm, if_neg hm]
    have hm' : mayB s = false := by simpa using hm
    rw [hm'] at CM
    clear hm hm' ra hn hw
    go_enter Try.func10, Try.ntmps10
    go_wp2_with fail
    refine (CM.out _ (by go_grown)).mono ?_
    rintro _ w1 ⟨rfl, hb1⟩
    go_wp2_with fail
    go_ret2
    exact .nil (Below.trans (by go_grown) (hb1.mono (by simp)))
end Go.Proofs.Ythcigkcnknibgaa
/- A vector's body, by the program: its scheme's method out of a map. -/
namespace Go.Proofs.Ythcigkcnknibgaa
open Go.RowKit
set_option maxHeartbeats 2000000
set_option maxRecDepth 100000
set_option linter.unusedVariables false
theorem held12 {P : Program} {t : TypeId} {key F : Value} {w W W5 w1 : World} {g : Nat} {a b c d e f i j : Value} (HL : ∀ W : World, W.heap[g + 1]? = W5.heap[g + 1]? → (Instr.lookup t (.map (some (g + 1))) key false).run P W = .ok F W)
    (h : W.cell? ⟨g, 0, none⟩ = some a ∧ W.cell? ⟨g, 1, none⟩ = some b ∧ W.cell? ⟨g, 2, none⟩ = some c ∧ W.cell? ⟨g, 3, none⟩ = some d ∧ W.cell? ⟨g, 4, none⟩ = some e ∧ W.cell? ⟨g, 5, none⟩ = some f ∧ W.cell? ⟨g, 6, none⟩ = some i ∧ W.cell? ⟨g, 7, none⟩ = some j ∧ (Instr.lookup t (.map (some (g + 1))) key false).run P W = .ok F W ∧ W.heap[g + 1]? = W5.heap[g + 1]? ∧ g + 2 ≤ W.heap.size ∧ Below g w W) (hb : Below (g + 2) W w1) : w1.cell? ⟨g, 0, none⟩ = some a ∧ w1.cell? ⟨g, 1, none⟩ = some b ∧ w1.cell? ⟨g, 2, none⟩ = some c ∧ w1.cell? ⟨g, 3, none⟩ = some d ∧ w1.cell? ⟨g, 4, none⟩ = some e ∧ w1.cell? ⟨g, 5, none⟩ = some f ∧ w1.cell? ⟨g, 6, none⟩ = some i ∧ w1.cell? ⟨g, 7, none⟩ = some j ∧ (Instr.lookup t (.map (some (g + 1))) key false).run P w1 = .ok F w1 ∧ w1.heap[g + 1]? = W5.heap[g + 1]? ∧ g + 2 ≤ w1.heap.size ∧ Below g w w1 := by
  obtain ⟨h0, h1, h2, h3, h4, h5, h6, h7, hl, hm, hz, hB⟩ := h
  have hm1 := (hb.block (g + 1) (by omega)).trans hm
  exact ⟨(hb.cell (p := ⟨g, 0, none⟩) (by simp)).trans h0, (hb.cell (p := ⟨g, 1, none⟩) (by simp)).trans h1, (hb.cell (p := ⟨g, 2, none⟩) (by simp)).trans h2, (hb.cell (p := ⟨g, 3, none⟩) (by simp)).trans h3, (hb.cell (p := ⟨g, 4, none⟩) (by simp)).trans h4, (hb.cell (p := ⟨g, 5, none⟩) (by simp)).trans h5, (hb.cell (p := ⟨g, 6, none⟩) (by simp)).trans h6, (hb.cell (p := ⟨g, 7, none⟩) (by simp)).trans h7, HL _ hm1, hm1, Nat.le_trans hz hb.size, hB.trans (hb.mono (by omega))⟩
theorem held12B {P : Program} {t : TypeId} {key F : Value} {w W W5 : World} {g : Nat} {a b c d e f i j : Value} (h : W.cell? ⟨g, 0, none⟩ = some a ∧ W.cell? ⟨g, 1, none⟩ = some b ∧ W.cell? ⟨g, 2, none⟩ = some c ∧ W.cell? ⟨g, 3, none⟩ = some d ∧ W.cell? ⟨g, 4, none⟩ = some e ∧ W.cell? ⟨g, 5, none⟩ = some f ∧ W.cell? ⟨g, 6, none⟩ = some i ∧ W.cell? ⟨g, 7, none⟩ = some j ∧ (Instr.lookup t (.map (some (g + 1))) key false).run P W = .ok F W ∧ W.heap[g + 1]? = W5.heap[g + 1]? ∧ g + 2 ≤ W.heap.size ∧ Below g w W) : Below g w W := h.2.2.2.2.2.2.2.2.2.2.2
theorem held12Z {P : Program} {t : TypeId} {key F : Value} {w W W5 : World} {g : Nat} {a b c d e f i j : Value} (h : W.cell? ⟨g, 0, none⟩ = some a ∧ W.cell? ⟨g, 1, none⟩ = some b ∧ W.cell? ⟨g, 2, none⟩ = some c ∧ W.cell? ⟨g, 3, none⟩ = some d ∧ W.cell? ⟨g, 4, none⟩ = some e ∧ W.cell? ⟨g, 5, none⟩ = some f ∧ W.cell? ⟨g, 6, none⟩ = some i ∧ W.cell? ⟨g, 7, none⟩ = some j ∧ (Instr.lookup t (.map (some (g + 1))) key false).run P W = .ok F W ∧ W.heap[g + 1]? = W5.heap[g + 1]? ∧ g + 2 ≤ W.heap.size ∧ Below g w W) : g + 2 ≤ W.heap.size := h.2.2.2.2.2.2.2.2.2.2.1
theorem head_len {s : SentV} (hd1 : 1 ≤ s.dim) (hd4 : s.dim ≤ 4096) : ([s.sch] ++ encs [s.dim]).length ≤ 11 := by
  have h := lebI_ten (n := s.dim) (by unfold U64; omega)
  rw [encs_one, List.length_append, List.length_singleton]
  omega
end Go.Proofs.Ythcigkcnknibgaa
/- A frame's text, and how many bytes it has, by the document. -/
namespace Go.Proofs.Ythcigkcnknibgaa
open Go.RowKit
set_option maxHeartbeats 400000
set_option maxRecDepth 100000
set_option linter.unusedVariables false
/-- A frame in a box of its own. -/
def BoxF (w : World) (b : Nat) (f : FrameV) (p : SentP) : Prop :=
  w.cell? ⟨b, 0, none⟩ = some (.int .i64 f.knd) ∧ w.cell? ⟨b, 1, none⟩ = some (.int .i64 f.frm) ∧ w.cell? ⟨b, 2, none⟩ = some (.int .i64 f.stp) ∧
  w.cell? ⟨b, 3, none⟩ = some (.int .i64 f.S.sch) ∧ w.cell? ⟨b, 4, none⟩ = some (.int .i64 f.S.dim) ∧ w.cell? ⟨b, 5, none⟩ = some (.slice p.AL f.S.L.length p.cL) ∧ w.cell? ⟨b, 6, none⟩ = some (.slice p.AV f.S.V.length p.cV) ∧
  w.cell? ⟨b, 7, none⟩ = some (.int .i64 f.S.scale) ∧ w.cell? ⟨b, 8, none⟩ = some (.int .i64 f.S.wide) ∧ w.cell? ⟨b, 9, none⟩ = some (.slice p.AE f.S.lev.length p.cE) ∧ w.cell? ⟨b, 10, none⟩ = some (.slice p.AN f.S.neg.length p.cN)
theorem BoxF.below {w w' : World} {b B : Nat} {f : FrameV} {p : SentP} (h : BoxF w b f p) (hb : Below B w w') (hB : b < B) : BoxF w' b f p := by
  obtain ⟨h0, h1, h2, h3, h4, h5, h6, h7, h8, h9, h10⟩ := h
  exact ⟨(hb.cell (p := ⟨b, 0, none⟩) hB).trans h0, (hb.cell (p := ⟨b, 1, none⟩) hB).trans h1, (hb.cell (p := ⟨b, 2, none⟩) hB).trans h2, (hb.cell (p := ⟨b, 3, none⟩) hB).trans h3,
    (hb.cell (p := ⟨b, 4, none⟩) hB).trans h4, (hb.cell (p := ⟨b, 5, none⟩) hB).trans h5, (hb.cell (p := ⟨b, 6, none⟩) hB).trans h6, (hb.cell (p := ⟨b, 7, none⟩) hB).trans h7, (hb.cell (p := ⟨b, 8, none⟩) hB).trans h8, (hb.cell (p := ⟨b, 9, none⟩) hB).trans h9, (hb.cell (p := ⟨b, 10, none⟩) hB).trans h10⟩
theorem boxF_new (w : World) (f : FrameV) (p : SentP) (t : TypeId) : BoxF (w.alloc (.cells #[.int .i64 f.knd, .int .i64 f.frm, .int .i64 f.stp, .int .i64 f.S.sch, .int .i64 f.S.dim, .slice p.AL f.S.L.length p.cL, .slice p.AV f.S.V.length p.cV, .int .i64 f.S.scale, .int .i64 f.S.wide, .slice p.AE f.S.lev.length p.cE, .slice p.AN f.S.neg.length p.cN] t)) w.heap.size f p :=
  ⟨by simp [go_sem], by simp [go_sem], by simp [go_sem], by simp [go_sem], by simp [go_sem], by simp [go_sem], by simp [go_sem], by simp [go_sem], by simp [go_sem], by simp [go_sem], by simp [go_sem]⟩
theorem two_rd (w : World) (k k' : IntKind) (a b c d : Int) (t t' : TypeId) :
    Rd (Value.int k) ((w.alloc (.cells #[.int k a, .int k b] t)).alloc (.cells #[.int k' c, .int k' d] t')) ((w.alloc (.cells #[.int k a, .int k b] t)).alloc (.cells #[.int k' c, .int k' d] t')).heap.size (some ⟨w.heap.size, 0, none⟩) [a, b] ∧
    Rd (Value.int k') ((w.alloc (.cells #[.int k a, .int k b] t)).alloc (.cells #[.int k' c, .int k' d] t')) ((w.alloc (.cells #[.int k a, .int k b] t)).alloc (.cells #[.int k' c, .int k' d] t')).heap.size (some ⟨w.heap.size + 1, 0, none⟩) [c, d] ∧
    Below w.heap.size w ((w.alloc (.cells #[.int k a, .int k b] t)).alloc (.cells #[.int k' c, .int k' d] t')) := by
  refine ⟨?_, ?_, by go_grown⟩
  · have h := rd_new (enc := Value.int k) w t [a, b]
    exact h.on (grow (w.alloc (.cells #[.int k a, .int k b] t)) _)
  · have h := rd_new (enc := Value.int k') (w.alloc (.cells #[.int k a, .int k b] t)) t' [c, d]
    have e : (w.alloc (.cells #[.int k a, .int k b] t)).heap.size = w.heap.size + 1 := World.size_alloc _ _
    have h2 := h
    rw [show (some (⟨(w.alloc (.cells #[.int k a, .int k b] t)).heap.size, 0, none⟩ : Addr)) = some ⟨w.heap.size + 1, 0, none⟩ by rw [e]] at h2
    exact h2
theorem ref_Write (f : FrameV) (p : SentP) (hn : lnS 600 f.S) (hw : wfF f) (w : World) (ra : RdS w w.heap.size f.S p) :
    Calls Try.prog 8 #[encF f p] w (OwnE 5 .u8 w.heap.size (wrtV f) (wrtE f) w) := by
  have CC := hid (fun W (h : Below w.heap.size w W) => ref_CheckF f p (hn.more (by omega)) hw W (B := w.heap.size) h.size (ra.below h))
  unfold wrtV wrtE
  by_cases hc : chkF f = 0
  · have hu := text_u8 hc hw
    have htl := text_len (n := 600) hc hw hn.2.1
    obtain ⟨h1, h2, h3, h4, h5⟩ := chkF_ok.1 hc
    rw [if_pos hc, if_pos hc]
    rw [hc] at CC
    have hk : f.knd = 1 ∨ f.knd = 2 := by rcases h5 with h | h; exact Or.inl h.1; exact Or.inr h.1
    have hT1 : f.knd = 1 → ([1, f.knd] ++ encs [f.frm, f.stp]) ++ bodyV f.S = textL f := fun e => by
      have hm : mayB f.S = true := by rcases h5 with h | h; exact h.2; have := h.1; omega
      unfold textL bodyV
      rw [if_pos e, if_pos hm, encs_cons, encs_one]
      simp
    have hT2 : f.knd = 2 → ([1, f.knd] ++ encs [f.frm, f.stp]) = textL f := fun e => by
      unfold textL
      rw [if_neg (by omega), encs_cons, encs_one]
      simp
    have hBE : f.knd = 1 → bodyE f.S = 0 := fun e => by
      have hm : mayB f.S = true := by rcases h5 with h | h; exact h.2; have := h.1; omega
      unfold bodyE; rw [if_pos hm]
    have CS := hid (fun A d W (h : Rd (Value.int .u8) W W.heap.size A (textL f)) => ref_Seal (A := A) (c := d) (textL f) (by omega) hu W h)
    obtain ⟨SV, hSV⟩ : ∃ SV, sealV (textL f) = SV := ⟨_, rfl⟩
    obtain ⟨SE, hSE⟩ : ∃ SE, sealE (textL f) = SE := ⟨_, rfl⟩
    rw [hSV, hSE] at CS ⊢
    obtain ⟨T, hT⟩ : ∃ T, textL f = T := ⟨_, rfl⟩
    rw [hT] at CS hT1 hT2 htl
    have hPl : ([1, f.knd] ++ encs [f.frm, f.stp]).length ≤ 30 := by
      have a := lebI_ten (n := f.frm) (by unfold U64; omega)
      have b := lebI_ten (n := f.stp) (by unfold U64; omega)
      rw [encs_cons, encs_one]
      simp; omega
    have CP := hid (fun (W : World) (A B : Option Addr) (ha : Rd (Value.int .u8) W W.heap.size A [1, f.knd]) (hb : Rd (Value.int .u64) W W.heap.size B [f.frm, f.stp]) => ref_Put (A := A) (B := B) (c := 2) (d := 2) [1, f.knd] [f.frm, f.stp] (by simp) (by simp) (by
      intro x hx; simp at hx; rcases hx with rfl | rfl
      · unfold U64; omega
      · unfold U64; omega) W ha hb)
    obtain ⟨P, hP⟩ : ∃ P, [1, f.knd] ++ encs [f.frm, f.stp] = P := ⟨_, rfl⟩
    rw [hP] at CP hT1 hT2 hPl
    have CB := hid (fun W (h : Below w.heap.size w W) => ref_Body f.S p hn hw.2.2.2 W ((ra.below h).more h.size))
    have HB0 := hid (boxF_new w f p 29)
    clear hSV hSE hT hP hu h5 hc ra hn hw
    go_enter Try.func8, Try.ntmps8
    go_wp2_with fail
    refine (CC.out _ (by go_grown)).mono ?_
    rintro _ w1 ⟨rfl, hb1⟩
    have k1 : Below w.heap.size w w1 := Below.trans (by go_grown) (hb1.mono (by simp))
    have HB1 := hid (HB0.out.below hb1 (by simp))
    clear hb1 CC HB0
    obtain ⟨c0, c1, c2, c3, c4, c5, c6, c7, c8, c9, c10⟩ := HB1.out
    have hlt1 : w.heap.size < w1.heap.size := lt_of_cell c0
    rcases hk with hk | hk
    · have hT := hT1 hk
      have hBE1 := hBE hk
      obtain ⟨BV, hBV⟩ : ∃ BV, bodyV f.S = BV := ⟨_, rfl⟩
      rw [hBE1, hBV] at CB
      rw [hBV] at hT
      have hTl : P.length + BV.length = T.length := by rw [← hT, List.length_append]
      have HT := hid hT
      clear hT hT1 hT2 hBE hBE1 hBV
      obtain ⟨z1, z2, kz⟩ := two_rd w1 .u8 .u64 1 f.knd f.frm f.stp 5 44
      rw [hk] at z1 z2 kz CP
      have hz := kz.size
      go_wp2_with fail
      refine (CP.out _ _ _ z1 z2).mono ?_
      rintro _ w2 ⟨A2, d2, rfl, ho2, hb2⟩
      have hb12 : Below w1.heap.size w1 w2 := kz.trans (hb2.mono kz.size)
      have k2 : Below w.heap.size w w2 := k1.trans (hb12.mono k1.size)
      have HB2 := hid (HB1.out.below hb12 hlt1)
      have HO2 := hid (own_base ho2 (show w.heap.size ≤ _ by have := k1.size; omega))
      clear hb2 kz hb12 ho2 c0 c1 c2 c3 c4 c5 c6 c7 c8 c9 c10 CP HB1 hlt1 k1 z1 z2 hz
      obtain ⟨c0, c1, c2, c3, c4, c5, c6, c7, c8, c9, c10⟩ := HB2.out
      have hlt2 : w.heap.size < w2.heap.size := lt_of_cell c0
      have CB2 := hid (CB.out w2 k2)
      clear CB
      go_wp2_with fail
      refine CB2.out.mono ?_
      rintro _ w3 ⟨A3, d3, rfl, ho3, hb3⟩
      have h0 := own_on HO2.out hb3
      have hr3 := own_rd ho3
      have k3 : Below w.heap.size w w3 := k2.trans (hb3.mono k2.size)
      have hks := k3.size
      clear CB2 c0 c1 c2 c3 c4 c5 c6 c7 c8 c9 c10
      go_wp2_with (at_builtin; refine wpList_app (Value.int .u8) (fun _ => rfl) _ rfl _ _ 32 rfl w.heap.size 5 (.int .u8 0) 1 Try.underlying32 info_u8 rfl P _ _ rfl h0 BV _ d3 _ rfl hr3 (by simp [maxLen]; omega) (by simp; omega) (hks) ?_)
      rintro Z A4 d4 w4 hZ ho4 hb4 _
      have k4 := k3.trans hb4
      obtain rfl : Z = T := by rw [hZ, HT.out]
      have CS4 := hid (CS.out A4 d4 w4 (own_rd ho4))
      clear CS hZ h0 hr3 ho4 HT
      go_wp2_with fail
      refine CS4.out.mono ?_
      rintro _ w5 ⟨A5, d5, rfl, ho5, hb5⟩
      have HO5 := hid (own_base ho5 k4.size)
      clear ho5
      go_wp2_with fail
      go_ret2
      exact ⟨A5, d5, rfl, HO5.out, k4.trans (hb5.mono k4.size)⟩
    · obtain rfl := hT2 hk
      clear hT1 hT2 hBE CB
      obtain ⟨z1, z2, kz⟩ := two_rd w1 .u8 .u64 1 f.knd f.frm f.stp 5 44
      rw [hk] at z1 z2 kz CP
      have hz := kz.size
      go_wp2_with fail
      refine (CP.out _ _ _ z1 z2).mono ?_
      rintro _ w2 ⟨A2, d2, rfl, ho2, hb2⟩
      have hb12 : Below w1.heap.size w1 w2 := kz.trans (hb2.mono kz.size)
      have k2 : Below w.heap.size w w2 := k1.trans (hb12.mono k1.size)
      have HB2 := hid (HB1.out.below hb12 hlt1)
      have HO2 := hid (own_base ho2 (show w.heap.size ≤ _ by have := k1.size; omega))
      clear hb2 kz hb12 ho2 c0 c1 c2 c3 c4 c5 c6 c7 c8 c9 c10 CP HB1 hlt1 k1 z1 z2 hz
      obtain ⟨c0, c1, c2, c3, c4, c5, c6, c7, c8, c9, c10⟩ := HB2.out
      have hlt2 : w.heap.size < w2.heap.size := lt_of_cell c0
      have CS4 := hid (CS.out A2 d2 w2 (own_rd HO2.out))
      clear CS
      go_wp2_with fail
      refine CS4.out.mono ?_
      rintro _ w5 ⟨A5, d5, rfl, ho5, hb5⟩
      have HO5 := hid (own_base ho5 k2.size)
      clear ho5
      go_wp2_with fail
      go_ret2
      exact ⟨A5, d5, rfl, HO5.out, k2.trans (hb5.mono k2.size)⟩
  · have hc1 : chkF f = 1 := chkF_no (fun h => hc (chkF_ok.2 h))
    rw [if_neg hc, if_neg hc]
    rw [hc1] at CC
    clear hc hc1 ra hn hw
    go_enter Try.func8, Try.ntmps8
    go_wp2_with fail
    refine (CC.out _ (by go_grown)).mono ?_
    rintro _ w1 ⟨rfl, hb1⟩
    go_wp2_with fail
    go_ret2
    exact .nil (Below.trans (by go_grown) (hb1.mono (by simp)))
theorem wrtV_len (f : FrameV) (hw : wfF f) (h : f.S.V.length ≤ 1000) : (wrtV f).length ≤ 65536 := by
  unfold wrtV
  split
  · rename_i hc
    have := text_len hc hw h
    unfold sealV
    split
    · simp
    · rw [List.length_append, le4_len]; omega
  · simp
theorem ref_SizeF (f : FrameV) (p : SentP) (hn : lnS 600 f.S) (hw : wfF f) (w : World) (ra : RdS w w.heap.size f.S p) :
    Calls Try.prog 12 #[encF f p] w fun e w' => e = .returned (.tuple #[.int .i64 ((wrtV f).length : Int), .int .i64 (wrtE f)]) ∧ Below w.heap.size w w' := by
  have C := hid (fun W (h : Below w.heap.size w W) => ref_Write f p hn hw W ((ra.below h).more h.size))
  have hl := wrtV_len f hw (by have := hn.2.1; omega)
  obtain ⟨V, hV⟩ : ∃ V, wrtV f = V := ⟨_, rfl⟩
  obtain ⟨E, hE⟩ : ∃ E, wrtE f = E := ⟨_, rfl⟩
  rw [hV, hE] at C
  rw [hV] at hl
  rw [hV, hE]
  clear hV hE ra hn hw
  go_enter Try.func12, Try.ntmps12
  go_wp2_with fail
  refine (C.out _ (by go_grown)).mono ?_
  rintro _ w1 ⟨A1, d1, rfl, ho1, hb1⟩
  clear ho1
  go_wp2_with fail
  go_ret2
  exact ⟨rfl, Below.trans (by go_grown) (hb1.mono (by simp))⟩
end Go.Proofs.Ythcigkcnknibgaa
/- What the laws ask of the program's frame: seven contracts, as one bundle; to be shown over the landed code. -/
namespace Go.Proofs.Ythcigkcnknibgaa
open Go.RowKit
set_option maxRecDepth 100000
set_option linter.unusedVariables false
/-- A frame told, in memory that reads so, and an error. -/
def OwnFr (r : FrameV × Int) (w : World) (e : Ending) (w' : World) : Prop :=
  ∃ p, e = .returned (.tuple #[encF r.1 p, .int .i64 r.2]) ∧ RdS w' w'.heap.size r.1.S p ∧ Below w.heap.size w w'
end Go.Proofs.Ythcigkcnknibgaa
/- The chapter's example. -/
namespace Go.Proofs.Ythcigkcnknibgaa
open Go.RowKit
set_option maxHeartbeats 400000
set_option maxRecDepth 100000
set_option linter.unusedVariables false
theorem leb300 : lebI 300 = [172, 2] := by
  rw [lebI_more (by decide), lebI_last (by decide) (by decide)]
  rfl
theorem ack_live : textL (ackF 3 300) = [1, 2, 3, 172, 2] := by
  rw [ack_text, encs_cons, encs_one, lebI_last (by decide) (by decide), leb300]
  rfl
theorem ack_wrt : ∃ s : List Int, wrtV (ackF 3 300) = [1, 2, 3, 172, 2] ++ s ∧ s.length = 4 ∧ wrtE (ackF 3 300) = 0 := by
  have hc : chkF (ackF 3 300) = 0 := ack_chk.2 ⟨by decide, by decide, by decide, by decide⟩
  refine ⟨le4 (sumN [1, 2, 3, 172, 2]), ?_, le4_len _, ?_⟩
  · unfold wrtV sealV
    rw [if_pos hc, ack_live, if_neg (by decide)]
  · unfold wrtE sealE
    rw [if_pos hc, ack_live, if_neg (by decide)]
end Go.Proofs.Ythcigkcnknibgaa
/- An argument that is a frame, opened. -/
namespace Go.Proofs.Ythcigkcnknibgaa
open Go.ChangeShapes Go.WideShapes Go.ChangeAt Go.RowKit
set_option maxRecDepth 100000
set_option linter.unusedVariables false
theorem cellsOf_int : Try.prog.cellsOf 3 = 1 := by kernel_rfl
theorem cellsOf_i64 : Try.prog.cellsOf 2 = 1 := by kernel_rfl
theorem cellsOf_u64 : Try.prog.cellsOf 44 = 1 := by kernel_rfl
theorem cellsOf_ints : Try.prog.cellsOf 22 = 1 := by kernel_rfl
theorem cellsOf_i64s : Try.prog.cellsOf 23 = 1 := by kernel_rfl
theorem cellsOf_u64s : Try.prog.cellsOf 24 = 1 := by kernel_rfl
theorem cellsOf_bools : Try.prog.cellsOf 25 = 1 := by kernel_rfl
theorem cellsOf_sent : Try.prog.cellsOf 27 = 8 := by kernel_rfl
theorem cellsOf_frame : Try.prog.cellsOf 29 = 11 := by kernel_rfl
section
variable {H : Type} {enc : TypeId × Value → H} {P : Program} {W : World}
theorem cell_nums {k : IntKind} {t e : TypeId} {cs : List Value} {fuel : Nat} {x : DataW H × List MemPlace} (ht : P.underlying t = some (.slice e)) (he : P.underlying e = some (.int k)) (hc : P.cellsOf e = 1)
    (hf : DataW.trod enc P W 0 (fun _ => true) true fuel t cs = some x) :
    ∃ A xs c, cs = [.slice A xs.length c] ∧ Rd (Value.int k) W W.heap.size A xs ∧ (∀ x ∈ xs, (Lit.int k x).wf = true) ∧ xs.length ≤ c ∧ c ≤ 9223372036854775807 := by
  rcases open_ints ht he hc hf with ⟨rfl, _⟩ | ⟨a, len, cap, zs, rfl, _, hl, hm, hz, _, hcell, hwz⟩
  · exact ⟨none, [], 0, rfl, Rd.none_, by intro x hx; simp at hx, by simp, by omega⟩
  · simp only [if_true] at hz
    have hlen : (zs.take len).length = len := by rw [List.length_take]; omega
    refine ⟨some a, zs.take len, cap, by rw [hlen], nums_rd rfl fun i hi => hcell i (by omega), fun x hx => hwz x (List.mem_of_mem_take hx), by omega, by unfold maxLen at hm; omega⟩
theorem cell_bls {t e : TypeId} {cs : List Value} {fuel : Nat} {x : DataW H × List MemPlace} (ht : P.underlying t = some (.slice e)) (he : P.underlying e = some .bool) (hc : P.cellsOf e = 1)
    (hf : DataW.trod enc P W 0 (fun _ => true) true fuel t cs = some x) :
    ∃ A xs c, cs = [.slice A xs.length c] ∧ Rd Value.bool W W.heap.size A xs ∧ xs.length ≤ c ∧ c ≤ 9223372036854775807 := by
  rcases Deep.open_bools ht he hc hf with ⟨rfl, _⟩ | ⟨a, len, cap, B, rfl, _, hl, hm, _, hcell⟩
  · exact ⟨none, [], 0, rfl, Rd.none_, by simp, by omega⟩
  · have hlen : ((List.range len).map B).length = len := by simp
    exact ⟨some a, (List.range len).map B, cap, by rw [hlen], bools_rd fun i hi => hcell i (by omega), by omega, by unfold maxLen at hm; omega⟩
/-- What bounds a vector that came in. -/
def capS (s : SentV) (p : SentP) : Prop := (s.L.length ≤ p.cL ∧ p.cL ≤ 9223372036854775807) ∧ (s.V.length ≤ p.cV ∧ p.cV ≤ 9223372036854775807) ∧ (s.lev.length ≤ p.cE ∧ p.cE ≤ 9223372036854775807) ∧ (s.neg.length ≤ p.cN ∧ p.cN ≤ 9223372036854775807)
theorem cell_sent {c0 c1 c2 c3 c4 c5 c6 c7 : Value} {fuel : Nat} {x : DataW H × List MemPlace}
    (hf : DataW.trod enc Try.prog W 0 (fun _ => true) true fuel 27 [c0, c1, c2, c3, c4, c5, c6, c7] = some x) :
    ∃ s p, [c0, c1, c2, c3, c4, c5, c6, c7] = [.int .i64 s.sch, .int .i64 s.dim, .slice p.AL s.L.length p.cL, .slice p.AV s.V.length p.cV, .int .i64 s.scale, .int .i64 s.wide, .slice p.AE s.lev.length p.cE, .slice p.AN s.neg.length p.cN] ∧ RdS W W.heap.size s p ∧ wfS s ∧ capS s p := by
  obtain ⟨xs, n, _, _, _, hlen, hg⟩ := DataW.trod_struct Try.underlying27 hf
  have h0 := hg 0 _ rfl
  have h1 := hg 1 _ rfl
  have h2 := hg 2 _ rfl
  have h3 := hg 3 _ rfl
  have h4 := hg 4 _ rfl
  have h5 := hg 5 _ rfl
  have h6 := hg 6 _ rfl
  have h7 := hg 7 _ rfl
  have hlen8 : xs.length = 8 := hlen
  obtain ⟨x0, x1, x2, x3, x4, x5, x6, x7, rfl⟩ : ∃ x0 x1 x2 x3 x4 x5 x6 x7, xs = [x0, x1, x2, x3, x4, x5, x6, x7] := by
    match xs, hlen8 with
    | [x0, x1, x2, x3, x4, x5, x6, x7], _ => exact ⟨x0, x1, x2, x3, x4, x5, x6, x7, rfl⟩
  simp [cellsOf_int] at h0
  simp [cellsOf_int] at h1
  simp [cellsOf_ints] at h2
  simp [cellsOf_i64s] at h3
  simp [cellsOf_i64] at h4
  simp [cellsOf_int] at h5
  simp [cellsOf_u64s] at h6
  simp [cellsOf_bools] at h7
  obtain ⟨sch, e0, _, w0⟩ := DataW.trod_int Try.underlying3 h0
  obtain ⟨dim, e1, _, w1⟩ := DataW.trod_int Try.underlying3 h1
  obtain ⟨AL, L, cL, e2, r2, w2, l2, m2⟩ := cell_nums Try.underlying22 Try.underlying3 cellsOf_int h2
  obtain ⟨AV, V, cV, e3, r3, w3, l3, m3⟩ := cell_nums Try.underlying23 Try.underlying2 cellsOf_i64 h3
  obtain ⟨scale, e4, _, w4⟩ := DataW.trod_int Try.underlying2 h4
  obtain ⟨wide, e5, _, w5⟩ := DataW.trod_int Try.underlying3 h5
  obtain ⟨AE, lev, cE, e6, r6, w6, l6, m6⟩ := cell_nums Try.underlying24 Try.underlying44 cellsOf_u64 h6
  obtain ⟨AN, neg, cN, e7, r7, l7, m7⟩ := cell_bls Try.underlying25 Try.underlying4 cells_bool h7
  simp only [List.cons.injEq, and_true] at e0 e1 e2 e3 e4 e5 e6 e7
  subst e0 e1 e2 e3 e4 e5 e6 e7
  exact ⟨⟨sch, dim, L, V, scale, wide, lev, neg⟩, ⟨AL, cL, AV, cV, AE, cE, AN, cN⟩, rfl, ⟨r2, r3, r6, r7⟩,
    ⟨I64.of_wf w0, I64.of_wf w1, fun x hx => I64.of_wf (w2 x hx), fun x hx => I64.of_wf (w3 x hx), I64.of_wf w4, I64.of_wf w5, fun x hx => U64.of_wf (w6 x hx)⟩, ⟨l2, m2⟩, ⟨l3, m3⟩, ⟨l6, m6⟩, ⟨l7, m7⟩⟩
theorem list11 {cs : List Value} (h : cs.length = 11) : ∃ a b c d e f g i j k l, cs = [a, b, c, d, e, f, g, i, j, k, l] := by
  match cs, h with
  | [a, b, c, d, e, f, g, i, j, k, l], _ => exact ⟨a, b, c, d, e, f, g, i, j, k, l, rfl⟩
theorem open_frame {r : Reach} {v : Value} {d : DataW H} {ps : List MemPlace} {b0 : Nat}
    (hval : Value.okWide Try.prog W r b0 29 v) (hd : DataW.Trod enc Try.prog W 0 (fun _ => true) true 29 v d ps) :
    ∃ f p, v = encF f p ∧ RdS W W.heap.size f.S p ∧ wfF f ∧ capS f.S p := by
  obtain ⟨cs, rfl, hs⟩ := okWide_struct Try.underlying29 hval
  obtain ⟨fuel, hf⟩ := hd
  rw [cellsOf_frame] at hs
  obtain ⟨cs⟩ := cs
  obtain ⟨c0, c1, c2, c3, c4, c5, c6, c7, c8, c9, c10, rfl⟩ := list11 (by simpa using hs)
  have hf' : DataW.trod enc Try.prog W 0 (fun _ => true) true fuel 29 [c0, c1, c2, c3, c4, c5, c6, c7, c8, c9, c10] = some (d, ps) := by simpa [Value.cells] using hf
  obtain ⟨xs, n, _, _, _, hlen, hg⟩ := DataW.trod_struct Try.underlying29 hf'
  have h0 := hg 0 _ rfl
  have h1 := hg 1 _ rfl
  have h2 := hg 2 _ rfl
  have h3 := hg 3 _ rfl
  have hlen4 : xs.length = 4 := hlen
  obtain ⟨x0, x1, x2, x3, rfl⟩ : ∃ x0 x1 x2 x3, xs = [x0, x1, x2, x3] := by
    match xs, hlen4 with
    | [x0, x1, x2, x3], _ => exact ⟨x0, x1, x2, x3, rfl⟩
  simp [cellsOf_int] at h0
  simp [cellsOf_int] at h1
  simp [cellsOf_int] at h2
  simp [cellsOf_sent] at h3
  obtain ⟨knd, e0, _, w0⟩ := DataW.trod_int Try.underlying3 h0
  obtain ⟨frm, e1, _, w1⟩ := DataW.trod_int Try.underlying3 h1
  obtain ⟨stp, e2, _, w2⟩ := DataW.trod_int Try.underlying3 h2
  obtain ⟨s, p, e3, hr, hw, hc⟩ := cell_sent h3
  simp only [List.cons.injEq, and_true] at e0 e1 e2 e3
  obtain ⟨e3, e4, e5, e6, e7, e8, e9, e10⟩ := e3
  subst e0 e1 e2 e3 e4 e5 e6 e7 e8 e9 e10
  exact ⟨⟨knd, frm, stp, s⟩, p, rfl, hr, ⟨I64.of_wf w0, I64.of_wf w1, I64.of_wf w2, hw⟩, hc⟩
end
end Go.Proofs.Ythcigkcnknibgaa
