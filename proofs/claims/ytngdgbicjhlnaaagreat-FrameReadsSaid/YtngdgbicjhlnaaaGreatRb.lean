
/- Rb: texts joined: FrG FrH FrN FsM CrcA CrcB CrcC CrcD Rws FsF Eq IxA IxB IxC IxE PlA PlB PlC PlD PlE. -/
import Derived.Test.YtngdgbicjhlnaaaGreatRa
import Derived.RegionTactic
import Derived.Deep.RegionHeld3
import Derived.Test.YtngdgbicjhlnaaaGreatShelf
import Derived.ChangeAlike
import Derived.Lib.AppendZerosOnto
import Derived.Lib.Walk
/- What is still to be read of a text: a byte, a number, numbers, a part: by the document. -/
namespace Go.Proofs.YtngdgbicjhlnaaaGreat
open Go.RowKit
set_option maxHeartbeats 400000
set_option maxRecDepth 100000
set_option linter.unusedVariables false
/-- What is still to be read lies there. -/
def TxP (w : World) (B : Nat) (t : List Int) (A : Option Addr) (c : Nat) : Prop := Rd (Value.int .u8) w B A t ∧ t.length ≤ c ∧ c ≤ 9223372036854775807
theorem TxP.below {w w' : World} {B : Nat} {t : List Int} {A : Option Addr} {c : Nat} (h : TxP w B t A c) (hb : Below B w w') : TxP w' B t A c := ⟨h.1.below hb, h.2⟩
theorem TxP.nil (w : World) (B : Nat) : TxP w B [] none 0 := ⟨Rd.none_, by simp, by omega⟩
theorem TxP.cut {w : World} {B : Nat} {t : List Int} {A : Option Addr} {c : Nat} (h : TxP w B t A c) (k : Nat) (hk : k ≤ t.length) : TxP w B (t.drop k) (cutA A k c) (c - k) := ⟨h.1.cut k h.2.1, by rw [List.length_drop]; have := h.2.1; omega, by have := h.2.2; omega⟩
/-- A number told, and what is still to be read. -/
def OwnT (B : Nat) (r : Int × Tx) (w : World) (e : Ending) (w' : World) : Prop :=
  ∃ A c, e = .returned (.tuple #[.int .i64 r.1, .slice A r.2.1.length c, .bool r.2.2]) ∧ TxP w' B r.2.1 A c ∧ Below w.heap.size w w'
theorem ref_byte1 {A : Option Addr} {c B : Nat} (t : List Int) (b : Bool) (w : World) (hB : B ≤ w.heap.size) (ut : U8s t) (ht : TxP w B t A c) :
    Calls Tryz.prog 16 #[.agg #[.slice A t.length c, .bool b]] w fun e w' => ∃ A' c', e = .returned (.tuple #[.int .i64 (by1 (t, b)).1, .agg #[.slice A' (by1 (t, b)).2.1.length c', .bool (by1 (t, b)).2.2]]) ∧ TxP w' B (by1 (t, b)).2.1 A' c' ∧ Below w.heap.size w w' := by
  have bad : by1 (t, true) = (0, badT) := by unfold by1; simp
  cases b with
  | true =>
    rw [bad]
    clear bad ht ut
    go_enter Tryz.func16, Tryz.ntmps16
    go_wp2_with fail
    refine bodyPost_ret (v := .tuple #[.int .i64 0, .agg #[.slice none 0 0, .bool true]]) (by simp [results, Tryz.results16, go_sem]) rfl ⟨none, 0, rfl, TxP.nil _ _, by go_grown⟩
  | false =>
    cases t with
    | nil =>
      rw [show by1 ([], false) = (0, badT) by unfold by1; simp]
      clear bad ht ut
      go_enter Tryz.func16, Tryz.ntmps16
      go_wp2_with fail
      refine bodyPost_ret (v := .tuple #[.int .i64 0, .agg #[.slice none 0 0, .bool true]]) (by simp [results, Tryz.results16, go_sem]) rfl ⟨none, 0, rfl, TxP.nil _ _, by go_grown⟩
    | cons x r =>
      rw [by1_put]
      have hx := ut x (by simp)
      obtain ⟨b1, o1, rfl, l1, cx⟩ := ht.1 0 x rfl
      rw [Nat.add_zero] at cx
      have hlen : (x :: r).length ≤ c := ht.2.1
      have hcm := ht.2.2
      have hsl : ∀ W, (Instr.slice 22 (.slice (some ⟨b1, o1, none⟩) (r.length + 1) c) (some (.int .i64 1)) none none).run Tryz.prog W = .ok (.slice (cutA (some ⟨b1, o1, none⟩) 1 c) r.length (c - 1)) W := fun W => run_from 22 Tryz.underlying22 Tryz.sizeOf5 (some ⟨b1, o1, none⟩) (r.length + 1) c 1 (by omega) (by simpa using hlen) W
      have hT : TxP w B r (cutA (some ⟨b1, o1, none⟩) 1 c) (c - 1) := ht.cut 1 (by simp)
      obtain ⟨A2, hA2⟩ : ∃ A2, cutA (some ⟨b1, o1, none⟩) 1 c = A2 := ⟨_, rfl⟩
      rw [hA2] at hsl hT
      have HT := hid hT
      have hl1 : b1 < w.heap.size := by omega
      rw [List.length_cons] at hlen
      rw [List.length_cons]
      clear hA2 hT ut bad ht
      go_enter Tryz.func16, Tryz.ntmps16
      go_wp2_with fail
      go_region
      all_goals (go_wp2_with fail)
      all_goals (refine bodyPost_ret (v := .tuple #[.int .i64 x, .agg #[.slice A2 r.length (c - 1), .bool false]]) (by simp [results, Tryz.results16, go_sem]) rfl ⟨A2, c - 1, rfl, HT.out.below (Below.mono (B := w.heap.size) (by go_grown) hB), by go_grown⟩)
theorem ref_number {A : Option Addr} {c B : Nat} (m : Int) (hm0 : 0 ≤ m) (hm : m ≤ 9223372036854775807) (t : List Int) (b : Bool) (w : World) (hB : B ≤ w.heap.size) (ut : U8s t) (ht : TxP w B t A c) :
    Calls Tryz.prog 17 #[.agg #[.slice A t.length c, .bool b], .int .u64 m] w fun e w' => ∃ A' c', e = .returned (.tuple #[.int .i64 (num1 m (t, b)).1, .agg #[.slice A' (num1 m (t, b)).2.1.length c', .bool (num1 m (t, b)).2.2]]) ∧ TxP w' B (num1 m (t, b)).2.1 A' c' ∧ Below w.heap.size w w' := by
  have CG := hid (fun W (h : Below w.heap.size w W) => ref_Get (A := A) (c := c) t ht.2.1 ht.2.2 ut 0 (by decide) W (ht.1.below (h.mono hB)))
  have HOK := hid (fun h => get_ok (b := t) (a := 0) ut h)
  by_cases hbad : b = true ∨ getE t 0 ≠ 0 ∨ m < getN t 0
  · rw [show num1 m (t, b) = (0, badT) from if_pos hbad]
    have hN0 : getE t 0 = 0 → U64 (getN t 0) := fun h => (HOK.out h).2.1
    obtain ⟨N, hN⟩ : ∃ N, getN t 0 = N := ⟨_, rfl⟩
    obtain ⟨E, hE⟩ : ∃ N, getE t 0 = N := ⟨_, rfl⟩
    obtain ⟨X, hX⟩ : ∃ N, getA t 0 = N := ⟨_, rfl⟩
    rw [hN, hE, hX] at CG
    rw [hN, hE] at hbad hN0
    clear hN hE hX HOK ht ut
    cases b with
    | true =>
      clear hbad hN0
      go_enter Tryz.func17, Tryz.ntmps17
      go_wp2_with fail
      refine (CG.out _ (by go_grown)).mono ?_
      rintro _ _ ⟨rfl, rfl⟩
      go_wp2_with fail
      refine bodyPost_ret (v := .tuple #[.int .i64 0, .agg #[.slice none 0 0, .bool true]]) (by simp [results, Tryz.results17, go_sem]) rfl ⟨none, 0, rfl, TxP.nil _ _, by go_grown⟩
    | false =>
      by_cases her : E = 0
      · have hmN : m < N := by
          rcases hbad with h | h | h
          · simp at h
          · exact absurd her h
          · exact h
        subst her
        have hNu := hN0 rfl
        unfold U64 at hNu
        clear hbad hN0
        go_enter Tryz.func17, Tryz.ntmps17
        go_wp2_with fail
        refine (CG.out _ (by go_grown)).mono ?_
        rintro _ _ ⟨rfl, rfl⟩
        go_wp2_with fail
        refine bodyPost_ret (v := .tuple #[.int .i64 0, .agg #[.slice none 0 0, .bool true]]) (by simp [results, Tryz.results17, go_sem]) rfl ⟨none, 0, rfl, TxP.nil _ _, by go_grown⟩
      · have hne : (E != 0) = true := by simpa using her
        clear hbad hN0
        go_enter Tryz.func17, Tryz.ntmps17
        go_wp2_with fail
        refine (CG.out _ (by go_grown)).mono ?_
        rintro _ _ ⟨rfl, rfl⟩
        go_wp2_with fail
        refine bodyPost_ret (v := .tuple #[.int .i64 0, .agg #[.slice none 0 0, .bool true]]) (by simp [results, Tryz.results17, go_sem]) rfl ⟨none, 0, rfl, TxP.nil _ _, by go_grown⟩
  · rw [show num1 m (t, b) = (getN t 0, t.drop (getA t 0).toNat, false) from if_neg hbad]
    have hb : b = false := by cases b with
      | true => exact absurd (Or.inl rfl) hbad
      | false => rfl
    subst hb
    have her : getE t 0 = 0 := by
      by_cases e : getE t 0 = 0
      · exact e
      · exact absurd (Or.inr (Or.inl e)) hbad
    have hmN : getN t 0 ≤ m := by
      by_cases e : m < getN t 0
      · exact absurd (Or.inr (Or.inr e)) hbad
      · omega
    obtain ⟨_, hNu, j, hj, ha, _⟩ := HOK.out her
    simp only [Int.toNat_zero, Nat.zero_add] at ha hj
    rw [her, ha] at CG
    rw [ha, Int.toNat_natCast]
    unfold U64 at hNu
    obtain ⟨N, hN⟩ : ∃ N, getN t 0 = N := ⟨_, rfl⟩
    rw [hN] at CG hmN hNu ⊢
    have hsl := fun W => run_from (P := Tryz.prog) 22 Tryz.underlying22 Tryz.sizeOf5 A t.length c j hj ht.2.1 W
    have hT := ht.cut j hj
    have hlen := ht.2.1
    have hcm := ht.2.2
    have hdl : t.length - j = (t.drop j).length := by rw [List.length_drop]
    rw [hdl] at hsl
    obtain ⟨r, hr⟩ : ∃ r, t.drop j = r := ⟨_, rfl⟩
    rw [hr] at hsl hT ⊢
    obtain ⟨A2, hA2⟩ : ∃ A2, cutA A j c = A2 := ⟨_, rfl⟩
    rw [hA2] at hsl hT
    have HT := hid hT
    have hNi : N ≤ 9223372036854775807 := by omega
    clear hA2 hT ut ht hN her ha hbad hdl hr HOK
    go_enter Tryz.func17, Tryz.ntmps17
    go_wp2_with fail
    refine (CG.out _ (by go_grown)).mono ?_
    rintro _ _ ⟨rfl, rfl⟩
    go_wp2_with fail
    go_region
    all_goals (go_wp2_with fail)
    all_goals (refine bodyPost_ret (v := .tuple #[.int .i64 N, .agg #[.slice A2 r.length (c - j), .bool false]]) (by simp [results, Tryz.results17, go_sem]) rfl ⟨A2, c - j, rfl, HT.out.below (Below.mono (B := w.heap.size) (by go_grown) hB), by go_grown⟩)
theorem ref_part {A : Option Addr} {c B : Nat} (n : Int) (hn0 : 0 ≤ n) (hn : n ≤ 100000) (t : List Int) (b : Bool) (w : World) (hB : B ≤ w.heap.size) (ht : TxP w B t A c) :
    Calls Tryz.prog 34 #[.agg #[.slice A t.length c, .bool b], .int .i64 n] w fun e w' => ∃ A' c' A2 c2, e = .returned (.tuple #[.slice A2 (prt1 n (t, b)).1.length c2, .agg #[.slice A' (prt1 n (t, b)).2.1.length c', .bool (prt1 n (t, b)).2.2]]) ∧ TxP w' B (prt1 n (t, b)).1 A2 c2 ∧ TxP w' B (prt1 n (t, b)).2.1 A' c' ∧ Below w.heap.size w w' := by
  have hlen := ht.2.1
  have hcm := ht.2.2
  by_cases hbad : b = true ∨ (t.length : Int) < n
  · rw [show prt1 n (t, b) = ([], badT) from if_pos hbad]
    cases b with
    | true =>
      clear hbad ht
      go_enter Tryz.func34, Tryz.ntmps34
      go_wp2_with fail
      refine bodyPost_ret (v := .tuple #[.slice none 0 0, .agg #[.slice none 0 0, .bool true]]) (by simp [results, Tryz.results34, go_sem]) rfl ⟨none, 0, none, 0, rfl, TxP.nil _ _, TxP.nil _ _, by go_grown⟩
    | false =>
      have hlt : (t.length : Int) < n := by rcases hbad with h | h; simp at h; exact h
      clear hbad ht
      go_enter Tryz.func34, Tryz.ntmps34
      go_wp2_with fail
      refine bodyPost_ret (v := .tuple #[.slice none 0 0, .agg #[.slice none 0 0, .bool true]]) (by simp [results, Tryz.results34, go_sem]) rfl ⟨none, 0, none, 0, rfl, TxP.nil _ _, TxP.nil _ _, by go_grown⟩
  · rw [show prt1 n (t, b) = (t.take n.toNat, t.drop n.toNat, false) from if_neg hbad]
    have hb : b = false := by cases b with
      | true => exact absurd (Or.inl rfl) hbad
      | false => rfl
    subst hb
    have hle : n ≤ t.length := by
      by_cases e : (t.length : Int) < n
      · exact absurd (Or.inr e) hbad
      · omega
    obtain ⟨j, rfl⟩ := Int.eq_ofNat_of_zero_le hn0
    rw [Int.toNat_natCast]
    have hj : j ≤ t.length := by omega
    have hsl := fun W => run_from (P := Tryz.prog) 22 Tryz.underlying22 Tryz.sizeOf5 A t.length c j hj hlen W
    have hsu := fun W => run_upto (P := Tryz.prog) 22 Tryz.underlying22 Tryz.sizeOf5 A t.length c j (by omega) W
    have hT := ht.cut j hj
    have hU : TxP w B (t.take j) (cutA A 0 c) c := ⟨ht.1.cut0 hlen j, by rw [List.length_take]; omega, hcm⟩
    have hdl : t.length - j = (t.drop j).length := by rw [List.length_drop]
    have hdt : (t.take j).length = j := by rw [List.length_take]; omega
    rw [hdl] at hsl
    obtain ⟨r, hr⟩ : ∃ r, t.drop j = r := ⟨_, rfl⟩
    rw [hr] at hsl hT ⊢
    obtain ⟨A2, hA2⟩ : ∃ A2, cutA A j c = A2 := ⟨_, rfl⟩
    rw [hA2] at hsl hT
    obtain ⟨A3, hA3⟩ : ∃ A3, cutA A 0 c = A3 := ⟨_, rfl⟩
    rw [hA3] at hsu hU
    rw [hdt]
    have HT := hid hT
    have HU := hid hU
    clear hA2 hA3 hT hU ht hbad hdl hdt hr
    go_enter Tryz.func34, Tryz.ntmps34
    go_wp2_with fail
    go_region
    all_goals (go_wp2_with fail)
    all_goals (refine bodyPost_ret (v := .tuple #[.slice A3 j c, .agg #[.slice A2 r.length (c - j), .bool false]]) (by simp [results, Tryz.results34, go_sem]) rfl ⟨A2, c - j, A3, c, rfl, HU.out.below (Below.mono (B := w.heap.size) (by go_grown) hB), HT.out.below (Below.mono (B := w.heap.size) (by go_grown) hB), by go_grown⟩)
end Go.Proofs.YtngdgbicjhlnaaaGreat
/- Signed numbers read out of a text, by the document. -/
namespace Go.Proofs.YtngdgbicjhlnaaaGreat
open Go.RowKit
set_option maxHeartbeats 400000
set_option maxRecDepth 100000
set_option linter.unusedVariables false
/-- A text in a box of its own. -/
def Box2 (w : World) (g : Nat) (u v : Value) : Prop := w.cell? ⟨g, 0, none⟩ = some u ∧ w.cell? ⟨g, 1, none⟩ = some v ∧ w.frozen? ⟨g, 0, none⟩ = false ∧ w.frozen? ⟨g, 1, none⟩ = false
theorem Box2.below {w w' : World} {g B : Nat} {u v : Value} (h : Box2 w g u v) (hb : Below B w w') (hg : g < B) : Box2 w' g u v :=
  ⟨(hb.cell (p := ⟨g, 0, none⟩) hg).trans h.1, (hb.cell (p := ⟨g, 1, none⟩) hg).trans h.2.1, (hb.frozen (p := ⟨g, 0, none⟩) hg).trans h.2.2.1, (hb.frozen (p := ⟨g, 1, none⟩) hg).trans h.2.2.2⟩
theorem Box2.set {w : World} {g : Nat} {u v : Value} (h : Box2 w g u v) (u' v' : Value) : Box2 ((w.setCell ⟨g, 0, none⟩ u').setCell ⟨g, 1, none⟩ v') g u' v' := by
  refine ⟨?_, ?_, ?_, ?_⟩
  · rw [World.cell?_setCell_other _ _ _ _ (by intro e; injection e with _ e; omega)]
    exact World.cell?_setCell_same _ _ _ h.1
  · refine World.cell?_setCell_same _ _ _ (u := v) ?_
    rw [World.cell?_setCell_other _ _ _ _ (by intro e; injection e with _ e; omega)]
    exact h.2.1
  · rw [World.frozen?_setCell, World.frozen?_setCell]; exact h.2.2.1
  · rw [World.frozen?_setCell, World.frozen?_setCell]; exact h.2.2.2
theorem Box2.other {w : World} {g g' : Nat} {u v : Value} (h : Box2 w g u v) (hg : g ≠ g') (u' v' : Value) : Box2 ((w.setCell ⟨g', 0, none⟩ u').setCell ⟨g', 1, none⟩ v') g u v := by
  have ne : ∀ i j, (⟨g', i, none⟩ : Addr) ≠ ⟨g, j, none⟩ := fun i j e => by injection e with e _; exact hg e.symm
  refine ⟨?_, ?_, ?_, ?_⟩
  · rw [World.cell?_setCell_other _ _ _ _ (ne 1 0), World.cell?_setCell_other _ _ _ _ (ne 0 0)]; exact h.1
  · rw [World.cell?_setCell_other _ _ _ _ (ne 1 1), World.cell?_setCell_other _ _ _ _ (ne 0 1)]; exact h.2.1
  · rw [World.frozen?_setCell, World.frozen?_setCell]; exact h.2.2.1
  · rw [World.frozen?_setCell, World.frozen?_setCell]; exact h.2.2.2
theorem own_set {w : World} {base n : Nat} {e : TypeId} {v : Value} {vs : List Value} (h : w.ownsRow base e 1 v n vs) {p : Addr} (hp : p.block < base) (u : Value) : (w.setCell p u).ownsRow base e 1 v n vs := by
  refine ⟨h.1, ?_⟩
  rcases h.2 with hn | ⟨g, cap, cur, hv, hg, hh, r⟩
  · exact .inl hn
  · exact .inr ⟨g, cap, cur, hv, hg, (Below.heap_setCell w p u g (by omega)).trans hh, r⟩
theorem ref_signed {A : Option Addr} {c B : Nat} (n : Nat) (hn : n ≤ 5000) (t : List Int) (b : Bool) (w : World) (hB : B ≤ w.heap.size) (ut : U8s t) (ht : TxP w B t A c) :
    Calls Tryz.prog 33 #[.agg #[.slice A t.length c, .bool b], .int .i64 (n : Int)] w fun e w' => ∃ A' c' A2 c2, e = .returned (.tuple #[.slice A2 (sgd1 n [] (t, b)).1.length c2, .agg #[.slice A' (sgd1 n [] (t, b)).2.1.length c', .bool (sgd1 n [] (t, b)).2.2]]) ∧ w'.ownsRow w.heap.size 2 1 (.slice A2 (sgd1 n [] (t, b)).1.length c2) (sgd1 n [] (t, b)).1.length ((sgd1 n [] (t, b)).1.map (Value.int .i64)) ∧ TxP w' B (sgd1 n [] (t, b)).2.1 A' c' ∧ Below w.heap.size w w' := by
  obtain ⟨R, hR⟩ : ∃ R, sgd1 n [] (t, b) = R := ⟨_, rfl⟩
  rw [hR]
  have HR := hid hR
  have HT := hid ht
  have HU := hid ut
  clear hR ht ut
  go_enter Tryz.func33, Tryz.ntmps33
  go_wp2_with fail
  go_loopw [6, 7, 8, 9, 11] (fun s6 x7 x8 x9 i wr => ∃ (k : Nat) (S : List Int) (A2 : Option Addr) (c2 : Nat) (t' : List Int) (b' : Bool) (A' : Option Addr) (c' : Nat), k ≤ n ∧ i = .int .i64 k ∧ s6 = .slice A2 S.length c2 ∧ S.length = k ∧ sgd1 (n - k) S (t', b') = R ∧ U8s t' ∧ TxP w B t' A' c' ∧ Box2 wr w.heap.size (.slice A' t'.length c') (.bool b') ∧ Box2 wr (w.heap.size + 1) (.slice none 0 0) (.bool false) ∧ wr.ownsRow (w.heap.size + 2) 2 1 (.slice A2 S.length c2) S.length (S.map (Value.int .i64)) ∧ Below w.heap.size w wr) (fun _ _ _ _ i _ => n - (intOf i).toNat)
  case atStart =>
    refine ⟨0, [], none, 0, t, b, A, c, by omega, rfl, rfl, rfl, HR.out, HU.out, HT.out, ?_, ?_, own_nil _ _ _, by go_grown⟩
    · exact ⟨by simp [go_sem], by simp [go_sem], by simp [go_sem], by simp [go_sem]⟩
    · exact ⟨by simp [go_sem], by simp [go_sem], by simp [go_sem], by simp [go_sem]⟩
  case round =>
    obtain ⟨k, S, A2, c2, t', b', A', c', hk, rfl, rfl, hSk, hs, hu, htx, hb0, hb1, ho, hbel⟩ := hrel
    have HS := hid hs
    have HK := hid hSk
    have HU2 := hid hu
    have HT2 := hid htx
    have HB0 := hid hb0
    have HB1 := hid hb1
    have HO := hid ho
    have hSl : S.length ≤ 5000 := by omega
    obtain ⟨p0, p1, p2, p3⟩ := hb0
    obtain ⟨q0, q1, q2, q3⟩ := hb1
    have hlt0 : w.heap.size < wr.heap.size := lt_of_cell p0
    have hlt1 : w.heap.size + 1 < wr.heap.size := lt_of_cell q0
    have hks := hbel.size
    clear hs hSk hu htx ho HT HU
    by_cases hlt : k < n
    · have CT := hid (ref_Take (A := A') (c := c') t' HT2.out.2.1 HT2.out.2.2 HU2.out 0 (by decide) wr ((HT2.out.1.below (hbel.mono hB)).more (by omega)))
      have HOK := hid (fun h => get_ok (b := t') (a := 0) HU2.out h)
      have HM : Hid ((b' = true ∨ getE t' 0 ≠ 0 → R = ([], badT)) ∧ (b' = false → getE t' 0 = 0 → sgd1 (n - (k + 1)) (S ++ [takN t' 0]) (t'.drop (getA t' 0).toNat, false) = R)) := hid (by
        have h := HS.out
        rw [show n - k = (n - (k + 1)) + 1 by omega, sgd1] at h
        refine ⟨fun e => ?_, fun e1 e2 => ?_⟩
        · rw [if_pos e] at h; exact h.symm
        · rw [if_neg (by rw [e1, e2]; simp)] at h
          unfold takN
          rw [if_pos e2]
          exact h)
      cases b' with
      | true =>
        have hR := HM.out.1 (Or.inl rfl)
        subst hR
        obtain ⟨N, hN⟩ : ∃ N, takN t' 0 = N := ⟨_, rfl⟩
        obtain ⟨E, hE⟩ : ∃ N, getE t' 0 = N := ⟨_, rfl⟩
        obtain ⟨X, hX⟩ : ∃ N, getA t' 0 = N := ⟨_, rfl⟩
        rw [hN, hE, hX] at CT
        clear hN hE hX HM HOK HR HS
        go_wp2_with fail
        refine CT.out.mono ?_
        rintro _ _ ⟨rfl, rfl⟩
        go_wp2_with fail
        have K := HB1.out.set (.slice none 0 0) (.bool true)
        have KB := (hbel.setCell (p := ⟨w.heap.size + 1, 0, none⟩) (by simp) (.slice none 0 0)).setCell (p := ⟨w.heap.size + 1, 1, none⟩) (by simp) (.bool true)
        obtain ⟨w5, h5⟩ : ∃ w5, (wr.setCell ⟨w.heap.size + 1, 0, none⟩ (.slice none 0 0)).setCell ⟨w.heap.size + 1, 1, none⟩ (.bool true) = w5 := ⟨_, rfl⟩
        rw [h5] at K KB ⊢
        clear h5 p0 p1 p2 p3 q0 q1 q2 q3
        obtain ⟨k0, k1, _, _⟩ := K
        refine bodyPost_ret (v := .tuple #[.slice none 0 0, .agg #[.slice none 0 0, .bool true]]) (by simp [results, Tryz.results33, go_sem, k0, k1]) rfl ⟨none, 0, none, 0, rfl, own_nil _ _ _, TxP.nil _ _, KB⟩
      | false =>
        by_cases her : getE t' 0 = 0
        · have hR := hid (HM.out.2 rfl her)
          obtain ⟨_, hNu, j, hj, ha, _⟩ := HOK.out her
          simp only [Int.toNat_zero, Nat.zero_add] at ha hj
          rw [her, ha] at CT
          rw [ha, Int.toNat_natCast] at hR
          have hsl := fun W => run_from (P := Tryz.prog) 22 Tryz.underlying22 Tryz.sizeOf5 A' t'.length c' j hj HT2.out.2.1 W
          have hdl : t'.length - j = (t'.drop j).length := by rw [List.length_drop]
          rw [hdl] at hsl
          have HT3 := hid (HT2.out.cut j hj)
          have HU3 := hid (HU2.out.drop j)
          have hlen := HT2.out.2.1
          have hcm := HT2.out.2.2
          obtain ⟨N, hN⟩ : ∃ N, takN t' 0 = N := ⟨_, rfl⟩
          rw [hN] at CT hR
          obtain ⟨r, hr⟩ : ∃ r, t'.drop j = r := ⟨_, rfl⟩
          rw [hr] at hsl HT3 HU3 hR
          obtain ⟨A3, hA3⟩ : ∃ A3, cutA A' j c' = A3 := ⟨_, rfl⟩
          rw [hA3] at hsl HT3
          clear hN hr hA3 hdl ha her HM HOK HS HR
          have hr0 : Rd (Value.int .i64) (wr.alloc (.cells #[.int .i64 N] 2)) _ (some ⟨wr.heap.size, 0, none⟩) [N] := rd_one (one_cell wr (.int .i64 N) 2).1
          have hz := (one_cell wr (.int .i64 N) 2).2
          have h0' := own_on HO.out hz
          go_wp2_with fail
          refine CT.out.mono ?_
          rintro _ _ ⟨rfl, rfl⟩
          go_wp2_with (at_builtin; refine wpList_app (Value.int .i64) (fun _ => rfl) _ rfl _ _ 25 rfl (w.heap.size + 2) 2 (.int .i64 0) 8 Tryz.underlying25 info_i64 rfl S _ _ rfl h0' [N] _ 1 _ rfl hr0 (by simp [maxLen]; omega) (by simp; omega) (by simp; omega) ?_)
          rintro S' A4 c4 w4 hS' ho4 hb4 _
          have HS' := hid hS'
          have HO4 := hid ho4
          have HB04 := hid ((HB0.out.below hz hlt0).below hb4 (by omega))
          have HB14 := hid ((HB1.out.below hz hlt1).below hb4 (by omega))
          have k4 : Below w.heap.size w w4 := (hbel.alloc hbel.size _).trans (hb4.mono (by omega))
          clear hS' ho4 h0' hr0 hb4 hz p0 p1 p2 p3 q0 q1 q2 q3 HB0 HB1 HO
          obtain ⟨p0, p1, p2, p3⟩ := HB04.out
          obtain ⟨q0, q1, q2, q3⟩ := HB14.out
          have hl4 : w.heap.size < w4.heap.size := lt_of_cell p0
          go_wp2_with fail
          go_roundw
          case rel =>
            refine ⟨k + 1, S', A4, c4, r, false, A3, c' - j, by omega, by go_num, rfl, by rw [HS'.out, List.length_append, HK.out]; rfl, by rw [HS'.out]; exact hR.out, HU3.out, HT3.out, HB04.out.set _ _, HB14.out.other (by omega) _ _, own_set (own_set HO4.out (by simp) _) (by simp) _, (k4.setCell (by simp) _).setCell (by simp) _⟩
          case measure => simp [intOf]; omega
        · have hR := HM.out.1 (Or.inr her)
          subst hR
          obtain ⟨N, hN⟩ : ∃ N, takN t' 0 = N := ⟨_, rfl⟩
          obtain ⟨E, hE⟩ : ∃ N, getE t' 0 = N := ⟨_, rfl⟩
          obtain ⟨X, hX⟩ : ∃ N, getA t' 0 = N := ⟨_, rfl⟩
          rw [hN, hE, hX] at CT
          rw [hE] at her
          have hne : (E != 0) = true := by simpa using her
          clear hN hE hX HM HOK HR HS
          go_wp2_with fail
          refine CT.out.mono ?_
          rintro _ _ ⟨rfl, rfl⟩
          go_wp2_with fail
          have K := HB1.out.set (.slice none 0 0) (.bool true)
          have KB := (hbel.setCell (p := ⟨w.heap.size + 1, 0, none⟩) (by simp) (.slice none 0 0)).setCell (p := ⟨w.heap.size + 1, 1, none⟩) (by simp) (.bool true)
          obtain ⟨w5, h5⟩ : ∃ w5, (wr.setCell ⟨w.heap.size + 1, 0, none⟩ (.slice none 0 0)).setCell ⟨w.heap.size + 1, 1, none⟩ (.bool true) = w5 := ⟨_, rfl⟩
          rw [h5] at K KB ⊢
          clear h5 p0 p1 p2 p3 q0 q1 q2 q3
          obtain ⟨k0, k1, _, _⟩ := K
          refine bodyPost_ret (v := .tuple #[.slice none 0 0, .agg #[.slice none 0 0, .bool true]]) (by simp [results, Tryz.results33, go_sem, k0, k1]) rfl ⟨none, 0, none, 0, rfl, own_nil _ _ _, TxP.nil _ _, KB⟩
    · obtain rfl : k = n := by omega
      have hR : R = (S, (t', b')) := by have h := HS.out; rw [Nat.sub_self, sgd1] at h; exact h.symm
      subst hR
      clear HR HS
      go_wp2_with fail
      go_region
      all_goals (go_wp2_with fail)
      have K := HB1.out.set (.slice A' t'.length c') (.bool b')
      have KB := ((hbel.setCell (p := ⟨w.heap.size + 1, 0, none⟩) (by simp) (.slice A' t'.length c')).setCell (p := ⟨w.heap.size + 1, 1, none⟩) (by simp) (.bool b')).drew
      have KO := own_set (own_set HO.out (p := ⟨w.heap.size + 1, 0, none⟩) (by simp) (.slice A' t'.length c')) (p := ⟨w.heap.size + 1, 1, none⟩) (by simp) (.bool b')
      obtain ⟨w5, h5⟩ : ∃ w5, (wr.setCell ⟨w.heap.size + 1, 0, none⟩ (.slice A' t'.length c')).setCell ⟨w.heap.size + 1, 1, none⟩ (.bool b') = w5 := ⟨_, rfl⟩
      rw [h5] at K KB KO ⊢
      clear h5 p0 p1 p2 p3 q0 q1 q2 q3
      obtain ⟨k0, k1, _, _⟩ := K
      refine bodyPost_ret (v := .tuple #[.slice A2 S.length c2, .agg #[.slice A' t'.length c', .bool b']]) (by simp [results, Tryz.results33, go_sem, k0, k1]) rfl ⟨A', c', A2, c2, rfl, own_base (w := w5.drew) KO (by omega), HT2.out.below (KB.mono hB), KB⟩
end Go.Proofs.YtngdgbicjhlnaaaGreat
/- What follows of frames' texts: read back, written again, apart, how long. No program in sight. -/
namespace Go.Proofs.YtngdgbicjhlnaaaGreat
set_option maxRecDepth 100000
set_option linter.unusedVariables false
theorem sealed_own {b : List Int} (ub : U8s b) : sealedB (b ++ le4 (sumN b)) = true := by
  have hl : (b ++ le4 (sumN b)).length = b.length + 4 := by rw [List.length_append, le4_len]
  rw [sealed_iff (ub.app (le4_bytes _)) (by omega), off_iff ub (sumN_lt b)]
theorem open_seal {b : List Int} (ub : U8s b) (hb : b.length ≤ 65532) : openV (sealV b) = b ∧ openE (sealV b) = 0 := by
  have e : sealV b = b ++ le4 (sumN b) := if_neg (by omega)
  rw [e]
  have hl : (b ++ le4 (sumN b)).length = b.length + 4 := by rw [List.length_append, le4_len]
  have hs := sealed_own ub
  unfold openV openE
  rw [hs, hl, if_neg (by simp only [Bool.true_eq_false, or_false]; omega), if_neg (by omega), if_neg (by omega), if_neg (by decide)]
  refine ⟨?_, rfl⟩
  rw [show b.length + 4 - 4 = b.length by omega, List.take_left]
theorem seal_open {b : List Int} (h : openE b = 0) : sealV (openV b) = b ∧ sealE (openV b) = 0 ∧ (openV b).length + 4 = b.length ∧ b.length ≤ 65536 := by
  unfold openE at h
  split at h
  · simp at h
  · rename_i h1
    split at h
    · simp at h
    · rename_i h2
      split at h
      · simp at h
      · rename_i h3
        have hs : sealedB b = true := by cases hb : sealedB b with
          | true => rfl
          | false => exact absurd hb h3
        have ho : openV b = b.take (b.length - 4) := by
          unfold openV
          rw [if_neg]
          rintro (h | h | h)
          · exact h1 h
          · exact h2 h
          · exact h3 h
        have hl : (openV b).length + 4 = b.length := by rw [ho, List.length_take]; omega
        unfold sealedB sealedB.eqL at hs
        rw [decide_eq_true_eq] at hs
        refine ⟨?_, ?_, hl, by omega⟩
        · unfold sealV
          rw [if_neg (by omega), ho, ← hs, List.take_append_drop]
        · unfold sealE
          rw [if_neg (by omega)]
theorem openV_u8 {l : List Int} (hl : U8s l) : U8s (openV l) := by
  unfold openV
  split
  · intro x hx; simp at hx
  · exact hl.take _
theorem sealV_u8 {l : List Int} (hl : U8s l) : U8s (sealV l) := by
  unfold sealV
  split
  · intro x hx; simp at hx
  · exact hl.app (le4_bytes _)
theorem sgnd_u8 {l : List Int} (h : ∀ x ∈ l, I64 x) : U8s (sgnd l) := encs_u8 (zigs_u64 h)
theorem sgnd_len {l : List Int} (h : ∀ x ∈ l, I64 x) : (sgnd l).length ≤ 10 * l.length := by
  have := encs_len (zigs_u64 h)
  rwa [List.length_map] at this
theorem U8s.cons {x : Int} {l : List Int} (h0 : 0 ≤ x) (h1 : x ≤ 255) (h : U8s l) : U8s (x :: l) := fun y hy => by
  rcases List.mem_cons.1 hy with rfl | hy
  · exact ⟨h0, h1⟩
  · exact h y hy
theorem body_u8 {s : SentV} (hm : mayP s) (hw : wfS s) : U8s (bodyL s) := by
  obtain ⟨sch, dim, L, V, scale, wide, lev, neg⟩ := s
  obtain ⟨hd1, hd4, hc⟩ := hm
  obtain ⟨w1, w2, w3, w4, w5, w6, w7⟩ := hw
  simp only at hd1 hd4 hc w1 w2 w3 w4 w5 w6 w7
  have ud := lebI_u8 dim (by omega)
  unfold bodyL tailL
  simp only
  rcases hc with ⟨rfl, rfl, h2, rfl, rfl, rfl, rfl⟩ | ⟨rfl, h1, h2, rfl, rfl, rfl, rfl⟩ | ⟨rfl, h1, h2, h3, h4, rfl, rfl, h7, h8⟩ | ⟨rfl, rfl, rfl, rfl, rfl, h5, h6⟩
  · exact .cons (by decide) (by decide) (ud.app (sgnd_u8 w4))
  · exact .cons (by decide) (by decide) (ud.app ((pixV_u8 _ _).app (sgnd_u8 w4)))
  · exact .cons (by decide) (by decide) (ud.app ((lebI_u8 scale h7).app ((U8s.cons (by omega) (by omega) (wevV_bytes _ _)).app (sgnV_bytes _))))
  · exact .cons (by decide) (by decide) (ud.app ((lebI_u8 scale h5).app (sgnV_bytes _)))
theorem body_len {s : SentV} {n : Nat} (hm : mayP s) (hw : wfS s) (hV : s.V.length ≤ n) : (bodyL s).length ≤ 45200 + 10 * n := by
  obtain ⟨sch, dim, L, V, scale, wide, lev, neg⟩ := s
  obtain ⟨hd1, hd4, hc⟩ := hm
  obtain ⟨w1, w2, w3, w4, w5, w6, w7⟩ := hw
  simp only at hd1 hd4 hc w1 w2 w3 w4 w5 w6 w7 hV
  have ld := lebI_ten (n := dim) (by unfold U64; omega)
  have lv := sgnd_len w4
  have lp := pixV_len dim L
  unfold bodyL tailL
  simp only [List.length_cons, List.length_append]
  rcases hc with ⟨rfl, rfl, h2, rfl, rfl, rfl, rfl⟩ | ⟨rfl, h1, h2, rfl, rfl, rfl, rfl⟩ | ⟨rfl, h1, h2, h3, h4, rfl, rfl, h7, h8⟩ | ⟨rfl, rfl, rfl, rfl, rfl, h5, h6⟩
  · rw [if_pos rfl]; omega
  · rw [if_neg (by decide), if_pos rfl, List.length_append]; omega
  · rw [if_neg (by decide), if_neg (by decide), if_pos rfl]
    have ls := lebI_ten (n := scale) (by unfold I64 at w5; unfold U64; omega)
    have hn := sgnV_len (l := neg) (by omega)
    have hb : bysE wide lev.length = 0 := by unfold bysE; rw [if_neg (by omega), if_neg (by omega)]
    have hm : mayE wide lev = 0 := by unfold mayE; rw [if_pos hb, if_pos h4]
    have hwl := ((may_same wide lev).2 hm).2
    have h9 : wide.toNat * lev.length ≤ 8 * 4096 := Nat.mul_le_mul (by omega) (by omega)
    simp only [List.length_cons, List.length_append]
    omega
  · rw [if_neg (by decide), if_neg (by decide), if_neg (by decide)]
    have ls := lebI_ten (n := scale) (by unfold I64 at w5; unfold U64; omega)
    have hn := sgnV_len (l := neg) (by omega)
    simp only [List.length_append, List.length_nil]
    omega
theorem text_u8 {f : FrameV} (hc : chkF f = 0) (hw : wfF f) : U8s (textL f) := by
  obtain ⟨h1, h2, h3, h4, h5⟩ := chkF_ok.1 hc
  have hk : f.knd = 1 ∨ f.knd = 2 := by rcases h5 with h | h; exact Or.inl h.1; exact Or.inr h.1
  unfold textL
  refine .cons (by decide) (by decide) (.cons (by omega) (by omega) ((lebI_u8 _ h1).app ((lebI_u8 _ h3).app ?_)))
  rcases h5 with ⟨e, hm⟩ | ⟨e, hz⟩
  · rw [if_pos e]; exact body_u8 (mayB_iff.1 hm) hw.2.2.2
  · rw [if_neg (by omega)]; intro x hx; simp at hx
theorem text_len {f : FrameV} {n : Nat} (hc : chkF f = 0) (hw : wfF f) (hV : f.S.V.length ≤ n) : (textL f).length ≤ 45300 + 10 * n := by
  obtain ⟨h1, h2, h3, h4, h5⟩ := chkF_ok.1 hc
  have lf := lebI_ten (n := f.frm) (by unfold U64; omega)
  have ls := lebI_ten (n := f.stp) (by unfold U64; omega)
  unfold textL
  simp only [List.length_cons, List.length_append]
  rcases h5 with ⟨e, hm⟩ | ⟨e, hz⟩
  · rw [if_pos e]
    have := body_len (mayB_iff.1 hm) hw.2.2.2 hV
    omega
  · rw [if_neg (by omega)]
    simp only [List.length_nil]
    omega
/-- Written, and read. -/
theorem wrt_ok {f : FrameV} (hw : wfF f) (hV : f.S.V.length ≤ 1000) : (wrtE f = 0 ↔ chkF f = 0) ∧ (wrtE f = 0 ∨ wrtE f = 1) := by
  unfold wrtE
  by_cases hc : chkF f = 0
  · have := text_len hc hw hV
    have hs : sealE (textL f) = 0 := if_neg (by omega)
    rw [if_pos hc, hs]
    simp [hc]
  · rw [if_neg hc]
    simp [hc]
theorem rd_wrt {f : FrameV} (hw : wfF f) (hV : f.S.V.length ≤ 1000) (h : wrtE f = 0) : rdR (wrtV f) = (f, 0) ∧ U8s (wrtV f) ∧ (wrtV f).length = (textL f).length + 4 ∧ off (wrtV f) = 0 := by
  have hc := (wrt_ok hw hV).1.1 h
  have hl := text_len hc hw hV
  have hu := text_u8 hc hw
  have e : wrtV f = sealV (textL f) := if_pos hc
  have e2 : sealV (textL f) = textL f ++ le4 (sumN (textL f)) := if_neg (by omega)
  obtain ⟨h1, h2⟩ := open_seal hu (by omega)
  refine ⟨?_, by rw [e]; exact sealV_u8 hu, by rw [e, e2, List.length_append, le4_len], ?_⟩
  · unfold rdR
    rw [e, h2, if_neg (by decide), h1]
    exact read1_put hc hw
  · rw [e, e2]
    exact (off_iff hu (sumN_lt _)).2 rfl
theorem wrt_rd {b : List Int} {f : FrameV} (ub : U8s b) (h : rdR b = (f, 0)) : chkF f = 0 ∧ wfF f ∧ wrtV f = b ∧ wrtE f = 0 := by
  unfold rdR at h
  by_cases he : openE b = 0
  · rw [if_neg (by rw [he]; decide)] at h
    obtain ⟨hc, hw, ht⟩ := read1_back (openV_u8 ub) h
    obtain ⟨h1, h2, _, _⟩ := seal_open he
    refine ⟨hc, hw, ?_, ?_⟩
    · unfold wrtV; rw [if_pos hc, ht, h1]
    · unfold wrtE; rw [if_pos hc, ht, h2]
  · rw [if_pos he] at h
    simp only [Prod.mk.injEq] at h
    exact absurd h.2 he
theorem rd_bad {b : List Int} (h : (rdR b).2 ≠ 0) : (rdR b).1 = zeroF := by
  unfold rdR at h ⊢
  by_cases he : openE b = 0
  · rw [if_neg (by rw [he]; decide)] at h ⊢
    rw [read1_bad h]
  · rw [if_pos he]
theorem rd_cases (b : List Int) : (rdR b).2 = openE b ∨ openE b = 0 ∧ (rdR b).2 = 6 := by
  unfold rdR
  by_cases he : openE b = 0
  · rw [if_neg (by rw [he]; decide)]
    by_cases h : (read1 (openV b)).2 = 0
    · left; rw [h, he]
    · right; rw [read1_bad h]; exact ⟨he, rfl⟩
  · rw [if_pos he]
    left; rfl
theorem apart {f g : FrameV} (hf : wfF f) (hg : wfF g) (lf : f.S.V.length ≤ 1000) (lg : g.S.V.length ≤ 1000) (h1 : wrtE f = 0) (h2 : wrtE g = 0) : eqB (wrtV f) (wrtV g) = sameF f g := by
  have a := (rd_wrt hf lf h1).1
  have b := (rd_wrt hg lg h2).1
  by_cases e : f = g
  · subst e
    rw [eqB_self, sameF_self]
  · have hs : sameF f g = false := by
      cases h : sameF f g with
      | false => rfl
      | true => exact absurd (sameF_iff.1 h) e
    rw [hs]
    unfold eqB
    rw [decide_eq_false_iff_not]
    intro he
    rw [he, b] at a
    simp only [Prod.mk.injEq, and_true] at a
    exact e a.symm
/-- How long its lists are, if it may be; what is read. -/
theorem may_len {s : SentV} (h : mayP s) : s.L.length ≤ 4096 ∧ s.V.length ≤ 4096 ∧ s.lev.length ≤ 4096 ∧ s.neg.length ≤ 4096 := by
  obtain ⟨sch, dim, L, V, scale, wide, lev, neg⟩ := s
  obtain ⟨hd1, hd4, hc⟩ := h
  simp only at hd1 hd4 hc ⊢
  rcases hc with ⟨_, rfl, h2, _, rfl, _, rfl⟩ | ⟨_, h1, h2, _, rfl, _, rfl⟩ | ⟨_, _, _, h3, _, rfl, rfl, _, h8⟩ | ⟨_, rfl, rfl, _, rfl, _, h6⟩
  · simp; omega
  · have := plc_le (chk_ok.1 h1)
    simp; omega
  · simp; omega
  · simp; omega
theorem chk_len {f : FrameV} (h : chkF f = 0) : f.S.L.length ≤ 4096 ∧ f.S.V.length ≤ 4096 ∧ f.S.lev.length ≤ 4096 ∧ f.S.neg.length ≤ 4096 := by
  obtain ⟨_, _, _, _, h5⟩ := chkF_ok.1 h
  rcases h5 with ⟨_, hm⟩ | ⟨_, hz⟩
  · exact may_len (mayB_iff.1 hm)
  · rw [sameS_iff.1 hz]; simp [zeroS]
theorem rd_all {b : List Int} (ub : U8s b) : wfF (rdR b).1 ∧ (rdR b).1.S.L.length ≤ 4096 ∧ (rdR b).1.S.V.length ≤ 4096 ∧ (rdR b).1.S.lev.length ≤ 4096 ∧ (rdR b).1.S.neg.length ≤ 4096 := by
  by_cases h : (rdR b).2 = 0
  · obtain ⟨f, e, hf⟩ : ∃ f e, rdR b = (f, e) := ⟨_, _, rfl⟩
    rw [hf] at h ⊢
    simp only at h
    subst h
    obtain ⟨hc, hw, _, _⟩ := wrt_rd ub hf
    exact ⟨hw, chk_len hc⟩
  · rw [rd_bad h]
    exact ⟨⟨by decide, by decide, by decide, wf_zeroS⟩, by simp [zeroF, zeroS]⟩
/-- An acknowledgement. -/
def ackF (frm stp : Int) : FrameV := ⟨2, frm, stp, zeroS⟩
theorem ack_wf {frm stp : Int} (h1 : I64 frm) (h2 : I64 stp) : wfF (ackF frm stp) := ⟨show I64 2 by decide, h1, h2, wf_zeroS⟩
theorem ack_chk {frm stp : Int} : chkF (ackF frm stp) = 0 ↔ (0 ≤ frm ∧ frm < 64 ∧ 0 ≤ stp ∧ stp ≤ 1073741824) := by
  rw [chkF_ok]
  unfold frmP ackF
  simp only
  constructor
  · rintro ⟨h1, h2, h3, h4, _⟩; exact ⟨h1, h2, h3, h4⟩
  · rintro ⟨h1, h2, h3, h4⟩; exact ⟨h1, h2, h3, h4, by simp [sameS_iff]⟩
theorem ack_text (frm stp : Int) : textL (ackF frm stp) = 1 :: 2 :: encs [frm, stp] := by
  unfold textL ackF
  simp only
  rw [if_neg (by decide), List.append_nil, encs_cons, encs_one]
/-- Bent. -/
theorem no_frm {f : FrameV} : chkF { f with frm := 64 } = 1 := chkF_no (fun h => by have := h.2.1; simp at this)
theorem no_knd {f : FrameV} (h : chkF f = 0) : chkF { f with knd := 3 - f.knd } = 1 := chkF_no (fun h2 => by
  obtain ⟨_, _, _, _, h5⟩ := chkF_ok.1 h
  obtain ⟨_, _, _, _, h6⟩ := h2
  simp only at h6
  have key : mayB f.S = true → sameS f.S zeroS = true → False := fun a b => by
    rw [sameS_iff.1 b] at a
    have := (mayB_iff.1 a).1
    simp [zeroS] at this
  rcases h5 with ⟨e, hm⟩ | ⟨e, hz⟩
  · rcases h6 with ⟨e2, hm2⟩ | ⟨e2, hz2⟩
    · omega
    · exact key hm hz2
  · rcases h6 with ⟨e2, hm2⟩ | ⟨e2, hz2⟩
    · exact key hm2 hz
    · omega)
theorem may_kinds {f : FrameV} (h : chkF f = 0) : mayB f.S = (f.knd == 1) := by
  obtain ⟨_, _, _, _, h5⟩ := chkF_ok.1 h
  rcases h5 with ⟨e, hm⟩ | ⟨e, hz⟩
  · rw [hm, e]; rfl
  · rw [e, sameS_iff.1 hz]
    rfl
theorem no_V {f : FrameV} (h : chkF f = 0) : chkF { f with S := { f.S with V := f.S.V ++ [1] } } = 1 := chkF_no (fun h2 => by
  obtain ⟨_, _, _, _, h5⟩ := chkF_ok.1 h
  obtain ⟨_, _, _, _, h6⟩ := h2
  simp only at h6
  rcases h6 with ⟨e2, hm2⟩ | ⟨e2, hz2⟩
  · rcases h5 with ⟨e, hm⟩ | ⟨e, hz⟩
    · obtain ⟨_, _, a⟩ := mayB_iff.1 hm
      obtain ⟨_, _, b⟩ := mayB_iff.1 hm2
      simp only [List.length_append, List.length_singleton] at b
      rcases a with a | a | a | a <;> rcases b with b | b | b | b
      all_goals first
        | (have := a.1; have := b.1; omega)
        | (have := a.2.2.1; have := b.2.2.1; omega)
        | (have := b.2.2.2.2.2.2.1; simp at this)
        | (have := b.2.2.1; simp at this)
    · omega
  · have := sameS_iff.1 hz2
    have := congrArg SentV.V this
    simp [zeroS] at this)
theorem no_L {f : FrameV} (h : chkF f = 0) : chkF { f with S := { f.S with L := f.S.L ++ [f.S.dim] } } = 1 := chkF_no (fun h2 => by
  obtain ⟨_, _, _, _, h6⟩ := h2
  simp only at h6
  rcases h6 with ⟨e2, hm2⟩ | ⟨e2, hz2⟩
  · obtain ⟨_, _, b⟩ := mayB_iff.1 hm2
    simp only at b
    rcases b with b | b | b | b
    · have := b.2.1; simp at this
    · have := (chk_ok.1 b.2.1).2.2.2 f.S.dim (by simp)
      omega
    · have := b.2.2.2.2.2.1; simp at this
    · have := b.2.1; simp at this
  · have := sameS_iff.1 hz2
    have := congrArg SentV.L this
    simp [zeroS] at this)
theorem no_scale {f : FrameV} : chkF { f with S := { f.S with scale := -1 } } = 1 := chkF_no (fun h2 => by
  obtain ⟨_, _, _, _, h6⟩ := h2
  simp only at h6
  rcases h6 with ⟨e2, hm2⟩ | ⟨e2, hz2⟩
  · obtain ⟨_, _, b⟩ := mayB_iff.1 hm2
    simp only at b
    rcases b with b | b | b | b
    · have := b.2.2.2.2.2.1; omega
    · have := b.2.2.2.2.2.1; omega
    · have := b.2.2.2.2.2.2.2.1; omega
    · have := b.2.2.2.2.2.1; omega
  · have := sameS_iff.1 hz2
    have := congrArg SentV.scale this
    simp [zeroS] at this)
end Go.Proofs.YtngdgbicjhlnaaaGreat
/- What the program's reader makes of a text, step by step; what it reads is what the document reads. Plain words. -/
namespace Go.Proofs.YtngdgbicjhlnaaaGreat
set_option maxRecDepth 100000
set_option linter.unusedVariables false
/-- A number of 64 bits without a sign, as one with a sign. -/
def w64 (n : Int) : Int := if n ≤ 9223372036854775807 then n else n - 18446744073709551616
/-- The place up to which is read, and whether it is none. -/
abbrev Rs := Nat × Bool
def pas (σ : Rs) (a e : Int) : Rs := if e = 0 then (a.toNat, σ.2) else (σ.1, true)
def tak (o : List Int) (σ : Rs) (m : Int) : List Int × Rs := if (o.length : Int) - (σ.1 : Int) < m then ([], (σ.1, true)) else ((o.drop σ.1).take m.toNat, (σ.1 + m.toNat, σ.2))
def one2 (o : List Int) (σ : Rs) : Int × Rs := ((tak o σ 1).1.headD 0, (tak o σ 1).2)
def num2 (o : List Int) (σ : Rs) : Int × Rs := (w64 (getN o σ.1), pas σ (getA o σ.1) (getE o σ.1))
def nms2 (o : List Int) (σ : Rs) (m : Int) : List Int × Rs := ((mnyV o m σ.1).1.map zagI, pas σ (mnyV o m σ.1).2.1 (mnyV o m σ.1).2.2)
def sgs2 (o : List Int) (σ : Rs) (m : Int) : List Bool × Rs := (bitV 1 m (tak o σ (bysV 1 m)).1, pas (tak o σ (bysV 1 m)).2 ((tak o σ (bysV 1 m)).2.1 : Int) (bitE 1 m (tak o σ (bysV 1 m)).1))
def pln2 (o : List Int) (σ : Rs) (wd m : Int) : List Int × Rs := (uwvV wd m (tak o σ (bysV wd m)).1, pas (tak o σ (bysV wd m)).2 ((tak o σ (bysV wd m)).2.1 : Int) (bitE wd m (tak o σ (bysV wd m)).1))
def gix2 (o : List Int) (σ : Rs) (dim : Int) : List Int × Rs := ((gixR dim o σ.1).1, pas σ (gixR dim o σ.1).2.1 (gixR dim o σ.1).2.2)
def dns2 (o : List Int) (dim : Int) (σ : Rs) : SentV × Rs := (⟨0, dim, [], (nms2 o σ dim).1, 0, 0, [], []⟩, (nms2 o σ dim).2)
def top2 (o : List Int) (dim : Int) (σ : Rs) : SentV × Rs :=
  (⟨1, dim, (gix2 o σ dim).1, (nms2 o (gix2 o σ dim).2 (gix2 o σ dim).1.length).1, 0, 0, [], []⟩, (nms2 o (gix2 o σ dim).2 (gix2 o σ dim).1.length).2)
def lev2 (o : List Int) (dim : Int) (σ : Rs) : SentV × Rs :=
  (⟨2, dim, [], [], (num2 o σ).1, (one2 o (num2 o σ).2).1, (pln2 o (one2 o (num2 o σ).2).2 (one2 o (num2 o σ).2).1 dim).1, (sgs2 o (pln2 o (one2 o (num2 o σ).2).2 (one2 o (num2 o σ).2).1 dim).2 dim).1⟩,
    (sgs2 o (pln2 o (one2 o (num2 o σ).2).2 (one2 o (num2 o σ).2).1 dim).2 dim).2)
def sgn2 (o : List Int) (dim : Int) (σ : Rs) : SentV × Rs := (⟨3, dim, [], [], (num2 o σ).1, 0, [], (sgs2 o (num2 o σ).2 dim).1⟩, (sgs2 o (num2 o σ).2 dim).2)
def rst2 (o : List Int) (sch dim : Int) (σ : Rs) : SentV × Rs :=
  if sch = 0 then dns2 o dim σ else if sch = 1 then top2 o dim σ else if sch = 2 then lev2 o dim σ else if sch = 3 then sgn2 o dim σ else (⟨sch, dim, [], [], 0, 0, [], []⟩, σ)
def vec2 (o : List Int) (σ : Rs) : SentV × Rs := rst2 o (one2 o σ).1 (num2 o (one2 o σ).2).1 (num2 o (one2 o σ).2).2
def bdy2 (o : List Int) (knd frm stp : Int) (σ : Rs) : FrameV × Rs := if knd = 1 then (⟨knd, frm, stp, (vec2 o σ).1⟩, (vec2 o σ).2) else (⟨knd, frm, stp, zeroS⟩, σ)
def hed2 (o : List Int) (σ : Rs) : FrameV × Rs :=
  bdy2 o (one2 o σ).1 (num2 o (one2 o σ).2).1 (num2 o (num2 o (one2 o σ).2).2).1 (num2 o (num2 o (one2 o σ).2).2).2
def frm2 (o : List Int) : FrameV × Rs := hed2 o ((one2 o (0, false)).2.1, (one2 o (0, false)).2.2 || ((one2 o (0, false)).1 != 1))
def fin2 (o : List Int) (r : FrameV × Rs) : FrameV × Int := if r.2.2 = true ∨ r.2.1 < o.length ∨ chkF r.1 ≠ 0 then (zeroF, 6) else (r.1, 0)
def prR (b : List Int) : FrameV × Int := if openE b ≠ 0 then (zeroF, openE b) else fin2 (openV b) (frm2 (openV b))
/-- What was read was written. -/
theorem pas_back {σ : Rs} {a e : Int} {a' : Nat} (h : pas σ a e = (a', false)) : e = 0 ∧ a.toNat = a' ∧ σ.2 = false := by
  unfold pas at h
  split at h
  · rename_i he
    simp only [Prod.mk.injEq] at h
    exact ⟨he, h.1, h.2⟩
  · simp at h
theorem tak_back {o : List Int} {a a' : Nat} {z : Bool} {m : Int} {p : List Int} (hm : 0 ≤ m) (ha : a ≤ o.length) (h : tak o (a, z) m = (p, (a', false))) : z = false ∧ a' ≤ o.length ∧ (p.length : Int) = m ∧ o.drop a = p ++ o.drop a' := by
  unfold tak at h
  split at h
  · simp at h
  · rename_i hn
    simp only [Prod.mk.injEq] at h
    obtain ⟨rfl, rfl, rfl⟩ := h
    simp only at hn
    refine ⟨rfl, by omega, ?_, ?_⟩
    · rw [List.length_take, List.length_drop]; omega
    · rw [← List.drop_drop, List.take_append_drop]
theorem one2_back {o : List Int} {a a' : Nat} {z : Bool} {v : Int} (ha : a ≤ o.length) (h : one2 o (a, z) = (v, (a', false))) : z = false ∧ a' ≤ o.length ∧ o.drop a = v :: o.drop a' := by
  unfold one2 at h
  obtain ⟨p, t, ht⟩ : ∃ p t, tak o (a, z) 1 = (p, t) := ⟨_, _, rfl⟩
  rw [ht] at h
  simp only [Prod.mk.injEq] at h
  obtain ⟨rfl, rfl⟩ := h
  obtain ⟨h1, h2, h3, h4⟩ := tak_back (by decide) ha ht
  refine ⟨h1, h2, ?_⟩
  match p, h3 with
  | [x], _ => simpa using h4
theorem num2_back {o : List Int} {a a' : Nat} {z : Bool} {v : Int} (uo : U8s o) (ha : a ≤ o.length) (h : num2 o (a, z) = (v, (a', false))) : z = false ∧ a' ≤ o.length ∧ ∃ n, U64 n ∧ v = w64 n ∧ o.drop a = lebI n ++ o.drop a' := by
  unfold num2 at h
  simp only [Prod.mk.injEq] at h
  obtain ⟨rfl, h⟩ := h
  obtain ⟨h1, h2, h3⟩ := pas_back h
  obtain ⟨_, hu, j, hj, hA, ht⟩ := get_ok uo h1
  rw [Int.toNat_natCast] at hj hA ht
  rw [hA, Int.toNat_natCast] at h2
  subst h2
  refine ⟨h3, hj, _, hu, rfl, ?_⟩
  rw [← ht, ← List.drop_drop, List.take_append_drop]
theorem mny_back {o : List Int} (uo : U8s o) : ∀ (k x : Nat) (S V : List Int) (y : Int), x ≤ o.length → mny o k x S = (V, y, 0) → ∃ (l : List Int) (y' : Nat), V = S ++ l ∧ l.length = k ∧ U64s l ∧ y = (y' : Int) ∧ y' ≤ o.length ∧ o.drop x = encs l ++ o.drop y'
  | 0, x, S, V, y, hx, h => by
    rw [mny] at h
    simp only [Prod.mk.injEq] at h
    obtain ⟨rfl, rfl, _⟩ := h
    exact ⟨[], x, by simp, rfl, by intro n hn; simp at hn, rfl, hx, by simp [encs]⟩
  | k + 1, x, S, V, y, hx, h => by
    rw [mny] at h
    split at h
    · rename_i h1
      obtain ⟨_, hu, j, hj, hA, ht⟩ := get_ok uo h1
      rw [Int.toNat_natCast] at hj hA ht
      rw [hA] at h
      obtain ⟨l, y', e1, e2, e3, e4, e5, e6⟩ := mny_back uo k (x + j) _ V y hj h
      refine ⟨getN o x :: l, y', by rw [e1, List.append_assoc]; rfl, by rw [List.length_cons, e2], ?_, e4, e5, ?_⟩
      · intro n hn
        rcases List.mem_cons.1 hn with rfl | hn
        · exact hu
        · exact e3 n hn
      · rw [encs_cons, List.append_assoc, ← e6, ← ht, ← List.drop_drop, List.take_append_drop]
    · rename_i h1
      simp only [Prod.mk.injEq] at h
      exact absurd h.2.2 h1
theorem zigs_back {l : List Int} (h : U64s l) : sgnd (l.map zagI) = encs l := by
  unfold sgnd
  rw [List.map_map]
  have e : l.map (zigI ∘ zagI) = l := by
    refine (List.map_congr_left fun x hx => ?_).trans (List.map_id l)
    exact zig_zag (h x hx).1
  rw [e]
theorem nms2_back {o : List Int} {a a' : Nat} {z : Bool} {m : Int} {V : List Int} (uo : U8s o) (ha : a ≤ o.length) (h : nms2 o (a, z) m = (V, (a', false))) : z = false ∧ a' ≤ o.length ∧ (V.length : Int) = m ∧ (∀ x ∈ V, I64 x) ∧ o.drop a = sgnd V ++ o.drop a' := by
  unfold nms2 at h
  obtain ⟨l, y, e, hm⟩ : ∃ l y e, mnyV o m a = (l, y, e) := ⟨_, _, _, rfl⟩
  simp only [hm, Prod.mk.injEq] at h
  obtain ⟨rfl, h⟩ := h
  obtain ⟨rfl, h2, h3⟩ := pas_back h
  unfold mnyV at hm
  split at hm
  · simp at hm
  · rename_i hm0
    obtain ⟨l2, y', e1, e2, e3, e4, e5, e6⟩ := mny_back uo _ _ _ _ _ ha hm
    rw [List.nil_append] at e1
    subst e1
    subst e4
    rw [Int.toNat_natCast] at h2
    subst h2
    refine ⟨h3, e5, by rw [List.length_map, e2]; omega, fun x hx => ?_, by rw [zigs_back e3]; exact e6⟩
    obtain ⟨n, hn, rfl⟩ := List.mem_map.1 hx
    exact zag_i64 (e3 n hn)
theorem bysV_pos (w m : Int) : 0 ≤ bysV w m := by
  unfold bysV
  split
  · rename_i h
    have := bys_ok h
    have := Int.mul_nonneg this.1.1 this.2.1
    omega
  · omega
theorem sgs2_back {o : List Int} {a a' : Nat} {z : Bool} {m : Int} {g : List Bool} (uo : U8s o) (ha : a ≤ o.length) (h : sgs2 o (a, z) m = (g, (a', false))) : z = false ∧ a' ≤ o.length ∧ (g.length : Int) = m ∧ o.drop a = sgnV g ++ o.drop a' := by
  unfold sgs2 at h
  obtain ⟨p, t, ht⟩ : ∃ p t, tak o (a, z) (bysV 1 m) = (p, t) := ⟨_, _, rfl⟩
  obtain ⟨t1, t2⟩ := t
  simp only [ht, Prod.mk.injEq] at h
  obtain ⟨rfl, h⟩ := h
  obtain ⟨h1, h2, h3⟩ := pas_back h
  rw [Int.toNat_natCast] at h2
  simp only at h3
  subst h2
  subst h3
  obtain ⟨q1, q2, q3, q4⟩ := tak_back (bysV_pos _ _) ha ht
  have up : U8s p := fun x hx => uo x (List.mem_of_mem_drop (i := a) (by rw [q4]; simp [hx]))
  obtain ⟨s1, s2⟩ := sgn_back up h1
  exact ⟨q1, q2, s2, by rw [s1]; exact q4⟩
theorem pln2_back {o : List Int} {a a' : Nat} {z : Bool} {wd m : Int} {l : List Int} (uo : U8s o) (ha : a ≤ o.length) (h : pln2 o (a, z) wd m = (l, (a', false))) : z = false ∧ a' ≤ o.length ∧ (l.length : Int) = m ∧ U64s l ∧ o.drop a = wevV wd l ++ o.drop a' := by
  unfold pln2 at h
  obtain ⟨p, t, ht⟩ : ∃ p t, tak o (a, z) (bysV wd m) = (p, t) := ⟨_, _, rfl⟩
  obtain ⟨t1, t2⟩ := t
  simp only [ht, Prod.mk.injEq] at h
  obtain ⟨rfl, h⟩ := h
  obtain ⟨h1, h2, h3⟩ := pas_back h
  rw [Int.toNat_natCast] at h2
  simp only at h3
  subst h2
  subst h3
  obtain ⟨q1, q2, q3, q4⟩ := tak_back (bysV_pos _ _) ha ht
  have up : U8s p := fun x hx => uo x (List.mem_of_mem_drop (i := a) (by rw [q4]; simp [hx]))
  exact ⟨q1, q2, uwv_len h1, uwvV_u64 _, by rw [(wev_uwv up h1).2]; exact q4⟩
theorem gix_backK {dim : Int} {b m : List Int} {a : Int} {k : Nat} (ub : U8s b) (h : gixR dim b k = (m, a, 0)) (hk : k ≤ b.length) : chkE dim m = 0 ∧ ∃ j : Nat, a = ((k + j : Nat) : Int) ∧ k + j ≤ b.length ∧ pixV dim m = (b.drop k).take j := by
  unfold gixR at h
  split at h
  · simp at h
  · rename_i hd
    split at h
    · rename_i h1
      simp only [Prod.mk.injEq] at h
      exact absurd h.2.2 h1
    · rename_i h1
      have h1 : getE b k = 0 := by omega
      split at h
      · simp at h
      · rename_i h2
        obtain ⟨_, hu, j1, hj1, hA, ht⟩ := get_ok ub h1
        unfold U64 at hu
        rw [Int.toNat_natCast] at hj1 ht hA
        rw [hA] at h
        obtain ⟨i1, i2, i3, j2, i4, i5, i6⟩ := ixL_back ub _ _ _ m a h hj1 (by omega)
        have hp : plcP dim m := ⟨by omega, by omega, (List.pairwise_cons.1 i2).2, fun n hn => ⟨by have := (List.pairwise_cons.1 i2).1 n hn; omega, i3 n hn⟩⟩
        refine ⟨chk_ok.2 hp, j1 + j2, by rw [i5]; congr 1; omega, by omega, ?_⟩
        unfold pixV
        rw [if_pos (chk_ok.2 hp)]
        unfold putL
        rw [encs_cons, ← i6]
        rw [i1, show ((getN b k).toNat : Int) = getN b k by omega, ← ht, List.take_add, List.drop_drop]
theorem gix2_back {o : List Int} {a a' : Nat} {z : Bool} {dim : Int} {L : List Int} (uo : U8s o) (ha : a ≤ o.length) (h : gix2 o (a, z) dim = (L, (a', false))) : z = false ∧ a' ≤ o.length ∧ chkE dim L = 0 ∧ o.drop a = pixV dim L ++ o.drop a' := by
  unfold gix2 at h
  obtain ⟨l, y, e, hm⟩ : ∃ l y e, gixR dim o a = (l, y, e) := ⟨_, _, _, rfl⟩
  simp only [hm, Prod.mk.injEq] at h
  obtain ⟨rfl, h⟩ := h
  obtain ⟨rfl, h2, h3⟩ := pas_back h
  obtain ⟨q1, j, rfl, q2, q3⟩ := gix_backK uo hm ha
  rw [Int.toNat_natCast] at h2
  subst h2
  exact ⟨h3, q2, q1, by rw [q3, ← List.drop_drop, List.take_append_drop]⟩
theorem w64_pos {n : Int} (hu : U64 n) (h : 0 ≤ w64 n) : w64 n = n := by
  unfold w64 at h ⊢
  unfold U64 at hu
  split at h
  · rw [if_pos (by assumption)]
  · omega
theorem w64_i64 {n : Int} (hu : U64 n) : I64 (w64 n) := by
  unfold w64 I64
  unfold U64 at hu
  split <;> omega
end Go.Proofs.YtngdgbicjhlnaaaGreat
/- Sums: a register halved, a byte taken in, by the program and by the document. -/
namespace Go.Proofs.YtngdgbicjhlnaaaGreat
open Go.RowKit
set_option maxHeartbeats 400000
set_option maxRecDepth 100000
set_option linter.unusedVariables false
theorem xor_nat {k : IntKind} {n : Nat} (hn : k.bits = n) (hw : ∀ m : Nat, m < 2 ^ n → k.wrap (m : Int) = m) {a b : Nat} (ha : a < 2 ^ n) (hb : b < 2 ^ n) : bits BinOp.xor k (a : Int) (b : Int) = ((a ^^^ b : Nat) : Int) := by
  show k.wrap ((BitVec.ofInt k.bits a ^^^ BitVec.ofInt k.bits b).toNat : Int) = _
  rw [BitVec.toNat_xor, BitVec.ofInt_natCast, BitVec.ofInt_natCast, BitVec.toNat_ofNat, BitVec.toNat_ofNat, hn, Nat.mod_eq_of_lt ha, Nat.mod_eq_of_lt hb]
  exact hw _ (Nat.xor_lt_two_pow ha hb)
theorem xor_u32 {a b : Nat} (ha : a < 2 ^ 32) (hb : b < 2 ^ 32) : bits BinOp.xor IntKind.u32 (a : Int) (b : Int) = ((a ^^^ b : Nat) : Int) :=
  xor_nat (n := 32) rfl (fun m h => by simp [IntKind.wrap, IntKind.bits, IntKind.signed]; omega) ha hb
theorem xor_u8 {a b : Nat} (ha : a < 2 ^ 8) (hb : b < 2 ^ 8) : bits BinOp.xor IntKind.u8 (a : Int) (b : Int) = ((a ^^^ b : Nat) : Int) :=
  xor_nat (n := 8) rfl (fun m h => by simp [IntKind.wrap, IntKind.bits, IntKind.signed]; omega) ha hb
theorem and_one {x : Nat} (hx : x < 2 ^ 32) : bits BinOp.and IntKind.u32 (x : Int) 1 = ((x % 2 : Nat) : Int) := by
  show IntKind.u32.wrap ((BitVec.ofInt 32 x &&& BitVec.ofInt 32 ((1 : Nat) : Int)).toNat : Int) = _
  rw [BitVec.toNat_and, BitVec.ofInt_natCast, BitVec.ofInt_natCast, BitVec.toNat_ofNat, BitVec.toNat_ofNat, Nat.mod_eq_of_lt hx, show 1 % 2 ^ 32 = 1 from rfl, Nat.and_one_is_mod]
  simp [IntKind.wrap, IntKind.bits, IntKind.signed]
  omega
theorem and_odd {x : Nat} (hx : x < 2 ^ 32) (h : x % 2 = 1) : bits BinOp.and IntKind.u32 (x : Int) 1 = 1 := by rw [and_one hx, h]; rfl
theorem and_even {x : Nat} (hx : x < 2 ^ 32) (h : x % 2 ≠ 1) : bits BinOp.and IntKind.u32 (x : Int) 1 = 0 := by rw [and_one hx, show x % 2 = 0 by omega]; rfl
theorem hs_odd {x : Nat} (hx : x < 2 ^ 32) (h : x % 2 = 1) : bits BinOp.xor IntKind.u32 ((x : Int) / 2) 3988292384 = ((hs x : Nat) : Int) := by
  rw [show ((x : Int) / 2) = ((x / 2 : Nat) : Int) by omega, show (3988292384 : Int) = ((tnr : Nat) : Int) from rfl, xor_u32 (by omega) (by decide)]
  unfold hs
  rw [if_pos h]
theorem hs_even {x : Nat} (h : x % 2 ≠ 1) : ((x : Int) / 2) = ((hs x : Nat) : Int) := by
  unfold hs
  rw [if_neg h]
  omega
theorem crc_halved (r : Nat) (hr : r < 2 ^ 32) (w : World) :
    Calls Tryz.prog 82 #[.int .u32 (r : Int)] w fun e w' => e = .returned (.int .u32 ((hn 8 r : Nat) : Int)) ∧ w = w' := by
  obtain ⟨R, hR⟩ : ∃ R, hn 8 r = R := ⟨_, rfl⟩
  rw [hR]
  have HR := hid hR
  clear hR
  go_enter Tryz.func82, Tryz.ntmps82
  go_wp2_with fail
  go_loop [0, 4] (fun s i => ∃ (k x : Nat), k ≤ 8 ∧ x < 2 ^ 32 ∧ i = .int .i64 k ∧ s = .int .u32 x ∧ hn (8 - k) x = R) (fun _ i => 8 - (intOf i).toNat)
  case atStart => exact ⟨0, r, by omega, hr, rfl, rfl, HR.out⟩
  case round =>
    obtain ⟨k, x, hk, hx, rfl, rfl, hs'⟩ := hrel
    have HS := hid hs'
    clear hs'
    by_cases hlt : k < 8
    · have HN : Hid (hn (8 - (k + 1)) (hs x) = R) := by
        have h := HS.out
        rw [show 8 - k = (8 - (k + 1)) + 1 by omega, hn] at h
        exact h
      by_cases h1 : x % 2 = 1
      · have e1 := hs_odd hx h1
        go_wp2_with fail
        go_round
        case rel => exact ⟨k + 1, hs x, by omega, hs_lt hx, by go_num, rfl, HN.out⟩
        case measure => simp [intOf]; omega
      · have e1 := hs_even h1
        go_wp2_with fail
        go_round
        case rel => exact ⟨k + 1, hs x, by omega, hs_lt hx, by go_num, rfl, HN.out⟩
        case measure => simp [intOf]; omega
    · obtain rfl : k = 8 := by omega
      have HN : Hid (x = R) := HS.out
      go_wp2_with fail
      go_ret
      rw [HN.out]
      exact ⟨rfl, rfl⟩
theorem not_u32 {s : Nat} (h : s < 2 ^ 32) : bits BinOp.xor IntKind.u32 IntKind.u32.max (s : Int) = ((inv s : Nat) : Int) := by
  rw [show IntKind.u32.max = ((4294967295 : Nat) : Int) from rfl, xor_u32 (by decide) h, inv_xor h, Nat.xor_comm]
theorem crc_More {A : Option Addr} {c : Nat} (s : Nat) (hs' : s < 2 ^ 32) (b : List Int) (hb : b.length ≤ 9223372036854775807) (ub : U8s b) (w : World) {B : Nat} (ra : Rd (Value.int .u8) w B A b) :
    Calls Tryz.prog 64 #[.int .u32 (s : Int), .slice A b.length c] w fun e w' => e = .returned (.int .u32 ((moreN s b : Nat) : Int)) ∧ w = w' := by
  obtain ⟨R, hR⟩ : ∃ R, moreN s b = R := ⟨_, rfl⟩
  rw [hR]
  have HR : Hid (inv (crcL (inv s) b) = R) := hR
  have hi := inv_lt s
  obtain ⟨v, hv⟩ : ∃ v, inv s = v := ⟨_, rfl⟩
  have HA := hid ra
  have UB := hid ub
  have e0 := not_u32 hs'
  rw [hv] at hi e0 HR
  have hsg : IntKind.u32.signed = false := rfl
  clear ra ub hv hR
  go_enter Tryz.func64, Tryz.ntmps64
  go_wp2_with fail
  clear e0
  go_loop [5, 12] (fun s i => ∃ (k x : Nat), k ≤ b.length ∧ x < 2 ^ 32 ∧ i = .int .i64 k ∧ s = .int .u32 x ∧ crcL v (b.take k) = x) (fun _ i => b.length - (intOf i).toNat)
  case atStart => exact ⟨0, v, by omega, hi, rfl, rfl, by rw [List.take_zero]; exact crcL_nil v⟩
  case round =>
    obtain ⟨k, x, hk, hx, rfl, rfl, hs'⟩ := hrel
    have HS := hid hs'
    clear hs'
    by_cases hlt : k < b.length
    · obtain ⟨b1, o1, y, rfl, l1, ex, c1⟩ := HA.out.at_ hlt
      obtain ⟨y0, y1⟩ := UB.out.at_ ex
      obtain ⟨y, rfl⟩ := Int.eq_ofNat_of_zero_le y0
      have e1 := xor_u32 (a := x) (b := y) hx (by omega)
      have hz : x ^^^ y < 2 ^ 32 := Nat.xor_lt_two_pow hx (by omega)
      have CH := hid (crc_halved (x ^^^ y) hz)
      have HN : Hid (crcL v (b.take (k + 1)) = crcB x y) := by
        have h := crcL_step v ex
        rw [HS.out] at h
        exact h
      have hc := crcB_lt (c := x) (x := y) hx (by omega)
      rw [show hn 8 (x ^^^ y) = crcB x y from rfl] at CH
      obtain ⟨z, hz'⟩ : ∃ z, x ^^^ y = z := ⟨_, rfl⟩
      rw [hz'] at e1 hz CH
      obtain ⟨N, hN⟩ : ∃ N, crcB x y = N := ⟨_, rfl⟩
      rw [hN] at CH HN hc
      clear ex hz' hN y0
      go_wp2_with fail
      refine (CH.out _).mono ?_
      rintro _ _ ⟨rfl, rfl⟩
      go_wp2_with fail
      go_round
      case rel => exact ⟨k + 1, N, by omega, hc, by go_num, rfl, HN.out⟩
      case measure => simp [intOf]; omega
    · have e1 := not_u32 hx
      have HN : Hid (inv x = R) := by
        have h := HS.out
        rw [List.take_of_length_le (by omega)] at h
        rw [← h]
        exact HR.out
      obtain ⟨N, hN⟩ : ∃ N, inv x = N := ⟨_, rfl⟩
      rw [hN] at e1 HN
      clear hN
      obtain rfl : k = b.length := by omega
      go_wp2_with fail
      go_ret
      rw [HN.out]
      exact ⟨rfl, rfl⟩
theorem crc_Sum {A : Option Addr} {c : Nat} (b : List Int) (hb : b.length ≤ 9223372036854775807) (ub : U8s b) (w : World) {B : Nat} (ra : Rd (Value.int .u8) w B A b) :
    Calls Tryz.prog 38 #[.slice A b.length c] w fun e w' => e = .returned (.int .u32 ((sumN b : Nat) : Int)) ∧ w = w' := by
  have CM := hid (crc_More (A := A) (c := c) 0 (by decide) b hb ub w ra)
  rw [show moreN 0 b = sumN b from rfl] at CM
  obtain ⟨R, hR⟩ : ∃ R, sumN b = R := ⟨_, rfl⟩
  rw [hR] at CM ⊢
  clear hR ra ub
  go_enter Tryz.func38, Tryz.ntmps38
  go_wp2_with fail
  refine CM.out.mono ?_
  rintro _ _ ⟨rfl, rfl⟩
  go_wp2_with fail
  go_ret
  exact ⟨rfl, rfl⟩
theorem ref_More {A : Option Addr} {c : Nat} (s : Nat) (hs' : s < 2 ^ 32) (b : List Int) (hb : b.length ≤ 9223372036854775807) (ub : U8s b) (w : World) {B : Nat} (ra : Rd (Value.int .u8) w B A b) :
    Calls Tryz.prog 78 #[.int .u32 (s : Int), .slice A b.length c] w fun e w' => e = .returned (.int .u32 ((moreN s b : Nat) : Int)) ∧ w = w' := by
  obtain ⟨R, hR⟩ : ∃ R, moreN s b = R := ⟨_, rfl⟩
  rw [hR]
  have HR : Hid (inv (crcL (inv s) b) = R) := hR
  have hi := inv_lt s
  obtain ⟨v, hv⟩ : ∃ v, inv s = v := ⟨_, rfl⟩
  have HA := hid ra
  have UB := hid ub
  have e0 := not_u32 hs'
  rw [hv] at hi e0 HR
  have hsg : IntKind.u32.signed = false := rfl
  clear ra ub hv hR
  go_enter Tryz.func78, Tryz.ntmps78
  go_wp2_with fail
  clear e0
  go_loop [5, 13] (fun s i => ∃ (k x : Nat), k ≤ b.length ∧ x < 2 ^ 32 ∧ i = .int .i64 k ∧ s = .int .u32 x ∧ crcL v (b.take k) = x) (fun _ i => b.length - (intOf i).toNat)
  case atStart => exact ⟨0, v, by omega, hi, rfl, rfl, by rw [List.take_zero]; exact crcL_nil v⟩
  case round =>
    obtain ⟨k, x, hk, hx, rfl, rfl, hs'⟩ := hrel
    have HS := hid hs'
    clear hs'
    by_cases hlt : k < b.length
    · obtain ⟨b1, o1, y, rfl, l1, ex, c1⟩ := HA.out.at_ hlt
      obtain ⟨y0, y1⟩ := UB.out.at_ ex
      obtain ⟨y, rfl⟩ := Int.eq_ofNat_of_zero_le y0
      have e1 := xor_u32 (a := x) (b := y) hx (by omega)
      have hz : x ^^^ y < 2 ^ 32 := Nat.xor_lt_two_pow hx (by omega)
      have HN : Hid (crcL v (b.take (k + 1)) = crcB x y) := by
        have h := crcL_step v ex
        rw [HS.out] at h
        exact h
      have hc := crcB_lt (c := x) (x := y) hx (by omega)
      have HZ : Hid (hn 8 (x ^^^ y) = crcB x y) := rfl
      obtain ⟨z, hz'⟩ : ∃ z, x ^^^ y = z := ⟨_, rfl⟩
      rw [hz'] at e1 hz HZ
      obtain ⟨N, hN⟩ : ∃ N, crcB x y = N := ⟨_, rfl⟩
      rw [hN] at HZ HN hc
      clear ex hz' hN y0
      go_wp2_with fail
      clear e1
      go_loop [5, 21] (fun s i => ∃ (j x : Nat), j ≤ 8 ∧ x < 2 ^ 32 ∧ i = .int .i64 j ∧ s = .int .u32 x ∧ hn (8 - j) x = N) (fun _ i => 8 - (intOf i).toNat)
      case atStart => exact ⟨0, z, by omega, hz, rfl, rfl, HZ.out⟩
      case round =>
        obtain ⟨j, q, hj, hq, rfl, rfl, hs'⟩ := hrel
        have HS := hid hs'
        clear hs' hz
        by_cases hlt : j < 8
        · have HN2 : Hid (hn (8 - (j + 1)) (hs q) = N) := by
            have h := HS.out
            rw [show 8 - j = (8 - (j + 1)) + 1 by omega, hn] at h
            exact h
          by_cases h1 : q % 2 = 1
          · have e1 := hs_odd hq h1
            have e2 := and_odd hq h1
            go_wp2_with fail
            go_round
            case rel => exact ⟨j + 1, hs q, by omega, hs_lt hq, by go_num, rfl, HN2.out⟩
            case measure => simp [intOf]; omega
          · have e1 := hs_even h1
            have e2 := and_even hq h1
            go_wp2_with fail
            go_round
            case rel => exact ⟨j + 1, hs q, by omega, hs_lt hq, by go_num, rfl, HN2.out⟩
            case measure => simp [intOf]; omega
        · obtain rfl : j = 8 := by omega
          have HQ : Hid (q = N) := HS.out
          go_wp2_with fail
          go_round
          case rel => exact ⟨k + 1, q, by omega, hq, by go_num, rfl, by rw [HQ.out]; exact HN.out⟩
          case measure => simp [intOf]; omega
    · have e1 := not_u32 hx
      have HN : Hid (inv x = R) := by
        have h := HS.out
        rw [List.take_of_length_le (by omega)] at h
        rw [← h]
        exact HR.out
      obtain ⟨N, hN⟩ : ∃ N, inv x = N := ⟨_, rfl⟩
      rw [hN] at e1 HN
      clear hN
      obtain rfl : k = b.length := by omega
      go_wp2_with fail
      go_ret
      rw [HN.out]
      exact ⟨rfl, rfl⟩
theorem ref_Sum {A : Option Addr} {c : Nat} (b : List Int) (hb : b.length ≤ 9223372036854775807) (ub : U8s b) (w : World) {B : Nat} (ra : Rd (Value.int .u8) w B A b) :
    Calls Tryz.prog 59 #[.slice A b.length c] w fun e w' => e = .returned (.int .u32 ((sumN b : Nat) : Int)) ∧ w = w' := by
  have CM := hid (ref_More (A := A) (c := c) 0 (by decide) b hb ub w ra)
  rw [show moreN 0 b = sumN b from rfl] at CM
  obtain ⟨R, hR⟩ : ∃ R, sumN b = R := ⟨_, rfl⟩
  rw [hR] at CM ⊢
  clear hR ra ub
  go_enter Tryz.func59, Tryz.ntmps59
  go_wp2_with fail
  refine CM.out.mono ?_
  rintro _ _ ⟨rfl, rfl⟩
  go_wp2_with fail
  go_ret
  exact ⟨rfl, rfl⟩
end Go.Proofs.YtngdgbicjhlnaaaGreat
/- A text with one bit turned, by the program and by the document. -/
namespace Go.Proofs.YtngdgbicjhlnaaaGreat
open Go.RowKit
set_option maxHeartbeats 400000
set_option maxRecDepth 100000
set_option linter.unusedVariables false
/-- A copy of bytes. -/
theorem clone_any {A : Option Addr} {c : Nat} (b : List Int) (hb : b.length ≤ 1000000) (w : World) {B : Nat} (ra : Rd (Value.int .u8) w B A b) :
    Calls Tryz.prog 25 #[.slice A b.length c] w (OwnOf 5 .u8 w.heap.size b w) := by
  cases A with
  | none =>
    have hx : b = [] := by
      cases b with
      | nil => rfl
      | cons x xs =>
        obtain ⟨_, _, he, _⟩ := ra 0 x rfl
        cases he
    subst hx
    refine (Tryz.bytes_Clone_nil 0 c w).mono ?_
    rintro _ _ ⟨rfl, rfl⟩
    exact ⟨none, 0, rfl, own_nil _ _ _, Below.refl _ _⟩
  | some a =>
    refine (Tryz.bytes_Clone_at a b.length c b w rfl (by omega) ?_).mono ?_
    · intro i hi
      obtain ⟨b1, o1, x, e, _, ex, hc⟩ := ra.at_ hi
      injection e with e
      subst e
      rw [Go.WideShapes.add_plain, hc, getD_of ex]
    · rintro _ w1 ⟨v, rfl, ho, _, hb⟩
      obtain ⟨A', c', rfl⟩ := own_shape ho
      exact ⟨A', c', rfl, ho, hb⟩
end Go.Proofs.YtngdgbicjhlnaaaGreat
/- A text's sum in bytes; a text and its sum. -/
namespace Go.Proofs.YtngdgbicjhlnaaaGreat
open Go.RowKit
set_option maxHeartbeats 400000
set_option maxRecDepth 100000
set_option linter.unusedVariables false
/-- The first k bytes of a sum, the others 0. -/
def tl (s k j : Nat) : Int := if j < k then ((s / 2 ^ (8 * j) % 256 : Nat) : Int) else 0
theorem tl_zero (s j : Nat) : tl s 0 j = 0 := rfl
theorem tl_new (s k : Nat) : tl s (k + 1) k = ((s / 2 ^ (8 * k) % 256 : Nat) : Int) := by unfold tl; rw [if_pos (by omega)]
theorem tl_old {s k j : Nat} (h : j ≠ k) : tl s (k + 1) j = tl s k j := by
  unfold tl
  by_cases h1 : j < k
  · rw [if_pos h1, if_pos (by omega)]
  · rw [if_neg h1, if_neg (by omega)]
/-- Four bytes in a block. -/
def Four (w : World) (g : Nat) (f : Nat → Int) : Prop := ∀ j, j < 4 → w.cell? ⟨g, j, none⟩ = some (.int .u8 (f j)) ∧ w.frozen? ⟨g, j, none⟩ = false
theorem four_new (w : World) (t : TypeId) : Four (w.alloc (.cells #[.int .u8 0, .int .u8 0, .int .u8 0, .int .u8 0] t)) w.heap.size (fun _ => 0) := fun j hj => by
  match j, hj with
  | 0, _ => exact ⟨by simp [go_sem], by simp [go_sem]⟩
  | 1, _ => exact ⟨by simp [go_sem], by simp [go_sem]⟩
  | 2, _ => exact ⟨by simp [go_sem], by simp [go_sem]⟩
  | 3, _ => exact ⟨by simp [go_sem], by simp [go_sem]⟩
theorem Four.below {w w' : World} {g B : Nat} {f : Nat → Int} (h : Four w g f) (hb : Below B w w') (hg : g < B) : Four w' g f := fun j hj =>
  ⟨(hb.cell (p := ⟨g, j, none⟩) hg).trans (h j hj).1, (hb.frozen (p := ⟨g, j, none⟩) hg).trans (h j hj).2⟩
theorem Four.other {w : World} {g : Nat} {f : Nat → Int} (h : Four w g f) {p : Addr} (hp : p.block ≠ g) (v : Value) : Four (w.setCell p v) g f := fun j hj => by
  refine ⟨?_, ?_⟩
  · rw [World.cell?_setCell_other _ _ _ _ (by rintro rfl; exact hp rfl)]
    exact (h j hj).1
  · rw [World.frozen?_setCell]
    exact (h j hj).2
theorem Four.set {w : World} {g k s : Nat} (h : Four w g (tl s k)) (hk : k < 4) {u : Value} (hc : w.cell? ⟨g, k, none⟩ = some u) : Four (w.setCell ⟨g, k, none⟩ (.int .u8 (tl s (k + 1) k))) g (tl s (k + 1)) := fun j hj => by
  refine ⟨?_, ?_⟩
  · by_cases e : j = k
    · subst e
      exact World.cell?_setCell_same _ _ _ hc
    · rw [World.cell?_setCell_other _ _ _ _ (by intro e'; injection e' with e1 e2; exact e e2.symm), tl_old e]
      exact (h j hj).1
  · rw [World.frozen?_setCell]
    exact (h j hj).2
/-- Four bytes laid at once. -/
def lay4 (w : World) (g : Nat) (a b c d : Value) : World := (((w.setCell ⟨g, 0, none⟩ a).setCell ⟨g, 1, none⟩ b).setCell ⟨g, 2, none⟩ c).setCell ⟨g, 3, none⟩ d
theorem lay4_below {w w' : World} {g B : Nat} (h : Below B w w') (hg : B ≤ g) (a b c d : Value) : Below B w (lay4 w' g a b c d) :=
  (((h.setCell (p := ⟨g, 0, none⟩) hg _).setCell (p := ⟨g, 1, none⟩) hg _).setCell (p := ⟨g, 2, none⟩) hg _).setCell (p := ⟨g, 3, none⟩) hg _
theorem lay4_cells {w : World} {g : Nat} {f : Nat → Int} (h : Four w g f) (a b c d : Value) :
    (lay4 w g a b c d).cell? ⟨g, 0, none⟩ = some a ∧ (lay4 w g a b c d).cell? ⟨g, 1, none⟩ = some b ∧ (lay4 w g a b c d).cell? ⟨g, 2, none⟩ = some c ∧ (lay4 w g a b c d).cell? ⟨g, 3, none⟩ = some d := by
  have ne : ∀ {i j : Nat}, i ≠ j → (⟨g, i, none⟩ : Addr) ≠ ⟨g, j, none⟩ := fun hij e => by injection e with _ e; exact hij e
  have h0 := (h 0 (by omega)).1
  have h1 := (h 1 (by omega)).1
  have h2 := (h 2 (by omega)).1
  have h3 := (h 3 (by omega)).1
  have oth : ∀ (w : World) (i j : Nat) (v : Value), i ≠ j → (w.setCell ⟨g, i, none⟩ v).cell? ⟨g, j, none⟩ = w.cell? ⟨g, j, none⟩ := fun w i j v hij => World.cell?_setCell_other _ _ _ _ (ne hij)
  unfold lay4
  refine ⟨?_, ?_, ?_, ?_⟩
  · rw [oth _ 3 0 _ (by omega), oth _ 2 0 _ (by omega), oth _ 1 0 _ (by omega), World.cell?_setCell_same _ _ _ h0]
  · rw [oth _ 3 1 _ (by omega), oth _ 2 1 _ (by omega)]
    exact World.cell?_setCell_same _ _ _ ((oth _ 0 1 _ (by omega)).trans h1)
  · rw [oth _ 3 2 _ (by omega)]
    exact World.cell?_setCell_same _ _ _ ((oth _ 1 2 _ (by omega)).trans ((oth _ 0 2 _ (by omega)).trans h2))
  · exact World.cell?_setCell_same _ _ _ ((oth _ 2 3 _ (by omega)).trans ((oth _ 1 3 _ (by omega)).trans ((oth _ 0 3 _ (by omega)).trans h3)))
theorem crc_tail {A : Option Addr} {c : Nat} (b : List Int) (hb : b.length ≤ 1000000) (ub : U8s b) (w : World) (ra : Rd (Value.int .u8) w w.heap.size A b) :
    Calls Tryz.prog 20 #[.slice A b.length c] w fun e w' => e = .returned (.agg #[.int .u8 (tl (sumN b) 4 0), .int .u8 (tl (sumN b) 4 1), .int .u8 (tl (sumN b) 4 2), .int .u8 (tl (sumN b) 4 3)]) ∧ Below w.heap.size w w' := by
  have hs := sumN_lt b
  obtain ⟨w2, hw2⟩ : ∃ w2, (w.alloc (.cells #[.int .u8 0, .int .u8 0, .int .u8 0, .int .u8 0] 56)).alloc (.cells #[.int .u8 0, .int .u8 0, .int .u8 0, .int .u8 0] 56) = w2 := ⟨_, rfl⟩
  have hb2 : Below w.heap.size w w2 := by rw [← hw2]; go_grown
  have f2 : Four w2 (w.heap.size + 1) (fun _ => 0) := by
    rw [← hw2]
    have := four_new (w.alloc (.cells #[.int .u8 0, .int .u8 0, .int .u8 0, .int .u8 0] 56)) 56
    rwa [World.size_alloc] at this
  have f1 : Four w2 w.heap.size (fun _ => 0) := by
    rw [← hw2]
    exact (four_new w 56).below ((Below.refl _ _).alloc (Nat.le_refl _) _) (by simp)
  have CS := hid (crc_Sum (A := A) (c := c) b (by omega) ub w2 (ra.below hb2))
  obtain ⟨s, hs'⟩ : ∃ s, sumN b = s := ⟨_, rfl⟩
  rw [hs'] at CS hs ⊢
  clear hs' ra ub
  go_enter Tryz.func20, Tryz.ntmps20
  go_wp2_with fail
  refine CS.out.mono ?_
  rintro _ _ ⟨rfl, rfl⟩
  have F1 := hid f1
  have F2 := hid f2
  clear f1 f2 hw2
  go_wp2_with fail
  go_loopw [5, 8] (fun q i wr => ∃ (k : Nat), k ≤ 4 ∧ i = .int .i64 k ∧ Four wr (w.heap.size + 1) (tl s k) ∧ Four wr w.heap.size (fun _ => 0) ∧ Below w.heap.size w wr) (fun _ i _ => 4 - (intOf i).toNat)
  case atStart => exact ⟨0, by omega, rfl, F2.out, F1.out, hb2⟩
  case round =>
    obtain ⟨k, hk, rfl, g2, g1, hbr⟩ := hrel
    have G1 := hid g1
    have G2 := hid g2
    clear F1 F2
    by_cases hlt : k < 4
    · obtain ⟨hc, hf⟩ := g2 k hlt
      clear g1 g2
      go_wp2_with fail
      go_roundw
      case rel =>
        refine ⟨k + 1, by omega, by go_num, ?_, ?_, hbr.setCell (by simp) _⟩
        · have e1 : (s : Int) / 2 ^ (8 * k) % 256 = tl s (k + 1) k := by rw [tl_new, Int.natCast_emod, Int.natCast_ediv, Int.natCast_pow]; rfl
          rw [e1]
          exact G2.out.set hlt hc
        · exact G1.out.other (by simp) _
      case measure => simp [intOf]; omega
    · obtain rfl : k = 4 := by omega
      clear G2
      obtain ⟨a0, b0⟩ := g2 0 (by omega)
      obtain ⟨a1, b1⟩ := g2 1 (by omega)
      obtain ⟨a2, b2⟩ := g2 2 (by omega)
      obtain ⟨a3, b3⟩ := g2 3 (by omega)
      obtain ⟨c0, d0⟩ := g1 0 (by omega)
      obtain ⟨c1, d1⟩ := g1 1 (by omega)
      obtain ⟨c2, d2⟩ := g1 2 (by omega)
      obtain ⟨c3, d3⟩ := g1 3 (by omega)
      clear g1 g2
      go_wp2_with fail
      have K := lay4_cells G1.out (.int .u8 (tl s 4 0)) (.int .u8 (tl s 4 1)) (.int .u8 (tl s 4 2)) (.int .u8 (tl s 4 3))
      have KB := lay4_below hbr (Nat.le_refl _) (.int .u8 (tl s 4 0)) (.int .u8 (tl s 4 1)) (.int .u8 (tl s 4 2)) (.int .u8 (tl s 4 3))
      have hw5 : lay4 wr w.heap.size (.int .u8 (tl s 4 0)) (.int .u8 (tl s 4 1)) (.int .u8 (tl s 4 2)) (.int .u8 (tl s 4 3)) = (((wr.setCell ⟨w.heap.size, 0, none⟩ (.int .u8 (tl s 4 0))).setCell ⟨w.heap.size, 1, none⟩ (.int .u8 (tl s 4 1))).setCell ⟨w.heap.size, 2, none⟩ (.int .u8 (tl s 4 2))).setCell ⟨w.heap.size, 3, none⟩ (.int .u8 (tl s 4 3)) := rfl
      obtain ⟨w5, h5⟩ : ∃ w5, lay4 wr w.heap.size (.int .u8 (tl s 4 0)) (.int .u8 (tl s 4 1)) (.int .u8 (tl s 4 2)) (.int .u8 (tl s 4 3)) = w5 := ⟨_, rfl⟩
      rw [← hw5]
      rw [h5] at K KB ⊢
      clear h5 hw5 a0 a1 a2 a3 b0 b1 b2 b3 c0 c1 c2 c3 d0 d1 d2 d3 G1
      obtain ⟨a0, a1, a2, a3⟩ := K
      refine bodyPost_ret (v := .agg #[.int .u8 (tl s 4 0), .int .u8 (tl s 4 1), .int .u8 (tl s 4 2), .int .u8 (tl s 4 3)]) (by simp [results, Tryz.results20, go_sem, a0, a1, a2, a3]) rfl ⟨rfl, KB⟩
/-- Room made ahead for so many bytes. -/
theorem grow_nil (n : Nat) (hn : n ≤ 3000000) (w : World) :
    Calls Tryz.prog 39 #[.slice none 0 0, .int .i64 (n : Int)] w fun e w' => ∃ A c, e = .returned (.slice A 0 c) ∧ w'.ownsRow w.heap.size 5 1 (.slice A 0 c) 0 [] ∧ Below w.heap.size w w' := by
  by_cases h0 : n = 0
  · subst h0
    go_enter Tryz.func39, Tryz.ntmps39
    go_wp2_with fail
    go_ret
    exact ⟨none, 0, rfl, own_nil _ _ _, Below.refl _ _⟩
  · obtain ⟨i, hi, hzz⟩ := Option.map_eq_some_iff.1 info_u8
    simp only [Prod.mk.injEq] at hzz
    obtain ⟨hz, hs, hb⟩ := hzz
    have hold : (Builtin.firstCells i.size 0 (.slice none 0 0)).run Tryz.prog w.drew = .ok (#[] : Array Value) w.drew := run_firstCells_none w.drew i.size 0 0 0
    have hrz : ∀ ty, (Builtin.append_ #[22, 3] ty #[.slice none 0 0, .int .i64 (n : Int)]).run Tryz.prog w =
        .ok (.slice (some ⟨w.heap.size, 0, none⟩) n (grownCap w n 0 5)) (w.drew.alloc (.cells (#[] ++ Builtin.zeroCells #[.int .u8 0] n ++ Builtin.zeroCells #[.int .u8 0] (grownCap w n 0 5 - n)) 5)) := fun ty => by
      have h := Lib.run_append_grow_zeros w 22 3 ty 5 i (.int .u8 0) .i64 .i64 Tryz.underlying22 Tryz.underlying3 hi hz none 0 0 [] hold n (by omega) (by omega) (by omega) (by omega) (by rw [hb]; omega) (by rw [Nat.zero_add]; exact growslice_fits (by omega) (by rw [hb]; omega))
      rw [Nat.zero_add] at h
      exact h
    have hGn : n ≤ grownCap w n 0 5 := grownCap_ge w _ _ _
    have hGm := grownCap_le_maxLen w n 0 5 (by unfold maxLen; omega)
    obtain ⟨G, hG⟩ : ∃ G, G = grownCap w n 0 5 := ⟨_, rfl⟩
    rw [← hG] at hrz hGn hGm
    have hG63 : G ≤ 9223372036854775807 := by unfold maxLen at hGm; omega
    clear hold hG
    have hn0 : 0 < n := by omega
    have HM := hid hGm
    clear hGm h0
    go_enter Tryz.func39, Tryz.ntmps39
    go_wp2_with (at_builtin; refine Lib.wpList_append_run _ rfl _ _ _ _ rfl _ _ rfl rfl _ _ (hrz _) ?_)
    go_ret
    exact ⟨_, _, rfl, World.ownsRow_made _ _ G (Nat.le_refl _) HM.out (by simp [Builtin.zeroCells]; omega), ((Below.refl _ _).drew).alloc (Nat.le_refl _) _⟩
end Go.Proofs.YtngdgbicjhlnaaaGreat
/- Two texts put together; a text and its sum, by the program and by the document. -/
namespace Go.Proofs.YtngdgbicjhlnaaaGreat
open Go.RowKit
set_option maxHeartbeats 400000
set_option maxRecDepth 100000
set_option linter.unusedVariables false
theorem tl4 (s : Nat) : [tl s 4 0, tl s 4 1, tl s 4 2, tl s 4 3] = le4 s := by
  unfold tl le4
  simp
theorem concat2 {A B : Option Addr} {c d : Nat} (xs ys : List Int) (hx : xs.length ≤ 1000000) (hy : ys.length ≤ 1000000) (w : World) (g : Nat) (cap : Nat) (h0 : w.cell? ⟨g, 0, none⟩ = some (.slice A xs.length c)) (h1 : w.cell? ⟨g, 1, none⟩ = some (.slice B ys.length d))
    (ra : Rd (Value.int .u8) w w.heap.size A xs) (rb : Rd (Value.int .u8) w w.heap.size B ys) :
    Calls Tryz.prog 21 #[.slice (some ⟨g, 0, none⟩) 2 cap] w (OwnOf 5 .u8 w.heap.size (xs ++ ys) w) := by
  have hg := lt_of_cell h0
  have CG := hid (grow_nil (xs.length + ys.length) (by omega))
  have HA := hid ra
  have HB := hid rb
  have H0 := hid h0
  have H1 := hid h1
  clear ra rb
  go_enter Tryz.func21, Tryz.ntmps21
  go_wp2_with fail
  go_loop [3, 5, 11] (fun s x i => ∃ (k T : Nat), k ≤ 2 ∧ i = .int .i64 k ∧ s = .int .i64 T ∧ (k = 0 → T = 0) ∧ (k = 1 → T = xs.length) ∧ (k = 2 → T = xs.length + ys.length)) (fun _ _ i => 2 - (intOf i).toNat)
  case atStart => exact ⟨0, 0, by omega, rfl, rfl, fun _ => rfl, fun h => by omega, fun h => by omega⟩
  case round =>
    obtain ⟨k, T, hk, rfl, rfl, t0, t1, t2⟩ := hrel
    by_cases hk0 : k = 0
    · obtain rfl := t0 hk0
      subst hk0
      clear t0 t1 t2
      go_wp2_with fail
      go_round
      case rel => exact ⟨1, xs.length, by omega, by go_num, by go_num, fun h => by omega, fun _ => rfl, fun h => by omega⟩
      case measure => simp [intOf]
    · by_cases hk1 : k = 1
      · obtain rfl := t1 hk1
        subst hk1
        clear t0 t1 t2 hk0
        go_wp2_with fail
        go_round
        case rel => exact ⟨2, xs.length + ys.length, by omega, by go_num, by go_num, fun h => by omega, fun h => by omega, fun _ => rfl⟩
        case measure => simp [intOf]
      · obtain rfl : k = 2 := by omega
        obtain rfl := t2 rfl
        clear t0 t1 t2 hk0 hk1
        go_wp2_with fail
        refine (CG.out _).mono ?_
        rintro _ w1 ⟨A1, c1, rfl, ho, hb1⟩
        have HO := hid ho
        have h0' : w1.cell? ⟨g, 0, none⟩ = some (.slice A xs.length c) := (hb1.cell (p := ⟨g, 0, none⟩) hg).trans H0.out
        have h1' : w1.cell? ⟨g, 1, none⟩ = some (.slice B ys.length d) := (hb1.cell (p := ⟨g, 1, none⟩) hg).trans H1.out
        clear ho
        go_wp2_with fail
        go_loopw [6, 8, 27] (fun t x i wr => ∃ (k : Nat) (S : List Int) (A2 : Option Addr) (c2 : Nat), k ≤ 2 ∧ i = .int .i64 k ∧ t = .slice A2 S.length c2 ∧ (k = 0 → S = []) ∧ (k = 1 → S = xs) ∧ (k = 2 → S = xs ++ ys) ∧ wr.ownsRow w.heap.size 5 1 (.slice A2 S.length c2) S.length (S.map (Value.int .u8)) ∧ Below w.heap.size w wr) (fun _ _ i _ => 2 - (intOf i).toNat)
        case atStart => exact ⟨0, [], A1, c1, by omega, rfl, rfl, fun _ => rfl, fun h => by omega, fun h => by omega, HO.out, hb1⟩
        case round =>
          obtain ⟨k, S, A2, c2, hk, rfl, rfl, t0, t1, t2, ho, hbr⟩ := hrel
          have HO2 := hid ho
          have c0 : wr.cell? ⟨g, 0, none⟩ = some (.slice A xs.length c) := (hbr.cell (p := ⟨g, 0, none⟩) hg).trans H0.out
          have c1 : wr.cell? ⟨g, 1, none⟩ = some (.slice B ys.length d) := (hbr.cell (p := ⟨g, 1, none⟩) hg).trans H1.out
          clear ho
          by_cases hk0 : k = 0
          · obtain rfl := t0 hk0
            subst hk0
            have r1 := HA.out.below hbr
            clear t0 t1 t2
            go_wp2_with (at_builtin; refine wpList_app (Value.int .u8) (fun _ => rfl) _ rfl _ _ 22 rfl w.heap.size 5 (.int .u8 0) 1 Tryz.underlying22 info_u8 rfl [] _ _ rfl HO2.out xs _ c _ rfl r1 (by simp [maxLen]; omega) (by simp; omega) hbr.size ?_)
            rintro S' A' c' w4 hS' ho hb4 _
            have HS' := hid hS'
            have HO' := hid ho
            clear hS' ho r1
            go_wp2_with fail
            go_roundw
            case rel => exact ⟨1, S', A', c', by omega, by go_num, rfl, fun h => by omega, fun _ => HS'.out, fun h => by omega, HO'.out, hbr.trans hb4⟩
            case measure => simp [intOf]
          · by_cases hk1 : k = 1
            · obtain rfl := t1 hk1
              subst hk1
              have r1 := HB.out.below hbr
              clear t0 t1 t2 hk0
              go_wp2_with (at_builtin; refine wpList_app (Value.int .u8) (fun _ => rfl) _ rfl _ _ 22 rfl w.heap.size 5 (.int .u8 0) 1 Tryz.underlying22 info_u8 rfl S _ _ rfl HO2.out ys _ d _ rfl r1 (by simp [maxLen]; omega) (by simp; omega) hbr.size ?_)
              rintro S' A' c' w4 hS' ho hb4 _
              have HS' := hid hS'
              have HO' := hid ho
              clear hS' ho r1
              go_wp2_with fail
              go_roundw
              case rel => exact ⟨2, S', A', c', by omega, by go_num, rfl, fun h => by omega, fun h => by omega, fun _ => HS'.out, HO'.out, hbr.trans hb4⟩
              case measure => simp [intOf]
            · obtain rfl : k = 2 := by omega
              have e := t2 rfl
              have E := hid e
              clear t0 t1 t2 hk0 hk1 e
              go_wp2_with fail
              go_ret
              rw [← E.out]
              exact ⟨A2, c2, rfl, HO2.out, hbr⟩
theorem four_rd {w : World} {g : Nat} {a b c d : Int} (h0 : w.cell? ⟨g, 0, none⟩ = some (.int .u8 a)) (h1 : w.cell? ⟨g, 1, none⟩ = some (.int .u8 b)) (h2 : w.cell? ⟨g, 2, none⟩ = some (.int .u8 c)) (h3 : w.cell? ⟨g, 3, none⟩ = some (.int .u8 d)) :
    Rd (Value.int .u8) w w.heap.size (some ⟨g, 0, none⟩) [a, b, c, d] := fun k x hx => by
  refine ⟨g, 0, rfl, lt_of_cell h0, ?_⟩
  rw [Nat.zero_add]
  match k with
  | 0 => simp at hx; subst hx; exact h0
  | 1 => simp at hx; subst hx; exact h1
  | 2 => simp at hx; subst hx; exact h2
  | 3 => simp at hx; subst hx; exact h3
  | k + 4 => simp at hx
theorem crc_Seal {A : Option Addr} {c : Nat} (b : List Int) (hb : b.length ≤ 1000000) (ub : U8s b) (w : World) (ra : Rd (Value.int .u8) w w.heap.size A b) :
    Calls Tryz.prog 7 #[.slice A b.length c] w (OwnE 5 .u8 w.heap.size (sealV b) (sealE b) w) := by
  unfold sealV sealE
  by_cases h : 65532 < b.length
  · rw [if_pos h, if_pos h]
    clear ra ub
    go_enter Tryz.func7, Tryz.ntmps7
    go_wp2_with fail
    go_ret2
    exact .nil (Below.refl _ _)
  · rw [if_neg h, if_neg h]
    have CT := hid (crc_tail (A := A) (c := c) b hb ub w ra)
    have RA := hid ra
    obtain ⟨R, hR⟩ : ∃ R, b ++ le4 (sumN b) = R := ⟨_, rfl⟩
    rw [hR]
    rw [← tl4] at hR
    obtain ⟨s, hs⟩ : ∃ s, sumN b = s := ⟨_, rfl⟩
    rw [hs] at CT hR
    have HR := hid hR
    clear ra ub hs hR
    obtain ⟨y0, e0⟩ : ∃ y, tl s 4 0 = y := ⟨_, rfl⟩
    obtain ⟨y1, e1⟩ : ∃ y, tl s 4 1 = y := ⟨_, rfl⟩
    obtain ⟨y2, e2⟩ : ∃ y, tl s 4 2 = y := ⟨_, rfl⟩
    obtain ⟨y3, e3⟩ : ∃ y, tl s 4 3 = y := ⟨_, rfl⟩
    rw [e0, e1, e2, e3] at CT HR
    clear e0 e1 e2 e3
    go_enter Tryz.func7, Tryz.ntmps7
    go_wp2_with fail
    refine CT.out.mono ?_
    rintro _ w1 ⟨rfl, hb1⟩
    go_wp2_with fail
    obtain ⟨w2, hw2⟩ : ∃ w2, (w1.alloc (.cells #[.int .u8 y0, .int .u8 y1, .int .u8 y2, .int .u8 y3] 56)).alloc (.cells #[.slice A b.length c, .slice (some ⟨w1.heap.size, 0, none⟩) 4 4] 22) = w2 := ⟨_, rfl⟩
    have hb2 : Below w1.heap.size w1 w2 := by rw [← hw2]; go_grown
    have g0 : w2.cell? ⟨w1.heap.size + 1, 0, none⟩ = some (.slice A b.length c) := by rw [← hw2]; simp [go_sem]
    have g1 : w2.cell? ⟨w1.heap.size + 1, 1, none⟩ = some (.slice (some ⟨w1.heap.size, 0, none⟩) [y0, y1, y2, y3].length 4) := by rw [← hw2]; simp [go_sem]
    have z0 : w2.cell? ⟨w1.heap.size, 0, none⟩ = some (.int .u8 y0) := by rw [← hw2]; simp [go_sem]
    have z1 : w2.cell? ⟨w1.heap.size, 1, none⟩ = some (.int .u8 y1) := by rw [← hw2]; simp [go_sem]
    have z2 : w2.cell? ⟨w1.heap.size, 2, none⟩ = some (.int .u8 y2) := by rw [← hw2]; simp [go_sem]
    have z3 : w2.cell? ⟨w1.heap.size, 3, none⟩ = some (.int .u8 y3) := by rw [← hw2]; simp [go_sem]
    have hb3 : Below w.heap.size w w2 := hb1.trans (hb2.mono hb1.size)
    have r1 := RA.out.on hb3
    rw [hw2]
    refine (concat2 (d := 4) b [y0, y1, y2, y3] hb (by simp) w2 (w1.heap.size + 1) 2 g0 g1 r1 (four_rd z0 z1 z2 z3)).mono ?_
    rw [HR.out]
    rintro _ w3 ⟨A3, c3, rfl, ho, hb4⟩
    have HO := hid (own_base ho hb3.size)
    clear ho g0 g1 z0 z1 z2 z3 hw2 r1
    go_wp2_with fail
    go_ret2
    exact ⟨A3, c3, rfl, HO.out, hb3.trans (hb4.mono hb3.size)⟩
theorem le4_int (s : Nat) : le4 s = [(s : Int) % 256, (s : Int) / 256 % 256, (s : Int) / 65536 % 256, (s : Int) / 16777216 % 256] := by
  unfold le4
  simp only [List.cons.injEq, and_true]
  omega
theorem rd_four (w : World) (t : TypeId) (a b c d : Int) : Rd (Value.int .u8) (w.alloc (.cells #[.int .u8 a, .int .u8 b, .int .u8 c, .int .u8 d] t)) (w.alloc (.cells #[.int .u8 a, .int .u8 b, .int .u8 c, .int .u8 d] t)).heap.size (some ⟨w.heap.size, 0, none⟩) [a, b, c, d] :=
  rd_new (enc := Value.int .u8) w t [a, b, c, d]
theorem ref_Seal {A : Option Addr} {c : Nat} (b : List Int) (hb : b.length ≤ 1000000) (ub : U8s b) (w : World) {B : Nat} (ra : Rd (Value.int .u8) w B A b) :
    Calls Tryz.prog 30 #[.slice A b.length c] w (OwnE 5 .u8 w.heap.size (sealV b) (sealE b) w) := by
  unfold sealV sealE
  by_cases h : 65532 < b.length
  · rw [if_pos h, if_pos h]
    clear ra ub
    go_enter Tryz.func30, Tryz.ntmps30
    go_wp2_with fail
    go_ret2
    exact .nil (Below.refl _ _)
  · rw [if_neg h, if_neg h]
    have CS := hid (ref_Sum (A := A) (c := c) b (by omega) ub w ra)
    have RA := hid ra
    obtain ⟨R, hR⟩ : ∃ R, b ++ le4 (sumN b) = R := ⟨_, rfl⟩
    rw [hR]
    obtain ⟨s, hs⟩ : ∃ s, sumN b = s := ⟨_, rfl⟩
    rw [hs] at CS hR
    have HR := hid hR
    have hap := own_nil w w.heap.size 5
    clear ra ub hs hR
    go_enter Tryz.func30, Tryz.ntmps30
    go_wp2_with fail
    refine CS.out.mono ?_
    rintro _ _ ⟨rfl, rfl⟩
    go_wp2_with (at_builtin; refine wpList_app (Value.int .u8) (fun _ => rfl) _ rfl _ _ 22 rfl w.heap.size 5 (.int .u8 0) 1 Tryz.underlying22 info_u8 rfl [] none 0 rfl hap b A c B rfl RA.out (by simp [maxLen]; omega) (by simp; omega) (Nat.le_refl _) ?_)
    rintro S A1 c1 w1 hS ho hb1 _
    have HS := hid hS
    have HO := hid ho
    clear ho hS hap
    obtain ⟨y0, e0⟩ : ∃ y, (s : Int) % 256 = y := ⟨_, rfl⟩
    obtain ⟨y1, e1⟩ : ∃ y, (s : Int) / 256 % 256 = y := ⟨_, rfl⟩
    obtain ⟨y2, e2⟩ : ∃ y, (s : Int) / 65536 % 256 = y := ⟨_, rfl⟩
    obtain ⟨y3, e3⟩ : ∃ y, (s : Int) / 16777216 % 256 = y := ⟨_, rfl⟩
    have HR2 : Hid (S ++ [y0, y1, y2, y3] = R) := by rw [HS.out, ← HR.out, le4_int, e0, e1, e2, e3]; rfl
    have r4 := rd_four w1 5 y0 y1 y2 y3
    have h0 := own_on HO.out ((Below.refl w1.heap.size w1).alloc (Nat.le_refl _) (.cells #[.int .u8 y0, .int .u8 y1, .int .u8 y2, .int .u8 y3] 5))
    have hSl : S.length ≤ 1000000 := by have := HS.out; rw [this]; exact hb
    have hb2 : Below w.heap.size w (w1.alloc (.cells #[.int .u8 y0, .int .u8 y1, .int .u8 y2, .int .u8 y3] 5)) := hb1.alloc hb1.size _
    go_wp2_with (at_builtin; refine wpList_app (Value.int .u8) (fun _ => rfl) _ rfl _ _ 22 rfl w.heap.size 5 (.int .u8 0) 1 Tryz.underlying22 info_u8 rfl S _ _ rfl h0 [y0, y1, y2, y3] _ 4 _ rfl r4 (by simp [maxLen]; omega) (by simp; omega) hb2.size ?_)
    rintro T A2 c2 w2 hT ho hb3 _
    have HT := hid hT
    have HO2 := hid ho
    clear ho hT h0 r4 e0 e1 e2 e3
    go_wp2_with fail
    go_ret2
    have e : T = R := by rw [HT.out, HR2.out]
    subst e
    exact ⟨A2, c2, rfl, HO2.out, hb2.trans hb3⟩
end Go.Proofs.YtngdgbicjhlnaaaGreat
/- Lists of lists in memory, by their slices; part of them and turned round. -/
namespace Go.Proofs.YtngdgbicjhlnaaaGreat
open Go.RowKit
set_option maxRecDepth 100000
set_option linter.unusedVariables false
/-- A slice of slices at A reads as these lists. -/
def RdRows (w : World) (B : Nat) (A : Option Addr) (rows : List (List Int)) : Prop :=
  ∀ k xs, rows[k]? = some xs → ∃ b off A' c', A = some ⟨b, off, none⟩ ∧ b < B ∧ w.cell? ⟨b, off + k, none⟩ = some (.slice A' xs.length c') ∧ Rd (Value.int .i64) w B A' xs
theorem RdRows.below {w w' : World} {B : Nat} {A : Option Addr} {rows : List (List Int)} (h : RdRows w B A rows) (hb : Below B w w') : RdRows w' B A rows := fun k xs hx => by
  obtain ⟨b, off, A', c', e, hl, hc, hr⟩ := h k xs hx
  exact ⟨b, off, A', c', e, hl, (hb.cell (p := ⟨b, off + k, none⟩) hl).trans hc, hr.below hb⟩
theorem RdRows.more {w : World} {B B' : Nat} {A : Option Addr} {rows : List (List Int)} (h : RdRows w B A rows) (hB : B ≤ B') : RdRows w B' A rows := fun k xs hx => by
  obtain ⟨b, off, A', c', e, hl, hc, hr⟩ := h k xs hx
  exact ⟨b, off, A', c', e, by omega, hc, hr.more hB⟩
theorem RdRows.on {w w' : World} {A : Option Addr} {rows : List (List Int)} (h : RdRows w w.heap.size A rows) (hb : Below w.heap.size w w') : RdRows w' w'.heap.size A rows := (h.below hb).more hb.size
/-- A slice's three parts. -/
abbrev Sl := Option Addr × Nat × Nat
def encS (p : Sl) : Value := .slice p.1 p.2.1 p.2.2
theorem encS_one (p : Sl) : (encS p).oneCell' = true := rfl
/-- The slices by which lists lie in memory. -/
def Fits (w : World) (B : Nat) (ps : List Sl) (rows : List (List Int)) : Prop := ps.length = rows.length ∧ ∀ (k : Nat) (p : Sl) (xs : List Int), ps[k]? = some p → rows[k]? = some xs → p.2.1 = xs.length ∧ Rd (Value.int .i64) w B p.1 xs
theorem rows_split {w : World} {B : Nat} {A : Option Addr} : ∀ {rows : List (List Int)}, RdRows w B A rows → ∃ ps, Rd encS w B A ps ∧ Fits w B ps rows := by
  intro rows h
  have key : ∀ k, k ≤ rows.length → ∃ ps : List Sl, Rd encS w B A ps ∧ Fits w B ps (rows.take k) := by
    intro k
    induction k with
    | zero => exact fun _ => ⟨[], Rd.none_, by simp, fun k p xs hp => by simp at hp⟩
    | succ k ih =>
      intro hk
      obtain ⟨ps, h1, h2, h3⟩ := ih (by omega)
      have hu : rows[k]? = some rows[k] := List.getElem?_eq_getElem (by omega)
      obtain ⟨b, off, A', c', e, hl, hc, hr⟩ := h k _ hu
      have hlen : ps.length = k := by rw [h2, List.length_take]; omega
      refine ⟨ps ++ [(A', rows[k].length, c')], ?_, ?_, ?_⟩
      · intro j p hp
        by_cases hj : j < ps.length
        · rw [List.getElem?_append_left hj] at hp
          exact h1 j p hp
        · have hj2 : j = k := by
            have := (List.getElem?_eq_some_iff.1 hp).1
            simp at this; omega
          subst hj2
          rw [List.getElem?_append_right (by omega), hlen] at hp
          simp at hp
          subst hp
          exact ⟨b, off, e, hl, hc⟩
      · rw [List.length_append, hlen, List.length_take]; simp; omega
      · intro j p xs hp hx
        by_cases hj : j < ps.length
        · rw [List.getElem?_append_left hj] at hp
          refine h3 j p xs hp ?_
          rw [List.getElem?_take_of_lt (by omega)] at hx ⊢
          exact hx
        · have hj2 : j = k := by
            have := (List.getElem?_eq_some_iff.1 hp).1
            simp at this; omega
          subst hj2
          rw [List.getElem?_append_right (by omega), hlen] at hp
          rw [List.getElem?_take_of_lt (by omega), hu] at hx
          simp at hp hx
          subst hp
          subst hx
          exact ⟨rfl, hr⟩
  obtain ⟨ps, h1, h2⟩ := key rows.length (Nat.le_refl _)
  rw [List.take_of_length_le (Nat.le_refl _)] at h2
  exact ⟨ps, h1, h2⟩
theorem rows_join {w : World} {B : Nat} {A : Option Addr} {ps : List Sl} {rows : List (List Int)} (h : Rd encS w B A ps) (hf : Fits w B ps rows) : RdRows w B A rows := fun k xs hx => by
  have hk : k < ps.length := by rw [hf.1]; exact (List.getElem?_eq_some_iff.1 hx).1
  obtain ⟨b, off, e, hl, hc⟩ := h k ps[k] (List.getElem?_eq_getElem hk)
  obtain ⟨h1, h2⟩ := hf.2 k _ xs (List.getElem?_eq_getElem hk) hx
  refine ⟨b, off, ps[k].1, ps[k].2.2, e, hl, ?_, h2⟩
  rw [hc]
  unfold encS
  rw [h1]
theorem fits_on {w w' : World} {B : Nat} {ps : List Sl} {rows : List (List Int)} (h : Fits w B ps rows) (hb : Below B w w') : Fits w' B ps rows := ⟨h.1, fun k p xs hp hx => ⟨(h.2 k p xs hp hx).1, (h.2 k p xs hp hx).2.below hb⟩⟩
theorem fits_more {w : World} {B B' : Nat} {ps : List Sl} {rows : List (List Int)} (h : Fits w B ps rows) (hB : B ≤ B') : Fits w B' ps rows := ⟨h.1, fun k p xs hp hx => ⟨(h.2 k p xs hp hx).1, (h.2 k p xs hp hx).2.more hB⟩⟩
theorem fits_reverse {w : World} {B : Nat} {ps : List Sl} {rows : List (List Int)} (h : Fits w B ps rows) : Fits w B ps.reverse rows.reverse := by
  refine ⟨by simp [h.1], fun k p xs hp hx => ?_⟩
  have hk : k < ps.length := by have := (List.getElem?_eq_some_iff.1 hp).1; simpa using this
  rw [List.getElem?_reverse hk] at hp
  rw [List.getElem?_reverse (by rw [← h.1]; exact hk), ← h.1] at hx
  exact h.2 _ p xs hp hx
theorem rows_tail {w : World} {B b off : Nat} {v : List Int} {r : List (List Int)} (h : RdRows w B (some ⟨b, off, none⟩) (v :: r)) : RdRows w B (some ⟨b, off + 1, none⟩) r := fun k xs hx => by
  obtain ⟨b', off', A', c', e, hl, hc, hr⟩ := h (k + 1) xs (by rw [List.getElem?_cons_succ]; exact hx)
  have e2 := Option.some.inj e
  simp only [Addr.mk.injEq] at e2
  obtain ⟨rfl, rfl, _⟩ := e2
  exact ⟨b, off + 1, A', c', rfl, hl, by rw [show off + 1 + k = off + (k + 1) by omega]; exact hc, hr⟩
theorem rows_two {A B : Option Addr} {c d : Nat} (xs ys : List Int) (W : World) (ra : Rd (Value.int .i64) W W.heap.size A xs) (rb : Rd (Value.int .i64) W W.heap.size B ys) (t : TypeId) :
    RdRows (W.alloc (.cells #[.slice A xs.length c, .slice B ys.length d] t)) (W.alloc (.cells #[.slice A xs.length c, .slice B ys.length d] t)).heap.size (some ⟨W.heap.size, 0, none⟩) [xs, ys] := fun k zs hz => by
  have hb : Below W.heap.size W (W.alloc (.cells #[.slice A xs.length c, .slice B ys.length d] t)) := (Below.refl _ _).alloc (Nat.le_refl _) _
  have hn := heap_alloc_new W (.cells #[.slice A xs.length c, .slice B ys.length d] t)
  have hlt : W.heap.size < (W.alloc (.cells #[.slice A xs.length c, .slice B ys.length d] t)).heap.size := (Array.getElem?_eq_some_iff.1 hn).1
  match k, hz with
  | 0, hz =>
    obtain rfl : xs = zs := by simpa using hz
    exact ⟨_, 0, A, c, rfl, hlt, by rw [cell_of_row _ _ _ _ t (0, 0) hn]; rfl, ra.on hb⟩
  | 1, hz =>
    obtain rfl : ys = zs := by simpa using hz
    exact ⟨_, 0, B, d, rfl, hlt, by rw [cell_of_row _ _ _ _ t (0, 0) hn]; rfl, rb.on hb⟩
  | k + 2, hz => simp at hz
theorem rows_one {A : Option Addr} {c : Nat} (xs : List Int) (W : World) (ra : Rd (Value.int .i64) W W.heap.size A xs) (t : TypeId) :
    RdRows (W.alloc (.cells #[.slice A xs.length c] t)) (W.alloc (.cells #[.slice A xs.length c] t)).heap.size (some ⟨W.heap.size, 0, none⟩) [xs] := fun k zs hz => by
  have hb : Below W.heap.size W (W.alloc (.cells #[.slice A xs.length c] t)) := (Below.refl _ _).alloc (Nat.le_refl _) _
  have hn := heap_alloc_new W (.cells #[.slice A xs.length c] t)
  have hlt : W.heap.size < (W.alloc (.cells #[.slice A xs.length c] t)).heap.size := (Array.getElem?_eq_some_iff.1 hn).1
  match k, hz with
  | 0, hz =>
    obtain rfl : xs = zs := by simpa using hz
    exact ⟨_, 0, A, c, rfl, hlt, by rw [cell_of_row _ _ _ _ t (0, 0) hn]; rfl, ra.on hb⟩
  | k + 1, hz => simp at hz
end Go.Proofs.YtngdgbicjhlnaaaGreat
/- Texts put together, by package slices. -/
namespace Go.Proofs.YtngdgbicjhlnaaaGreat
open Go.RowKit
set_option maxHeartbeats 400000
set_option maxRecDepth 100000
set_option linter.unusedVariables false
/-- A slice of texts at A reads as these. -/
def RdRow8 (w : World) (B : Nat) (A : Option Addr) (rows : List (List Int)) : Prop :=
  ∀ k xs, rows[k]? = some xs → ∃ b off A' c', A = some ⟨b, off, none⟩ ∧ b < B ∧ w.cell? ⟨b, off + k, none⟩ = some (.slice A' xs.length c') ∧ Rd (Value.int .u8) w B A' xs
theorem RdRow8.below {w w' : World} {B : Nat} {A : Option Addr} {rows : List (List Int)} (h : RdRow8 w B A rows) (hb : Below B w w') : RdRow8 w' B A rows := fun k xs hx => by
  obtain ⟨b, off, A', c', e, hl, hc, hr⟩ := h k xs hx
  exact ⟨b, off, A', c', e, hl, (hb.cell (p := ⟨b, off + k, none⟩) hl).trans hc, hr.below hb⟩
theorem RdRow8.more {w : World} {B B' : Nat} {A : Option Addr} {rows : List (List Int)} (h : RdRow8 w B A rows) (hB : B ≤ B') : RdRow8 w B' A rows := fun k xs hx => by
  obtain ⟨b, off, A', c', e, hl, hc, hr⟩ := h k xs hx
  exact ⟨b, off, A', c', e, by omega, hc, hr.more hB⟩
theorem RdRow8.on {w w' : World} {A : Option Addr} {rows : List (List Int)} (h : RdRow8 w w.heap.size A rows) (hb : Below w.heap.size w w') : RdRow8 w' w'.heap.size A rows := (h.below hb).more hb.size
theorem row8_two {A B : Option Addr} {c d : Nat} (xs ys : List Int) (W : World) (ra : Rd (Value.int .u8) W W.heap.size A xs) (rb : Rd (Value.int .u8) W W.heap.size B ys) (t : TypeId) :
    RdRow8 (W.alloc (.cells #[.slice A xs.length c, .slice B ys.length d] t)) (W.alloc (.cells #[.slice A xs.length c, .slice B ys.length d] t)).heap.size (some ⟨W.heap.size, 0, none⟩) [xs, ys] := fun k zs hz => by
  have hb : Below W.heap.size W (W.alloc (.cells #[.slice A xs.length c, .slice B ys.length d] t)) := (Below.refl _ _).alloc (Nat.le_refl _) _
  have hn := heap_alloc_new W (.cells #[.slice A xs.length c, .slice B ys.length d] t)
  have hlt : W.heap.size < (W.alloc (.cells #[.slice A xs.length c, .slice B ys.length d] t)).heap.size := (Array.getElem?_eq_some_iff.1 hn).1
  match k, hz with
  | 0, hz =>
    obtain rfl : xs = zs := by simpa using hz
    exact ⟨_, 0, A, c, rfl, hlt, by rw [cell_of_row _ _ _ _ t (0, 0) hn]; rfl, ra.on hb⟩
  | 1, hz =>
    obtain rfl : ys = zs := by simpa using hz
    exact ⟨_, 0, B, d, rfl, hlt, by rw [cell_of_row _ _ _ _ t (0, 0) hn]; rfl, rb.on hb⟩
  | k + 2, hz => simp at hz
theorem row8_four {A1 A2 A3 A4 : Option Addr} {c1 c2 c3 c4 : Nat} (x1 x2 x3 x4 : List Int) (W : World) (r1 : Rd (Value.int .u8) W W.heap.size A1 x1) (r2 : Rd (Value.int .u8) W W.heap.size A2 x2) (r3 : Rd (Value.int .u8) W W.heap.size A3 x3) (r4 : Rd (Value.int .u8) W W.heap.size A4 x4) (t : TypeId) :
    RdRow8 (W.alloc (.cells #[.slice A1 x1.length c1, .slice A2 x2.length c2, .slice A3 x3.length c3, .slice A4 x4.length c4] t)) (W.alloc (.cells #[.slice A1 x1.length c1, .slice A2 x2.length c2, .slice A3 x3.length c3, .slice A4 x4.length c4] t)).heap.size (some ⟨W.heap.size, 0, none⟩) [x1, x2, x3, x4] := fun k zs hz => by
  have hb : Below W.heap.size W (W.alloc (.cells #[.slice A1 x1.length c1, .slice A2 x2.length c2, .slice A3 x3.length c3, .slice A4 x4.length c4] t)) := (Below.refl _ _).alloc (Nat.le_refl _) _
  have hn := heap_alloc_new W (.cells #[.slice A1 x1.length c1, .slice A2 x2.length c2, .slice A3 x3.length c3, .slice A4 x4.length c4] t)
  have hlt : W.heap.size < (W.alloc (.cells #[.slice A1 x1.length c1, .slice A2 x2.length c2, .slice A3 x3.length c3, .slice A4 x4.length c4] t)).heap.size := (Array.getElem?_eq_some_iff.1 hn).1
  match k, hz with
  | 0, hz =>
    obtain rfl : x1 = zs := by simpa using hz
    exact ⟨_, 0, A1, c1, rfl, hlt, by rw [cell_of_row _ _ _ _ t (0, 0) hn]; rfl, r1.on hb⟩
  | 1, hz =>
    obtain rfl : x2 = zs := by simpa using hz
    exact ⟨_, 0, A2, c2, rfl, hlt, by rw [cell_of_row _ _ _ _ t (0, 0) hn]; rfl, r2.on hb⟩
  | 2, hz =>
    obtain rfl : x3 = zs := by simpa using hz
    exact ⟨_, 0, A3, c3, rfl, hlt, by rw [cell_of_row _ _ _ _ t (0, 0) hn]; rfl, r3.on hb⟩
  | 3, hz =>
    obtain rfl : x4 = zs := by simpa using hz
    exact ⟨_, 0, A4, c4, rfl, hlt, by rw [cell_of_row _ _ _ _ t (0, 0) hn]; rfl, r4.on hb⟩
  | k + 4, hz => simp at hz
theorem cat8_step {ls : List (List Int)} {k : Nat} {x : List Int} (h : ls[k]? = some x) : (ls.take (k + 1)).flatten = (ls.take k).flatten ++ x := by
  rw [List.take_add_one, h, List.flatten_append]
  simp
theorem cat8_take (ls : List (List Int)) (k : Nat) : (ls.take k).flatten.length ≤ ls.flatten.length := by
  have h := congrArg List.length (congrArg List.flatten (List.take_append_drop k ls))
  rw [List.flatten_append, List.length_append] at h
  omega
theorem by_concat {A : Option Addr} {c : Nat} (ls : List (List Int)) (hl : ls.length ≤ 100000) (hf : ls.flatten.length ≤ 100000) (w : World) (ra : RdRow8 w w.heap.size A ls) :
    Calls Tryz.prog 21 #[.slice A ls.length c] w (OwnOf 5 .u8 w.heap.size ls.flatten w) := by
  have CG := hid (fun n hn => grow_nil n hn)
  have HA := hid ra
  have HF : Hid (∀ k x, ls[k]? = some x → (ls.take (k + 1)).flatten = (ls.take k).flatten ++ x) := hid (fun k x h => cat8_step h)
  have HL : Hid (∀ k, (ls.take k).flatten.length ≤ 100000) := hid (fun k => by have := cat8_take ls k; omega)
  have HF0 : Hid ((ls.take 0).flatten = []) := hid rfl
  have HFe : Hid (∀ k, ls.length ≤ k → (ls.take k).flatten = ls.flatten) := hid (fun k hk => by rw [List.take_of_length_le hk])
  obtain ⟨F, hF⟩ : ∃ F : Nat → List Int, (fun k => (ls.take k).flatten) = F := ⟨_, rfl⟩
  have hF' : ∀ k, (ls.take k).flatten = F k := fun k => by rw [← hF]
  simp only [hF'] at HF HL HF0 HFe
  obtain ⟨R, hR⟩ : ∃ R, ls.flatten = R := ⟨_, rfl⟩
  rw [hR] at HFe ⊢
  obtain ⟨N, hN⟩ : ∃ N, ls.length = N := ⟨_, rfl⟩
  have HN := hid hN
  rw [hN] at HFe hl ⊢
  clear ra hR hf hF hF' hN
  go_enter Tryz.func21, Tryz.ntmps21
  go_wp2_with fail
  go_loop [3, 5, 11] (fun s x i => ∃ (k T : Nat), k ≤ N ∧ i = .int .i64 k ∧ s = .int .i64 T ∧ T = (F k).length) (fun _ _ i => N - (intOf i).toNat)
  case atStart => exact ⟨0, 0, by omega, rfl, rfl, by rw [HF0.out]; rfl⟩
  case round =>
    obtain ⟨k, T, hk, rfl, rfl, hT⟩ := hrel
    have hTb : T ≤ 100000 := by rw [hT]; exact HL.out k
    have HT := hid hT
    clear hT
    by_cases hlt : k < N
    · obtain ⟨b1, o1, Ax, cx, rfl, l1, c1, rx⟩ := HA.out k _ (List.getElem?_eq_getElem (by rw [HN.out]; exact hlt))
      have hx0 : ls[k]? = some (ls[k]'(by rw [HN.out]; exact hlt)) := List.getElem?_eq_getElem (by rw [HN.out]; exact hlt)
      have HS := hid (HF.out k _ hx0)
      have hb := HL.out (k + 1)
      obtain ⟨x, hx⟩ : ∃ x, (ls[k]'(by rw [HN.out]; exact hlt)) = x := ⟨_, rfl⟩
      rw [hx] at HS c1
      rw [HS.out, List.length_append] at hb
      obtain ⟨X, hX⟩ : ∃ X, x.length = X := ⟨_, rfl⟩
      have HX := hid hX
      rw [hX] at c1 hb
      have hXb : X ≤ 100000 := by omega
      clear hX hb hx hx0 rx
      go_wp2_with fail
      go_round
      case rel => exact ⟨k + 1, T + X, by omega, by go_num, by go_num, by rw [HS.out, List.length_append, HT.out, HX.out]⟩
      case measure => simp [intOf]; omega
    · obtain rfl : k = N := by omega
      have CG1 := hid (CG.out T (by omega) w)
      clear CG HT
      go_wp2_with fail
      refine CG1.out.mono ?_
      rintro _ w1 ⟨A1, c1, rfl, ho, hb1⟩
      have HO := hid ho
      clear ho CG1
      go_wp2_with fail
      go_loopw [6, 8, 27] (fun t x i wr => ∃ (j : Nat) (S : List Int) (A2 : Option Addr) (c2 : Nat), j ≤ k ∧ i = .int .i64 j ∧ t = .slice A2 S.length c2 ∧ S = F j ∧ wr.ownsRow w.heap.size 5 1 (.slice A2 S.length c2) S.length (S.map (Value.int .u8)) ∧ Below w.heap.size w wr) (fun _ _ i _ => k - (intOf i).toNat)
      case atStart => exact ⟨0, [], A1, c1, by omega, rfl, rfl, HF0.out.symm, HO.out, hb1⟩
      case round =>
        clear HO hb1
        obtain ⟨j, S, A2, c2, hj, rfl, rfl, hS, ho, hbel⟩ := hrel
        have hSl : S.length ≤ 100000 := by rw [hS]; exact HL.out j
        have HSj := hid hS
        have HO := hid ho
        clear hS ho
        by_cases hjl : j < k
        · obtain ⟨b1, o1, Ax, cx, rfl, l1, c1, rx⟩ := HA.out j _ (List.getElem?_eq_getElem (by rw [HN.out]; exact hjl))
          have hx0 : ls[j]? = some (ls[j]'(by rw [HN.out]; exact hjl)) := List.getElem?_eq_getElem (by rw [HN.out]; exact hjl)
          have HS := hid (HF.out j _ hx0)
          have hb := HL.out (j + 1)
          obtain ⟨x, hx⟩ : ∃ x, (ls[j]'(by rw [HN.out]; exact hjl)) = x := ⟨_, rfl⟩
          rw [hx] at HS c1 rx
          rw [HS.out, List.length_append, ← HSj.out] at hb
          have c1' := (hbel.cell (p := ⟨b1, o1 + j, none⟩) l1).trans c1
          have hrx := rx.below hbel
          have h0 := HO.out
          have hbs := hbel.size
          clear hx hx0 rx c1
          go_wp2_with (at_builtin; refine wpList_app (Value.int .u8) (fun _ => rfl) _ rfl _ _ 22 rfl w.heap.size 5 (.int .u8 0) 1 Tryz.underlying22 info_u8 rfl S _ _ rfl h0 x _ cx _ rfl hrx (by simp [maxLen]; omega) (by omega) hbs ?_)
          rintro S' A' c' w4 hS' ho hb4 _
          have HS' := hid hS'
          have HO' := hid ho
          clear hS' ho h0 hrx
          go_wp2_with fail
          go_roundw
          case rel => exact ⟨j + 1, S', A', c', by omega, by go_num, rfl, by rw [HS'.out, HS.out, HSj.out], HO'.out, hbel.trans hb4⟩
          case measure => simp [intOf]; omega
        · obtain rfl : j = k := by omega
          have HR := hid (HFe.out j (Nat.le_refl _))
          go_wp2_with fail
          go_ret
          have e : S = R := by rw [HSj.out, HR.out]
          rw [← e]
          exact ⟨A2, c2, rfl, HO.out, hbel⟩
end Go.Proofs.YtngdgbicjhlnaaaGreat
/- Lists that are the same, by the document (thrumref06). -/
namespace Go.Proofs.YtngdgbicjhlnaaaGreat
open Go.RowKit
set_option maxHeartbeats 400000
set_option maxRecDepth 100000
set_option linter.unusedVariables false
theorem info_int : (Tryz.prog.info? 3).map (fun i => (i.zero, i.size, i.bytes)) = some (some (.int .i64 0), 1, 8) := by kernel_rfl
theorem cells_int : Tryz.prog.cellsOf 3 = 1 := by kernel_rfl
theorem cells_ints : Tryz.prog.cellsOf 24 = 1 := by kernel_rfl
theorem drewN_two (w : World) (n m : Nat) : ∃ k, (w.drewN n).drewN m = w.drewN k := ⟨n + m, by simp⟩
theorem ref_Equal {A B : Option Addr} {c d : Nat} (xs ys : List Int) (hx : xs.length ≤ 9223372036854775807) (hy : ys.length ≤ 9223372036854775807) (w : World) {L M : Nat}
    (ra : Rd (Value.int .i64) w L A xs) (rb : Rd (Value.int .i64) w M B ys) :
    Calls Tryz.prog 40 #[.slice A xs.length c, .slice B ys.length d] w fun e w' => e = .returned (.bool (eqB xs ys)) ∧ ∃ n, w' = w.drewN n := by
  by_cases hl : xs.length = ys.length
  · have HA := hid ra
    have HB := hid rb
    clear ra rb
    have h1 : ((xs.length : Int) != (ys.length : Int)) = false := by simp; omega
    have h2 : (xs.length != ys.length) = false := by simp; omega
    have HL := hid hl
    clear hl
    go_enter Tryz.func40, Tryz.ntmps40
    go_wp2_with fail
    clear h1 h2
    go_loopw [13] (fun i wr => ∃ k : Nat, k ≤ xs.length ∧ i = .int .i64 k ∧ xs.take k = ys.take k ∧ ∃ n, wr = w.drewN n) (fun i _ => xs.length - (intOf i).toNat)
    case atStart => exact ⟨0, by omega, rfl, rfl, 0, rfl⟩
    case round =>
      obtain ⟨k, hk, rfl, ht, n, rfl⟩ := hrel
      have HT := hid ht
      clear ht
      by_cases hlt : k < xs.length
      · have hlt2 : k < ys.length := by have := HL.out; omega
        obtain ⟨b1, o1, x, rfl, l1, ex, c1⟩ := HA.out.at_ hlt
        obtain ⟨b2, o2, y, rfl, l2, ey, c2⟩ := HB.out.at_ hlt2
        have EX := hid ex
        have EY := hid ey
        clear ex ey
        by_cases e : x = y
        · have e' : (x != y) = false := by simpa using e
          have E := hid e
          clear e
          go_wp2_with fail
          go_quiet (fail)
          go_wp2_with fail
          go_roundw
          case rel => exact ⟨k + 1, by omega, by go_num, take_step HT.out EX.out EY.out E.out, _, rfl⟩
          case measure => simp [intOf]; omega
        · have e' : (x != y) = true := by simpa using e
          go_wp2_with fail
          go_quiet (fail)
          go_wp2_with fail
          go_ret
          rw [eqB_no EX.out EY.out e]
          exact ⟨rfl, drewN_two _ _ _⟩
      · have hke : k = xs.length := by omega
        have HK := hid hke
        clear hke
        go_wp2_with fail
        go_ret
        rw [eqB_yes HT.out HK.out HL.out]
        exact ⟨rfl, _, rfl⟩
  · rw [eqB_len hl]
    have h1 : ((xs.length : Int) != (ys.length : Int)) = true := by simp; omega
    have h2 : (xs.length != ys.length) = true := by simp; omega
    go_enter Tryz.func40, Tryz.ntmps40
    go_wp2_with fail
    go_ret
    exact ⟨rfl, 0, rfl⟩
end Go.Proofs.YtngdgbicjhlnaaaGreat
/- Lists that are the same, that rise, places of a dimension, where a number stands: by the document. -/
namespace Go.Proofs.YtngdgbicjhlnaaaGreat
open Go.RowKit
set_option maxHeartbeats 400000
set_option maxRecDepth 100000
set_option linter.unusedVariables false
theorem ris_small {l : List Int} (h : l.length ≤ 1) : risP l := by
  cases l with
  | nil => exact ris_nil
  | cons x l => cases l with
    | nil => exact ris_one x
    | cons y l => simp at h
theorem ref_rises {A : Option Addr} {c : Nat} (l : List Int) (hl : l.length ≤ 9223372036854775807) (w : World) {B : Nat} (ra : Rd (Value.int .i64) w B A l) :
    Calls Tryz.prog 81 #[.slice A l.length c] w fun e w' => e = .returned (.bool (risB l)) ∧ ∃ n, w' = w.drewN n := by
  have HA := hid ra
  have HY : Hid (risP l → risB l = true) := hid (fun h => decide_eq_true h)
  have HN : Hid (¬ risP l → risB l = false) := hid (fun h => decide_eq_false h)
  obtain ⟨R, hR⟩ : ∃ R, risB l = R := ⟨_, rfl⟩
  rw [hR] at HY HN ⊢
  clear ra hR
  go_enter Tryz.func81, Tryz.ntmps81
  go_wp2_with fail
  go_loopw [3] (fun i wr => ∃ k : Nat, 1 ≤ k ∧ (k ≤ l.length ∨ k = 1) ∧ i = .int .i64 k ∧ risP (l.take k) ∧ ∃ n, wr = w.drewN n) (fun i _ => l.length - (intOf i).toNat)
  case atStart => exact ⟨1, by omega, by omega, rfl, ris_small (by rw [List.length_take]; omega), 0, rfl⟩
  case round =>
    obtain ⟨k, hk1, hk, rfl, ht, n, rfl⟩ := hrel
    have HT := hid ht
    clear ht
    by_cases hlt : k < l.length
    · obtain ⟨j, rfl⟩ : ∃ j, k = j + 1 := ⟨k - 1, by omega⟩
      have hj : j < l.length := by omega
      obtain ⟨b1, o1, y, rfl, l1, ey, c1⟩ := HA.out.at_ hlt
      obtain ⟨b2, o2, x, e2, l2, ex, c2⟩ := HA.out.at_ hj
      injection e2 with e2
      injection e2 with e2 e3
      subst e2 e3
      have hji : ((j + 1 : Nat) : Int) - 1 = (j : Int) := by omega
      have hjc : ((j + 1 : Nat) : Int) = (j : Int) + 1 := by omega
      have hi0 : (0 : Int) ≤ (j : Int) := by omega
      have hi1 : (j : Int) < (l.length : Int) := by omega
      have EX := hid ex
      have EY := hid ey
      clear ex ey hk1 hk
      by_cases e : y ≤ x
      · have hR := HN.out (ris_no EX.out EY.out (by omega) e)
        subst hR
        go_wp2_with fail
        go_quiet (fail)
        go_wp2_with fail
        go_ret
        exact ⟨rfl, drewN_two _ _ _⟩
      · have e' : x < y := by omega
        go_wp2_with fail
        go_quiet (fail)
        go_wp2_with fail
        go_roundw
        case rel => exact ⟨j + 1 + 1, by omega, by omega, by go_num, ris_step HT.out EY.out (Or.inr ⟨EX.out, e'⟩), _, rfl⟩
        case measure => simp [intOf]; omega
    · have hR := HY.out (by have h := HT.out; rw [List.take_of_length_le (by omega)] at h; exact h)
      subst hR
      go_wp2_with fail
      go_ret
      exact ⟨rfl, _, rfl⟩
theorem ref_Check {A : Option Addr} {c : Nat} (dim : Int) (l : List Int) (hd : I64 dim) (hl : l.length ≤ 9223372036854775807) (w : World) {B : Nat} (ra : Rd (Value.int .i64) w B A l) :
    Calls Tryz.prog 62 #[.int .i64 dim, .slice A l.length c] w fun e w' => e = .returned (.int .i64 (chkE dim l)) ∧ ∃ n, w' = w.drewN n := by
  have C := hid (ref_rises (c := c) l hl w ra)
  have HY : Hid (plcP dim l → chkE dim l = 0) := hid (fun h => chk_ok.2 h)
  have HN : Hid (¬ plcP dim l → chkE dim l = 1) := hid chk_no
  obtain ⟨R, hR⟩ : ∃ R, chkE dim l = R := ⟨_, rfl⟩
  rw [hR] at HY HN ⊢
  unfold I64 at hd
  clear hR
  by_cases h1 : dim < 1
  · have hR := HN.out (fun h => by have := h.1; omega)
    subst hR
    clear HY HN C ra
    go_enter Tryz.func62, Tryz.ntmps62
    go_wp2_with fail
    go_ret
    exact ⟨rfl, 0, rfl⟩
  · by_cases h2 : 4096 < dim
    · have hR := HN.out (fun h => by have := h.2.1; omega)
      subst hR
      clear HY HN C ra
      go_enter Tryz.func62, Tryz.ntmps62
      go_wp2_with fail
      go_ret
      exact ⟨rfl, 0, rfl⟩
    · by_cases h3 : risP l
      · rw [show risB l = true from decide_eq_true h3] at C
        have HA := hid ra
        have HR := hid h3
        clear ra h3
        go_enter Tryz.func62, Tryz.ntmps62
        go_wp2_with fail
        refine C.out.mono ?_
        rintro _ _ ⟨rfl, n0, rfl⟩
        go_wp2_with fail
        go_loopw [6, 20] (fun n0 i wr => ∃ k : Nat, k ≤ l.length ∧ i = .int .i64 k ∧ (∀ n ∈ l.take k, 0 ≤ n ∧ n < dim) ∧ ∃ n, wr = w.drewN n) (fun _ i _ => l.length - (intOf i).toNat)
        case atStart => exact ⟨0, by omega, rfl, by simp, n0, rfl⟩
        case round =>
          obtain ⟨k, hk, rfl, ht, n, rfl⟩ := hrel
          have HT := hid ht
          clear ht
          by_cases hlt : k < l.length
          · obtain ⟨b1, o1, y, rfl, l1, ey, c1⟩ := HA.out.at_ hlt
            have EY := hid ey
            clear ey
            by_cases a : y < 0
            · have hR := HN.out (fun h => by have := h.2.2.2 y (List.mem_of_getElem? EY.out); omega)
              subst hR
              go_wp2_with fail
              go_ret
              exact ⟨rfl, _, rfl⟩
            · by_cases b : dim ≤ y
              · have hR := HN.out (fun h => by have := h.2.2.2 y (List.mem_of_getElem? EY.out); omega)
                subst hR
                go_wp2_with fail
                go_ret
                exact ⟨rfl, _, rfl⟩
              · have a' : 0 ≤ y := by omega
                have b' : y < dim := by omega
                go_wp2_with fail
                go_roundw
                case rel =>
                  refine ⟨k + 1, by omega, by go_num, ?_, _, rfl⟩
                  intro z hz
                  rw [take_snoc EY.out] at hz
                  rcases List.mem_append.1 hz with hz | hz
                  · exact HT.out z hz
                  · simp at hz; omega
                case measure => simp [intOf]; omega
          · have hR := HY.out ⟨by omega, by omega, HR.out, by have h := HT.out; rw [List.take_of_length_le (by omega)] at h; exact h⟩
            subst hR
            go_wp2_with fail
            go_ret
            exact ⟨rfl, _, rfl⟩
      · rw [show risB l = false from decide_eq_false h3] at C
        have hR := HN.out (fun h => h3 h.2.2.1)
        subst hR
        clear HY HN ra h3
        go_enter Tryz.func62, Tryz.ntmps62
        go_wp2_with fail
        refine C.out.mono ?_
        rintro _ _ ⟨rfl, n0, rfl⟩
        go_wp2_with fail
        go_ret
        exact ⟨rfl, _, rfl⟩
end Go.Proofs.YtngdgbicjhlnaaaGreat
/- Places written and read, by the document. -/
namespace Go.Proofs.YtngdgbicjhlnaaaGreat
open Go.RowKit
set_option maxHeartbeats 400000
set_option maxRecDepth 100000
set_option linter.unusedVariables false
/-- A call's answer: places of the call's own, where it ends, an error. -/
def OwnG (r : List Int × Int × Int) (w : World) (e : Ending) (w' : World) : Prop :=
  ∃ A c, e = .returned (.tuple #[.slice A r.1.length c, .int .i64 r.2.1, .int .i64 r.2.2]) ∧ w'.ownsRow w.heap.size 3 1 (.slice A r.1.length c) r.1.length (r.1.map (Value.int .i64)) ∧ Below w.heap.size w w'
theorem OwnG.nil {er : Int} {w w' : World} (hb : Below w.heap.size w w') : OwnG ([], 0, er) w (.returned (.tuple #[.slice none 0 0, .int .i64 0, .int .i64 er])) w' := ⟨none, 0, rfl, own_nil _ _ _, hb⟩
theorem plc_take {dim : Int} {l : List Int} (h : plcP dim l) (k : Nat) : plcP dim (l.take k) := ⟨h.1, h.2.1, ris_take h.2.2.1 k, fun n hn => h.2.2.2 n (List.mem_of_mem_take hn)⟩
/-- The codes of how many there are, and of the first ones. -/
def putK (l : List Int) (k : Nat) : List Int := encs ((l.length : Int) :: gapsF (-1) (l.take k))
theorem putK_step {l : List Int} {k : Nat} {x : Int} (h : l[k]? = some x) : putK l (k + 1) = putK l k ++ encs [x - lastI (-1) (l.take k) - 1] := by
  unfold putK
  rw [putL_step h, ← List.cons_append, encs_app]
theorem putK_len {dim : Int} {l : List Int} (h : plcP dim l) (k : Nat) : (putK l k).length ≤ 41000 := by
  have h1 := plc_le h
  have h2 := plc_le (plc_take h k)
  have hd := h.2.1
  have hu : U64s ((l.length : Int) :: gapsF (-1) (l.take k)) := by
    have hp := plc_take h k
    intro x hx
    rcases List.mem_cons.1 hx with rfl | hx
    · unfold U64; omega
    · exact gaps_u64 _ (-1) (plc_cons hp) (by omega) (fun n hn => by have := hp.2.2.2 n hn; omega) x hx
  have := encs_len hu
  unfold putK
  rw [List.length_cons, gaps_len] at this
  omega
theorem putK_all (l : List Int) : putK l l.length = encs (putL l) := by unfold putK putL; rw [List.take_length]
theorem gix_cases {dim : Int} {b : List Int} {a : Int} (h1 : 1 ≤ dim) (h2 : dim ≤ 4096) : (getE b a ≠ 0 → gixR dim b a = ([], 0, getE b a)) ∧ (getE b a = 0 → dim < getN b a → gixR dim b a = ([], 0, 6)) ∧
    (getE b a = 0 → getN b a ≤ dim → withL [] (ixL dim b (getN b a).toNat (-1) (getA b a)) = gixR dim b a) := by
  unfold gixR
  rw [if_neg (by omega)]
  refine ⟨fun h => if_pos h, fun h h3 => ?_, fun h h3 => ?_⟩
  · have h' : ¬ getE b a ≠ 0 := fun hn => hn h
    rw [if_neg h', if_pos h3]
  · have h' : ¬ getE b a ≠ 0 := fun hn => hn h
    rw [if_neg h', if_neg (by omega)]
    exact withL_nil (ixL_bad dim b _ _ _)
theorem ref_GetIx {A : Option Addr} {c : Nat} (dim : Int) (b : List Int) (hd : I64 dim) (hb : b.length ≤ c) (hc : c ≤ 9223372036854775807) (ub : U8s b) (a : Int) (ha : I64 a) (w : World) (ra : Rd (Value.int .u8) w w.heap.size A b) :
    Calls Tryz.prog 32 #[.int .i64 dim, .slice A b.length c, .int .i64 a] w (OwnG (gixR dim b a) w) := by
  unfold I64 at hd
  by_cases h1 : dim < 1
  · have e : gixR dim b a = ([], 0, 1) := if_pos (Or.inl h1)
    rw [e]
    clear e ra ub
    go_enter Tryz.func32, Tryz.ntmps32
    go_wp2_with fail
    go_ret3
    exact OwnG.nil (Below.refl _ _)
  · by_cases h2 : 4096 < dim
    · have e : gixR dim b a = ([], 0, 1) := if_pos (Or.inr h2)
      rw [e]
      clear e ra ub
      go_enter Tryz.func32, Tryz.ntmps32
      go_wp2_with fail
      go_ret3
      exact OwnG.nil (Below.refl _ _)
    · have h1' : 1 ≤ dim := by omega
      have h2' : dim ≤ 4096 := by omega
      have CG := hid (ref_Get (A := A) (c := c) b hb hc ub a ha w ra)
      have HOK := hid (fun h => (get_ok (b := b) (a := a) ub h).2.1)
      have HX := hid (fun h => getA_i64 (b := b) (a := a) (c := c) ub hb hc h)
      have HM := hid (gix_cases (b := b) (a := a) h1' h2')
      obtain ⟨r, hr⟩ : ∃ r, gixR dim b a = r := ⟨_, rfl⟩
      obtain ⟨N, hN⟩ : ∃ N, getN b a = N := ⟨_, rfl⟩
      obtain ⟨E, hE⟩ : ∃ N, getE b a = N := ⟨_, rfl⟩
      obtain ⟨X, hX⟩ : ∃ N, getA b a = N := ⟨_, rfl⟩
      rw [hr, hN, hE, hX] at HM
      rw [hN, hE, hX] at CG
      rw [hE, hX] at HX
      rw [hN, hE] at HOK
      rw [hr]
      have HA := hid ra
      have HU := hid ub
      clear hr hN hE hX ra ub h1 h2
      by_cases her : E = 0
      · have hNu := HOK.out her
        have hXi := HX.out her
        unfold U64 at hNu
        by_cases hdim : dim < N
        · have HR := hid (HM.out.2.1 her hdim)
          subst her
          clear HM HOK HX
          go_enter Tryz.func32, Tryz.ntmps32
          go_wp2_with fail
          refine CG.out.mono ?_
          rintro _ _ ⟨rfl, rfl⟩
          go_wp2_with fail
          go_ret3
          rw [HR.out]
          exact OwnG.nil (Below.refl _ _)
        · have HR := hid (HM.out.2.2 her (by omega))
          subst her
          obtain ⟨M, rfl⟩ := Int.eq_ofNat_of_zero_le hNu.1
          rw [Int.toNat_natCast] at HR
          have hMd : (M : Int) ≤ dim := by omega
          clear HM HOK HX hNu hdim
          go_enter Tryz.func32, Tryz.ntmps32
          go_wp2_with fail
          refine CG.out.mono ?_
          rintro _ _ ⟨rfl, rfl⟩
          go_wp2_with fail
          go_loopw [2, 11, 12, 37] (fun p t q i wr => ∃ (k : Nat) (x y : Int) (O : List Int) (A2 : Option Addr) (c2 : Nat), k ≤ M ∧ i = .int .u64 k ∧ p = .int .i64 x ∧ I64 x ∧ q = .int .i64 y ∧ -1 ≤ y ∧ y < dim ∧ t = .slice A2 O.length c2 ∧ O.length = k ∧ withL O (ixL dim b (M - k) y x) = r ∧ wr.ownsRow w.heap.size 3 1 (.slice A2 O.length c2) O.length (O.map (Value.int .i64)) ∧ Below w.heap.size w wr) (fun _ _ _ i _ => M - (intOf i).toNat)
          case atStart => exact ⟨0, X, -1, [], none, 0, by omega, rfl, rfl, hXi, rfl, by omega, by omega, rfl, rfl, HR.out, own_nil _ _ _, Below.refl _ _⟩
          case round =>
            obtain ⟨k, x, y, O, A2, c2, hk, rfl, rfl, hx, rfl, hy0, hy1, rfl, hOk, hs, ho, hbel⟩ := hrel
            have hOl : O.length ≤ 4096 := by omega
            have HS := hid hs
            have HO := hid ho
            have HK := hid hOk
            clear hs ho hOk HR
            by_cases hlt : k < M
            · have CG2 := hid (fun W h => ref_Get (A := A) (c := c) b hb hc HU.out x hx W (B := w.heap.size) h)
              have HX2 := hid (fun h => getA_i64 (b := b) (a := x) (c := c) HU.out hb hc h)
              have HOK2 := hid (fun h => (get_ok (b := b) (a := x) HU.out h).2.1)
              have HM2 : Hid ((getE b x ≠ 0 → r = ([], 0, getE b x)) ∧ (getE b x = 0 → dim - y - 1 ≤ getN b x → r = ([], 0, 6)) ∧ (getE b x = 0 → getN b x < dim - y - 1 → withL (O ++ [y + getN b x + 1]) (ixL dim b (M - (k + 1)) (y + getN b x + 1) (getA b x)) = r)) := by
                have h := HS.out
                rw [show M - k = (M - (k + 1)) + 1 by omega] at h
                exact ⟨fun e => by rw [← h]; exact withL_err e, fun e1 e2 => by rw [← h]; exact withL_form e1 e2, fun e1 e2 => by rw [← h]; exact (withL_step e1 e2).symm⟩
              obtain ⟨N, hN⟩ : ∃ N, getN b x = N := ⟨_, rfl⟩
              obtain ⟨E, hE⟩ : ∃ N, getE b x = N := ⟨_, rfl⟩
              obtain ⟨X2, hX⟩ : ∃ N, getA b x = N := ⟨_, rfl⟩
              rw [hN, hE, hX] at HM2 CG2
              rw [hE, hX] at HX2
              rw [hN, hE] at HOK2
              clear hN hE hX
              have hr2 := HA.out.below hbel
              go_wp2_with fail
              refine (CG2.out _ hr2).mono ?_
              rintro _ _ ⟨rfl, rfl⟩
              clear hr2
              by_cases her : E = 0
              · have hX2 := HX2.out her
                have hN2 := HOK2.out her
                unfold U64 at hN2
                by_cases hbig : dim - y - 1 ≤ N
                · have HR2 := hid (HM2.out.2.1 her hbig)
                  subst her
                  go_wp2_with fail
                  go_ret3
                  rw [HR2.out]
                  exact OwnG.nil hbel
                · have HR2 := hid (HM2.out.2.2 her (by omega))
                  subst her
                  have hsm : N < dim - y - 1 := by omega
                  obtain ⟨z, hz⟩ : ∃ z, y + N + 1 = z := ⟨_, rfl⟩
                  rw [hz] at HR2
                  have hz2 : y + (N + 1) = z := by omega
                  have hzb : 0 ≤ z ∧ z < dim := by omega
                  have hr0 : Rd (Value.int .i64) (wr.alloc (.cells #[.int .i64 z] 3)) _ (some ⟨wr.heap.size, 0, none⟩) [z] := rd_one (one_cell wr (.int .i64 z) 3).1
                  have h0' := own_on HO.out ((Below.refl wr.heap.size wr).alloc (Nat.le_refl _) (.cells #[.int .i64 z] 3))
                  clear hbig hz
                  go_wp2_with (at_builtin; refine wpList_app (Value.int .i64) (fun _ => rfl) _ rfl _ _ 24 rfl w.heap.size 3 (.int .i64 0) 8 Tryz.underlying24 info_int rfl O _ _ rfl h0' [z] _ 1 _ rfl hr0 (by simp [maxLen]; omega) (by simp; omega) (by have := hbel.size; simp; omega) ?_)
                  rintro O' A' c' w1 hO' ho hb1 _
                  have HO'' := hid hO'
                  have HO' := hid ho
                  clear hO' ho h0' hr0
                  go_wp2_with fail
                  go_roundw
                  case rel =>
                    refine ⟨k + 1, X2, z, O', A', c', by omega, by go_num, rfl, hX2, rfl, by omega, hzb.2, rfl, ?_, ?_, HO'.out, (hbel.alloc hbel.size _).trans hb1⟩
                    · rw [HO''.out, List.length_append, HK.out]; rfl
                    · rw [HO''.out]; exact HR2.out
                  case measure => simp [intOf]; omega
              · have hne : (E != 0) = true := by simpa using her
                have HR2 := hid (HM2.out.1 her)
                go_wp2_with fail
                go_ret3
                rw [HR2.out]
                exact OwnG.nil hbel
            · obtain rfl : k = M := by omega
              have HR2 : Hid (r = (O, x, 0)) := by
                have h := HS.out
                rw [Nat.sub_self, withL_end] at h
                exact h.symm
              go_wp2_with fail
              go_ret3
              rw [HR2.out]
              exact ⟨A2, c2, rfl, HO.out, hbel⟩
      · have hne : (E != 0) = true := by simpa using her
        have HR := hid (HM.out.1 her)
        clear HM HOK HX
        go_enter Tryz.func32, Tryz.ntmps32
        go_wp2_with fail
        refine CG.out.mono ?_
        rintro _ _ ⟨rfl, rfl⟩
        go_wp2_with fail
        go_ret3
        rw [HR.out]
        exact OwnG.nil (Below.refl _ _)
end Go.Proofs.YtngdgbicjhlnaaaGreat
/- Numbers spread and gathered, other places, lists together, by the document. -/
namespace Go.Proofs.YtngdgbicjhlnaaaGreat
open Go.RowKit
set_option maxHeartbeats 400000
set_option maxRecDepth 100000
set_option linter.unusedVariables false
theorem sp_map {k : Nat} {l v : List Int} : (upI k).map (spF l v) = (List.range k).map fun j : Nat => spF l v (j : Int) := by
  unfold upI
  rw [List.map_map]
  rfl
/-- The numbers ahead of some place of lists. -/
def upto (ls : List (List Int)) (i j : Nat) : List Int := (ls.take i).flatten ++ (ls.getD i []).take j
theorem upto_next {ls : List (List Int)} {i : Nat} {x : List Int} (h : ls[i]? = some x) : upto ls i x.length = upto ls (i + 1) 0 := by
  unfold upto
  rw [List.take_add_one, h, List.getD_eq_getElem?_getD, h, Option.getD_some, List.take_length, List.flatten_append, List.take_zero, List.append_nil]
  simp
theorem upto_step {ls : List (List Int)} {i j : Nat} {x : List Int} {n : Int} (h : ls[i]? = some x) (hj : x[j]? = some n) : upto ls i (j + 1) = upto ls i j ++ [n] := by
  unfold upto
  rw [List.getD_eq_getElem?_getD, h, Option.getD_some, take_snoc hj, List.append_assoc]
theorem upto_end (ls : List (List Int)) {i : Nat} (h : ls.length ≤ i) : upto ls i 0 = ls.flatten := by
  unfold upto
  rw [List.take_of_length_le h, List.take_zero, List.append_nil]
theorem upto_len {ls : List (List Int)} {i j : Nat} : (upto ls i j).length ≤ ls.flatten.length := by
  unfold upto
  conv => rhs; rw [← List.take_append_drop i ls, List.flatten_append]
  rw [List.length_append, List.length_append]
  have : ((ls.getD i []).take j).length ≤ (ls.drop i).flatten.length := by
    by_cases hi : i < ls.length
    · rw [List.drop_eq_getElem_cons hi, List.flatten_cons, List.length_append, List.getD_eq_getElem?_getD, List.getElem?_eq_getElem hi, Option.getD_some, List.length_take]
      omega
    · rw [List.getD_eq_getElem?_getD, List.getElem?_eq_none (by omega)]
      simp
  omega
theorem ins_len (out : List Int) (n : Int) : (insI out n).length ≤ out.length + 1 := by
  unfold insI
  split
  · omega
  · rw [List.length_append, List.length_append]
    have h : (out.filter fun m => decide (m < n)).length + (out.filter fun m => decide (n < m)).length ≤ out.length := by
      have h1 := filter_both (fun m => decide (m < n)) out
      have h2 : (out.filter fun m => decide (n < m)).length ≤ (out.filter fun x => !decide (x < n)).length := by
        rw [← List.countP_eq_length_filter, ← List.countP_eq_length_filter]
        exact List.countP_mono_left fun x _ hx => by simp at hx ⊢; omega
      omega
    simp
    omega
theorem mrgF_len : ∀ (l out : List Int), (mrgF out l).length ≤ out.length + l.length
  | [], out => by simp [mrgF]
  | n :: l, out => by
    have h1 := mrgF_len l (insI out n)
    have h2 := ins_len out n
    show (mrgF (insI out n) l).length ≤ _
    rw [List.length_cons]
    omega
theorem filter_snoc {l : List Int} {k : Nat} {x : Int} (h : l[k]? = some x) (p : Int → Bool) : (l.take (k + 1)).filter p = (l.take k).filter p ++ if p x = true then [x] else [] := by
  rw [take_snoc h, List.filter_append]
  congr 1
  cases hp : p x <;> simp [hp]
end Go.Proofs.YtngdgbicjhlnaaaGreat
/- What is told the same; lists just laid. -/
namespace Go.Proofs.YtngdgbicjhlnaaaGreat
open Go.RowKit
set_option maxHeartbeats 400000
set_option maxRecDepth 100000
set_option linter.unusedVariables false
/-- Places told, where they end, an error, named one by one. -/
def OwnX (xs : List Int) (a er : Int) (w : World) (e : Ending) (w' : World) : Prop :=
  ∃ A c, e = .returned (.tuple #[.slice A xs.length c, .int .i64 a, .int .i64 er]) ∧ w'.ownsRow w.heap.size 3 1 (.slice A xs.length c) xs.length (xs.map (Value.int .i64)) ∧ Below w.heap.size w w'
theorem put_live : pixV 9 [1, 2, 5] = [3, 1, 0, 2] ∧ chkE 9 [1, 2, 5] = 0 := by
  have h : chkE 9 [1, 2, 5] = 0 := by decide
  refine ⟨?_, h⟩
  unfold pixV
  rw [if_pos h]
  show encs [3, 1, 0, 2] = _
  simp [encs, lebI_last]
theorem get_live : gixR 9 [3, 1, 0, 2] 0 = ([1, 2, 5], 4, 0) := by decide
theorem rd_three (w : World) (t : TypeId) (a b c : Int) : Rd (Value.int .i64) (w.alloc (.cells #[.int .i64 a, .int .i64 b, .int .i64 c] t)) (w.alloc (.cells #[.int .i64 a, .int .i64 b, .int .i64 c] t)).heap.size (some ⟨w.heap.size, 0, none⟩) [a, b, c] := rd_new w t [a, b, c]
theorem rd_four8 (w : World) (t : TypeId) (a b c d : Int) : Rd (Value.int .u8) (w.alloc (.cells #[.int .u8 a, .int .u8 b, .int .u8 c, .int .u8 d] t)) (w.alloc (.cells #[.int .u8 a, .int .u8 b, .int .u8 c, .int .u8 d] t)).heap.size (some ⟨w.heap.size, 0, none⟩) [a, b, c, d] := rd_new w t [a, b, c, d]
/-- Equal lists are found so. -/
theorem equal_yes {X : List Int} (hx : X.length ≤ 9223372036854775807) {A B : Option Addr} {c d : Nat} (W : World) {L M : Nat} (h1 : Rd (Value.int .i64) W L A X) (h2 : Rd (Value.int .i64) W M B X) :
    Calls Tryz.prog 40 #[.slice A X.length c, .slice B X.length d] W fun e w' => e = .returned (.bool true) ∧ Below W.heap.size W w' := by
  have h := ref_Equal (A := A) (B := B) (c := c) (d := d) X X hx hx W h1 h2
  rw [eqB_self] at h
  exact h.mono fun _ _ ⟨h1, n, h2⟩ => ⟨h1, by rw [h2]; exact belowN _ _ _⟩
theorem ref_CheckB {A : Option Addr} {c : Nat} (dim : Int) (l : List Int) (hd : I64 dim) (hl : l.length ≤ 100000) (w : World) (ra : Rd (Value.int .i64) w w.heap.size A l) :
    Calls Tryz.prog 62 #[.int .i64 dim, .slice A l.length c] w fun e w' => e = .returned (.int .i64 (chkE dim l)) ∧ Below w.heap.size w w' :=
  (ref_Check dim l hd (by omega) w ra).mono fun _ _ ⟨h, n, e⟩ => ⟨h, by rw [e]; exact belowN _ _ _⟩
theorem grow (w : World) (o : Obj) : Below w.heap.size w (w.alloc o) := (Below.refl _ _).alloc (Nat.le_refl _) _
theorem ref_Same64 {A B : Option Addr} {c d : Nat} (xs ys : List Int) (hx : xs.length ≤ 9223372036854775807) (hy : ys.length ≤ 9223372036854775807) (w : World) {L M : Nat}
    (ra : Rd (Value.int .i64) w L A xs) (rb : Rd (Value.int .i64) w M B ys) :
    Calls Tryz.prog 41 #[.slice A xs.length c, .slice B ys.length d] w fun e w' => e = .returned (.bool (eqB xs ys)) ∧ ∃ n, w' = w.drewN n := by
  by_cases hl : xs.length = ys.length
  · have HA := hid ra
    have HB := hid rb
    clear ra rb
    have h1 : ((xs.length : Int) != (ys.length : Int)) = false := by simp; omega
    have h2 : (xs.length != ys.length) = false := by simp; omega
    have HL := hid hl
    clear hl
    go_enter Tryz.func41, Tryz.ntmps41
    go_wp2_with fail
    clear h1 h2
    go_loopw [13] (fun i wr => ∃ k : Nat, k ≤ xs.length ∧ i = .int .i64 k ∧ xs.take k = ys.take k ∧ ∃ n, wr = w.drewN n) (fun i _ => xs.length - (intOf i).toNat)
    case atStart => exact ⟨0, by omega, rfl, rfl, 0, rfl⟩
    case round =>
      obtain ⟨k, hk, rfl, ht, n, rfl⟩ := hrel
      have HT := hid ht
      clear ht
      by_cases hlt : k < xs.length
      · have hlt2 : k < ys.length := by have := HL.out; omega
        obtain ⟨b1, o1, x, rfl, l1, ex, c1⟩ := HA.out.at_ hlt
        obtain ⟨b2, o2, y, rfl, l2, ey, c2⟩ := HB.out.at_ hlt2
        have EX := hid ex
        have EY := hid ey
        clear ex ey
        by_cases e : x = y
        · have e' : (x != y) = false := by simpa using e
          have E := hid e
          clear e
          go_wp2_with fail
          go_quiet (fail)
          go_wp2_with fail
          go_roundw
          case rel => exact ⟨k + 1, by omega, by go_num, take_step HT.out EX.out EY.out E.out, _, rfl⟩
          case measure => simp [intOf]; omega
        · have e' : (x != y) = true := by simpa using e
          go_wp2_with fail
          go_quiet (fail)
          go_wp2_with fail
          go_ret
          rw [eqB_no EX.out EY.out e]
          exact ⟨rfl, drewN_two _ _ _⟩
      · have hke : k = xs.length := by omega
        have HK := hid hke
        clear hke
        go_wp2_with fail
        go_ret
        rw [eqB_yes HT.out HK.out HL.out]
        exact ⟨rfl, _, rfl⟩
  · rw [eqB_len hl]
    have h1 : ((xs.length : Int) != (ys.length : Int)) = true := by simp; omega
    have h2 : (xs.length != ys.length) = true := by simp; omega
    go_enter Tryz.func41, Tryz.ntmps41
    go_wp2_with fail
    go_ret
    exact ⟨rfl, 0, rfl⟩
theorem same64_yes {X : List Int} (hx : X.length ≤ 9223372036854775807) {A B : Option Addr} {c d : Nat} (W : World) (h1 : Rd (Value.int .i64) W W.heap.size A X) (h2 : Rd (Value.int .i64) W W.heap.size B X) :
    Calls Tryz.prog 41 #[.slice A X.length c, .slice B X.length d] W fun e w' => e = .returned (.bool true) ∧ Below W.heap.size W w' := by
  have h := ref_Same64 (A := A) (B := B) (c := c) (d := d) X X hx hx W h1 h2
  rw [eqB_self] at h
  exact h.mono fun _ _ ⟨h1, n, h2⟩ => ⟨h1, by rw [h2]; exact belowN _ _ _⟩
end Go.Proofs.YtngdgbicjhlnaaaGreat
/- Widths, bytes, whether numbers may be packed; bits put into bytes, by the document. -/
namespace Go.Proofs.YtngdgbicjhlnaaaGreat
open Go.RowKit
set_option maxHeartbeats 400000
set_option maxRecDepth 100000
set_option linter.unusedVariables false
theorem info_bool : (Tryz.prog.info? 4).map (fun i => (i.zero, i.size, i.bytes)) = some (some (.bool false), 1, 1) := by kernel_rfl
theorem wdt_zero : wdt 0 = 0 := by decide
theorem wdt_half {n : Int} (h0 : 0 < n) (h : n ≤ 18446744073709551615) : wdt n = 1 + wdt (n / 2) := by
  unfold wdt
  rw [Lib.bitLen_half n.toNat (by omega) (by omega)]
  congr 2
  omega
theorem wdt_64 {n : Int} (hn : U64 n) : wdt n ≤ 64 := by
  rw [wdt_le hn (by omega)]
  unfold U64 at hn
  have : (2 : Int) ^ 64 = 18446744073709551616 := by decide
  omega
theorem ref_Width (n : Int) (hn : U64 n) (w : World) :
    Calls Tryz.prog 63 #[.int .u64 n] w fun e w' => e = .returned (.int .i64 (wdt n : Int)) ∧ w = w' := by
  have hle := wdt_64 hn
  obtain ⟨R, hR⟩ : ∃ R, wdt n = R := ⟨_, rfl⟩
  rw [hR] at hle ⊢
  have HR := hid hR
  unfold U64 at hn
  clear hR
  go_enter Tryz.func63, Tryz.ntmps63
  go_wp2_with fail
  go_loop [0, 3] (fun m s => ∃ (x : Int) (k : Nat), 0 ≤ x ∧ x ≤ 18446744073709551615 ∧ m = .int .u64 x ∧ s = .int .i64 k ∧ k + wdt x = R) (fun m _ => (intOf m).toNat)
  case atStart => exact ⟨n, 0, hn.1, hn.2, rfl, rfl, by rw [HR.out]; omega⟩
  case round =>
    obtain ⟨x, k, h0, h1, rfl, rfl, hs⟩ := hrel
    have hk : k ≤ 64 := by omega
    have HS := hid hs
    clear hs
    by_cases hlt : 0 < x
    · have HN : Hid (k + 1 + wdt (x / 2) = R) := hid (by have h := HS.out; rw [wdt_half hlt h1] at h; omega)
      go_wp2_with fail
      go_round
      case rel => exact ⟨x / 2, k + 1, by omega, by omega, rfl, by go_num, HN.out⟩
      case measure => simp [intOf]; omega
    · obtain rfl : x = 0 := by omega
      have HN : Hid (k = R) := hid (by have h := HS.out; rw [wdt_zero] at h; omega)
      go_wp2_with fail
      go_ret
      rw [HN.out]
      exact ⟨rfl, rfl⟩
theorem ref_Bytes (wd many : Int) (hw : I64 wd) (hm : I64 many) (w : World) :
    Calls Tryz.prog 80 #[.int .i64 wd, .int .i64 many] w fun e w' => e = .returned (.tuple #[.int .i64 (bysV wd many), .int .i64 (bysE wd many)]) ∧ w = w' := by
  unfold I64 at hw hm
  unfold bysV bysE
  by_cases h1 : wd < 0 ∨ 32 < wd ∨ many < 0
  · rw [if_pos h1, if_neg (by decide)]
    by_cases a : wd < 0
    · clear h1
      go_enter Tryz.func80, Tryz.ntmps80
      go_wp2_with fail
      go_ret2
      exact ⟨rfl, rfl⟩
    · by_cases b : 32 < wd
      · clear h1
        go_enter Tryz.func80, Tryz.ntmps80
        go_wp2_with fail
        go_ret2
        exact ⟨rfl, rfl⟩
      · have c : many < 0 := by omega
        clear h1
        go_enter Tryz.func80, Tryz.ntmps80
        go_wp2_with fail
        go_ret2
        exact ⟨rfl, rfl⟩
  · rw [if_neg h1]
    have a : 0 ≤ wd := by omega
    have b : wd ≤ 32 := by omega
    have c : 0 ≤ many := by omega
    by_cases h2 : 4096 < many
    · rw [if_pos h2, if_neg (by decide)]
      clear h1
      go_enter Tryz.func80, Tryz.ntmps80
      go_wp2_with fail
      go_ret2
      exact ⟨rfl, rfl⟩
    · rw [if_neg h2, if_pos rfl]
      have hp : 0 ≤ wd * many ∧ wd * many ≤ 131072 := by
        have h3 := Int.mul_nonneg a c
        have h4 := Int.mul_le_mul b (show many ≤ 4096 by omega) c (by decide)
        omega
      obtain ⟨q, hq⟩ : ∃ q, wd * many = q := ⟨_, rfl⟩
      rw [hq] at hp ⊢
      clear h1
      go_enter Tryz.func80, Tryz.ntmps80
      go_wp2_with fail
      go_ret2
      exact ⟨rfl, rfl⟩
theorem fits_take {wd : Int} {l : List Int} : fitsB wd l = true → ∀ k, fitsB wd (l.take k) = true := fun h k => by
  unfold fitsB at *
  rw [List.all_eq_true] at *
  exact fun n hn => h n (List.mem_of_mem_take hn)
theorem fits_no {wd : Int} {l : List Int} {k : Nat} {x : Int} (hx : l[k]? = some x) (h : wd < (wdt x : Int)) : fitsB wd l = false := by
  cases hb : fitsB wd l with
  | false => rfl
  | true =>
    unfold fitsB at hb
    rw [List.all_eq_true] at hb
    have := of_decide_eq_true (hb x (List.mem_of_getElem? hx))
    omega
theorem fits_step {wd : Int} {l : List Int} {k : Nat} {x : Int} (hx : l[k]? = some x) (h : (wdt x : Int) ≤ wd) (ht : fitsB wd (l.take k) = true) : fitsB wd (l.take (k + 1)) = true := by
  unfold fitsB at *
  rw [List.take_add_one, hx, List.all_append, ht]
  simpa using h
end Go.Proofs.YtngdgbicjhlnaaaGreat
/- Bits put into bytes; numbers packed, woven, signs, by the document. -/
namespace Go.Proofs.YtngdgbicjhlnaaaGreat
open Go.RowKit
set_option maxHeartbeats 400000
set_option maxRecDepth 100000
set_option linter.unusedVariables false
theorem byF_zero (f : Nat → Bool) (i : Nat) : byF 0 f i = 0 := by
  unfold byF
  simp [bv_not]
theorem beq_bt {x : Int} (h0 : 0 ≤ x) (q : Nat) : ((x / 2 ^ q).tmod 2 == 1) = bt x q := by
  rw [Int.tmod_eq_emod_of_nonneg (Int.ediv_nonneg h0 (Int.pow_nonneg (by decide)))]
  unfold bt
  by_cases h : x / 2 ^ q % 2 = 1 <;> simp [h]
end Go.Proofs.YtngdgbicjhlnaaaGreat
/- Numbers woven, by the document. -/
namespace Go.Proofs.YtngdgbicjhlnaaaGreat
open Go.RowKit
set_option maxHeartbeats 400000
set_option maxRecDepth 100000
set_option linter.unusedVariables false
end Go.Proofs.YtngdgbicjhlnaaaGreat
/- Bytes read as bits, by the document. -/
namespace Go.Proofs.YtngdgbicjhlnaaaGreat
open Go.RowKit
set_option maxHeartbeats 400000
set_option maxRecDepth 100000
set_option linter.unusedVariables false
/-- A call's answer: a list that reads so, and an error; nothing that was there has turned. -/
def RdE {α : Type} (enc : α → Value) (xs : List α) (er : Int) (w : World) (e : Ending) (w' : World) : Prop :=
  ∃ A c, e = .returned (.tuple #[.slice A xs.length c, .int .i64 er]) ∧ xs.length ≤ c ∧ c ≤ 9223372036854775807 ∧ Rd enc w' w'.heap.size A xs ∧ Below w.heap.size w w'
theorem RdE.nil {α : Type} {enc : α → Value} {er : Int} {w w' : World} (hb : Below w.heap.size w w') : RdE enc ([] : List α) er w (.returned (.tuple #[.slice none 0 0, .int .i64 er])) w' := ⟨none, 0, rfl, by simp, by omega, Rd.none_, hb⟩
theorem beq_bt8 {x : Int} (h0 : 0 ≤ x) (q : Nat) : ((x / 2 ^ q).tmod 2 == 1) = bt x q := beq_bt h0 q
theorem fB_at {b : List Int} {i j q : Nat} {x : Int} (hx : b[i]? = some x) (h : q + j + 1 = 8) : fB b (8 * i + j) = bt x q := by
  unfold fB
  rw [show (8 * i + j) / 8 = i by omega, show (8 * i + j) % 8 = j by omega, getD_of hx, show 7 - j = q by omega]
theorem ref_bits {A : Option Addr} {c : Nat} (wd many : Int) (b : List Int) (hw : I64 wd) (hm : I64 many) (hl : b.length ≤ 100000) (ub : U8s b) (w : World) (ra : Rd (Value.int .u8) w w.heap.size A b) :
    Calls Tryz.prog 61 #[.int .i64 wd, .int .i64 many, .slice A b.length c] w (RdE Value.bool (bitV wd many b) (bitE wd many b) w) := by
  have CB := hid (ref_Bytes wd many hw hm)
  by_cases h : bysE wd many = 0
  · have hwm := bys_ok h
    obtain ⟨k, rfl⟩ := Int.eq_ofNat_of_zero_le hwm.1.1
    obtain ⟨m, rfl⟩ := Int.eq_ofNat_of_zero_le hwm.2.1
    have hbv := bys_nat h
    by_cases hlen : (b.length : Int) = bysV k m
    · have HXE : Hid ((tlB (k * m) b = true → bitE k m b = 0 ∧ bitV k m b = mkB (k * m) (fB b)) ∧ (tlB (k * m) b = false → bitE k m b = 6 ∧ bitV k m b = [])) := hid (by
        have e : bitE k m b = if tlB (k * m) b = true then 0 else 6 := by
          unfold bitE
          rw [if_pos h, if_pos hlen, Int.toNat_natCast, Int.toNat_natCast]
        constructor
        · intro ht
          rw [ht] at e
          refine ⟨e, ?_⟩
          unfold bitV
          rw [e, Int.toNat_natCast, Int.toNat_natCast]
          rfl
        · intro ht
          rw [ht] at e
          refine ⟨e, ?_⟩
          unfold bitV
          rw [e]
          rfl)
      obtain ⟨V, hV⟩ : ∃ V, bitV k m b = V := ⟨_, rfl⟩
      obtain ⟨E, hE⟩ : ∃ E, bitE k m b = E := ⟨_, rfl⟩
      rw [hV, hE] at HXE ⊢
      rw [h] at CB
      rw [← hlen] at CB
      have hkm : (k : Int) * (m : Int) = ((k * m : Nat) : Int) := by rw [Int.natCast_mul]
      obtain ⟨N, hN⟩ : ∃ N, k * m = N := ⟨_, rfl⟩
      rw [hN] at hkm HXE hbv
      have hN8 : N ≤ 8 * b.length := by omega
      have HF : Hid (∀ i x q j, b[i]? = some x → q + j + 1 = 8 → ((x / 2 ^ q).tmod 2 == 1) = fB b (8 * i + j)) := hid (fun i x q j hx hq => by
        rw [fB_at hx hq, beq_bt (ub.at_ hx).1])
      have HT := hid (tlB_iff N b)
      obtain ⟨f, hf⟩ : ∃ f, fB b = f := ⟨_, rfl⟩
      rw [hf] at HF HT HXE
      have RA := hid ra
      obtain ⟨n, hn⟩ : ∃ n, b.length = n := ⟨_, rfl⟩
      have HN := hid hn
      rw [hn] at CB hl hN8 HT ⊢
      clear h hV hE hbv hN hf ra ub hn hw hm hwm hlen
      go_enter Tryz.func61, Tryz.ntmps61
      go_wp2_with fail
      refine (CB.out _).mono ?_
      rintro _ _ ⟨rfl, rfl⟩
      go_wp2_with fail
      go_loopw [10, 12, 13, 31] (fun t x0 k0 i wr => ∃ (m : Nat) (S : List Bool) (A2 : Option Addr) (c2 : Nat), m ≤ n ∧ i = .int .i64 m ∧ t = .slice A2 S.length c2 ∧ S = mkB (8 * m) f ∧ wr.ownsRow w.heap.size 4 1 (.slice A2 S.length c2) S.length (S.map Value.bool) ∧ Below w.heap.size w wr) (fun _ _ _ i _ => n - (intOf i).toNat)
      case atStart => exact ⟨0, [], none, 0, by omega, rfl, rfl, rfl, own_nil _ _ _, Below.refl _ _⟩
      case round =>
        obtain ⟨m, S, A2, c2, hm, rfl, rfl, hS, ho, hbel⟩ := hrel
        have HS := hid hS
        have HO := hid ho
        clear hS ho
        by_cases hlt : m < n
        · obtain ⟨b1, o1, x, rfl, l1, ex, c1⟩ := (RA.out.below hbel).at_ (k := m) (by rw [HN.out]; exact hlt)
          have HX := hid (fun q j => HF.out m x q j ex)
          clear ex
          go_wp2_with fail
          go_loopw [10, 13] (fun t s wr => ∃ (j : Nat) (u : Int) (S : List Bool) (A2 : Option Addr) (c2 : Nat), -1 ≤ u ∧ s = .int .i64 u ∧ u + j + 1 = 8 ∧ t = .slice A2 S.length c2 ∧ S = mkB (8 * m + j) f ∧ wr.ownsRow w.heap.size 4 1 (.slice A2 S.length c2) S.length (S.map Value.bool) ∧ Below w.heap.size w wr) (fun _ s _ => (intOf s + 1).toNat)
          case atStart => exact ⟨0, 7, S, A2, c2, by omega, rfl, by omega, rfl, HS.out, HO.out, hbel⟩
          case round =>
            obtain ⟨j, u, S, A2, c2, hu, rfl, huj, rfl, hS, ho, hbel⟩ := hrel
            clear HS HO
            have hSl : S.length ≤ 900000 := by rw [hS, mkB_len]; omega
            have HS := hid hS
            have HO := hid ho
            clear hS ho
            by_cases hu0 : 0 ≤ u
            · obtain ⟨q, rfl⟩ := Int.eq_ofNat_of_zero_le hu0
              have e1 := HX.out q j (by omega)
              obtain ⟨v, hv⟩ : ∃ v, f (8 * m + j) = v := ⟨_, rfl⟩
              rw [hv] at e1
              have HV := hid hv
              have hq64 : q ≤ 7 := by omega
              have hr0 : Rd Value.bool (wr.alloc (.cells #[.bool v] 4)) _ (some ⟨wr.heap.size, 0, none⟩) [v] := rd_one (one_cell wr (.bool v) 4).1
              have h0' := own_on HO.out ((Below.refl wr.heap.size wr).alloc (Nat.le_refl _) (.cells #[.bool v] 4))
              clear hv
              go_wp2_with (at_builtin; refine wpList_app Value.bool (fun _ => rfl) _ rfl _ _ 27 rfl w.heap.size 4 (.bool false) 1 Tryz.underlying27 info_bool rfl S _ _ rfl h0' [v] _ 1 _ rfl hr0 (by simp [maxLen]; omega) (by simp; omega) (by have := hbel.size; simp; omega) ?_)
              rintro S' A' c' w4 hS' ho hb4 _
              have HS' := hid hS'
              have HO' := hid ho
              clear hS' ho h0' hr0
              go_wp2_with fail
              go_roundw
              case rel => exact ⟨j + 1, (q : Int) - 1, S', A', c', by omega, by go_num, by omega, rfl, by rw [HS'.out, HS.out, ← HV.out, ← Nat.add_assoc, mkB_succ], HO'.out, (hbel.alloc hbel.size _).trans hb4⟩
              case measure => first | (simp [intOf]; done) | (simp [intOf]; omega)
            · obtain rfl : u = -1 := by omega
              obtain rfl : j = 8 := by omega
              have HS2 : Hid (S = mkB (8 * (m + 1)) f) := hid (by rw [Nat.mul_add]; exact HS.out)
              go_wp2_with fail
              go_roundw
              case rel => exact ⟨m + 1, S, A2, c2, by omega, by go_num, rfl, HS2.out, HO.out, hbel⟩
              case measure => simp [intOf]; omega
        · obtain rfl : m = n := by omega
          have hcap := own_cap HO.out
          have hr := own_rd HO.out
          have hSl : S.length = 8 * m := by rw [HS.out, mkB_len]
          have hs1 := fun W => run_from (P := Tryz.prog) 27 Tryz.underlying27 Tryz.sizeOf4 A2 S.length c2 N (by omega) hcap.1 W
          have hs2 := fun W => run_upto (P := Tryz.prog) 27 Tryz.underlying27 Tryz.sizeOf4 A2 S.length c2 N (by omega) W
          have rT := hr.cut0 hcap.1 N
          have rD := hr.cut N hcap.1
          have lD : (S.drop N).length = S.length - N := by rw [List.length_drop]
          have HD : Hid (∀ j x, (S.drop N)[j]? = some x → x = f (N + j)) := hid (fun j x hx => by
            rw [List.getElem?_drop, HS.out] at hx
            have hlt2 := (List.getElem?_eq_some_iff.1 hx).1
            rw [mkB_len] at hlt2
            rw [mkB_at f hlt2] at hx
            exact (Option.some.inj hx).symm)
          have HTK : Hid (S.take N = mkB N f) := hid (by rw [HS.out, mkB_take f (by omega)])
          obtain ⟨D, hD⟩ : ∃ D, S.drop N = D := ⟨_, rfl⟩
          obtain ⟨T, hT⟩ : ∃ T, S.take N = T := ⟨_, rfl⟩
          obtain ⟨AD, hAD⟩ : ∃ A3, cutA A2 N c2 = A3 := ⟨_, rfl⟩
          obtain ⟨AT, hAT⟩ : ∃ A3, cutA A2 0 c2 = A3 := ⟨_, rfl⟩
          rw [hAD] at rD hs1
          rw [hAT] at rT hs2
          rw [hD] at rD lD HD
          rw [hT] at rT HTK
          rw [← lD] at hs1
          have RD := hid rD
          have RT := hid rT
          have HLD : Hid (D.length + N = 8 * m) := hid (by omega)
          have hDl : D.length ≤ 900000 := by omega
          have hcm : N ≤ c2 := by omega
          have hc9 := hcap.2
          clear HO HS hr hSl lD hD hT hAD hAT rD rT hcap
          go_wp2_with fail
          go_loop [15, 54] (fun x0 i => ∃ k : Nat, k ≤ D.length ∧ i = .int .i64 k ∧ ∀ j, j < k → D[j]? = some false) (fun _ i => D.length - (intOf i).toNat)
          case atStart => exact ⟨0, by omega, rfl, fun j hj => by omega⟩
          case round =>
            obtain ⟨k, hk, rfl, hs⟩ := hrel
            have HS := hid hs
            clear hs
            by_cases hlt : k < D.length
            · obtain ⟨b1, o1, x, rfl, l1, ex, c1⟩ := RD.out.at_ hlt
              cases x with
              | true =>
                have HE : Hid (tlB N b = false) := hid (by
                  cases ht : tlB N b with
                  | false => rfl
                  | true =>
                    have h1 := HT.out.1 ht (N + k) (by omega) (by have := HLD.out; omega)
                    rw [← HD.out k true ex] at h1
                    cases h1)
                have HX := hid (HXE.out.2 HE.out)
                clear ex
                go_wp2_with fail
                go_ret2
                rw [HX.out.1, HX.out.2]
                exact .nil hbel
              | false =>
                have HN2 : Hid (∀ j, j < k + 1 → D[j]? = some false) := hid (fun j hj => by
                  by_cases e : j = k
                  · subst e; exact ex
                  · exact HS.out j (by omega))
                clear ex
                go_wp2_with fail
                go_round
                case rel => exact ⟨k + 1, by omega, by go_num, HN2.out⟩
                case measure => simp [intOf]; omega
            · have HE : Hid (tlB N b = true) := hid (HT.out.2 fun p h1 h2 => by
                have h3 := HS.out (p - N) (by have := HLD.out; omega)
                have h4 := HD.out _ _ h3
                rw [show N + (p - N) = p by omega] at h4
                exact h4.symm)
              have HX := hid (HXE.out.1 HE.out)
              obtain rfl : k = D.length := by omega
              go_wp2_with fail
              go_ret2
              rw [HX.out.1, HX.out.2]
              refine ⟨AT, c2, ?_, ?_, hc9, ?_, hbel⟩
              · rw [mkB_len]; rfl
              · rw [mkB_len]; exact hcm
              · rw [← HTK.out]; exact RT.out
    · have e : bitE k m b = 4 := by unfold bitE; rw [if_pos h, if_neg hlen]
      have e2 : bitV k m b = [] := by unfold bitV; rw [e]; rfl
      rw [e, e2]
      rw [h] at CB
      obtain ⟨V, hV⟩ : ∃ V, bysV (k : Int) (m : Int) = V := ⟨_, rfl⟩
      rw [hV] at CB hlen
      have hne : ((b.length : Int) != V) = true := by simpa using hlen
      clear h e e2 hV ra ub hbv hlen
      go_enter Tryz.func61, Tryz.ntmps61
      go_wp2_with fail
      refine (CB.out _).mono ?_
      rintro _ _ ⟨rfl, rfl⟩
      go_wp2_with fail
      go_ret2
      exact .nil (Below.refl _ _)
  · have e : bitE wd many b = bysE wd many := if_neg h
    have e2 : bitV wd many b = [] := by unfold bitV; rw [e, if_neg h]
    rw [e, e2]
    obtain ⟨V, hV⟩ : ∃ V, bysV wd many = V := ⟨_, rfl⟩
    obtain ⟨E, hE⟩ : ∃ V, bysE wd many = V := ⟨_, rfl⟩
    rw [hE] at CB h ⊢
    rw [hV] at CB
    have hne : (E != 0) = true := by simpa using h
    clear h e e2 hV hE ra ub
    go_enter Tryz.func61, Tryz.ntmps61
    go_wp2_with fail
    refine (CB.out _).mono ?_
    rintro _ _ ⟨rfl, rfl⟩
    go_wp2_with fail
    go_ret2
    exact .nil (Below.refl _ _)
end Go.Proofs.YtngdgbicjhlnaaaGreat
/- Numbers unpacked, unwoven; signs read, by the document; lists of signs that are the same. -/
namespace Go.Proofs.YtngdgbicjhlnaaaGreat
open Go.RowKit
set_option maxHeartbeats 400000
set_option maxRecDepth 100000
set_option linter.unusedVariables false
theorem nmF_32 {t k : Nat} (h : t ≤ k) (hk : k ≤ 32) (g : Nat → Bool) : 0 ≤ nmF t g ∧ nmF t g ≤ 4294967296 := by
  have h1 := nmF_lt t g
  have h2 : (2 : Int) ^ t ≤ 2 ^ 32 := by
    have := Nat.pow_le_pow_right (show 0 < 2 by decide) (show t ≤ 32 by omega)
    exact_mod_cast this
  have h3 : (2 : Int) ^ 32 = 4294967296 := by decide
  omega
end Go.Proofs.YtngdgbicjhlnaaaGreat
