
/- YFrC: texts joined: FrC. -/
import Derived.Test.YtecgbelgoomneaaGreatYa
import Derived.Test.YtecgbelgoomneaaGreatYFrB
import Derived.Deep.QuietTactic
import Derived.BigQuiet
/- Whether levels may be; whether any vector may be, a frame may be, and is the same; an acknowledgement: by the document. -/
namespace Go.Proofs.YtecgbelgoomneaaGreat
open Go.RowKit
set_option maxHeartbeats 400000
set_option maxRecDepth 100000
set_option linter.unusedVariables false
theorem fitsT_step {wd : Int} {l : List Int} {k : Nat} {x : Int} (h : fitsB wd (l.take k) = true) (hx : l[k]? = some x) (hw : (wdt x : Int) ≤ wd) : fitsB wd (l.take (k + 1)) = true := by
  unfold fitsB at h ⊢
  rw [List.take_add_one, hx, List.all_append, h]
  simp [hw]
theorem fitsT_no {wd : Int} {l : List Int} {k : Nat} {x : Int} (hx : l[k]? = some x) (hw : wd < (wdt x : Int)) : fitsB wd l = false := by
  unfold fitsB
  rw [List.all_eq_false]
  exact ⟨x, List.mem_of_getElem? hx, by simp; omega⟩
/-- What the box of a vector still holds. -/
def Box4 (w : World) (b : Nat) (dim scale wide : Int) (AN : Option Addr) (n c : Nat) : Prop := w.cell? ⟨b, 1, none⟩ = some (.int .i64 dim) ∧ w.cell? ⟨b, 4, none⟩ = some (.int .i64 scale) ∧ w.cell? ⟨b, 5, none⟩ = some (.int .i64 wide) ∧ w.cell? ⟨b, 7, none⟩ = some (.slice AN n c)
set_option maxHeartbeats 4000000 in
theorem ref_May2a (s : SentV) (p : SentP) (hn : lnS 100000 s) (ul : U64s s.lev) (w : World) {B : Nat} (hB : B ≤ w.heap.size) (ra : RdS w B s p) (h1 : 1 ≤ s.dim) (h2 : s.dim ≤ 4096) (hs : s.sch = 2) (hw1 : 1 ≤ s.wide) (hw8 : s.wide ≤ 8) (hle : (s.lev.length : Int) = s.dim) (hL : s.L = []) (hz : s.scale = 0) :
    Calls Tryz.prog 43 #[encT s p] w fun e w' => e = .returned (.bool (mayB s)) ∧ Below w.heap.size w w' := by
  have HR : mayB s = true ↔ (fitsB s.wide s.lev = true ∧ s.L = [] ∧ s.V = [] ∧ 0 ≤ s.scale ∧ (s.neg.length : Int) = s.dim) := by
    rw [mayB_iff]; unfold mayP; simp [h1, h2, hs, hw1, hw8, hle]
  have HF : Hid (∀ k x, s.lev[k]? = some x → s.wide < (wdt x : Int) → mayB s = false) := hid (fun k x hx hw => by
    cases hm : mayB s with
    | false => rfl
    | true => have := (HR.1 hm).1; rw [fitsT_no hx hw] at this; simp at this)
  have HS : Hid (∀ k x, fitsB s.wide (s.lev.take k) = true → s.lev[k]? = some x → (wdt x : Int) ≤ s.wide → fitsB s.wide (s.lev.take (k + 1)) = true) := hid (fun k x h hx hw => fitsT_step h hx hw)
  have CW := hid (fun x (hx : U64 x) W => ref_Width x hx W)
  have HU := hid ul
  obtain ⟨AL, cL, AV, cV, AE, cE, AN, cN⟩ := p
  have RA : Hid (Rd (Value.int .u64) w B AE s.lev) := hid (ra.2.2.1)
  obtain ⟨R, hR⟩ : ∃ R, mayB s = R := ⟨_, rfl⟩
  rw [hR] at HR HF ⊢
  have HR2 := hid HR
  have hnl := hn.2.2.1
  have hnn := hn.2.2.2
  have hf0 : fitsB s.wide (s.lev.take 0) = true := rfl
  have HF0 := hid hf0
  have hwz : ¬ s.wide = 0 := by omega
  clear hR HR ra hn ul hf0
  obtain ⟨N, hN⟩ : ∃ N, s.lev.length = N := ⟨_, rfl⟩
  have HN := hid hN
  have hNd : (N : Int) = s.dim := by omega
  have hN0 : 0 < N := by omega
  go_enter Tryz.func43, Tryz.ntmps43
  go_wp2_with fail
  go_loopw [2, 7, 110] (fun x2 x7 i wr => ∃ k : Nat, k ≤ N ∧ i = .int .i64 k ∧ fitsB s.wide (s.lev.take k) = true ∧ Box4 wr w.heap.size s.dim s.scale s.wide AN s.neg.length cN ∧ Below w.heap.size w wr) (fun _ _ i _ => N - (intOf i).toNat)
  case atStart => exact ⟨0, by omega, rfl, HF0.out, ⟨by simp [go_sem], by first | (simp [go_sem]; done) | (simp [go_sem, hz]; done), by simp [go_sem], by simp [go_sem]⟩, by go_grown⟩
  case round =>
    obtain ⟨k, hk, rfl, hf, hbox, hb⟩ := hrel
    have HFk := hid hf
    have HB := hid hbox
    obtain ⟨c1, c4, c5, c7⟩ := hbox
    clear hf
    by_cases hlt : k < N
    · obtain ⟨b1, o1, x, rfl, l1, ex, cx⟩ := (RA.out.below (hb.mono hB)).at_ (k := k) (by rw [HN.out]; exact hlt)
      have C := hid (CW.out x (HU.out.at_ ex))
      have EX := hid ex
      obtain ⟨y, hy⟩ : ∃ y, wdt x = y := ⟨_, rfl⟩
      rw [hy] at C
      have HY := hid hy
      clear ex hy
      by_cases hyw : s.wide < (y : Int)
      · have hR := HF.out k x EX.out (by rw [HY.out]; exact hyw)
        subst hR
        go_wp2_with fail
        go_quiet ((go_at_call 94; exact quietL C.out _))
        go_wp2_with fail
        go_ret
        exact ⟨rfl, hb.trans (belowN _ _ _)⟩
      · go_wp2_with fail
        go_quiet ((go_at_call 94; exact quietL C.out _))
        go_wp2_with fail
        go_roundw
        case rel => exact ⟨k + 1, by omega, by go_num, HS.out k x HFk.out EX.out (by rw [HY.out]; omega), HB.out, hb.trans (belowN _ _ _)⟩
        case measure => simp [intOf]; omega
    · obtain rfl : k = N := by omega
      have HA := hid (show fitsB s.wide s.lev = true by have h := HFk.out; rw [List.take_of_length_le (by rw [HN.out]; omega)] at h; exact h)
      clear HFk
      go_wp2_with fail
      all_goals (go_ret; refine ⟨ret_of ?_, hb⟩; rw [HR2.out, HA.out]; first | (simp [*]; done) | (simp [*]; omega))
set_option maxHeartbeats 4000000 in
theorem ref_May2b (s : SentV) (p : SentP) (hn : lnS 100000 s) (ul : U64s s.lev) (w : World) {B : Nat} (hB : B ≤ w.heap.size) (ra : RdS w B s p) (h1 : 1 ≤ s.dim) (h2 : s.dim ≤ 4096) (hs : s.sch = 2) (hw1 : 1 ≤ s.wide) (hw8 : s.wide ≤ 8) (hle : (s.lev.length : Int) = s.dim) (hL : s.L = []) (hz : ¬ s.scale = 0) :
    Calls Tryz.prog 43 #[encT s p] w fun e w' => e = .returned (.bool (mayB s)) ∧ Below w.heap.size w w' := by
  have HR : mayB s = true ↔ (fitsB s.wide s.lev = true ∧ s.L = [] ∧ s.V = [] ∧ 0 ≤ s.scale ∧ (s.neg.length : Int) = s.dim) := by
    rw [mayB_iff]; unfold mayP; simp [h1, h2, hs, hw1, hw8, hle]
  have HF : Hid (∀ k x, s.lev[k]? = some x → s.wide < (wdt x : Int) → mayB s = false) := hid (fun k x hx hw => by
    cases hm : mayB s with
    | false => rfl
    | true => have := (HR.1 hm).1; rw [fitsT_no hx hw] at this; simp at this)
  have HS : Hid (∀ k x, fitsB s.wide (s.lev.take k) = true → s.lev[k]? = some x → (wdt x : Int) ≤ s.wide → fitsB s.wide (s.lev.take (k + 1)) = true) := hid (fun k x h hx hw => fitsT_step h hx hw)
  have CW := hid (fun x (hx : U64 x) W => ref_Width x hx W)
  have HU := hid ul
  obtain ⟨AL, cL, AV, cV, AE, cE, AN, cN⟩ := p
  have RA : Hid (Rd (Value.int .u64) w B AE s.lev) := hid (ra.2.2.1)
  obtain ⟨R, hR⟩ : ∃ R, mayB s = R := ⟨_, rfl⟩
  rw [hR] at HR HF ⊢
  have HR2 := hid HR
  have hnl := hn.2.2.1
  have hnn := hn.2.2.2
  have hf0 : fitsB s.wide (s.lev.take 0) = true := rfl
  have HF0 := hid hf0
  have hwz : ¬ s.wide = 0 := by omega
  clear hR HR ra hn ul hf0
  obtain ⟨N, hN⟩ : ∃ N, s.lev.length = N := ⟨_, rfl⟩
  have HN := hid hN
  have hNd : (N : Int) = s.dim := by omega
  have hN0 : 0 < N := by omega
  go_enter Tryz.func43, Tryz.ntmps43
  go_wp2_with fail
  go_loopw [2, 7, 110] (fun x2 x7 i wr => ∃ k : Nat, k ≤ N ∧ i = .int .i64 k ∧ fitsB s.wide (s.lev.take k) = true ∧ Box4 wr w.heap.size s.dim s.scale s.wide AN s.neg.length cN ∧ Below w.heap.size w wr) (fun _ _ i _ => N - (intOf i).toNat)
  case atStart => exact ⟨0, by omega, rfl, HF0.out, ⟨by simp [go_sem], by first | (simp [go_sem]; done) | (simp [go_sem, hz]; done), by simp [go_sem], by simp [go_sem]⟩, by go_grown⟩
  case round =>
    obtain ⟨k, hk, rfl, hf, hbox, hb⟩ := hrel
    have HFk := hid hf
    have HB := hid hbox
    obtain ⟨c1, c4, c5, c7⟩ := hbox
    clear hf
    by_cases hlt : k < N
    · obtain ⟨b1, o1, x, rfl, l1, ex, cx⟩ := (RA.out.below (hb.mono hB)).at_ (k := k) (by rw [HN.out]; exact hlt)
      have C := hid (CW.out x (HU.out.at_ ex))
      have EX := hid ex
      obtain ⟨y, hy⟩ : ∃ y, wdt x = y := ⟨_, rfl⟩
      rw [hy] at C
      have HY := hid hy
      clear ex hy
      by_cases hyw : s.wide < (y : Int)
      · have hR := HF.out k x EX.out (by rw [HY.out]; exact hyw)
        subst hR
        go_wp2_with fail
        go_quiet ((go_at_call 94; exact quietL C.out _))
        go_wp2_with fail
        go_ret
        exact ⟨rfl, hb.trans (belowN _ _ _)⟩
      · go_wp2_with fail
        go_quiet ((go_at_call 94; exact quietL C.out _))
        go_wp2_with fail
        go_roundw
        case rel => exact ⟨k + 1, by omega, by go_num, HS.out k x HFk.out EX.out (by rw [HY.out]; omega), HB.out, hb.trans (belowN _ _ _)⟩
        case measure => simp [intOf]; omega
    · obtain rfl : k = N := by omega
      have HA := hid (show fitsB s.wide s.lev = true by have h := HFk.out; rw [List.take_of_length_le (by rw [HN.out]; omega)] at h; exact h)
      clear HFk
      go_wp2_with fail
      all_goals (go_ret; refine ⟨ret_of ?_, hb⟩; rw [HR2.out, HA.out]; first | (simp [*]; done) | (simp [*]; omega))
set_option maxHeartbeats 4000000 in
theorem ref_May2c (s : SentV) (p : SentP) (hn : lnS 100000 s) (ul : U64s s.lev) (w : World) {B : Nat} (hB : B ≤ w.heap.size) (ra : RdS w B s p) (h1 : 1 ≤ s.dim) (h2 : s.dim ≤ 4096) (hs : s.sch = 2) (hw1 : 1 ≤ s.wide) (hw8 : s.wide ≤ 8) (hle : (s.lev.length : Int) = s.dim) (hL : ¬ s.L = []) (hz : s.scale = 0) :
    Calls Tryz.prog 43 #[encT s p] w fun e w' => e = .returned (.bool (mayB s)) ∧ Below w.heap.size w w' := by
  have HR : mayB s = true ↔ (fitsB s.wide s.lev = true ∧ s.L = [] ∧ s.V = [] ∧ 0 ≤ s.scale ∧ (s.neg.length : Int) = s.dim) := by
    rw [mayB_iff]; unfold mayP; simp [h1, h2, hs, hw1, hw8, hle]
  have HF : Hid (∀ k x, s.lev[k]? = some x → s.wide < (wdt x : Int) → mayB s = false) := hid (fun k x hx hw => by
    cases hm : mayB s with
    | false => rfl
    | true => have := (HR.1 hm).1; rw [fitsT_no hx hw] at this; simp at this)
  have HS : Hid (∀ k x, fitsB s.wide (s.lev.take k) = true → s.lev[k]? = some x → (wdt x : Int) ≤ s.wide → fitsB s.wide (s.lev.take (k + 1)) = true) := hid (fun k x h hx hw => fitsT_step h hx hw)
  have CW := hid (fun x (hx : U64 x) W => ref_Width x hx W)
  have HU := hid ul
  obtain ⟨AL, cL, AV, cV, AE, cE, AN, cN⟩ := p
  have RA : Hid (Rd (Value.int .u64) w B AE s.lev) := hid (ra.2.2.1)
  obtain ⟨R, hR⟩ : ∃ R, mayB s = R := ⟨_, rfl⟩
  rw [hR] at HR HF ⊢
  have HR2 := hid HR
  have hnl := hn.2.2.1
  have hnn := hn.2.2.2
  have hf0 : fitsB s.wide (s.lev.take 0) = true := rfl
  have HF0 := hid hf0
  have hwz : ¬ s.wide = 0 := by omega
  clear hR HR ra hn ul hf0
  obtain ⟨N, hN⟩ : ∃ N, s.lev.length = N := ⟨_, rfl⟩
  have HN := hid hN
  have hNd : (N : Int) = s.dim := by omega
  have hN0 : 0 < N := by omega
  go_enter Tryz.func43, Tryz.ntmps43
  go_wp2_with fail
  go_loopw [2, 7, 110] (fun x2 x7 i wr => ∃ k : Nat, k ≤ N ∧ i = .int .i64 k ∧ fitsB s.wide (s.lev.take k) = true ∧ Box4 wr w.heap.size s.dim s.scale s.wide AN s.neg.length cN ∧ Below w.heap.size w wr) (fun _ _ i _ => N - (intOf i).toNat)
  case atStart => exact ⟨0, by omega, rfl, HF0.out, ⟨by simp [go_sem], by first | (simp [go_sem]; done) | (simp [go_sem, hz]; done), by simp [go_sem], by simp [go_sem]⟩, by go_grown⟩
  case round =>
    obtain ⟨k, hk, rfl, hf, hbox, hb⟩ := hrel
    have HFk := hid hf
    have HB := hid hbox
    obtain ⟨c1, c4, c5, c7⟩ := hbox
    clear hf
    by_cases hlt : k < N
    · obtain ⟨b1, o1, x, rfl, l1, ex, cx⟩ := (RA.out.below (hb.mono hB)).at_ (k := k) (by rw [HN.out]; exact hlt)
      have C := hid (CW.out x (HU.out.at_ ex))
      have EX := hid ex
      obtain ⟨y, hy⟩ : ∃ y, wdt x = y := ⟨_, rfl⟩
      rw [hy] at C
      have HY := hid hy
      clear ex hy
      by_cases hyw : s.wide < (y : Int)
      · have hR := HF.out k x EX.out (by rw [HY.out]; exact hyw)
        subst hR
        go_wp2_with fail
        go_quiet ((go_at_call 94; exact quietL C.out _))
        go_wp2_with fail
        go_ret
        exact ⟨rfl, hb.trans (belowN _ _ _)⟩
      · go_wp2_with fail
        go_quiet ((go_at_call 94; exact quietL C.out _))
        go_wp2_with fail
        go_roundw
        case rel => exact ⟨k + 1, by omega, by go_num, HS.out k x HFk.out EX.out (by rw [HY.out]; omega), HB.out, hb.trans (belowN _ _ _)⟩
        case measure => simp [intOf]; omega
    · obtain rfl : k = N := by omega
      have HA := hid (show fitsB s.wide s.lev = true by have h := HFk.out; rw [List.take_of_length_le (by rw [HN.out]; omega)] at h; exact h)
      clear HFk
      go_wp2_with fail
      all_goals (go_ret; refine ⟨ret_of ?_, hb⟩; rw [HR2.out, HA.out]; first | (simp [*]; done) | (simp [*]; omega))
set_option maxHeartbeats 4000000 in
theorem ref_May2d (s : SentV) (p : SentP) (hn : lnS 100000 s) (ul : U64s s.lev) (w : World) {B : Nat} (hB : B ≤ w.heap.size) (ra : RdS w B s p) (h1 : 1 ≤ s.dim) (h2 : s.dim ≤ 4096) (hs : s.sch = 2) (hw1 : 1 ≤ s.wide) (hw8 : s.wide ≤ 8) (hle : (s.lev.length : Int) = s.dim) (hL : ¬ s.L = []) (hz : ¬ s.scale = 0) :
    Calls Tryz.prog 43 #[encT s p] w fun e w' => e = .returned (.bool (mayB s)) ∧ Below w.heap.size w w' := by
  have HR : mayB s = true ↔ (fitsB s.wide s.lev = true ∧ s.L = [] ∧ s.V = [] ∧ 0 ≤ s.scale ∧ (s.neg.length : Int) = s.dim) := by
    rw [mayB_iff]; unfold mayP; simp [h1, h2, hs, hw1, hw8, hle]
  have HF : Hid (∀ k x, s.lev[k]? = some x → s.wide < (wdt x : Int) → mayB s = false) := hid (fun k x hx hw => by
    cases hm : mayB s with
    | false => rfl
    | true => have := (HR.1 hm).1; rw [fitsT_no hx hw] at this; simp at this)
  have HS : Hid (∀ k x, fitsB s.wide (s.lev.take k) = true → s.lev[k]? = some x → (wdt x : Int) ≤ s.wide → fitsB s.wide (s.lev.take (k + 1)) = true) := hid (fun k x h hx hw => fitsT_step h hx hw)
  have CW := hid (fun x (hx : U64 x) W => ref_Width x hx W)
  have HU := hid ul
  obtain ⟨AL, cL, AV, cV, AE, cE, AN, cN⟩ := p
  have RA : Hid (Rd (Value.int .u64) w B AE s.lev) := hid (ra.2.2.1)
  obtain ⟨R, hR⟩ : ∃ R, mayB s = R := ⟨_, rfl⟩
  rw [hR] at HR HF ⊢
  have HR2 := hid HR
  have hnl := hn.2.2.1
  have hnn := hn.2.2.2
  have hf0 : fitsB s.wide (s.lev.take 0) = true := rfl
  have HF0 := hid hf0
  have hwz : ¬ s.wide = 0 := by omega
  clear hR HR ra hn ul hf0
  obtain ⟨N, hN⟩ : ∃ N, s.lev.length = N := ⟨_, rfl⟩
  have HN := hid hN
  have hNd : (N : Int) = s.dim := by omega
  have hN0 : 0 < N := by omega
  go_enter Tryz.func43, Tryz.ntmps43
  go_wp2_with fail
  go_loopw [2, 7, 110] (fun x2 x7 i wr => ∃ k : Nat, k ≤ N ∧ i = .int .i64 k ∧ fitsB s.wide (s.lev.take k) = true ∧ Box4 wr w.heap.size s.dim s.scale s.wide AN s.neg.length cN ∧ Below w.heap.size w wr) (fun _ _ i _ => N - (intOf i).toNat)
  case atStart => exact ⟨0, by omega, rfl, HF0.out, ⟨by simp [go_sem], by first | (simp [go_sem]; done) | (simp [go_sem, hz]; done), by simp [go_sem], by simp [go_sem]⟩, by go_grown⟩
  case round =>
    obtain ⟨k, hk, rfl, hf, hbox, hb⟩ := hrel
    have HFk := hid hf
    have HB := hid hbox
    obtain ⟨c1, c4, c5, c7⟩ := hbox
    clear hf
    by_cases hlt : k < N
    · obtain ⟨b1, o1, x, rfl, l1, ex, cx⟩ := (RA.out.below (hb.mono hB)).at_ (k := k) (by rw [HN.out]; exact hlt)
      have C := hid (CW.out x (HU.out.at_ ex))
      have EX := hid ex
      obtain ⟨y, hy⟩ : ∃ y, wdt x = y := ⟨_, rfl⟩
      rw [hy] at C
      have HY := hid hy
      clear ex hy
      by_cases hyw : s.wide < (y : Int)
      · have hR := HF.out k x EX.out (by rw [HY.out]; exact hyw)
        subst hR
        go_wp2_with fail
        go_quiet ((go_at_call 94; exact quietL C.out _))
        go_wp2_with fail
        go_ret
        exact ⟨rfl, hb.trans (belowN _ _ _)⟩
      · go_wp2_with fail
        go_quiet ((go_at_call 94; exact quietL C.out _))
        go_wp2_with fail
        go_roundw
        case rel => exact ⟨k + 1, by omega, by go_num, HS.out k x HFk.out EX.out (by rw [HY.out]; omega), HB.out, hb.trans (belowN _ _ _)⟩
        case measure => simp [intOf]; omega
    · obtain rfl : k = N := by omega
      have HA := hid (show fitsB s.wide s.lev = true by have h := HFk.out; rw [List.take_of_length_le (by rw [HN.out]; omega)] at h; exact h)
      clear HFk
      go_wp2_with fail
      all_goals (go_ret; refine ⟨ret_of ?_, hb⟩; rw [HR2.out, HA.out]; first | (simp [*]; done) | (simp [*]; omega))
set_option maxHeartbeats 4000000 in
theorem ref_May2x (s : SentV) (p : SentP) (hn : lnS 100000 s) (w : World) (h1 : 1 ≤ s.dim) (h2 : s.dim ≤ 4096) (hs : s.sch = 2) (hx : s.wide < 1 ∨ 8 < s.wide ∨ ¬ (s.lev.length : Int) = s.dim) :
    Calls Tryz.prog 43 #[encT s p] w fun e w' => e = .returned (.bool (mayB s)) ∧ Below w.heap.size w w' := by
  have HR : mayB s = false := mayB_no (fun hm => by
    obtain ⟨_, _, hm⟩ := hm
    rcases hm with h | h | h | h
    · have := h.1; omega
    · have := h.1; omega
    · have h3 := h.2.1; have h4 := h.2.2.1; have h5 := h.2.2.2.1; omega
    · have := h.1; omega)
  rw [HR]
  have hnl := hn.2.2.1
  clear HR hn
  by_cases ha : s.wide < 1
  · clear hx
    go_enter Tryz.func43, Tryz.ntmps43
    go_wp2_with fail
    all_goals (go_ret; exact ⟨rfl, by go_grown⟩)
  · by_cases hb : 8 < s.wide
    · clear hx
      go_enter Tryz.func43, Tryz.ntmps43
      go_wp2_with fail
      all_goals (go_ret; exact ⟨rfl, by go_grown⟩)
    · have hc : ¬ (s.lev.length : Int) = s.dim := by omega
      have hc2 : ((s.lev.length : Int) != s.dim) = true := by simpa using hc
      clear hx
      go_enter Tryz.func43, Tryz.ntmps43
      go_wp2_with fail
      all_goals (go_ret; exact ⟨rfl, by go_grown⟩)
theorem ref_May (s : SentV) (p : SentP) (hn : lnS 100000 s) (hw : wfS s) (w : World) {B : Nat} (hB : B ≤ w.heap.size) (ra : RdS w B s p) :
    Calls Tryz.prog 43 #[encT s p] w fun e w' => e = .returned (.bool (mayB s)) ∧ Below w.heap.size w w' := by
  by_cases hd : s.dim < 1 ∨ 4096 < s.dim
  · exact ref_MayD s p w hd
  · have h1 : 1 ≤ s.dim := by omega
    have h2 : s.dim ≤ 4096 := by omega
    by_cases h0 : s.sch = 0
    · exact ref_May0 s p w h1 h2 h0
    · by_cases h3 : s.sch = 1
      · exact ref_May1 s p hn w hB ra h1 h2 h3
      · by_cases h4 : s.sch = 2
        · by_cases hx : s.wide < 1 ∨ 8 < s.wide ∨ ¬ (s.lev.length : Int) = s.dim
          · exact ref_May2x s p hn w h1 h2 h4 hx
          · have a1 : 1 ≤ s.wide := by omega
            have a2 : s.wide ≤ 8 := by omega
            have a3 : (s.lev.length : Int) = s.dim := by omega
            have ul := hw.2.2.2.2.2.2
            by_cases hL : s.L = []
            · by_cases hz : s.scale = 0
              · exact ref_May2a s p hn ul w hB ra h1 h2 h4 a1 a2 a3 hL hz
              · exact ref_May2b s p hn ul w hB ra h1 h2 h4 a1 a2 a3 hL hz
            · by_cases hz : s.scale = 0
              · exact ref_May2c s p hn ul w hB ra h1 h2 h4 a1 a2 a3 hL hz
              · exact ref_May2d s p hn ul w hB ra h1 h2 h4 a1 a2 a3 hL hz
        · by_cases h5 : s.sch = 3
          · exact ref_May3 s p w h1 h2 h5
          · exact ref_MayX s p w h1 h2 h0 h3 h4 h5
end Go.Proofs.YtecgbelgoomneaaGreat
