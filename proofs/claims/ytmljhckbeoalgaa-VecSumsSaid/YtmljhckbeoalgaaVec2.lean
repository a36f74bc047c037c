
/- vec's functions, each by its contract: the others. -/
import Derived.Test.YtmljhckbeoalgaaVec
namespace Go.Proofs.Ytmljhckbeoalgaa
open Go.RowKit
set_option maxHeartbeats 400000
set_option linter.unusedVariables false
theorem clip_H {A : Option Addr} {c : Nat} (xs : List Int) (ix : I64s xs) (m : Int) (hm : I64 m) (w : World) (ra : Rd (Value.int .i64) w w.heap.size A xs)
    (k : Nat) (hk : k < xs.length) (W : World) (hW : Below ((w.alloc (.cells #[.slice A xs.length c] 22)).alloc (.cells #[.int .i64 m] 2)).heap.size ((w.alloc (.cells #[.slice A xs.length c] 22)).alloc (.cells #[.int .i64 m] 2)) W) :
    Calls Try.prog 50 (#[.int .i64 k] ++ #[.pointer (some ⟨w.heap.size, 0, none⟩), .pointer (some ⟨w.heap.size + 1, 0, none⟩)]) W fun e w' => e = .returned (.tuple #[.int .i64 (numC xs m k).1, .int .i64 (numC xs m k).2]) ∧ Below W.heap.size W w' := by
  obtain ⟨_, _, x, _, _, hx, _⟩ := ra.at_ hk
  obtain ⟨ca, cb, hb⟩ := two_cells w (.slice A xs.length c) (.int .i64 m) 22 2
  have h := clip_cl xs (cell_later hW ca) (cell_later hW cb) (ra.below (hb.trans (hW.mono hb.size))) hx (ix.at_ hx) hm
  unfold numC
  rw [getD_of hx]
  exact h
theorem Clip_any {A : Option Addr} {c : Nat} (xs : List Int) (hx : xs.length ≤ 9223372036854775807) (ix : I64s xs) (m : Int) (hm : I64 m) (w : World) (ra : Rd (Value.int .i64) w w.heap.size A xs) :
    Calls Try.prog 21 #[.slice A xs.length c, .int .i64 m] w (OwnInts (unV (clipE m) (numC xs m) xs.length) (unE (clipE m) (numC xs m) xs.length) w) := by
  have CM := hid (Check_any A xs.length c hx)
  have CB := hid (vec_bound m hm)
  have hb0 := (two_cells w (.slice A xs.length c) (.int .i64 m) 22 2).2.2
  by_cases hn : 4096 < xs.length
  · have e := un_long hn (clipE m) (numC xs m)
    rw [e.1, e.2]
    rw [show oneE xs.length = 3 from if_pos hn] at CM
    have HB := hid hb0
    clear e ra ix hb0
    go_enter Try.func21, Try.ntmps21
    go_wp2_with fail
    refine (CM.out _).mono ?_
    rintro _ _ ⟨rfl, rfl⟩
    go_wp2_with fail
    go_ret2
    exact ⟨none, 0, rfl, own_nil _ _ _, HB.out⟩
  · rw [show oneE xs.length = 0 from if_neg hn] at CM
    have HB := hid hb0
    clear hb0
    by_cases hq : clipE m = 0
    · rw [hq] at CB ⊢
      have e := un_ok hn (numC xs m)
      rw [e.1, e.2]
      have hL := hid (list_any _ _ xs.length (by omega) _ (numC xs m) clip_ok (clip_H (c := c) xs ix m hm w ra))
      clear e hq ix
      go_enter Try.func21, Try.ntmps21
      go_wp2_with fail
      refine (CM.out _).mono ?_
      rintro _ _ ⟨rfl, rfl⟩
      go_wp2_with fail
      refine (CB.out _).mono ?_
      rintro _ _ ⟨rfl, rfl⟩
      go_wp2_with fail
      refine hL.out.mono ?_
      rintro _ w2 ⟨A', c', rfl, ho, hb2⟩
      go_wp2_with fail
      go_ret2
      exact OwnInts.onto ⟨A', c', rfl, ho, hb2⟩ HB.out
    · have e := un_bad hn hq (numC xs m)
      rw [e.1, e.2]
      obtain ⟨q, hqe⟩ : ∃ q, clipE m = q := ⟨_, rfl⟩
      rw [hqe] at hq CB ⊢
      have hne : (q != 0) = true := by simpa using hq
      clear e hq ix hqe ra
      go_enter Try.func21, Try.ntmps21
      go_wp2_with fail
      refine (CM.out _).mono ?_
      rintro _ _ ⟨rfl, rfl⟩
      go_wp2_with fail
      refine (CB.out _).mono ?_
      rintro _ _ ⟨rfl, rfl⟩
      go_wp2_with fail
      go_ret2
      exact ⟨none, 0, rfl, own_nil _ _ _, HB.out⟩
/-- y and so many times x: the error, and the vector. -/
def moreE (ys xs : List Int) (b m : Int) : Int := if unE (behE m) (numS xs b m) xs.length = 0 then opE (· + ·) ys (unV (behE m) (numS xs b m) xs.length) else unE (behE m) (numS xs b m) xs.length
def moreV (ys xs : List Int) (b m : Int) : List Int := if unE (behE m) (numS xs b m) xs.length = 0 then opV (· + ·) ys (unV (behE m) (numS xs b m) xs.length) else []
theorem seqV_i64 {num : Nat → Int × Int} {n : Nat} (h : ∀ k, k < n → I64 (num k).1) : I64s (seqV num n) := by
  unfold seqV
  split
  · intro x hx
    obtain ⟨k, hk, rfl⟩ := List.mem_map.1 hx
    exact h k (by simpa using hk)
  · intro x hx; simp at hx
theorem unV_i64 {q : Int} {num : Nat → Int × Int} {n : Nat} (h : ∀ k, k < n → I64 (num k).1) : I64s (unV q num n) := by
  unfold unV
  split
  · exact seqV_i64 h
  · intro x hx; simp at hx
theorem opV_i64 (f : Int → Int → Int) (xs ys : List Int) : I64s (opV f xs ys) := by
  unfold opV
  split
  · exact seqV_i64 fun k _ => ckV_i64 _
  · intro x hx; simp at hx
theorem mulV_i64 (a b m : Int) : I64 (mulV a b m) := by
  unfold mulV
  split
  · decide
  · exact ckV_i64 _
theorem seqV_len (num : Nat → Int × Int) (n : Nat) : (seqV num n).length ≤ n := by
  unfold seqV; split <;> simp
theorem unV_len (q : Int) (num : Nat → Int × Int) (n : Nat) : (unV q num n).length ≤ 4096 := by
  by_cases h : bndE n q = 0
  · rw [show unV q num n = seqV num n from if_pos h]
    have := seqV_len num n
    have : ¬ 4096 < n := fun hn => by rw [show bndE n q = 3 from if_pos hn] at h; cases h
    omega
  · rw [show unV q num n = [] from if_neg h]; simp
theorem opV_len (f : Int → Int → Int) (xs ys : List Int) : (opV f xs ys).length ≤ 4096 := by
  unfold opV
  split
  · rename_i h
    have := twoE_ok h
    have := seqV_len (num2 f xs ys) xs.length
    omega
  · simp
theorem More_any {A B : Option Addr} {c d : Nat} (ys xs : List Int) (hy : ys.length ≤ 9223372036854775807) (hx : xs.length ≤ 9223372036854775807) (iy : I64s ys) (ix : I64s xs) (b m : Int) (hb : I64 b) (w : World)
    (ra : Rd (Value.int .i64) w w.heap.size A xs) (rb : Rd (Value.int .i64) w w.heap.size B ys) :
    Calls Try.prog 19 #[.slice B ys.length d, .int .i64 b, .slice A xs.length c, .int .i64 m] w (OwnInts (moreV ys xs b m) (moreE ys xs b m) w) := by
  have CS := hid (Scale_any (c := c) xs hx ix b m hb w ra)
  have il : I64s (unV (behE m) (numS xs b m) xs.length) := unV_i64 fun k _ => mulV_i64 _ _ _
  have ll := unV_len (behE m) (numS xs b m) xs.length
  unfold moreV moreE
  obtain ⟨S, hS⟩ : ∃ S, unV (behE m) (numS xs b m) xs.length = S := ⟨_, rfl⟩
  obtain ⟨q, hq⟩ : ∃ S, unE (behE m) (numS xs b m) xs.length = S := ⟨_, rfl⟩
  rw [hS] at il ll CS ⊢
  rw [hq] at CS ⊢
  clear hS hq
  by_cases h0 : q = 0
  · subst h0
    rw [if_pos rfl, if_pos rfl]
    have CA := hid (fun (A' : Option Addr) (c' : Nat) (W : World) hb' => Add_any (A := B) (B := A') (c := d) (d := c') ys S hy (by omega) iy il W hb')
    have HB := hid rb
    clear rb ra ix iy il
    go_enter Try.func19, Try.ntmps19
    go_wp2_with fail
    refine CS.out.mono ?_
    rintro _ w1 ⟨A', c', rfl, ho, hb1⟩
    have hr := hid (own_rd ho)
    have HO := hid ho
    clear ho
    go_wp2_with fail
    refine (CA.out A' c' w1 (HB.out.on hb1) hr.out).mono ?_
    rintro _ w2 ⟨A2, c2, rfl, ho2, hb2⟩
    go_wp2_with fail
    go_ret2
    exact OwnInts.onto ⟨A2, c2, rfl, ho2, hb2⟩ hb1
  · rw [if_neg h0, if_neg h0]
    have hne : (q != 0) = true := by simpa using h0
    clear h0 ra rb ix iy il
    go_enter Try.func19, Try.ntmps19
    go_wp2_with fail
    refine CS.out.mono ?_
    rintro _ w1 ⟨A', c', rfl, ho, hb1⟩
    clear ho
    go_wp2_with fail
    go_ret2
    exact ⟨none, 0, rfl, own_nil _ _ _, hb1⟩
/-- A product of two vectors: the number, and the error. -/
def dotE (xs ys : List Int) (m : Int) : Int := if twoE xs.length ys.length = 0 then (if behE m = 0 then (tot (numD xs ys m) xs.length).2 else behE m) else twoE xs.length ys.length
def dotV (xs ys : List Int) (m : Int) : Int := if twoE xs.length ys.length = 0 then (if behE m = 0 then (tot (numD xs ys m) xs.length).1 else 0) else 0
theorem dot_H {A B : Option Addr} {c d : Nat} (xs ys : List Int) (hl : ys.length = xs.length) (ix : I64s xs) (iy : I64s ys) (m : Int) (w : World) (ra : Rd (Value.int .i64) w w.heap.size A xs) (rb : Rd (Value.int .i64) w w.heap.size B ys) (wb wl : World)
    (ca : wb.cell? ⟨w.heap.size, 0, none⟩ = some (.slice A xs.length c)) (cb : wb.cell? ⟨w.heap.size + 1, 0, none⟩ = some (.slice B ys.length d)) (cm : wb.cell? ⟨w.heap.size + 1 + 1, 0, none⟩ = some (.int .i64 m)) (hwb : Below w.heap.size w wb) (hwl : Below wb.heap.size wb wl)
    (k : Nat) (hk : k < xs.length) (W : World) (hW : Below wl.heap.size wl W) :
    Calls Try.prog 54 (#[.int .i64 k] ++ #[.pointer (some ⟨w.heap.size, 0, none⟩), .pointer (some ⟨w.heap.size + 1, 0, none⟩), .pointer (some ⟨w.heap.size + 1 + 1, 0, none⟩)]) W fun e w' => e = .returned (.tuple #[.int .i64 (numD xs ys m k).1, .int .i64 (numD xs ys m k).2]) ∧ Below W.heap.size W w' := by
  obtain ⟨_, _, x, _, _, hx, _⟩ := ra.at_ hk
  obtain ⟨_, _, y, _, _, hy, _⟩ := rb.at_ (show k < ys.length by omega)
  have hw := hwl.trans (hW.mono hwl.size)
  have hB := hwb.trans (hw.mono hwb.size)
  have h := dot_cl xs ys (cell_later hw ca) (cell_later hw cb) (cell_later hw cm) (ra.below hB) (rb.below hB) hx hy (fix_mul x y m (ix.at_ hx) (iy.at_ hy))
  unfold numD
  rw [getD_of hx, getD_of hy]
  exact h
theorem Dot_any {A B : Option Addr} {c d : Nat} (xs ys : List Int) (hx : xs.length ≤ 9223372036854775807) (hy : ys.length ≤ 9223372036854775807) (ix : I64s xs) (iy : I64s ys) (m : Int) (w : World)
    (ra : Rd (Value.int .i64) w w.heap.size A xs) (rb : Rd (Value.int .i64) w w.heap.size B ys) :
    Calls Try.prog 28 #[.slice A xs.length c, .slice B ys.length d, .int .i64 m] w fun e w' => e = .returned (.tuple #[.int .i64 (dotV xs ys m), .int .i64 (dotE xs ys m)]) ∧ Below w.heap.size w w' := by
  have CM := hid (match_any A B xs.length ys.length c d hx hy)
  have CB := hid (vec_behind m)
  obtain ⟨k1, k2, k3, hb0⟩ := three_cells w (.slice A xs.length c) (.slice B ys.length d) (.int .i64 m) 22 22 3
  by_cases ht : twoE xs.length ys.length = 0
  · rw [show dotE xs ys m = if behE m = 0 then (tot (numD xs ys m) xs.length).2 else behE m from if_pos ht, show dotV xs ys m = if behE m = 0 then (tot (numD xs ys m) xs.length).1 else 0 from if_pos ht]
    obtain ⟨hn, hl⟩ := twoE_ok ht
    rw [ht] at CM
    by_cases hq : behE m = 0
    · rw [if_pos hq, if_pos hq]
      rw [hq] at CB
      have hH := hid (fun wl => dot_H xs ys hl ix iy m w ra rb _ wl k1 k2 k3 hb0)
      have hT := hid (fun W K => total_any _ K xs.length hn W (numD xs ys m) dot_ok (fun k _ => mulV_i64 _ _ _))
      have HB := hid hb0
      obtain ⟨s, hs⟩ : ∃ s, tot (numD xs ys m) xs.length = s := ⟨_, rfl⟩
      rw [hs] at hT ⊢
      have hll := hid hl
      clear hq k1 k2 k3 hb0 ix iy ra rb hs ht hl
      go_enter Try.func28, Try.ntmps28
      go_wp2_with fail
      refine (CM.out _).mono ?_
      rintro _ _ ⟨rfl, rfl⟩
      go_wp2_with fail
      refine (CB.out _).mono ?_
      rintro _ w1 ⟨rfl, hb1⟩
      obtain ⟨hc1, hf1⟩ := bcells hb1
      go_wp2_with fail
      refine (hT.out _ _ (hH.out w1 hb1)).mono ?_
      rintro _ w2 ⟨rfl, hb2⟩
      go_wp2_with fail
      go_ret2
      exact ⟨rfl, HB.out.trans ((hb1.trans (hb2.mono hb1.size)).mono HB.out.size)⟩
    · rw [if_neg hq, if_neg hq]
      obtain ⟨q, hqe⟩ : ∃ q, behE m = q := ⟨_, rfl⟩
      rw [hqe] at hq CB ⊢
      have hne : (q != 0) = true := by simpa using hq
      have HB := hid hb0
      have hll := hid hl
      clear hq k1 k2 k3 hb0 ix iy ra rb ht hqe hl
      go_enter Try.func28, Try.ntmps28
      go_wp2_with fail
      refine (CM.out _).mono ?_
      rintro _ _ ⟨rfl, rfl⟩
      go_wp2_with fail
      refine (CB.out _).mono ?_
      rintro _ w1 ⟨rfl, hb1⟩
      go_wp2_with fail
      go_ret2
      exact ⟨rfl, HB.out.trans (hb1.mono HB.out.size)⟩
  · rw [show dotE xs ys m = twoE xs.length ys.length from if_neg ht, show dotV xs ys m = 0 from if_neg ht]
    obtain ⟨t, hte⟩ : ∃ t, twoE xs.length ys.length = t := ⟨_, rfl⟩
    rw [hte] at ht CM ⊢
    have hne : (t != 0) = true := by simpa using ht
    have HB := hid hb0
    clear k1 k2 k3 hb0 ix iy ra rb ht hte
    go_enter Try.func28, Try.ntmps28
    go_wp2_with fail
    refine (CM.out _).mono ?_
    rintro _ _ ⟨rfl, rfl⟩
    go_wp2_with fail
    go_ret2
    exact ⟨rfl, HB.out⟩
def sizeE (xs : List Int) : Int := if 4096 < xs.length then 3 else (tot (numA xs) xs.length).2
def sizeV (xs : List Int) : Int := if 4096 < xs.length then 0 else (tot (numA xs) xs.length).1
theorem size_H {A : Option Addr} {c : Nat} (xs : List Int) (ix : I64s xs) (w : World) (ra : Rd (Value.int .i64) w w.heap.size A xs)
    (k : Nat) (hk : k < xs.length) (W : World) (hW : Below (w.alloc (.cells #[.slice A xs.length c] 22)).heap.size (w.alloc (.cells #[.slice A xs.length c] 22)) W) :
    Calls Try.prog 55 (#[.int .i64 k] ++ #[.pointer (some ⟨w.heap.size, 0, none⟩)]) W fun e w' => e = .returned (.tuple #[.int .i64 (numA xs k).1, .int .i64 (numA xs k).2]) ∧ Below W.heap.size W w' := by
  obtain ⟨_, _, x, _, _, hx, _⟩ := ra.at_ hk
  obtain ⟨ca, hb⟩ := one_cell w (.slice A xs.length c) 22
  have h := size_cl xs (cell_later hW ca) (ra.below (hb.trans (hW.mono hb.size))) hx (ix.at_ hx)
  unfold numA
  rw [getD_of hx]
  exact h
theorem Size_any {A : Option Addr} {c : Nat} (xs : List Int) (hx : xs.length ≤ 9223372036854775807) (ix : I64s xs) (w : World) (ra : Rd (Value.int .i64) w w.heap.size A xs) :
    Calls Try.prog 30 #[.slice A xs.length c] w fun e w' => e = .returned (.tuple #[.int .i64 (sizeV xs), .int .i64 (sizeE xs)]) ∧ Below w.heap.size w w' := by
  have CM := hid (Check_any A xs.length c hx)
  have HB := hid (one_cell w (.slice A xs.length c) 22).2
  by_cases hn : 4096 < xs.length
  · rw [show sizeE xs = 3 from if_pos hn, show sizeV xs = 0 from if_pos hn]
    rw [show oneE xs.length = 3 from if_pos hn] at CM
    clear ra ix
    go_enter Try.func30, Try.ntmps30
    go_wp2_with fail
    refine (CM.out _).mono ?_
    rintro _ _ ⟨rfl, rfl⟩
    go_wp2_with fail
    go_ret2
    exact ⟨rfl, HB.out⟩
  · rw [show sizeE xs = (tot (numA xs) xs.length).2 from if_neg hn, show sizeV xs = (tot (numA xs) xs.length).1 from if_neg hn]
    rw [show oneE xs.length = 0 from if_neg hn] at CM
    have hL := hid (total_any _ _ xs.length (by omega) _ (numA xs) size_ok (fun k _ => ckV_i64 _) (size_H (c := c) xs ix w ra))
    obtain ⟨s, hs⟩ : ∃ s, tot (numA xs) xs.length = s := ⟨_, rfl⟩
    rw [hs] at hL ⊢
    clear ra ix hs
    go_enter Try.func30, Try.ntmps30
    go_wp2_with fail
    refine (CM.out _).mono ?_
    rintro _ _ ⟨rfl, rfl⟩
    go_wp2_with fail
    refine hL.out.mono ?_
    rintro _ w2 ⟨rfl, hb2⟩
    go_wp2_with fail
    go_ret2
    exact ⟨rfl, HB.out.trans (hb2.mono HB.out.size)⟩
end Go.Proofs.Ytmljhckbeoalgaa
