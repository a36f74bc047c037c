
/- vec's functions, each by its contract. -/
import Derived.Test.YtmljhckbeoalgaaVecC
namespace Go.Proofs.Ytmljhckbeoalgaa
open Go.RowKit
set_option maxHeartbeats 400000
set_option linter.unusedVariables false
/-- What stands in the way of two vectors. -/
def twoE (n m : Nat) : Int := if 4096 < n ∨ 4096 < m then 3 else if n = m then 0 else 4
def oneE (n : Nat) : Int := if 4096 < n then 3 else 0
theorem Check_any (A : Option Addr) (n c : Nat) (hn : n ≤ 9223372036854775807) (w : World) :
    Calls Try.prog 26 #[.slice A n c] w fun e w' => e = .returned (.int .i64 (oneE n)) ∧ w = w' := by
  by_cases h : 4096 < n
  · have e1 : oneE n = 3 := if_pos h
    rw [e1]
    clear e1
    go_enter Try.func26, Try.ntmps26
    go_wp2
    go_ret
    exact ⟨rfl, rfl⟩
  · have e1 : oneE n = 0 := if_neg h
    rw [e1]
    clear e1
    go_enter Try.func26, Try.ntmps26
    go_wp2
    go_ret
    exact ⟨rfl, rfl⟩
theorem match_any (A B : Option Addr) (n m c d : Nat) (hn : n ≤ 9223372036854775807) (hm : m ≤ 9223372036854775807) (w : World) :
    Calls Try.prog 36 #[.slice A n c, .slice B m d] w fun e w' => e = .returned (.int .i64 (twoE n m)) ∧ w = w' := by
  have C1 := hid (Check_any A n c hn)
  have C2 := hid (Check_any B m d hm)
  by_cases h1 : 4096 < n
  · have e1 : twoE n m = 3 := if_pos (Or.inl h1)
    have e2 : oneE n = 3 := if_pos h1
    rw [e2] at C1
    rw [e1]
    clear e1 e2
    go_enter Try.func36, Try.ntmps36
    go_wp2_with fail
    refine (C1.out _).mono ?_
    rintro _ _ ⟨rfl, rfl⟩
    go_wp2_with fail
    go_ret
    exact ⟨rfl, rfl⟩
  · have e2 : oneE n = 0 := if_neg h1
    rw [e2] at C1
    clear e2
    by_cases h2 : 4096 < m
    · have e1 : twoE n m = 3 := if_pos (Or.inr h2)
      have e2 : oneE m = 3 := if_pos h2
      rw [e2] at C2
      rw [e1]
      clear e1 e2
      go_enter Try.func36, Try.ntmps36
      go_wp2_with fail
      refine (C1.out _).mono ?_
      rintro _ _ ⟨rfl, rfl⟩
      go_wp2_with fail
      refine (C2.out _).mono ?_
      rintro _ _ ⟨rfl, rfl⟩
      go_wp2_with fail
      go_ret
      exact ⟨rfl, rfl⟩
    · have e2 : oneE m = 0 := if_neg h2
      rw [e2] at C2
      clear e2
      by_cases h3 : n = m
      · subst h3
        have e1 : twoE n n = 0 := by unfold twoE; rw [if_neg (by omega), if_pos rfl]
        rw [e1]
        clear e1
        go_enter Try.func36, Try.ntmps36
        go_wp2_with fail
        refine (C1.out _).mono ?_
        rintro _ _ ⟨rfl, rfl⟩
        go_wp2_with fail
        refine (C2.out _).mono ?_
        rintro _ _ ⟨rfl, rfl⟩
        go_wp2_with fail
        go_ret
        exact ⟨rfl, rfl⟩
      · have e1 : twoE n m = 4 := by unfold twoE; rw [if_neg (by omega), if_neg h3]
        rw [e1]
        have h4 : ((n : Int) != (m : Int)) = true := by simp; omega
        have h5 : (n != m) = true := by simp; omega
        clear e1
        go_enter Try.func36, Try.ntmps36
        go_wp2_with fail
        refine (C1.out _).mono ?_
        rintro _ _ ⟨rfl, rfl⟩
        go_wp2_with fail
        refine (C2.out _).mono ?_
        rintro _ _ ⟨rfl, rfl⟩
        go_wp2_with fail
        go_ret
        exact ⟨rfl, rfl⟩
def num2 (f : Int → Int → Int) (xs ys : List Int) (k : Nat) : Int × Int := (ckV (f (xs.getD k 0) (ys.getD k 0)), ckE (f (xs.getD k 0) (ys.getD k 0)))
/-- Two vectors, number by number: the error, and the vector. -/
def opE (f : Int → Int → Int) (xs ys : List Int) : Int := if twoE xs.length ys.length = 0 then seqE (num2 f xs ys) xs.length else twoE xs.length ys.length
def opV (f : Int → Int → Int) (xs ys : List Int) : List Int := if twoE xs.length ys.length = 0 then seqV (num2 f xs ys) xs.length else []
theorem twoE_ok {n m : Nat} (h : twoE n m = 0) : n ≤ 4096 ∧ m = n := by
  unfold twoE at h
  split at h
  · cases h
  · split at h
    · omega
    · cases h
theorem OwnInts.onto {xs : List Int} {er : Int} {w wl w' : World} {e : Ending} (h : OwnInts xs er wl e w') (hb : Below w.heap.size w wl) : OwnInts xs er w e w' := by
  obtain ⟨A, c, he, ho, hk⟩ := h
  exact ⟨A, c, he, own_base ho hb.size, hb.trans (hk.mono hb.size)⟩
theorem two_cells (w : World) (u v : Value) (t s : TypeId) :
    ((w.alloc (.cells #[u] t)).alloc (.cells #[v] s)).cell? ⟨w.heap.size, 0, none⟩ = some u ∧ ((w.alloc (.cells #[u] t)).alloc (.cells #[v] s)).cell? ⟨w.heap.size + 1, 0, none⟩ = some v ∧
      Below w.heap.size w ((w.alloc (.cells #[u] t)).alloc (.cells #[v] s)) := by
  refine ⟨?_, ?_, by go_grown⟩ <;> simp [go_sem]
theorem add_H {A B : Option Addr} {c d : Nat} (xs ys : List Int) (hl : ys.length = xs.length) (ix : I64s xs) (iy : I64s ys) (w : World)
    (ra : Rd (Value.int .i64) w w.heap.size A xs) (rb : Rd (Value.int .i64) w w.heap.size B ys) (k : Nat) (hk : k < xs.length) (W : World)
    (hW : Below ((w.alloc (.cells #[.slice A xs.length c] 22)).alloc (.cells #[.slice B ys.length d] 22)).heap.size ((w.alloc (.cells #[.slice A xs.length c] 22)).alloc (.cells #[.slice B ys.length d] 22)) W) :
    Calls Try.prog 38 (#[.int .i64 k] ++ #[.pointer (some ⟨w.heap.size, 0, none⟩), .pointer (some ⟨w.heap.size + 1, 0, none⟩)]) W fun e w' => e = .returned (.tuple #[.int .i64 (num2 (· + ·) xs ys k).1, .int .i64 (num2 (· + ·) xs ys k).2]) ∧ Below W.heap.size W w' := by
  obtain ⟨ca, cb, hb⟩ := two_cells w (.slice A xs.length c) (.slice B ys.length d) 22 22
  obtain ⟨_, _, x, _, _, hx, _⟩ := ra.at_ hk
  obtain ⟨_, _, y, _, _, hy, _⟩ := rb.at_ (show k < ys.length by omega)
  have hB := hb.trans (hW.mono hb.size)
  have h := add_cl xs ys (cell_later hW ca) (cell_later hW cb) (ra.below hB) (rb.below hB) hx hy (ix.at_ hx) (iy.at_ hy)
  unfold num2
  rw [getD_of hx, getD_of hy]
  exact h
theorem Add_any {A B : Option Addr} {c d : Nat} (xs ys : List Int) (hx : xs.length ≤ 9223372036854775807) (hy : ys.length ≤ 9223372036854775807) (ix : I64s xs) (iy : I64s ys) (w : World)
    (ra : Rd (Value.int .i64) w w.heap.size A xs) (rb : Rd (Value.int .i64) w w.heap.size B ys) :
    Calls Try.prog 12 #[.slice A xs.length c, .slice B ys.length d] w (OwnInts (opV (· + ·) xs ys) (opE (· + ·) xs ys) w) := by
  have CM := hid (match_any A B xs.length ys.length c d hx hy)
  by_cases ht : twoE xs.length ys.length = 0
  · have e1 : opE (· + ·) xs ys = seqE (num2 (· + ·) xs ys) xs.length := if_pos ht
    have e2 : opV (· + ·) xs ys = seqV (num2 (· + ·) xs ys) xs.length := if_pos ht
    rw [e1, e2]
    obtain ⟨hn, hl⟩ := twoE_ok ht
    have hH := add_H (c := c) (d := d) xs ys hl ix iy w ra rb
    have hL := hid (list_any _ _ xs.length hn _ (num2 (· + ·) xs ys) add_ok hH)
    have hll := hid hl
    rw [ht] at CM
    clear e1 e2 hH ix iy ra rb hl ht
    go_enter Try.func12, Try.ntmps12
    go_wp2_with fail
    refine (CM.out _).mono ?_
    rintro _ _ ⟨rfl, rfl⟩
    go_wp2_with fail
    refine hL.out.mono ?_
    rintro _ w1 ⟨A', c', rfl, ho, hb⟩
    go_wp2_with fail
    go_ret2
    have hb0 := (two_cells w (.slice A xs.length c) (.slice B ys.length d) 22 22).2.2
    exact OwnInts.onto ⟨A', c', rfl, ho, hb⟩ hb0
  · have e1 : opE (· + ·) xs ys = twoE xs.length ys.length := if_neg ht
    have e2 : opV (· + ·) xs ys = [] := if_neg ht
    rw [e1, e2]
    clear e1 e2
    obtain ⟨t, hte⟩ : ∃ t, twoE xs.length ys.length = t := ⟨_, rfl⟩
    rw [hte] at ht CM ⊢
    have hne : (t != 0) = true := by simpa using ht
    clear ra rb ix iy hte ht
    go_enter Try.func12, Try.ntmps12
    go_wp2_with fail
    refine (CM.out _).mono ?_
    rintro _ _ ⟨rfl, rfl⟩
    go_wp2_with fail
    go_ret2
    exact ⟨none, 0, rfl, own_nil _ _ _, (two_cells w _ _ _ _).2.2⟩
theorem sub_H {A B : Option Addr} {c d : Nat} (xs ys : List Int) (hl : ys.length = xs.length) (ix : I64s xs) (iy : I64s ys) (w : World)
    (ra : Rd (Value.int .i64) w w.heap.size A xs) (rb : Rd (Value.int .i64) w w.heap.size B ys) (k : Nat) (hk : k < xs.length) (W : World)
    (hW : Below ((w.alloc (.cells #[.slice A xs.length c] 22)).alloc (.cells #[.slice B ys.length d] 22)).heap.size ((w.alloc (.cells #[.slice A xs.length c] 22)).alloc (.cells #[.slice B ys.length d] 22)) W) :
    Calls Try.prog 42 (#[.int .i64 k] ++ #[.pointer (some ⟨w.heap.size, 0, none⟩), .pointer (some ⟨w.heap.size + 1, 0, none⟩)]) W fun e w' => e = .returned (.tuple #[.int .i64 (num2 (· - ·) xs ys k).1, .int .i64 (num2 (· - ·) xs ys k).2]) ∧ Below W.heap.size W w' := by
  obtain ⟨ca, cb, hb⟩ := two_cells w (.slice A xs.length c) (.slice B ys.length d) 22 22
  obtain ⟨_, _, x, _, _, hx, _⟩ := ra.at_ hk
  obtain ⟨_, _, y, _, _, hy, _⟩ := rb.at_ (show k < ys.length by omega)
  have hB := hb.trans (hW.mono hb.size)
  have h := sub_cl xs ys (cell_later hW ca) (cell_later hW cb) (ra.below hB) (rb.below hB) hx hy (ix.at_ hx) (iy.at_ hy)
  unfold num2
  rw [getD_of hx, getD_of hy]
  exact h
theorem Sub_any {A B : Option Addr} {c d : Nat} (xs ys : List Int) (hx : xs.length ≤ 9223372036854775807) (hy : ys.length ≤ 9223372036854775807) (ix : I64s xs) (iy : I64s ys) (w : World)
    (ra : Rd (Value.int .i64) w w.heap.size A xs) (rb : Rd (Value.int .i64) w w.heap.size B ys) :
    Calls Try.prog 15 #[.slice A xs.length c, .slice B ys.length d] w (OwnInts (opV (· - ·) xs ys) (opE (· - ·) xs ys) w) := by
  have CM := hid (match_any A B xs.length ys.length c d hx hy)
  by_cases ht : twoE xs.length ys.length = 0
  · have e1 : opE (· - ·) xs ys = seqE (num2 (· - ·) xs ys) xs.length := if_pos ht
    have e2 : opV (· - ·) xs ys = seqV (num2 (· - ·) xs ys) xs.length := if_pos ht
    rw [e1, e2]
    obtain ⟨hn, hl⟩ := twoE_ok ht
    have hH := sub_H (c := c) (d := d) xs ys hl ix iy w ra rb
    have hL := hid (list_any _ _ xs.length hn _ (num2 (· - ·) xs ys) sub_ok hH)
    have hll := hid hl
    rw [ht] at CM
    clear e1 e2 hH ix iy ra rb hl ht
    go_enter Try.func15, Try.ntmps15
    go_wp2_with fail
    refine (CM.out _).mono ?_
    rintro _ _ ⟨rfl, rfl⟩
    go_wp2_with fail
    refine hL.out.mono ?_
    rintro _ w1 ⟨A', c', rfl, ho, hb⟩
    go_wp2_with fail
    go_ret2
    have hb0 := (two_cells w (.slice A xs.length c) (.slice B ys.length d) 22 22).2.2
    exact OwnInts.onto ⟨A', c', rfl, ho, hb⟩ hb0
  · have e1 : opE (· - ·) xs ys = twoE xs.length ys.length := if_neg ht
    have e2 : opV (· - ·) xs ys = [] := if_neg ht
    rw [e1, e2]
    clear e1 e2
    obtain ⟨t, hte⟩ : ∃ t, twoE xs.length ys.length = t := ⟨_, rfl⟩
    rw [hte] at ht CM ⊢
    have hne : (t != 0) = true := by simpa using ht
    clear ra rb ix iy hte ht
    go_enter Try.func15, Try.ntmps15
    go_wp2_with fail
    refine (CM.out _).mono ?_
    rintro _ _ ⟨rfl, rfl⟩
    go_wp2_with fail
    go_ret2
    exact ⟨none, 0, rfl, own_nil _ _ _, (two_cells w _ _ _ _).2.2⟩
/-- A product with so many bits behind the point: the number, and the error. -/
def mulV (a b m : Int) : Int := if m < 0 ∨ 30 < m then 0 else ckV (a * b / 2 ^ m.toNat)
def mulE (a b m : Int) : Int := if m < 0 ∨ 30 < m then 1 else ckE (a * b / 2 ^ m.toNat)
def behE (m : Int) : Int := if m < 0 ∨ 30 < m then 1 else 0
theorem fix_mul (a b m : Int) (ha : I64 a) (hb : I64 b) (w : World) :
    Calls Try.prog 47 #[.int .i64 a, .int .i64 b, .int .i64 m] w fun r W' => r = .returned (.tuple #[.int .i64 (mulV a b m), .int .i64 (mulE a b m)]) ∧ Below w.heap.size w W' := by
  by_cases h : m < 0 ∨ 30 < m
  · rw [show mulV a b m = 0 from if_pos h, show mulE a b m = 1 from if_pos h]
    exact Mul_bad a b m h w
  · rw [show mulV a b m = ckV (a * b / 2 ^ m.toNat) from if_neg h, show mulE a b m = ckE (a * b / 2 ^ m.toNat) from if_neg h]
    obtain ⟨k, rfl⟩ := Int.eq_ofNat_of_zero_le (show 0 ≤ m by omega)
    exact fix_Mul a b k (by omega) ha hb w
theorem vec_behind (m : Int) (w : World) :
    Calls Try.prog 45 #[.int .i64 m] w fun r W' => r = .returned (.int .i64 (behE m)) ∧ Below w.heap.size w W' := by
  have C := hid (fix_mul 0 0 m (by decide) (by decide))
  have e : mulE 0 0 m = behE m := by
    unfold mulE behE
    split
    · rfl
    · rw [Int.zero_mul, Int.zero_ediv]; decide
  rw [e] at C
  clear e
  go_enter Try.func45, Try.ntmps45
  go_wp2_with fail
  refine (C.out _).mono ?_
  rintro _ w1 ⟨rfl, hb1⟩
  go_wp2_with fail
  go_ret
  exact ⟨rfl, hb1⟩
theorem vec_bound (m : Int) (hm : I64 m) (w : World) :
    Calls Try.prog 49 #[.int .i64 m] w fun r W' => r = .returned (.int .i64 (clipE m)) ∧ w = W' := by
  have C := hid (fix_Clip 0 m (by decide) hm)
  go_enter Try.func49, Try.ntmps49
  go_wp2_with fail
  refine (C.out _).mono ?_
  rintro _ w1 ⟨rfl, rfl⟩
  go_wp2_with fail
  go_ret
  exact ⟨rfl, rfl⟩
def bndE (n : Nat) (q : Int) : Int := if 4096 < n then 3 else q
def unE (q : Int) (num : Nat → Int × Int) (n : Nat) : Int := if bndE n q = 0 then seqE num n else bndE n q
def unV (q : Int) (num : Nat → Int × Int) (n : Nat) : List Int := if bndE n q = 0 then seqV num n else []
theorem un_long {n : Nat} (h : 4096 < n) (q : Int) (num : Nat → Int × Int) : unE q num n = 3 ∧ unV q num n = [] := by
  have e : bndE n q = 3 := if_pos h
  unfold unE unV
  rw [e]
  exact ⟨rfl, rfl⟩
theorem un_bad {n : Nat} (h : ¬ 4096 < n) {q : Int} (hq : q ≠ 0) (num : Nat → Int × Int) : unE q num n = q ∧ unV q num n = [] := by
  have e : bndE n q = q := if_neg h
  unfold unE unV
  rw [e, if_neg hq, if_neg hq]
  exact ⟨rfl, rfl⟩
theorem un_ok {n : Nat} (h : ¬ 4096 < n) (num : Nat → Int × Int) : unE 0 num n = seqE num n ∧ unV 0 num n = seqV num n := by
  have e : bndE n 0 = 0 := if_neg h
  unfold unE unV
  rw [e]
  exact ⟨rfl, rfl⟩
def numS (xs : List Int) (b m : Int) (k : Nat) : Int × Int := (mulV (xs.getD k 0) b m, mulE (xs.getD k 0) b m)
def numC (xs : List Int) (m : Int) (k : Nat) : Int × Int := (clipV (xs.getD k 0) m, clipE m)
def numA (xs : List Int) (k : Nat) : Int × Int := (ckV (absI (xs.getD k 0)), ckE (absI (xs.getD k 0)))
def numD (xs ys : List Int) (m : Int) (k : Nat) : Int × Int := (mulV (xs.getD k 0) (ys.getD k 0) m, mulE (xs.getD k 0) (ys.getD k 0) m)
theorem three_cells (w : World) (u v x : Value) (t s r : TypeId) :
    (((w.alloc (.cells #[u] t)).alloc (.cells #[v] s)).alloc (.cells #[x] r)).cell? ⟨w.heap.size, 0, none⟩ = some u ∧ (((w.alloc (.cells #[u] t)).alloc (.cells #[v] s)).alloc (.cells #[x] r)).cell? ⟨w.heap.size + 1, 0, none⟩ = some v ∧
      (((w.alloc (.cells #[u] t)).alloc (.cells #[v] s)).alloc (.cells #[x] r)).cell? ⟨w.heap.size + 1 + 1, 0, none⟩ = some x ∧ Below w.heap.size w (((w.alloc (.cells #[u] t)).alloc (.cells #[v] s)).alloc (.cells #[x] r)) := by
  refine ⟨?_, ?_, ?_, by go_grown⟩ <;> simp [go_sem]
theorem one_cell (w : World) (u : Value) (t : TypeId) : (w.alloc (.cells #[u] t)).cell? ⟨w.heap.size, 0, none⟩ = some u ∧ Below w.heap.size w (w.alloc (.cells #[u] t)) := by
  refine ⟨?_, by go_grown⟩; simp [go_sem]
theorem scale_H {A : Option Addr} {c : Nat} (xs : List Int) (ix : I64s xs) (b m : Int) (hb : I64 b) (w : World) (ra : Rd (Value.int .i64) w w.heap.size A xs) (wb wl : World)
    (ca : wb.cell? ⟨w.heap.size, 0, none⟩ = some (.slice A xs.length c)) (cb : wb.cell? ⟨w.heap.size + 1, 0, none⟩ = some (.int .i64 b)) (cm : wb.cell? ⟨w.heap.size + 1 + 1, 0, none⟩ = some (.int .i64 m)) (hwb : Below w.heap.size w wb) (hwl : Below wb.heap.size wb wl)
    (k : Nat) (hk : k < xs.length) (W : World) (hW : Below wl.heap.size wl W) :
    Calls Try.prog 46 (#[.int .i64 k] ++ #[.pointer (some ⟨w.heap.size, 0, none⟩), .pointer (some ⟨w.heap.size + 1, 0, none⟩), .pointer (some ⟨w.heap.size + 1 + 1, 0, none⟩)]) W fun e w' => e = .returned (.tuple #[.int .i64 (numS xs b m k).1, .int .i64 (numS xs b m k).2]) ∧ Below W.heap.size W w' := by
  obtain ⟨_, _, x, _, _, hx, _⟩ := ra.at_ hk
  have hw := hwl.trans (hW.mono hwl.size)
  have h := scale_cl xs (cell_later hw ca) (cell_later hw cb) (cell_later hw cm) (ra.below (hwb.trans (hw.mono hwb.size))) hx (fix_mul x b m (ix.at_ hx) hb)
  unfold numS
  rw [getD_of hx]
  exact h
theorem Scale_any {A : Option Addr} {c : Nat} (xs : List Int) (hx : xs.length ≤ 9223372036854775807) (ix : I64s xs) (b m : Int) (hb : I64 b) (w : World) (ra : Rd (Value.int .i64) w w.heap.size A xs) :
    Calls Try.prog 17 #[.slice A xs.length c, .int .i64 b, .int .i64 m] w (OwnInts (unV (behE m) (numS xs b m) xs.length) (unE (behE m) (numS xs b m) xs.length) w) := by
  have CM := hid (Check_any A xs.length c hx)
  have CB := hid (vec_behind m)
  obtain ⟨k1, k2, k3, hb0⟩ := three_cells w (.slice A xs.length c) (.int .i64 b) (.int .i64 m) 22 2 3
  by_cases hn : 4096 < xs.length
  · have e := un_long hn (behE m) (numS xs b m)
    rw [e.1, e.2]
    rw [show oneE xs.length = 3 from if_pos hn] at CM
    clear e ra ix k1 k2 k3
    have HB := hid hb0
    clear hb0
    go_enter Try.func17, Try.ntmps17
    go_wp2_with fail
    refine (CM.out _).mono ?_
    rintro _ _ ⟨rfl, rfl⟩
    go_wp2_with fail
    go_ret2
    exact ⟨none, 0, rfl, own_nil _ _ _, HB.out⟩
  · rw [show oneE xs.length = 0 from if_neg hn] at CM
    by_cases hq : behE m = 0
    · rw [hq] at CB ⊢
      have e := un_ok hn (numS xs b m)
      rw [e.1, e.2]
      have hH := hid (fun wl => scale_H xs ix b m hb w ra _ wl k1 k2 k3 hb0)
      have HB := hid hb0
      clear e hq k1 k2 k3 hb0 ix
      go_enter Try.func17, Try.ntmps17
      go_wp2_with fail
      refine (CM.out _).mono ?_
      rintro _ _ ⟨rfl, rfl⟩
      go_wp2_with fail
      refine (CB.out _).mono ?_
      rintro _ w1 ⟨rfl, hb1⟩
      obtain ⟨hc1, hf1⟩ := bcells hb1
      go_wp2_with fail
      refine (list_any _ _ xs.length (by omega) _ (numS xs b m) scale_ok (hH.out w1 hb1)).mono ?_
      rintro _ w2 ⟨A', c', rfl, ho, hb2⟩
      go_wp2_with fail
      go_ret2
      exact OwnInts.onto (OwnInts.onto ⟨A', c', rfl, ho, hb2⟩ hb1) HB.out
    · have e := un_bad hn hq (numS xs b m)
      rw [e.1, e.2]
      obtain ⟨q, hqe⟩ : ∃ q, behE m = q := ⟨_, rfl⟩
      rw [hqe] at hq CB ⊢
      have hne : (q != 0) = true := by simpa using hq
      have HB := hid hb0
      clear e hq k1 k2 k3 hb0 ix hqe ra
      go_enter Try.func17, Try.ntmps17
      go_wp2_with fail
      refine (CM.out _).mono ?_
      rintro _ _ ⟨rfl, rfl⟩
      go_wp2_with fail
      refine (CB.out _).mono ?_
      rintro _ w1 ⟨rfl, hb1⟩
      go_wp2_with fail
      go_ret2
      exact ⟨none, 0, rfl, own_nil _ _ _, HB.out.trans (hb1.mono HB.out.size)⟩
end Go.Proofs.Ytmljhckbeoalgaa
