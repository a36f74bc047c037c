
/- Gb: texts joined: Mul VecC Vec Vec2 Vec3 Vec4 RefA RefB VecR VecS VecT VecU VecM VecN VecO LnM ArgX LnA LnB LpA LpB LpC LpD LpE LnC Div64 RefC LnF LnN. -/
import Derived.Test.YtcjkofcgphcjnaaGFixB
import Derived.Test.YtcjkofcgphcjnaaGa
import Derived.Deep.QuietTactic
import Derived.BigQuiet
import Derived.Outline
import Derived.StillTailTactics
import Derived.Deep.RegionHeld3
import Derived.Deep.Slices
import Derived.ChangeSame
import Derived.Deep.CutRange
import Derived.Deep.CutBlock
import Derived.Lib.BitFns
import Derived.Lib.ItoaNum
namespace Go.Proofs.Ytcjkofcgphcjnaa
open Go.RowKit
set_option maxHeartbeats 400000
set_option maxRecDepth 100000
set_option linter.unusedVariables false
theorem behind_yes (n : Int) (h1 : 0 ≤ n) (h2 : n ≤ 30) (w : World) :
    Calls Try.prog 57 #[.int .i64 n] w fun e w' => e = .returned (.bool true) ∧ w = w' := by
  go_enter Try.func57, Try.ntmps57
  go_wp2
  go_ret
  exact ⟨by simp, rfl⟩
theorem behind_no (n : Int) (h : n < 0 ∨ 30 < n) (w : World) :
    Calls Try.prog 57 #[.int .i64 n] w fun e w' => e = .returned (.bool false) ∧ w = w' := by
  by_cases h1 : n < 0
  · clear h
    go_enter Try.func57, Try.ntmps57
    go_wp2
    go_ret
    exact ⟨by simp, rfl⟩
  · have h2 : 30 < n := by omega
    clear h
    go_enter Try.func57, Try.ntmps57
    go_wp2
    go_ret
    exact ⟨by simp; omega, rfl⟩
theorem i128_mul {a b : Int} (ha : I64 a) (hb : I64 b) : I128 (a * b) := by
  unfold I64 at ha hb
  have h1 : (a + 9223372036854775808) * (b + 9223372036854775808) ≥ 0 := Int.mul_nonneg (by omega) (by omega)
  have h2 : (9223372036854775808 - a) * (b + 9223372036854775808) ≥ 0 := Int.mul_nonneg (by omega) (by omega)
  have h3 : (9223372036854775808 - a) * (9223372036854775808 - b) ≥ 0 := Int.mul_nonneg (by omega) (by omega)
  have h4 : (a + 9223372036854775808) * (9223372036854775808 - b) ≥ 0 := Int.mul_nonneg (by omega) (by omega)
  simp only [Int.add_mul, Int.mul_add, Int.sub_mul, Int.mul_sub] at h1 h2 h3 h4
  unfold I128
  generalize a * b = p at *
  omega
theorem i128_div {s d : Int} (hs : I128 s) (hd : 1 ≤ d) : I128 (s / d) := by
  unfold I128 at *
  constructor
  · exact Int.le_ediv_of_mul_le (by omega) (by
      have := Int.mul_le_mul_of_nonneg_left hd (show (0:Int) ≤ 170141183460469231731687303715884105728 by decide)
      omega)
  · have : s / d < 170141183460469231731687303715884105728 := Int.ediv_lt_of_lt_mul (by omega) (by
      have := Int.mul_le_mul_of_nonneg_left hd (show (0:Int) ≤ 170141183460469231731687303715884105728 by decide)
      omega)
    omega
theorem i64_pow {k : Nat} (hk : k ≤ 30) : I64 (2 ^ k) ∧ (2 : Int) ^ k ≤ 1073741824 ∧ 1 ≤ (2 : Int) ^ k := by
  have h0 : (0 : Int) < 2 ^ k := Int.pow_pos (by decide)
  have h1 : (2 : Int) ^ k ≤ 2 ^ 30 := by exact_mod_cast Nat.pow_le_pow_right (show 0 < 2 by decide) hk
  unfold I64
  omega
theorem fix_Mul (a b : Int) (k : Nat) (hk : k ≤ 30) (ha : I64 a) (hb : I64 b) (w : World) :
    Calls Try.prog 41 #[.int .i64 a, .int .i64 b, .int .i64 k] w fun e w' => e = .returned (.tuple #[.int .i64 (ckV (a * b / 2 ^ k)), .int .i64 (ckE (a * b / 2 ^ k))]) ∧ Below w.heap.size w w' := by
  go_enter Try.func41, Try.ntmps41
  go_wp2_with fail
  refine (behind_yes _ (by omega) (by omega) _).mono ?_
  rintro e w' ⟨rfl, rfl⟩
  go_wp2_with fail
  refine (fix_times _ _ ha hb _).mono ?_
  rintro e w1 ⟨rfl, hb1⟩
  go_wp2_with fail
  refine (fix_shift _ k (i128_mul ha hb) hk _).mono ?_
  rintro e w2 ⟨rfl, hb2⟩
  go_wp2_with fail
  refine (fix_number _ (i128_div (i128_mul ha hb) (i64_pow hk).2.2) _).mono ?_
  rintro e w3 ⟨rfl, hb3⟩
  go_wp2_with fail
  go_ret2
  exact ⟨rfl, (hb1.trans (hb2.mono hb1.size)).trans (hb3.mono (Nat.le_trans hb1.size hb2.size))⟩
theorem Mul_bad (a b n : Int) (h : n < 0 ∨ 30 < n) (w : World) :
    Calls Try.prog 41 #[.int .i64 a, .int .i64 b, .int .i64 n] w fun e w' => e = .returned (.tuple #[.int .i64 0, .int .i64 1]) ∧ Below w.heap.size w w' := by
  go_enter Try.func41, Try.ntmps41
  go_wp2_with fail
  refine (behind_no _ h _).mono ?_
  rintro e w' ⟨rfl, rfl⟩
  go_wp2_with fail
  go_ret2
  exact ⟨rfl, Below.refl _ _⟩
end Go.Proofs.Ytcjkofcgphcjnaa
/- The function values that vec hands on: each number by its place. -/
namespace Go.Proofs.Ytcjkofcgphcjnaa
open Go.RowKit
set_option maxHeartbeats 400000
set_option maxRecDepth 100000
set_option linter.unusedVariables false
theorem add_cl {pa pb k : Nat} {A B : Option Addr} {c d : Nat} {w : World} {x y : Int} (xs ys : List Int)
    (ha : w.cell? ⟨pa, 0, none⟩ = some (.slice A xs.length c)) (hb : w.cell? ⟨pb, 0, none⟩ = some (.slice B ys.length d)) {L M : Nat}
    (ra : Rd (Value.int .i64) w L A xs) (rb : Rd (Value.int .i64) w M B ys) (hx : xs[k]? = some x) (hy : ys[k]? = some y) (ix : I64 x) (iy : I64 y) :
    Calls Try.prog 62 (#[.int .i64 k] ++ #[.pointer (some ⟨pa, 0, none⟩), .pointer (some ⟨pb, 0, none⟩)]) w fun e w' => e = .returned (.tuple #[.int .i64 (ckV (x + y)), .int .i64 (ckE (x + y))]) ∧ Below w.heap.size w w' := by
  obtain ⟨b1, o1, rfl, _, c1⟩ := ra k x hx
  obtain ⟨b2, o2, rfl, _, c2⟩ := rb k y hy
  have l1 : k < xs.length := (List.getElem?_eq_some_iff.1 hx).1
  have l2 : k < ys.length := (List.getElem?_eq_some_iff.1 hy).1
  have C := fun W => fix_Add x y ix iy W
  clear ra rb hx hy
  have C' := hid C
  clear C
  go_enter Try.func62, Try.ntmps62
  go_wp2_with fail
  go_quiet ((go_at_call 28; exact quietL C'.out _))
  go_wp2_with fail
  go_ret2
  exact ⟨rfl, belowN _ _ _⟩
theorem scale_cl {pa pb pc k : Nat} {A : Option Addr} {c : Nat} {w : World} {x by_ m v er : Int} (xs : List Int)
    (ha : w.cell? ⟨pa, 0, none⟩ = some (.slice A xs.length c)) (hb : w.cell? ⟨pb, 0, none⟩ = some (.int .i64 by_)) (hc : w.cell? ⟨pc, 0, none⟩ = some (.int .i64 m)) {L : Nat}
    (ra : Rd (Value.int .i64) w L A xs) (hx : xs[k]? = some x) (C : ∀ W, Calls Try.prog 41 #[.int .i64 x, .int .i64 by_, .int .i64 m] W fun r W' => r = .returned (.tuple #[.int .i64 v, .int .i64 er]) ∧ Below W.heap.size W W') :
    Calls Try.prog 46 (#[.int .i64 k] ++ #[.pointer (some ⟨pa, 0, none⟩), .pointer (some ⟨pb, 0, none⟩), .pointer (some ⟨pc, 0, none⟩)]) w fun e w' => e = .returned (.tuple #[.int .i64 v, .int .i64 er]) ∧ Below w.heap.size w w' := by
  obtain ⟨b1, o1, rfl, _, c1⟩ := ra k x hx
  have l1 : k < xs.length := (List.getElem?_eq_some_iff.1 hx).1
  clear ra hx
  have C' := hid C
  clear C
  go_enter Try.func46, Try.ntmps46
  go_wp2_with fail
  have la := lt_of_cell ha
  have lb := lt_of_cell hb
  have lc := lt_of_cell hc
  have lx := lt_of_cell c1
  go_region_held3 (fun w' => w'.cell? ⟨pa, 0, none⟩ = some (.slice (some ⟨b1, o1, none⟩) xs.length c) ∧ w'.cell? ⟨b1, o1 + k, none⟩ = some (.int .i64 x) ∧ w'.cell? ⟨pb, 0, none⟩ = some (.int .i64 by_) ∧ w'.cell? ⟨pc, 0, none⟩ = some (.int .i64 m) ∧ Below w.heap.size w w') (first | exact ⟨ha, c1, hb, hc, (Below.refl _ _).drew⟩ | (have hk := below_step ((Below.refl _ _).drew) hb1 (Nat.le_refl _); exact ⟨(hk.cell la).trans ha, (hk.cell lx).trans c1, (hk.cell lb).trans hb, (hk.cell lc).trans hc, hk⟩) | go_keep)
    (first | (go_at_call 41; refine (C'.out _).mono ?_; rintro e w1 ⟨rfl, hb1⟩))
  go_wp2_with fail
  go_ret2
  exact ⟨rfl, below_step ((Below.refl _ _).drew) hb1 (Nat.le_refl _)⟩
theorem dot_cl {pa pb pc k : Nat} {A B : Option Addr} {c d : Nat} {w : World} {x y m v er : Int} (xs ys : List Int)
    (ha : w.cell? ⟨pa, 0, none⟩ = some (.slice A xs.length c)) (hb : w.cell? ⟨pb, 0, none⟩ = some (.slice B ys.length d)) (hc : w.cell? ⟨pc, 0, none⟩ = some (.int .i64 m)) {L M : Nat}
    (ra : Rd (Value.int .i64) w L A xs) (rb : Rd (Value.int .i64) w M B ys) (hx : xs[k]? = some x) (hy : ys[k]? = some y) (C : ∀ W, Calls Try.prog 41 #[.int .i64 x, .int .i64 y, .int .i64 m] W fun r W' => r = .returned (.tuple #[.int .i64 v, .int .i64 er]) ∧ Below W.heap.size W W') :
    Calls Try.prog 49 (#[.int .i64 k] ++ #[.pointer (some ⟨pa, 0, none⟩), .pointer (some ⟨pb, 0, none⟩), .pointer (some ⟨pc, 0, none⟩)]) w fun e w' => e = .returned (.tuple #[.int .i64 v, .int .i64 er]) ∧ Below w.heap.size w w' := by
  obtain ⟨b1, o1, rfl, _, c1⟩ := ra k x hx
  obtain ⟨b2, o2, rfl, _, c2⟩ := rb k y hy
  have l1 : k < xs.length := (List.getElem?_eq_some_iff.1 hx).1
  have l2 : k < ys.length := (List.getElem?_eq_some_iff.1 hy).1
  clear ra hx rb hy
  have C' := hid C
  clear C
  go_enter Try.func49, Try.ntmps49
  go_wp2_with fail
  have la := lt_of_cell ha
  have lb := lt_of_cell hb
  have lc := lt_of_cell hc
  have lx := lt_of_cell c1
  have ly := lt_of_cell c2
  go_region_held3 (fun w' => w'.cell? ⟨pa, 0, none⟩ = some (.slice (some ⟨b1, o1, none⟩) xs.length c) ∧ w'.cell? ⟨b1, o1 + k, none⟩ = some (.int .i64 x) ∧ w'.cell? ⟨pb, 0, none⟩ = some (.slice (some ⟨b2, o2, none⟩) ys.length d) ∧ w'.cell? ⟨b2, o2 + k, none⟩ = some (.int .i64 y) ∧ w'.cell? ⟨pc, 0, none⟩ = some (.int .i64 m) ∧ Below w.heap.size w w') (first | exact ⟨ha, c1, hb, c2, hc, (Below.refl _ _).drew⟩ | (have hk := below_step ((Below.refl _ _).drew) hb1 (Nat.le_refl _); exact ⟨(hk.cell la).trans ha, (hk.cell lx).trans c1, (hk.cell lb).trans hb, (hk.cell ly).trans c2, (hk.cell lc).trans hc, hk⟩) | go_keep)
    (first | (go_at_call 41; refine (C'.out _).mono ?_; rintro e w1 ⟨rfl, hb1⟩))
  go_wp2_with fail
  go_ret2
  exact ⟨rfl, below_step ((Below.refl _ _).drew) hb1 (Nat.le_refl _)⟩
theorem add_ok (args : Array Value) (W : World) : (callFunc 62 args).run Try.prog W = .ok (.enter 62 args) W := cl_enter 62 (by kernel_rfl) args W
theorem scale_ok (args : Array Value) (W : World) : (callFunc 46 args).run Try.prog W = .ok (.enter 46 args) W := cl_enter 46 (by kernel_rfl) args W
theorem dot_ok (args : Array Value) (W : World) : (callFunc 49 args).run Try.prog W = .ok (.enter 49 args) W := cl_enter 49 (by kernel_rfl) args W
end Go.Proofs.Ytcjkofcgphcjnaa
/- vec's functions, each by its contract. -/
namespace Go.Proofs.Ytcjkofcgphcjnaa
open Go.RowKit
set_option maxHeartbeats 400000
set_option maxRecDepth 100000
set_option linter.unusedVariables false
/-- What stands in the way of two vectors. -/
def twoE (n m : Nat) : Int := if 4096 < n ∨ 4096 < m then 3 else if n = m then 0 else 4
def oneE (n : Nat) : Int := if 4096 < n then 3 else 0
theorem Check_any (A : Option Addr) (n c : Nat) (hn : n ≤ 9223372036854775807) (w : World) :
    Calls Try.prog 43 #[.slice A n c] w fun e w' => e = .returned (.int .i64 (oneE n)) ∧ w = w' := by
  by_cases h : 4096 < n
  · have e1 : oneE n = 3 := if_pos h
    rw [e1]
    clear e1
    go_enter Try.func43, Try.ntmps43
    go_wp2
    go_ret
    exact ⟨rfl, rfl⟩
  · have e1 : oneE n = 0 := if_neg h
    rw [e1]
    clear e1
    go_enter Try.func43, Try.ntmps43
    go_wp2
    go_ret
    exact ⟨rfl, rfl⟩
theorem match_any (A B : Option Addr) (n m c d : Nat) (hn : n ≤ 9223372036854775807) (hm : m ≤ 9223372036854775807) (w : World) :
    Calls Try.prog 47 #[.slice A n c, .slice B m d] w fun e w' => e = .returned (.int .i64 (twoE n m)) ∧ w = w' := by
  have C1 := hid (Check_any A n c hn)
  have C2 := hid (Check_any B m d hm)
  by_cases h1 : 4096 < n
  · have e1 : twoE n m = 3 := if_pos (Or.inl h1)
    have e2 : oneE n = 3 := if_pos h1
    rw [e2] at C1
    rw [e1]
    clear e1 e2
    go_enter Try.func47, Try.ntmps47
    go_wp2_with fail
    refine (C1.out _).mono ?_
    rintro _ _ ⟨rfl, rfl⟩
    go_wp2_with fail
    go_ret
    exact ⟨rfl, rfl⟩
  · have e2 : oneE n = 0 := if_neg h1
    rw [e2] at C1
    clear e2
    by_cases h2 : 4096 < m
    · have e1 : twoE n m = 3 := if_pos (Or.inr h2)
      have e2 : oneE m = 3 := if_pos h2
      rw [e2] at C2
      rw [e1]
      clear e1 e2
      go_enter Try.func47, Try.ntmps47
      go_wp2_with fail
      refine (C1.out _).mono ?_
      rintro _ _ ⟨rfl, rfl⟩
      go_wp2_with fail
      refine (C2.out _).mono ?_
      rintro _ _ ⟨rfl, rfl⟩
      go_wp2_with fail
      go_ret
      exact ⟨rfl, rfl⟩
    · have e2 : oneE m = 0 := if_neg h2
      rw [e2] at C2
      clear e2
      by_cases h3 : n = m
      · subst h3
        have e1 : twoE n n = 0 := by unfold twoE; rw [if_neg (by omega), if_pos rfl]
        rw [e1]
        clear e1
        go_enter Try.func47, Try.ntmps47
        go_wp2_with fail
        refine (C1.out _).mono ?_
        rintro _ _ ⟨rfl, rfl⟩
        go_wp2_with fail
        refine (C2.out _).mono ?_
        rintro _ _ ⟨rfl, rfl⟩
        go_wp2_with fail
        go_ret
        exact ⟨rfl, rfl⟩
      · have e1 : twoE n m = 4 := by unfold twoE; rw [if_neg (by omega), if_neg h3]
        rw [e1]
        have h4 : ((n : Int) != (m : Int)) = true := by simp; omega
        have h5 : (n != m) = true := by simp; omega
        clear e1
        go_enter Try.func47, Try.ntmps47
        go_wp2_with fail
        refine (C1.out _).mono ?_
        rintro _ _ ⟨rfl, rfl⟩
        go_wp2_with fail
        refine (C2.out _).mono ?_
        rintro _ _ ⟨rfl, rfl⟩
        go_wp2_with fail
        go_ret
        exact ⟨rfl, rfl⟩
def numV2 (f : Int → Int → Int) (xs ys : List Int) (k : Nat) : Int × Int := (ckV (f (xs.getD k 0) (ys.getD k 0)), ckE (f (xs.getD k 0) (ys.getD k 0)))
/-- Two vectors, number by number: the error, and the vector. -/
def opE (f : Int → Int → Int) (xs ys : List Int) : Int := if twoE xs.length ys.length = 0 then seqE (numV2 f xs ys) xs.length else twoE xs.length ys.length
def opV (f : Int → Int → Int) (xs ys : List Int) : List Int := if twoE xs.length ys.length = 0 then seqV (numV2 f xs ys) xs.length else []
theorem twoE_ok {n m : Nat} (h : twoE n m = 0) : n ≤ 4096 ∧ m = n := by
  unfold twoE at h
  split at h
  · cases h
  · split at h
    · omega
    · cases h
theorem OwnInts.onto {xs : List Int} {er : Int} {w wl w' : World} {e : Ending} (h : OwnInts xs er wl e w') (hb : Below w.heap.size w wl) : OwnInts xs er w e w' := by
  obtain ⟨A, c, he, ho, hk⟩ := h
  exact ⟨A, c, he, own_base ho hb.size, hb.trans (hk.mono hb.size)⟩
theorem add_H {A B : Option Addr} {c d : Nat} (xs ys : List Int) (hl : ys.length = xs.length) (ix : I64s xs) (iy : I64s ys) (w : World)
    (ra : Rd (Value.int .i64) w w.heap.size A xs) (rb : Rd (Value.int .i64) w w.heap.size B ys) (k : Nat) (hk : k < xs.length) (W : World)
    (hW : Below ((w.alloc (.cells #[.slice A xs.length c] 22)).alloc (.cells #[.slice B ys.length d] 22)).heap.size ((w.alloc (.cells #[.slice A xs.length c] 22)).alloc (.cells #[.slice B ys.length d] 22)) W) :
    Calls Try.prog 62 (#[.int .i64 k] ++ #[.pointer (some ⟨w.heap.size, 0, none⟩), .pointer (some ⟨w.heap.size + 1, 0, none⟩)]) W fun e w' => e = .returned (.tuple #[.int .i64 (numV2 (· + ·) xs ys k).1, .int .i64 (numV2 (· + ·) xs ys k).2]) ∧ Below W.heap.size W w' := by
  obtain ⟨ca, cb, hb⟩ := two_cells w (.slice A xs.length c) (.slice B ys.length d) 22 22
  obtain ⟨_, _, x, _, _, hx, _⟩ := ra.at_ hk
  obtain ⟨_, _, y, _, _, hy, _⟩ := rb.at_ (show k < ys.length by omega)
  have hB := hb.trans (hW.mono hb.size)
  have h := add_cl xs ys (cell_later hW ca) (cell_later hW cb) (ra.below hB) (rb.below hB) hx hy (ix.at_ hx) (iy.at_ hy)
  unfold numV2
  rw [getD_of hx, getD_of hy]
  exact h
theorem Add_any {A B : Option Addr} {c d : Nat} (xs ys : List Int) (hx : xs.length ≤ 9223372036854775807) (hy : ys.length ≤ 9223372036854775807) (ix : I64s xs) (iy : I64s ys) (w : World)
    (ra : Rd (Value.int .i64) w w.heap.size A xs) (rb : Rd (Value.int .i64) w w.heap.size B ys) :
    Calls Try.prog 52 #[.slice A xs.length c, .slice B ys.length d] w (OwnInts (opV (· + ·) xs ys) (opE (· + ·) xs ys) w) := by
  have CM := hid (match_any A B xs.length ys.length c d hx hy)
  by_cases ht : twoE xs.length ys.length = 0
  · have e1 : opE (· + ·) xs ys = seqE (numV2 (· + ·) xs ys) xs.length := if_pos ht
    have e2 : opV (· + ·) xs ys = seqV (numV2 (· + ·) xs ys) xs.length := if_pos ht
    rw [e1, e2]
    obtain ⟨hn, hl⟩ := twoE_ok ht
    have hH := add_H (c := c) (d := d) xs ys hl ix iy w ra rb
    have hL := hid (list_any _ _ xs.length hn _ (numV2 (· + ·) xs ys) add_ok hH)
    have hll := hid hl
    rw [ht] at CM
    clear e1 e2 hH ix iy ra rb hl ht
    go_enter Try.func52, Try.ntmps52
    go_wp2_with fail
    refine (CM.out _).mono ?_
    rintro _ _ ⟨rfl, rfl⟩
    go_wp2_with fail
    refine hL.out.mono ?_
    rintro _ w1 ⟨A', c', rfl, ho, hb⟩
    go_wp2_with fail
    go_ret2
    have hb0 := (two_cells w (.slice A xs.length c) (.slice B ys.length d) 22 22).2.2
    exact OwnInts.onto ⟨A', c', rfl, ho, hb⟩ hb0
  · have e1 : opE (· + ·) xs ys = twoE xs.length ys.length := if_neg ht
    have e2 : opV (· + ·) xs ys = [] := if_neg ht
    rw [e1, e2]
    clear e1 e2
    obtain ⟨t, hte⟩ : ∃ t, twoE xs.length ys.length = t := ⟨_, rfl⟩
    rw [hte] at ht CM ⊢
    have hne : (t != 0) = true := by simpa using ht
    clear ra rb ix iy hte ht
    go_enter Try.func52, Try.ntmps52
    go_wp2_with fail
    refine (CM.out _).mono ?_
    rintro _ _ ⟨rfl, rfl⟩
    go_wp2_with fail
    go_ret2
    exact ⟨none, 0, rfl, own_nil _ _ _, (two_cells w _ _ _ _).2.2⟩
/-- A product with so many bits behind the point: the number, and the error. -/
def mulV (a b m : Int) : Int := if m < 0 ∨ 30 < m then 0 else ckV (a * b / 2 ^ m.toNat)
def mulE (a b m : Int) : Int := if m < 0 ∨ 30 < m then 1 else ckE (a * b / 2 ^ m.toNat)
def behE (m : Int) : Int := if m < 0 ∨ 30 < m then 1 else 0
theorem fix_mul (a b m : Int) (ha : I64 a) (hb : I64 b) (w : World) :
    Calls Try.prog 41 #[.int .i64 a, .int .i64 b, .int .i64 m] w fun r W' => r = .returned (.tuple #[.int .i64 (mulV a b m), .int .i64 (mulE a b m)]) ∧ Below w.heap.size w W' := by
  by_cases h : m < 0 ∨ 30 < m
  · rw [show mulV a b m = 0 from if_pos h, show mulE a b m = 1 from if_pos h]
    exact Mul_bad a b m h w
  · rw [show mulV a b m = ckV (a * b / 2 ^ m.toNat) from if_neg h, show mulE a b m = ckE (a * b / 2 ^ m.toNat) from if_neg h]
    obtain ⟨k, rfl⟩ := Int.eq_ofNat_of_zero_le (show 0 ≤ m by omega)
    exact fix_Mul a b k (by omega) ha hb w
theorem vec_behind (m : Int) (w : World) :
    Calls Try.prog 44 #[.int .i64 m] w fun r W' => r = .returned (.int .i64 (behE m)) ∧ Below w.heap.size w W' := by
  have C := hid (fix_mul 0 0 m (by decide) (by decide))
  have e : mulE 0 0 m = behE m := by
    unfold mulE behE
    split
    · rfl
    · rw [Int.zero_mul, Int.zero_ediv]; decide
  rw [e] at C
  clear e
  go_enter Try.func44, Try.ntmps44
  go_wp2_with fail
  refine (C.out _).mono ?_
  rintro _ w1 ⟨rfl, hb1⟩
  go_wp2_with fail
  go_ret
  exact ⟨rfl, hb1⟩
def bndE (n : Nat) (q : Int) : Int := if 4096 < n then 3 else q
def unE (q : Int) (num : Nat → Int × Int) (n : Nat) : Int := if bndE n q = 0 then seqE num n else bndE n q
def unV (q : Int) (num : Nat → Int × Int) (n : Nat) : List Int := if bndE n q = 0 then seqV num n else []
theorem un_long {n : Nat} (h : 4096 < n) (q : Int) (num : Nat → Int × Int) : unE q num n = 3 ∧ unV q num n = [] := by
  have e : bndE n q = 3 := if_pos h
  unfold unE unV
  rw [e]
  exact ⟨rfl, rfl⟩
theorem un_bad {n : Nat} (h : ¬ 4096 < n) {q : Int} (hq : q ≠ 0) (num : Nat → Int × Int) : unE q num n = q ∧ unV q num n = [] := by
  have e : bndE n q = q := if_neg h
  unfold unE unV
  rw [e, if_neg hq, if_neg hq]
  exact ⟨rfl, rfl⟩
theorem un_ok {n : Nat} (h : ¬ 4096 < n) (num : Nat → Int × Int) : unE 0 num n = seqE num n ∧ unV 0 num n = seqV num n := by
  have e : bndE n 0 = 0 := if_neg h
  unfold unE unV
  rw [e]
  exact ⟨rfl, rfl⟩
def numS (xs : List Int) (b m : Int) (k : Nat) : Int × Int := (mulV (xs.getD k 0) b m, mulE (xs.getD k 0) b m)
def numD (xs ys : List Int) (m : Int) (k : Nat) : Int × Int := (mulV (xs.getD k 0) (ys.getD k 0) m, mulE (xs.getD k 0) (ys.getD k 0) m)
theorem three_cells (w : World) (u v x : Value) (t s r : TypeId) :
    (((w.alloc (.cells #[u] t)).alloc (.cells #[v] s)).alloc (.cells #[x] r)).cell? ⟨w.heap.size, 0, none⟩ = some u ∧ (((w.alloc (.cells #[u] t)).alloc (.cells #[v] s)).alloc (.cells #[x] r)).cell? ⟨w.heap.size + 1, 0, none⟩ = some v ∧
      (((w.alloc (.cells #[u] t)).alloc (.cells #[v] s)).alloc (.cells #[x] r)).cell? ⟨w.heap.size + 1 + 1, 0, none⟩ = some x ∧ Below w.heap.size w (((w.alloc (.cells #[u] t)).alloc (.cells #[v] s)).alloc (.cells #[x] r)) := by
  refine ⟨?_, ?_, ?_, by go_grown⟩ <;> simp [go_sem]
theorem scale_H {A : Option Addr} {c : Nat} (xs : List Int) (ix : I64s xs) (b m : Int) (hb : I64 b) (w : World) (ra : Rd (Value.int .i64) w w.heap.size A xs) (wb wl : World)
    (ca : wb.cell? ⟨w.heap.size, 0, none⟩ = some (.slice A xs.length c)) (cb : wb.cell? ⟨w.heap.size + 1, 0, none⟩ = some (.int .i64 b)) (cm : wb.cell? ⟨w.heap.size + 1 + 1, 0, none⟩ = some (.int .i64 m)) (hwb : Below w.heap.size w wb) (hwl : Below wb.heap.size wb wl)
    (k : Nat) (hk : k < xs.length) (W : World) (hW : Below wl.heap.size wl W) :
    Calls Try.prog 46 (#[.int .i64 k] ++ #[.pointer (some ⟨w.heap.size, 0, none⟩), .pointer (some ⟨w.heap.size + 1, 0, none⟩), .pointer (some ⟨w.heap.size + 1 + 1, 0, none⟩)]) W fun e w' => e = .returned (.tuple #[.int .i64 (numS xs b m k).1, .int .i64 (numS xs b m k).2]) ∧ Below W.heap.size W w' := by
  obtain ⟨_, _, x, _, _, hx, _⟩ := ra.at_ hk
  have hw := hwl.trans (hW.mono hwl.size)
  have h := scale_cl xs (cell_later hw ca) (cell_later hw cb) (cell_later hw cm) (ra.below (hwb.trans (hw.mono hwb.size))) hx (fix_mul x b m (ix.at_ hx) hb)
  unfold numS
  rw [getD_of hx]
  exact h
theorem Scale_any {A : Option Addr} {c : Nat} (xs : List Int) (hx : xs.length ≤ 9223372036854775807) (ix : I64s xs) (b m : Int) (hb : I64 b) (w : World) (ra : Rd (Value.int .i64) w w.heap.size A xs) :
    Calls Try.prog 26 #[.slice A xs.length c, .int .i64 b, .int .i64 m] w (OwnInts (unV (behE m) (numS xs b m) xs.length) (unE (behE m) (numS xs b m) xs.length) w) := by
  have CM := hid (Check_any A xs.length c hx)
  have CB := hid (vec_behind m)
  obtain ⟨k1, k2, k3, hb0⟩ := three_cells w (.slice A xs.length c) (.int .i64 b) (.int .i64 m) 22 2 3
  by_cases hn : 4096 < xs.length
  · have e := un_long hn (behE m) (numS xs b m)
    rw [e.1, e.2]
    rw [show oneE xs.length = 3 from if_pos hn] at CM
    clear e ra ix k1 k2 k3
    have HB := hid hb0
    clear hb0
    go_enter Try.func26, Try.ntmps26
    go_wp2_with fail
    refine (CM.out _).mono ?_
    rintro _ _ ⟨rfl, rfl⟩
    go_wp2_with fail
    go_ret2
    exact ⟨none, 0, rfl, own_nil _ _ _, HB.out⟩
  · rw [show oneE xs.length = 0 from if_neg hn] at CM
    by_cases hq : behE m = 0
    · rw [hq] at CB ⊢
      have e := un_ok hn (numS xs b m)
      rw [e.1, e.2]
      have hH := hid (fun wl => scale_H xs ix b m hb w ra _ wl k1 k2 k3 hb0)
      have HB := hid hb0
      clear e hq k1 k2 k3 hb0 ix
      go_enter Try.func26, Try.ntmps26
      go_wp2_with fail
      refine (CM.out _).mono ?_
      rintro _ _ ⟨rfl, rfl⟩
      go_wp2_with fail
      refine (CB.out _).mono ?_
      rintro _ w1 ⟨rfl, hb1⟩
      obtain ⟨hc1, hf1⟩ := bcells hb1
      go_wp2_with fail
      refine (list_any _ _ xs.length (by omega) _ (numS xs b m) scale_ok (hH.out w1 hb1)).mono ?_
      rintro _ w2 ⟨A', c', rfl, ho, hb2⟩
      go_wp2_with fail
      go_ret2
      exact OwnInts.onto (OwnInts.onto ⟨A', c', rfl, ho, hb2⟩ hb1) HB.out
    · have e := un_bad hn hq (numS xs b m)
      rw [e.1, e.2]
      obtain ⟨q, hqe⟩ : ∃ q, behE m = q := ⟨_, rfl⟩
      rw [hqe] at hq CB ⊢
      have hne : (q != 0) = true := by simpa using hq
      have HB := hid hb0
      clear e hq k1 k2 k3 hb0 ix hqe ra
      go_enter Try.func26, Try.ntmps26
      go_wp2_with fail
      refine (CM.out _).mono ?_
      rintro _ _ ⟨rfl, rfl⟩
      go_wp2_with fail
      refine (CB.out _).mono ?_
      rintro _ w1 ⟨rfl, hb1⟩
      go_wp2_with fail
      go_ret2
      exact ⟨none, 0, rfl, own_nil _ _ _, HB.out.trans (hb1.mono HB.out.size)⟩
end Go.Proofs.Ytcjkofcgphcjnaa
/- vec's functions, each by its contract: the others. -/
namespace Go.Proofs.Ytcjkofcgphcjnaa
open Go.RowKit
set_option maxHeartbeats 400000
set_option maxRecDepth 100000
set_option linter.unusedVariables false
theorem seqV_i64 {num : Nat → Int × Int} {n : Nat} (h : ∀ k, k < n → I64 (num k).1) : I64s (seqV num n) := by
  unfold seqV
  split
  · intro x hx
    obtain ⟨k, hk, rfl⟩ := List.mem_map.1 hx
    exact h k (by simpa using hk)
  · intro x hx; simp at hx
theorem opV_i64 (f : Int → Int → Int) (xs ys : List Int) : I64s (opV f xs ys) := by
  unfold opV
  split
  · exact seqV_i64 fun k _ => ckV_i64 _
  · intro x hx; simp at hx
theorem mulV_i64 (a b m : Int) : I64 (mulV a b m) := by
  unfold mulV
  split
  · decide
  · exact ckV_i64 _
theorem seqV_len (num : Nat → Int × Int) (n : Nat) : (seqV num n).length ≤ n := by
  unfold seqV; split <;> simp
theorem unV_len (q : Int) (num : Nat → Int × Int) (n : Nat) : (unV q num n).length ≤ 4096 := by
  by_cases h : bndE n q = 0
  · rw [show unV q num n = seqV num n from if_pos h]
    have := seqV_len num n
    have : ¬ 4096 < n := fun hn => by rw [show bndE n q = 3 from if_pos hn] at h; cases h
    omega
  · rw [show unV q num n = [] from if_neg h]; simp
theorem opV_len (f : Int → Int → Int) (xs ys : List Int) : (opV f xs ys).length ≤ 4096 := by
  unfold opV
  split
  · rename_i h
    have := twoE_ok h
    have := seqV_len (numV2 f xs ys) xs.length
    omega
  · simp
/-- A product of two vectors: the number, and the error. -/
def dotE (xs ys : List Int) (m : Int) : Int := if twoE xs.length ys.length = 0 then (if behE m = 0 then (tot (numD xs ys m) xs.length).2 else behE m) else twoE xs.length ys.length
def dotV (xs ys : List Int) (m : Int) : Int := if twoE xs.length ys.length = 0 then (if behE m = 0 then (tot (numD xs ys m) xs.length).1 else 0) else 0
theorem dot_H {A B : Option Addr} {c d : Nat} (xs ys : List Int) (hl : ys.length = xs.length) (ix : I64s xs) (iy : I64s ys) (m : Int) (w : World) (ra : Rd (Value.int .i64) w w.heap.size A xs) (rb : Rd (Value.int .i64) w w.heap.size B ys) (wb wl : World)
    (ca : wb.cell? ⟨w.heap.size, 0, none⟩ = some (.slice A xs.length c)) (cb : wb.cell? ⟨w.heap.size + 1, 0, none⟩ = some (.slice B ys.length d)) (cm : wb.cell? ⟨w.heap.size + 1 + 1, 0, none⟩ = some (.int .i64 m)) (hwb : Below w.heap.size w wb) (hwl : Below wb.heap.size wb wl)
    (k : Nat) (hk : k < xs.length) (W : World) (hW : Below wl.heap.size wl W) :
    Calls Try.prog 49 (#[.int .i64 k] ++ #[.pointer (some ⟨w.heap.size, 0, none⟩), .pointer (some ⟨w.heap.size + 1, 0, none⟩), .pointer (some ⟨w.heap.size + 1 + 1, 0, none⟩)]) W fun e w' => e = .returned (.tuple #[.int .i64 (numD xs ys m k).1, .int .i64 (numD xs ys m k).2]) ∧ Below W.heap.size W w' := by
  obtain ⟨_, _, x, _, _, hx, _⟩ := ra.at_ hk
  obtain ⟨_, _, y, _, _, hy, _⟩ := rb.at_ (show k < ys.length by omega)
  have hw := hwl.trans (hW.mono hwl.size)
  have hB := hwb.trans (hw.mono hwb.size)
  have h := dot_cl xs ys (cell_later hw ca) (cell_later hw cb) (cell_later hw cm) (ra.below hB) (rb.below hB) hx hy (fix_mul x y m (ix.at_ hx) (iy.at_ hy))
  unfold numD
  rw [getD_of hx, getD_of hy]
  exact h
theorem Dot_any {A B : Option Addr} {c d : Nat} (xs ys : List Int) (hx : xs.length ≤ 9223372036854775807) (hy : ys.length ≤ 9223372036854775807) (ix : I64s xs) (iy : I64s ys) (m : Int) (w : World)
    (ra : Rd (Value.int .i64) w w.heap.size A xs) (rb : Rd (Value.int .i64) w w.heap.size B ys) :
    Calls Try.prog 27 #[.slice A xs.length c, .slice B ys.length d, .int .i64 m] w fun e w' => e = .returned (.tuple #[.int .i64 (dotV xs ys m), .int .i64 (dotE xs ys m)]) ∧ Below w.heap.size w w' := by
  have CM := hid (match_any A B xs.length ys.length c d hx hy)
  have CB := hid (vec_behind m)
  obtain ⟨k1, k2, k3, hb0⟩ := three_cells w (.slice A xs.length c) (.slice B ys.length d) (.int .i64 m) 22 22 3
  by_cases ht : twoE xs.length ys.length = 0
  · rw [show dotE xs ys m = if behE m = 0 then (tot (numD xs ys m) xs.length).2 else behE m from if_pos ht, show dotV xs ys m = if behE m = 0 then (tot (numD xs ys m) xs.length).1 else 0 from if_pos ht]
    obtain ⟨hn, hl⟩ := twoE_ok ht
    rw [ht] at CM
    by_cases hq : behE m = 0
    · rw [if_pos hq, if_pos hq]
      rw [hq] at CB
      have hH := hid (fun wl => dot_H xs ys hl ix iy m w ra rb _ wl k1 k2 k3 hb0)
      have hT := hid (fun W K => total_any _ K xs.length hn W (numD xs ys m) dot_ok (fun k _ => mulV_i64 _ _ _))
      have HB := hid hb0
      obtain ⟨s, hs⟩ : ∃ s, tot (numD xs ys m) xs.length = s := ⟨_, rfl⟩
      rw [hs] at hT ⊢
      have hll := hid hl
      clear hq k1 k2 k3 hb0 ix iy ra rb hs ht hl
      go_enter Try.func27, Try.ntmps27
      go_wp2_with fail
      refine (CM.out _).mono ?_
      rintro _ _ ⟨rfl, rfl⟩
      go_wp2_with fail
      refine (CB.out _).mono ?_
      rintro _ w1 ⟨rfl, hb1⟩
      obtain ⟨hc1, hf1⟩ := bcells hb1
      go_wp2_with fail
      refine (hT.out _ _ (hH.out w1 hb1)).mono ?_
      rintro _ w2 ⟨rfl, hb2⟩
      go_wp2_with fail
      go_ret2
      exact ⟨rfl, HB.out.trans ((hb1.trans (hb2.mono hb1.size)).mono HB.out.size)⟩
    · rw [if_neg hq, if_neg hq]
      obtain ⟨q, hqe⟩ : ∃ q, behE m = q := ⟨_, rfl⟩
      rw [hqe] at hq CB ⊢
      have hne : (q != 0) = true := by simpa using hq
      have HB := hid hb0
      have hll := hid hl
      clear hq k1 k2 k3 hb0 ix iy ra rb ht hqe hl
      go_enter Try.func27, Try.ntmps27
      go_wp2_with fail
      refine (CM.out _).mono ?_
      rintro _ _ ⟨rfl, rfl⟩
      go_wp2_with fail
      refine (CB.out _).mono ?_
      rintro _ w1 ⟨rfl, hb1⟩
      go_wp2_with fail
      go_ret2
      exact ⟨rfl, HB.out.trans (hb1.mono HB.out.size)⟩
  · rw [show dotE xs ys m = twoE xs.length ys.length from if_neg ht, show dotV xs ys m = 0 from if_neg ht]
    obtain ⟨t, hte⟩ : ∃ t, twoE xs.length ys.length = t := ⟨_, rfl⟩
    rw [hte] at ht CM ⊢
    have hne : (t != 0) = true := by simpa using ht
    have HB := hid hb0
    clear k1 k2 k3 hb0 ix iy ra rb ht hte
    go_enter Try.func27, Try.ntmps27
    go_wp2_with fail
    refine (CM.out _).mono ?_
    rintro _ _ ⟨rfl, rfl⟩
    go_wp2_with fail
    go_ret2
    exact ⟨rfl, HB.out⟩
end Go.Proofs.Ytcjkofcgphcjnaa
/- vec's functions, each by its contract: Same, Most, Zero, Sum, and what they take of package slices. -/
namespace Go.Proofs.Ytcjkofcgphcjnaa
open Go.RowKit
set_option maxHeartbeats 400000
set_option maxRecDepth 100000
set_option linter.unusedVariables false
/-- The greatest of numbers that are not below 0 (0 of none). -/
def mx (xs : List Int) : Int := xs.foldl max 0
end Go.Proofs.Ytcjkofcgphcjnaa
/- vec's Sum, by its contract. -/
namespace Go.Proofs.Ytcjkofcgphcjnaa
open Go.RowKit
set_option maxHeartbeats 400000
set_option maxRecDepth 100000
set_option linter.unusedVariables false
/-- A call's answer: a list of numbers, in memory of the call's own; nothing that was there has turned. -/
def OwnList (xs : List Int) (w : World) (e : Ending) (w' : World) : Prop :=
  ∃ A c, e = .returned (.slice A xs.length c) ∧ w'.ownsRow w.heap.size 2 1 (.slice A xs.length c) xs.length (xs.map (Value.int .i64)) ∧ Below w.heap.size w w'
theorem Clone_any {A : Option Addr} {c : Nat} (xs : List Int) (hx : xs.length ≤ 1099511627776) (w : World) (ra : Rd (Value.int .i64) w w.heap.size A xs) :
    Calls Try.prog 51 #[.slice A xs.length c] w (OwnList xs w) := by
  have qT : ∀ (w : World) (a : Option Addr) (n c n' c' : Nat), (binOp .eql 22 (.slice a n c) (.slice none n' c')).run Try.prog w = .ok (.bool a.isNone) w := fun w a n c n' c' => Lib.run_eql_slice_nil w _ _ a n c n' c' Try.underlying22
  rcases A with _ | ad
  · have hxs : xs = [] := by
      cases xs with
      | nil => rfl
      | cons x xs =>
        obtain ⟨_, _, he, _⟩ := ra 0 x rfl
        cases he
    subst hxs
    clear ra
    go_enter Try.func51, Try.ntmps51
    go_wp2_with fail
    go_ret
    exact ⟨none, 0, rfl, own_nil _ _ _, Below.refl _ _⟩
  · have HA := hid ra
    clear ra
    go_enter Try.func51, Try.ntmps51
    have h0 : (w.alloc (.cells #[] 2)).ownsRow w.heap.size 2 1 (.slice (some ⟨w.heap.size, 0, none⟩) ([] : List Int).length 0) ([] : List Int).length (([] : List Int).map (Value.int .i64)) :=
      World.ownsRow_made w #[] 0 (Nat.le_refl _) (by unfold maxLen; omega) rfl
    have hr0 := HA.out.below ((Below.refl w.heap.size w).alloc (Nat.le_refl _) (.cells #[] 2))
    go_wp2_with (at_builtin; refine wpList_app (Value.int .i64) (fun _ => rfl) _ rfl _ _ 22 rfl w.heap.size 2 (.int .i64 0) 8 Try.underlying22 info_i64 rfl [] _ 0 rfl h0 xs _ c w.heap.size rfl hr0 (by simp [maxLen]; omega) (by simp; omega) (by simp) ?_)
    rintro S A' c' w1 rfl ho hb _
    go_wp2_with fail
    go_ret
    exact ⟨A', c', rfl, ho, ((Below.refl w.heap.size w).alloc (Nat.le_refl _) _).trans hb⟩
def sumFrom : List Int → List (List Int) → List Int × Int
  | S, [] => (S, 0)
  | S, v :: r => if opE (· + ·) S v = 0 then sumFrom (opV (· + ·) S v) r else ([], opE (· + ·) S v)
/-- Vectors added, from the first one on: the vector, and the error. -/
def sumAll : List (List Int) → List Int × Int
  | [] => ([], 0)
  | v :: r => if 4096 < v.length then ([], 3) else sumFrom v r
def RowsOk (rows : List (List Int)) : Prop := ∀ xs ∈ rows, I64s xs ∧ xs.length ≤ 1099511627776
theorem sum_go {S v : List Int} {r : List (List Int)} {k : Nat} (hv : r[k]? = some v) (h : opE (· + ·) S v = 0) : sumFrom S (r.drop k) = sumFrom (opV (· + ·) S v) (r.drop (k + 1)) := by
  have hk : k < r.length := (List.getElem?_eq_some_iff.1 hv).1
  rw [List.drop_eq_getElem_cons hk, show r[k] = v from (List.getElem?_eq_some_iff.1 hv).2]
  exact if_pos h
theorem sum_off {S v : List Int} {r : List (List Int)} {k : Nat} (hv : r[k]? = some v) (h : opE (· + ·) S v ≠ 0) : sumFrom S (r.drop k) = ([], opE (· + ·) S v) := by
  have hk : k < r.length := (List.getElem?_eq_some_iff.1 hv).1
  rw [List.drop_eq_getElem_cons hk, show r[k] = v from (List.getElem?_eq_some_iff.1 hv).2]
  exact if_neg h
theorem opV_off {f : Int → Int → Int} {xs ys : List Int} (h : opE f xs ys ≠ 0) : opV f xs ys = [] := by
  unfold opE at h
  unfold opV
  split
  · rename_i e
    rw [if_pos e] at h
    unfold seqV
    rw [if_neg h]
  · rfl
theorem Sum_nil (A : Option Addr) (c : Nat) (w : World) :
    Calls Try.prog 33 #[.slice A 0 c] w (OwnInts [] 0 w) := by
  go_enter Try.func33, Try.ntmps33
  go_wp2_with fail
  go_ret2
  exact ⟨none, 0, rfl, own_nil _ _ _, Below.refl _ _⟩
theorem Sum_long (A : Option Addr) (c : Nat) (v : List Int) (r : List (List Int)) (hl : 4096 < v.length) (ho : RowsOk (v :: r)) (hr : r.length ≤ 1099511627776) (w : World) (ra : RdRows w w.heap.size A (v :: r)) :
    Calls Try.prog 33 #[.slice A (v :: r).length c] w (OwnInts [] 3 w) := by
  obtain ⟨b, off, A', c', rfl, hb, hc, hv⟩ := ra 0 v rfl
  have lv := (ho v (by simp)).2
  have CM := hid (Check_any A' v.length c' (by omega))
  rw [show oneE v.length = 3 from if_pos hl] at CM
  rw [Nat.add_zero] at hc
  rw [List.length_cons]
  clear ra ho hv
  go_enter Try.func33, Try.ntmps33
  go_wp2_with fail
  refine (CM.out _).mono ?_
  rintro _ _ ⟨rfl, rfl⟩
  go_wp2_with fail
  go_ret2
  exact ⟨none, 0, rfl, own_nil _ _ _, Below.refl _ _⟩
theorem Sum_short (A : Option Addr) (c : Nat) (v : List Int) (r : List (List Int)) (hl : ¬ 4096 < v.length) (ho : RowsOk (v :: r)) (hr : r.length ≤ 1099511627776) (hcap : r.length + 1 ≤ c) (w : World) (ra : RdRows w w.heap.size A (v :: r)) :
    Calls Try.prog 33 #[.slice A (v :: r).length c] w (OwnInts (sumFrom v r).1 (sumFrom v r).2 w) := by
  obtain ⟨b, off, A', c', rfl, hb, hc, hv⟩ := ra 0 v rfl
  obtain ⟨iv, lv⟩ := ho v (by simp)
  have CM := hid (Check_any A' v.length c' (by omega))
  have CC := hid (Clone_any (c := c') v lv w hv)
  rw [show oneE v.length = 0 from if_neg hl] at CM
  rw [Nat.add_zero] at hc
  rw [List.length_cons]
  have RA := hid ra
  have HO := hid ho
  have IV := hid iv
  clear ra ho hv iv
  go_enter Try.func33, Try.ntmps33
  go_wp2_with fail
  refine (CM.out _).mono ?_
  rintro _ _ ⟨rfl, rfl⟩
  go_wp2_with fail
  refine CC.out.mono ?_
  rintro _ w1 ⟨A1, c1, rfl, ho1, hb1⟩
  have HO1 := hid ho1
  clear ho1
  go_wp2_with fail
  all_goals
    go_loopw [5, 26] (fun s i wr => ∃ (k : Nat) (S : List Int) (A2 : Option Addr) (c2 : Nat), k ≤ r.length ∧ i = .int .i64 k ∧ s = .slice A2 S.length c2 ∧ wr.ownsRow w.heap.size 2 1 (.slice A2 S.length c2) S.length (S.map (Value.int .i64)) ∧ I64s S ∧ S.length ≤ 4096 ∧ sumFrom S (r.drop k) = sumFrom v r ∧ Below w.heap.size w wr) (fun _ i _ => r.length - (intOf i).toNat)
    case atStart => exact ⟨0, v, A1, c1, by omega, rfl, rfl, HO1.out, IV.out, by omega, by rw [List.drop_zero], hb1⟩
    case round =>
      obtain ⟨k, S, A2, c2, hk, rfl, rfl, hS, iS, lS, hs, hbr⟩ := hrel
      have HSO := hid hS
      have HSI := hid iS
      have HSE := hid hs
      clear hS iS hs
      by_cases hlt : k < r.length
      · first
        | (exfalso; omega)
        | (obtain ⟨u, hu⟩ : ∃ u, r[k]? = some u := ⟨_, List.getElem?_eq_getElem hlt⟩
           obtain ⟨b3, off3, A3, c3, e3, l3, hc3, hr3⟩ := RA.out (k + 1) u (by rw [List.getElem?_cons_succ]; exact hu)
           have e4 := Option.some.inj e3
           simp only [Addr.mk.injEq] at e4
           obtain ⟨rfl, rfl, _⟩ := e4
           have hc4 : wr.cell? ⟨b, off + 1 + k, none⟩ = some (.slice A3 u.length c3) := by
             rw [show off + 1 + k = off + (k + 1) by omega]
             exact (hbr.cell (p := ⟨b, off + (k + 1), none⟩) l3).trans hc3
           have hu2 := HO.out u (by simp [List.mem_of_getElem? hu])
           have lu := hu2.2
           have CA := hid (Add_any (c := c2) (d := c3) S u (by omega) (by omega) HSI.out hu2.1 wr (own_rd HSO.out) ((hr3.below hbr).more hbr.size))
           have hgo := hid (fun h => sum_go (S := S) hu h)
           have hoff := hid (fun h => sum_off (S := S) hu h)
           have hlen := opV_len (· + ·) S u
           have hi64 := hid (opV_i64 (· + ·) S u)
           have hVO := hid (fun h => opV_off (f := (· + ·)) (xs := S) (ys := u) h)
           obtain ⟨er, he⟩ : ∃ x, opE (· + ·) S u = x := ⟨_, rfl⟩
           obtain ⟨T, hT⟩ : ∃ x, opV (· + ·) S u = x := ⟨_, rfl⟩
           rw [he, hT] at CA hgo hVO
           rw [he] at hoff
           rw [hT] at hlen hi64
           clear hc3 hr3 hu2 hu e3 he hT
           go_wp2_with fail
           refine CA.out.mono ?_
           rintro _ w2 ⟨A4, c4, rfl, ho4, hb4⟩
           have HO4 := hid ho4
           clear ho4
           have hbr2 := hbr.trans (hb4.mono hbr.size)
           by_cases her : er = 0
           · subst her
             go_wp2_with fail
             go_roundw
             case rel => exact ⟨k + 1, T, A4, c4, by omega, by go_num, rfl, own_base HO4.out hbr.size, hi64.out, hlen, by rw [← hgo.out (by simp)]; exact HSE.out, hbr2⟩
             case measure => simp [intOf]; omega
           · have hne : (er != 0) = true := by simpa using her
             have hh := hid (hoff.out her)
             go_wp2_with fail
             go_ret2
             rw [← HSE.out, hh.out]
             exact ⟨none, 0, rfl, own_nil _ _ _, hbr2⟩)
      · obtain rfl : k = r.length := by omega
        go_wp2_with fail
        go_ret2
        have := HSE.out
        rw [List.drop_length] at this
        rw [← this]
        exact ⟨A2, c2, rfl, HSO.out, hbr⟩
theorem Sum_any (A : Option Addr) (c : Nat) (rows : List (List Int)) (ho : RowsOk rows) (hr : rows.length ≤ 1099511627776) (hcap : rows.length ≤ c) (w : World) (ra : RdRows w w.heap.size A rows) :
    Calls Try.prog 33 #[.slice A rows.length c] w (OwnInts (sumAll rows).1 (sumAll rows).2 w) := by
  cases rows with
  | nil => exact Sum_nil A c w
  | cons v r =>
    simp only [List.length_cons] at hr hcap
    by_cases hl : 4096 < v.length
    · rw [show sumAll (v :: r) = ([], 3) from if_pos hl]
      exact Sum_long A c v r hl ho (by omega) w ra
    · rw [show sumAll (v :: r) = sumFrom v r from if_neg hl]
      exact Sum_short A c v r hl ho (by omega) (by omega) w ra
end Go.Proofs.Ytcjkofcgphcjnaa
namespace Go.Proofs.Ytcjkofcgphcjnaa
open Go.RowKit
set_option maxHeartbeats 400000
set_option maxRecDepth 100000
set_option linter.unusedVariables false
theorem absI_le {a : Int} (h : I64 a) : 0 ≤ absI a ∧ absI a ≤ 9223372036854775808 := by unfold I64 at h; unfold absI; split <;> omega
theorem ref_size (a : Int) (ha : I64 a) (w : World) :
    Calls Try.prog 65 #[.int .i64 a] w fun e w' => e = .returned (.int .u64 (absI a)) ∧ w = w' := by
  have h := ha
  unfold I64 at h
  by_cases hn : a < 0
  · have e1 : absI a = -a := if_pos hn
    rw [e1]
    clear e1
    go_enter Try.func65, Try.ntmps65
    go_wp2
    go_ret
    refine ⟨congrArg (fun z => Ending.returned (Value.int .u64 z)) ?_, rfl⟩
    show _ = -a
    first | rfl | omega | (rw [IntKind.wrap_u64]; omega)
  · have e1 : absI a = a := if_neg hn
    rw [e1]
    clear e1
    go_enter Try.func65, Try.ntmps65
    go_wp2
    go_ret
    exact ⟨rfl, rfl⟩
theorem half_bound {x y : Int} (hx0 : 0 ≤ x) (hx : x < 4294967296) (hy0 : 0 ≤ y) (hy : y < 4294967296) : 0 ≤ x * y ∧ x * y ≤ 18446744065119617025 := by
  refine ⟨Int.mul_nonneg hx0 hy0, ?_⟩
  have := Int.mul_le_mul (show x ≤ 4294967295 by omega) (show y ≤ 4294967295 by omega) hy0 (by decide)
  omega
theorem halves (ah al bh bl : Int) : (ah * 4294967296 + al) * (bh * 4294967296 + bl) = ah * bh * 18446744073709551616 + (ah * bl + al * bh) * 4294967296 + al * bl := by
  grind
theorem or_low (z y : Int) (hy0 : 0 ≤ y) (hy : y < 4294967296) : bits BinOp.or IntKind.u64 (IntKind.u64.wrap (z * 4294967296)) y = z * 4294967296 % 18446744073709551616 + y := by
  rw [IntKind.wrap_u64]
  exact bits_join .u64 64 (by decide) (fun n h0 h1 => by rw [IntKind.wrap_u64]; omega) 32 _ _ (by omega) (by omega) (by omega) hy0 hy (by omega)
/-- The parts of a product of halves. -/
theorem times_end (a b m1 m2 m3 p ph x y t : Int) (e : a * b = m3 * 18446744073709551616 + (m1 + m2) * 4294967296 + p) (h0 : 0 ≤ a * b) (h1 : a * b < 340282366920938463463374607431768211456)
    (hph : p / 4294967296 = ph) (hx : (m1 + ph) / 4294967296 = x) (hy : (m1 + ph) % 4294967296 = y) (ht : (m2 + y) / 4294967296 = t) :
    a * b / 18446744073709551616 = m3 + x + t ∧ a * b % 18446744073709551616 = (m2 + y) * 4294967296 % 18446744073709551616 + p % 4294967296 := by
  rw [e]
  omega
theorem times_core (a b ah al bh bl m1 m2 m3 p ph x y t lo u : Int) (hah : a / 4294967296 = ah) (hbh : b / 4294967296 = bh)
    (hal : bits BinOp.and IntKind.u64 a 4294967295 = al) (hbl : bits BinOp.and IntKind.u64 b 4294967295 = bl)
    (hp : al * bl = p) (hm1 : ah * bl = m1) (hm2 : al * bh = m2) (hm3 : ah * bh = m3) (hph : p / 4294967296 = ph)
    (hx : (m1 + ph) / 4294967296 = x) (hy : bits BinOp.and IntKind.u64 (m1 + ph) 4294967295 = y) (ht : (m2 + y) / 4294967296 = t)
    (hlo : bits BinOp.and IntKind.u64 p 4294967295 = lo) (hu : bits BinOp.or IntKind.u64 (IntKind.u64.wrap ((m2 + y) * 4294967296)) lo = u)
    (p0 : 0 ≤ p) (p1 : p ≤ 18446744065119617025) (m10 : 0 ≤ m1) (m11 : m1 ≤ 18446744065119617025) (m20 : 0 ≤ m2) (m21 : m2 ≤ 18446744065119617025) (m30 : 0 ≤ m3)
    (ph0 : 0 ≤ ph) (ph1 : ph < 4294967296) (x0 : 0 ≤ x) (t0 : 0 ≤ t) (y0 : 0 ≤ y) (y1 : y < 4294967296) (hs : m3 + x + t ≤ 18446744073709551615) (w : World) :
    Calls Try.prog 64 #[.int .u64 a, .int .u64 b] w fun e w' => e = .returned (.tuple #[.int .u64 (m3 + x + t), .int .u64 u]) ∧ w = w' := by
  go_enter Try.func64, Try.ntmps64
  go_wp2
  go_ret2
  exact ⟨rfl, rfl⟩
theorem ref_Times (a b : Int) (ha : U64 a) (hb : U64 b) (w : World) :
    Calls Try.prog 64 #[.int .u64 a, .int .u64 b] w fun e w' => e = .returned (.tuple #[.int .u64 (a * b / 18446744073709551616), .int .u64 (a * b % 18446744073709551616)]) ∧ w = w' := by
  have g1 := and_low a ha
  have g2 := and_low b hb
  have a1 := ha.1
  have a2 := ha.2
  have b1 := hb.1
  have b2 := hb.2
  have e := halves (a / 4294967296) (a % 4294967296) (b / 4294967296) (b % 4294967296)
  rw [show a / 4294967296 * 4294967296 + a % 4294967296 = a by omega, show b / 4294967296 * 4294967296 + b % 4294967296 = b by omega] at e
  have q0 := half_bound (x := a % 4294967296) (y := b % 4294967296) (by omega) (by omega) (by omega) (by omega)
  have q1 := half_bound (x := a / 4294967296) (y := b % 4294967296) (by omega) (by omega) (by omega) (by omega)
  have q2 := half_bound (x := a % 4294967296) (y := b / 4294967296) (by omega) (by omega) (by omega) (by omega)
  have q3 := half_bound (x := a / 4294967296) (y := b / 4294967296) (by omega) (by omega) (by omega) (by omega)
  have k0 : 0 ≤ a * b := Int.mul_nonneg a1 b1
  have k1 : a * b < 340282366920938463463374607431768211456 := by
    have := Int.mul_le_mul a2 b2 b1 (by decide)
    omega
  have g3 := and_low (a / 4294967296 * (b % 4294967296) + a % 4294967296 * (b % 4294967296) / 4294967296) ⟨by omega, by omega⟩
  have g4 := and_low (a % 4294967296 * (b % 4294967296)) ⟨by omega, by omega⟩
  have fin := times_end a b _ _ _ _ _ _ _ _ e k0 k1 rfl rfl rfl rfl
  have g5 := or_low (a % 4294967296 * (b / 4294967296) + (a / 4294967296 * (b % 4294967296) + a % 4294967296 * (b % 4294967296) / 4294967296) % 4294967296) (a % 4294967296 * (b % 4294967296) % 4294967296) (by omega) (by omega)
  rw [fin.1, fin.2]
  refine times_core a b _ _ _ _ _ _ _ _ _ _ _ _ _ _ rfl rfl g1 g2 rfl rfl rfl rfl rfl rfl g3 rfl g4 g5 (by omega) (by omega) (by omega) (by omega) (by omega) (by omega) (by omega) (by omega) (by omega) (by omega) (by omega) (by omega) (by omega) ?_ w
  have := fin.1
  omega
theorem wide_same {a b P : Int} (h : a * b = P) (h0 : 0 ≤ P) (h1 : P ≤ 85070591730234615865843651857942052864) : wrap64 (P / 18446744073709551616) = wrap64 (hiU (a * b)) ∧ P % 18446744073709551616 = loU (a * b) := by
  rw [h]; unfold hiU loU
  refine ⟨?_, rfl⟩
  congr 1
  omega
theorem wide_neg {s P h l : Int} (hs : s = -P) (h0 : 0 ≤ P) (h1 : P ≤ 85070591730234615865843651857942052864) (hh : P / 18446744073709551616 = h) (hl : P % 18446744073709551616 = l) :
    (IntKind.u64.wrap (18446744073709551615 - l + 1) = loU s) ∧ ((loU s = 0 ∧ IntKind.u64.wrap (18446744073709551615 - h + 1) = hiU s) ∨ (loU s ≠ 0 ∧ 18446744073709551615 - h = hiU s)) := by
  subst hs
  simp only [IntKind.wrap_u64]
  unfold hiU loU
  omega
theorem Wide_same (a b P : Int) (ha : I64 a) (hb : I64 b) (x y : Bool) (d1 : decide (a < 0) = x) (d2 : decide (b < 0) = y) (hxy : (x == y) = true) (hP : a * b = P) (hPa : absI a * absI b = P) (h0 : 0 ≤ P) (h1 : P ≤ 85070591730234615865843651857942052864) (w : World) :
    Calls Try.prog 61 #[.int .i64 a, .int .i64 b] w fun e w' => e = .returned (.tuple #[.int .i64 (wrap64 (hiU (a * b))), .int .u64 (loU (a * b))]) ∧ w = w' := by
  obtain ⟨e1, e2⟩ := wide_same hP h0 h1
  rw [← e1, ← e2]
  have T := fun W => ref_Times (absI a) (absI b) ⟨(absI_le ha).1, by have := (absI_le ha).2; omega⟩ ⟨(absI_le hb).1, by have := (absI_le hb).2; omega⟩ W
  rw [hPa] at T
  have HT := hid T
  clear e1 e2 T hP hPa h0 h1
  go_enter Try.func61, Try.ntmps61
  go_wp2_with fail
  refine (ref_size a ha _).mono ?_
  rintro _ _ ⟨rfl, rfl⟩
  go_wp2_with fail
  refine (ref_size b hb _).mono ?_
  rintro _ _ ⟨rfl, rfl⟩
  go_wp2_with fail
  refine (HT.out _).mono ?_
  rintro _ _ ⟨rfl, rfl⟩
  go_wp2_with fail
  go_ret2
  exact ⟨rfl, rfl⟩
theorem Wide_other (a b P : Int) (ha : I64 a) (hb : I64 b) (x y : Bool) (d1 : decide (a < 0) = x) (d2 : decide (b < 0) = y) (hxy : (x == y) = false) (hP : a * b = -P) (hPa : absI a * absI b = P) (h0 : 0 ≤ P) (h1 : P ≤ 85070591730234615865843651857942052864) (w : World) :
    Calls Try.prog 61 #[.int .i64 a, .int .i64 b] w fun e w' => e = .returned (.tuple #[.int .i64 (wrap64 (hiU (a * b))), .int .u64 (loU (a * b))]) ∧ w = w' := by
  obtain ⟨h, hh⟩ : ∃ h, P / 18446744073709551616 = h := ⟨_, rfl⟩
  obtain ⟨l, hl⟩ : ∃ l, P % 18446744073709551616 = l := ⟨_, rfl⟩
  obtain ⟨e1, e2⟩ := wide_neg hP h0 h1 hh hl
  have n1 := bits_not_u64 (p := h) (by unfold U64; omega)
  have n2 := bits_not_u64 (p := l) (by unfold U64; omega)
  have T := fun W => ref_Times (absI a) (absI b) ⟨(absI_le ha).1, by have := (absI_le ha).2; omega⟩ ⟨(absI_le hb).1, by have := (absI_le hb).2; omega⟩ W
  rw [hPa, hh, hl] at T
  have HT := hid T
  have b0 : 0 ≤ h := by omega
  have b1 : h < 18446744073709551616 := by omega
  obtain ⟨lo, hlo⟩ : ∃ lo, loU (a * b) = lo := ⟨_, rfl⟩
  obtain ⟨hi, hhi⟩ : ∃ hi, hiU (a * b) = hi := ⟨_, rfl⟩
  rw [hlo] at e1
  rw [hlo, hhi] at e2
  rw [hlo, hhi]
  clear T hP hPa hh hl hlo hhi h0 h1
  have hsg : IntKind.u64.signed = false := rfl
  rcases e2 with ⟨z, e2⟩ | ⟨z, e2⟩
  · have zb : (lo == 0) = true := by simpa using z
    clear z
    go_enter Try.func61, Try.ntmps61
    go_wp2_with fail
    refine (ref_size a ha _).mono ?_
    rintro _ _ ⟨rfl, rfl⟩
    go_wp2_with fail
    refine (ref_size b hb _).mono ?_
    rintro _ _ ⟨rfl, rfl⟩
    go_wp2_with fail
    refine (HT.out _).mono ?_
    rintro _ _ ⟨rfl, rfl⟩
    go_wp2_with fail
    go_ret2
    exact ⟨rfl, rfl⟩
  · have zb : (lo == 0) = false := by simpa using z
    clear z
    go_enter Try.func61, Try.ntmps61
    go_wp2_with fail
    refine (ref_size a ha _).mono ?_
    rintro _ _ ⟨rfl, rfl⟩
    go_wp2_with fail
    refine (ref_size b hb _).mono ?_
    rintro _ _ ⟨rfl, rfl⟩
    go_wp2_with fail
    refine (HT.out _).mono ?_
    rintro _ _ ⟨rfl, rfl⟩
    go_wp2_with fail
    go_ret2
    exact ⟨rfl, rfl⟩
theorem ref_Wide (a b : Int) (ha : I64 a) (hb : I64 b) (w : World) :
    Calls Try.prog 61 #[.int .i64 a, .int .i64 b] w fun e w' => e = .returned (.tuple #[.int .i64 (wrap64 (hiU (a * b))), .int .u64 (loU (a * b))]) ∧ w = w' := by
  have p0 : 0 ≤ absI a * absI b := Int.mul_nonneg (absI_le ha).1 (absI_le hb).1
  have p1 := Int.mul_le_mul (absI_le ha).2 (absI_le hb).2 (absI_le hb).1 (by decide)
  have p2 : absI a * absI b ≤ 85070591730234615865843651857942052864 := by omega
  rcases Int.lt_or_le a 0 with sa | sa <;> rcases Int.lt_or_le b 0 with sb | sb
  · exact Wide_same a b _ ha hb true true (by simpa using sa) (by simpa using sb) rfl (by unfold absI; rw [if_pos sa, if_pos sb, Int.neg_mul_neg]) rfl p0 p2 w
  · exact Wide_other a b _ ha hb true false (by simpa using sa) (by simpa using sb) rfl (by unfold absI; rw [if_pos sa, if_neg (by omega), Int.neg_mul, Int.neg_neg]) rfl p0 p2 w
  · exact Wide_other a b _ ha hb false true (by simpa using sa) (by simpa using sb) rfl (by unfold absI; rw [if_neg (by omega), if_pos sb, Int.mul_neg, Int.neg_neg]) rfl p0 p2 w
  · exact Wide_same a b _ ha hb false false (by simpa using sa) (by simpa using sb) rfl (by unfold absI; rw [if_neg (by omega), if_neg (by omega)]) rfl p0 p2 w
end Go.Proofs.Ytcjkofcgphcjnaa
namespace Go.Proofs.Ytcjkofcgphcjnaa
open Go.RowKit
set_option maxHeartbeats 400000
set_option maxRecDepth 100000
set_option linter.unusedVariables false
theorem and_one_i64 (n : Int) : bits .and .i64 n 1 = n % 2 := by
  show IntKind.i64.wrap ((BitVec.ofInt 64 n &&& BitVec.ofInt 64 1).toNat : Int) = _
  rw [BitVec.toNat_and, show (BitVec.ofInt 64 1).toNat = 2 ^ 1 - 1 from rfl, Nat.and_two_pow_sub_one_eq_mod, BitVec.toNat_ofInt, IntKind.wrap_i64]
  omega
theorem next_shift {a y : Int} {j : Nat} (h : a / 2 ^ j = y) : a / 2 ^ (j + 1) = y / 2 := by
  rw [Int.pow_succ, ← h, Int.ediv_ediv_of_nonneg (Int.le_of_lt (Int.pow_pos (by decide)))]
theorem ref_Mul_bad (a b n : Int) (h : n < 0 ∨ 30 < n) (w : World) :
    Calls Try.prog 42 #[.int .i64 a, .int .i64 b, .int .i64 n] w fun e w' => e = .returned (.tuple #[.int .i64 0, .int .i64 1]) ∧ w = w' := by
  by_cases h1 : n < 0
  · clear h
    go_enter Try.func42, Try.ntmps42
    go_wp2
    go_ret2
    exact ⟨rfl, rfl⟩
  · have h2 : 30 < n := by omega
    clear h
    go_enter Try.func42, Try.ntmps42
    go_wp2
    go_ret2
    exact ⟨rfl, rfl⟩
theorem or_comm_u64f (x y : Int) : bits .or .u64 x y = bits .or .u64 y x := by
  show IntKind.u64.wrap ((BitVec.ofInt 64 x ||| BitVec.ofInt 64 y).toNat : Int) = IntKind.u64.wrap ((BitVec.ofInt 64 y ||| BitVec.ofInt 64 x).toNat : Int)
  rw [BitVec.or_comm]
theorem i128_half {s : Int} (h : I128 s) : I128 (s / 2) := by unfold I128 at *; omega
theorem half_hi {s h : Int} (hI : I128 s) (hh : wrap64 (hiU s) = h) : h / 2 = wrap64 (hiU (s / 2)) := by
  rw [hi_signed hI] at hh
  rw [hi_signed (i128_half hI)]
  omega
theorem half_lo {s h : Int} (hI : I128 s) (hh : wrap64 (hiU s) = h) : bits BinOp.or IntKind.u64 (loU s / 2) (h % 2 * 9223372036854775808) = loU (s / 2) := by
  rw [hi_signed hI] at hh
  have hl := U64.lo s
  unfold U64 at hl
  rw [or_comm_u64f, bits_join .u64 64 (by decide) (fun n h0 h1 => by rw [IntKind.wrap_u64]; omega) 63 _ _ (by omega) (by omega) (by omega) (by omega) (by omega) (by omega)]
  unfold loU
  omega
theorem mul_out {s h : Int} (hI : I128 s) (hh : wrap64 (hiU s) = h) (ht : (h != wrap64 (loU s) / 9223372036854775808) = true) : ¬ I64 s := by
  rw [hi_signed hI] at hh
  simp only [bne_iff_ne, ne_eq] at ht
  intro hs
  unfold I64 at hs
  apply ht
  unfold loU
  rw [wrap64_eq]
  omega
theorem mul_in {s h : Int} (hI : I128 s) (hh : wrap64 (hiU s) = h) (ht : (h != wrap64 (loU s) / 9223372036854775808) = false) : I64 s ∧ wrap64 (loU s) = s := by
  rw [hi_signed hI] at hh
  simp only [bne_eq_false_iff_eq] at ht
  unfold loU at *
  unfold I64
  rw [wrap64_eq] at *
  unfold I128 at hI
  omega
theorem ref_Mul (a b : Int) (k : Nat) (hk : k ≤ 30) (ha : I64 a) (hb : I64 b) (w : World) :
    Calls Try.prog 42 #[.int .i64 a, .int .i64 b, .int .i64 k] w fun e w' => e = .returned (.tuple #[.int .i64 (ckV (a * b / 2 ^ k)), .int .i64 (ckE (a * b / 2 ^ k))]) ∧ w = w' := by
  have i1 := i128_mul ha hb
  go_enter Try.func42, Try.ntmps42
  go_wp2_with fail
  refine (ref_Wide a b ha hb _).mono ?_
  rintro _ _ ⟨rfl, rfl⟩
  go_wp2_with fail
  go_loop [8, 9, 24] (fun x y i => ∃ j : Nat, ∃ s : Int, j ≤ k ∧ i = .int .i64 j ∧ a * b / 2 ^ j = s ∧ I128 s ∧ x = .int .i64 (wrap64 (hiU s)) ∧ y = .int .u64 (loU s)) (fun _ _ i => k - (intOf i).toNat)
  case atStart => exact ⟨0, a * b, Nat.zero_le _, rfl, by simp, i1, rfl, rfl⟩
  case round =>
    obtain ⟨j, s, hj, rfl, hs, hI, rfl, rfl⟩ := hrel
    have HS := hid hs
    clear hs
    have f := and_one_i64 (wrap64 (hiU s))
    obtain ⟨h, hh⟩ : ∃ h, wrap64 (hiU s) = h := ⟨_, rfl⟩
    rw [hh] at f
    by_cases hlt : j < k
    · have X := hid (half_hi hI hh)
      have Y := hid (half_lo hI hh)
      go_wp2
      go_round
      case rel => exact ⟨j + 1, s / 2, by omega, by go_num, next_shift HS.out, i128_half hI, by rw [X.out], by rw [Y.out]⟩
      case measure => simp [intOf]; omega
    · have E : Hid (a * b / 2 ^ k = s) := by rw [show k = j by omega]; exact HS
      clear hh
      go_wp2
      · go_ret2
        rw [E.out]
        exact ⟨ck_out2 (mul_out hI rfl (by assumption)), rfl⟩
      · go_ret2
        rw [E.out]
        exact ⟨number_end (mul_in hI rfl (by assumption)), rfl⟩
end Go.Proofs.Ytcjkofcgphcjnaa
/- The document's vec, each function by its contract. -/
namespace Go.Proofs.Ytcjkofcgphcjnaa
open Go.RowKit
set_option maxHeartbeats 400000
set_option maxRecDepth 100000
set_option linter.unusedVariables false
theorem rCheck_any (A : Option Addr) (n c : Nat) (hn : n ≤ 9223372036854775807) (w : World) :
    Calls Try.prog 54 #[.slice A n c] w fun e w' => e = .returned (.int .i64 (oneE n)) ∧ w = w' := by
  by_cases h : 4096 < n
  · have e1 : oneE n = 3 := if_pos h
    rw [e1]
    clear e1
    go_enter Try.func54, Try.ntmps54
    go_wp2
    go_ret
    exact ⟨rfl, rfl⟩
  · have e1 : oneE n = 0 := if_neg h
    rw [e1]
    clear e1
    go_enter Try.func54, Try.ntmps54
    go_wp2
    go_ret
    exact ⟨rfl, rfl⟩
theorem two_any (A B : Option Addr) (n m c d : Nat) (hn : n ≤ 9223372036854775807) (hm : m ≤ 9223372036854775807) (w : World) :
    Calls Try.prog 50 #[.slice A n c, .slice B m d] w fun e w' => e = .returned (.int .i64 (twoE n m)) ∧ w = w' := by
  by_cases h1 : 4096 < n
  · have e1 : twoE n m = 3 := if_pos (Or.inl h1)
    rw [e1]
    clear e1
    go_enter Try.func50, Try.ntmps50
    go_wp2
    go_ret
    exact ⟨rfl, rfl⟩
  · by_cases h2 : 4096 < m
    · have e1 : twoE n m = 3 := if_pos (Or.inr h2)
      rw [e1]
      clear e1
      go_enter Try.func50, Try.ntmps50
      go_wp2
      go_ret
      exact ⟨rfl, rfl⟩
    · by_cases h3 : n = m
      · subst h3
        have e1 : twoE n n = 0 := by unfold twoE; rw [if_neg (by omega), if_pos rfl]
        rw [e1]
        clear e1
        go_enter Try.func50, Try.ntmps50
        go_wp2
        go_ret
        exact ⟨rfl, rfl⟩
      · have e1 : twoE n m = 4 := by unfold twoE; rw [if_neg (by omega), if_neg h3]
        rw [e1]
        have h4 : ((n : Int) != (m : Int)) = true := by simp; omega
        have h5 : (n != m) = true := by simp; omega
        clear e1
        go_enter Try.func50, Try.ntmps50
        go_wp2
        go_ret
        exact ⟨rfl, rfl⟩
theorem rSame_any {A B : Option Addr} {c d : Nat} (xs ys : List Int) (hx : xs.length ≤ 9223372036854775807) (hy : ys.length ≤ 9223372036854775807) (w : World)
    (ra : Rd (Value.int .i64) w w.heap.size A xs) (rb : Rd (Value.int .i64) w w.heap.size B ys) :
    Calls Try.prog 19 #[.slice A xs.length c, .slice B ys.length d] w fun e w' => e = .returned (.bool (eqB xs ys)) ∧ Below w.heap.size w w' := by
  by_cases hl : xs.length = ys.length
  · have HA := hid ra
    have HB := hid rb
    clear ra rb
    have h1 : ((xs.length : Int) != (ys.length : Int)) = false := by simp; omega
    have h2 : (xs.length != ys.length) = false := by simp; omega
    have HL := hid hl
    clear hl
    go_enter Try.func19, Try.ntmps19
    go_wp2_with fail
    clear h1 h2
    go_loopw [13] (fun i wr => ∃ k : Nat, k ≤ xs.length ∧ i = .int .i64 k ∧ xs.take k = ys.take k ∧ Below w.heap.size w wr) (fun i _ => xs.length - (intOf i).toNat)
    case atStart => exact ⟨0, by omega, rfl, rfl, Below.refl _ _⟩
    case round =>
      obtain ⟨k, hk, rfl, ht, hb⟩ := hrel
      have HT := hid ht
      clear ht
      by_cases hlt : k < xs.length
      · have hlt2 : k < ys.length := by have := HL.out; omega
        obtain ⟨b1, o1, x, rfl, l1, ex, c1⟩ := (HA.out.below hb).at_ hlt
        obtain ⟨b2, o2, y, rfl, l2, ey, c2⟩ := (HB.out.below hb).at_ hlt2
        have EX := hid ex
        have EY := hid ey
        clear ex ey
        by_cases e : x = y
        · have e' : (x != y) = false := by simpa using e
          have E := hid e
          clear e
          go_wp2_with fail
          go_quiet (fail)
          go_wp2_with fail
          go_roundw
          case rel => exact ⟨k + 1, by omega, by go_num, take_step HT.out EX.out EY.out E.out, hb.trans (belowN _ _ _)⟩
          case measure => simp [intOf]; omega
        · have e' : (x != y) = true := by simpa using e
          go_wp2_with fail
          go_quiet (fail)
          go_wp2_with fail
          go_ret
          rw [eqB_no EX.out EY.out e]
          exact ⟨rfl, hb.trans (belowN _ _ _)⟩
      · have hke : k = xs.length := by omega
        have HK := hid hke
        clear hke
        go_wp2_with fail
        go_ret
        rw [eqB_yes HT.out HK.out HL.out]
        exact ⟨rfl, hb⟩
  · rw [eqB_len hl]
    have h1 : ((xs.length : Int) != (ys.length : Int)) = true := by simp; omega
    have h2 : (xs.length != ys.length) = true := by simp; omega
    go_enter Try.func19, Try.ntmps19
    go_wp2_with fail
    go_ret
    exact ⟨rfl, Below.refl _ _⟩
/-- The first k numbers. -/
def pre (num : Nat → Int × Int) (k : Nat) : List Int := (List.range k).map fun j => (num j).1
theorem pre_succ (num : Nat → Int × Int) (k : Nat) : pre num (k + 1) = pre num k ++ [(num k).1] := by
  unfold pre; rw [List.range_succ, List.map_append]; rfl
theorem seqV_pre {num : Nat → Int × Int} {n : Nat} (h : seqE num n = 0) : seqV num n = pre num n := if_pos h
theorem seqE_succ {num : Nat → Int × Int} {k : Nat} (h : seqE num k = 0) : seqE num (k + 1) = (num k).2 := by
  show (if seqE num k = 0 then (num k).2 else seqE num k) = _
  rw [if_pos h]
theorem seq_off {num : Nat → Int × Int} {k n : Nat} (h : seqE num k = 0) (hk : k < n) (he : (num k).2 ≠ 0) : seqE num n = (num k).2 ∧ seqV num n = [] := by
  have e1 := seqE_succ h
  have e2 : seqE num n = (num k).2 := by rw [seqE_stays (k := k + 1) (by rw [e1]; exact he) n hk, e1]
  refine ⟨e2, ?_⟩
  unfold seqV
  rw [if_neg (by rw [e2]; exact he)]
theorem rAdd_any {A B : Option Addr} {c d : Nat} (xs ys : List Int) (hx : xs.length ≤ 9223372036854775807) (hy : ys.length ≤ 9223372036854775807) (ix : I64s xs) (iy : I64s ys) (w : World)
    (ra : Rd (Value.int .i64) w w.heap.size A xs) (rb : Rd (Value.int .i64) w w.heap.size B ys) :
    Calls Try.prog 55 #[.slice A xs.length c, .slice B ys.length d] w (OwnInts (opV (· + ·) xs ys) (opE (· + ·) xs ys) w) := by
  have CM := hid (two_any A B xs.length ys.length c d hx hy)
  by_cases ht : twoE xs.length ys.length = 0
  · have e1 : opE (· + ·) xs ys = seqE (numV2 (· + ·) xs ys) xs.length := if_pos ht
    have e2 : opV (· + ·) xs ys = seqV (numV2 (· + ·) xs ys) xs.length := if_pos ht
    rw [e1, e2]
    obtain ⟨hn, hl⟩ := twoE_ok ht
    have HL := hid hl
    have HA := hid ra
    have HB := hid rb
    have IX := hid ix
    have IY := hid iy
    rw [ht] at CM
    clear e1 e2 ht hl ra rb ix iy
    go_enter Try.func55, Try.ntmps55
    go_wp2_with fail
    refine (CM.out _).mono ?_
    rintro _ _ ⟨rfl, rfl⟩
    go_wp2_with fail
    go_loopw [7, 19] (fun o i wr => ∃ (k : Nat) (S : List Int) (A2 : Option Addr) (c2 : Nat), k ≤ xs.length ∧ i = .int .i64 k ∧ S.length = k ∧ o = .slice A2 S.length c2 ∧ S = pre (numV2 (· + ·) xs ys) k ∧ wr.ownsRow w.heap.size 2 1 (.slice A2 S.length c2) S.length (S.map (Value.int .i64)) ∧ seqE (numV2 (· + ·) xs ys) k = 0 ∧ Below w.heap.size w wr) (fun _ i _ => xs.length - (intOf i).toNat)
    case atStart => exact ⟨0, [], none, 0, by omega, rfl, rfl, rfl, rfl, own_nil _ _ _, rfl, Below.refl _ _⟩
    case round =>
      obtain ⟨k, S, A2, c2, hk, rfl, hSk, rfl, hS, hown, hs, hb⟩ := hrel
      have HS := hid hS
      have HO := hid hown
      have HE := hid hs
      have HSK := hid hSk
      have lS : S.length ≤ 4096 := by omega
      clear hS hown hs hSk
      by_cases hlt : k < xs.length
      · have hlt2 : k < ys.length := by have := HL.out; omega
        obtain ⟨b1, o1, x, rfl, l1, ex, c1⟩ := (HA.out.below hb).at_ hlt
        obtain ⟨b2, o2, y, rfl, l2, ey, c2⟩ := (HB.out.below hb).at_ hlt2
        have CA := hid (ref_Add x y (IX.out.at_ ex) (IY.out.at_ ey))
        have en : numV2 (· + ·) xs ys k = (ckV (x + y), ckE (x + y)) := by unfold numV2; rw [getD_of ex, getD_of ey]
        have EN := hid en
        clear ex ey en
        obtain ⟨z, hz⟩ : ∃ z, ckV (x + y) = z := ⟨_, rfl⟩
        obtain ⟨er, he⟩ : ∃ z, ckE (x + y) = z := ⟨_, rfl⟩
        rw [hz, he] at CA EN
        clear hz he
        go_wp2_with fail
        go_quiet ((go_at_call 30; exact quietL CA.out _))
        have hbn := hb.trans (belowN w.heap.size wr nq)
        by_cases her : er = 0
        · subst her
          have h0 := own_on HO.out ((belowN wr.heap.size wr nq).alloc (Nat.le_refl _) (.cells #[.int .i64 z] 2))
          have hr0 : Rd (Value.int .i64) ((wr.drewN nq).alloc (.cells #[.int .i64 z] 2)) _ (some ⟨wr.heap.size, 0, none⟩) [z] := rd_one (one_cell (wr.drewN nq) (.int .i64 z) 2).1
          go_wp2_with (at_builtin; refine wpList_app (Value.int .i64) (fun _ => rfl) _ rfl _ _ 22 rfl w.heap.size 2 (.int .i64 0) 8 Try.underlying22 info_i64 rfl S _ _ rfl h0 [z] _ 1 _ rfl hr0 (by simp [maxLen]; omega) (by simp; omega) (by have := hb.size; simp; omega) ?_)
          rintro S' A' c' w1 hS' ho hb1 _
          have HS' := hid hS'
          have HO' := hid ho
          clear hS' ho
          go_wp2_with fail
          go_roundw
          case rel =>
            refine ⟨k + 1, S', A', c', by omega, by go_num, ?_, rfl, ?_, HO'.out, ?_, (hbn.alloc hb.size _).trans hb1⟩
            · rw [HS'.out, List.length_append, HSK.out]; rfl
            · rw [HS'.out, HS.out, pre_succ, EN.out]
            · rw [seqE_succ HE.out, EN.out]
          case measure => simp [intOf]; omega
        · have hne : (er != 0) = true := by simpa using her
          go_wp2_with fail
          go_ret2
          obtain ⟨e1, e2⟩ := seq_off HE.out hlt (by rw [EN.out]; exact her)
          rw [e1, e2, EN.out]
          exact ⟨none, 0, rfl, own_nil _ _ _, hbn⟩
      · obtain rfl : k = xs.length := by omega
        go_wp2_with fail
        go_ret2
        rw [HE.out, seqV_pre HE.out, ← HS.out]
        exact ⟨A2, c2, rfl, HO.out, hb⟩
  · have e1 : opE (· + ·) xs ys = twoE xs.length ys.length := if_neg ht
    have e2 : opV (· + ·) xs ys = [] := if_neg ht
    rw [e1, e2]
    clear e1 e2
    obtain ⟨t, hte⟩ : ∃ t, twoE xs.length ys.length = t := ⟨_, rfl⟩
    rw [hte] at ht CM ⊢
    have hne : (t != 0) = true := by simpa using ht
    clear ra rb ix iy hte ht
    go_enter Try.func55, Try.ntmps55
    go_wp2_with fail
    refine (CM.out _).mono ?_
    rintro _ _ ⟨rfl, rfl⟩
    go_wp2_with fail
    go_ret2
    exact ⟨none, 0, rfl, own_nil _ _ _, Below.refl _ _⟩
end Go.Proofs.Ytcjkofcgphcjnaa
/- The document's vec: Scale, More, Zero. -/
namespace Go.Proofs.Ytcjkofcgphcjnaa
open Go.RowKit
set_option maxHeartbeats 400000
set_option maxRecDepth 100000
set_option linter.unusedVariables false
theorem ref_mul (a b m : Int) (ha : I64 a) (hb : I64 b) (w : World) :
    Calls Try.prog 42 #[.int .i64 a, .int .i64 b, .int .i64 m] w fun r W' => r = .returned (.tuple #[.int .i64 (mulV a b m), .int .i64 (mulE a b m)]) ∧ w = W' := by
  by_cases h : m < 0 ∨ 30 < m
  · rw [show mulV a b m = 0 from if_pos h, show mulE a b m = 1 from if_pos h]
    exact ref_Mul_bad a b m h w
  · rw [show mulV a b m = ckV (a * b / 2 ^ m.toNat) from if_neg h, show mulE a b m = ckE (a * b / 2 ^ m.toNat) from if_neg h]
    obtain ⟨k, rfl⟩ := Int.eq_ofNat_of_zero_le (show 0 ≤ m by omega)
    exact ref_Mul a b k (by omega) ha hb w
theorem rScale_any {A : Option Addr} {c : Nat} (xs : List Int) (hx : xs.length ≤ 9223372036854775807) (ix : I64s xs) (b m : Int) (hb : I64 b) (w : World) (ra : Rd (Value.int .i64) w w.heap.size A xs) :
    Calls Try.prog 39 #[.slice A xs.length c, .int .i64 b, .int .i64 m] w (OwnInts (unV (behE m) (numS xs b m) xs.length) (unE (behE m) (numS xs b m) xs.length) w) := by
  by_cases hn : 4096 < xs.length
  · have e := un_long hn (behE m) (numS xs b m)
    rw [e.1, e.2]
    clear e ra ix
    go_enter Try.func39, Try.ntmps39
    go_wp2_with fail
    go_ret2
    exact ⟨none, 0, rfl, own_nil _ _ _, Below.refl _ _⟩
  · by_cases hq : m < 0 ∨ 30 < m
    · have e := un_bad hn (q := behE m) (by rw [show behE m = 1 from if_pos hq]; decide) (numS xs b m)
      rw [e.1, e.2, show behE m = 1 from if_pos hq]
      clear e ra ix
      by_cases h1 : m < 0
      · clear hq
        go_enter Try.func39, Try.ntmps39
        go_wp2_with fail
        go_ret2
        exact ⟨none, 0, rfl, own_nil _ _ _, Below.refl _ _⟩
      · have h2 : 30 < m := by omega
        clear hq
        go_enter Try.func39, Try.ntmps39
        go_wp2_with fail
        go_ret2
        exact ⟨none, 0, rfl, own_nil _ _ _, Below.refl _ _⟩
    · rw [show behE m = 0 from if_neg hq]
      have e := un_ok hn (numS xs b m)
      rw [e.1, e.2]
      have HA := hid ra
      have IX := hid ix
      have m1 : 0 ≤ m := by omega
      have m2 : m ≤ 30 := by omega
      clear e ra ix hq
      go_enter Try.func39, Try.ntmps39
      go_wp2_with fail
      go_loopw [8, 24] (fun o i wr => ∃ (k : Nat) (S : List Int) (A2 : Option Addr) (c2 : Nat), k ≤ xs.length ∧ i = .int .i64 k ∧ S.length = k ∧ o = .slice A2 S.length c2 ∧ S = pre (numS xs b m) k ∧ wr.ownsRow w.heap.size 2 1 (.slice A2 S.length c2) S.length (S.map (Value.int .i64)) ∧ seqE (numS xs b m) k = 0 ∧ Below w.heap.size w wr) (fun _ i _ => xs.length - (intOf i).toNat)
      case atStart => exact ⟨0, [], none, 0, by omega, rfl, rfl, rfl, rfl, own_nil _ _ _, rfl, Below.refl _ _⟩
      case round =>
        obtain ⟨k, S, A2, c2, hk, rfl, hSk, rfl, hS, hown, hs, hbr⟩ := hrel
        have HS := hid hS
        have HO := hid hown
        have HE := hid hs
        have HSK := hid hSk
        have lS : S.length ≤ 4096 := by omega
        clear hS hown hs hSk
        by_cases hlt : k < xs.length
        · obtain ⟨b1, o1, x, rfl, l1, ex, c1⟩ := (HA.out.below hbr).at_ hlt
          have CA := hid (ref_mul x b m (IX.out.at_ ex) hb)
          have en : numS xs b m k = (mulV x b m, mulE x b m) := by unfold numS; rw [getD_of ex]
          have EN := hid en
          clear ex en
          obtain ⟨z, hz⟩ : ∃ z, mulV x b m = z := ⟨_, rfl⟩
          obtain ⟨er, he⟩ : ∃ z, mulE x b m = z := ⟨_, rfl⟩
          rw [hz, he] at CA EN
          clear hz he
          go_wp2_with fail
          refine (CA.out _).mono ?_
          rintro _ _ ⟨rfl, rfl⟩
          by_cases her : er = 0
          · subst her
            have h0 := own_on HO.out ((Below.refl wr.heap.size wr).alloc (Nat.le_refl _) (.cells #[.int .i64 z] 2))
            have hr0 : Rd (Value.int .i64) (wr.alloc (.cells #[.int .i64 z] 2)) _ (some ⟨wr.heap.size, 0, none⟩) [z] := rd_one (one_cell wr (.int .i64 z) 2).1
            go_wp2_with (at_builtin; refine wpList_app (Value.int .i64) (fun _ => rfl) _ rfl _ _ 22 rfl w.heap.size 2 (.int .i64 0) 8 Try.underlying22 info_i64 rfl S _ _ rfl h0 [z] _ 1 _ rfl hr0 (by simp [maxLen]; omega) (by simp; omega) (by have := hbr.size; simp; omega) ?_)
            rintro S' A' c' w1 hS' ho hb1 _
            have HS' := hid hS'
            have HO' := hid ho
            clear hS' ho
            go_wp2_with fail
            go_roundw
            case rel =>
              refine ⟨k + 1, S', A', c', by omega, by go_num, ?_, rfl, ?_, HO'.out, ?_, (hbr.alloc hbr.size _).trans hb1⟩
              · rw [HS'.out, List.length_append, HSK.out]; rfl
              · rw [HS'.out, HS.out, pre_succ, EN.out]
              · rw [seqE_succ HE.out, EN.out]
            case measure => simp [intOf]; omega
          · have hne : (er != 0) = true := by simpa using her
            go_wp2_with fail
            go_ret2
            obtain ⟨e1, e2⟩ := seq_off HE.out hlt (by rw [EN.out]; exact her)
            rw [e1, e2, EN.out]
            exact ⟨none, 0, rfl, own_nil _ _ _, hbr⟩
        · obtain rfl : k = xs.length := by omega
          go_wp2_with fail
          go_ret2
          rw [HE.out, seqV_pre HE.out, ← HS.out]
          exact ⟨A2, c2, rfl, HO.out, hbr⟩
end Go.Proofs.Ytcjkofcgphcjnaa
/- The document's vec: Size, Most, Dot, Sum, Clip. -/
namespace Go.Proofs.Ytcjkofcgphcjnaa
open Go.RowKit
set_option maxHeartbeats 400000
set_option maxRecDepth 100000
set_option linter.unusedVariables false
theorem rDot_any {A B : Option Addr} {c d : Nat} (xs ys : List Int) (hx : xs.length ≤ 9223372036854775807) (hy : ys.length ≤ 9223372036854775807) (ix : I64s xs) (iy : I64s ys) (m : Int) (w : World)
    (ra : Rd (Value.int .i64) w w.heap.size A xs) (rb : Rd (Value.int .i64) w w.heap.size B ys) :
    Calls Try.prog 29 #[.slice A xs.length c, .slice B ys.length d, .int .i64 m] w fun e w' => e = .returned (.tuple #[.int .i64 (dotV xs ys m), .int .i64 (dotE xs ys m)]) ∧ Below w.heap.size w w' := by
  have CM := hid (two_any A B xs.length ys.length c d hx hy)
  by_cases ht : twoE xs.length ys.length = 0
  · rw [show dotE xs ys m = if behE m = 0 then (tot (numD xs ys m) xs.length).2 else behE m from if_pos ht, show dotV xs ys m = if behE m = 0 then (tot (numD xs ys m) xs.length).1 else 0 from if_pos ht]
    obtain ⟨hn, hl⟩ := twoE_ok ht
    have HL := hid hl
    have HA := hid ra
    have HB := hid rb
    have IX := hid ix
    have IY := hid iy
    rw [ht] at CM
    clear ht hl ra rb ix iy
    by_cases hq : m < 0 ∨ 30 < m
    · rw [show behE m = 1 from if_pos hq, if_neg (by decide), if_neg (by decide)]
      by_cases h1 : m < 0
      · clear hq
        go_enter Try.func29, Try.ntmps29
        go_wp2_with fail
        refine (CM.out _).mono ?_
        rintro _ _ ⟨rfl, rfl⟩
        go_wp2_with fail
        go_ret2
        exact ⟨rfl, Below.refl _ _⟩
      · have h2 : 30 < m := by omega
        clear hq
        go_enter Try.func29, Try.ntmps29
        go_wp2_with fail
        refine (CM.out _).mono ?_
        rintro _ _ ⟨rfl, rfl⟩
        go_wp2_with fail
        go_ret2
        exact ⟨rfl, Below.refl _ _⟩
    · rw [show behE m = 0 from if_neg hq, if_pos rfl, if_pos rfl]
      have m1 : 0 ≤ m := by omega
      have m2 : m ≤ 30 := by omega
      clear hq
      go_enter Try.func29, Try.ntmps29
      go_wp2_with fail
      refine (CM.out _).mono ?_
      rintro _ _ ⟨rfl, rfl⟩
      go_wp2_with fail
      go_loopw [9, 27] (fun s i wr => ∃ (k : Nat) (S : Int), k ≤ xs.length ∧ i = .int .i64 k ∧ s = .int .i64 S ∧ I64 S ∧ tot (numD xs ys m) k = (S, 0) ∧ Below w.heap.size w wr) (fun _ i _ => xs.length - (intOf i).toNat)
      case atStart => exact ⟨0, 0, by omega, rfl, rfl, by decide, rfl, Below.refl _ _⟩
      case round =>
        obtain ⟨k, S, hk, rfl, rfl, hS, hs, hbr⟩ := hrel
        have HS := hid hs
        clear hs
        by_cases hlt : k < xs.length
        · have hlt2 : k < ys.length := by have := HL.out; omega
          obtain ⟨b1, o1, x, rfl, l1, ex, c1⟩ := (HA.out.below hbr).at_ hlt
          obtain ⟨b2, o2, y, rfl, l2, ey, c2⟩ := (HB.out.below hbr).at_ hlt2
          have CA := hid (ref_mul x y m (IX.out.at_ ex) (IY.out.at_ ey))
          have en : numD xs ys m k = (mulV x y m, mulE x y m) := by unfold numD; rw [getD_of ex, getD_of ey]
          have EN := hid en
          have iz := mulV_i64 x y m
          clear ex ey en
          obtain ⟨z, hz⟩ : ∃ z, mulV x y m = z := ⟨_, rfl⟩
          obtain ⟨er, he⟩ : ∃ z, mulE x y m = z := ⟨_, rfl⟩
          rw [hz, he] at CA EN
          rw [hz] at iz
          have CB := ref_Add S z hS iz
          clear hz he
          by_cases her : er = 0
          · subst her
            by_cases hin : I64 (S + z)
            · rw [ckV_in hin, ckE_in hin] at CB
              obtain ⟨T, hT⟩ : ∃ T, S + z = T := ⟨_, rfl⟩
              rw [hT] at CB hin
              have HT := hid hT
              have CB' := hid CB
              clear CB hT
              go_wp2_with fail
              go_quiet ((go_at_call 42; exact quietL CA.out _))
              go_wp2_with fail
              refine (CB'.out _).mono ?_
              rintro _ _ ⟨rfl, rfl⟩
              go_wp2_with fail
              go_roundw
              case rel =>
                refine ⟨k + 1, T, by omega, by go_num, rfl, hin, ?_, hbr.trans (belowN _ _ _)⟩
                simp only [tot, HS.out, EN.out, HT.out, if_pos, ckV_in hin, ckE_in hin]
              case measure => simp [intOf]; omega
            · rw [ckV_out hin, ckE_out hin] at CB
              have CB' := hid CB
              clear CB
              go_wp2_with fail
              go_quiet ((go_at_call 42; exact quietL CA.out _))
              go_wp2_with fail
              refine (CB'.out _).mono ?_
              rintro _ _ ⟨rfl, rfl⟩
              go_wp2_with fail
              go_ret2
              have e1 : tot (numD xs ys m) (k + 1) = (0, 2) := by simp only [tot, HS.out, EN.out, if_pos, ckV_out hin, ckE_out hin]
              rw [tot_stays (k := k + 1) (by rw [e1]; decide) xs.length hlt, e1]
              exact ⟨rfl, hbr.trans (belowN _ _ _)⟩
          · have hne : (er != 0) = true := by simpa using her
            clear CB
            go_wp2_with fail
            go_quiet ((go_at_call 42; exact quietL CA.out _))
            go_wp2_with fail
            go_ret2
            have e1 : tot (numD xs ys m) (k + 1) = (0, er) := by simp only [tot, HS.out, EN.out, if_pos, if_neg her]
            rw [tot_stays (k := k + 1) (by rw [e1]; exact her) xs.length hlt, e1]
            exact ⟨rfl, hbr.trans (belowN _ _ _)⟩
        · obtain rfl : k = xs.length := by omega
          go_wp2_with fail
          go_ret2
          rw [HS.out]
          exact ⟨rfl, hbr⟩
  · rw [show dotE xs ys m = twoE xs.length ys.length from if_neg ht, show dotV xs ys m = 0 from if_neg ht]
    obtain ⟨t, hte⟩ : ∃ t, twoE xs.length ys.length = t := ⟨_, rfl⟩
    rw [hte] at ht CM ⊢
    have hne : (t != 0) = true := by simpa using ht
    clear ix iy ra rb ht hte
    go_enter Try.func29, Try.ntmps29
    go_wp2_with fail
    refine (CM.out _).mono ?_
    rintro _ _ ⟨rfl, rfl⟩
    go_wp2_with fail
    go_ret2
    exact ⟨rfl, Below.refl _ _⟩
end Go.Proofs.Ytcjkofcgphcjnaa
/- The document's vec: Sum; the chapter's examples; how many are short enough. -/
namespace Go.Proofs.Ytcjkofcgphcjnaa
open Go.RowKit
set_option maxHeartbeats 400000
set_option maxRecDepth 100000
set_option linter.unusedVariables false
theorem rSum_any (A : Option Addr) (c : Nat) (rows : List (List Int)) (ho : RowsOk rows) (hr : rows.length ≤ 1099511627776) (w : World) (ra : RdRows w w.heap.size A rows) :
    Calls Try.prog 35 #[.slice A rows.length c] w (OwnInts (sumAll rows).1 (sumAll rows).2 w) := by
  have RA := hid ra
  have HR := hid ho
  clear ra ho
  go_enter Try.func35, Try.ntmps35
  go_wp2_with fail
  go_loopw [4, 12] (fun s i wr => ∃ (k : Nat) (S : List Int) (A2 : Option Addr) (c2 : Nat), k ≤ rows.length ∧ i = .int .i64 k ∧ s = .slice A2 S.length c2 ∧ wr.ownsRow w.heap.size 2 1 (.slice A2 S.length c2) S.length (S.map (Value.int .i64)) ∧ I64s S ∧ S.length ≤ 4096 ∧ (k = 0 → S = []) ∧ (1 ≤ k → sumFrom S (rows.drop k) = sumAll rows) ∧ Below w.heap.size w wr) (fun _ i _ => rows.length - (intOf i).toNat)
  case atStart => exact ⟨0, [], none, 0, by omega, rfl, rfl, own_nil _ _ _, by intro x hx; simp at hx, by simp, fun _ => rfl, fun h => absurd h (by omega), Below.refl _ _⟩
  case round =>
    obtain ⟨k, S, A2, c2, hk, rfl, rfl, hS, iS, lS, h0S, hs, hbr⟩ := hrel
    have HSO := hid hS
    have HSI := hid iS
    have HSE := hid hs
    have HS0 := hid h0S
    clear hS iS hs h0S
    by_cases hlt : k < rows.length
    · obtain ⟨u, hu⟩ : ∃ u, rows[k]? = some u := ⟨_, List.getElem?_eq_getElem hlt⟩
      obtain ⟨b, off, A3, c3, rfl, l3, hc3, hr3⟩ := RA.out k u hu
      have hc4 := (hbr.cell (p := ⟨b, off + k, none⟩) l3).trans hc3
      obtain ⟨iu, lu⟩ := HR.out u (List.mem_of_getElem? hu)
      by_cases hk0 : k = 0
      · have hk1 : ((k : Int) == 0) = true := by simp; omega
        have hk2 : k ≤ 0 := by omega
        have CM := hid (rCheck_any A3 u.length c3 (by omega))
        obtain ⟨v0, r0, hrows⟩ : ∃ v r, rows = v :: r := by
          cases rows with
          | nil => simp at hlt
          | cons v r => exact ⟨v, r, rfl⟩
        have huv : v0 = u := by rw [hk0, hrows] at hu; simpa using hu
        have HV := hid (And.intro hrows huv)
        have HIU := hid iu
        clear hrows huv iu
        by_cases hl : 4096 < u.length
        · rw [show oneE u.length = 3 from if_pos hl] at CM
          clear hc3 hr3 hu hk0
          go_wp2_with fail
          refine (CM.out _).mono ?_
          rintro _ _ ⟨rfl, rfl⟩
          go_wp2_with fail
          go_ret2
          obtain ⟨hrows, rfl⟩ := HV.out
          rw [show sumAll rows = ([], 3) by rw [hrows]; exact if_pos hl]
          exact ⟨none, 0, rfl, own_nil _ _ _, hbr⟩
        · rw [show oneE u.length = 0 from if_neg hl] at CM
          have hrd := hr3.below hbr
          have hSe := HS0.out hk0
          have HK0 := hid hk0
          clear hc3 hr3 hu hk0
          have HO0 := HSO.out
          have hS0 : S.length ≤ 0 := by rw [hSe]; simp
          have HSe := hid hSe
          clear hSe
          go_wp2_with fail
          refine (CM.out _).mono ?_
          rintro _ _ ⟨rfl, rfl⟩
          go_wp2_with (at_builtin; refine wpList_app (Value.int .i64) (fun _ => rfl) _ rfl _ _ 22 rfl w.heap.size 2 (.int .i64 0) 8 Try.underlying22 info_i64 rfl S _ _ rfl HO0 u _ c3 _ rfl hrd (by simp [maxLen]; omega) (by omega) hbr.size ?_)
          rintro S' A' c' w1 hS' ho1 hb1 _
          have HS' := hid hS'
          have HO' := hid ho1
          clear hS' ho1 HO0
          have hlS : S'.length ≤ 4096 := by rw [HS'.out, HSe.out]; simp; omega
          go_wp2_with fail
          go_roundw
          case rel =>
            refine ⟨k + 1, S', A', c', by omega, by go_num, rfl, HO'.out, ?_, hlS, fun h => absurd h (by omega), fun _ => ?_, hbr.trans hb1⟩
            · rw [HS'.out, HSe.out]; exact HIU.out
            · obtain ⟨hrows, rfl⟩ := HV.out
              rw [HS'.out, HSe.out, HK0.out, hrows]
              exact (if_neg hl).symm
          case measure => simp [intOf]; omega
      · have hk1 : ((k : Int) == 0) = false := by simp; omega
        have CA := hid (rAdd_any (c := c2) (d := c3) S u (by omega) (by omega) HSI.out iu wr (own_rd HSO.out) ((hr3.below hbr).more hbr.size))
        have hgo := hid (fun h => sum_go (S := S) hu h)
        have hoff := hid (fun h => sum_off (S := S) hu h)
        have hlen := opV_len (· + ·) S u
        have hi64 := hid (opV_i64 (· + ·) S u)
        obtain ⟨er, he⟩ : ∃ x, opE (· + ·) S u = x := ⟨_, rfl⟩
        obtain ⟨T, hT⟩ : ∃ x, opV (· + ·) S u = x := ⟨_, rfl⟩
        rw [he, hT] at CA hgo
        rw [he] at hoff
        rw [hT] at hlen hi64
        have HK := hid hk0
        have kge : 1 ≤ k := by omega
        clear hc3 hr3 hu he hT hk0 iu
        go_wp2_with fail
        refine CA.out.mono ?_
        rintro _ w2 ⟨A4, c4, rfl, ho4, hb4⟩
        have HO4 := hid ho4
        clear ho4
        have hbr2 := hbr.trans (hb4.mono hbr.size)
        by_cases her : er = 0
        · subst her
          go_wp2_with fail
          go_roundw
          case rel => exact ⟨k + 1, T, A4, c4, by omega, by go_num, rfl, own_base HO4.out hbr.size, hi64.out, hlen, fun h => absurd h (by omega), fun _ => by rw [← hgo.out (by simp)]; exact HSE.out kge, hbr2⟩
          case measure => simp [intOf]; omega
        · have hne : (er != 0) = true := by simpa using her
          have hh := hid (hoff.out her)
          go_wp2_with fail
          go_ret2
          rw [← HSE.out kge, hh.out]
          exact ⟨none, 0, rfl, own_nil _ _ _, hbr2⟩
    · obtain rfl : k = rows.length := by omega
      go_wp2_with fail
      go_ret2
      have e : sumAll rows = (S, 0) := by
        by_cases h1 : 1 ≤ rows.length
        · have := HSE.out h1
          rw [List.drop_length] at this
          exact this.symm
        · have hnil : rows = [] := List.eq_nil_of_length_eq_zero (by omega)
          rw [HS0.out (by omega), hnil]; rfl
      rw [e]
      exact ⟨A2, c2, rfl, HSO.out, hbr⟩
end Go.Proofs.Ytcjkofcgphcjnaa
/- Plain mathematics of vectors: when a call tells no error, and what it tells then. -/
namespace Go.Proofs.Ytcjkofcgphcjnaa
set_option maxRecDepth 100000
set_option linter.unusedVariables false
theorem seqE_zero {num : Nat → Int × Int} : ∀ {n : Nat}, seqE num n = 0 ↔ ∀ k, k < n → (num k).2 = 0
  | 0 => ⟨fun _ k hk => absurd hk (by omega), fun _ => rfl⟩
  | n + 1 => by
    show (if seqE num n = 0 then (num n).2 else seqE num n) = 0 ↔ _
    have ih := seqE_zero (num := num) (n := n)
    split
    · rename_i h
      constructor
      · intro h2 k hk
        by_cases e : k = n
        · rw [e]; exact h2
        · exact ih.1 h k (by omega)
      · intro h2; exact h2 n (by omega)
    · rename_i h
      constructor
      · intro h2; exact absurd h2 h
      · intro h2; exact absurd (ih.2 fun k hk => h2 k (by omega)) h
theorem ckE_zero {s : Int} : ckE s = 0 ↔ I64 s := by
  unfold ckE; split <;> simp_all
theorem range_getDv (xs : List Int) : (List.range xs.length).map (fun k => xs.getD k 0) = xs := by
  apply List.ext_getElem?
  intro i
  by_cases h : i < xs.length
  · simp [h, List.getD]
  · simp [h]
theorem getD_range {f : Nat → Int} {n k : Nat} (hk : k < n) : ((List.range n).map f).getD k 0 = f k := by
  simp [List.getD, hk]
theorem map_range_ext {f g : Nat → Int} {n : Nat} (h : ∀ k, k < n → f k = g k) : (List.range n).map f = (List.range n).map g := by
  apply List.map_congr_left
  intro k hk
  exact h k (by simpa using hk)
theorem op_ok {f : Int → Int → Int} {xs ys : List Int} (h : opE f xs ys = 0) :
    xs.length ≤ 4096 ∧ ys.length = xs.length ∧ (∀ k, k < xs.length → I64 (f (xs.getD k 0) (ys.getD k 0))) ∧ opV f xs ys = (List.range xs.length).map fun k => f (xs.getD k 0) (ys.getD k 0) := by
  unfold opE at h
  unfold opV
  by_cases ht : twoE xs.length ys.length = 0
  · rw [if_pos ht] at h ⊢
    obtain ⟨h1, h2⟩ := twoE_ok ht
    have hk : ∀ k, k < xs.length → I64 (f (xs.getD k 0) (ys.getD k 0)) := fun k hk => ckE_zero.1 (seqE_zero.1 h k hk)
    refine ⟨h1, h2, hk, ?_⟩
    unfold seqV
    rw [if_pos h]
    exact map_range_ext fun k hk' => ckV_in (hk k hk')
  · rw [if_neg ht] at h
    exact absurd h ht
theorem twoE_mk {n m : Nat} (h1 : n ≤ 4096) (h2 : m = n) : twoE n m = 0 := by
  unfold twoE; rw [if_neg (by omega), if_pos h2.symm]
theorem op_mk {f : Int → Int → Int} {xs ys : List Int} (h1 : xs.length ≤ 4096) (h2 : ys.length = xs.length) (hk : ∀ k, k < xs.length → I64 (f (xs.getD k 0) (ys.getD k 0))) :
    opE f xs ys = 0 ∧ opV f xs ys = (List.range xs.length).map fun k => f (xs.getD k 0) (ys.getD k 0) := by
  have h : opE f xs ys = 0 := by
    unfold opE
    rw [if_pos (twoE_mk h1 h2)]
    exact seqE_zero.2 fun k hk' => ckE_zero.2 (hk k hk')
  exact ⟨h, (op_ok h).2.2.2⟩
theorem sumFrom_len : ∀ (r : List (List Int)) (S : List Int), S.length ≤ 4096 → (sumFrom S r).1.length ≤ 4096
  | [], S, h => h
  | v :: r, S, h => by
    unfold sumFrom
    split
    · exact sumFrom_len r _ (opV_len _ _ _)
    · simp
theorem sumAll_len {rows : List (List Int)} (h : RowsOk rows) : (sumAll rows).1.length ≤ 4096 := by
  unfold sumAll
  split
  · simp
  · split
    · simp
    · exact sumFrom_len _ _ (by omega)
end Go.Proofs.Ytcjkofcgphcjnaa
/- Plain mathematics of vectors: sizes, the greatest, products. -/
namespace Go.Proofs.Ytcjkofcgphcjnaa
set_option maxRecDepth 100000
set_option linter.unusedVariables false
def sm (f : Nat → Int) : Nat → Int
  | 0 => 0
  | n + 1 => sm f n + f n
theorem tot_mk {num : Nat → Int × Int} : ∀ {n : Nat}, (∀ k, k < n → (num k).2 = 0) → (∀ k, k ≤ n → I64 (sm (fun k => (num k).1) k)) → tot num n = (sm (fun k => (num k).1) n, 0)
  | 0, _, _ => rfl
  | n + 1, h, hi => by
    have ih := tot_mk (num := num) (n := n) (fun k hk => h k (by omega)) (fun k hk => hi k (by omega))
    have := hi (n + 1) (Nat.le_refl _)
    unfold tot
    rw [ih]
    simp only [if_pos, h n (by omega)]
    have e : sm (fun k => (num k).1) n + (num n).1 = sm (fun k => (num k).1) (n + 1) := rfl
    rw [e, ckV_in this, ckE_in this]
theorem sm_ext {f g : Nat → Int} : ∀ {n : Nat}, (∀ k, k < n → f k = g k) → sm f n = sm g n
  | 0, _ => rfl
  | n + 1, h => by
    unfold sm
    rw [sm_ext (n := n) fun k hk => h k (by omega), h n (by omega)]
theorem sm_bound {f : Nat → Int} {m : Int} : ∀ {n : Nat}, (∀ k, k < n → -m ≤ f k ∧ f k ≤ m) → -(m * n) ≤ sm f n ∧ sm f n ≤ m * n
  | 0, _ => by simp [sm]
  | n + 1, h => by
    have a := sm_bound (f := f) (n := n) fun k hk => h k (by omega)
    have b := h n (by omega)
    have e : m * ((n + 1 : Nat) : Int) = m * n + m := by rw [Int.natCast_add, Int.mul_add]; simp
    unfold sm
    rw [e]; omega
theorem tot_i64 (num : Nat → Int × Int) (h : ∀ k, I64 (num k).1) : ∀ n, I64 (tot num n).1
  | 0 => (by decide : I64 0)
  | n + 1 => by
    have ih := tot_i64 num h n
    unfold tot
    by_cases h1 : (tot num n).2 = 0
    · rw [if_pos h1]
      by_cases h2 : (num n).2 = 0
      · rw [if_pos h2]; exact ckV_i64 _
      · rw [if_neg h2]; exact (by decide : I64 0)
    · rw [if_neg h1]; exact ih
theorem un_mk {num : Nat → Int × Int} {n : Nat} (hn : n ≤ 4096) (h : ∀ k, k < n → (num k).2 = 0) : unE 0 num n = 0 ∧ unV 0 num n = (List.range n).map fun k => (num k).1 := by
  have h' : ¬ 4096 < n := by omega
  rw [(un_ok h' num).1, (un_ok h' num).2]
  refine ⟨seqE_zero.2 h, ?_⟩
  unfold seqV
  rw [if_pos (seqE_zero.2 h)]
theorem mul_ok {a b : Int} {m : Nat} (hm : m ≤ 30) {c : Int} (h : a * b / 2 ^ m = c) (hc : I64 c) : mulV a b m = c ∧ mulE a b m = 0 := by
  unfold mulV mulE
  rw [if_neg (by omega), if_neg (by omega), show ((m : Nat) : Int).toNat = m from Int.toNat_natCast m, h, ckV_in hc, ckE_in hc]
  exact ⟨rfl, rfl⟩
theorem beh_ok {m : Nat} (hm : m ≤ 30) : behE m = 0 := if_neg (by omega)
end Go.Proofs.Ytcjkofcgphcjnaa
/- Plain mathematics of vectors: sums of many; lists of lists in memory, part of them and turned round. -/
namespace Go.Proofs.Ytcjkofcgphcjnaa
open Go.RowKit
set_option maxRecDepth 100000
set_option linter.unusedVariables false
/-- What all rows have at one place, together. -/
def col (rows : List (List Int)) (k : Nat) : Int := rows.foldr (fun r s => r.getD k 0 + s) 0
theorem col_cons (v : List Int) (r : List (List Int)) (k : Nat) : col (v :: r) k = v.getD k 0 + col r k := rfl
theorem col_append (r s : List (List Int)) (k : Nat) : col (r ++ s) k = col r k + col s k := by
  induction r with
  | nil => simp [col]
  | cons v r ih => rw [List.cons_append, col_cons, col_cons, ih]; omega
theorem col_reverse (r : List (List Int)) (k : Nat) : col r.reverse k = col r k := by
  induction r with
  | nil => rfl
  | cons v r ih => rw [List.reverse_cons, col_append, ih, col_cons, col_cons]; simp [col]; omega
/-- Rows of one length, none great. -/
def Even (n : Nat) (rows : List (List Int)) : Prop := ∀ v ∈ rows, v.length = n ∧ ∀ x ∈ v, -1125899906842624 ≤ x ∧ x ≤ 1125899906842624
theorem even_at {n : Nat} {rows : List (List Int)} (h : Even n rows) {v : List Int} (hv : v ∈ rows) {k : Nat} (hk : k < n) : -1125899906842624 ≤ v.getD k 0 ∧ v.getD k 0 ≤ 1125899906842624 := by
  obtain ⟨hl, hx⟩ := h v hv
  have : v.getD k 0 = v[k]'(by omega) := by simp [List.getD, show k < v.length by omega]
  rw [this]
  exact hx _ (List.getElem_mem _)
theorem sumFrom_even {n : Nat} (hn : n ≤ 4096) : ∀ (r : List (List Int)) (S : List Int) (m0 : Nat), Even n r → S.length = n → (∀ k, k < n → -(1125899906842624 * (m0 : Int)) ≤ S.getD k 0 ∧ S.getD k 0 ≤ 1125899906842624 * (m0 : Int)) → m0 + r.length ≤ 100 →
    sumFrom S r = ((List.range n).map fun k => S.getD k 0 + col r k, 0)
  | [], S, m0, _, hl, _, _ => by
    show (S, (0 : Int)) = _
    rw [Prod.mk.injEq]
    refine ⟨?_, rfl⟩
    conv => lhs; rw [← range_getDv S]
    rw [hl]
    exact map_range_ext fun k _ => by simp [col]
  | v :: r, S, m0, he, hl, hb, hm => by
    simp only [List.length_cons] at hm
    have hv := he v (by simp)
    have o := op_mk (f := (· + ·)) (xs := S) (ys := v) (by omega) (by omega) fun k hk => by
      have a := hb k (by omega)
      have b := even_at he (v := v) (by simp) (k := k) (by omega)
      show I64 (_ + _)
      unfold I64; omega
    unfold sumFrom
    rw [if_pos o.1, o.2, hl]
    have hT : ((List.range n).map fun k => S.getD k 0 + v.getD k 0).length = n := by simp
    have ih := sumFrom_even hn r ((List.range n).map fun k => S.getD k 0 + v.getD k 0) (m0 + 1) (fun u hu => he u (by simp [hu])) hT (fun k hk => by
      have a := hb k hk
      have b := even_at he (v := v) (by simp) hk
      rw [getD_range hk]
      rw [Int.natCast_add]; omega) (by omega)
    rw [ih, Prod.mk.injEq]
    refine ⟨map_range_ext fun k hk => ?_, rfl⟩
    rw [getD_range hk, col_cons]; omega
theorem sumAll_even {n : Nat} (hn : n ≤ 4096) {rows : List (List Int)} (he : Even n rows) (hl : rows.length ≤ 100) (h0 : rows ≠ []) : sumAll rows = ((List.range n).map (col rows), 0) := by
  cases rows with
  | nil => exact absurd rfl h0
  | cons v r =>
    have hv := he v (by simp)
    simp only [List.length_cons] at hl
    rw [show sumAll (v :: r) = sumFrom v r from if_neg (by omega)]
    rw [sumFrom_even hn r v 1 (fun u hu => he u (by simp [hu])) hv.1 (fun k hk => by have := even_at he (v := v) (by simp) hk; omega) (by omega)]
    rfl
theorem even_reverse {n : Nat} {r : List (List Int)} (h : Even n r) : Even n r.reverse := fun u hu => h u (by simpa using hu)
theorem sum_turned {n : Nat} (hn : n ≤ 4096) {rows : List (List Int)} (he : Even n rows) (hl : rows.length ≤ 100) (h0 : rows ≠ []) : sumAll rows.reverse = sumAll rows := by
  rw [sumAll_even hn he hl h0, sumAll_even hn (even_reverse he) (by simpa using hl) (by simpa using h0)]
  rw [Prod.mk.injEq]
  exact ⟨map_range_ext fun k _ => col_reverse rows k, rfl⟩
theorem sumFrom_i64 : ∀ (r : List (List Int)) (S : List Int), I64s S → I64s (sumFrom S r).1
  | [], S, h => h
  | v :: r, S, h => by
    unfold sumFrom
    split
    · exact sumFrom_i64 r _ (opV_i64 _ _ _)
    · intro x hx; simp at hx
theorem sumAll_i64 {rows : List (List Int)} (h : RowsOk rows) : I64s (sumAll rows).1 := by
  unfold sumAll
  split
  · intro x hx; simp at hx
  · split
    · intro x hx; simp at hx
    · exact sumFrom_i64 _ _ (h _ (by simp)).1
end Go.Proofs.Ytcjkofcgphcjnaa
/- Lines: what they tell, how far they are off, how they are to be bent. Plain mathematics. No program in sight. -/
namespace Go.Proofs.Ytcjkofcgphcjnaa
open Go.RowKit
set_option maxRecDepth 100000
set_option linter.unusedVariables false
/-- A sample. -/
structure SmpV where
  X : List Int
  Y : Int
def ldE (n : Int) : Int := if n < 1 ∨ 16 < n then 1 else 0
def ldV (n : Int) : Int := if ldE n = 0 then n + 1 else 0
theorem ldE_ok {n : Int} : ldE n = 0 ↔ 1 ≤ n ∧ n ≤ 16 := by unfold ldE; split <;> simp <;> omega
/-- Whether a line goes with samples. -/
def oddX (n : Int) (ls : List SmpV) : Bool := ls.any fun s => decide ((s.X.length : Int) ≠ n)
def lcE (n : Int) (w : List Int) (ls : List SmpV) : Int :=
  if ldE n ≠ 0 then ldE n else if (w.length : Int) ≠ n + 1 then 4 else if oddX n ls = true then 4 else if ls.length = 0 ∨ 64 < ls.length then 1 else 0
theorem oddX_no {n : Int} {ls : List SmpV} : oddX n ls = false ↔ ∀ s ∈ ls, (s.X.length : Int) = n := by
  unfold oddX
  rw [List.any_eq_false]
  simp
theorem lcE_ok {n : Int} {w : List Int} {ls : List SmpV} : lcE n w ls = 0 ↔ (1 ≤ n ∧ n ≤ 16) ∧ (w.length : Int) = n + 1 ∧ (∀ s ∈ ls, (s.X.length : Int) = n) ∧ ls ≠ [] ∧ ls.length ≤ 64 := by
  unfold lcE
  rw [← ldE_ok, ← oddX_no]
  by_cases h1 : ldE n = 0
  · rw [if_neg (by simp [h1])]
    by_cases h2 : (w.length : Int) = n + 1
    · rw [if_neg (by simp [h2])]
      by_cases h3 : oddX n ls = true
      · rw [if_pos h3]; simp [h3]
      · rw [if_neg h3]
        have h3' : oddX n ls = false := by simpa using h3
        by_cases h4 : ls.length = 0 ∨ 64 < ls.length
        · rw [if_pos h4]
          refine ⟨fun h => absurd h (by decide), fun h => ?_⟩
          rcases h4 with h4 | h4
          · exact absurd (List.length_eq_zero_iff.1 h4) h.2.2.2.1
          · omega
        · rw [if_neg h4]
          exact ⟨fun _ => ⟨h1, h2, h3', fun h => h4 (.inl (by rw [h]; rfl)), by omega⟩, fun _ => rfl⟩
    · rw [if_pos h2]
      exact ⟨fun h => absurd h (by decide), fun h => absurd h.2.1 h2⟩
  · rw [if_pos h1]
    exact ⟨fun h => absurd h h1, fun h => absurd h.1 h1⟩
/-- What a line tells. -/
def ltE (w x : List Int) (f : Int) : Int :=
  if lcE x.length w [⟨x, 0⟩] ≠ 0 then lcE x.length w [⟨x, 0⟩] else if dotE (w.take x.length) x f ≠ 0 then dotE (w.take x.length) x f else ckE (dotV (w.take x.length) x f + w.getD x.length 0)
def ltV (w x : List Int) (f : Int) : Int := if ltE w x f = 0 then dotV (w.take x.length) x f + w.getD x.length 0 else 0
theorem ltE_ok {w x : List Int} {f : Int} : ltE w x f = 0 ↔ lcE x.length w [⟨x, 0⟩] = 0 ∧ dotE (w.take x.length) x f = 0 ∧ I64 (dotV (w.take x.length) x f + w.getD x.length 0) := by
  unfold ltE
  rw [← ckE_zero]
  by_cases h1 : lcE x.length w [⟨x, 0⟩] = 0
  · rw [if_neg (by simp [h1])]
    by_cases h2 : dotE (w.take x.length) x f = 0
    · rw [if_neg (by simp [h2])]; simp [h1, h2]
    · rw [if_pos h2]; simp [h2]
  · rw [if_pos h1]; simp [h1]
theorem ltV_i64 (w x : List Int) (f : Int) : I64 (ltV w x f) := by
  unfold ltV
  split
  · rename_i h; exact (ltE_ok.1 h).2.2
  · decide
/-- How far it is off. -/
def loE (w : List Int) (s : SmpV) (f : Int) : Int := if ltE w s.X f ≠ 0 then ltE w s.X f else ckE (ltV w s.X f - s.Y)
def loV (w : List Int) (s : SmpV) (f : Int) : Int := if loE w s f = 0 then ltV w s.X f - s.Y else 0
theorem loE_ok {w : List Int} {s : SmpV} {f : Int} : loE w s f = 0 ↔ ltE w s.X f = 0 ∧ I64 (ltV w s.X f - s.Y) := by
  unfold loE
  rw [← ckE_zero]
  by_cases h1 : ltE w s.X f = 0
  · rw [if_neg (by simp [h1])]; simp [h1]
  · rw [if_pos h1]; simp [h1]
theorem loV_i64 (w : List Int) (s : SmpV) (f : Int) : I64 (loV w s f) := by
  unfold loV
  split
  · rename_i h; exact (loE_ok.1 h).2
  · decide
/-- The mean of vectors. -/
def lmE (n : Int) (rows : List (List Int)) : Int := if n < 1 then 1 else (sumAll rows).2
def lmV (n : Int) (rows : List (List Int)) : List Int := if lmE n rows = 0 then (sumAll rows).1.map fun x => x / n else []
/-- How one sample bends it. -/
def srE (w : List Int) (f : Int) (s : SmpV) : Int := if loE w s f ≠ 0 then loE w s f else unE (behE f) (numS s.X (loV w s f) f) s.X.length
def srV (w : List Int) (f : Int) (s : SmpV) : List Int := unV (behE f) (numS s.X (loV w s f) f) s.X.length ++ [loV w s f]
/-- The first error. -/
def fstE : List Int → Int
  | [] => 0
  | e :: r => if e ≠ 0 then e else fstE r
theorem fstE_ok : ∀ {l : List Int}, fstE l = 0 ↔ ∀ e ∈ l, e = 0
  | [] => by simp [fstE]
  | e :: r => by
    rw [fstE]
    by_cases h : e = 0
    · rw [if_neg (by simp [h]), fstE_ok]; simp [h]
    · rw [if_pos h]; simp [h]
def lgE (w : List Int) (f : Int) (ls : List SmpV) : Int :=
  if lcE ((w.length : Int) - 1) w ls ≠ 0 then lcE ((w.length : Int) - 1) w ls else if fstE (ls.map (srE w f)) ≠ 0 then fstE (ls.map (srE w f)) else lmE ls.length (ls.map (srV w f))
def lgV (w : List Int) (f : Int) (ls : List SmpV) : List Int := if lgE w f ls = 0 then lmV ls.length (ls.map (srV w f)) else []
theorem lgE_ok {w : List Int} {f : Int} {ls : List SmpV} : lgE w f ls = 0 ↔ lcE ((w.length : Int) - 1) w ls = 0 ∧ (∀ s ∈ ls, srE w f s = 0) ∧ lmE ls.length (ls.map (srV w f)) = 0 := by
  unfold lgE
  have h9 : fstE (ls.map (srE w f)) = 0 ↔ ∀ s ∈ ls, srE w f s = 0 := by rw [fstE_ok]; simp
  rw [← h9]
  by_cases h1 : lcE ((w.length : Int) - 1) w ls = 0
  · rw [if_neg (by simp [h1])]
    by_cases h2 : fstE (ls.map (srE w f)) = 0
    · rw [if_neg (by simp [h2])]; simp [h1, h2]
    · rw [if_pos h2]; simp [h2]
  · rw [if_pos h1]; simp [h1]
/-- How bad it is: from a sum on. -/
def lsGo (w : List Int) (f : Int) : List SmpV → Int → Int × Int
  | [], a => (a, 0)
  | s :: r, a => if loE w s f ≠ 0 then (0, loE w s f) else if mulE (loV w s f) (loV w s f) f ≠ 0 then (0, mulE (loV w s f) (loV w s f) f) else if ckE (a + mulV (loV w s f) (loV w s f) f) ≠ 0 then (0, 2) else lsGo w f r (a + mulV (loV w s f) (loV w s f) f)
def lsE (w : List Int) (f : Int) (ls : List SmpV) : Int := if lcE ((w.length : Int) - 1) w ls ≠ 0 then lcE ((w.length : Int) - 1) w ls else (lsGo w f ls 0).2
def lsV (w : List Int) (f : Int) (ls : List SmpV) : Int := if lcE ((w.length : Int) - 1) w ls ≠ 0 then 0 else (lsGo w f ls 0).1
/-- What bends, and how bad it is, hangs on how far each sample is off alone. -/
theorem lin_alike {w u : List Int} {f : Int} {ls : List SmpV} {g : SmpV → SmpV} (hc : lcE ((u.length : Int) - 1) u (ls.map g) = lcE ((w.length : Int) - 1) w ls) (hX : ∀ s ∈ ls, (g s).X = s.X)
    (h : lcE ((w.length : Int) - 1) w ls = 0 → ∀ s ∈ ls, loE u (g s) f = loE w s f ∧ loV u (g s) f = loV w s f) :
    lgE u f (ls.map g) = lgE w f ls ∧ lgV u f (ls.map g) = lgV w f ls ∧ lsE u f (ls.map g) = lsE w f ls ∧ lsV u f (ls.map g) = lsV w f ls := by
  by_cases h0 : lcE ((w.length : Int) - 1) w ls = 0
  · have h := h h0
    have e1 : (ls.map g).map (srE u f) = ls.map (srE w f) := by
      rw [List.map_map]
      refine List.map_congr_left fun s hs => ?_
      show srE u f (g s) = _
      unfold srE
      rw [(h s hs).1, (h s hs).2, hX s hs]
    have e2 : (ls.map g).map (srV u f) = ls.map (srV w f) := by
      rw [List.map_map]
      refine List.map_congr_left fun s hs => ?_
      show srV u f (g s) = _
      unfold srV
      rw [(h s hs).2, hX s hs]
    have e3 : lgE u f (ls.map g) = lgE w f ls := by unfold lgE; rw [hc, e1, e2, List.length_map]
    have e4 : ∀ (l : List SmpV) (a : Int), (∀ s ∈ l, loE u (g s) f = loE w s f ∧ loV u (g s) f = loV w s f) → lsGo u f (l.map g) a = lsGo w f l a := by
      intro l
      induction l with
      | nil => intro a _; rfl
      | cons s r ih =>
        intro a hl
        obtain ⟨p1, p2⟩ := hl s (by simp)
        rw [List.map_cons, lsGo, lsGo, p1, p2, ih _ fun x hx => hl x (by simp [hx])]
    refine ⟨e3, by unfold lgV; rw [e3, e2, List.length_map], ?_, ?_⟩
    · unfold lsE; rw [hc, e4 ls 0 h]
    · unfold lsV; rw [hc, e4 ls 0 h]
  · have e1 : lgE u f (ls.map g) = lcE ((w.length : Int) - 1) w ls := by unfold lgE; rw [hc, if_pos h0]
    have e2 : lgE w f ls = lcE ((w.length : Int) - 1) w ls := by unfold lgE; rw [if_pos h0]
    refine ⟨by rw [e1, e2], by unfold lgV; rw [e1, e2, if_neg h0, if_neg h0], ?_, ?_⟩
    · unfold lsE; rw [hc, if_pos h0, if_pos h0]
    · unfold lsV; rw [hc, if_pos h0, if_pos h0]
end Go.Proofs.Ytcjkofcgphcjnaa
/- An argument that is a sample (a list of numbers and a number), or a list of samples, opened. -/
namespace Go.Proofs.Ytcjkofcgphcjnaa
open Go.ChangeShapes Go.WideShapes Go.ChangeAt Go.RowKit
set_option maxRecDepth 100000
set_option linter.unusedVariables false
instance smpInh : Inhabited SmpV := ⟨⟨[], 0⟩⟩
theorem smp_cells : Try.prog.cellsOf 24 = 2 := by kernel_rfl
theorem smp_cells1 : Try.prog.cellsOf 22 = 1 := by kernel_rfl
theorem smp_cells2 : Try.prog.cellsOf 2 = 1 := by kernel_rfl
/-- A slice of samples at A reads so; their numbers lie in blocks below B as well. -/
def RdSm (w : World) (B : Nat) (A : Option Addr) (ls : List SmpV) : Prop :=
  ∀ (k : Nat) (s : SmpV), ls[k]? = some s → ∃ b off Ax cx, A = some ⟨b, off, none⟩ ∧ b < B ∧ w.cell? ⟨b, off + k * 2, none⟩ = some (.slice Ax s.X.length cx) ∧ w.cell? ⟨b, off + k * 2 + 1, none⟩ = some (.int .i64 s.Y) ∧ Rd (Value.int .i64) w B Ax s.X
theorem RdSm.below {w w' : World} {B : Nat} {A : Option Addr} {ls : List SmpV} (h : RdSm w B A ls) (hb : Below B w w') : RdSm w' B A ls := fun k x hx => by
  obtain ⟨b, off, Ax, cx, e, hl, h0, h1, h2⟩ := h k x hx
  exact ⟨b, off, Ax, cx, e, hl, (hb.cell (p := ⟨b, off + k * 2, none⟩) hl).trans h0, (hb.cell (p := ⟨b, off + k * 2 + 1, none⟩) hl).trans h1, h2.below hb⟩
theorem RdSm.more {w : World} {B B' : Nat} {A : Option Addr} {ls : List SmpV} (h : RdSm w B A ls) (hB : B ≤ B') : RdSm w B' A ls := fun k x hx => by
  obtain ⟨b, off, Ax, cx, e, hl, h0, h1, h2⟩ := h k x hx
  exact ⟨b, off, Ax, cx, e, by omega, h0, h1, h2.more hB⟩
theorem RdSm.on {w w' : World} {A : Option Addr} {ls : List SmpV} (h : RdSm w w.heap.size A ls) (hb : Below w.heap.size w w') : RdSm w' w'.heap.size A ls := (h.below hb).more hb.size
theorem RdSm.none_ {w : World} {B : Nat} {A : Option Addr} : RdSm w B A [] := fun k x hx => by simp at hx
theorem RdSm.at_ {w : World} {B : Nat} {A : Option Addr} {ls : List SmpV} (h : RdSm w B A ls) {k : Nat} (hk : k < ls.length) :
    ∃ b off s Ax cx, A = some ⟨b, off, none⟩ ∧ b < B ∧ ls[k]? = some s ∧ w.cell? ⟨b, off + k * 2, none⟩ = some (.slice Ax s.X.length cx) ∧ w.cell? ⟨b, off + k * 2 + 1, none⟩ = some (.int .i64 s.Y) ∧ Rd (Value.int .i64) w B Ax s.X := by
  obtain ⟨b, off, Ax, cx, e, hb, h0, h1, h2⟩ := h k ls[k] (List.getElem?_eq_getElem hk)
  exact ⟨b, off, ls[k], Ax, cx, e, hb, List.getElem?_eq_getElem hk, h0, h1, h2⟩
section
variable {H : Type} {enc : TypeId × Value → H} {W : World}
theorem smp_nums {P : Program} {k : IntKind} {t e : TypeId} {cs : List Value} {fuel : Nat} {x : DataW H × List MemPlace} (ht : P.underlying t = some (.slice e)) (he : P.underlying e = some (.int k)) (hc : P.cellsOf e = 1)
    (hf : DataW.trod enc P W 0 (fun _ => true) true fuel t cs = some x) :
    ∃ A xs c, cs = [.slice A xs.length c] ∧ Rd (Value.int k) W W.heap.size A xs ∧ (∀ x ∈ xs, (Lit.int k x).wf = true) ∧ xs.length ≤ c ∧ c ≤ 9223372036854775807 := by
  rcases open_ints ht he hc hf with ⟨rfl, _⟩ | ⟨a, len, cap, zs, rfl, _, hl, hm, hz, _, hcell, hwz⟩
  · exact ⟨none, [], 0, rfl, Rd.none_, by intro x hx; simp at hx, by simp, by omega⟩
  · simp only [if_true] at hz
    have hlen : (zs.take len).length = len := by rw [List.length_take]; omega
    refine ⟨some a, zs.take len, cap, by rw [hlen], nums_rd rfl fun i hi => hcell i (by omega), fun x hx => hwz x (List.mem_of_mem_take hx), by omega, by unfold maxLen at hm; omega⟩
theorem smp_list2 {cs : List Value} (h : cs.length = 2) : ∃ a b, cs = [a, b] := by
  match cs, h with
  | [a, b], _ => exact ⟨a, b, rfl⟩
theorem cell_smp {c0 c1 : Value} {fuel : Nat} {x : DataW H × List MemPlace}
    (hf : DataW.trod enc Try.prog W 0 (fun _ => true) true fuel 24 [c0, c1] = some x) :
    ∃ A X c Y, [c0, c1] = [.slice A X.length c, .int .i64 Y] ∧ Rd (Value.int .i64) W W.heap.size A X ∧ I64s X ∧ I64 Y ∧ X.length ≤ c ∧ c ≤ 9223372036854775807 := by
  obtain ⟨xs, n, _, _, _, hlen, hg⟩ := DataW.trod_struct Try.underlying24 hf
  have h0 := hg 0 _ rfl
  have h1 := hg 1 _ rfl
  have hlen2 : xs.length = 2 := hlen
  obtain ⟨x0, x1, rfl⟩ : ∃ x0 x1, xs = [x0, x1] := by
    match xs, hlen2 with
    | [x0, x1], _ => exact ⟨x0, x1, rfl⟩
  simp [smp_cells1] at h0
  simp [smp_cells2] at h1
  obtain ⟨A, X, c, e0, r0, w0, l0, m0⟩ := smp_nums Try.underlying22 Try.underlying2 smp_cells2 h0
  obtain ⟨Y, e1, _, w1⟩ := DataW.trod_int Try.underlying2 h1
  simp only [List.cons.injEq, and_true] at e0 e1
  subst e0 e1
  exact ⟨A, X, c, Y, rfl, r0, fun x hx => I64.of_wf (w0 x hx), I64.of_wf w1, l0, m0⟩
theorem open_smp {r : Reach} {v : Value} {d : DataW H} {ps : List MemPlace} {b0 : Nat}
    (hval : Value.okWide Try.prog W r b0 24 v) (hd : DataW.Trod enc Try.prog W 0 (fun _ => true) true 24 v d ps) :
    ∃ A X c Y, v = .agg #[.slice A X.length c, .int .i64 Y] ∧ Rd (Value.int .i64) W W.heap.size A X ∧ I64s X ∧ I64 Y ∧ X.length ≤ c ∧ c ≤ 9223372036854775807 := by
  obtain ⟨cs, rfl, hs⟩ := okWide_struct Try.underlying24 hval
  obtain ⟨fuel, hf⟩ := hd
  rw [smp_cells] at hs
  obtain ⟨cs⟩ := cs
  obtain ⟨c0, c1, rfl⟩ := smp_list2 (by simpa using hs)
  have hf' : DataW.trod enc Try.prog W 0 (fun _ => true) true fuel 24 [c0, c1] = some (d, ps) := by simpa [Value.cells] using hf
  obtain ⟨A, X, c, Y, e, h1, h2, h3, h4, h5⟩ := cell_smp hf'
  simp only [List.cons.injEq, and_true] at e
  obtain ⟨e0, e1⟩ := e
  subst e0 e1
  exact ⟨A, X, c, Y, rfl, h1, h2, h3, h4, h5⟩
theorem open_smps {r : Reach} {v : Value} {d : DataW H} {ps : List MemPlace} {b0 : Nat}
    (hval : Value.okWide Try.prog W r b0 39 v) (hd : DataW.Trod enc Try.prog W 0 (fun _ => true) true 39 v d ps) :
    ∃ A ls c, v = .slice A ls.length c ∧ RdSm W W.heap.size A ls ∧ (∀ s ∈ ls, I64s s.X ∧ I64 s.Y ∧ s.X.length ≤ 9223372036854775807) ∧ ls.length ≤ c ∧ c ≤ 9223372036854775807 := by
  obtain ⟨A, len, cap, rfl⟩ := okWide_slice Try.underlying39 hval
  obtain ⟨fuel, hf⟩ := hd
  rcases Deep.open_slice Try.underlying39 hf with ⟨hcs, _⟩ | ⟨a, len', cap', m, n, D, Pl, hcs, _, hl, hm, hmm, _, hx⟩
  · simp [Value.cells] at hcs
    obtain ⟨rfl, rfl, rfl⟩ := hcs
    exact ⟨none, [], 0, rfl, .none_, by simp, by simp, by omega⟩
  · simp [Value.cells] at hcs
    obtain ⟨rfl, rfl, rfl⟩ := hcs
    simp only [if_true] at hmm
    subst hmm
    rw [smp_cells] at hx
    have each : ∀ i, i < m → ∃ y : SmpV × Option Addr × Nat, W.cell? ((a.add (i * 2)).add 0) = some (.slice y.2.1 y.1.X.length y.2.2) ∧ W.cell? ((a.add (i * 2)).add 1) = some (.int .i64 y.1.Y) ∧ Rd (Value.int .i64) W W.heap.size y.2.1 y.1.X ∧
        I64s y.1.X ∧ I64 y.1.Y ∧ y.1.X.length ≤ 9223372036854775807 := by
      intro i hi
      obtain ⟨cs, h1, h2⟩ := hx i hi
      obtain ⟨_, hlen, hcell⟩ := World.cells?_some h1
      obtain ⟨c0, c1, rfl⟩ := smp_list2 hlen
      obtain ⟨A, X, c, Y, e, i1, i2, i3, i4, i5⟩ := cell_smp h2
      simp only [List.cons.injEq, and_true] at e
      obtain ⟨e0, e1⟩ := e
      subst e0 e1
      exact ⟨(⟨X, Y⟩, A, c), hcell 0 (by omega), hcell 1 (by omega), i1, i2, i3, Nat.le_trans i4 i5⟩
    obtain ⟨y, hy⟩ := Deep.choose_lt each
    have hml : m ≤ 9223372036854775807 := by unfold maxLen at hm; omega
    refine ⟨some a, (List.range len).map fun i => (y i).1, m, by simp, ?_, ?_, by simp; omega, hml⟩
    · intro k x hx
      have hk : k < len := by have := (List.getElem?_eq_some_iff.1 hx).1; simpa using this
      have hxs : x = (y k).1 := by simpa [hk] using hx.symm
      subst hxs
      obtain ⟨h0, h1, h2, _⟩ := hy k (by omega)
      obtain ⟨b, off, spot⟩ := a
      have hs : spot = none := by
        have h9 := (hy 0 (by omega)).1
        have h8 := World.cell?_spot h9
        simpa [Addr.add] using h8
      subst hs
      rw [add_plain, add_plain] at h0 h1
      exact ⟨b, off, (y k).2.1, (y k).2.2, rfl, lt_of_cell h0, by simpa using h0, h1, h2⟩
    · intro h hh
      obtain ⟨k, hk, rfl⟩ := List.mem_map.1 hh
      have hk' : k < len := by simpa using hk
      exact (hy k (by omega)).2.2.2
end
end Go.Proofs.Ytcjkofcgphcjnaa
/- Lines, by the document: Dim, Check, Tell. -/
namespace Go.Proofs.Ytcjkofcgphcjnaa
open Go.RowKit
set_option maxHeartbeats 2000000
set_option maxRecDepth 100000
set_option linter.unusedVariables false
theorem ref_Dim14 (n : Int) (hn : I64 n) (w : World) :
    Calls Try.prog 18 #[.int .i64 n] w fun e w' => e = .returned (.tuple #[.int .i64 (ldV n), .int .i64 (ldE n)]) ∧ w = w' := by
  by_cases h1 : n < 1
  · have e1 : ldE n = 1 := if_pos (Or.inl h1)
    have e2 : ldV n = 0 := if_neg (by rw [e1]; decide)
    rw [e1, e2]
    clear e1 e2
    go_enter Try.func18, Try.ntmps18
    go_wp2_with fail
    go_ret2
    exact ⟨rfl, rfl⟩
  · by_cases h2 : n > 16
    · have e1 : ldE n = 1 := if_pos (Or.inr h2)
      have e2 : ldV n = 0 := if_neg (by rw [e1]; decide)
      rw [e1, e2]
      clear e1 e2
      go_enter Try.func18, Try.ntmps18
      go_wp2_with fail
      go_ret2
      exact ⟨rfl, rfl⟩
    · have e1 : ldE n = 0 := if_neg (by omega)
      have e2 : ldV n = n + 1 := if_pos e1
      rw [e1, e2]
      have hw : IntKind.i64.wrap (n + 1) = n + 1 := Go.IntWalk.i64_in _ (by omega)
      clear e1 e2
      go_enter Try.func18, Try.ntmps18
      go_wp2_with fail
      go_ret2
      exact ⟨rfl, rfl⟩
theorem ref_Check14 {Aw A : Option Addr} {cw c : Nat} (n : Int) (hn : I64 n) (u : List Int) (hu : u.length ≤ 9223372036854775807) (ls : List SmpV) (hl : ls.length ≤ 9223372036854775807) (hX : ∀ s ∈ ls, s.X.length ≤ 9223372036854775807) (w : World) (ra : RdSm w w.heap.size A ls) :
    Calls Try.prog 21 #[.int .i64 n, .slice Aw u.length cw, .slice A ls.length c] w fun e w' => e = .returned (.int .i64 (lcE n u ls)) ∧ Below w.heap.size w w' := by
  have CD := hid (fun w => ref_Dim14 n hn w)
  obtain ⟨M, hM⟩ : ∃ M, ls.length = M := ⟨_, rfl⟩
  obtain ⟨U, hU⟩ : ∃ U, u.length = U := ⟨_, rfl⟩
  by_cases h1 : ldE n = 0
  · have e2 : ldV n = n + 1 := if_pos h1
    have hr := ldE_ok.1 h1
    rw [h1, e2] at CD
    obtain ⟨N1, hN1⟩ : ∃ N1, n + 1 = N1 := ⟨_, rfl⟩
    by_cases h2 : (u.length : Int) = n + 1
    · have HE : Hid (lcE n u ls = if oddX n ls = true then 4 else if ls.length = 0 ∨ 64 < ls.length then 1 else 0) := hid (by
        unfold lcE; rw [if_neg (by simp [h1]), if_neg (by simp [h2])])
      rw [hU, hN1] at h2
      rw [hN1] at CD
      have t0 : ((U : Int) != N1) = false := by rw [h2]; simp
      rw [hM, hU]
      have HM := hid hM
      have RA := hid ra
      have HX := hid hX
      obtain ⟨E, hE⟩ : ∃ E, lcE n u ls = E := ⟨_, rfl⟩
      rw [hE]
      have HEE := hid hE
      clear h1 e2 hr hN1 hM hU ra hX hE h2
      go_enter Try.func21, Try.ntmps21
      go_wp2_with fail
      refine (CD.out _).mono ?_
      rintro _ _ ⟨rfl, rfl⟩
      go_wp2_with fail
      have hMb : M ≤ 9223372036854775807 := by have := HM.out; omega
      go_loopw [10, 25] (fun _ xi wr => ∃ k : Nat, k ≤ M ∧ xi = .int .i64 (k : Int) ∧ (∀ j s, j < k → ls[j]? = some s → (s.X.length : Int) = n) ∧ Below w.heap.size w wr) (fun _ xi _ => M - (intOf xi).toNat)
      case atStart => exact ⟨0, Nat.zero_le _, rfl, fun j s hj => by omega, Below.refl _ _⟩
      case round =>
        obtain ⟨k, hk, rfl, hall, hbel⟩ := hrel
        have HA := hid hall
        have HB := hid hbel
        clear hall
        by_cases hlt : k < M
        · obtain ⟨b1, o1, s, Ax, cx, rfl, l1, en, c1, d1, rx⟩ := (RA.out.on hbel).at_ (k := k) (by rw [HM.out]; exact hlt)
          have HS := hid en
          clear hbel en rx
          obtain ⟨X, hX⟩ : ∃ X, s.X.length = X := ⟨_, rfl⟩
          have HXX := hid hX
          rw [hX] at c1
          obtain ⟨Y, hY⟩ : ∃ Y, s.Y = Y := ⟨_, rfl⟩
          rw [hY] at d1
          clear hX hY
          by_cases hx : (X : Int) = n
          · have t1 : ((X : Int) != n) = false := by rw [hx]; simp
            have hw : IntKind.i64.wrap ((k : Int) + 1) = ((k + 1 : Nat) : Int) := Go.IntWalk.i64_in _ (by clear hx t1; omega)
            have HXN := hid hx
            clear hx
            go_wp2_with fail
            go_roundw
            case rel =>
              refine ⟨k + 1, hlt, rfl, ?_, HB.out.alloc HB.out.size _⟩
              intro j s' hj hs'
              by_cases e : j = k
              · subst e
                obtain rfl : s = s' := Option.some.inj (HS.out.symm.trans hs')
                rw [HXX.out]; exact HXN.out
              · exact HA.out j s' (by omega) hs'
            case measure => (try clear hw); simp [intOf]; omega
          · have t1 : ((X : Int) != n) = true := by simpa using hx
            have hodd : E = 4 := by
              rw [← HEE.out, HE.out]
              refine if_pos ?_
              unfold oddX
              rw [List.any_eq_true]
              exact ⟨s, List.mem_of_getElem? HS.out, by rw [HXX.out]; simpa using hx⟩
            subst hodd
            clear hx
            go_wp2_with fail
            go_ret
            exact ⟨rfl, HB.out.alloc HB.out.size _⟩
        · obtain rfl : k = M := by omega
          have hno : oddX n ls = false := oddX_no.2 fun s hs => by
            obtain ⟨j, hj, rfl⟩ := List.mem_iff_getElem.1 hs
            exact HA.out j _ (by rw [← HM.out]; exact hj) (List.getElem?_eq_getElem hj)
          have hE2 := HE.out
          rw [hno, if_neg (by decide), HEE.out, HM.out] at hE2
          by_cases h0 : k = 0
          · have m0 : ((k : Int) == 0) = true := by rw [h0]; rfl
            have : E = 1 := by rw [hE2]; exact if_pos (Or.inl h0)
            subst this
            clear hE2 hno h0 hbel
            go_wp2_with fail
            go_ret
            exact ⟨rfl, HB.out⟩
          · have m0 : ((k : Int) == 0) = false := beq_eq_false_iff_ne.2 (by omega)
            by_cases h64 : 64 < k
            · have m1 : (k : Int) > 64 := by omega
              have : E = 1 := by rw [hE2]; exact if_pos (Or.inr h64)
              subst this
              clear hE2 hno h0 hbel h64
              go_wp2_with fail
              go_ret
              exact ⟨rfl, HB.out⟩
            · have m1 : ¬ (k : Int) > 64 := by omega
              have : E = 0 := by rw [hE2]; exact if_neg (by omega)
              subst this
              clear hE2 hno h0 hbel h64
              go_wp2_with fail
              go_ret
              exact ⟨rfl, HB.out⟩
    · have e : lcE n u ls = 4 := by unfold lcE; rw [if_neg (by simp [h1]), if_pos h2]
      rw [e]
      rw [hU, hN1] at h2
      rw [hN1] at CD
      have t0 : ((U : Int) != N1) = true := by simpa using h2
      rw [hM, hU]
      clear h1 e2 hr hN1 hM hU ra hX e h2
      go_enter Try.func21, Try.ntmps21
      go_wp2_with fail
      refine (CD.out _).mono ?_
      rintro _ _ ⟨rfl, rfl⟩
      go_wp2_with fail
      go_ret
      exact ⟨rfl, Below.refl _ _⟩
  · have e : lcE n u ls = ldE n := by unfold lcE; rw [if_pos h1]
    rw [e]
    have e2 : ldV n = 0 := if_neg h1
    obtain ⟨E, hE⟩ : ∃ E, ldE n = E := ⟨_, rfl⟩
    rw [e2] at CD
    rw [hE] at CD h1 ⊢
    have hne : (E != 0) = true := by simpa using h1
    rw [hM, hU]
    clear e e2 hE h1 ra hX hM hU
    go_enter Try.func21, Try.ntmps21
    go_wp2_with fail
    refine (CD.out _).mono ?_
    rintro _ _ ⟨rfl, rfl⟩
    go_wp2_with fail
    go_ret
    exact ⟨rfl, Below.refl _ _⟩
end Go.Proofs.Ytcjkofcgphcjnaa
/- Lines, by the document: what they tell, how far they are off. -/
namespace Go.Proofs.Ytcjkofcgphcjnaa
open Go.RowKit
set_option maxHeartbeats 2000000
set_option maxRecDepth 100000
set_option linter.unusedVariables false
theorem smp_one {w : World} {Ax : Option Addr} {x : List Int} {cx : Nat} {Y : Int} (t : TypeId) (rx : Rd (Value.int .i64) w w.heap.size Ax x) :
    RdSm (w.alloc (.cells #[.slice Ax x.length cx, .int .i64 Y] t)) (w.alloc (.cells #[.slice Ax x.length cx, .int .i64 Y] t)).heap.size (some ⟨w.heap.size, 0, none⟩) [⟨x, Y⟩] := fun k s hs => by
  cases k with
  | zero =>
    simp only [List.getElem?_cons_zero, Option.some.injEq] at hs
    subst hs
    refine ⟨w.heap.size, 0, Ax, cx, rfl, by simp, by simp [go_sem], by simp [go_sem], rx.on ((Below.refl _ w).alloc (Nat.le_refl _) _)⟩
  | succ k => simp at hs
theorem ln_mul_i64 (a b m : Int) : I64 (mulV a b m) := by
  unfold mulV
  first | exact ckV_i64 _ | (split <;> first | exact ckV_i64 _ | decide)
theorem ln_dot_i64 (xs ys : List Int) (m : Int) : I64 (dotV xs ys m) := by
  unfold dotV
  split
  · split
    · exact tot_i64 _ (fun k => ln_mul_i64 _ _ _) _
    · decide
  · decide
theorem ln_tot_bad {num : Nat → Int × Int} : ∀ {n : Nat}, (tot num n).2 ≠ 0 → (tot num n).1 = 0
  | 0, h => absurd rfl h
  | n + 1, h => by
    rw [tot] at h ⊢
    by_cases h1 : (tot num n).2 = 0
    · rw [if_pos h1] at h ⊢
      by_cases h2 : (num n).2 = 0
      · rw [if_pos h2] at h ⊢
        rcases ckE_cases ((tot num n).1 + (num n).1) with ⟨a, b, c⟩ | ⟨a, b, c⟩
        · exact absurd a h
        · exact c
      · rw [if_neg h2]
    · rw [if_neg h1] at h ⊢
      exact ln_tot_bad h
theorem ln_dot_zero {xs ys : List Int} {m : Int} (h : dotE xs ys m ≠ 0) : dotV xs ys m = 0 := by
  unfold dotE at h
  unfold dotV
  by_cases h1 : twoE xs.length ys.length = 0
  · rw [if_pos h1] at h ⊢
    by_cases h2 : behE m = 0
    · rw [if_pos h2] at h ⊢
      exact ln_tot_bad h
    · rw [if_neg h2]
  · rw [if_neg h1]
theorem ref_Tell14 {Aw Ax : Option Addr} {cw cx : Nat} (u x : List Int) (hu : u.length ≤ cw) (hcw : cw ≤ 9223372036854775807) (hx : x.length ≤ 9223372036854775807) (iu : I64s u) (ix : I64s x) (f : Int) (w : World)
    (ru : Rd (Value.int .i64) w w.heap.size Aw u) (rx : Rd (Value.int .i64) w w.heap.size Ax x) :
    Calls Try.prog 12 #[.slice Aw u.length cw, .slice Ax x.length cx, .int .i64 f] w fun e w' => e = .returned (.tuple #[.int .i64 (ltV u x f), .int .i64 (ltE u x f)]) ∧ Below w.heap.size w w' := by
  have hu9 : u.length ≤ 9223372036854775807 := Nat.le_trans hu hcw
  obtain ⟨w2, hw2⟩ : ∃ w2, w.alloc (.cells #[.slice Ax x.length cx, .int .i64 0] 24) = w2 := ⟨_, rfl⟩
  have hb2 : Below w.heap.size w w2 := by rw [← hw2]; go_grown
  have hs2 : w2.heap.size = w.heap.size + 1 := by rw [← hw2]; simp
  have r2 : RdSm w2 w2.heap.size (some ⟨w.heap.size, 0, none⟩) [⟨x, 0⟩] := by rw [← hw2]; exact smp_one 24 rx
  have CC := hid (ref_Check14 (Aw := Aw) (A := some ⟨w.heap.size, 0, none⟩) (cw := cw) (c := 1) (x.length : Int) (by unfold I64; omega) u hu9 [⟨x, 0⟩] (by simp) (by simpa using hx) w2 r2)
  obtain ⟨U, hU⟩ : ∃ U, u.length = U := ⟨_, rfl⟩
  obtain ⟨N, hN⟩ : ∃ N, x.length = N := ⟨_, rfl⟩
  have HRU := hid (ru.on hb2)
  have HRX := hid (rx.on hb2)
  have HB2 := hid hb2
  by_cases h1 : lcE (x.length : Int) u [⟨x, 0⟩] = 0
  · obtain ⟨⟨n1, n2⟩, hun, _, _, _⟩ := lcE_ok.1 h1
    rw [h1] at CC
    have hlast : ∃ y, u[x.length]? = some y ∧ u.getD x.length 0 = y := ⟨u[x.length]'(by omega), List.getElem?_eq_getElem (by omega), by rw [List.getD_eq_getElem?_getD, List.getElem?_eq_getElem (by omega)]; rfl⟩
    obtain ⟨y, hy, hyD⟩ := hlast
    have iy : I64 y := iu.at_ hy
    have hsl := fun W => run_upto (P := Try.prog) 22 Try.underlying22 Try.sizeOf2 Aw u.length cw x.length (by omega) W
    obtain ⟨A3, hA3⟩ : ∃ A3, cutA Aw 0 cw = A3 := ⟨_, rfl⟩
    rw [hA3] at hsl
    have htl : (u.take x.length).length = x.length := by rw [List.length_take]; omega
    have CD := hid (fun W (h1 : Rd (Value.int .i64) W W.heap.size A3 (u.take x.length)) (h2 : Rd (Value.int .i64) W W.heap.size Ax x) => rDot_any (c := cw) (d := cx) (u.take x.length) x (by rw [htl]; exact hx) hx (fun v hv => iu v (List.mem_of_mem_take hv)) ix f W h1 h2)
    rw [htl] at CD
    have HC := hid (fun W (h : Rd (Value.int .i64) W W.heap.size Aw u) => (by have := h.cut0 (c := cw) hu x.length; rw [hA3] at this; exact this : Rd (Value.int .i64) W W.heap.size A3 (u.take x.length)))
    by_cases h2 : dotE (u.take x.length) x f = 0
    · have eE : ltE u x f = ckE (dotV (u.take x.length) x f + y) := by unfold ltE; rw [if_neg (by simp [h1]), if_neg (by simp [h2]), hyD]
      have eV : ltV u x f = ckV (dotV (u.take x.length) x f + y) := by
        unfold ltV
        rw [eE, hyD]
        rcases ckE_cases (dotV (u.take x.length) x f + y) with ⟨a, b, c⟩ | ⟨a, b, c⟩
        · rw [if_pos a, c]
        · rw [if_neg (by rw [a]; decide), c]
      rw [eE, eV]
      rw [h2] at CD
      have iD : I64 (dotV (u.take x.length) x f) := ln_dot_i64 _ _ _
      obtain ⟨D, hD⟩ : ∃ D, dotV (u.take x.length) x f = D := ⟨_, rfl⟩
      rw [hD] at CD iD ⊢
      have CA := hid (fun W => ref_Add D y iD iy W)
      have HY := hid hy
      have HUN : Hid (x.length < u.length) := hid (by omega)
      have HUL : Hid (N < u.length) := hid (by omega)
      rw [hN] at CC CD HC hsl HY HUN hw2 ⊢
      rw [hU] at CC hsl HUN ⊢
      have hNU : (N : Int) < (U : Int) := by have := HUN.out; omega
      clear h1 n1 n2 hun hyD hA3 htl h2 eE eV hD iD iy hy hU hN hu hcw hu9 hx iu ix ru rx r2 hb2
      clear hs2
      go_enter Try.func12, Try.ntmps12
      go_wp2_with fail
      refine CC.out.mono ?_
      rintro _ w3 ⟨rfl, hb3⟩
      have K3 : Hid (Below w.heap.size w w3) := hid (HB2.out.trans (hb3.mono HB2.out.size))
      have RU3 := hid (HRU.out.on hb3)
      have RX3 := hid (HRX.out.on hb3)
      clear hb3 hw2
      go_wp2_with fail
      refine (CD.out _ (HC.out _ RU3.out) RX3.out).mono ?_
      rintro _ w4 ⟨rfl, hb4⟩
      have K4 : Hid (Below w.heap.size w w4) := hid (K3.out.trans (hb4.mono K3.out.size))
      obtain ⟨b1, o1, y', rfl, l1, en, c1⟩ := (RU3.out.on hb4).at_ (k := N) HUL.out
      obtain rfl : y = y' := Option.some.inj (HY.out.symm.trans en)
      clear hb4 en
      go_wp2_with fail
      refine (CA.out _).mono ?_
      rintro _ _ ⟨rfl, rfl⟩
      go_wp2_with fail
      go_ret2
      exact ⟨rfl, K4.out⟩
    · have eE : ltE u x f = dotE (u.take x.length) x f := by unfold ltE; rw [if_neg (by simp [h1]), if_pos h2]
      have eV : ltV u x f = 0 := if_neg (by rw [eE]; exact h2)
      rw [eE, eV]
      obtain ⟨E, hE⟩ : ∃ E, dotE (u.take x.length) x f = E := ⟨_, rfl⟩
      have hD0 : dotV (u.take x.length) x f = 0 := ln_dot_zero h2
      rw [hE] at CD h2 ⊢
      rw [hD0] at CD
      have hne : (E != 0) = true := by simpa using h2
      rw [hN] at CC CD HC hsl hw2 ⊢
      rw [hU] at CC hsl ⊢
      clear h1 n1 n2 hun hyD hA3 htl h2 eE eV hE hD0 iy hy hU hN hu hcw hu9 hx iu ix ru rx r2 hb2 hs2
      go_enter Try.func12, Try.ntmps12
      go_wp2_with fail
      refine CC.out.mono ?_
      rintro _ w3 ⟨rfl, hb3⟩
      have K3 : Hid (Below w.heap.size w w3) := hid (HB2.out.trans (hb3.mono HB2.out.size))
      have RU3 := hid (HRU.out.on hb3)
      have RX3 := hid (HRX.out.on hb3)
      clear hb3 hw2
      go_wp2_with fail
      refine (CD.out _ (HC.out _ RU3.out) RX3.out).mono ?_
      rintro _ w4 ⟨rfl, hb4⟩
      have K4 : Hid (Below w.heap.size w w4) := hid (K3.out.trans (hb4.mono K3.out.size))
      clear hb4
      go_wp2_with fail
      go_ret2
      exact ⟨rfl, K4.out⟩
  · have eE : ltE u x f = lcE (x.length : Int) u [⟨x, 0⟩] := by unfold ltE; rw [if_pos h1]
    have eV : ltV u x f = 0 := if_neg (by rw [eE]; exact h1)
    rw [eE, eV]
    obtain ⟨E, hE⟩ : ∃ E, lcE (x.length : Int) u [⟨x, 0⟩] = E := ⟨_, rfl⟩
    rw [hE] at CC h1 ⊢
    have hne : (E != 0) = true := by simpa using h1
    rw [hN] at CC hw2 ⊢
    rw [hU] at CC ⊢
    clear eE eV hE h1 ru rx iu ix hU hN hu hcw hu9 hx r2 hb2
    go_enter Try.func12, Try.ntmps12
    go_wp2_with fail
    refine CC.out.mono ?_
    rintro _ w3 ⟨rfl, hb3⟩
    have K3 : Hid (Below w.heap.size w w3) := hid (HB2.out.trans (hb3.mono HB2.out.size))
    clear hb3
    go_wp2_with fail
    go_ret2
    exact ⟨rfl, K3.out⟩
end Go.Proofs.Ytcjkofcgphcjnaa
/- Lines, by the landed code: Dim, Check. -/
namespace Go.Proofs.Ytcjkofcgphcjnaa
open Go.RowKit
set_option maxHeartbeats 2000000
set_option maxRecDepth 100000
set_option linter.unusedVariables false
theorem ln_Dim (n : Int) (hn : I64 n) (w : World) :
    Calls Try.prog 17 #[.int .i64 n] w fun e w' => e = .returned (.tuple #[.int .i64 (ldV n), .int .i64 (ldE n)]) ∧ w = w' := by
  by_cases h1 : n < 1
  · have e1 : ldE n = 1 := if_pos (Or.inl h1)
    have e2 : ldV n = 0 := if_neg (by rw [e1]; decide)
    rw [e1, e2]
    clear e1 e2
    go_enter Try.func17, Try.ntmps17
    go_wp2_with fail
    go_ret2
    exact ⟨rfl, rfl⟩
  · by_cases h2 : n > 16
    · have e1 : ldE n = 1 := if_pos (Or.inr h2)
      have e2 : ldV n = 0 := if_neg (by rw [e1]; decide)
      rw [e1, e2]
      clear e1 e2
      go_enter Try.func17, Try.ntmps17
      go_wp2_with fail
      go_ret2
      exact ⟨rfl, rfl⟩
    · have e1 : ldE n = 0 := if_neg (by omega)
      have e2 : ldV n = n + 1 := if_pos e1
      rw [e1, e2]
      have hw : IntKind.i64.wrap (n + 1) = n + 1 := Go.IntWalk.i64_in _ (by omega)
      clear e1 e2
      go_enter Try.func17, Try.ntmps17
      go_wp2_with fail
      go_ret2
      exact ⟨rfl, rfl⟩
theorem ln_Check {Aw A : Option Addr} {cw c : Nat} (n : Int) (hn : I64 n) (u : List Int) (hu : u.length ≤ 9223372036854775807) (ls : List SmpV) (hl : ls.length ≤ 9223372036854775807) (hX : ∀ s ∈ ls, s.X.length ≤ 9223372036854775807) (w : World) (ra : RdSm w w.heap.size A ls) :
    Calls Try.prog 20 #[.int .i64 n, .slice Aw u.length cw, .slice A ls.length c] w fun e w' => e = .returned (.int .i64 (lcE n u ls)) ∧ Below w.heap.size w w' := by
  have CD := hid (fun w => ln_Dim n hn w)
  obtain ⟨M, hM⟩ : ∃ M, ls.length = M := ⟨_, rfl⟩
  obtain ⟨U, hU⟩ : ∃ U, u.length = U := ⟨_, rfl⟩
  by_cases h1 : ldE n = 0
  · have e2 : ldV n = n + 1 := if_pos h1
    have hr := ldE_ok.1 h1
    rw [h1, e2] at CD
    obtain ⟨N1, hN1⟩ : ∃ N1, n + 1 = N1 := ⟨_, rfl⟩
    by_cases h2 : (u.length : Int) = n + 1
    · have HE : Hid (lcE n u ls = if oddX n ls = true then 4 else if ls.length = 0 ∨ 64 < ls.length then 1 else 0) := hid (by
        unfold lcE; rw [if_neg (by simp [h1]), if_neg (by simp [h2])])
      rw [hU, hN1] at h2
      rw [hN1] at CD
      have t0 : ((U : Int) != N1) = false := by rw [h2]; simp
      rw [hM, hU]
      have HM := hid hM
      have RA := hid ra
      have HX := hid hX
      obtain ⟨E, hE⟩ : ∃ E, lcE n u ls = E := ⟨_, rfl⟩
      rw [hE]
      have HEE := hid hE
      clear h1 e2 hr hN1 hM hU ra hX hE h2
      go_enter Try.func20, Try.ntmps20
      go_wp2_with fail
      refine (CD.out _).mono ?_
      rintro _ _ ⟨rfl, rfl⟩
      go_wp2_with fail
      have hMb : M ≤ 9223372036854775807 := by have := HM.out; omega
      go_loopw [10, 25] (fun _ xi wr => ∃ k : Nat, k ≤ M ∧ xi = .int .i64 (k : Int) ∧ (∀ j s, j < k → ls[j]? = some s → (s.X.length : Int) = n) ∧ Below w.heap.size w wr) (fun _ xi _ => M - (intOf xi).toNat)
      case atStart => exact ⟨0, Nat.zero_le _, rfl, fun j s hj => by omega, Below.refl _ _⟩
      case round =>
        obtain ⟨k, hk, rfl, hall, hbel⟩ := hrel
        have HA := hid hall
        have HB := hid hbel
        clear hall
        by_cases hlt : k < M
        · obtain ⟨b1, o1, s, Ax, cx, rfl, l1, en, c1, d1, rx⟩ := (RA.out.on hbel).at_ (k := k) (by rw [HM.out]; exact hlt)
          have HS := hid en
          clear hbel en rx
          obtain ⟨X, hX⟩ : ∃ X, s.X.length = X := ⟨_, rfl⟩
          have HXX := hid hX
          rw [hX] at c1
          obtain ⟨Y, hY⟩ : ∃ Y, s.Y = Y := ⟨_, rfl⟩
          rw [hY] at d1
          clear hX hY
          by_cases hx : (X : Int) = n
          · have t1 : ((X : Int) != n) = false := by rw [hx]; simp
            have hw : IntKind.i64.wrap ((k : Int) + 1) = ((k + 1 : Nat) : Int) := Go.IntWalk.i64_in _ (by clear hx t1; omega)
            have HXN := hid hx
            clear hx
            go_wp2_with fail
            go_roundw
            case rel =>
              refine ⟨k + 1, hlt, rfl, ?_, HB.out.alloc HB.out.size _⟩
              intro j s' hj hs'
              by_cases e : j = k
              · subst e
                obtain rfl : s = s' := Option.some.inj (HS.out.symm.trans hs')
                rw [HXX.out]; exact HXN.out
              · exact HA.out j s' (by omega) hs'
            case measure => (try clear hw); simp [intOf]; omega
          · have t1 : ((X : Int) != n) = true := by simpa using hx
            have hodd : E = 4 := by
              rw [← HEE.out, HE.out]
              refine if_pos ?_
              unfold oddX
              rw [List.any_eq_true]
              exact ⟨s, List.mem_of_getElem? HS.out, by rw [HXX.out]; simpa using hx⟩
            subst hodd
            clear hx
            go_wp2_with fail
            go_ret
            exact ⟨rfl, HB.out.alloc HB.out.size _⟩
        · obtain rfl : k = M := by omega
          have hno : oddX n ls = false := oddX_no.2 fun s hs => by
            obtain ⟨j, hj, rfl⟩ := List.mem_iff_getElem.1 hs
            exact HA.out j _ (by rw [← HM.out]; exact hj) (List.getElem?_eq_getElem hj)
          have hE2 := HE.out
          rw [hno, if_neg (by decide), HEE.out, HM.out] at hE2
          by_cases h0 : k = 0
          · have m0 : ((k : Int) == 0) = true := by rw [h0]; rfl
            have : E = 1 := by rw [hE2]; exact if_pos (Or.inl h0)
            subst this
            clear hE2 hno h0 hbel
            go_wp2_with fail
            go_ret
            exact ⟨rfl, HB.out⟩
          · have m0 : ((k : Int) == 0) = false := beq_eq_false_iff_ne.2 (by omega)
            by_cases h64 : 64 < k
            · have m1 : (k : Int) > 64 := by omega
              have : E = 1 := by rw [hE2]; exact if_pos (Or.inr h64)
              subst this
              clear hE2 hno h0 hbel h64
              go_wp2_with fail
              go_ret
              exact ⟨rfl, HB.out⟩
            · have m1 : ¬ (k : Int) > 64 := by omega
              have : E = 0 := by rw [hE2]; exact if_neg (by omega)
              subst this
              clear hE2 hno h0 hbel h64
              go_wp2_with fail
              go_ret
              exact ⟨rfl, HB.out⟩
    · have e : lcE n u ls = 4 := by unfold lcE; rw [if_neg (by simp [h1]), if_pos h2]
      rw [e]
      rw [hU, hN1] at h2
      rw [hN1] at CD
      have t0 : ((U : Int) != N1) = true := by simpa using h2
      rw [hM, hU]
      clear h1 e2 hr hN1 hM hU ra hX e h2
      go_enter Try.func20, Try.ntmps20
      go_wp2_with fail
      refine (CD.out _).mono ?_
      rintro _ _ ⟨rfl, rfl⟩
      go_wp2_with fail
      go_ret
      exact ⟨rfl, Below.refl _ _⟩
  · have e : lcE n u ls = ldE n := by unfold lcE; rw [if_pos h1]
    rw [e]
    have e2 : ldV n = 0 := if_neg h1
    obtain ⟨E, hE⟩ : ∃ E, ldE n = E := ⟨_, rfl⟩
    rw [e2] at CD
    rw [hE] at CD h1 ⊢
    have hne : (E != 0) = true := by simpa using h1
    rw [hM, hU]
    clear e e2 hE h1 ra hX hM hU
    go_enter Try.func20, Try.ntmps20
    go_wp2_with fail
    refine (CD.out _).mono ?_
    rintro _ _ ⟨rfl, rfl⟩
    go_wp2_with fail
    go_ret
    exact ⟨rfl, Below.refl _ _⟩
end Go.Proofs.Ytcjkofcgphcjnaa
/- Lines, by the landed code: what they tell, how far they are off. -/
namespace Go.Proofs.Ytcjkofcgphcjnaa
open Go.RowKit
set_option maxHeartbeats 2000000
set_option maxRecDepth 100000
set_option linter.unusedVariables false
theorem ln_Tell {Aw Ax : Option Addr} {cw cx : Nat} (u x : List Int) (hu : u.length ≤ cw) (hcw : cw ≤ 9223372036854775807) (hx : x.length ≤ 9223372036854775807) (iu : I64s u) (ix : I64s x) (f : Int) (w : World)
    (ru : Rd (Value.int .i64) w w.heap.size Aw u) (rx : Rd (Value.int .i64) w w.heap.size Ax x) :
    Calls Try.prog 11 #[.slice Aw u.length cw, .slice Ax x.length cx, .int .i64 f] w fun e w' => e = .returned (.tuple #[.int .i64 (ltV u x f), .int .i64 (ltE u x f)]) ∧ Below w.heap.size w w' := by
  have hu9 : u.length ≤ 9223372036854775807 := Nat.le_trans hu hcw
  obtain ⟨w2, hw2⟩ : ∃ w2, w.alloc (.cells #[.slice Ax x.length cx, .int .i64 0] 24) = w2 := ⟨_, rfl⟩
  have hb2 : Below w.heap.size w w2 := by rw [← hw2]; go_grown
  have hs2 : w2.heap.size = w.heap.size + 1 := by rw [← hw2]; simp
  have r2 : RdSm w2 w2.heap.size (some ⟨w.heap.size, 0, none⟩) [⟨x, 0⟩] := by rw [← hw2]; exact smp_one 24 rx
  have CC := hid (ln_Check (Aw := Aw) (A := some ⟨w.heap.size, 0, none⟩) (cw := cw) (c := 1) (x.length : Int) (by unfold I64; omega) u hu9 [⟨x, 0⟩] (by simp) (by simpa using hx) w2 r2)
  obtain ⟨U, hU⟩ : ∃ U, u.length = U := ⟨_, rfl⟩
  obtain ⟨N, hN⟩ : ∃ N, x.length = N := ⟨_, rfl⟩
  have HRU := hid (ru.on hb2)
  have HRX := hid (rx.on hb2)
  have HB2 := hid hb2
  by_cases h1 : lcE (x.length : Int) u [⟨x, 0⟩] = 0
  · obtain ⟨⟨n1, n2⟩, hun, _, _, _⟩ := lcE_ok.1 h1
    rw [h1] at CC
    have hlast : ∃ y, u[x.length]? = some y ∧ u.getD x.length 0 = y := ⟨u[x.length]'(by omega), List.getElem?_eq_getElem (by omega), by rw [List.getD_eq_getElem?_getD, List.getElem?_eq_getElem (by omega)]; rfl⟩
    obtain ⟨y, hy, hyD⟩ := hlast
    have iy : I64 y := iu.at_ hy
    have hsl := fun W => run_upto (P := Try.prog) 22 Try.underlying22 Try.sizeOf2 Aw u.length cw x.length (by omega) W
    obtain ⟨A3, hA3⟩ : ∃ A3, cutA Aw 0 cw = A3 := ⟨_, rfl⟩
    rw [hA3] at hsl
    have htl : (u.take x.length).length = x.length := by rw [List.length_take]; omega
    have CD := hid (fun W (h1 : Rd (Value.int .i64) W W.heap.size A3 (u.take x.length)) (h2 : Rd (Value.int .i64) W W.heap.size Ax x) => Dot_any (c := cw) (d := cx) (u.take x.length) x (by rw [htl]; exact hx) hx (fun v hv => iu v (List.mem_of_mem_take hv)) ix f W h1 h2)
    rw [htl] at CD
    have HC := hid (fun W (h : Rd (Value.int .i64) W W.heap.size Aw u) => (by have := h.cut0 (c := cw) hu x.length; rw [hA3] at this; exact this : Rd (Value.int .i64) W W.heap.size A3 (u.take x.length)))
    by_cases h2 : dotE (u.take x.length) x f = 0
    · have eE : ltE u x f = ckE (dotV (u.take x.length) x f + y) := by unfold ltE; rw [if_neg (by simp [h1]), if_neg (by simp [h2]), hyD]
      have eV : ltV u x f = ckV (dotV (u.take x.length) x f + y) := by
        unfold ltV
        rw [eE, hyD]
        rcases ckE_cases (dotV (u.take x.length) x f + y) with ⟨a, b, c⟩ | ⟨a, b, c⟩
        · rw [if_pos a, c]
        · rw [if_neg (by rw [a]; decide), c]
      rw [eE, eV]
      rw [h2] at CD
      have iD : I64 (dotV (u.take x.length) x f) := ln_dot_i64 _ _ _
      obtain ⟨D, hD⟩ : ∃ D, dotV (u.take x.length) x f = D := ⟨_, rfl⟩
      rw [hD] at CD iD ⊢
      have CA := hid (fun W => fix_Add D y iD iy W)
      have HY := hid hy
      have HUN : Hid (x.length < u.length) := hid (by omega)
      have HUL : Hid (N < u.length) := hid (by omega)
      rw [hN] at CC CD HC hsl HY HUN hw2 ⊢
      rw [hU] at CC hsl HUN ⊢
      have hNU : (N : Int) < (U : Int) := by have := HUN.out; omega
      clear h1 n1 n2 hun hyD hA3 htl h2 eE eV hD iD iy hy hU hN hu hcw hu9 hx iu ix ru rx r2 hb2
      clear hs2
      go_enter Try.func11, Try.ntmps11
      go_wp2_with fail
      refine CC.out.mono ?_
      rintro _ w3 ⟨rfl, hb3⟩
      have K3 : Hid (Below w.heap.size w w3) := hid (HB2.out.trans (hb3.mono HB2.out.size))
      have RU3 := hid (HRU.out.on hb3)
      have RX3 := hid (HRX.out.on hb3)
      clear hb3 hw2
      go_wp2_with fail
      refine (CD.out _ (HC.out _ RU3.out) RX3.out).mono ?_
      rintro _ w4 ⟨rfl, hb4⟩
      have K4 : Hid (Below w.heap.size w w4) := hid (K3.out.trans (hb4.mono K3.out.size))
      obtain ⟨b1, o1, y', rfl, l1, en, c1⟩ := (RU3.out.on hb4).at_ (k := N) HUL.out
      obtain rfl : y = y' := Option.some.inj (HY.out.symm.trans en)
      clear hb4 en
      go_wp2_with fail
      refine (CA.out _).mono ?_
      rintro _ _ ⟨rfl, rfl⟩
      go_wp2_with fail
      go_ret2
      exact ⟨rfl, K4.out⟩
    · have eE : ltE u x f = dotE (u.take x.length) x f := by unfold ltE; rw [if_neg (by simp [h1]), if_pos h2]
      have eV : ltV u x f = 0 := if_neg (by rw [eE]; exact h2)
      rw [eE, eV]
      obtain ⟨E, hE⟩ : ∃ E, dotE (u.take x.length) x f = E := ⟨_, rfl⟩
      have hD0 : dotV (u.take x.length) x f = 0 := ln_dot_zero h2
      rw [hE] at CD h2 ⊢
      rw [hD0] at CD
      have hne : (E != 0) = true := by simpa using h2
      rw [hN] at CC CD HC hsl hw2 ⊢
      rw [hU] at CC hsl ⊢
      clear h1 n1 n2 hun hyD hA3 htl h2 eE eV hE hD0 iy hy hU hN hu hcw hu9 hx iu ix ru rx r2 hb2 hs2
      go_enter Try.func11, Try.ntmps11
      go_wp2_with fail
      refine CC.out.mono ?_
      rintro _ w3 ⟨rfl, hb3⟩
      have K3 : Hid (Below w.heap.size w w3) := hid (HB2.out.trans (hb3.mono HB2.out.size))
      have RU3 := hid (HRU.out.on hb3)
      have RX3 := hid (HRX.out.on hb3)
      clear hb3 hw2
      go_wp2_with fail
      refine (CD.out _ (HC.out _ RU3.out) RX3.out).mono ?_
      rintro _ w4 ⟨rfl, hb4⟩
      have K4 : Hid (Below w.heap.size w w4) := hid (K3.out.trans (hb4.mono K3.out.size))
      clear hb4
      go_wp2_with fail
      go_ret2
      exact ⟨rfl, K4.out⟩
  · have eE : ltE u x f = lcE (x.length : Int) u [⟨x, 0⟩] := by unfold ltE; rw [if_pos h1]
    have eV : ltV u x f = 0 := if_neg (by rw [eE]; exact h1)
    rw [eE, eV]
    obtain ⟨E, hE⟩ : ∃ E, lcE (x.length : Int) u [⟨x, 0⟩] = E := ⟨_, rfl⟩
    rw [hE] at CC h1 ⊢
    have hne : (E != 0) = true := by simpa using h1
    rw [hN] at CC hw2 ⊢
    rw [hU] at CC ⊢
    clear eE eV hE h1 ru rx iu ix hU hN hu hcw hu9 hx r2 hb2
    go_enter Try.func11, Try.ntmps11
    go_wp2_with fail
    refine CC.out.mono ?_
    rintro _ w3 ⟨rfl, hb3⟩
    have K3 : Hid (Below w.heap.size w w3) := hid (HB2.out.trans (hb3.mono HB2.out.size))
    clear hb3
    go_wp2_with fail
    go_ret2
    exact ⟨rfl, K3.out⟩
end Go.Proofs.Ytcjkofcgphcjnaa
/- Lines, by the landed code: how far they are off. -/
namespace Go.Proofs.Ytcjkofcgphcjnaa
open Go.RowKit
set_option maxHeartbeats 2000000
set_option maxRecDepth 100000
set_option linter.unusedVariables false
theorem ln_Off {Aw Ax : Option Addr} {cw cx : Nat} (u : List Int) (s : SmpV) (hu : u.length ≤ cw) (hcw : cw ≤ 9223372036854775807) (hx : s.X.length ≤ 9223372036854775807) (iu : I64s u) (ix : I64s s.X) (iY : I64 s.Y) (f : Int) (w : World)
    (ru : Rd (Value.int .i64) w w.heap.size Aw u) (rx : Rd (Value.int .i64) w w.heap.size Ax s.X) :
    Calls Try.prog 13 #[.slice Aw u.length cw, .agg #[.slice Ax s.X.length cx, .int .i64 s.Y], .int .i64 f] w fun e w' => e = .returned (.tuple #[.int .i64 (loV u s f), .int .i64 (loE u s f)]) ∧ Below w.heap.size w w' := by
  obtain ⟨w2, hw2⟩ : ∃ w2, w.alloc (.cells #[.slice Ax s.X.length cx, .int .i64 s.Y] 24) = w2 := ⟨_, rfl⟩
  have hb2 : Below w.heap.size w w2 := by rw [← hw2]; go_grown
  have hs2 : w.heap.size < w2.heap.size := by rw [← hw2]; simp
  have c0 : w2.cell? ⟨w.heap.size, 0, none⟩ = some (.slice Ax s.X.length cx) := by rw [← hw2]; simp [go_sem]
  have c1 : w2.cell? ⟨w.heap.size, 1, none⟩ = some (.int .i64 s.Y) := by rw [← hw2]; simp [go_sem]
  have CT := hid (ln_Tell (Aw := Aw) (Ax := Ax) (cw := cw) (cx := cx) u s.X hu hcw hx iu ix f w2 (ru.on hb2) (rx.on hb2))
  obtain ⟨U, hU⟩ : ∃ U, u.length = U := ⟨_, rfl⟩
  obtain ⟨N, hN⟩ : ∃ N, s.X.length = N := ⟨_, rfl⟩
  have HB2 := hid hb2
  by_cases h1 : ltE u s.X f = 0
  · have iV := ltV_i64 u s.X f
    have eE : loE u s f = ckE (ltV u s.X f - s.Y) := by unfold loE; rw [if_neg (by simp [h1])]
    have eV : loV u s f = ckV (ltV u s.X f - s.Y) := by
      unfold loV
      rw [eE]
      rcases ckE_cases (ltV u s.X f - s.Y) with ⟨a, b, c⟩ | ⟨a, b, c⟩
      · rw [if_pos a, c]
      · rw [if_neg (by rw [a]; decide), c]
    rw [eE, eV]
    rw [h1] at CT
    obtain ⟨V, hV⟩ : ∃ V, ltV u s.X f = V := ⟨_, rfl⟩
    obtain ⟨Y, hY⟩ : ∃ Y, s.Y = Y := ⟨_, rfl⟩
    rw [hV] at CT iV ⊢
    rw [hY] at c1 hw2 iY ⊢
    rw [hN] at CT c0 hw2 ⊢
    rw [hU] at CT ⊢
    have CS := hid (fun W => fix_Sub V Y iV iY W)
    clear h1 eE eV hV hY hN hU hu hcw hx iu ix ru rx hb2 iV iY
    go_enter Try.func13, Try.ntmps13
    go_wp2_with fail
    refine CT.out.mono ?_
    rintro _ w3 ⟨rfl, hb3⟩
    have K3 : Hid (Below w.heap.size w w3) := hid (HB2.out.trans (hb3.mono HB2.out.size))
    have c1' := (hb3.cell (p := ⟨w.heap.size, 1, none⟩) hs2).trans c1
    have c0' := (hb3.cell (p := ⟨w.heap.size, 0, none⟩) hs2).trans c0
    clear hb3 hw2 c0 c1 hs2
    go_wp2_with fail
    refine (CS.out _).mono ?_
    rintro _ _ ⟨rfl, rfl⟩
    go_wp2_with fail
    go_ret2
    exact ⟨rfl, K3.out⟩
  · have eE : loE u s f = ltE u s.X f := by unfold loE; rw [if_pos h1]
    have eV : loV u s f = 0 := if_neg (by rw [eE]; exact h1)
    have hv : ltV u s.X f = 0 := if_neg h1
    rw [eE, eV]
    rw [hv] at CT
    obtain ⟨E, hE⟩ : ∃ E, ltE u s.X f = E := ⟨_, rfl⟩
    rw [hE] at CT h1 ⊢
    have hne : (E != 0) = true := by simpa using h1
    obtain ⟨Y, hY⟩ : ∃ Y, s.Y = Y := ⟨_, rfl⟩
    rw [hY] at c1 hw2 ⊢
    rw [hN] at CT c0 hw2 ⊢
    rw [hU] at CT ⊢
    clear h1 eE eV hv hE hY hN hU hu hcw hx iu ix ru rx hb2 iY
    go_enter Try.func13, Try.ntmps13
    go_wp2_with fail
    refine CT.out.mono ?_
    rintro _ w3 ⟨rfl, hb3⟩
    have K3 : Hid (Below w.heap.size w w3) := hid (HB2.out.trans (hb3.mono HB2.out.size))
    clear hb3 hw2 c0 c1 hs2
    go_wp2_with fail
    go_ret2
    exact ⟨rfl, K3.out⟩
end Go.Proofs.Ytcjkofcgphcjnaa
/- Lines, by the landed code: every sample, and how far the line is off there, handed on to a function value. -/
namespace Go.Proofs.Ytcjkofcgphcjnaa
open Go.RowKit
set_option maxHeartbeats 2000000
set_option maxRecDepth 100000
set_option linter.unusedVariables false
theorem ln_each_bad {Aw A : Option Addr} {cw c : Nat} (F : Value) (u : List Int) (hu : u.length ≤ cw) (hcw : cw ≤ 9223372036854775807) (f : Int) (ls : List SmpV) (hl : ls.length ≤ 9223372036854775807) (hX : ∀ s ∈ ls, I64s s.X ∧ I64 s.Y ∧ s.X.length ≤ 9223372036854775807) (w : World)
    (ra : RdSm w w.heap.size A ls) (h1 : lcE ((u.length : Int) - 1) u ls ≠ 0) :
    Calls Try.prog 37 #[.slice Aw u.length cw, .int .i64 f, .slice A ls.length c, F] w fun e w' => e = .returned (.int .i64 (lcE ((u.length : Int) - 1) u ls)) ∧ Below w.heap.size w w' := by
  have CC := hid (ln_Check (Aw := Aw) (A := A) (cw := cw) (c := c) ((u.length : Int) - 1) (by unfold I64; omega) u (Nat.le_trans hu hcw) ls hl (fun s hs => (hX s hs).2.2) w ra)
  obtain ⟨U, hU⟩ : ∃ U, u.length = U := ⟨_, rfl⟩
  obtain ⟨M, hM⟩ : ∃ M, ls.length = M := ⟨_, rfl⟩
  obtain ⟨U1, hU1⟩ : ∃ U1, (u.length : Int) - 1 = U1 := ⟨_, rfl⟩
  have hw1 : IntKind.i64.wrap ((U : Int) - 1) = U1 := by rw [← hU1, hU]; exact Go.IntWalk.i64_in _ (by omega)
  rw [hU1] at CC h1 ⊢
  obtain ⟨E, hE⟩ : ∃ E, lcE U1 u ls = E := ⟨_, rfl⟩
  rw [hE] at CC h1 ⊢
  have hne : (E != 0) = true := by simpa using h1
  rw [hM] at CC ⊢
  rw [hU] at CC ⊢
  clear h1 hE hU1 hU hM ra hX hu hcw hl
  go_enter Try.func37, Try.ntmps37
  go_wp2_with fail
  refine CC.out.mono ?_
  rintro _ w1 ⟨rfl, hb1⟩
  have K1 := hid hb1
  clear hb1 CC
  go_wp2_with fail
  go_ret
  exact ⟨rfl, K1.out⟩
theorem ln_each {Aw A : Option Addr} {cw c B : Nat} (K : FuncId) (caps : Array Value) (hK : ∀ (args : Array Value) (W : World), (callFunc K args).run Try.prog W = .ok (.enter K args) W)
    (u : List Int) (hu : u.length ≤ cw) (hcw : cw ≤ 9223372036854775807) (iu : I64s u) (f : Int) (ls : List SmpV) (hl : ls.length ≤ 9223372036854775807) (hX : ∀ s ∈ ls, I64s s.X ∧ I64 s.Y ∧ s.X.length ≤ 9223372036854775807) (w : World) (hB : B ≤ w.heap.size)
    (ru : Rd (Value.int .i64) w B Aw u) (ra : RdSm w B A ls) (h1 : lcE ((u.length : Int) - 1) u ls = 0) (I : Nat → World → Prop) (R : Int → Prop)
    (hI0 : I 0 w) (hI : ∀ k W W', I k W → Below W.heap.size W W' → I k W') (hoff : ∀ k s W, ls[k]? = some s → I k W → loE u s f ≠ 0 → R (loE u s f))
    (H : ∀ k s Ax cx W, ls[k]? = some s → loE u s f = 0 → I k W → Rd (Value.int .i64) W B Ax s.X → B ≤ W.heap.size →
      Calls Try.prog K (#[.agg #[.slice Ax s.X.length cx, .int .i64 s.Y], .int .i64 (loV u s f)] ++ caps) W fun e w' => ∃ er, e = .returned (.int .i64 er) ∧ (er = 0 → I (k + 1) w') ∧ (er ≠ 0 → R er) ∧ Below B W w') :
    Calls Try.prog 37 #[.slice Aw u.length cw, .int .i64 f, .slice A ls.length c, .func (.func K) #[] caps] w fun e w' => ∃ er, e = .returned (.int .i64 er) ∧ (er = 0 → I ls.length w') ∧ (er ≠ 0 → R er) ∧ Below B w w' := by
  have CC := hid (ln_Check (Aw := Aw) (A := A) (cw := cw) (c := c) ((u.length : Int) - 1) (by unfold I64; omega) u (Nat.le_trans hu hcw) ls hl (fun s hs => (hX s hs).2.2) w (ra.more hB))
  obtain ⟨U, hU⟩ : ∃ U, u.length = U := ⟨_, rfl⟩
  obtain ⟨M, hM⟩ : ∃ M, ls.length = M := ⟨_, rfl⟩
  obtain ⟨U1, hU1⟩ : ∃ U1, (u.length : Int) - 1 = U1 := ⟨_, rfl⟩
  have hw1 : IntKind.i64.wrap ((U : Int) - 1) = U1 := by rw [← hU1, hU]; exact Go.IntWalk.i64_in _ (by omega)
  rw [hU1] at CC h1
  rw [h1] at CC
  have CO := hid (fun (s : SmpV) (hs : s ∈ ls) (Ax : Option Addr) (cx : Nat) (W : World) (h1 : Rd (Value.int .i64) W W.heap.size Aw u) (h2 : Rd (Value.int .i64) W W.heap.size Ax s.X) => ln_Off (Aw := Aw) (Ax := Ax) (cw := cw) (cx := cx) u s hu hcw (hX s hs).2.2 iu (hX s hs).1 (hX s hs).2.1 f W h1 h2)
  rw [hU] at CC CO ⊢
  rw [hM] at CC ⊢
  have HM := hid hM
  have RU := hid ru
  have RA := hid ra
  have HI0 := hid hI0
  have HI := hid hI
  have HOFF := hid hoff
  have HH := hid H
  have hMb : M ≤ 9223372036854775807 := by omega
  clear h1 hU1 hU hM ru ra hX iu hu hcw hl hI0 hI hoff H
  go_enter Try.func37, Try.ntmps37
  go_wp2_with fail
  refine CC.out.mono ?_
  rintro _ w1 ⟨rfl, hb1⟩
  have K1 := hid (hb1.mono hB)
  have HI1 := hid (HI.out 0 _ _ HI0.out hb1)
  clear hb1 CC HI0
  go_wp2_with fail
  clear hw1
  go_loopw [11, 12, 13, 25] (fun _ _ _ xi wr => ∃ k : Nat, k ≤ M ∧ xi = .int .i64 (k : Int) ∧ I k wr ∧ Below B w wr) (fun _ _ _ xi _ => M - (intOf xi).toNat)
  case atStart => exact ⟨0, Nat.zero_le _, rfl, HI1.out, K1.out⟩
  case round =>
    obtain ⟨k, hk, rfl, hik, hbel⟩ := hrel
    have HB := hid hbel
    have HIK := hid hik
    have hBr : B ≤ wr.heap.size := Nat.le_trans hB hbel.size
    clear hik K1 HI1
    by_cases hlt : k < M
    · obtain ⟨b1, o1, s, Ax, cx, rfl, l1, en, c1, d1, rx⟩ := (RA.out.below hbel).at_ (k := k) (by rw [HM.out]; exact hlt)
      have hs : s ∈ ls := List.mem_of_getElem? en
      have HEN := hid en
      obtain ⟨w2, hw2⟩ : ∃ w2, wr.alloc (.cells #[.slice Ax s.X.length cx, .int .i64 s.Y] 24) = w2 := ⟨_, rfl⟩
      have hb2 : Below wr.heap.size wr w2 := by rw [← hw2]; go_grown
      have hs2 : wr.heap.size < w2.heap.size := by rw [← hw2]; simp
      have m0 : w2.cell? ⟨wr.heap.size, 0, none⟩ = some (.slice Ax s.X.length cx) := by rw [← hw2]; simp [go_sem]
      have m1 : w2.cell? ⟨wr.heap.size, 1, none⟩ = some (.int .i64 s.Y) := by rw [← hw2]; simp [go_sem]
      have hB2 : B ≤ w2.heap.size := by omega
      have CO2 := hid (CO.out s hs Ax cx w2 (((RU.out.below hbel).more hBr).on hb2) ((rx.more hBr).on hb2))
      have RX2 := hid (rx.below (hb2.mono hBr))
      have K2 : Hid (Below B w w2) := hid (HB.out.trans (hb2.mono hBr))
      have HI2 := hid (HI.out k _ _ HIK.out hb2)
      have HH2 := hid (HH.out k s Ax cx)
      have HOF := hid (HOFF.out k s)
      obtain ⟨V, hV⟩ : ∃ V, loV u s f = V := ⟨_, rfl⟩
      obtain ⟨E, hE⟩ : ∃ E, loE u s f = E := ⟨_, rfl⟩
      obtain ⟨N, hN⟩ : ∃ N, s.X.length = N := ⟨_, rfl⟩
      obtain ⟨Y, hY⟩ : ∃ Y, s.Y = Y := ⟨_, rfl⟩
      rw [hV, hE, hN, hY] at CO2
      rw [hV, hE, hN, hY] at HH2
      rw [hE] at HOF
      rw [hN] at c1 hw2 m0
      rw [hY] at d1 hw2 m1
      have hw : IntKind.i64.wrap ((k : Int) + 1) = ((k + 1 : Nat) : Int) := Go.IntWalk.i64_in _ (by omega)
      have HW := hid hw
      clear hw en rx hs hV hE hN hY hb2 hbel
      by_cases hE0 : E = 0
      · subst hE0
        go_wp2_with fail
        refine CO2.out.mono ?_
        rintro _ w3 ⟨rfl, hb3⟩
        have K3 : Hid (Below B w w3) := hid (K2.out.trans (hb3.mono hB2))
        have hB3 : B ≤ w3.heap.size := Nat.le_trans hB2 hb3.size
        have CH := hid (HH2.out w3 HEN.out (by trivial) (HI.out k _ _ HI2.out hb3) (RX2.out.below (hb3.mono hB2)) hB3)
        have n0 := (hb3.cell (p := ⟨wr.heap.size, 0, none⟩) hs2).trans m0
        have n1 := (hb3.cell (p := ⟨wr.heap.size, 1, none⟩) hs2).trans m1
        clear hb3 hw2 m0 m1 HH2 c1 d1
        go_wp2_with fail
        refine CH.out.mono ?_
        rintro _ w4 ⟨er, rfl, hi4, hr4, hb4⟩
        have K4 : Hid (Below B w w4) := hid (K3.out.trans hb4)
        have HI4 := hid hi4
        have HR4 := hid hr4
        clear hi4 hr4 hb4 CH
        by_cases h0 : er = 0
        · subst h0
          have hw := HW.out
          go_wp2_with fail
          go_roundw
          case rel => exact ⟨k + 1, hlt, rfl, HI4.out (by trivial), K4.out⟩
          case measure => (try clear hw); simp [intOf]; omega
        · have hne : (er != 0) = true := by simpa using h0
          have HR5 := hid (HR4.out h0)
          have H0 := hid h0
          clear h0
          go_wp2_with fail
          go_ret
          exact ⟨er, rfl, fun e => absurd e H0.out, fun _ => HR5.out, K4.out⟩
      · have hne : (E != 0) = true := by simpa using hE0
        have HR5 := hid (HOF.out wr HEN.out HIK.out hE0)
        have H0 := hid hE0
        clear hE0
        go_wp2_with fail
        refine CO2.out.mono ?_
        rintro _ w3 ⟨rfl, hb3⟩
        have K3 : Hid (Below B w w3) := hid (K2.out.trans (hb3.mono hB2))
        clear hb3 hw2 m0 m1
        go_wp2_with fail
        go_ret
        exact ⟨E, rfl, fun e => absurd e H0.out, fun _ => HR5.out, K3.out⟩
    · obtain rfl : k = M := by omega
      clear hbel
      go_wp2_with fail
      go_ret
      exact ⟨0, rfl, fun _ => HIK.out, fun e => absurd rfl e, HB.out⟩
end Go.Proofs.Ytcjkofcgphcjnaa
/- Lines, by the landed code: how bad one is. -/
namespace Go.Proofs.Ytcjkofcgphcjnaa
open Go.RowKit
set_option maxHeartbeats 2000000
set_option maxRecDepth 100000
set_option linter.unusedVariables false
theorem loss_cl {q n cx : Nat} {Ax : Option Addr} {Y V f a : Int} (iV : I64 V) (ia : I64 a) (W : World) (hf : W.cell? ⟨q, 0, none⟩ = some (.int .i64 f)) (hb : BoxL W (q + 1) [.int .i64 a]) :
    Calls Try.prog 40 (#[.agg #[.slice Ax n cx, .int .i64 Y], .int .i64 V] ++ #[.pointer (some ⟨q, 0, none⟩), .pointer (some ⟨q + 1, 0, none⟩)]) W fun e w' =>
      ∃ er b, e = .returned (.int .i64 er) ∧ Below q W w' ∧ w'.cell? ⟨q, 0, none⟩ = some (.int .i64 f) ∧ BoxL w' (q + 1) [.int .i64 b] ∧
        ((mulE V V f ≠ 0 ∧ er = mulE V V f) ∨ (mulE V V f = 0 ∧ ckE (a + mulV V V f) ≠ 0 ∧ er = 2) ∨ (mulE V V f = 0 ∧ ckE (a + mulV V V f) = 0 ∧ er = 0 ∧ b = a + mulV V V f ∧ I64 b)) := by
  have lt1 : q + 1 < W.heap.size := hb.lt (by simp)
  obtain ⟨w2, hw2⟩ : ∃ w2, W.alloc (.cells #[.slice Ax n cx, .int .i64 Y] 24) = w2 := ⟨_, rfl⟩
  have hb2 : Below W.heap.size W w2 := by rw [← hw2]; go_grown
  have f2 : w2.cell? ⟨q, 0, none⟩ = some (.int .i64 f) := (hb2.cell (p := ⟨q, 0, none⟩) (by show q < W.heap.size; omega)).trans hf
  have B2 := hid (hb.below hb2 lt1)
  have K2 : Hid (Below q W w2) := hid (hb2.mono (by omega))
  have l2 : q + 1 < w2.heap.size := Nat.lt_of_lt_of_le lt1 hb2.size
  have CM := hid (fun W => fix_mul V V f iV iV W)
  have iX := ln_mul_i64 V V f
  obtain ⟨X, hX⟩ : ∃ X, mulV V V f = X := ⟨_, rfl⟩
  obtain ⟨E, hE⟩ : ∃ E, mulE V V f = E := ⟨_, rfl⟩
  rw [hX, hE] at CM
  rw [hX] at iX
  rw [hX, hE]
  have CA := hid (fun W => fix_Add a X ia iX W)
  have HCK := hid (ckE_cases (a + X))
  obtain ⟨s, hs⟩ : ∃ s, a + X = s := ⟨_, rfl⟩
  rw [hs] at CA HCK ⊢
  clear hX hE hs iX iV ia hb hf hb2
  by_cases h0 : E = 0
  · subst h0
    rcases HCK.out with ⟨g1, g2, g3⟩ | ⟨g1, g2, g3⟩
    · rw [g1, g3] at CA
      rw [g1]
      have HG := hid g2
      clear g1 g2 g3 HCK
      go_enter Try.func40, Try.ntmps40
      go_wp2_with fail
      refine (CM.out _).mono ?_
      rintro _ w3 ⟨rfl, hb3⟩
      have f3 := (hb3.cell (p := ⟨q, 0, none⟩) (by show q < w2.heap.size; omega)).trans f2
      have B3 := hid (B2.out.below hb3 l2)
      have K3 : Hid (Below q W w3) := hid (K2.out.trans (hb3.mono (by omega)))
      obtain ⟨p1, p2⟩ := B3.out 0 _ rfl
      clear hb3 hw2 f2
      go_wp2_with fail
      refine (CA.out _).mono ?_
      rintro _ _ ⟨rfl, rfl⟩
      go_wp2_with fail
      go_ret
      refine ⟨0, s, rfl, K3.out.setCell (by simp) _, ?_, B3.out.one (k := 0) rfl _, .inr (.inr ⟨by trivial, by trivial, rfl, rfl, HG.out⟩)⟩
      unfold World.cell? at f3 ⊢
      rw [heap_setCell_other _ _ _ _ (by simp)]
      exact f3
    · rw [g1, g3] at CA
      rw [g1]
      clear g1 g2 g3 HCK
      go_enter Try.func40, Try.ntmps40
      go_wp2_with fail
      refine (CM.out _).mono ?_
      rintro _ w3 ⟨rfl, hb3⟩
      have f3 := (hb3.cell (p := ⟨q, 0, none⟩) (by show q < w2.heap.size; omega)).trans f2
      have B3 := hid (B2.out.below hb3 l2)
      have K3 : Hid (Below q W w3) := hid (K2.out.trans (hb3.mono (by omega)))
      obtain ⟨p1, p2⟩ := B3.out 0 _ rfl
      clear hb3 hw2 f2
      go_wp2_with fail
      refine (CA.out _).mono ?_
      rintro _ _ ⟨rfl, rfl⟩
      go_wp2_with fail
      go_ret
      refine ⟨2, 0, rfl, K3.out.setCell (by simp) _, ?_, B3.out.one (k := 0) rfl _, .inr (.inl ⟨by trivial, by decide, rfl⟩)⟩
      unfold World.cell? at f3 ⊢
      rw [heap_setCell_other _ _ _ _ (by simp)]
      exact f3
  · have hne : (E == 0) = false := beq_eq_false_iff_ne.2 h0
    have H0 := hid h0
    clear h0 HCK CA
    go_enter Try.func40, Try.ntmps40
    go_wp2_with fail
    refine (CM.out _).mono ?_
    rintro _ w3 ⟨rfl, hb3⟩
    have f3 := (hb3.cell (p := ⟨q, 0, none⟩) (by show q < w2.heap.size; omega)).trans f2
    have B3 := hid (B2.out.below hb3 l2)
    have K3 : Hid (Below q W w3) := hid (K2.out.trans (hb3.mono (by omega)))
    clear hb3 hw2 f2
    go_wp2_with fail
    go_ret
    exact ⟨E, a, rfl, K3.out, f3, B3.out, .inl ⟨H0.out, rfl⟩⟩
theorem loss_ok (args : Array Value) (W : World) : (callFunc 40 args).run Try.prog W = .ok (.enter 40 args) W := cl_enter _ (by kernel_rfl) args W
/-- What the closure keeps: the bits, and the sum so far. -/
def LoK (u : List Int) (f : Int) (ls : List SmpV) (q : Nat) (vV vE : Int) (k : Nat) (W : World) : Prop :=
  ∃ a, I64 a ∧ lsGo u f (ls.drop k) a = (vV, vE) ∧ W.cell? ⟨q, 0, none⟩ = some (.int .i64 f) ∧ BoxL W (q + 1) [.int .i64 a]
theorem LoK.below {u : List Int} {f : Int} {ls : List SmpV} {q : Nat} {vV vE : Int} {k : Nat} {W W' : World} (h : LoK u f ls q vV vE k W) (hb : Below W.heap.size W W') : LoK u f ls q vV vE k W' := by
  obtain ⟨a, ia, hg, hf, hB⟩ := h
  have lt1 : q + 1 < W.heap.size := hB.lt (by simp)
  exact ⟨a, ia, hg, (hb.cell (p := ⟨q, 0, none⟩) (by show q < W.heap.size; omega)).trans hf, hB.below hb lt1⟩
theorem drop_one {ls : List SmpV} {k : Nat} {s : SmpV} (en : ls[k]? = some s) : ls.drop k = s :: ls.drop (k + 1) := by
  have hkl : k < ls.length := (List.getElem?_eq_some_iff.1 en).1
  rw [List.drop_eq_getElem_cons hkl]
  congr 1
  exact Option.some.inj ((List.getElem?_eq_getElem hkl).symm.trans en)
theorem loss_H {u : List Int} {f : Int} {ls : List SmpV} {q : Nat} {vV vE : Int} (k : Nat) (s : SmpV) (Ax : Option Addr) (cx : Nat) (W : World) (en : ls[k]? = some s) (h0 : loE u s f = 0) (hK : LoK u f ls q vV vE k W) :
    Calls Try.prog 40 (#[.agg #[.slice Ax s.X.length cx, .int .i64 s.Y], .int .i64 (loV u s f)] ++ #[.pointer (some ⟨q, 0, none⟩), .pointer (some ⟨q + 1, 0, none⟩)]) W fun e w' =>
      ∃ er, e = .returned (.int .i64 er) ∧ (er = 0 → LoK u f ls q vV vE (k + 1) w') ∧ (er ≠ 0 → vE = er ∧ vV = 0) ∧ Below q W w' := by
  obtain ⟨a, ia, hg, hf, hB⟩ := hK
  refine (loss_cl (loV_i64 u s f) ia W hf hB).mono ?_
  rintro _ w' ⟨er, b, rfl, hb, hf', hB', hr⟩
  rw [drop_one en, lsGo, if_neg (by simp [h0])] at hg
  refine ⟨er, rfl, ?_, ?_, hb⟩
  · intro e
    rcases hr with ⟨h1, h2⟩ | ⟨h1, h2, h3⟩ | ⟨h1, h2, h3, h4, h5⟩
    · exact absurd (h2.symm.trans e) h1
    · omega
    · rw [if_neg (by simp [h1]), if_neg (by simp [h2])] at hg
      exact ⟨b, h5, by rw [h4]; exact hg, hf', hB'⟩
  · intro e
    rcases hr with ⟨h1, h2⟩ | ⟨h1, h2, h3⟩ | ⟨h1, h2, h3, h4, h5⟩
    · rw [if_pos h1] at hg
      obtain ⟨rfl, rfl⟩ := Prod.mk.inj hg
      exact ⟨h2.symm, rfl⟩
    · rw [if_neg (by simp [h1]), if_pos h2] at hg
      obtain ⟨rfl, rfl⟩ := Prod.mk.inj hg
      exact ⟨h3.symm, rfl⟩
    · exact absurd h3 e
theorem loss_off {u : List Int} {f : Int} {ls : List SmpV} {q : Nat} {vV vE : Int} (k : Nat) (s : SmpV) (W : World) (en : ls[k]? = some s) (hK : LoK u f ls q vV vE k W) (h0 : loE u s f ≠ 0) : vE = loE u s f ∧ vV = 0 := by
  obtain ⟨a, ia, hg, hf, hB⟩ := hK
  rw [drop_one en, lsGo, if_pos h0] at hg
  obtain ⟨rfl, rfl⟩ := Prod.mk.inj hg
  exact ⟨rfl, rfl⟩
theorem ln_Loss {Aw A : Option Addr} {cw c : Nat} (u : List Int) (hu : u.length ≤ cw) (hcw : cw ≤ 9223372036854775807) (iu : I64s u) (f : Int) (ls : List SmpV) (hl : ls.length ≤ 9223372036854775807) (hX : ∀ s ∈ ls, I64s s.X ∧ I64 s.Y ∧ s.X.length ≤ 9223372036854775807) (w : World)
    (ru : Rd (Value.int .i64) w w.heap.size Aw u) (ra : RdSm w w.heap.size A ls) :
    Calls Try.prog 24 #[.slice Aw u.length cw, .int .i64 f, .slice A ls.length c] w fun e w' => e = .returned (.tuple #[.int .i64 (lsV u f ls), .int .i64 (lsE u f ls)]) ∧ Below w.heap.size w w' := by
  obtain ⟨w1, hw1⟩ : ∃ w1, w.alloc (.cells #[.int .i64 f] 3) = w1 := ⟨_, rfl⟩
  have c0 : w1.cell? ⟨w.heap.size, 0, none⟩ = some (.int .i64 f) := by rw [← hw1]; simp [go_sem]
  have hs1 : w1.heap.size = w.heap.size + 1 := by rw [← hw1]; simp
  have hb1 : Below w.heap.size w w1 := by rw [← hw1]; go_grown
  obtain ⟨w2, hw2⟩ : ∃ w2, w1.alloc (.cells #[.int .i64 0] 2) = w2 := ⟨_, rfl⟩
  have hb12 : Below w1.heap.size w1 w2 := by rw [← hw2]; go_grown
  have c1 : w2.cell? ⟨w.heap.size, 0, none⟩ = some (.int .i64 f) := (hb12.cell (p := ⟨w.heap.size, 0, none⟩) (by show w.heap.size < w1.heap.size; omega)).trans c0
  have B2 : BoxL w2 (w.heap.size + 1) [.int .i64 0] := by rw [← hw2, ← hs1]; exact BoxL.new w1 [.int .i64 0] 2
  have hs2 : w2.heap.size = w.heap.size + 2 := by rw [← hw2]; simp [hs1]
  obtain ⟨w3, hw3⟩ : ∃ w3, w2.setCell ⟨w.heap.size + 1, 0, none⟩ (.int .i64 0) = w3 := ⟨_, rfl⟩
  have c3 : w3.cell? ⟨w.heap.size, 0, none⟩ = some (.int .i64 f) := by
    rw [← hw3]
    unfold World.cell? at c1 ⊢
    rw [heap_setCell_other _ _ _ _ (by simp)]
    exact c1
  have B3 : BoxL w3 (w.heap.size + 1) [.int .i64 0] := by rw [← hw3]; exact B2.one (k := 0) rfl _
  have hb3 : Below w.heap.size w w3 := by rw [← hw3]; exact (hb1.trans (hb12.mono (by omega))).setCell (by simp) _
  have hs3 : w3.heap.size = w.heap.size + 2 := by rw [← hw3]; simp [hs2]
  obtain ⟨p1, p2⟩ := B2 0 _ rfl
  have RU3 := ru.below hb3
  have RA3 := ra.below hb3
  by_cases h1 : lcE ((u.length : Int) - 1) u ls = 0
  · have eE : lsE u f ls = (lsGo u f ls 0).2 := if_neg (by simp [h1])
    have eV : lsV u f ls = (lsGo u f ls 0).1 := if_neg (by simp [h1])
    rw [eE, eV]
    obtain ⟨vV, hvV⟩ : ∃ v, (lsGo u f ls 0).1 = v := ⟨_, rfl⟩
    obtain ⟨vE, hvE⟩ : ∃ v, (lsGo u f ls 0).2 = v := ⟨_, rfl⟩
    have HG : lsGo u f ls 0 = (vV, vE) := by rw [← hvV, ← hvE]
    rw [hvV, hvE]
    have CE := hid (ln_each (cw := cw) (c := c) (B := w.heap.size) 40 #[.pointer (some ⟨w.heap.size, 0, none⟩), .pointer (some ⟨w.heap.size + 1, 0, none⟩)] loss_ok u hu hcw iu f ls hl hX w3 (by omega) RU3 RA3 h1
      (LoK u f ls w.heap.size vV vE) (fun er => vE = er ∧ vV = 0) ⟨0, by decide, by rw [List.drop_zero]; exact HG, c3, B3⟩ (fun k W W' h hb => h.below hb) (fun k s W en h h0 => loss_off k s W en h h0)
      (fun k s Ax cx W en h0 hK _ _ => loss_H k s Ax cx W en h0 hK))
    have HEND : Hid (∀ W, LoK u f ls w.heap.size vV vE ls.length W → vE = 0 ∧ BoxL W (w.heap.size + 1) [.int .i64 vV]) := hid (fun W h => by
      obtain ⟨a, ia, hg, hf, hB⟩ := h
      rw [List.drop_of_length_le (Nat.le_refl _), lsGo] at hg
      obtain ⟨rfl, rfl⟩ := Prod.mk.inj hg
      exact ⟨rfl, hB⟩)
    obtain ⟨U, hU⟩ : ∃ U, u.length = U := ⟨_, rfl⟩
    obtain ⟨M, hM⟩ : ∃ M, ls.length = M := ⟨_, rfl⟩
    rw [hU] at CE ⊢
    rw [hM] at CE HEND ⊢
    have HB3 := hid hb3
    clear h1 eE eV hvV hvE HG RU3 RA3 hU hM ru ra hX iu hu hcw hl B2 B3 hb1 hb12 hs2 hs3 c1 hb3
    go_enter Try.func24, Try.ntmps24
    go_wp2_with fail
    refine CE.out.mono ?_
    rintro _ w4 ⟨er, rfl, hi4, hr4, hb4⟩
    have K4 : Hid (Below w.heap.size w w4) := hid (HB3.out.trans hb4)
    have HI4 := hid hi4
    have HR4 := hid hr4
    clear hi4 hr4 hb4 CE p1 p2 c0 c3 hw1 hw2 hw3
    by_cases h0 : er = 0
    · subst h0
      obtain ⟨rfl, hB⟩ := HEND.out w4 (HI4.out (by trivial))
      obtain ⟨p1, p2⟩ := hB 0 _ rfl
      clear hB
      go_wp2_with fail
      go_ret2
      exact ⟨rfl, K4.out⟩
    · have hne : (er != 0) = true := by simpa using h0
      obtain ⟨rfl, rfl⟩ := HR4.out h0
      clear h0
      go_wp2_with fail
      go_ret2
      exact ⟨rfl, K4.out⟩
  · have eE : lsE u f ls = lcE ((u.length : Int) - 1) u ls := if_pos h1
    have eV : lsV u f ls = 0 := if_pos h1
    rw [eE, eV]
    have CE := hid (ln_each_bad (Aw := Aw) (cw := cw) (c := c) (.func (.func 40) #[] #[.pointer (some ⟨w.heap.size, 0, none⟩), .pointer (some ⟨w.heap.size + 1, 0, none⟩)]) u hu hcw f ls hl hX w3 (RA3.more (by omega)) h1)
    obtain ⟨E, hE⟩ : ∃ E, lcE ((u.length : Int) - 1) u ls = E := ⟨_, rfl⟩
    rw [hE] at CE h1 ⊢
    obtain ⟨U, hU⟩ : ∃ U, u.length = U := ⟨_, rfl⟩
    obtain ⟨M, hM⟩ : ∃ M, ls.length = M := ⟨_, rfl⟩
    rw [hU] at CE ⊢
    rw [hM] at CE ⊢
    have hne : (E != 0) = true := by simpa using h1
    have HB3 := hid hb3
    have HS3 := hid hs3
    clear h1 eE eV hE RU3 RA3 hU hM ru ra hX iu hu hcw hl B2 B3 hb1 hb12 hs2 hs3 c1 hb3
    go_enter Try.func24, Try.ntmps24
    go_wp2_with fail
    refine CE.out.mono ?_
    rintro _ w4 ⟨rfl, hb4⟩
    have K4 : Hid (Below w.heap.size w w4) := hid (HB3.out.trans (hb4.mono (by have := HS3.out; omega)))
    clear hb4 CE p1 p2 c0 c3 hw1 hw2 hw3
    go_wp2_with fail
    go_ret2
    exact ⟨rfl, K4.out⟩
end Go.Proofs.Ytcjkofcgphcjnaa
/- Lines, by the document: how far they are off. -/
namespace Go.Proofs.Ytcjkofcgphcjnaa
open Go.RowKit
set_option maxHeartbeats 2000000
set_option maxRecDepth 100000
set_option linter.unusedVariables false
theorem ref_Off14 {Aw Ax : Option Addr} {cw cx : Nat} (u : List Int) (s : SmpV) (hu : u.length ≤ cw) (hcw : cw ≤ 9223372036854775807) (hx : s.X.length ≤ 9223372036854775807) (iu : I64s u) (ix : I64s s.X) (iY : I64 s.Y) (f : Int) (w : World)
    (ru : Rd (Value.int .i64) w w.heap.size Aw u) (rx : Rd (Value.int .i64) w w.heap.size Ax s.X) :
    Calls Try.prog 14 #[.slice Aw u.length cw, .agg #[.slice Ax s.X.length cx, .int .i64 s.Y], .int .i64 f] w fun e w' => e = .returned (.tuple #[.int .i64 (loV u s f), .int .i64 (loE u s f)]) ∧ Below w.heap.size w w' := by
  obtain ⟨w2, hw2⟩ : ∃ w2, w.alloc (.cells #[.slice Ax s.X.length cx, .int .i64 s.Y] 24) = w2 := ⟨_, rfl⟩
  have hb2 : Below w.heap.size w w2 := by rw [← hw2]; go_grown
  have hs2 : w.heap.size < w2.heap.size := by rw [← hw2]; simp
  have c0 : w2.cell? ⟨w.heap.size, 0, none⟩ = some (.slice Ax s.X.length cx) := by rw [← hw2]; simp [go_sem]
  have c1 : w2.cell? ⟨w.heap.size, 1, none⟩ = some (.int .i64 s.Y) := by rw [← hw2]; simp [go_sem]
  have CT := hid (ref_Tell14 (Aw := Aw) (Ax := Ax) (cw := cw) (cx := cx) u s.X hu hcw hx iu ix f w2 (ru.on hb2) (rx.on hb2))
  obtain ⟨U, hU⟩ : ∃ U, u.length = U := ⟨_, rfl⟩
  obtain ⟨N, hN⟩ : ∃ N, s.X.length = N := ⟨_, rfl⟩
  have HB2 := hid hb2
  by_cases h1 : ltE u s.X f = 0
  · have iV := ltV_i64 u s.X f
    have eE : loE u s f = ckE (ltV u s.X f - s.Y) := by unfold loE; rw [if_neg (by simp [h1])]
    have eV : loV u s f = ckV (ltV u s.X f - s.Y) := by
      unfold loV
      rw [eE]
      rcases ckE_cases (ltV u s.X f - s.Y) with ⟨a, b, c⟩ | ⟨a, b, c⟩
      · rw [if_pos a, c]
      · rw [if_neg (by rw [a]; decide), c]
    rw [eE, eV]
    rw [h1] at CT
    obtain ⟨V, hV⟩ : ∃ V, ltV u s.X f = V := ⟨_, rfl⟩
    obtain ⟨Y, hY⟩ : ∃ Y, s.Y = Y := ⟨_, rfl⟩
    rw [hV] at CT iV ⊢
    rw [hY] at c1 hw2 iY ⊢
    rw [hN] at CT c0 hw2 ⊢
    rw [hU] at CT ⊢
    have CS := hid (fun W => ref_Sub V Y iV iY W)
    clear h1 eE eV hV hY hN hU hu hcw hx iu ix ru rx hb2 iV iY
    go_enter Try.func14, Try.ntmps14
    go_wp2_with fail
    refine CT.out.mono ?_
    rintro _ w3 ⟨rfl, hb3⟩
    have K3 : Hid (Below w.heap.size w w3) := hid (HB2.out.trans (hb3.mono HB2.out.size))
    have c1' := (hb3.cell (p := ⟨w.heap.size, 1, none⟩) hs2).trans c1
    have c0' := (hb3.cell (p := ⟨w.heap.size, 0, none⟩) hs2).trans c0
    clear hb3 hw2 c0 c1 hs2
    go_wp2_with fail
    refine (CS.out _).mono ?_
    rintro _ _ ⟨rfl, rfl⟩
    go_wp2_with fail
    go_ret2
    exact ⟨rfl, K3.out⟩
  · have eE : loE u s f = ltE u s.X f := by unfold loE; rw [if_pos h1]
    have eV : loV u s f = 0 := if_neg (by rw [eE]; exact h1)
    have hv : ltV u s.X f = 0 := if_neg h1
    rw [eE, eV]
    rw [hv] at CT
    obtain ⟨E, hE⟩ : ∃ E, ltE u s.X f = E := ⟨_, rfl⟩
    rw [hE] at CT h1 ⊢
    have hne : (E != 0) = true := by simpa using h1
    obtain ⟨Y, hY⟩ : ∃ Y, s.Y = Y := ⟨_, rfl⟩
    rw [hY] at c1 hw2 ⊢
    rw [hN] at CT c0 hw2 ⊢
    rw [hU] at CT ⊢
    clear h1 eE eV hv hE hY hN hU hu hcw hx iu ix ru rx hb2 iY
    go_enter Try.func14, Try.ntmps14
    go_wp2_with fail
    refine CT.out.mono ?_
    rintro _ w3 ⟨rfl, hb3⟩
    have K3 : Hid (Below w.heap.size w w3) := hid (HB2.out.trans (hb3.mono HB2.out.size))
    clear hb3 hw2 c0 c1 hs2
    go_wp2_with fail
    go_ret2
    exact ⟨rfl, K3.out⟩
end Go.Proofs.Ytcjkofcgphcjnaa

namespace Go.Proofs.Ytcjkofcgphcjnaa
open Go.RowKit
set_option maxHeartbeats 400000
set_option maxRecDepth 100000
set_option linter.unusedVariables false
theorem lead (y : Int) (h0 : 1 ≤ y) (h1 : y ≤ 18446744073709551615) (w : World) :
    Calls Try.prog 71 #[.int .u64 y] w fun e w' => ∃ s : Nat, e = .returned (.int .i64 s) ∧ s ≤ 63 ∧ 9223372036854775808 ≤ y * 2 ^ s ∧ y * 2 ^ s ≤ 18446744073709551615 ∧ w = w' := by
  refine (Try.bits_LeadingZeros64 y w (by omega) h1).mono ?_
  rintro e w' ⟨rfl, rfl⟩
  obtain ⟨n, rfl⟩ := Int.eq_ofNat_of_zero_le (show 0 ≤ y by omega)
  have hb := Lib.bitLenAux_bounds 64 n (by omega) (by omega)
  change 1 ≤ Lib.bitLen n ∧ 2 ^ (Lib.bitLen n - 1) ≤ n ∧ n < 2 ^ Lib.bitLen n at hb
  have hle : Lib.bitLen n ≤ 64 := by
    rcases Nat.lt_or_ge 64 (Lib.bitLen n) with h | h
    · have := Nat.pow_le_pow_right (show 0 < 2 by decide) (show 64 ≤ Lib.bitLen n - 1 by omega)
      omega
    · exact h
  have p1 : n * 2 ^ (64 - Lib.bitLen n) < 18446744073709551616 := by
    have e : 2 ^ Lib.bitLen n * 2 ^ (64 - Lib.bitLen n) = 18446744073709551616 := by rw [← Nat.pow_add, show Lib.bitLen n + (64 - Lib.bitLen n) = 64 by omega]
    rw [← e]
    exact Nat.mul_lt_mul_of_pos_right hb.2.2 (Nat.two_pow_pos _)
  have p2 : 9223372036854775808 ≤ n * 2 ^ (64 - Lib.bitLen n) := by
    have e : 2 ^ (Lib.bitLen n - 1) * 2 ^ (64 - Lib.bitLen n) = 9223372036854775808 := by rw [← Nat.pow_add, show Lib.bitLen n - 1 + (64 - Lib.bitLen n) = 63 by omega]
    rw [← e]
    exact Nat.mul_le_mul_right _ hb.2.1
  have c1 : ((n : Int) * 2 ^ (64 - Lib.bitLen n)) = ((n * 2 ^ (64 - Lib.bitLen n) : Nat) : Int) := by simp
  refine ⟨64 - Lib.bitLen n, ?_, by omega, by rw [c1]; omega, by rw [c1]; omega, rfl⟩
  congr 2
  simp only [Int.toNat_natCast]
  omega
theorem div64_low (l y : Int) (hl : U64 l) (hy : U64 y) (h0 : y ≠ 0) (w : World) :
    Calls Try.prog 70 #[.int .u64 0, .int .u64 l, .int .u64 y] w fun e w' => e = .returned (.tuple #[.int .u64 (l / y), .int .u64 (l % y)]) ∧ w.drew = w' := by
  unfold U64 at hl hy
  have hy1 : 1 ≤ y := by omega
  have k1 : (y == 0) = false := by simpa using h0
  have k2 : (decide (y ≤ 0)) = false := by simp; omega
  go_enter Try.func70, Try.ntmps70
  go_wp2
  go_region
  go_wp2
  go_ret2
  exact ⟨rfl, rfl⟩
theorem rem_of {u d1 d0 t1 Q1 D : Int} (n : Den u d1 d0 t1) (hQ : (u * 4294967296 + t1) / (d1 * 4294967296 + d0) = Q1) (hD : D = d1 * 4294967296 + d0) :
    IntKind.u64.wrap (IntKind.u64.wrap (IntKind.u64.wrap (u * 4294967296) + t1) - IntKind.u64.wrap (Q1 * D)) = u * 4294967296 + t1 - Q1 * D ∧ 0 ≤ u * 4294967296 + t1 - Q1 * D ∧ u * 4294967296 + t1 - Q1 * D < D := by
  obtain ⟨h1, h2, h3, h4, h5, h6, h7, h8⟩ := n
  rw [← hD] at hQ
  have e := Int.mul_ediv_add_emod (u * 4294967296 + t1) D
  have e1 := Int.emod_nonneg (u * 4294967296 + t1) (show D ≠ 0 by omega)
  have e2 := Int.emod_lt_of_pos (u * 4294967296 + t1) (show 0 < D by omega)
  rw [hQ, Int.mul_comm] at e
  generalize Q1 * D = p at *
  simp only [IntKind.wrap_u64]
  refine ⟨?_, by omega, by omega⟩
  omega
theorem high_end {h l y u t D d1 d0 t1 t0 Q1 Q0 r1 : Int} {s : Nat} (hs : s ≤ 63) (hy : 0 < y) (hD0 : 0 < D)
    (f : (h * 18446744073709551616 + l) * 2 ^ s = bits BinOp.or IntKind.u64 (IntKind.u64.wrap (h * 2 ^ s)) (l / 2 ^ (64 - s)) * 18446744073709551616 + IntKind.u64.wrap (l * 2 ^ s))
    (hu : bits BinOp.or IntKind.u64 (IntKind.u64.wrap (h * 2 ^ s)) (l / 2 ^ (64 - s)) = u) (ht : IntKind.u64.wrap (l * 2 ^ s) = t) (hD : y * 2 ^ s = D)
    (eD : D = d1 * 4294967296 + d0) (et : t = t1 * 4294967296 + t0) (hr1 : u * 4294967296 + t1 - Q1 * D = r1)
    (hr0 : IntKind.u64.wrap (IntKind.u64.wrap (IntKind.u64.wrap (r1 * 4294967296) + t0) - IntKind.u64.wrap (Q0 * D)) = r1 * 4294967296 + t0 - Q0 * D ∧ 0 ≤ r1 * 4294967296 + t0 - Q0 * D ∧ r1 * 4294967296 + t0 - Q0 * D < D) :
    Q1 * 4294967296 + Q0 = (h * 18446744073709551616 + l) / y ∧ IntKind.u64.wrap (IntKind.u64.wrap (IntKind.u64.wrap (r1 * 4294967296) + t0) - IntKind.u64.wrap (Q0 * D)) / 2 ^ s = (h * 18446744073709551616 + l) % y := by
  obtain ⟨a, b, c⟩ := hr0
  have two := two_digits (D := D) (t1 := u * 4294967296 + t1) (t0 := t0) (a1 := Q1) (a0 := Q0) (b := r1) (r := r1 * 4294967296 + t0 - Q0 * D) hD0 (by omega) (by omega) b c
  rw [hu, ht, et] at f
  have e : (u * 4294967296 + t1) * 4294967296 + t0 = (h * 18446744073709551616 + l) * 2 ^ s := by omega
  rw [e, ← hD] at two
  have q := quo_shift (U := h * 18446744073709551616 + l) (y := y) (p := 2 ^ s) (Int.pow_pos (by decide)) hy
  rw [q.1] at two
  refine ⟨two.1.symm, ?_⟩
  rw [a, ← hD, ← two.2]
  exact q.2
theorem div64_high (h l y : Int) (hl : U64 l) (hy : y ≤ 18446744073709551615) (h0 : 1 ≤ h) (h1 : h < y) (w : World) :
    Calls Try.prog 70 #[.int .u64 h, .int .u64 l, .int .u64 y] w fun e w' => e = .returned (.tuple #[.int .u64 ((h * 18446744073709551616 + l) / y), .int .u64 ((h * 18446744073709551616 + l) % y)]) ∧ w = w' := by
  have hy1 : 1 ≤ y := by omega
  have k1 : (y == 0) = false := by simp; omega
  have k2 : (decide (y ≤ h)) = false := by simp; omega
  have k3 : (h == 0) = false := by simp; omega
  go_enter Try.func70, Try.ntmps70
  go_wp2_with fail
  refine (lead y hy1 hy _).mono ?_
  rintro e w' ⟨s, rfl, hs1, hs2, hs3, rfl⟩
  have f1 := norm_u h l y s hs1 hl (by omega) h1 hs3
  have f2 := norm_sum h l s hs1
  have f3 := norm_lt h l y s hs1 hl h1
  have f4 : 0 ≤ h * 2 ^ s + l / 2 ^ (64 - s) := by rw [← f1, f1]; exact Int.add_nonneg (Int.mul_nonneg (by omega) (Int.le_of_lt (Int.pow_pos (by decide)))) (Int.ediv_nonneg hl.1 (Int.le_of_lt (Int.pow_pos (by decide))))
  rw [← f1] at f2 f3 f4
  have f5 := U64.wrap (l * 2 ^ s)
  obtain ⟨u, hu⟩ : ∃ u, bits BinOp.or IntKind.u64 (IntKind.u64.wrap (h * 2 ^ s)) (l / 2 ^ (64 - s)) = u := ⟨_, rfl⟩
  obtain ⟨t, ht⟩ : ∃ t, IntKind.u64.wrap (l * 2 ^ s) = t := ⟨_, rfl⟩
  have F := hid f2
  clear f1 f2
  rw [hu] at f3 f4
  rw [ht] at f5
  have P := hid (rfl : y * 2 ^ s = y * 2 ^ s)
  obtain ⟨D, hD⟩ : ∃ D, y * 2 ^ s = D := ⟨_, rfl⟩
  rw [hD] at hs2 hs3 f3
  have g1 := and_low D ⟨by omega, hs3⟩
  have g2 := and_low t f5
  obtain ⟨d1, hd1⟩ : ∃ d1, D / 4294967296 = d1 := ⟨_, rfl⟩
  obtain ⟨d0, hd0⟩ : ∃ d0, bits BinOp.and IntKind.u64 D 4294967295 = d0 := ⟨_, rfl⟩
  obtain ⟨t1, ht1⟩ : ∃ t1, t / 4294967296 = t1 := ⟨_, rfl⟩
  obtain ⟨t0, ht0⟩ : ∃ t0, bits BinOp.and IntKind.u64 t 4294967295 = t0 := ⟨_, rfl⟩
  have f6 := f5.1
  have f7 := f5.2
  rw [hd0] at g1
  rw [ht0] at g2
  have eD : D = d1 * 4294967296 + d0 := by omega
  have et : t = t1 * 4294967296 + t0 := by omega
  have b1 : 2147483648 ≤ d1 := by omega
  have b2 : d1 ≤ 4294967295 := by omega
  have b3 : 0 ≤ d0 := by omega
  have b4 : d0 ≤ 4294967295 := by omega
  have b5 : 0 ≤ t1 := by omega
  have b6 : t1 ≤ 4294967295 := by omega
  have b7 : 0 ≤ t0 := by omega
  have b8 : t0 ≤ 4294967295 := by omega
  have n : Den u d1 d0 t1 := ⟨b1, by omega, b3, by omega, f4, by omega, b5, by omega⟩
  have s0 := dig_start n
  have c1 : 0 ≤ u / d1 := s0.1.q0
  have c2 : u / d1 ≤ 4294967297 := s0.1.q1
  have c3 : 0 ≤ u / d1 * d1 := Int.mul_nonneg c1 (by omega)
  have c4 : u / d1 * d1 ≤ u := by have := s0.1.r0; omega
  have b9 : u ≤ 18446744073709551615 := by omega
  have S0 := hid s0
  have ED := hid eD
  have ET := hid et
  clear s0 eD et g1 g2 f3 f5
  go_upto_block 0 with (fail)
  have HU := hid hu
  have HT := hid ht
  have HD := hid hD
  clear hu ht hD hd1 hd0 ht1 ht0 k1 k2 k3 c1 c2 c3 c4
  obtain ⟨Q1, hQ1⟩ : ∃ Q1, (u * 4294967296 + t1) / (d1 * 4294967296 + d0) = Q1 := ⟨_, rfl⟩
  have q1a := dig_quo0 n
  have q1b := dig_quo1 n
  rw [hQ1] at q1a q1b
  have HQ1 := hid hQ1
  clear hQ1
  have QV : Hid (Value.int IntKind.u64 ((u * 4294967296 + t1) / (d1 * 4294967296 + d0)) = Value.int IntKind.u64 Q1) := by unfold Hid; rw [HQ1.out]
  go_cut [15, 16] from 67 to 85 (fun a _ wc => a = .int .u64 Q1 ∧ w = wc)
  case first =>
    go_wp2_with fail
    go_loop [15, 16] (fun a b => ∃ q r : Int, a = .int .u64 q ∧ b = .int .u64 r ∧ Dig u d1 d0 t1 q r ∧ r < 4294967296) (fun a b => (4294967296 - intOf b).toNat)
    case atStart => exact ⟨_, _, rfl, rfl, S0.out.1, S0.out.2⟩
    case round =>
      obtain ⟨q, r, rfl, rfl, hdig, hr⟩ := hrel
      have e1 := hdig.q0
      have e2 := hdig.q1
      have e3 := hdig.r0
      by_cases hc : 4294967296 ≤ q ∨ 4294967296 * r + t1 < q * d0
      · obtain ⟨x1, x2, x3⟩ := dig_step n hdig hc
        have y0 := x1.q0
        by_cases hq : 4294967296 ≤ q
        · clear hc
          by_cases hb : 4294967296 ≤ r + d1
          · go_wp2_with fail
            go_meet
            case rel => exact ⟨by rw [← dig_break n x1 x3 hb]; exact QV.out, rfl⟩
          · go_wp2_with fail
            go_round
            case rel => exact ⟨q - 1, r + d1, rfl, rfl, x1, by omega⟩
            case measure => simp [intOf]; omega
        · have hc' : 4294967296 * r + t1 < q * d0 := by omega
          have z0 : 0 ≤ q * d0 := Int.mul_nonneg e1 b3
          have z1 : q * d0 ≤ 18446744073709551615 := by
            have := Int.mul_le_mul (show q ≤ 4294967295 by omega) b4 b3 (by decide)
            omega
          clear hc
          by_cases hb : 4294967296 ≤ r + d1
          · go_wp2_with fail
            go_meet
            case rel => exact ⟨by rw [← dig_break n x1 x3 hb]; exact QV.out, rfl⟩
          · go_wp2_with fail
            go_round
            case rel => exact ⟨q - 1, r + d1, rfl, rfl, x1, by omega⟩
            case measure => simp [intOf]; omega
      · have hc1 : ¬ 4294967296 ≤ q := by omega
        have hc2 : ¬ 4294967296 * r + t1 < q * d0 := by omega
        have z0 : 0 ≤ q * d0 := Int.mul_nonneg e1 b3
        have z1 : q * d0 ≤ 18446744073709551615 := by
          have := Int.mul_le_mul (show q ≤ 4294967295 by omega) b4 b3 (by decide)
          omega
        have hz := dig_le n hdig (by omega)
        have HZ := hid hz
        clear hc hz
        go_wp2_with fail
        go_meet
        case rel => exact ⟨by rw [← HZ.out]; exact QV.out, rfl⟩
  case rest =>
    obtain ⟨rfl, rfl⟩ := hcut
    have r1e := rem_of n HQ1.out ED.out
    obtain ⟨r1, hr1⟩ : ∃ r1, u * 4294967296 + t1 - Q1 * D = r1 := ⟨_, rfl⟩
    rw [hr1] at r1e
    obtain ⟨r1w, r1a, r1b⟩ := r1e
    have R1 := hid hr1
    clear hr1
    have m : Den r1 d1 d0 t0 := ⟨b1, by omega, b3, by omega, r1a, by rw [← ED.out]; exact r1b, b7, by omega⟩
    have s1 := dig_start m
    have c1 : 0 ≤ r1 / d1 := s1.1.q0
    have c2 : r1 / d1 ≤ 4294967297 := s1.1.q1
    have c3 : 0 ≤ r1 / d1 * d1 := Int.mul_nonneg c1 (by omega)
    have c4 : r1 / d1 * d1 ≤ r1 := by have := s1.1.r0; omega
    have S1 := hid s1
    clear s1
    go_upto_block 2 with (fail)
    clear r1w c1 c2 c3 c4 QV
    obtain ⟨Q0, hQ0⟩ : ∃ Q0, (r1 * 4294967296 + t0) / (d1 * 4294967296 + d0) = Q0 := ⟨_, rfl⟩
    have q0a := dig_quo0 m
    have q0b := dig_quo1 m
    rw [hQ0] at q0a q0b
    have HQ0 := hid hQ0
    clear hQ0
    have QV : Hid (Value.int IntKind.u64 ((r1 * 4294967296 + t0) / (d1 * 4294967296 + d0)) = Value.int IntKind.u64 Q0) := by unfold Hid; rw [HQ0.out]
    go_cut [18, 16] from 102 to 120 (fun a _ wc => a = .int .u64 Q0 ∧ w = wc)
    case first =>
      go_wp2_with fail
      go_loop [18, 16] (fun a b => ∃ q r : Int, a = .int .u64 q ∧ b = .int .u64 r ∧ Dig r1 d1 d0 t0 q r ∧ r < 4294967296) (fun a b => (4294967296 - intOf b).toNat)
      case atStart => exact ⟨_, _, rfl, rfl, S1.out.1, S1.out.2⟩
      case round =>
        obtain ⟨q, r, rfl, rfl, hdig, hr⟩ := hrel
        have e1 := hdig.q0
        have e2 := hdig.q1
        have e3 := hdig.r0
        by_cases hc : 4294967296 ≤ q ∨ 4294967296 * r + t0 < q * d0
        · obtain ⟨x1, x2, x3⟩ := dig_step m hdig hc
          have y0 := x1.q0
          by_cases hq : 4294967296 ≤ q
          · clear hc
            by_cases hb : 4294967296 ≤ r + d1
            · go_wp2_with fail
              go_meet
              case rel => exact ⟨by rw [← dig_break m x1 x3 hb]; exact QV.out, rfl⟩
            · go_wp2_with fail
              go_round
              case rel => exact ⟨q - 1, r + d1, rfl, rfl, x1, by omega⟩
              case measure => simp [intOf]; omega
          · have hc' : 4294967296 * r + t0 < q * d0 := by omega
            have z0 : 0 ≤ q * d0 := Int.mul_nonneg e1 b3
            have z1 : q * d0 ≤ 18446744073709551615 := by
              have := Int.mul_le_mul (show q ≤ 4294967295 by omega) b4 b3 (by decide)
              omega
            clear hc
            by_cases hb : 4294967296 ≤ r + d1
            · go_wp2_with fail
              go_meet
              case rel => exact ⟨by rw [← dig_break m x1 x3 hb]; exact QV.out, rfl⟩
            · go_wp2_with fail
              go_round
              case rel => exact ⟨q - 1, r + d1, rfl, rfl, x1, by omega⟩
              case measure => simp [intOf]; omega
        · have hc1 : ¬ 4294967296 ≤ q := by omega
          have hc2 : ¬ 4294967296 * r + t0 < q * d0 := by omega
          have z0 : 0 ≤ q * d0 := Int.mul_nonneg e1 b3
          have z1 : q * d0 ≤ 18446744073709551615 := by
            have := Int.mul_le_mul (show q ≤ 4294967295 by omega) b4 b3 (by decide)
            omega
          have hz := dig_le m hdig (by omega)
          have HZ := hid hz
          clear hc hz
          go_wp2_with fail
          go_meet
          case rel => exact ⟨by rw [← HZ.out]; exact QV.out, rfl⟩
    case rest =>
      obtain ⟨rfl, rfl⟩ := hcut
      go_wp2_with fail
      have fin := high_end hs1 (show 0 < y by omega) (show 0 < D by omega) F.out HU.out HT.out HD.out ED.out ET.out R1.out (rem_of m HQ0.out ED.out)
      go_ret2
      exact ⟨ret2 fin.1 fin.2, rfl⟩
theorem div64 (h l y : Int) (hl : U64 l) (hy : y ≤ 18446744073709551615) (h0 : 0 ≤ h) (h1 : h < y) (w : World) :
    Calls Try.prog 70 #[.int .u64 h, .int .u64 l, .int .u64 y] w fun e w' => e = .returned (.tuple #[.int .u64 ((h * 18446744073709551616 + l) / y), .int .u64 ((h * 18446744073709551616 + l) % y)]) ∧ ∃ n, w.drewN n = w' := by
  by_cases hz : h = 0
  · subst hz
    refine (div64_low l y hl ⟨by omega, hy⟩ (by omega) w).mono ?_
    rintro e w' ⟨rfl, rfl⟩
    exact ⟨by simp only [Int.zero_mul, Int.zero_add], 1, rfl⟩
  · refine (div64_high h l y hl hy (by omega) h1 w).mono ?_
    rintro e w' ⟨rfl, rfl⟩
    exact ⟨rfl, 0, rfl⟩
end Go.Proofs.Ytcjkofcgphcjnaa
namespace Go.Proofs.Ytcjkofcgphcjnaa
open Go.RowKit
set_option maxHeartbeats 1000000
set_option maxRecDepth 100000
set_option linter.unusedVariables false
theorem and63 (i : Nat) (h : i < 128) : bits BinOp.and IntKind.i64 (i : Int) 63 = ((i % 64 : Nat) : Int) := by
  show IntKind.i64.wrap ((BitVec.ofInt 64 (i : Int) &&& BitVec.ofInt 64 63).toNat : Int) = _
  rw [BitVec.toNat_and, show (BitVec.ofInt 64 63).toNat = 2 ^ 6 - 1 from rfl, Nat.and_two_pow_sub_one_eq_mod, BitVec.toNat_ofInt, IntKind.wrap_i64]
  omega
theorem and1 (x : Int) (h : U64 x) : bits BinOp.and IntKind.u64 x 1 = x % 2 :=
  bits_mask .u64 64 (by decide) (fun n h0 h1 => by rw [IntKind.wrap_u64]; omega) 1 (by decide) x h.1 (by have := h.2; omega)
theorem or_bit (x b : Int) (hb : 0 ≤ b ∧ b ≤ 1) : bits BinOp.or IntKind.u64 (IntKind.u64.wrap (x * 2)) b = IntKind.u64.wrap (x * 2 + b) := by
  rw [IntKind.wrap_u64, IntKind.wrap_u64, bits_join .u64 64 (by decide) (fun n h0 h1 => by rw [IntKind.wrap_u64]; omega) 1 _ _ (by omega) (by omega) (by omega) (by omega) (by omega) (by omega)]
  omega
theorem shr_u64 {x : Int} (h : U64 x) (k : Nat) : U64 (x / 2 ^ k) := by
  have hp : (0 : Int) < 2 ^ k := Int.pow_pos (by decide)
  have := Int.ediv_le_self (2 ^ k) h.1
  unfold U64 at *
  exact ⟨Int.ediv_nonneg h.1 (Int.le_of_lt hp), by omega⟩
theorem bit_high (h l : Int) (hl : U64 l) {n : Nat} (hn : 64 ≤ n) (hn' : n < 128) : (h * 18446744073709551616 + l) / 2 ^ n % 2 = h / 2 ^ (n % 64) % 2 := by
  have e : (2 : Int) ^ n = 18446744073709551616 * 2 ^ (n % 64) := by
    rw [show (18446744073709551616 : Int) = 2 ^ 64 by rfl, ← Int.pow_add, show 64 + n % 64 = n by omega]
  rw [e, ← Int.ediv_ediv_of_nonneg (by decide)]
  unfold U64 at hl
  rw [show (h * 18446744073709551616 + l) / 18446744073709551616 = h by omega]
theorem bit_low (h l : Int) {n : Nat} (hn : n < 64) : (h * 18446744073709551616 + l) / 2 ^ n % 2 = l / 2 ^ (n % 64) % 2 := by
  have hp : (0 : Int) < 2 ^ n := Int.pow_pos (by decide)
  have e : (18446744073709551616 : Int) = 2 ^ (63 - n) * 2 * 2 ^ n := by
    rw [← Int.pow_succ, ← Int.pow_add, show 63 - n + 1 + n = 64 by omega]; rfl
  rw [show n % 64 = n by omega, e, ← Int.mul_assoc, Int.add_comm, Int.add_mul_ediv_right _ _ (by omega), ← Int.mul_assoc]
  omega
theorem top_bit {left : Int} (h : U64 left) : ((left / 9223372036854775808 == 1) = true ∧ 9223372036854775808 ≤ left) ∨ ((left / 9223372036854775808 == 1) = false ∧ left < 9223372036854775808) := by
  unfold U64 at h
  rcases Int.lt_or_le left 9223372036854775808 with c | c
  · right; exact ⟨by simp; omega, c⟩
  · left; exact ⟨by simp; omega, c⟩
theorem nat_back (n : Nat) : ((n : Int) - 1 + 1).toNat = n := by omega
theorem or_zero {q : Int} (h : U64 q) : bits BinOp.or IntKind.u64 q 0 = q := by
  have := bits_join .u64 64 (by decide) (fun n h0 h1 => by rw [IntKind.wrap_u64]; omega) 0 q 0 h.1 (by omega) (by have := h.2; omega) (by decide) (by decide) (by decide)
  omega
def OverPost (h l y : Int) (w : World) (e : Ending) (w' : World) : Prop := ∃ q r f, e = .returned (.tuple #[.int .u64 q, .int .u64 r, .bool f]) ∧ OvR h l y 0 r q f ∧ w = w'
theorem ref_over (h l y : Int) (hh : U64 h) (hl : U64 l) (hy : U64 y) (hy1 : 1 ≤ y) (w : World) :
    Calls Try.prog 66 #[.int .u64 h, .int .u64 l, .int .u64 y] w (OverPost h l y w) := by
  go_enter Try.func66, Try.ntmps66
  go_wp2_with fail
  go_loop [9, 10, 11, 12] (fun a b c d => ∃ q left f, ∃ i : Int, a = .int .u64 q ∧ b = .int .u64 left ∧ c = .bool f ∧ d = .int .i64 i ∧ -1 ≤ i ∧ i ≤ 127 ∧ OvR h l y (i + 1).toNat left q f) (fun _ _ _ d => (intOf d + 1).toNat)
  case atStart => exact ⟨_, _, _, _, rfl, rfl, rfl, rfl, by decide, by decide, ov_start hh hl hy1⟩
  case round =>
    obtain ⟨q, left, f, i, rfl, rfl, rfl, rfl, hi0, hi1, hr⟩ := hrel
    by_cases hlt : 0 ≤ i
    · obtain ⟨n, rfl⟩ := Int.eq_ofNat_of_zero_le hlt
      have hr' : OvR h l y (n + 1) left q f := hr
      have a63 := and63 n (by omega)
      have ah := and1 _ (shr_u64 hh (n % 64))
      have al := and1 _ (shr_u64 hl (n % 64))
      obtain ⟨bh, hbh⟩ : ∃ b, h / 2 ^ (n % 64) % 2 = b := ⟨_, rfl⟩
      obtain ⟨bl, hbl⟩ : ∃ b, l / 2 ^ (n % 64) % 2 = b := ⟨_, rfl⟩
      rw [hbh] at ah
      rw [hbl] at al
      have orh := or_bit left bh (by omega)
      have orl := or_bit left bl (by omega)
      have lq := hr'.q0
      have lb0 : 0 ≤ left ∧ left < y := by rw [hr'.left]; exact ⟨Int.emod_nonneg _ (by omega), Int.emod_lt_of_pos _ (by omega)⟩
      have ub := hy.2
      have tb := top_bit (left := left) ⟨lb0.1, by omega⟩
      have b1 : 0 ≤ bh ∧ bh ≤ 1 := by omega
      have b2 : 0 ≤ bl ∧ bl ≤ 1 := by omega
      by_cases h64 : 64 ≤ n
      · have st := ov_high hh hl hy1 h64 hr' bh (((bit_high h l hl h64 (by omega))).trans hbh)
        have ST := hid st
        have HL := hid (And.intro hr'.left hr'.q0)
        clear st hr hr' 
        have HB := hid (And.intro hbh hbl)
        clear hbh hbl
        rcases tb with ⟨t1, t2⟩ | ⟨t1, t2⟩
        · have wr : IntKind.u64.wrap (IntKind.u64.wrap (left * 2 + bh) - y) = 2 * left + bh - y := by rw [IntKind.wrap_u64, IntKind.wrap_u64]; omega
          go_wp2
          go_round
          case rel => exact ⟨_, _, _, _, rfl, rfl, rfl, rfl, by omega, by omega, by rw [nat_back]; exact ST.out.1 (by omega)⟩
          case measure => first | (simp [intOf]; done) | (simp [intOf]; omega)
        · have wr : bits BinOp.or IntKind.u64 (left * 2) bh = 2 * left + bh := by
            rw [show IntKind.u64.wrap (left * 2) = left * 2 by rw [IntKind.wrap_u64]; omega] at orh
            rw [orh, IntKind.wrap_u64]
            omega
          clear orh
          by_cases hc : y ≤ 2 * left + bh
          · go_wp2
            go_round
            case rel => exact ⟨_, _, _, _, rfl, rfl, rfl, rfl, by omega, by omega, by rw [nat_back]; exact ST.out.1 hc⟩
            case measure => first | (simp [intOf]; done) | (simp [intOf]; omega)
          · go_wp2
            go_round
            case rel => exact ⟨_, _, _, _, rfl, rfl, rfl, rfl, by omega, by omega, by rw [nat_back]; exact ST.out.2 (by omega)⟩
            case measure => first | (simp [intOf]; done) | (simp [intOf]; omega)
      · have h64 : n < 64 := by omega
        have p1 : (1 : Int) ≤ 2 ^ n := by
          have : (0 : Int) < 2 ^ n := Int.pow_pos (by decide)
          omega
        have p2 : (2 : Int) ^ n ≤ 9223372036854775808 := by
          have hx : 2 ^ n ≤ 2 ^ 63 := Nat.pow_le_pow_right (show 0 < 2 by decide) (show n ≤ 63 by omega)
          have h2 : ((2 ^ n : Nat) : Int) ≤ ((2 ^ 63 : Nat) : Int) := Int.ofNat_le.2 hx
          rw [Int.natCast_pow] at h2
          exact h2
        have q0 : bits BinOp.or IntKind.u64 q 0 = q := or_zero lq
        have st := ov_low hh hl hy1 h64 hr' bl (((bit_low h l h64)).trans hbl)
        have ST := hid st
        have HL := hid (And.intro hr'.left hr'.q0)
        clear st hr hr' 
        have HB := hid (And.intro hbh hbl)
        clear hbh hbl
        rcases tb with ⟨t1, t2⟩ | ⟨t1, t2⟩
        · have wr : IntKind.u64.wrap (IntKind.u64.wrap (left * 2 + bl) - y) = 2 * left + bl - y := by rw [IntKind.wrap_u64, IntKind.wrap_u64]; omega
          go_wp2
          go_round
          case rel => exact ⟨_, _, _, _, rfl, rfl, rfl, rfl, by omega, by omega, by rw [nat_back]; exact ST.out.1 (by omega)⟩
          case measure => first | (simp [intOf]; done) | (simp [intOf]; omega)
        · have wr : bits BinOp.or IntKind.u64 (left * 2) bl = 2 * left + bl := by
            rw [show IntKind.u64.wrap (left * 2) = left * 2 by rw [IntKind.wrap_u64]; omega] at orl
            rw [orl, IntKind.wrap_u64]
            omega
          clear orl
          by_cases hc : y ≤ 2 * left + bl
          · go_wp2
            go_round
            case rel => exact ⟨_, _, _, _, rfl, rfl, rfl, rfl, by omega, by omega, by rw [nat_back]; exact ST.out.1 hc⟩
            case measure => first | (simp [intOf]; done) | (simp [intOf]; omega)
          · go_wp2
            go_round
            case rel => exact ⟨_, _, _, _, rfl, rfl, rfl, rfl, by omega, by omega, by rw [nat_back]; exact ST.out.2 (by omega)⟩
            case measure => first | (simp [intOf]; done) | (simp [intOf]; omega)
    · obtain rfl : i = -1 := by omega
      go_wp2
      go_ret3
      exact ⟨q, left, f, rfl, hr, rfl⟩
end Go.Proofs.Ytcjkofcgphcjnaa
/- Lines: how few samples are played. -/
namespace Go.Proofs.Ytcjkofcgphcjnaa
open Go.RowKit
set_option maxHeartbeats 2000000
set_option maxRecDepth 100000
set_option linter.unusedVariables false
def fewL (U : Nat) (ls : List SmpV) : Bool := (ls.all fun s => decide (s.X.length ≤ 100)) && (decide (U ≤ 500) && decide (ls.length ≤ 100))
theorem ref_Few14 {Aw A : Option Addr} {cw c : Nat} (U : Nat) (hU : U ≤ 9223372036854775807) (ls : List SmpV) (hl : ls.length ≤ 9223372036854775807) (w : World) (ra : RdSm w w.heap.size A ls) :
    Calls Try.prog 10 #[.slice Aw U cw, .slice A ls.length c] w fun e w' => e = .returned (.bool (fewL U ls)) ∧ Below w.heap.size w w' := by
  obtain ⟨M, hM⟩ : ∃ M, ls.length = M := ⟨_, rfl⟩
  obtain ⟨R, hR⟩ : ∃ R, fewL U ls = R := ⟨_, rfl⟩
  rw [hR, hM]
  rw [hM] at hl
  have HR := hid hR
  have HM := hid hM
  have RA := hid ra
  clear hR hM ra
  go_enter Try.func10, Try.ntmps10
  go_wp2_with fail
  go_loopw [6, 9] (fun _ xi wr => ∃ k : Nat, k ≤ M ∧ xi = .int .i64 (k : Int) ∧ (∀ j s, j < k → ls[j]? = some s → s.X.length ≤ 100) ∧ Below w.heap.size w wr) (fun _ xi _ => M - (intOf xi).toNat)
  case atStart => exact ⟨0, Nat.zero_le _, rfl, fun j s hj => by omega, Below.refl _ _⟩
  case round =>
    obtain ⟨k, hk, rfl, hall, hbel⟩ := hrel
    have HA := hid hall
    have HB := hid hbel
    clear hall
    by_cases hlt : k < M
    · obtain ⟨b1, o1, s, Ax, cx, rfl, l1, en, c1, d1, rx⟩ := (RA.out.on hbel).at_ (k := k) (by rw [HM.out]; exact hlt)
      have HS := hid en
      clear hbel en rx
      obtain ⟨X, hX⟩ : ∃ X, s.X.length = X := ⟨_, rfl⟩
      have HXX := hid hX
      rw [hX] at c1
      obtain ⟨Y, hY⟩ : ∃ Y, s.Y = Y := ⟨_, rfl⟩
      rw [hY] at d1
      clear hX hY
      by_cases hx : X ≤ 100
      · have t1 : ¬ (X : Int) > 100 := by omega
        have hw : IntKind.i64.wrap ((k : Int) + 1) = ((k + 1 : Nat) : Int) := Go.IntWalk.i64_in _ (by omega)
        go_wp2_with fail
        go_roundw
        case rel =>
          refine ⟨k + 1, hlt, rfl, ?_, HB.out.alloc HB.out.size _⟩
          intro j s' hj hs'
          by_cases e : j = k
          · subst e
            obtain rfl : s = s' := Option.some.inj (HS.out.symm.trans hs')
            rw [HXX.out]; exact hx
          · exact HA.out j s' (by clear hw; omega) hs'
        case measure => (try clear hw); simp [intOf]; omega
      · have t1 : (X : Int) > 100 := by omega
        have : R = false := by
          rw [← HR.out]
          unfold fewL
          have : (ls.all fun s => decide (s.X.length ≤ 100)) = false := by
            rw [List.all_eq_false]
            exact ⟨s, List.mem_of_getElem? HS.out, by rw [HXX.out]; simpa using hx⟩
          rw [this, Bool.false_and]
        subst this
        clear hx
        go_wp2_with fail
        go_ret
        exact ⟨rfl, HB.out.alloc HB.out.size _⟩
    · obtain rfl : k = M := by omega
      have hall : (ls.all fun s => decide (s.X.length ≤ 100)) = true := by
        rw [List.all_eq_true]
        intro s hs
        obtain ⟨j, hj, rfl⟩ := List.mem_iff_getElem.1 hs
        exact decide_eq_true (HA.out j _ (by rw [← HM.out]; exact hj) (List.getElem?_eq_getElem hj))
      have hr2 : R = (decide (U ≤ 500) && decide (k ≤ 100)) := by
        rw [← HR.out]; unfold fewL; rw [hall, HM.out, Bool.true_and]
      clear hall hbel
      by_cases g1 : U ≤ 500
      · have g1' : (U : Int) ≤ 500 := by omega
        by_cases g2 : k ≤ 100
        · have g2' : (k : Int) ≤ 100 := by omega
          rw [decide_eq_true g1, decide_eq_true g2] at hr2
          subst hr2
          go_wp2_with fail
          go_ret
          exact ⟨rfl, HB.out⟩
        · have g2' : ¬ (k : Int) ≤ 100 := by omega
          rw [decide_eq_true g1, decide_eq_false g2] at hr2
          subst hr2
          go_wp2_with fail
          go_ret
          exact ⟨rfl, HB.out⟩
      · have g1' : ¬ (U : Int) ≤ 500 := by omega
        rw [decide_eq_false g1, Bool.false_and] at hr2
        subst hr2
        go_wp2_with fail
        go_ret
        exact ⟨rfl, HB.out⟩
end Go.Proofs.Ytcjkofcgphcjnaa
/- Lines: told right, turned round, twice as steep, with another base. Plain mathematics. No program in sight. -/
namespace Go.Proofs.Ytcjkofcgphcjnaa
open Go.RowKit
set_option maxRecDepth 100000
set_option linter.unusedVariables false
theorem mul_bd {a b : Int} {A C : Nat} (ha : a.natAbs ≤ A) (hb : b.natAbs ≤ C) : -((A * C : Nat) : Int) ≤ a * b ∧ a * b ≤ ((A * C : Nat) : Int) := by
  have h : (a * b).natAbs ≤ A * C := by rw [Int.natAbs_mul]; exact Nat.mul_le_mul ha hb
  omega
theorem div_bd {p q M : Int} (hq : 1 ≤ q) (h1 : -M ≤ p) (h2 : p ≤ M) (hM : 0 ≤ M) : -M ≤ p / q ∧ p / q ≤ M := by
  constructor
  · refine Int.le_ediv_of_mul_le (by omega) ?_
    have : M * 1 ≤ M * q := Int.mul_le_mul_of_nonneg_left hq hM
    rw [Int.neg_mul]
    omega
  · rcases Int.lt_or_le p 0 with h | h
    · have := Int.ediv_neg_of_neg_of_pos h (show 0 < q by omega)
      omega
    · have := Int.ediv_le_self q h
      omega
theorem pow_one (m : Nat) : (1 : Int) ≤ 2 ^ m := by
  have h := Nat.two_pow_pos m
  have e : ((2 ^ m : Nat) : Int) = 2 ^ m := by simp
  omega
theorem dot_mk {xs ys : List Int} {m : Nat} (hm : m ≤ 30) (hl : ys.length = xs.length) (hn : xs.length ≤ 16) {A C : Nat} (hAC : A * C ≤ 36028797018963968) (h : ∀ k, k < xs.length → (xs.getD k 0).natAbs ≤ A ∧ (ys.getD k 0).natAbs ≤ C) :
    dotE xs ys m = 0 ∧ dotV xs ys m = sm (fun k => xs.getD k 0 * ys.getD k 0 / 2 ^ m) xs.length ∧ -(((A * C : Nat) : Int) * xs.length) ≤ dotV xs ys m ∧ dotV xs ys m ≤ ((A * C : Nat) : Int) * xs.length := by
  have hb : ∀ k, k < xs.length → -((A * C : Nat) : Int) ≤ xs.getD k 0 * ys.getD k 0 / 2 ^ m ∧ xs.getD k 0 * ys.getD k 0 / 2 ^ m ≤ ((A * C : Nat) : Int) := fun k hk => by
    obtain ⟨a, b⟩ := h k hk
    obtain ⟨c, d⟩ := mul_bd a b
    exact div_bd (pow_one m) c d (by omega)
  have hnum : ∀ k, k < xs.length → numD xs ys m k = (xs.getD k 0 * ys.getD k 0 / 2 ^ m, 0) := fun k hk => by
    obtain ⟨a, b⟩ := hb k hk
    obtain ⟨c, d⟩ := mul_ok hm (a := xs.getD k 0) (b := ys.getD k 0) rfl (by unfold I64; omega)
    unfold numD
    rw [c, d]
  have hsm : ∀ k, k ≤ xs.length → sm (fun k => (numD xs ys m k).1) k = sm (fun k => xs.getD k 0 * ys.getD k 0 / 2 ^ m) k := fun k hk => sm_ext fun j hj => by rw [hnum j (by omega)]
  have hbd : ∀ k, k ≤ xs.length → -(((A * C : Nat) : Int) * k) ≤ sm (fun k => xs.getD k 0 * ys.getD k 0 / 2 ^ m) k ∧ sm (fun k => xs.getD k 0 * ys.getD k 0 / 2 ^ m) k ≤ ((A * C : Nat) : Int) * k := fun k hk => sm_bound fun j hj => hb j (by omega)
  have ht : tot (numD xs ys m) xs.length = (sm (fun k => xs.getD k 0 * ys.getD k 0 / 2 ^ m) xs.length, 0) := by
    rw [← hsm _ (Nat.le_refl _)]
    refine tot_mk (fun k hk => by rw [hnum k hk]) fun k hk => ?_
    rw [hsm k hk]
    obtain ⟨a, b⟩ := hbd k hk
    have : ((A * C : Nat) : Int) * k ≤ 36028797018963968 * 16 := Int.mul_le_mul (by omega) (by omega) (by omega) (by omega)
    unfold I64
    omega
  have h2 : twoE xs.length ys.length = 0 := twoE_mk (by omega) hl
  have e1 : dotE xs ys m = 0 := by unfold dotE; rw [if_pos h2, if_pos (beh_ok hm), ht]
  have e2 : dotV xs ys m = sm (fun k => xs.getD k 0 * ys.getD k 0 / 2 ^ m) xs.length := by unfold dotV; rw [if_pos h2, if_pos (beh_ok hm), ht]
  obtain ⟨a, b⟩ := hbd _ (Nat.le_refl _)
  exact ⟨e1, e2, by rw [e2]; exact a, by rw [e2]; exact b⟩
theorem take_getD {w : List Int} {n k : Nat} (hk : k < n) : (w.take n).getD k 0 = w.getD k 0 := by
  rw [List.getD_eq_getElem?_getD, List.getD_eq_getElem?_getD, List.getElem?_take_of_lt hk]
theorem beh_bad {f : Int} (h : ¬ (0 ≤ f ∧ f ≤ 30)) : behE f = 1 := if_pos (by omega)
theorem dot_f {xs ys : List Int} {f : Int} (hl : ys.length = xs.length) (hn : xs.length ≤ 16) (h : dotE xs ys f = 0) : 0 ≤ f ∧ f ≤ 30 := by
  refine Classical.byContradiction fun h2 => ?_
  unfold dotE at h
  rw [if_pos (twoE_mk (by omega) hl), beh_bad h2] at h
  simp at h
/-- One sample alone. -/
theorem lc_one {n : Int} {w x : List Int} (hx : (x.length : Int) = n) (h1 : 1 ≤ n) (h2 : n ≤ 16) (hw : (w.length : Int) = n + 1) : lcE x.length w [⟨x, 0⟩] = 0 :=
  lcE_ok.2 ⟨⟨by omega, by omega⟩, by omega, fun s hs => by simp at hs; subst hs; rfl, by simp, by simp⟩
/-- With another base. -/
def upB (w : List Int) (c : Int) : List Int := w.set (w.length - 1) (w.getD (w.length - 1) 0 + c)
theorem upB_len (w : List Int) (c : Int) : (upB w c).length = w.length := by unfold upB; simp
theorem upB_take {w : List Int} {c : Int} {n : Nat} (hn : n + 1 = w.length) : (upB w c).take n = w.take n := by
  unfold upB
  rw [List.take_set_of_le (by omega)]
theorem upB_at {w : List Int} {c : Int} {n : Nat} (hn : n + 1 = w.length) : (upB w c).getD n 0 = w.getD n 0 + c := by
  unfold upB
  have e : w.length - 1 = n := by omega
  rw [e, List.getD_eq_getElem?_getD, List.getElem?_set_self (by omega)]
  rfl
theorem lin_base {w : List Int} {f c : Int} {ls : List SmpV} (hw : ∀ x ∈ w, x.natAbs ≤ 1099511627776) (hX : ∀ s ∈ ls, ∀ x ∈ s.X, x.natAbs ≤ 32768) (hY : ∀ s ∈ ls, s.Y.natAbs ≤ 1152921504606846976) (hc : c.natAbs ≤ 1099511627776) :
    lgE (upB w c) f (ls.map fun s => ⟨s.X, s.Y + c⟩) = lgE w f ls ∧ lgV (upB w c) f (ls.map fun s => ⟨s.X, s.Y + c⟩) = lgV w f ls ∧ lsE (upB w c) f (ls.map fun s => ⟨s.X, s.Y + c⟩) = lsE w f ls ∧ lsV (upB w c) f (ls.map fun s => ⟨s.X, s.Y + c⟩) = lsV w f ls := by
  refine lin_alike (g := fun s => ⟨s.X, s.Y + c⟩) ?_ (fun s _ => rfl) fun h s hs => ?_
  · have e1 : oddX ((w.length : Int) - 1) (ls.map fun s => ⟨s.X, s.Y + c⟩) = oddX ((w.length : Int) - 1) ls := by unfold oddX; rw [List.any_map]; rfl
    unfold lcE
    rw [upB_len, e1, List.length_map]
  · obtain ⟨⟨n1, n2⟩, n3, n4, _, _⟩ := lcE_ok.1 h
    have hn := n4 s hs
    obtain ⟨n, hnn⟩ : ∃ n, s.X.length = n := ⟨_, rfl⟩
    rw [hnn] at hn
    have hwl : n + 1 = w.length := by omega
    have c1 : lcE s.X.length w [⟨s.X, 0⟩] = 0 := lc_one (n := n) (by omega) (by omega) (by omega) (by omega)
    have c2 : lcE s.X.length (upB w c) [⟨s.X, 0⟩] = 0 := lc_one (n := n) (by omega) (by omega) (by omega) (by rw [upB_len]; omega)
    have key : ltE (upB w c) s.X f = ltE w s.X f ∧ (ltE w s.X f = 0 → I64 (ltV w s.X f - s.Y) ∧ I64 (ltV (upB w c) s.X f - (s.Y + c)) ∧ ltV (upB w c) s.X f - (s.Y + c) = ltV w s.X f - s.Y) := by
      have t1 := upB_take (c := c) hwl
      have t2 := upB_at (c := c) hwl
      by_cases hd : dotE (w.take n) s.X f = 0
      · have hf := dot_f (by rw [List.length_take]; omega) (by rw [List.length_take]; omega) hd
        obtain ⟨m, rfl⟩ := Int.eq_ofNat_of_zero_le hf.1
        obtain ⟨_, _, d1, d2⟩ := dot_mk (xs := w.take n) (ys := s.X) (m := m) (by omega) (by rw [List.length_take]; omega) (by rw [List.length_take]; omega) (A := 1099511627776) (C := 32768) (by decide) fun k hk => by
          rw [List.length_take] at hk
          rw [take_getD (by omega)]
          refine ⟨hw _ ?_, hX s hs _ ?_⟩
          · rw [List.getD_eq_getElem?_getD, List.getElem?_eq_getElem (by omega), Option.getD_some]; exact List.getElem_mem _
          · rw [List.getD_eq_getElem?_getD, List.getElem?_eq_getElem (by omega), Option.getD_some]; exact List.getElem_mem _
        have hl16 : ((w.take n).length : Int) ≤ 16 := by rw [List.length_take]; omega
        have hmm : ((1099511627776 * 32768 : Nat) : Int) * ((w.take n).length : Int) ≤ 36028797018963968 * 16 := Int.mul_le_mul (by decide) hl16 (by omega) (by decide)
        have hb : (w.getD n 0).natAbs ≤ 1099511627776 := hw _ (by rw [List.getD_eq_getElem?_getD, List.getElem?_eq_getElem (by omega), Option.getD_some]; exact List.getElem_mem _)
        have hy := hY s hs
        have e1 : ltE w s.X m = 0 := ltE_ok.2 ⟨c1, by rw [hnn]; exact hd, by rw [hnn]; unfold I64; omega⟩
        have e2 : ltE (upB w c) s.X m = 0 := ltE_ok.2 ⟨c2, by rw [hnn, t1]; exact hd, by rw [hnn, t1, t2]; unfold I64; omega⟩
        have v1 : ltV w s.X m = dotV (w.take n) s.X m + w.getD n 0 := by unfold ltV; rw [if_pos e1, hnn]
        have v2 : ltV (upB w c) s.X m = dotV (w.take n) s.X m + (w.getD n 0 + c) := by unfold ltV; rw [if_pos e2, hnn, t1, t2]
        refine ⟨by rw [e1, e2], fun _ => ?_⟩
        rw [v1, v2]
        unfold I64
        omega
      · have e1 : ltE w s.X f = dotE (w.take n) s.X f := by unfold ltE; rw [if_neg (by simp [c1]), hnn, if_pos hd]
        have e2 : ltE (upB w c) s.X f = dotE (w.take n) s.X f := by unfold ltE; rw [if_neg (by simp [c2]), hnn, t1, if_pos hd]
        exact ⟨by rw [e1, e2], fun h9 => absurd (e1.symm.trans h9) hd⟩
    obtain ⟨k1, k2⟩ := key
    have o1 : loE (upB w c) ⟨s.X, s.Y + c⟩ f = loE w s f := by
      unfold loE
      show (if ltE (upB w c) s.X f ≠ 0 then _ else ckE (ltV (upB w c) s.X f - (s.Y + c))) = _
      rw [k1]
      by_cases h9 : ltE w s.X f = 0
      · rw [if_neg (by simp [h9]), if_neg (by simp [h9]), (k2 h9).2.2]
      · rw [if_pos h9, if_pos h9]
    refine ⟨o1, ?_⟩
    unfold loV
    rw [o1]
    by_cases h9 : loE w s f = 0
    · rw [if_pos h9, if_pos h9]
      exact (k2 (loE_ok.1 h9).1).2.2
    · rw [if_neg h9, if_neg h9]
/-- Twice as steep; without bits behind the point. -/
theorem lin_grow {w x : List Int} {c : Int} (hw : ∀ n ∈ w, n.natAbs ≤ 1048576) (hx : ∀ n ∈ x, n.natAbs ≤ 1048576) (hc : c.natAbs ≤ 1099511627776) :
    ltE (w.map fun n => 2 * n) x 0 = ltE w x 0 ∧ (ltE w x 0 = 0 → w.length = x.length + 1 ∧ ltV (w.map fun n => 2 * n) x 0 = 2 * ltV w x 0 ∧ I64 (2 * ltV w x 0) ∧ ltE (upB w c) x 0 = 0 ∧ ltV (upB w c) x 0 = ltV w x 0 + c ∧ I64 (ltV w x 0 + c)) := by
  have hcc : lcE x.length (w.map fun n => 2 * n) [⟨x, 0⟩] = lcE x.length w [⟨x, 0⟩] := by unfold lcE; rw [List.length_map]
  by_cases h : lcE x.length w [⟨x, 0⟩] = 0
  · obtain ⟨⟨n1, n2⟩, n3, _, _, _⟩ := lcE_ok.1 h
    obtain ⟨n, hn⟩ : ∃ n, x.length = n := ⟨_, rfl⟩
    rw [hn] at n1 n2 n3
    have hwl : n + 1 = w.length := by omega
    have mw : ∀ k, k < w.length → (w.getD k 0).natAbs ≤ 1048576 := fun k hk => hw _ (by rw [List.getD_eq_getElem?_getD, List.getElem?_eq_getElem hk, Option.getD_some]; exact List.getElem_mem _)
    have mx : ∀ k, k < x.length → (x.getD k 0).natAbs ≤ 1048576 := fun k hk => hx _ (by rw [List.getD_eq_getElem?_getD, List.getElem?_eq_getElem hk, Option.getD_some]; exact List.getElem_mem _)
    have g2 : ∀ k, k < w.length → (w.map fun n => 2 * n).getD k 0 = 2 * w.getD k 0 := fun k hk => by
      rw [List.getD_eq_getElem?_getD, List.getElem?_map, List.getD_eq_getElem?_getD, List.getElem?_eq_getElem hk]; rfl
    have hl16 : ((w.take n).length : Int) ≤ 16 := by rw [List.length_take]; omega
    obtain ⟨a1, a2, a3, a4⟩ := dot_mk (xs := w.take n) (ys := x) (m := 0) (by decide) (by rw [List.length_take]; omega) (by rw [List.length_take]; omega) (A := 1048576) (C := 1048576) (by decide) fun k hk => by
      rw [List.length_take] at hk
      rw [take_getD (by omega)]
      exact ⟨mw k (by omega), mx k (by omega)⟩
    obtain ⟨b1, b2, b3, b4⟩ := dot_mk (xs := (w.map fun n => 2 * n).take n) (ys := x) (m := 0) (by decide) (by rw [List.length_take, List.length_map]; omega) (by rw [List.length_take, List.length_map]; omega) (A := 2097152) (C := 1048576) (by decide) fun k hk => by
      rw [List.length_take, List.length_map] at hk
      rw [take_getD (by omega), g2 k (by omega)]
      have := mw k (by omega)
      exact ⟨by omega, mx k (by omega)⟩
    have hm1 : ((1048576 * 1048576 : Nat) : Int) * ((w.take n).length : Int) ≤ 1099511627776 * 16 := Int.mul_le_mul (by decide) hl16 (by omega) (by decide)
    have hdd : dotV ((w.map fun n => 2 * n).take n) x 0 = 2 * dotV (w.take n) x 0 := by
      rw [show (0 : Int) = ((0 : Nat) : Int) from rfl, a2, b2]
      have hlen : ((w.map fun n => 2 * n).take n).length = (w.take n).length := by rw [List.length_take, List.length_take, List.length_map]
      rw [hlen]
      have hs : ∀ j, j ≤ (w.take n).length → sm (fun k => ((w.map fun n => 2 * n).take n).getD k 0 * x.getD k 0 / 2 ^ 0) j = 2 * sm (fun k => (w.take n).getD k 0 * x.getD k 0 / 2 ^ 0) j := by
        intro j
        induction j with
        | zero => intro _; rfl
        | succ j ih =>
          intro hj
          rw [List.length_take] at hj
          have ih := ih (by rw [List.length_take]; omega)
          rw [sm, sm, ih, take_getD (by omega), take_getD (by omega), g2 j (by omega)]
          simp only [Int.pow_zero, Int.ediv_one]
          rw [Int.mul_assoc]
          omega
      exact hs _ (Nat.le_refl _)
    have hb := mw n (by omega)
    have t1 := upB_take (c := c) hwl
    have t2 := upB_at (c := c) hwl
    have a1' : dotE (w.take n) x 0 = 0 := a1
    have b1' : dotE ((w.map fun n => 2 * n).take n) x 0 = 0 := b1
    have a3' : -(((1048576 * 1048576 : Nat) : Int) * ((w.take n).length : Int)) ≤ dotV (w.take n) x 0 := a3
    have a4' : dotV (w.take n) x 0 ≤ ((1048576 * 1048576 : Nat) : Int) * ((w.take n).length : Int) := a4
    have e1 : ltE w x 0 = 0 := ltE_ok.2 ⟨h, by rw [hn]; exact a1', by rw [hn]; unfold I64; omega⟩
    have e2 : ltE (w.map fun n => 2 * n) x 0 = 0 := ltE_ok.2 ⟨by rw [hcc]; exact h, by rw [hn]; exact b1', by rw [hn, hdd, g2 n (by omega)]; unfold I64; omega⟩
    have e3 : ltE (upB w c) x 0 = 0 := ltE_ok.2 ⟨lc_one (n := n) (by omega) (by omega) (by omega) (by rw [upB_len]; omega), by rw [hn, t1]; exact a1', by rw [hn, t1, t2]; unfold I64; omega⟩
    have v1 : ltV w x 0 = dotV (w.take n) x 0 + w.getD n 0 := by unfold ltV; rw [if_pos e1, hn]
    have v2 : ltV (w.map fun n => 2 * n) x 0 = 2 * dotV (w.take n) x 0 + 2 * w.getD n 0 := by unfold ltV; rw [if_pos e2, hn, hdd, g2 n (by omega)]
    have v3 : ltV (upB w c) x 0 = dotV (w.take n) x 0 + (w.getD n 0 + c) := by unfold ltV; rw [if_pos e3, hn, t1, t2]
    refine ⟨by rw [e1, e2], fun _ => ⟨by omega, by rw [v1, v2]; omega, by rw [v1]; unfold I64; omega, e3, by rw [v1, v3]; omega, by rw [v1]; unfold I64; omega⟩⟩
  · have e1 : ltE w x 0 = lcE x.length w [⟨x, 0⟩] := by unfold ltE; rw [if_pos h]
    have e2 : ltE (w.map fun n => 2 * n) x 0 = lcE x.length w [⟨x, 0⟩] := by unfold ltE; rw [hcc, if_pos h]
    exact ⟨by rw [e1, e2], fun h9 => absurd (e1.symm.trans h9) h⟩
end Go.Proofs.Ytcjkofcgphcjnaa
