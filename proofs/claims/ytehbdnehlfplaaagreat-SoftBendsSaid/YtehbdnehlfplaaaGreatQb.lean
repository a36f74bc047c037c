
/- Qb: texts joined: Mul VecC Vec Vec2 Vec3 Vec4 RefA RefB VecR VecS VecT VecU VecM VecN VecO LnM ArgX LnA LnF LnN LnO SoM SfA SfB LnB SfC Div64 RefC SoN LpA LpB LnC SfH. -/
import Derived.Test.YtehbdnehlfplaaaGreatQFixB
import Derived.Test.YtehbdnehlfplaaaGreatQa
import Derived.Deep.QuietTactic
import Derived.BigQuiet
import Derived.Outline
import Derived.StillTailTactics
import Derived.Deep.RegionHeld3
import Derived.Deep.Slices
import Derived.ChangeSame
import Derived.Deep.CutRange
import Derived.Deep.CutBlock
import Derived.Lib.BitFns
import Derived.Lib.ItoaNum
namespace Go.Proofs.YtehbdnehlfplaaaGreat
open Go.RowKit
set_option maxHeartbeats 400000
set_option maxRecDepth 100000
set_option linter.unusedVariables false
theorem behind_yes (n : Int) (h1 : 0 ≤ n) (h2 : n ≤ 30) (w : World) :
    Calls Tryz.prog 71 #[.int .i64 n] w fun e w' => e = .returned (.bool true) ∧ w = w' := by
  go_enter Tryz.func71, Tryz.ntmps71
  go_wp2
  go_ret
  exact ⟨by simp, rfl⟩
theorem behind_no (n : Int) (h : n < 0 ∨ 30 < n) (w : World) :
    Calls Tryz.prog 71 #[.int .i64 n] w fun e w' => e = .returned (.bool false) ∧ w = w' := by
  by_cases h1 : n < 0
  · clear h
    go_enter Tryz.func71, Tryz.ntmps71
    go_wp2
    go_ret
    exact ⟨by simp, rfl⟩
  · have h2 : 30 < n := by omega
    clear h
    go_enter Tryz.func71, Tryz.ntmps71
    go_wp2
    go_ret
    exact ⟨by simp; omega, rfl⟩
theorem i128_mul {a b : Int} (ha : I64 a) (hb : I64 b) : I128 (a * b) := by
  unfold I64 at ha hb
  have h1 : (a + 9223372036854775808) * (b + 9223372036854775808) ≥ 0 := Int.mul_nonneg (by omega) (by omega)
  have h2 : (9223372036854775808 - a) * (b + 9223372036854775808) ≥ 0 := Int.mul_nonneg (by omega) (by omega)
  have h3 : (9223372036854775808 - a) * (9223372036854775808 - b) ≥ 0 := Int.mul_nonneg (by omega) (by omega)
  have h4 : (a + 9223372036854775808) * (9223372036854775808 - b) ≥ 0 := Int.mul_nonneg (by omega) (by omega)
  simp only [Int.add_mul, Int.mul_add, Int.sub_mul, Int.mul_sub] at h1 h2 h3 h4
  unfold I128
  generalize a * b = p at *
  omega
theorem i128_div {s d : Int} (hs : I128 s) (hd : 1 ≤ d) : I128 (s / d) := by
  unfold I128 at *
  constructor
  · exact Int.le_ediv_of_mul_le (by omega) (by
      have := Int.mul_le_mul_of_nonneg_left hd (show (0:Int) ≤ 170141183460469231731687303715884105728 by decide)
      omega)
  · have : s / d < 170141183460469231731687303715884105728 := Int.ediv_lt_of_lt_mul (by omega) (by
      have := Int.mul_le_mul_of_nonneg_left hd (show (0:Int) ≤ 170141183460469231731687303715884105728 by decide)
      omega)
    omega
theorem i64_pow {k : Nat} (hk : k ≤ 30) : I64 (2 ^ k) ∧ (2 : Int) ^ k ≤ 1073741824 ∧ 1 ≤ (2 : Int) ^ k := by
  have h0 : (0 : Int) < 2 ^ k := Int.pow_pos (by decide)
  have h1 : (2 : Int) ^ k ≤ 2 ^ 30 := by exact_mod_cast Nat.pow_le_pow_right (show 0 < 2 by decide) hk
  unfold I64
  omega
theorem fix_Mul (a b : Int) (k : Nat) (hk : k ≤ 30) (ha : I64 a) (hb : I64 b) (w : World) :
    Calls Tryz.prog 54 #[.int .i64 a, .int .i64 b, .int .i64 k] w fun e w' => e = .returned (.tuple #[.int .i64 (ckV (a * b / 2 ^ k)), .int .i64 (ckE (a * b / 2 ^ k))]) ∧ Below w.heap.size w w' := by
  go_enter Tryz.func54, Tryz.ntmps54
  go_wp2_with fail
  refine (behind_yes _ (by omega) (by omega) _).mono ?_
  rintro e w' ⟨rfl, rfl⟩
  go_wp2_with fail
  refine (fix_times _ _ ha hb _).mono ?_
  rintro e w1 ⟨rfl, hb1⟩
  go_wp2_with fail
  refine (fix_shift _ k (i128_mul ha hb) hk _).mono ?_
  rintro e w2 ⟨rfl, hb2⟩
  go_wp2_with fail
  refine (fix_number _ (i128_div (i128_mul ha hb) (i64_pow hk).2.2) _).mono ?_
  rintro e w3 ⟨rfl, hb3⟩
  go_wp2_with fail
  go_ret2
  exact ⟨rfl, (hb1.trans (hb2.mono hb1.size)).trans (hb3.mono (Nat.le_trans hb1.size hb2.size))⟩
theorem Mul_bad (a b n : Int) (h : n < 0 ∨ 30 < n) (w : World) :
    Calls Tryz.prog 54 #[.int .i64 a, .int .i64 b, .int .i64 n] w fun e w' => e = .returned (.tuple #[.int .i64 0, .int .i64 1]) ∧ Below w.heap.size w w' := by
  go_enter Tryz.func54, Tryz.ntmps54
  go_wp2_with fail
  refine (behind_no _ h _).mono ?_
  rintro e w' ⟨rfl, rfl⟩
  go_wp2_with fail
  go_ret2
  exact ⟨rfl, Below.refl _ _⟩
end Go.Proofs.YtehbdnehlfplaaaGreat
/- The function values that vec hands on: each number by its place. -/
namespace Go.Proofs.YtehbdnehlfplaaaGreat
open Go.RowKit
set_option maxHeartbeats 400000
set_option maxRecDepth 100000
set_option linter.unusedVariables false
theorem add_cl {pa pb k : Nat} {A B : Option Addr} {c d : Nat} {w : World} {x y : Int} (xs ys : List Int)
    (ha : w.cell? ⟨pa, 0, none⟩ = some (.slice A xs.length c)) (hb : w.cell? ⟨pb, 0, none⟩ = some (.slice B ys.length d)) {L M : Nat}
    (ra : Rd (Value.int .i64) w L A xs) (rb : Rd (Value.int .i64) w M B ys) (hx : xs[k]? = some x) (hy : ys[k]? = some y) (ix : I64 x) (iy : I64 y) :
    Calls Tryz.prog 76 (#[.int .i64 k] ++ #[.pointer (some ⟨pa, 0, none⟩), .pointer (some ⟨pb, 0, none⟩)]) w fun e w' => e = .returned (.tuple #[.int .i64 (ckV (x + y)), .int .i64 (ckE (x + y))]) ∧ Below w.heap.size w w' := by
  obtain ⟨b1, o1, rfl, _, c1⟩ := ra k x hx
  obtain ⟨b2, o2, rfl, _, c2⟩ := rb k y hy
  have l1 : k < xs.length := (List.getElem?_eq_some_iff.1 hx).1
  have l2 : k < ys.length := (List.getElem?_eq_some_iff.1 hy).1
  have C := fun W => fix_Add x y ix iy W
  clear ra rb hx hy
  have C' := hid C
  clear C
  go_enter Tryz.func76, Tryz.ntmps76
  go_wp2_with fail
  go_quiet ((go_at_call 66; exact quietL C'.out _))
  go_wp2_with fail
  go_ret2
  exact ⟨rfl, belowN _ _ _⟩
theorem scale_cl {pa pb pc k : Nat} {A : Option Addr} {c : Nat} {w : World} {x by_ m v er : Int} (xs : List Int)
    (ha : w.cell? ⟨pa, 0, none⟩ = some (.slice A xs.length c)) (hb : w.cell? ⟨pb, 0, none⟩ = some (.int .i64 by_)) (hc : w.cell? ⟨pc, 0, none⟩ = some (.int .i64 m)) {L : Nat}
    (ra : Rd (Value.int .i64) w L A xs) (hx : xs[k]? = some x) (C : ∀ W, Calls Tryz.prog 54 #[.int .i64 x, .int .i64 by_, .int .i64 m] W fun r W' => r = .returned (.tuple #[.int .i64 v, .int .i64 er]) ∧ Below W.heap.size W W') :
    Calls Tryz.prog 53 (#[.int .i64 k] ++ #[.pointer (some ⟨pa, 0, none⟩), .pointer (some ⟨pb, 0, none⟩), .pointer (some ⟨pc, 0, none⟩)]) w fun e w' => e = .returned (.tuple #[.int .i64 v, .int .i64 er]) ∧ Below w.heap.size w w' := by
  obtain ⟨b1, o1, rfl, _, c1⟩ := ra k x hx
  have l1 : k < xs.length := (List.getElem?_eq_some_iff.1 hx).1
  clear ra hx
  have C' := hid C
  clear C
  go_enter Tryz.func53, Tryz.ntmps53
  go_wp2_with fail
  have la := lt_of_cell ha
  have lb := lt_of_cell hb
  have lc := lt_of_cell hc
  have lx := lt_of_cell c1
  go_region_held3 (fun w' => w'.cell? ⟨pa, 0, none⟩ = some (.slice (some ⟨b1, o1, none⟩) xs.length c) ∧ w'.cell? ⟨b1, o1 + k, none⟩ = some (.int .i64 x) ∧ w'.cell? ⟨pb, 0, none⟩ = some (.int .i64 by_) ∧ w'.cell? ⟨pc, 0, none⟩ = some (.int .i64 m) ∧ Below w.heap.size w w') (first | exact ⟨ha, c1, hb, hc, (Below.refl _ _).drew⟩ | (have hk := below_step ((Below.refl _ _).drew) hb1 (Nat.le_refl _); exact ⟨(hk.cell la).trans ha, (hk.cell lx).trans c1, (hk.cell lb).trans hb, (hk.cell lc).trans hc, hk⟩) | go_keep)
    (first | (go_at_call 54; refine (C'.out _).mono ?_; rintro e w1 ⟨rfl, hb1⟩))
  go_wp2_with fail
  go_ret2
  exact ⟨rfl, below_step ((Below.refl _ _).drew) hb1 (Nat.le_refl _)⟩
theorem dot_cl {pa pb pc k : Nat} {A B : Option Addr} {c d : Nat} {w : World} {x y m v er : Int} (xs ys : List Int)
    (ha : w.cell? ⟨pa, 0, none⟩ = some (.slice A xs.length c)) (hb : w.cell? ⟨pb, 0, none⟩ = some (.slice B ys.length d)) (hc : w.cell? ⟨pc, 0, none⟩ = some (.int .i64 m)) {L M : Nat}
    (ra : Rd (Value.int .i64) w L A xs) (rb : Rd (Value.int .i64) w M B ys) (hx : xs[k]? = some x) (hy : ys[k]? = some y) (C : ∀ W, Calls Tryz.prog 54 #[.int .i64 x, .int .i64 y, .int .i64 m] W fun r W' => r = .returned (.tuple #[.int .i64 v, .int .i64 er]) ∧ Below W.heap.size W W') :
    Calls Tryz.prog 89 (#[.int .i64 k] ++ #[.pointer (some ⟨pa, 0, none⟩), .pointer (some ⟨pb, 0, none⟩), .pointer (some ⟨pc, 0, none⟩)]) w fun e w' => e = .returned (.tuple #[.int .i64 v, .int .i64 er]) ∧ Below w.heap.size w w' := by
  obtain ⟨b1, o1, rfl, _, c1⟩ := ra k x hx
  obtain ⟨b2, o2, rfl, _, c2⟩ := rb k y hy
  have l1 : k < xs.length := (List.getElem?_eq_some_iff.1 hx).1
  have l2 : k < ys.length := (List.getElem?_eq_some_iff.1 hy).1
  clear ra hx rb hy
  have C' := hid C
  clear C
  go_enter Tryz.func89, Tryz.ntmps89
  go_wp2_with fail
  have la := lt_of_cell ha
  have lb := lt_of_cell hb
  have lc := lt_of_cell hc
  have lx := lt_of_cell c1
  have ly := lt_of_cell c2
  go_region_held3 (fun w' => w'.cell? ⟨pa, 0, none⟩ = some (.slice (some ⟨b1, o1, none⟩) xs.length c) ∧ w'.cell? ⟨b1, o1 + k, none⟩ = some (.int .i64 x) ∧ w'.cell? ⟨pb, 0, none⟩ = some (.slice (some ⟨b2, o2, none⟩) ys.length d) ∧ w'.cell? ⟨b2, o2 + k, none⟩ = some (.int .i64 y) ∧ w'.cell? ⟨pc, 0, none⟩ = some (.int .i64 m) ∧ Below w.heap.size w w') (first | exact ⟨ha, c1, hb, c2, hc, (Below.refl _ _).drew⟩ | (have hk := below_step ((Below.refl _ _).drew) hb1 (Nat.le_refl _); exact ⟨(hk.cell la).trans ha, (hk.cell lx).trans c1, (hk.cell lb).trans hb, (hk.cell ly).trans c2, (hk.cell lc).trans hc, hk⟩) | go_keep)
    (first | (go_at_call 54; refine (C'.out _).mono ?_; rintro e w1 ⟨rfl, hb1⟩))
  go_wp2_with fail
  go_ret2
  exact ⟨rfl, below_step ((Below.refl _ _).drew) hb1 (Nat.le_refl _)⟩
theorem size_cl {pa k : Nat} {A : Option Addr} {c : Nat} {w : World} {x : Int} (xs : List Int)
    (ha : w.cell? ⟨pa, 0, none⟩ = some (.slice A xs.length c)) {L : Nat} (ra : Rd (Value.int .i64) w L A xs) (hx : xs[k]? = some x) (ix : I64 x) :
    Calls Tryz.prog 92 (#[.int .i64 k] ++ #[.pointer (some ⟨pa, 0, none⟩)]) w fun e w' => e = .returned (.tuple #[.int .i64 (ckV (absI x)), .int .i64 (ckE (absI x))]) ∧ Below w.heap.size w w' := by
  obtain ⟨b1, o1, rfl, _, c1⟩ := ra k x hx
  have l1 : k < xs.length := (List.getElem?_eq_some_iff.1 hx).1
  have C := fun W => fix_Abs x ix W
  clear ra hx
  have C' := hid C
  clear C
  go_enter Tryz.func92, Tryz.ntmps92
  go_wp2_with fail
  refine (C'.out _).mono ?_
  rintro _ _ ⟨rfl, rfl⟩
  go_wp2_with fail
  go_ret2
  exact ⟨rfl, Below.refl _ _⟩
theorem add_ok (args : Array Value) (W : World) : (callFunc 76 args).run Tryz.prog W = .ok (.enter 76 args) W := cl_enter 76 (by kernel_rfl) args W
theorem scale_ok (args : Array Value) (W : World) : (callFunc 53 args).run Tryz.prog W = .ok (.enter 53 args) W := cl_enter 53 (by kernel_rfl) args W
theorem dot_ok (args : Array Value) (W : World) : (callFunc 89 args).run Tryz.prog W = .ok (.enter 89 args) W := cl_enter 89 (by kernel_rfl) args W
theorem size_ok (args : Array Value) (W : World) : (callFunc 92 args).run Tryz.prog W = .ok (.enter 92 args) W := cl_enter 92 (by kernel_rfl) args W
end Go.Proofs.YtehbdnehlfplaaaGreat
/- vec's functions, each by its contract. -/
namespace Go.Proofs.YtehbdnehlfplaaaGreat
open Go.RowKit
set_option maxHeartbeats 400000
set_option maxRecDepth 100000
set_option linter.unusedVariables false
/-- What stands in the way of two vectors. -/
def twoE (n m : Nat) : Int := if 4096 < n ∨ 4096 < m then 3 else if n = m then 0 else 4
def oneE (n : Nat) : Int := if 4096 < n then 3 else 0
theorem Check_any (A : Option Addr) (n c : Nat) (hn : n ≤ 9223372036854775807) (w : World) :
    Calls Tryz.prog 50 #[.slice A n c] w fun e w' => e = .returned (.int .i64 (oneE n)) ∧ w = w' := by
  by_cases h : 4096 < n
  · have e1 : oneE n = 3 := if_pos h
    rw [e1]
    clear e1
    go_enter Tryz.func50, Tryz.ntmps50
    go_wp2
    go_ret
    exact ⟨rfl, rfl⟩
  · have e1 : oneE n = 0 := if_neg h
    rw [e1]
    clear e1
    go_enter Tryz.func50, Tryz.ntmps50
    go_wp2
    go_ret
    exact ⟨rfl, rfl⟩
theorem match_any (A B : Option Addr) (n m c d : Nat) (hn : n ≤ 9223372036854775807) (hm : m ≤ 9223372036854775807) (w : World) :
    Calls Tryz.prog 75 #[.slice A n c, .slice B m d] w fun e w' => e = .returned (.int .i64 (twoE n m)) ∧ w = w' := by
  have C1 := hid (Check_any A n c hn)
  have C2 := hid (Check_any B m d hm)
  by_cases h1 : 4096 < n
  · have e1 : twoE n m = 3 := if_pos (Or.inl h1)
    have e2 : oneE n = 3 := if_pos h1
    rw [e2] at C1
    rw [e1]
    clear e1 e2
    go_enter Tryz.func75, Tryz.ntmps75
    go_wp2_with fail
    refine (C1.out _).mono ?_
    rintro _ _ ⟨rfl, rfl⟩
    go_wp2_with fail
    go_ret
    exact ⟨rfl, rfl⟩
  · have e2 : oneE n = 0 := if_neg h1
    rw [e2] at C1
    clear e2
    by_cases h2 : 4096 < m
    · have e1 : twoE n m = 3 := if_pos (Or.inr h2)
      have e2 : oneE m = 3 := if_pos h2
      rw [e2] at C2
      rw [e1]
      clear e1 e2
      go_enter Tryz.func75, Tryz.ntmps75
      go_wp2_with fail
      refine (C1.out _).mono ?_
      rintro _ _ ⟨rfl, rfl⟩
      go_wp2_with fail
      refine (C2.out _).mono ?_
      rintro _ _ ⟨rfl, rfl⟩
      go_wp2_with fail
      go_ret
      exact ⟨rfl, rfl⟩
    · have e2 : oneE m = 0 := if_neg h2
      rw [e2] at C2
      clear e2
      by_cases h3 : n = m
      · subst h3
        have e1 : twoE n n = 0 := by unfold twoE; rw [if_neg (by omega), if_pos rfl]
        rw [e1]
        clear e1
        go_enter Tryz.func75, Tryz.ntmps75
        go_wp2_with fail
        refine (C1.out _).mono ?_
        rintro _ _ ⟨rfl, rfl⟩
        go_wp2_with fail
        refine (C2.out _).mono ?_
        rintro _ _ ⟨rfl, rfl⟩
        go_wp2_with fail
        go_ret
        exact ⟨rfl, rfl⟩
      · have e1 : twoE n m = 4 := by unfold twoE; rw [if_neg (by omega), if_neg h3]
        rw [e1]
        have h4 : ((n : Int) != (m : Int)) = true := by simp; omega
        have h5 : (n != m) = true := by simp; omega
        clear e1
        go_enter Tryz.func75, Tryz.ntmps75
        go_wp2_with fail
        refine (C1.out _).mono ?_
        rintro _ _ ⟨rfl, rfl⟩
        go_wp2_with fail
        refine (C2.out _).mono ?_
        rintro _ _ ⟨rfl, rfl⟩
        go_wp2_with fail
        go_ret
        exact ⟨rfl, rfl⟩
def numV2 (f : Int → Int → Int) (xs ys : List Int) (k : Nat) : Int × Int := (ckV (f (xs.getD k 0) (ys.getD k 0)), ckE (f (xs.getD k 0) (ys.getD k 0)))
/-- Two vectors, number by number: the error, and the vector. -/
def opE (f : Int → Int → Int) (xs ys : List Int) : Int := if twoE xs.length ys.length = 0 then seqE (numV2 f xs ys) xs.length else twoE xs.length ys.length
def opV (f : Int → Int → Int) (xs ys : List Int) : List Int := if twoE xs.length ys.length = 0 then seqV (numV2 f xs ys) xs.length else []
theorem twoE_ok {n m : Nat} (h : twoE n m = 0) : n ≤ 4096 ∧ m = n := by
  unfold twoE at h
  split at h
  · cases h
  · split at h
    · omega
    · cases h
theorem OwnInts.onto {xs : List Int} {er : Int} {w wl w' : World} {e : Ending} (h : OwnInts xs er wl e w') (hb : Below w.heap.size w wl) : OwnInts xs er w e w' := by
  obtain ⟨A, c, he, ho, hk⟩ := h
  exact ⟨A, c, he, own_base ho hb.size, hb.trans (hk.mono hb.size)⟩
theorem add_H {A B : Option Addr} {c d : Nat} (xs ys : List Int) (hl : ys.length = xs.length) (ix : I64s xs) (iy : I64s ys) (w : World)
    (ra : Rd (Value.int .i64) w w.heap.size A xs) (rb : Rd (Value.int .i64) w w.heap.size B ys) (k : Nat) (hk : k < xs.length) (W : World)
    (hW : Below ((w.alloc (.cells #[.slice A xs.length c] 22)).alloc (.cells #[.slice B ys.length d] 22)).heap.size ((w.alloc (.cells #[.slice A xs.length c] 22)).alloc (.cells #[.slice B ys.length d] 22)) W) :
    Calls Tryz.prog 76 (#[.int .i64 k] ++ #[.pointer (some ⟨w.heap.size, 0, none⟩), .pointer (some ⟨w.heap.size + 1, 0, none⟩)]) W fun e w' => e = .returned (.tuple #[.int .i64 (numV2 (· + ·) xs ys k).1, .int .i64 (numV2 (· + ·) xs ys k).2]) ∧ Below W.heap.size W w' := by
  obtain ⟨ca, cb, hb⟩ := two_cells w (.slice A xs.length c) (.slice B ys.length d) 22 22
  obtain ⟨_, _, x, _, _, hx, _⟩ := ra.at_ hk
  obtain ⟨_, _, y, _, _, hy, _⟩ := rb.at_ (show k < ys.length by omega)
  have hB := hb.trans (hW.mono hb.size)
  have h := add_cl xs ys (cell_later hW ca) (cell_later hW cb) (ra.below hB) (rb.below hB) hx hy (ix.at_ hx) (iy.at_ hy)
  unfold numV2
  rw [getD_of hx, getD_of hy]
  exact h
theorem Add_any {A B : Option Addr} {c d : Nat} (xs ys : List Int) (hx : xs.length ≤ 9223372036854775807) (hy : ys.length ≤ 9223372036854775807) (ix : I64s xs) (iy : I64s ys) (w : World)
    (ra : Rd (Value.int .i64) w w.heap.size A xs) (rb : Rd (Value.int .i64) w w.heap.size B ys) :
    Calls Tryz.prog 56 #[.slice A xs.length c, .slice B ys.length d] w (OwnInts (opV (· + ·) xs ys) (opE (· + ·) xs ys) w) := by
  have CM := hid (match_any A B xs.length ys.length c d hx hy)
  by_cases ht : twoE xs.length ys.length = 0
  · have e1 : opE (· + ·) xs ys = seqE (numV2 (· + ·) xs ys) xs.length := if_pos ht
    have e2 : opV (· + ·) xs ys = seqV (numV2 (· + ·) xs ys) xs.length := if_pos ht
    rw [e1, e2]
    obtain ⟨hn, hl⟩ := twoE_ok ht
    have hH := add_H (c := c) (d := d) xs ys hl ix iy w ra rb
    have hL := hid (list_any _ _ xs.length hn _ (numV2 (· + ·) xs ys) add_ok hH)
    have hll := hid hl
    rw [ht] at CM
    clear e1 e2 hH ix iy ra rb hl ht
    go_enter Tryz.func56, Tryz.ntmps56
    go_wp2_with fail
    refine (CM.out _).mono ?_
    rintro _ _ ⟨rfl, rfl⟩
    go_wp2_with fail
    refine hL.out.mono ?_
    rintro _ w1 ⟨A', c', rfl, ho, hb⟩
    go_wp2_with fail
    go_ret2
    have hb0 := (two_cells w (.slice A xs.length c) (.slice B ys.length d) 22 22).2.2
    exact OwnInts.onto ⟨A', c', rfl, ho, hb⟩ hb0
  · have e1 : opE (· + ·) xs ys = twoE xs.length ys.length := if_neg ht
    have e2 : opV (· + ·) xs ys = [] := if_neg ht
    rw [e1, e2]
    clear e1 e2
    obtain ⟨t, hte⟩ : ∃ t, twoE xs.length ys.length = t := ⟨_, rfl⟩
    rw [hte] at ht CM ⊢
    have hne : (t != 0) = true := by simpa using ht
    clear ra rb ix iy hte ht
    go_enter Tryz.func56, Tryz.ntmps56
    go_wp2_with fail
    refine (CM.out _).mono ?_
    rintro _ _ ⟨rfl, rfl⟩
    go_wp2_with fail
    go_ret2
    exact ⟨none, 0, rfl, own_nil _ _ _, (two_cells w _ _ _ _).2.2⟩
/-- A product with so many bits behind the point: the number, and the error. -/
def mulV (a b m : Int) : Int := if m < 0 ∨ 30 < m then 0 else ckV (a * b / 2 ^ m.toNat)
def mulE (a b m : Int) : Int := if m < 0 ∨ 30 < m then 1 else ckE (a * b / 2 ^ m.toNat)
def behE (m : Int) : Int := if m < 0 ∨ 30 < m then 1 else 0
theorem fix_mul (a b m : Int) (ha : I64 a) (hb : I64 b) (w : World) :
    Calls Tryz.prog 54 #[.int .i64 a, .int .i64 b, .int .i64 m] w fun r W' => r = .returned (.tuple #[.int .i64 (mulV a b m), .int .i64 (mulE a b m)]) ∧ Below w.heap.size w W' := by
  by_cases h : m < 0 ∨ 30 < m
  · rw [show mulV a b m = 0 from if_pos h, show mulE a b m = 1 from if_pos h]
    exact Mul_bad a b m h w
  · rw [show mulV a b m = ckV (a * b / 2 ^ m.toNat) from if_neg h, show mulE a b m = ckE (a * b / 2 ^ m.toNat) from if_neg h]
    obtain ⟨k, rfl⟩ := Int.eq_ofNat_of_zero_le (show 0 ≤ m by omega)
    exact fix_Mul a b k (by omega) ha hb w
theorem vec_behind (m : Int) (w : World) :
    Calls Tryz.prog 51 #[.int .i64 m] w fun r W' => r = .returned (.int .i64 (behE m)) ∧ Below w.heap.size w W' := by
  have C := hid (fix_mul 0 0 m (by decide) (by decide))
  have e : mulE 0 0 m = behE m := by
    unfold mulE behE
    split
    · rfl
    · rw [Int.zero_mul, Int.zero_ediv]; decide
  rw [e] at C
  clear e
  go_enter Tryz.func51, Tryz.ntmps51
  go_wp2_with fail
  refine (C.out _).mono ?_
  rintro _ w1 ⟨rfl, hb1⟩
  go_wp2_with fail
  go_ret
  exact ⟨rfl, hb1⟩
def bndE (n : Nat) (q : Int) : Int := if 4096 < n then 3 else q
def unE (q : Int) (num : Nat → Int × Int) (n : Nat) : Int := if bndE n q = 0 then seqE num n else bndE n q
def unV (q : Int) (num : Nat → Int × Int) (n : Nat) : List Int := if bndE n q = 0 then seqV num n else []
theorem un_long {n : Nat} (h : 4096 < n) (q : Int) (num : Nat → Int × Int) : unE q num n = 3 ∧ unV q num n = [] := by
  have e : bndE n q = 3 := if_pos h
  unfold unE unV
  rw [e]
  exact ⟨rfl, rfl⟩
theorem un_bad {n : Nat} (h : ¬ 4096 < n) {q : Int} (hq : q ≠ 0) (num : Nat → Int × Int) : unE q num n = q ∧ unV q num n = [] := by
  have e : bndE n q = q := if_neg h
  unfold unE unV
  rw [e, if_neg hq, if_neg hq]
  exact ⟨rfl, rfl⟩
theorem un_ok {n : Nat} (h : ¬ 4096 < n) (num : Nat → Int × Int) : unE 0 num n = seqE num n ∧ unV 0 num n = seqV num n := by
  have e : bndE n 0 = 0 := if_neg h
  unfold unE unV
  rw [e]
  exact ⟨rfl, rfl⟩
def numS (xs : List Int) (b m : Int) (k : Nat) : Int × Int := (mulV (xs.getD k 0) b m, mulE (xs.getD k 0) b m)
def numA (xs : List Int) (k : Nat) : Int × Int := (ckV (absI (xs.getD k 0)), ckE (absI (xs.getD k 0)))
def numD (xs ys : List Int) (m : Int) (k : Nat) : Int × Int := (mulV (xs.getD k 0) (ys.getD k 0) m, mulE (xs.getD k 0) (ys.getD k 0) m)
theorem three_cells (w : World) (u v x : Value) (t s r : TypeId) :
    (((w.alloc (.cells #[u] t)).alloc (.cells #[v] s)).alloc (.cells #[x] r)).cell? ⟨w.heap.size, 0, none⟩ = some u ∧ (((w.alloc (.cells #[u] t)).alloc (.cells #[v] s)).alloc (.cells #[x] r)).cell? ⟨w.heap.size + 1, 0, none⟩ = some v ∧
      (((w.alloc (.cells #[u] t)).alloc (.cells #[v] s)).alloc (.cells #[x] r)).cell? ⟨w.heap.size + 1 + 1, 0, none⟩ = some x ∧ Below w.heap.size w (((w.alloc (.cells #[u] t)).alloc (.cells #[v] s)).alloc (.cells #[x] r)) := by
  refine ⟨?_, ?_, ?_, by go_grown⟩ <;> simp [go_sem]
theorem scale_H {A : Option Addr} {c : Nat} (xs : List Int) (ix : I64s xs) (b m : Int) (hb : I64 b) (w : World) (ra : Rd (Value.int .i64) w w.heap.size A xs) (wb wl : World)
    (ca : wb.cell? ⟨w.heap.size, 0, none⟩ = some (.slice A xs.length c)) (cb : wb.cell? ⟨w.heap.size + 1, 0, none⟩ = some (.int .i64 b)) (cm : wb.cell? ⟨w.heap.size + 1 + 1, 0, none⟩ = some (.int .i64 m)) (hwb : Below w.heap.size w wb) (hwl : Below wb.heap.size wb wl)
    (k : Nat) (hk : k < xs.length) (W : World) (hW : Below wl.heap.size wl W) :
    Calls Tryz.prog 53 (#[.int .i64 k] ++ #[.pointer (some ⟨w.heap.size, 0, none⟩), .pointer (some ⟨w.heap.size + 1, 0, none⟩), .pointer (some ⟨w.heap.size + 1 + 1, 0, none⟩)]) W fun e w' => e = .returned (.tuple #[.int .i64 (numS xs b m k).1, .int .i64 (numS xs b m k).2]) ∧ Below W.heap.size W w' := by
  obtain ⟨_, _, x, _, _, hx, _⟩ := ra.at_ hk
  have hw := hwl.trans (hW.mono hwl.size)
  have h := scale_cl xs (cell_later hw ca) (cell_later hw cb) (cell_later hw cm) (ra.below (hwb.trans (hw.mono hwb.size))) hx (fix_mul x b m (ix.at_ hx) hb)
  unfold numS
  rw [getD_of hx]
  exact h
theorem Scale_any {A : Option Addr} {c : Nat} (xs : List Int) (hx : xs.length ≤ 9223372036854775807) (ix : I64s xs) (b m : Int) (hb : I64 b) (w : World) (ra : Rd (Value.int .i64) w w.heap.size A xs) :
    Calls Tryz.prog 31 #[.slice A xs.length c, .int .i64 b, .int .i64 m] w (OwnInts (unV (behE m) (numS xs b m) xs.length) (unE (behE m) (numS xs b m) xs.length) w) := by
  have CM := hid (Check_any A xs.length c hx)
  have CB := hid (vec_behind m)
  obtain ⟨k1, k2, k3, hb0⟩ := three_cells w (.slice A xs.length c) (.int .i64 b) (.int .i64 m) 22 2 3
  by_cases hn : 4096 < xs.length
  · have e := un_long hn (behE m) (numS xs b m)
    rw [e.1, e.2]
    rw [show oneE xs.length = 3 from if_pos hn] at CM
    clear e ra ix k1 k2 k3
    have HB := hid hb0
    clear hb0
    go_enter Tryz.func31, Tryz.ntmps31
    go_wp2_with fail
    refine (CM.out _).mono ?_
    rintro _ _ ⟨rfl, rfl⟩
    go_wp2_with fail
    go_ret2
    exact ⟨none, 0, rfl, own_nil _ _ _, HB.out⟩
  · rw [show oneE xs.length = 0 from if_neg hn] at CM
    by_cases hq : behE m = 0
    · rw [hq] at CB ⊢
      have e := un_ok hn (numS xs b m)
      rw [e.1, e.2]
      have hH := hid (fun wl => scale_H xs ix b m hb w ra _ wl k1 k2 k3 hb0)
      have HB := hid hb0
      clear e hq k1 k2 k3 hb0 ix
      go_enter Tryz.func31, Tryz.ntmps31
      go_wp2_with fail
      refine (CM.out _).mono ?_
      rintro _ _ ⟨rfl, rfl⟩
      go_wp2_with fail
      refine (CB.out _).mono ?_
      rintro _ w1 ⟨rfl, hb1⟩
      obtain ⟨hc1, hf1⟩ := bcells hb1
      go_wp2_with fail
      refine (list_any _ _ xs.length (by omega) _ (numS xs b m) scale_ok (hH.out w1 hb1)).mono ?_
      rintro _ w2 ⟨A', c', rfl, ho, hb2⟩
      go_wp2_with fail
      go_ret2
      exact OwnInts.onto (OwnInts.onto ⟨A', c', rfl, ho, hb2⟩ hb1) HB.out
    · have e := un_bad hn hq (numS xs b m)
      rw [e.1, e.2]
      obtain ⟨q, hqe⟩ : ∃ q, behE m = q := ⟨_, rfl⟩
      rw [hqe] at hq CB ⊢
      have hne : (q != 0) = true := by simpa using hq
      have HB := hid hb0
      clear e hq k1 k2 k3 hb0 ix hqe ra
      go_enter Tryz.func31, Tryz.ntmps31
      go_wp2_with fail
      refine (CM.out _).mono ?_
      rintro _ _ ⟨rfl, rfl⟩
      go_wp2_with fail
      refine (CB.out _).mono ?_
      rintro _ w1 ⟨rfl, hb1⟩
      go_wp2_with fail
      go_ret2
      exact ⟨none, 0, rfl, own_nil _ _ _, HB.out.trans (hb1.mono HB.out.size)⟩
end Go.Proofs.YtehbdnehlfplaaaGreat
/- vec's functions, each by its contract: the others. -/
namespace Go.Proofs.YtehbdnehlfplaaaGreat
open Go.RowKit
set_option maxHeartbeats 400000
set_option maxRecDepth 100000
set_option linter.unusedVariables false
theorem seqV_i64 {num : Nat → Int × Int} {n : Nat} (h : ∀ k, k < n → I64 (num k).1) : I64s (seqV num n) := by
  unfold seqV
  split
  · intro x hx
    obtain ⟨k, hk, rfl⟩ := List.mem_map.1 hx
    exact h k (by simpa using hk)
  · intro x hx; simp at hx
theorem opV_i64 (f : Int → Int → Int) (xs ys : List Int) : I64s (opV f xs ys) := by
  unfold opV
  split
  · exact seqV_i64 fun k _ => ckV_i64 _
  · intro x hx; simp at hx
theorem mulV_i64 (a b m : Int) : I64 (mulV a b m) := by
  unfold mulV
  split
  · decide
  · exact ckV_i64 _
theorem seqV_len (num : Nat → Int × Int) (n : Nat) : (seqV num n).length ≤ n := by
  unfold seqV; split <;> simp
theorem unV_len (q : Int) (num : Nat → Int × Int) (n : Nat) : (unV q num n).length ≤ 4096 := by
  by_cases h : bndE n q = 0
  · rw [show unV q num n = seqV num n from if_pos h]
    have := seqV_len num n
    have : ¬ 4096 < n := fun hn => by rw [show bndE n q = 3 from if_pos hn] at h; cases h
    omega
  · rw [show unV q num n = [] from if_neg h]; simp
theorem opV_len (f : Int → Int → Int) (xs ys : List Int) : (opV f xs ys).length ≤ 4096 := by
  unfold opV
  split
  · rename_i h
    have := twoE_ok h
    have := seqV_len (numV2 f xs ys) xs.length
    omega
  · simp
/-- A product of two vectors: the number, and the error. -/
def dotE (xs ys : List Int) (m : Int) : Int := if twoE xs.length ys.length = 0 then (if behE m = 0 then (tot (numD xs ys m) xs.length).2 else behE m) else twoE xs.length ys.length
def dotV (xs ys : List Int) (m : Int) : Int := if twoE xs.length ys.length = 0 then (if behE m = 0 then (tot (numD xs ys m) xs.length).1 else 0) else 0
theorem dot_H {A B : Option Addr} {c d : Nat} (xs ys : List Int) (hl : ys.length = xs.length) (ix : I64s xs) (iy : I64s ys) (m : Int) (w : World) (ra : Rd (Value.int .i64) w w.heap.size A xs) (rb : Rd (Value.int .i64) w w.heap.size B ys) (wb wl : World)
    (ca : wb.cell? ⟨w.heap.size, 0, none⟩ = some (.slice A xs.length c)) (cb : wb.cell? ⟨w.heap.size + 1, 0, none⟩ = some (.slice B ys.length d)) (cm : wb.cell? ⟨w.heap.size + 1 + 1, 0, none⟩ = some (.int .i64 m)) (hwb : Below w.heap.size w wb) (hwl : Below wb.heap.size wb wl)
    (k : Nat) (hk : k < xs.length) (W : World) (hW : Below wl.heap.size wl W) :
    Calls Tryz.prog 89 (#[.int .i64 k] ++ #[.pointer (some ⟨w.heap.size, 0, none⟩), .pointer (some ⟨w.heap.size + 1, 0, none⟩), .pointer (some ⟨w.heap.size + 1 + 1, 0, none⟩)]) W fun e w' => e = .returned (.tuple #[.int .i64 (numD xs ys m k).1, .int .i64 (numD xs ys m k).2]) ∧ Below W.heap.size W w' := by
  obtain ⟨_, _, x, _, _, hx, _⟩ := ra.at_ hk
  obtain ⟨_, _, y, _, _, hy, _⟩ := rb.at_ (show k < ys.length by omega)
  have hw := hwl.trans (hW.mono hwl.size)
  have hB := hwb.trans (hw.mono hwb.size)
  have h := dot_cl xs ys (cell_later hw ca) (cell_later hw cb) (cell_later hw cm) (ra.below hB) (rb.below hB) hx hy (fix_mul x y m (ix.at_ hx) (iy.at_ hy))
  unfold numD
  rw [getD_of hx, getD_of hy]
  exact h
theorem Dot_any {A B : Option Addr} {c d : Nat} (xs ys : List Int) (hx : xs.length ≤ 9223372036854775807) (hy : ys.length ≤ 9223372036854775807) (ix : I64s xs) (iy : I64s ys) (m : Int) (w : World)
    (ra : Rd (Value.int .i64) w w.heap.size A xs) (rb : Rd (Value.int .i64) w w.heap.size B ys) :
    Calls Tryz.prog 65 #[.slice A xs.length c, .slice B ys.length d, .int .i64 m] w fun e w' => e = .returned (.tuple #[.int .i64 (dotV xs ys m), .int .i64 (dotE xs ys m)]) ∧ Below w.heap.size w w' := by
  have CM := hid (match_any A B xs.length ys.length c d hx hy)
  have CB := hid (vec_behind m)
  obtain ⟨k1, k2, k3, hb0⟩ := three_cells w (.slice A xs.length c) (.slice B ys.length d) (.int .i64 m) 22 22 3
  by_cases ht : twoE xs.length ys.length = 0
  · rw [show dotE xs ys m = if behE m = 0 then (tot (numD xs ys m) xs.length).2 else behE m from if_pos ht, show dotV xs ys m = if behE m = 0 then (tot (numD xs ys m) xs.length).1 else 0 from if_pos ht]
    obtain ⟨hn, hl⟩ := twoE_ok ht
    rw [ht] at CM
    by_cases hq : behE m = 0
    · rw [if_pos hq, if_pos hq]
      rw [hq] at CB
      have hH := hid (fun wl => dot_H xs ys hl ix iy m w ra rb _ wl k1 k2 k3 hb0)
      have hT := hid (fun W K => total_any _ K xs.length hn W (numD xs ys m) dot_ok (fun k _ => mulV_i64 _ _ _))
      have HB := hid hb0
      obtain ⟨s, hs⟩ : ∃ s, tot (numD xs ys m) xs.length = s := ⟨_, rfl⟩
      rw [hs] at hT ⊢
      have hll := hid hl
      clear hq k1 k2 k3 hb0 ix iy ra rb hs ht hl
      go_enter Tryz.func65, Tryz.ntmps65
      go_wp2_with fail
      refine (CM.out _).mono ?_
      rintro _ _ ⟨rfl, rfl⟩
      go_wp2_with fail
      refine (CB.out _).mono ?_
      rintro _ w1 ⟨rfl, hb1⟩
      obtain ⟨hc1, hf1⟩ := bcells hb1
      go_wp2_with fail
      refine (hT.out _ _ (hH.out w1 hb1)).mono ?_
      rintro _ w2 ⟨rfl, hb2⟩
      go_wp2_with fail
      go_ret2
      exact ⟨rfl, HB.out.trans ((hb1.trans (hb2.mono hb1.size)).mono HB.out.size)⟩
    · rw [if_neg hq, if_neg hq]
      obtain ⟨q, hqe⟩ : ∃ q, behE m = q := ⟨_, rfl⟩
      rw [hqe] at hq CB ⊢
      have hne : (q != 0) = true := by simpa using hq
      have HB := hid hb0
      have hll := hid hl
      clear hq k1 k2 k3 hb0 ix iy ra rb ht hqe hl
      go_enter Tryz.func65, Tryz.ntmps65
      go_wp2_with fail
      refine (CM.out _).mono ?_
      rintro _ _ ⟨rfl, rfl⟩
      go_wp2_with fail
      refine (CB.out _).mono ?_
      rintro _ w1 ⟨rfl, hb1⟩
      go_wp2_with fail
      go_ret2
      exact ⟨rfl, HB.out.trans (hb1.mono HB.out.size)⟩
  · rw [show dotE xs ys m = twoE xs.length ys.length from if_neg ht, show dotV xs ys m = 0 from if_neg ht]
    obtain ⟨t, hte⟩ : ∃ t, twoE xs.length ys.length = t := ⟨_, rfl⟩
    rw [hte] at ht CM ⊢
    have hne : (t != 0) = true := by simpa using ht
    have HB := hid hb0
    clear k1 k2 k3 hb0 ix iy ra rb ht hte
    go_enter Tryz.func65, Tryz.ntmps65
    go_wp2_with fail
    refine (CM.out _).mono ?_
    rintro _ _ ⟨rfl, rfl⟩
    go_wp2_with fail
    go_ret2
    exact ⟨rfl, HB.out⟩
def sizeE (xs : List Int) : Int := if 4096 < xs.length then 3 else (tot (numA xs) xs.length).2
def sizeV (xs : List Int) : Int := if 4096 < xs.length then 0 else (tot (numA xs) xs.length).1
theorem size_H {A : Option Addr} {c : Nat} (xs : List Int) (ix : I64s xs) (w : World) (ra : Rd (Value.int .i64) w w.heap.size A xs)
    (k : Nat) (hk : k < xs.length) (W : World) (hW : Below (w.alloc (.cells #[.slice A xs.length c] 22)).heap.size (w.alloc (.cells #[.slice A xs.length c] 22)) W) :
    Calls Tryz.prog 92 (#[.int .i64 k] ++ #[.pointer (some ⟨w.heap.size, 0, none⟩)]) W fun e w' => e = .returned (.tuple #[.int .i64 (numA xs k).1, .int .i64 (numA xs k).2]) ∧ Below W.heap.size W w' := by
  obtain ⟨_, _, x, _, _, hx, _⟩ := ra.at_ hk
  obtain ⟨ca, hb⟩ := one_cell w (.slice A xs.length c) 22
  have h := size_cl xs (cell_later hW ca) (ra.below (hb.trans (hW.mono hb.size))) hx (ix.at_ hx)
  unfold numA
  rw [getD_of hx]
  exact h
theorem Size_any {A : Option Addr} {c : Nat} (xs : List Int) (hx : xs.length ≤ 9223372036854775807) (ix : I64s xs) (w : World) (ra : Rd (Value.int .i64) w w.heap.size A xs) :
    Calls Tryz.prog 70 #[.slice A xs.length c] w fun e w' => e = .returned (.tuple #[.int .i64 (sizeV xs), .int .i64 (sizeE xs)]) ∧ Below w.heap.size w w' := by
  have CM := hid (Check_any A xs.length c hx)
  have HB := hid (one_cell w (.slice A xs.length c) 22).2
  by_cases hn : 4096 < xs.length
  · rw [show sizeE xs = 3 from if_pos hn, show sizeV xs = 0 from if_pos hn]
    rw [show oneE xs.length = 3 from if_pos hn] at CM
    clear ra ix
    go_enter Tryz.func70, Tryz.ntmps70
    go_wp2_with fail
    refine (CM.out _).mono ?_
    rintro _ _ ⟨rfl, rfl⟩
    go_wp2_with fail
    go_ret2
    exact ⟨rfl, HB.out⟩
  · rw [show sizeE xs = (tot (numA xs) xs.length).2 from if_neg hn, show sizeV xs = (tot (numA xs) xs.length).1 from if_neg hn]
    rw [show oneE xs.length = 0 from if_neg hn] at CM
    have hL := hid (total_any _ _ xs.length (by omega) _ (numA xs) size_ok (fun k _ => ckV_i64 _) (size_H (c := c) xs ix w ra))
    obtain ⟨s, hs⟩ : ∃ s, tot (numA xs) xs.length = s := ⟨_, rfl⟩
    rw [hs] at hL ⊢
    clear ra ix hs
    go_enter Tryz.func70, Tryz.ntmps70
    go_wp2_with fail
    refine (CM.out _).mono ?_
    rintro _ _ ⟨rfl, rfl⟩
    go_wp2_with fail
    refine hL.out.mono ?_
    rintro _ w2 ⟨rfl, hb2⟩
    go_wp2_with fail
    go_ret2
    exact ⟨rfl, HB.out.trans (hb2.mono HB.out.size)⟩
end Go.Proofs.YtehbdnehlfplaaaGreat
/- vec's functions, each by its contract: Same, Most, Zero, Sum, and what they take of package slices. -/
/- vec's Sum, by its contract. -/
namespace Go.Proofs.YtehbdnehlfplaaaGreat
open Go.RowKit
set_option maxHeartbeats 400000
set_option maxRecDepth 100000
set_option linter.unusedVariables false
/-- A call's answer: a list of numbers, in memory of the call's own; nothing that was there has turned. -/
def OwnList (xs : List Int) (w : World) (e : Ending) (w' : World) : Prop :=
  ∃ A c, e = .returned (.slice A xs.length c) ∧ w'.ownsRow w.heap.size 2 1 (.slice A xs.length c) xs.length (xs.map (Value.int .i64)) ∧ Below w.heap.size w w'
theorem Clone_any {A : Option Addr} {c : Nat} (xs : List Int) (hx : xs.length ≤ 1099511627776) (w : World) (ra : Rd (Value.int .i64) w w.heap.size A xs) :
    Calls Tryz.prog 55 #[.slice A xs.length c] w (OwnList xs w) := by
  have qT : ∀ (w : World) (a : Option Addr) (n c n' c' : Nat), (binOp .eql 22 (.slice a n c) (.slice none n' c')).run Tryz.prog w = .ok (.bool a.isNone) w := fun w a n c n' c' => Lib.run_eql_slice_nil w _ _ a n c n' c' Tryz.underlying22
  rcases A with _ | ad
  · have hxs : xs = [] := by
      cases xs with
      | nil => rfl
      | cons x xs =>
        obtain ⟨_, _, he, _⟩ := ra 0 x rfl
        cases he
    subst hxs
    clear ra
    go_enter Tryz.func55, Tryz.ntmps55
    go_wp2_with fail
    go_ret
    exact ⟨none, 0, rfl, own_nil _ _ _, Below.refl _ _⟩
  · have HA := hid ra
    clear ra
    go_enter Tryz.func55, Tryz.ntmps55
    have h0 : (w.alloc (.cells #[] 2)).ownsRow w.heap.size 2 1 (.slice (some ⟨w.heap.size, 0, none⟩) ([] : List Int).length 0) ([] : List Int).length (([] : List Int).map (Value.int .i64)) :=
      World.ownsRow_made w #[] 0 (Nat.le_refl _) (by unfold maxLen; omega) rfl
    have hr0 := HA.out.below ((Below.refl w.heap.size w).alloc (Nat.le_refl _) (.cells #[] 2))
    go_wp2_with (at_builtin; refine wpList_app (Value.int .i64) (fun _ => rfl) _ rfl _ _ 22 rfl w.heap.size 2 (.int .i64 0) 8 Tryz.underlying22 info_i64 rfl [] _ 0 rfl h0 xs _ c w.heap.size rfl hr0 (by simp [maxLen]; omega) (by simp; omega) (by simp) ?_)
    rintro S A' c' w1 rfl ho hb _
    go_wp2_with fail
    go_ret
    exact ⟨A', c', rfl, ho, ((Below.refl w.heap.size w).alloc (Nat.le_refl _) _).trans hb⟩
def sumFrom : List Int → List (List Int) → List Int × Int
  | S, [] => (S, 0)
  | S, v :: r => if opE (· + ·) S v = 0 then sumFrom (opV (· + ·) S v) r else ([], opE (· + ·) S v)
/-- Vectors added, from the first one on: the vector, and the error. -/
def sumAll : List (List Int) → List Int × Int
  | [] => ([], 0)
  | v :: r => if 4096 < v.length then ([], 3) else sumFrom v r
def RowsOk (rows : List (List Int)) : Prop := ∀ xs ∈ rows, I64s xs ∧ xs.length ≤ 1099511627776
theorem sum_go {S v : List Int} {r : List (List Int)} {k : Nat} (hv : r[k]? = some v) (h : opE (· + ·) S v = 0) : sumFrom S (r.drop k) = sumFrom (opV (· + ·) S v) (r.drop (k + 1)) := by
  have hk : k < r.length := (List.getElem?_eq_some_iff.1 hv).1
  rw [List.drop_eq_getElem_cons hk, show r[k] = v from (List.getElem?_eq_some_iff.1 hv).2]
  exact if_pos h
theorem sum_off {S v : List Int} {r : List (List Int)} {k : Nat} (hv : r[k]? = some v) (h : opE (· + ·) S v ≠ 0) : sumFrom S (r.drop k) = ([], opE (· + ·) S v) := by
  have hk : k < r.length := (List.getElem?_eq_some_iff.1 hv).1
  rw [List.drop_eq_getElem_cons hk, show r[k] = v from (List.getElem?_eq_some_iff.1 hv).2]
  exact if_neg h
theorem opV_off {f : Int → Int → Int} {xs ys : List Int} (h : opE f xs ys ≠ 0) : opV f xs ys = [] := by
  unfold opE at h
  unfold opV
  split
  · rename_i e
    rw [if_pos e] at h
    unfold seqV
    rw [if_neg h]
  · rfl
theorem Sum_nil (A : Option Addr) (c : Nat) (w : World) :
    Calls Tryz.prog 32 #[.slice A 0 c] w (OwnInts [] 0 w) := by
  go_enter Tryz.func32, Tryz.ntmps32
  go_wp2_with fail
  go_ret2
  exact ⟨none, 0, rfl, own_nil _ _ _, Below.refl _ _⟩
theorem Sum_long (A : Option Addr) (c : Nat) (v : List Int) (r : List (List Int)) (hl : 4096 < v.length) (ho : RowsOk (v :: r)) (hr : r.length ≤ 1099511627776) (w : World) (ra : RdRows w w.heap.size A (v :: r)) :
    Calls Tryz.prog 32 #[.slice A (v :: r).length c] w (OwnInts [] 3 w) := by
  obtain ⟨b, off, A', c', rfl, hb, hc, hv⟩ := ra 0 v rfl
  have lv := (ho v (by simp)).2
  have CM := hid (Check_any A' v.length c' (by omega))
  rw [show oneE v.length = 3 from if_pos hl] at CM
  rw [Nat.add_zero] at hc
  rw [List.length_cons]
  clear ra ho hv
  go_enter Tryz.func32, Tryz.ntmps32
  go_wp2_with fail
  refine (CM.out _).mono ?_
  rintro _ _ ⟨rfl, rfl⟩
  go_wp2_with fail
  go_ret2
  exact ⟨none, 0, rfl, own_nil _ _ _, Below.refl _ _⟩
theorem Sum_short (A : Option Addr) (c : Nat) (v : List Int) (r : List (List Int)) (hl : ¬ 4096 < v.length) (ho : RowsOk (v :: r)) (hr : r.length ≤ 1099511627776) (hcap : r.length + 1 ≤ c) (w : World) (ra : RdRows w w.heap.size A (v :: r)) :
    Calls Tryz.prog 32 #[.slice A (v :: r).length c] w (OwnInts (sumFrom v r).1 (sumFrom v r).2 w) := by
  obtain ⟨b, off, A', c', rfl, hb, hc, hv⟩ := ra 0 v rfl
  obtain ⟨iv, lv⟩ := ho v (by simp)
  have CM := hid (Check_any A' v.length c' (by omega))
  have CC := hid (Clone_any (c := c') v lv w hv)
  rw [show oneE v.length = 0 from if_neg hl] at CM
  rw [Nat.add_zero] at hc
  rw [List.length_cons]
  have RA := hid ra
  have HO := hid ho
  have IV := hid iv
  clear ra ho hv iv
  go_enter Tryz.func32, Tryz.ntmps32
  go_wp2_with fail
  refine (CM.out _).mono ?_
  rintro _ _ ⟨rfl, rfl⟩
  go_wp2_with fail
  refine CC.out.mono ?_
  rintro _ w1 ⟨A1, c1, rfl, ho1, hb1⟩
  have HO1 := hid ho1
  clear ho1
  go_wp2_with fail
  all_goals
    go_loopw [5, 26] (fun s i wr => ∃ (k : Nat) (S : List Int) (A2 : Option Addr) (c2 : Nat), k ≤ r.length ∧ i = .int .i64 k ∧ s = .slice A2 S.length c2 ∧ wr.ownsRow w.heap.size 2 1 (.slice A2 S.length c2) S.length (S.map (Value.int .i64)) ∧ I64s S ∧ S.length ≤ 4096 ∧ sumFrom S (r.drop k) = sumFrom v r ∧ Below w.heap.size w wr) (fun _ i _ => r.length - (intOf i).toNat)
    case atStart => exact ⟨0, v, A1, c1, by omega, rfl, rfl, HO1.out, IV.out, by omega, by rw [List.drop_zero], hb1⟩
    case round =>
      obtain ⟨k, S, A2, c2, hk, rfl, rfl, hS, iS, lS, hs, hbr⟩ := hrel
      have HSO := hid hS
      have HSI := hid iS
      have HSE := hid hs
      clear hS iS hs
      by_cases hlt : k < r.length
      · first
        | (exfalso; omega)
        | (obtain ⟨u, hu⟩ : ∃ u, r[k]? = some u := ⟨_, List.getElem?_eq_getElem hlt⟩
           obtain ⟨b3, off3, A3, c3, e3, l3, hc3, hr3⟩ := RA.out (k + 1) u (by rw [List.getElem?_cons_succ]; exact hu)
           have e4 := Option.some.inj e3
           simp only [Addr.mk.injEq] at e4
           obtain ⟨rfl, rfl, _⟩ := e4
           have hc4 : wr.cell? ⟨b, off + 1 + k, none⟩ = some (.slice A3 u.length c3) := by
             rw [show off + 1 + k = off + (k + 1) by omega]
             exact (hbr.cell (p := ⟨b, off + (k + 1), none⟩) l3).trans hc3
           have hu2 := HO.out u (by simp [List.mem_of_getElem? hu])
           have lu := hu2.2
           have CA := hid (Add_any (c := c2) (d := c3) S u (by omega) (by omega) HSI.out hu2.1 wr (own_rd HSO.out) ((hr3.below hbr).more hbr.size))
           have hgo := hid (fun h => sum_go (S := S) hu h)
           have hoff := hid (fun h => sum_off (S := S) hu h)
           have hlen := opV_len (· + ·) S u
           have hi64 := hid (opV_i64 (· + ·) S u)
           have hVO := hid (fun h => opV_off (f := (· + ·)) (xs := S) (ys := u) h)
           obtain ⟨er, he⟩ : ∃ x, opE (· + ·) S u = x := ⟨_, rfl⟩
           obtain ⟨T, hT⟩ : ∃ x, opV (· + ·) S u = x := ⟨_, rfl⟩
           rw [he, hT] at CA hgo hVO
           rw [he] at hoff
           rw [hT] at hlen hi64
           clear hc3 hr3 hu2 hu e3 he hT
           go_wp2_with fail
           refine CA.out.mono ?_
           rintro _ w2 ⟨A4, c4, rfl, ho4, hb4⟩
           have HO4 := hid ho4
           clear ho4
           have hbr2 := hbr.trans (hb4.mono hbr.size)
           by_cases her : er = 0
           · subst her
             go_wp2_with fail
             go_roundw
             case rel => exact ⟨k + 1, T, A4, c4, by omega, by go_num, rfl, own_base HO4.out hbr.size, hi64.out, hlen, by rw [← hgo.out (by simp)]; exact HSE.out, hbr2⟩
             case measure => simp [intOf]; omega
           · have hne : (er != 0) = true := by simpa using her
             have hh := hid (hoff.out her)
             go_wp2_with fail
             go_ret2
             rw [← HSE.out, hh.out]
             exact ⟨none, 0, rfl, own_nil _ _ _, hbr2⟩)
      · obtain rfl : k = r.length := by omega
        go_wp2_with fail
        go_ret2
        have := HSE.out
        rw [List.drop_length] at this
        rw [← this]
        exact ⟨A2, c2, rfl, HSO.out, hbr⟩
theorem Sum_any (A : Option Addr) (c : Nat) (rows : List (List Int)) (ho : RowsOk rows) (hr : rows.length ≤ 1099511627776) (hcap : rows.length ≤ c) (w : World) (ra : RdRows w w.heap.size A rows) :
    Calls Tryz.prog 32 #[.slice A rows.length c] w (OwnInts (sumAll rows).1 (sumAll rows).2 w) := by
  cases rows with
  | nil => exact Sum_nil A c w
  | cons v r =>
    simp only [List.length_cons] at hr hcap
    by_cases hl : 4096 < v.length
    · rw [show sumAll (v :: r) = ([], 3) from if_pos hl]
      exact Sum_long A c v r hl ho (by omega) w ra
    · rw [show sumAll (v :: r) = sumFrom v r from if_neg hl]
      exact Sum_short A c v r hl ho (by omega) (by omega) w ra
end Go.Proofs.YtehbdnehlfplaaaGreat
namespace Go.Proofs.YtehbdnehlfplaaaGreat
open Go.RowKit
set_option maxHeartbeats 400000
set_option maxRecDepth 100000
set_option linter.unusedVariables false
theorem absI_le {a : Int} (h : I64 a) : 0 ≤ absI a ∧ absI a ≤ 9223372036854775808 := by unfold I64 at h; unfold absI; split <;> omega
theorem ref_size (a : Int) (ha : I64 a) (w : World) :
    Calls Tryz.prog 81 #[.int .i64 a] w fun e w' => e = .returned (.int .u64 (absI a)) ∧ w = w' := by
  have h := ha
  unfold I64 at h
  by_cases hn : a < 0
  · have e1 : absI a = -a := if_pos hn
    rw [e1]
    clear e1
    go_enter Tryz.func81, Tryz.ntmps81
    go_wp2
    go_ret
    refine ⟨congrArg (fun z => Ending.returned (Value.int .u64 z)) ?_, rfl⟩
    show _ = -a
    first | rfl | omega | (rw [IntKind.wrap_u64]; omega)
  · have e1 : absI a = a := if_neg hn
    rw [e1]
    clear e1
    go_enter Tryz.func81, Tryz.ntmps81
    go_wp2
    go_ret
    exact ⟨rfl, rfl⟩
theorem half_bound {x y : Int} (hx0 : 0 ≤ x) (hx : x < 4294967296) (hy0 : 0 ≤ y) (hy : y < 4294967296) : 0 ≤ x * y ∧ x * y ≤ 18446744065119617025 := by
  refine ⟨Int.mul_nonneg hx0 hy0, ?_⟩
  have := Int.mul_le_mul (show x ≤ 4294967295 by omega) (show y ≤ 4294967295 by omega) hy0 (by decide)
  omega
theorem halves (ah al bh bl : Int) : (ah * 4294967296 + al) * (bh * 4294967296 + bl) = ah * bh * 18446744073709551616 + (ah * bl + al * bh) * 4294967296 + al * bl := by
  grind
theorem or_low (z y : Int) (hy0 : 0 ≤ y) (hy : y < 4294967296) : bits BinOp.or IntKind.u64 (IntKind.u64.wrap (z * 4294967296)) y = z * 4294967296 % 18446744073709551616 + y := by
  rw [IntKind.wrap_u64]
  exact bits_join .u64 64 (by decide) (fun n h0 h1 => by rw [IntKind.wrap_u64]; omega) 32 _ _ (by omega) (by omega) (by omega) hy0 hy (by omega)
/-- The parts of a product of halves. -/
theorem times_end (a b m1 m2 m3 p ph x y t : Int) (e : a * b = m3 * 18446744073709551616 + (m1 + m2) * 4294967296 + p) (h0 : 0 ≤ a * b) (h1 : a * b < 340282366920938463463374607431768211456)
    (hph : p / 4294967296 = ph) (hx : (m1 + ph) / 4294967296 = x) (hy : (m1 + ph) % 4294967296 = y) (ht : (m2 + y) / 4294967296 = t) :
    a * b / 18446744073709551616 = m3 + x + t ∧ a * b % 18446744073709551616 = (m2 + y) * 4294967296 % 18446744073709551616 + p % 4294967296 := by
  rw [e]
  omega
theorem times_core (a b ah al bh bl m1 m2 m3 p ph x y t lo u : Int) (hah : a / 4294967296 = ah) (hbh : b / 4294967296 = bh)
    (hal : bits BinOp.and IntKind.u64 a 4294967295 = al) (hbl : bits BinOp.and IntKind.u64 b 4294967295 = bl)
    (hp : al * bl = p) (hm1 : ah * bl = m1) (hm2 : al * bh = m2) (hm3 : ah * bh = m3) (hph : p / 4294967296 = ph)
    (hx : (m1 + ph) / 4294967296 = x) (hy : bits BinOp.and IntKind.u64 (m1 + ph) 4294967295 = y) (ht : (m2 + y) / 4294967296 = t)
    (hlo : bits BinOp.and IntKind.u64 p 4294967295 = lo) (hu : bits BinOp.or IntKind.u64 (IntKind.u64.wrap ((m2 + y) * 4294967296)) lo = u)
    (p0 : 0 ≤ p) (p1 : p ≤ 18446744065119617025) (m10 : 0 ≤ m1) (m11 : m1 ≤ 18446744065119617025) (m20 : 0 ≤ m2) (m21 : m2 ≤ 18446744065119617025) (m30 : 0 ≤ m3)
    (ph0 : 0 ≤ ph) (ph1 : ph < 4294967296) (x0 : 0 ≤ x) (t0 : 0 ≤ t) (y0 : 0 ≤ y) (y1 : y < 4294967296) (hs : m3 + x + t ≤ 18446744073709551615) (w : World) :
    Calls Tryz.prog 80 #[.int .u64 a, .int .u64 b] w fun e w' => e = .returned (.tuple #[.int .u64 (m3 + x + t), .int .u64 u]) ∧ w = w' := by
  go_enter Tryz.func80, Tryz.ntmps80
  go_wp2
  go_ret2
  exact ⟨rfl, rfl⟩
theorem ref_Times (a b : Int) (ha : U64 a) (hb : U64 b) (w : World) :
    Calls Tryz.prog 80 #[.int .u64 a, .int .u64 b] w fun e w' => e = .returned (.tuple #[.int .u64 (a * b / 18446744073709551616), .int .u64 (a * b % 18446744073709551616)]) ∧ w = w' := by
  have g1 := and_low a ha
  have g2 := and_low b hb
  have a1 := ha.1
  have a2 := ha.2
  have b1 := hb.1
  have b2 := hb.2
  have e := halves (a / 4294967296) (a % 4294967296) (b / 4294967296) (b % 4294967296)
  rw [show a / 4294967296 * 4294967296 + a % 4294967296 = a by omega, show b / 4294967296 * 4294967296 + b % 4294967296 = b by omega] at e
  have q0 := half_bound (x := a % 4294967296) (y := b % 4294967296) (by omega) (by omega) (by omega) (by omega)
  have q1 := half_bound (x := a / 4294967296) (y := b % 4294967296) (by omega) (by omega) (by omega) (by omega)
  have q2 := half_bound (x := a % 4294967296) (y := b / 4294967296) (by omega) (by omega) (by omega) (by omega)
  have q3 := half_bound (x := a / 4294967296) (y := b / 4294967296) (by omega) (by omega) (by omega) (by omega)
  have k0 : 0 ≤ a * b := Int.mul_nonneg a1 b1
  have k1 : a * b < 340282366920938463463374607431768211456 := by
    have := Int.mul_le_mul a2 b2 b1 (by decide)
    omega
  have g3 := and_low (a / 4294967296 * (b % 4294967296) + a % 4294967296 * (b % 4294967296) / 4294967296) ⟨by omega, by omega⟩
  have g4 := and_low (a % 4294967296 * (b % 4294967296)) ⟨by omega, by omega⟩
  have fin := times_end a b _ _ _ _ _ _ _ _ e k0 k1 rfl rfl rfl rfl
  have g5 := or_low (a % 4294967296 * (b / 4294967296) + (a / 4294967296 * (b % 4294967296) + a % 4294967296 * (b % 4294967296) / 4294967296) % 4294967296) (a % 4294967296 * (b % 4294967296) % 4294967296) (by omega) (by omega)
  rw [fin.1, fin.2]
  refine times_core a b _ _ _ _ _ _ _ _ _ _ _ _ _ _ rfl rfl g1 g2 rfl rfl rfl rfl rfl rfl g3 rfl g4 g5 (by omega) (by omega) (by omega) (by omega) (by omega) (by omega) (by omega) (by omega) (by omega) (by omega) (by omega) (by omega) (by omega) ?_ w
  have := fin.1
  omega
theorem wide_same {a b P : Int} (h : a * b = P) (h0 : 0 ≤ P) (h1 : P ≤ 85070591730234615865843651857942052864) : wrap64 (P / 18446744073709551616) = wrap64 (hiU (a * b)) ∧ P % 18446744073709551616 = loU (a * b) := by
  rw [h]; unfold hiU loU
  refine ⟨?_, rfl⟩
  congr 1
  omega
theorem wide_neg {s P h l : Int} (hs : s = -P) (h0 : 0 ≤ P) (h1 : P ≤ 85070591730234615865843651857942052864) (hh : P / 18446744073709551616 = h) (hl : P % 18446744073709551616 = l) :
    (IntKind.u64.wrap (18446744073709551615 - l + 1) = loU s) ∧ ((loU s = 0 ∧ IntKind.u64.wrap (18446744073709551615 - h + 1) = hiU s) ∨ (loU s ≠ 0 ∧ 18446744073709551615 - h = hiU s)) := by
  subst hs
  simp only [IntKind.wrap_u64]
  unfold hiU loU
  omega
theorem Wide_same (a b P : Int) (ha : I64 a) (hb : I64 b) (x y : Bool) (d1 : decide (a < 0) = x) (d2 : decide (b < 0) = y) (hxy : (x == y) = true) (hP : a * b = P) (hPa : absI a * absI b = P) (h0 : 0 ≤ P) (h1 : P ≤ 85070591730234615865843651857942052864) (w : World) :
    Calls Tryz.prog 59 #[.int .i64 a, .int .i64 b] w fun e w' => e = .returned (.tuple #[.int .i64 (wrap64 (hiU (a * b))), .int .u64 (loU (a * b))]) ∧ w = w' := by
  obtain ⟨e1, e2⟩ := wide_same hP h0 h1
  rw [← e1, ← e2]
  have T := fun W => ref_Times (absI a) (absI b) ⟨(absI_le ha).1, by have := (absI_le ha).2; omega⟩ ⟨(absI_le hb).1, by have := (absI_le hb).2; omega⟩ W
  rw [hPa] at T
  have HT := hid T
  clear e1 e2 T hP hPa h0 h1
  go_enter Tryz.func59, Tryz.ntmps59
  go_wp2_with fail
  refine (ref_size a ha _).mono ?_
  rintro _ _ ⟨rfl, rfl⟩
  go_wp2_with fail
  refine (ref_size b hb _).mono ?_
  rintro _ _ ⟨rfl, rfl⟩
  go_wp2_with fail
  refine (HT.out _).mono ?_
  rintro _ _ ⟨rfl, rfl⟩
  go_wp2_with fail
  go_ret2
  exact ⟨rfl, rfl⟩
theorem Wide_other (a b P : Int) (ha : I64 a) (hb : I64 b) (x y : Bool) (d1 : decide (a < 0) = x) (d2 : decide (b < 0) = y) (hxy : (x == y) = false) (hP : a * b = -P) (hPa : absI a * absI b = P) (h0 : 0 ≤ P) (h1 : P ≤ 85070591730234615865843651857942052864) (w : World) :
    Calls Tryz.prog 59 #[.int .i64 a, .int .i64 b] w fun e w' => e = .returned (.tuple #[.int .i64 (wrap64 (hiU (a * b))), .int .u64 (loU (a * b))]) ∧ w = w' := by
  obtain ⟨h, hh⟩ : ∃ h, P / 18446744073709551616 = h := ⟨_, rfl⟩
  obtain ⟨l, hl⟩ : ∃ l, P % 18446744073709551616 = l := ⟨_, rfl⟩
  obtain ⟨e1, e2⟩ := wide_neg hP h0 h1 hh hl
  have n1 := bits_not_u64 (p := h) (by unfold U64; omega)
  have n2 := bits_not_u64 (p := l) (by unfold U64; omega)
  have T := fun W => ref_Times (absI a) (absI b) ⟨(absI_le ha).1, by have := (absI_le ha).2; omega⟩ ⟨(absI_le hb).1, by have := (absI_le hb).2; omega⟩ W
  rw [hPa, hh, hl] at T
  have HT := hid T
  have b0 : 0 ≤ h := by omega
  have b1 : h < 18446744073709551616 := by omega
  obtain ⟨lo, hlo⟩ : ∃ lo, loU (a * b) = lo := ⟨_, rfl⟩
  obtain ⟨hi, hhi⟩ : ∃ hi, hiU (a * b) = hi := ⟨_, rfl⟩
  rw [hlo] at e1
  rw [hlo, hhi] at e2
  rw [hlo, hhi]
  clear T hP hPa hh hl hlo hhi h0 h1
  have hsg : IntKind.u64.signed = false := rfl
  rcases e2 with ⟨z, e2⟩ | ⟨z, e2⟩
  · have zb : (lo == 0) = true := by simpa using z
    clear z
    go_enter Tryz.func59, Tryz.ntmps59
    go_wp2_with fail
    refine (ref_size a ha _).mono ?_
    rintro _ _ ⟨rfl, rfl⟩
    go_wp2_with fail
    refine (ref_size b hb _).mono ?_
    rintro _ _ ⟨rfl, rfl⟩
    go_wp2_with fail
    refine (HT.out _).mono ?_
    rintro _ _ ⟨rfl, rfl⟩
    go_wp2_with fail
    go_ret2
    exact ⟨rfl, rfl⟩
  · have zb : (lo == 0) = false := by simpa using z
    clear z
    go_enter Tryz.func59, Tryz.ntmps59
    go_wp2_with fail
    refine (ref_size a ha _).mono ?_
    rintro _ _ ⟨rfl, rfl⟩
    go_wp2_with fail
    refine (ref_size b hb _).mono ?_
    rintro _ _ ⟨rfl, rfl⟩
    go_wp2_with fail
    refine (HT.out _).mono ?_
    rintro _ _ ⟨rfl, rfl⟩
    go_wp2_with fail
    go_ret2
    exact ⟨rfl, rfl⟩
theorem ref_Wide (a b : Int) (ha : I64 a) (hb : I64 b) (w : World) :
    Calls Tryz.prog 59 #[.int .i64 a, .int .i64 b] w fun e w' => e = .returned (.tuple #[.int .i64 (wrap64 (hiU (a * b))), .int .u64 (loU (a * b))]) ∧ w = w' := by
  have p0 : 0 ≤ absI a * absI b := Int.mul_nonneg (absI_le ha).1 (absI_le hb).1
  have p1 := Int.mul_le_mul (absI_le ha).2 (absI_le hb).2 (absI_le hb).1 (by decide)
  have p2 : absI a * absI b ≤ 85070591730234615865843651857942052864 := by omega
  rcases Int.lt_or_le a 0 with sa | sa <;> rcases Int.lt_or_le b 0 with sb | sb
  · exact Wide_same a b _ ha hb true true (by simpa using sa) (by simpa using sb) rfl (by unfold absI; rw [if_pos sa, if_pos sb, Int.neg_mul_neg]) rfl p0 p2 w
  · exact Wide_other a b _ ha hb true false (by simpa using sa) (by simpa using sb) rfl (by unfold absI; rw [if_pos sa, if_neg (by omega), Int.neg_mul, Int.neg_neg]) rfl p0 p2 w
  · exact Wide_other a b _ ha hb false true (by simpa using sa) (by simpa using sb) rfl (by unfold absI; rw [if_neg (by omega), if_pos sb, Int.mul_neg, Int.neg_neg]) rfl p0 p2 w
  · exact Wide_same a b _ ha hb false false (by simpa using sa) (by simpa using sb) rfl (by unfold absI; rw [if_neg (by omega), if_neg (by omega)]) rfl p0 p2 w
end Go.Proofs.YtehbdnehlfplaaaGreat
namespace Go.Proofs.YtehbdnehlfplaaaGreat
open Go.RowKit
set_option maxHeartbeats 400000
set_option maxRecDepth 100000
set_option linter.unusedVariables false
theorem and_one_i64 (n : Int) : bits .and .i64 n 1 = n % 2 := by
  show IntKind.i64.wrap ((BitVec.ofInt 64 n &&& BitVec.ofInt 64 1).toNat : Int) = _
  rw [BitVec.toNat_and, show (BitVec.ofInt 64 1).toNat = 2 ^ 1 - 1 from rfl, Nat.and_two_pow_sub_one_eq_mod, BitVec.toNat_ofInt, IntKind.wrap_i64]
  omega
theorem next_shift {a y : Int} {j : Nat} (h : a / 2 ^ j = y) : a / 2 ^ (j + 1) = y / 2 := by
  rw [Int.pow_succ, ← h, Int.ediv_ediv_of_nonneg (Int.le_of_lt (Int.pow_pos (by decide)))]
theorem ref_Mul_bad (a b n : Int) (h : n < 0 ∨ 30 < n) (w : World) :
    Calls Tryz.prog 36 #[.int .i64 a, .int .i64 b, .int .i64 n] w fun e w' => e = .returned (.tuple #[.int .i64 0, .int .i64 1]) ∧ w = w' := by
  by_cases h1 : n < 0
  · clear h
    go_enter Tryz.func36, Tryz.ntmps36
    go_wp2
    go_ret2
    exact ⟨rfl, rfl⟩
  · have h2 : 30 < n := by omega
    clear h
    go_enter Tryz.func36, Tryz.ntmps36
    go_wp2
    go_ret2
    exact ⟨rfl, rfl⟩
theorem or_comm_u64f (x y : Int) : bits .or .u64 x y = bits .or .u64 y x := by
  show IntKind.u64.wrap ((BitVec.ofInt 64 x ||| BitVec.ofInt 64 y).toNat : Int) = IntKind.u64.wrap ((BitVec.ofInt 64 y ||| BitVec.ofInt 64 x).toNat : Int)
  rw [BitVec.or_comm]
theorem i128_half {s : Int} (h : I128 s) : I128 (s / 2) := by unfold I128 at *; omega
theorem half_hi {s h : Int} (hI : I128 s) (hh : wrap64 (hiU s) = h) : h / 2 = wrap64 (hiU (s / 2)) := by
  rw [hi_signed hI] at hh
  rw [hi_signed (i128_half hI)]
  omega
theorem half_lo {s h : Int} (hI : I128 s) (hh : wrap64 (hiU s) = h) : bits BinOp.or IntKind.u64 (loU s / 2) (h % 2 * 9223372036854775808) = loU (s / 2) := by
  rw [hi_signed hI] at hh
  have hl := U64.lo s
  unfold U64 at hl
  rw [or_comm_u64f, bits_join .u64 64 (by decide) (fun n h0 h1 => by rw [IntKind.wrap_u64]; omega) 63 _ _ (by omega) (by omega) (by omega) (by omega) (by omega) (by omega)]
  unfold loU
  omega
theorem mul_out {s h : Int} (hI : I128 s) (hh : wrap64 (hiU s) = h) (ht : (h != wrap64 (loU s) / 9223372036854775808) = true) : ¬ I64 s := by
  rw [hi_signed hI] at hh
  simp only [bne_iff_ne, ne_eq] at ht
  intro hs
  unfold I64 at hs
  apply ht
  unfold loU
  rw [wrap64_eq]
  omega
theorem mul_in {s h : Int} (hI : I128 s) (hh : wrap64 (hiU s) = h) (ht : (h != wrap64 (loU s) / 9223372036854775808) = false) : I64 s ∧ wrap64 (loU s) = s := by
  rw [hi_signed hI] at hh
  simp only [bne_eq_false_iff_eq] at ht
  unfold loU at *
  unfold I64
  rw [wrap64_eq] at *
  unfold I128 at hI
  omega
theorem ref_Mul (a b : Int) (k : Nat) (hk : k ≤ 30) (ha : I64 a) (hb : I64 b) (w : World) :
    Calls Tryz.prog 36 #[.int .i64 a, .int .i64 b, .int .i64 k] w fun e w' => e = .returned (.tuple #[.int .i64 (ckV (a * b / 2 ^ k)), .int .i64 (ckE (a * b / 2 ^ k))]) ∧ w = w' := by
  have i1 := i128_mul ha hb
  go_enter Tryz.func36, Tryz.ntmps36
  go_wp2_with fail
  refine (ref_Wide a b ha hb _).mono ?_
  rintro _ _ ⟨rfl, rfl⟩
  go_wp2_with fail
  go_loop [8, 9, 24] (fun x y i => ∃ j : Nat, ∃ s : Int, j ≤ k ∧ i = .int .i64 j ∧ a * b / 2 ^ j = s ∧ I128 s ∧ x = .int .i64 (wrap64 (hiU s)) ∧ y = .int .u64 (loU s)) (fun _ _ i => k - (intOf i).toNat)
  case atStart => exact ⟨0, a * b, Nat.zero_le _, rfl, by simp, i1, rfl, rfl⟩
  case round =>
    obtain ⟨j, s, hj, rfl, hs, hI, rfl, rfl⟩ := hrel
    have HS := hid hs
    clear hs
    have f := and_one_i64 (wrap64 (hiU s))
    obtain ⟨h, hh⟩ : ∃ h, wrap64 (hiU s) = h := ⟨_, rfl⟩
    rw [hh] at f
    by_cases hlt : j < k
    · have X := hid (half_hi hI hh)
      have Y := hid (half_lo hI hh)
      go_wp2
      go_round
      case rel => exact ⟨j + 1, s / 2, by omega, by go_num, next_shift HS.out, i128_half hI, by rw [X.out], by rw [Y.out]⟩
      case measure => simp [intOf]; omega
    · have E : Hid (a * b / 2 ^ k = s) := by rw [show k = j by omega]; exact HS
      clear hh
      go_wp2
      · go_ret2
        rw [E.out]
        exact ⟨ck_out2 (mul_out hI rfl (by assumption)), rfl⟩
      · go_ret2
        rw [E.out]
        exact ⟨number_end (mul_in hI rfl (by assumption)), rfl⟩
end Go.Proofs.YtehbdnehlfplaaaGreat
/- The document's vec, each function by its contract. -/
namespace Go.Proofs.YtehbdnehlfplaaaGreat
open Go.RowKit
set_option maxHeartbeats 400000
set_option maxRecDepth 100000
set_option linter.unusedVariables false
theorem rCheck_any (A : Option Addr) (n c : Nat) (hn : n ≤ 9223372036854775807) (w : World) :
    Calls Tryz.prog 60 #[.slice A n c] w fun e w' => e = .returned (.int .i64 (oneE n)) ∧ w = w' := by
  by_cases h : 4096 < n
  · have e1 : oneE n = 3 := if_pos h
    rw [e1]
    clear e1
    go_enter Tryz.func60, Tryz.ntmps60
    go_wp2
    go_ret
    exact ⟨rfl, rfl⟩
  · have e1 : oneE n = 0 := if_neg h
    rw [e1]
    clear e1
    go_enter Tryz.func60, Tryz.ntmps60
    go_wp2
    go_ret
    exact ⟨rfl, rfl⟩
theorem two_any (A B : Option Addr) (n m c d : Nat) (hn : n ≤ 9223372036854775807) (hm : m ≤ 9223372036854775807) (w : World) :
    Calls Tryz.prog 82 #[.slice A n c, .slice B m d] w fun e w' => e = .returned (.int .i64 (twoE n m)) ∧ w = w' := by
  by_cases h1 : 4096 < n
  · have e1 : twoE n m = 3 := if_pos (Or.inl h1)
    rw [e1]
    clear e1
    go_enter Tryz.func82, Tryz.ntmps82
    go_wp2
    go_ret
    exact ⟨rfl, rfl⟩
  · by_cases h2 : 4096 < m
    · have e1 : twoE n m = 3 := if_pos (Or.inr h2)
      rw [e1]
      clear e1
      go_enter Tryz.func82, Tryz.ntmps82
      go_wp2
      go_ret
      exact ⟨rfl, rfl⟩
    · by_cases h3 : n = m
      · subst h3
        have e1 : twoE n n = 0 := by unfold twoE; rw [if_neg (by omega), if_pos rfl]
        rw [e1]
        clear e1
        go_enter Tryz.func82, Tryz.ntmps82
        go_wp2
        go_ret
        exact ⟨rfl, rfl⟩
      · have e1 : twoE n m = 4 := by unfold twoE; rw [if_neg (by omega), if_neg h3]
        rw [e1]
        have h4 : ((n : Int) != (m : Int)) = true := by simp; omega
        have h5 : (n != m) = true := by simp; omega
        clear e1
        go_enter Tryz.func82, Tryz.ntmps82
        go_wp2
        go_ret
        exact ⟨rfl, rfl⟩
theorem rSame_any {A B : Option Addr} {c d : Nat} (xs ys : List Int) (hx : xs.length ≤ 9223372036854775807) (hy : ys.length ≤ 9223372036854775807) (w : World)
    (ra : Rd (Value.int .i64) w w.heap.size A xs) (rb : Rd (Value.int .i64) w w.heap.size B ys) :
    Calls Tryz.prog 10 #[.slice A xs.length c, .slice B ys.length d] w fun e w' => e = .returned (.bool (eqB xs ys)) ∧ Below w.heap.size w w' := by
  by_cases hl : xs.length = ys.length
  · have HA := hid ra
    have HB := hid rb
    clear ra rb
    have h1 : ((xs.length : Int) != (ys.length : Int)) = false := by simp; omega
    have h2 : (xs.length != ys.length) = false := by simp; omega
    have HL := hid hl
    clear hl
    go_enter Tryz.func10, Tryz.ntmps10
    go_wp2_with fail
    clear h1 h2
    go_loopw [13] (fun i wr => ∃ k : Nat, k ≤ xs.length ∧ i = .int .i64 k ∧ xs.take k = ys.take k ∧ Below w.heap.size w wr) (fun i _ => xs.length - (intOf i).toNat)
    case atStart => exact ⟨0, by omega, rfl, rfl, Below.refl _ _⟩
    case round =>
      obtain ⟨k, hk, rfl, ht, hb⟩ := hrel
      have HT := hid ht
      clear ht
      by_cases hlt : k < xs.length
      · have hlt2 : k < ys.length := by have := HL.out; omega
        obtain ⟨b1, o1, x, rfl, l1, ex, c1⟩ := (HA.out.below hb).at_ hlt
        obtain ⟨b2, o2, y, rfl, l2, ey, c2⟩ := (HB.out.below hb).at_ hlt2
        have EX := hid ex
        have EY := hid ey
        clear ex ey
        by_cases e : x = y
        · have e' : (x != y) = false := by simpa using e
          have E := hid e
          clear e
          go_wp2_with fail
          go_quiet (fail)
          go_wp2_with fail
          go_roundw
          case rel => exact ⟨k + 1, by omega, by go_num, take_step HT.out EX.out EY.out E.out, hb.trans (belowN _ _ _)⟩
          case measure => simp [intOf]; omega
        · have e' : (x != y) = true := by simpa using e
          go_wp2_with fail
          go_quiet (fail)
          go_wp2_with fail
          go_ret
          rw [eqB_no EX.out EY.out e]
          exact ⟨rfl, hb.trans (belowN _ _ _)⟩
      · have hke : k = xs.length := by omega
        have HK := hid hke
        clear hke
        go_wp2_with fail
        go_ret
        rw [eqB_yes HT.out HK.out HL.out]
        exact ⟨rfl, hb⟩
  · rw [eqB_len hl]
    have h1 : ((xs.length : Int) != (ys.length : Int)) = true := by simp; omega
    have h2 : (xs.length != ys.length) = true := by simp; omega
    go_enter Tryz.func10, Tryz.ntmps10
    go_wp2_with fail
    go_ret
    exact ⟨rfl, Below.refl _ _⟩
/-- The first k numbers. -/
def pre (num : Nat → Int × Int) (k : Nat) : List Int := (List.range k).map fun j => (num j).1
theorem pre_succ (num : Nat → Int × Int) (k : Nat) : pre num (k + 1) = pre num k ++ [(num k).1] := by
  unfold pre; rw [List.range_succ, List.map_append]; rfl
theorem seqV_pre {num : Nat → Int × Int} {n : Nat} (h : seqE num n = 0) : seqV num n = pre num n := if_pos h
theorem seqE_succ {num : Nat → Int × Int} {k : Nat} (h : seqE num k = 0) : seqE num (k + 1) = (num k).2 := by
  show (if seqE num k = 0 then (num k).2 else seqE num k) = _
  rw [if_pos h]
theorem seq_off {num : Nat → Int × Int} {k n : Nat} (h : seqE num k = 0) (hk : k < n) (he : (num k).2 ≠ 0) : seqE num n = (num k).2 ∧ seqV num n = [] := by
  have e1 := seqE_succ h
  have e2 : seqE num n = (num k).2 := by rw [seqE_stays (k := k + 1) (by rw [e1]; exact he) n hk, e1]
  refine ⟨e2, ?_⟩
  unfold seqV
  rw [if_neg (by rw [e2]; exact he)]
theorem rAdd_any {A B : Option Addr} {c d : Nat} (xs ys : List Int) (hx : xs.length ≤ 9223372036854775807) (hy : ys.length ≤ 9223372036854775807) (ix : I64s xs) (iy : I64s ys) (w : World)
    (ra : Rd (Value.int .i64) w w.heap.size A xs) (rb : Rd (Value.int .i64) w w.heap.size B ys) :
    Calls Tryz.prog 61 #[.slice A xs.length c, .slice B ys.length d] w (OwnInts (opV (· + ·) xs ys) (opE (· + ·) xs ys) w) := by
  have CM := hid (two_any A B xs.length ys.length c d hx hy)
  by_cases ht : twoE xs.length ys.length = 0
  · have e1 : opE (· + ·) xs ys = seqE (numV2 (· + ·) xs ys) xs.length := if_pos ht
    have e2 : opV (· + ·) xs ys = seqV (numV2 (· + ·) xs ys) xs.length := if_pos ht
    rw [e1, e2]
    obtain ⟨hn, hl⟩ := twoE_ok ht
    have HL := hid hl
    have HA := hid ra
    have HB := hid rb
    have IX := hid ix
    have IY := hid iy
    rw [ht] at CM
    clear e1 e2 ht hl ra rb ix iy
    go_enter Tryz.func61, Tryz.ntmps61
    go_wp2_with fail
    refine (CM.out _).mono ?_
    rintro _ _ ⟨rfl, rfl⟩
    go_wp2_with fail
    go_loopw [7, 19] (fun o i wr => ∃ (k : Nat) (S : List Int) (A2 : Option Addr) (c2 : Nat), k ≤ xs.length ∧ i = .int .i64 k ∧ S.length = k ∧ o = .slice A2 S.length c2 ∧ S = pre (numV2 (· + ·) xs ys) k ∧ wr.ownsRow w.heap.size 2 1 (.slice A2 S.length c2) S.length (S.map (Value.int .i64)) ∧ seqE (numV2 (· + ·) xs ys) k = 0 ∧ Below w.heap.size w wr) (fun _ i _ => xs.length - (intOf i).toNat)
    case atStart => exact ⟨0, [], none, 0, by omega, rfl, rfl, rfl, rfl, own_nil _ _ _, rfl, Below.refl _ _⟩
    case round =>
      obtain ⟨k, S, A2, c2, hk, rfl, hSk, rfl, hS, hown, hs, hb⟩ := hrel
      have HS := hid hS
      have HO := hid hown
      have HE := hid hs
      have HSK := hid hSk
      have lS : S.length ≤ 4096 := by omega
      clear hS hown hs hSk
      by_cases hlt : k < xs.length
      · have hlt2 : k < ys.length := by have := HL.out; omega
        obtain ⟨b1, o1, x, rfl, l1, ex, c1⟩ := (HA.out.below hb).at_ hlt
        obtain ⟨b2, o2, y, rfl, l2, ey, c2⟩ := (HB.out.below hb).at_ hlt2
        have CA := hid (ref_Add x y (IX.out.at_ ex) (IY.out.at_ ey))
        have en : numV2 (· + ·) xs ys k = (ckV (x + y), ckE (x + y)) := by unfold numV2; rw [getD_of ex, getD_of ey]
        have EN := hid en
        clear ex ey en
        obtain ⟨z, hz⟩ : ∃ z, ckV (x + y) = z := ⟨_, rfl⟩
        obtain ⟨er, he⟩ : ∃ z, ckE (x + y) = z := ⟨_, rfl⟩
        rw [hz, he] at CA EN
        clear hz he
        go_wp2_with fail
        go_quiet ((go_at_call 83; exact quietL CA.out _))
        have hbn := hb.trans (belowN w.heap.size wr nq)
        by_cases her : er = 0
        · subst her
          have h0 := own_on HO.out ((belowN wr.heap.size wr nq).alloc (Nat.le_refl _) (.cells #[.int .i64 z] 2))
          have hr0 : Rd (Value.int .i64) ((wr.drewN nq).alloc (.cells #[.int .i64 z] 2)) _ (some ⟨wr.heap.size, 0, none⟩) [z] := rd_one (one_cell (wr.drewN nq) (.int .i64 z) 2).1
          go_wp2_with (at_builtin; refine wpList_app (Value.int .i64) (fun _ => rfl) _ rfl _ _ 22 rfl w.heap.size 2 (.int .i64 0) 8 Tryz.underlying22 info_i64 rfl S _ _ rfl h0 [z] _ 1 _ rfl hr0 (by simp [maxLen]; omega) (by simp; omega) (by have := hb.size; simp; omega) ?_)
          rintro S' A' c' w1 hS' ho hb1 _
          have HS' := hid hS'
          have HO' := hid ho
          clear hS' ho
          go_wp2_with fail
          go_roundw
          case rel =>
            refine ⟨k + 1, S', A', c', by omega, by go_num, ?_, rfl, ?_, HO'.out, ?_, (hbn.alloc hb.size _).trans hb1⟩
            · rw [HS'.out, List.length_append, HSK.out]; rfl
            · rw [HS'.out, HS.out, pre_succ, EN.out]
            · rw [seqE_succ HE.out, EN.out]
          case measure => simp [intOf]; omega
        · have hne : (er != 0) = true := by simpa using her
          go_wp2_with fail
          go_ret2
          obtain ⟨e1, e2⟩ := seq_off HE.out hlt (by rw [EN.out]; exact her)
          rw [e1, e2, EN.out]
          exact ⟨none, 0, rfl, own_nil _ _ _, hbn⟩
      · obtain rfl : k = xs.length := by omega
        go_wp2_with fail
        go_ret2
        rw [HE.out, seqV_pre HE.out, ← HS.out]
        exact ⟨A2, c2, rfl, HO.out, hb⟩
  · have e1 : opE (· + ·) xs ys = twoE xs.length ys.length := if_neg ht
    have e2 : opV (· + ·) xs ys = [] := if_neg ht
    rw [e1, e2]
    clear e1 e2
    obtain ⟨t, hte⟩ : ∃ t, twoE xs.length ys.length = t := ⟨_, rfl⟩
    rw [hte] at ht CM ⊢
    have hne : (t != 0) = true := by simpa using ht
    clear ra rb ix iy hte ht
    go_enter Tryz.func61, Tryz.ntmps61
    go_wp2_with fail
    refine (CM.out _).mono ?_
    rintro _ _ ⟨rfl, rfl⟩
    go_wp2_with fail
    go_ret2
    exact ⟨none, 0, rfl, own_nil _ _ _, Below.refl _ _⟩
end Go.Proofs.YtehbdnehlfplaaaGreat
/- The document's vec: Scale, More, Zero. -/
namespace Go.Proofs.YtehbdnehlfplaaaGreat
open Go.RowKit
set_option maxHeartbeats 400000
set_option maxRecDepth 100000
set_option linter.unusedVariables false
theorem ref_mul (a b m : Int) (ha : I64 a) (hb : I64 b) (w : World) :
    Calls Tryz.prog 36 #[.int .i64 a, .int .i64 b, .int .i64 m] w fun r W' => r = .returned (.tuple #[.int .i64 (mulV a b m), .int .i64 (mulE a b m)]) ∧ w = W' := by
  by_cases h : m < 0 ∨ 30 < m
  · rw [show mulV a b m = 0 from if_pos h, show mulE a b m = 1 from if_pos h]
    exact ref_Mul_bad a b m h w
  · rw [show mulV a b m = ckV (a * b / 2 ^ m.toNat) from if_neg h, show mulE a b m = ckE (a * b / 2 ^ m.toNat) from if_neg h]
    obtain ⟨k, rfl⟩ := Int.eq_ofNat_of_zero_le (show 0 ≤ m by omega)
    exact ref_Mul a b k (by omega) ha hb w
theorem rScale_any {A : Option Addr} {c : Nat} (xs : List Int) (hx : xs.length ≤ 9223372036854775807) (ix : I64s xs) (b m : Int) (hb : I64 b) (w : World) (ra : Rd (Value.int .i64) w w.heap.size A xs) :
    Calls Tryz.prog 19 #[.slice A xs.length c, .int .i64 b, .int .i64 m] w (OwnInts (unV (behE m) (numS xs b m) xs.length) (unE (behE m) (numS xs b m) xs.length) w) := by
  by_cases hn : 4096 < xs.length
  · have e := un_long hn (behE m) (numS xs b m)
    rw [e.1, e.2]
    clear e ra ix
    go_enter Tryz.func19, Tryz.ntmps19
    go_wp2_with fail
    go_ret2
    exact ⟨none, 0, rfl, own_nil _ _ _, Below.refl _ _⟩
  · by_cases hq : m < 0 ∨ 30 < m
    · have e := un_bad hn (q := behE m) (by rw [show behE m = 1 from if_pos hq]; decide) (numS xs b m)
      rw [e.1, e.2, show behE m = 1 from if_pos hq]
      clear e ra ix
      by_cases h1 : m < 0
      · clear hq
        go_enter Tryz.func19, Tryz.ntmps19
        go_wp2_with fail
        go_ret2
        exact ⟨none, 0, rfl, own_nil _ _ _, Below.refl _ _⟩
      · have h2 : 30 < m := by omega
        clear hq
        go_enter Tryz.func19, Tryz.ntmps19
        go_wp2_with fail
        go_ret2
        exact ⟨none, 0, rfl, own_nil _ _ _, Below.refl _ _⟩
    · rw [show behE m = 0 from if_neg hq]
      have e := un_ok hn (numS xs b m)
      rw [e.1, e.2]
      have HA := hid ra
      have IX := hid ix
      have m1 : 0 ≤ m := by omega
      have m2 : m ≤ 30 := by omega
      clear e ra ix hq
      go_enter Tryz.func19, Tryz.ntmps19
      go_wp2_with fail
      go_loopw [8, 24] (fun o i wr => ∃ (k : Nat) (S : List Int) (A2 : Option Addr) (c2 : Nat), k ≤ xs.length ∧ i = .int .i64 k ∧ S.length = k ∧ o = .slice A2 S.length c2 ∧ S = pre (numS xs b m) k ∧ wr.ownsRow w.heap.size 2 1 (.slice A2 S.length c2) S.length (S.map (Value.int .i64)) ∧ seqE (numS xs b m) k = 0 ∧ Below w.heap.size w wr) (fun _ i _ => xs.length - (intOf i).toNat)
      case atStart => exact ⟨0, [], none, 0, by omega, rfl, rfl, rfl, rfl, own_nil _ _ _, rfl, Below.refl _ _⟩
      case round =>
        obtain ⟨k, S, A2, c2, hk, rfl, hSk, rfl, hS, hown, hs, hbr⟩ := hrel
        have HS := hid hS
        have HO := hid hown
        have HE := hid hs
        have HSK := hid hSk
        have lS : S.length ≤ 4096 := by omega
        clear hS hown hs hSk
        by_cases hlt : k < xs.length
        · obtain ⟨b1, o1, x, rfl, l1, ex, c1⟩ := (HA.out.below hbr).at_ hlt
          have CA := hid (ref_mul x b m (IX.out.at_ ex) hb)
          have en : numS xs b m k = (mulV x b m, mulE x b m) := by unfold numS; rw [getD_of ex]
          have EN := hid en
          clear ex en
          obtain ⟨z, hz⟩ : ∃ z, mulV x b m = z := ⟨_, rfl⟩
          obtain ⟨er, he⟩ : ∃ z, mulE x b m = z := ⟨_, rfl⟩
          rw [hz, he] at CA EN
          clear hz he
          go_wp2_with fail
          refine (CA.out _).mono ?_
          rintro _ _ ⟨rfl, rfl⟩
          by_cases her : er = 0
          · subst her
            have h0 := own_on HO.out ((Below.refl wr.heap.size wr).alloc (Nat.le_refl _) (.cells #[.int .i64 z] 2))
            have hr0 : Rd (Value.int .i64) (wr.alloc (.cells #[.int .i64 z] 2)) _ (some ⟨wr.heap.size, 0, none⟩) [z] := rd_one (one_cell wr (.int .i64 z) 2).1
            go_wp2_with (at_builtin; refine wpList_app (Value.int .i64) (fun _ => rfl) _ rfl _ _ 22 rfl w.heap.size 2 (.int .i64 0) 8 Tryz.underlying22 info_i64 rfl S _ _ rfl h0 [z] _ 1 _ rfl hr0 (by simp [maxLen]; omega) (by simp; omega) (by have := hbr.size; simp; omega) ?_)
            rintro S' A' c' w1 hS' ho hb1 _
            have HS' := hid hS'
            have HO' := hid ho
            clear hS' ho
            go_wp2_with fail
            go_roundw
            case rel =>
              refine ⟨k + 1, S', A', c', by omega, by go_num, ?_, rfl, ?_, HO'.out, ?_, (hbr.alloc hbr.size _).trans hb1⟩
              · rw [HS'.out, List.length_append, HSK.out]; rfl
              · rw [HS'.out, HS.out, pre_succ, EN.out]
              · rw [seqE_succ HE.out, EN.out]
            case measure => simp [intOf]; omega
          · have hne : (er != 0) = true := by simpa using her
            go_wp2_with fail
            go_ret2
            obtain ⟨e1, e2⟩ := seq_off HE.out hlt (by rw [EN.out]; exact her)
            rw [e1, e2, EN.out]
            exact ⟨none, 0, rfl, own_nil _ _ _, hbr⟩
        · obtain rfl : k = xs.length := by omega
          go_wp2_with fail
          go_ret2
          rw [HE.out, seqV_pre HE.out, ← HS.out]
          exact ⟨A2, c2, rfl, HO.out, hbr⟩
end Go.Proofs.YtehbdnehlfplaaaGreat
/- The document's vec: Size, Most, Dot, Sum, Clip. -/
namespace Go.Proofs.YtehbdnehlfplaaaGreat
open Go.RowKit
set_option maxHeartbeats 400000
set_option maxRecDepth 100000
set_option linter.unusedVariables false
theorem rDot_any {A B : Option Addr} {c d : Nat} (xs ys : List Int) (hx : xs.length ≤ 9223372036854775807) (hy : ys.length ≤ 9223372036854775807) (ix : I64s xs) (iy : I64s ys) (m : Int) (w : World)
    (ra : Rd (Value.int .i64) w w.heap.size A xs) (rb : Rd (Value.int .i64) w w.heap.size B ys) :
    Calls Tryz.prog 86 #[.slice A xs.length c, .slice B ys.length d, .int .i64 m] w fun e w' => e = .returned (.tuple #[.int .i64 (dotV xs ys m), .int .i64 (dotE xs ys m)]) ∧ Below w.heap.size w w' := by
  have CM := hid (two_any A B xs.length ys.length c d hx hy)
  by_cases ht : twoE xs.length ys.length = 0
  · rw [show dotE xs ys m = if behE m = 0 then (tot (numD xs ys m) xs.length).2 else behE m from if_pos ht, show dotV xs ys m = if behE m = 0 then (tot (numD xs ys m) xs.length).1 else 0 from if_pos ht]
    obtain ⟨hn, hl⟩ := twoE_ok ht
    have HL := hid hl
    have HA := hid ra
    have HB := hid rb
    have IX := hid ix
    have IY := hid iy
    rw [ht] at CM
    clear ht hl ra rb ix iy
    by_cases hq : m < 0 ∨ 30 < m
    · rw [show behE m = 1 from if_pos hq, if_neg (by decide), if_neg (by decide)]
      by_cases h1 : m < 0
      · clear hq
        go_enter Tryz.func86, Tryz.ntmps86
        go_wp2_with fail
        refine (CM.out _).mono ?_
        rintro _ _ ⟨rfl, rfl⟩
        go_wp2_with fail
        go_ret2
        exact ⟨rfl, Below.refl _ _⟩
      · have h2 : 30 < m := by omega
        clear hq
        go_enter Tryz.func86, Tryz.ntmps86
        go_wp2_with fail
        refine (CM.out _).mono ?_
        rintro _ _ ⟨rfl, rfl⟩
        go_wp2_with fail
        go_ret2
        exact ⟨rfl, Below.refl _ _⟩
    · rw [show behE m = 0 from if_neg hq, if_pos rfl, if_pos rfl]
      have m1 : 0 ≤ m := by omega
      have m2 : m ≤ 30 := by omega
      clear hq
      go_enter Tryz.func86, Tryz.ntmps86
      go_wp2_with fail
      refine (CM.out _).mono ?_
      rintro _ _ ⟨rfl, rfl⟩
      go_wp2_with fail
      go_loopw [9, 27] (fun s i wr => ∃ (k : Nat) (S : Int), k ≤ xs.length ∧ i = .int .i64 k ∧ s = .int .i64 S ∧ I64 S ∧ tot (numD xs ys m) k = (S, 0) ∧ Below w.heap.size w wr) (fun _ i _ => xs.length - (intOf i).toNat)
      case atStart => exact ⟨0, 0, by omega, rfl, rfl, by decide, rfl, Below.refl _ _⟩
      case round =>
        obtain ⟨k, S, hk, rfl, rfl, hS, hs, hbr⟩ := hrel
        have HS := hid hs
        clear hs
        by_cases hlt : k < xs.length
        · have hlt2 : k < ys.length := by have := HL.out; omega
          obtain ⟨b1, o1, x, rfl, l1, ex, c1⟩ := (HA.out.below hbr).at_ hlt
          obtain ⟨b2, o2, y, rfl, l2, ey, c2⟩ := (HB.out.below hbr).at_ hlt2
          have CA := hid (ref_mul x y m (IX.out.at_ ex) (IY.out.at_ ey))
          have en : numD xs ys m k = (mulV x y m, mulE x y m) := by unfold numD; rw [getD_of ex, getD_of ey]
          have EN := hid en
          have iz := mulV_i64 x y m
          clear ex ey en
          obtain ⟨z, hz⟩ : ∃ z, mulV x y m = z := ⟨_, rfl⟩
          obtain ⟨er, he⟩ : ∃ z, mulE x y m = z := ⟨_, rfl⟩
          rw [hz, he] at CA EN
          rw [hz] at iz
          have CB := ref_Add S z hS iz
          clear hz he
          by_cases her : er = 0
          · subst her
            by_cases hin : I64 (S + z)
            · rw [ckV_in hin, ckE_in hin] at CB
              obtain ⟨T, hT⟩ : ∃ T, S + z = T := ⟨_, rfl⟩
              rw [hT] at CB hin
              have HT := hid hT
              have CB' := hid CB
              clear CB hT
              go_wp2_with fail
              go_quiet ((go_at_call 36; exact quietL CA.out _))
              go_wp2_with fail
              refine (CB'.out _).mono ?_
              rintro _ _ ⟨rfl, rfl⟩
              go_wp2_with fail
              go_roundw
              case rel =>
                refine ⟨k + 1, T, by omega, by go_num, rfl, hin, ?_, hbr.trans (belowN _ _ _)⟩
                simp only [tot, HS.out, EN.out, HT.out, if_pos, ckV_in hin, ckE_in hin]
              case measure => simp [intOf]; omega
            · rw [ckV_out hin, ckE_out hin] at CB
              have CB' := hid CB
              clear CB
              go_wp2_with fail
              go_quiet ((go_at_call 36; exact quietL CA.out _))
              go_wp2_with fail
              refine (CB'.out _).mono ?_
              rintro _ _ ⟨rfl, rfl⟩
              go_wp2_with fail
              go_ret2
              have e1 : tot (numD xs ys m) (k + 1) = (0, 2) := by simp only [tot, HS.out, EN.out, if_pos, ckV_out hin, ckE_out hin]
              rw [tot_stays (k := k + 1) (by rw [e1]; decide) xs.length hlt, e1]
              exact ⟨rfl, hbr.trans (belowN _ _ _)⟩
          · have hne : (er != 0) = true := by simpa using her
            clear CB
            go_wp2_with fail
            go_quiet ((go_at_call 36; exact quietL CA.out _))
            go_wp2_with fail
            go_ret2
            have e1 : tot (numD xs ys m) (k + 1) = (0, er) := by simp only [tot, HS.out, EN.out, if_pos, if_neg her]
            rw [tot_stays (k := k + 1) (by rw [e1]; exact her) xs.length hlt, e1]
            exact ⟨rfl, hbr.trans (belowN _ _ _)⟩
        · obtain rfl : k = xs.length := by omega
          go_wp2_with fail
          go_ret2
          rw [HS.out]
          exact ⟨rfl, hbr⟩
  · rw [show dotE xs ys m = twoE xs.length ys.length from if_neg ht, show dotV xs ys m = 0 from if_neg ht]
    obtain ⟨t, hte⟩ : ∃ t, twoE xs.length ys.length = t := ⟨_, rfl⟩
    rw [hte] at ht CM ⊢
    have hne : (t != 0) = true := by simpa using ht
    clear ix iy ra rb ht hte
    go_enter Tryz.func86, Tryz.ntmps86
    go_wp2_with fail
    refine (CM.out _).mono ?_
    rintro _ _ ⟨rfl, rfl⟩
    go_wp2_with fail
    go_ret2
    exact ⟨rfl, Below.refl _ _⟩
end Go.Proofs.YtehbdnehlfplaaaGreat
/- The document's vec: Sum; the chapter's examples; how many are short enough. -/
namespace Go.Proofs.YtehbdnehlfplaaaGreat
open Go.RowKit
set_option maxHeartbeats 400000
set_option maxRecDepth 100000
set_option linter.unusedVariables false
theorem rSum_any (A : Option Addr) (c : Nat) (rows : List (List Int)) (ho : RowsOk rows) (hr : rows.length ≤ 1099511627776) (w : World) (ra : RdRows w w.heap.size A rows) :
    Calls Tryz.prog 37 #[.slice A rows.length c] w (OwnInts (sumAll rows).1 (sumAll rows).2 w) := by
  have RA := hid ra
  have HR := hid ho
  clear ra ho
  go_enter Tryz.func37, Tryz.ntmps37
  go_wp2_with fail
  go_loopw [4, 12] (fun s i wr => ∃ (k : Nat) (S : List Int) (A2 : Option Addr) (c2 : Nat), k ≤ rows.length ∧ i = .int .i64 k ∧ s = .slice A2 S.length c2 ∧ wr.ownsRow w.heap.size 2 1 (.slice A2 S.length c2) S.length (S.map (Value.int .i64)) ∧ I64s S ∧ S.length ≤ 4096 ∧ (k = 0 → S = []) ∧ (1 ≤ k → sumFrom S (rows.drop k) = sumAll rows) ∧ Below w.heap.size w wr) (fun _ i _ => rows.length - (intOf i).toNat)
  case atStart => exact ⟨0, [], none, 0, by omega, rfl, rfl, own_nil _ _ _, by intro x hx; simp at hx, by simp, fun _ => rfl, fun h => absurd h (by omega), Below.refl _ _⟩
  case round =>
    obtain ⟨k, S, A2, c2, hk, rfl, rfl, hS, iS, lS, h0S, hs, hbr⟩ := hrel
    have HSO := hid hS
    have HSI := hid iS
    have HSE := hid hs
    have HS0 := hid h0S
    clear hS iS hs h0S
    by_cases hlt : k < rows.length
    · obtain ⟨u, hu⟩ : ∃ u, rows[k]? = some u := ⟨_, List.getElem?_eq_getElem hlt⟩
      obtain ⟨b, off, A3, c3, rfl, l3, hc3, hr3⟩ := RA.out k u hu
      have hc4 := (hbr.cell (p := ⟨b, off + k, none⟩) l3).trans hc3
      obtain ⟨iu, lu⟩ := HR.out u (List.mem_of_getElem? hu)
      by_cases hk0 : k = 0
      · have hk1 : ((k : Int) == 0) = true := by simp; omega
        have hk2 : k ≤ 0 := by omega
        have CM := hid (rCheck_any A3 u.length c3 (by omega))
        obtain ⟨v0, r0, hrows⟩ : ∃ v r, rows = v :: r := by
          cases rows with
          | nil => simp at hlt
          | cons v r => exact ⟨v, r, rfl⟩
        have huv : v0 = u := by rw [hk0, hrows] at hu; simpa using hu
        have HV := hid (And.intro hrows huv)
        have HIU := hid iu
        clear hrows huv iu
        by_cases hl : 4096 < u.length
        · rw [show oneE u.length = 3 from if_pos hl] at CM
          clear hc3 hr3 hu hk0
          go_wp2_with fail
          refine (CM.out _).mono ?_
          rintro _ _ ⟨rfl, rfl⟩
          go_wp2_with fail
          go_ret2
          obtain ⟨hrows, rfl⟩ := HV.out
          rw [show sumAll rows = ([], 3) by rw [hrows]; exact if_pos hl]
          exact ⟨none, 0, rfl, own_nil _ _ _, hbr⟩
        · rw [show oneE u.length = 0 from if_neg hl] at CM
          have hrd := hr3.below hbr
          have hSe := HS0.out hk0
          have HK0 := hid hk0
          clear hc3 hr3 hu hk0
          have HO0 := HSO.out
          have hS0 : S.length ≤ 0 := by rw [hSe]; simp
          have HSe := hid hSe
          clear hSe
          go_wp2_with fail
          refine (CM.out _).mono ?_
          rintro _ _ ⟨rfl, rfl⟩
          go_wp2_with (at_builtin; refine wpList_app (Value.int .i64) (fun _ => rfl) _ rfl _ _ 22 rfl w.heap.size 2 (.int .i64 0) 8 Tryz.underlying22 info_i64 rfl S _ _ rfl HO0 u _ c3 _ rfl hrd (by simp [maxLen]; omega) (by omega) hbr.size ?_)
          rintro S' A' c' w1 hS' ho1 hb1 _
          have HS' := hid hS'
          have HO' := hid ho1
          clear hS' ho1 HO0
          have hlS : S'.length ≤ 4096 := by rw [HS'.out, HSe.out]; simp; omega
          go_wp2_with fail
          go_roundw
          case rel =>
            refine ⟨k + 1, S', A', c', by omega, by go_num, rfl, HO'.out, ?_, hlS, fun h => absurd h (by omega), fun _ => ?_, hbr.trans hb1⟩
            · rw [HS'.out, HSe.out]; exact HIU.out
            · obtain ⟨hrows, rfl⟩ := HV.out
              rw [HS'.out, HSe.out, HK0.out, hrows]
              exact (if_neg hl).symm
          case measure => simp [intOf]; omega
      · have hk1 : ((k : Int) == 0) = false := by simp; omega
        have CA := hid (rAdd_any (c := c2) (d := c3) S u (by omega) (by omega) HSI.out iu wr (own_rd HSO.out) ((hr3.below hbr).more hbr.size))
        have hgo := hid (fun h => sum_go (S := S) hu h)
        have hoff := hid (fun h => sum_off (S := S) hu h)
        have hlen := opV_len (· + ·) S u
        have hi64 := hid (opV_i64 (· + ·) S u)
        obtain ⟨er, he⟩ : ∃ x, opE (· + ·) S u = x := ⟨_, rfl⟩
        obtain ⟨T, hT⟩ : ∃ x, opV (· + ·) S u = x := ⟨_, rfl⟩
        rw [he, hT] at CA hgo
        rw [he] at hoff
        rw [hT] at hlen hi64
        have HK := hid hk0
        have kge : 1 ≤ k := by omega
        clear hc3 hr3 hu he hT hk0 iu
        go_wp2_with fail
        refine CA.out.mono ?_
        rintro _ w2 ⟨A4, c4, rfl, ho4, hb4⟩
        have HO4 := hid ho4
        clear ho4
        have hbr2 := hbr.trans (hb4.mono hbr.size)
        by_cases her : er = 0
        · subst her
          go_wp2_with fail
          go_roundw
          case rel => exact ⟨k + 1, T, A4, c4, by omega, by go_num, rfl, own_base HO4.out hbr.size, hi64.out, hlen, fun h => absurd h (by omega), fun _ => by rw [← hgo.out (by simp)]; exact HSE.out kge, hbr2⟩
          case measure => simp [intOf]; omega
        · have hne : (er != 0) = true := by simpa using her
          have hh := hid (hoff.out her)
          go_wp2_with fail
          go_ret2
          rw [← HSE.out kge, hh.out]
          exact ⟨none, 0, rfl, own_nil _ _ _, hbr2⟩
    · obtain rfl : k = rows.length := by omega
      go_wp2_with fail
      go_ret2
      have e : sumAll rows = (S, 0) := by
        by_cases h1 : 1 ≤ rows.length
        · have := HSE.out h1
          rw [List.drop_length] at this
          exact this.symm
        · have hnil : rows = [] := List.eq_nil_of_length_eq_zero (by omega)
          rw [HS0.out (by omega), hnil]; rfl
      rw [e]
      exact ⟨A2, c2, rfl, HSO.out, hbr⟩
end Go.Proofs.YtehbdnehlfplaaaGreat
/- Plain mathematics of vectors: when a call tells no error, and what it tells then. -/
namespace Go.Proofs.YtehbdnehlfplaaaGreat
set_option maxRecDepth 100000
set_option linter.unusedVariables false
theorem ckE_zero {s : Int} : ckE s = 0 ↔ I64 s := by
  unfold ckE; split <;> simp_all
theorem twoE_mk {n m : Nat} (h1 : n ≤ 4096) (h2 : m = n) : twoE n m = 0 := by
  unfold twoE; rw [if_neg (by omega), if_pos h2.symm]
theorem sumFrom_len : ∀ (r : List (List Int)) (S : List Int), S.length ≤ 4096 → (sumFrom S r).1.length ≤ 4096
  | [], S, h => h
  | v :: r, S, h => by
    unfold sumFrom
    split
    · exact sumFrom_len r _ (opV_len _ _ _)
    · simp
theorem sumAll_len {rows : List (List Int)} (h : RowsOk rows) : (sumAll rows).1.length ≤ 4096 := by
  unfold sumAll
  split
  · simp
  · split
    · simp
    · exact sumFrom_len _ _ (by omega)
end Go.Proofs.YtehbdnehlfplaaaGreat
/- Plain mathematics of vectors: sizes, the greatest, products. -/
namespace Go.Proofs.YtehbdnehlfplaaaGreat
set_option maxRecDepth 100000
set_option linter.unusedVariables false
theorem tot_i64 (num : Nat → Int × Int) (h : ∀ k, I64 (num k).1) : ∀ n, I64 (tot num n).1
  | 0 => (by decide : I64 0)
  | n + 1 => by
    have ih := tot_i64 num h n
    unfold tot
    by_cases h1 : (tot num n).2 = 0
    · rw [if_pos h1]
      by_cases h2 : (num n).2 = 0
      · rw [if_pos h2]; exact ckV_i64 _
      · rw [if_neg h2]; exact (by decide : I64 0)
    · rw [if_neg h1]; exact ih
end Go.Proofs.YtehbdnehlfplaaaGreat
/- Plain mathematics of vectors: sums of many; lists of lists in memory, part of them and turned round. -/
namespace Go.Proofs.YtehbdnehlfplaaaGreat
open Go.RowKit
set_option maxRecDepth 100000
set_option linter.unusedVariables false
theorem sumFrom_i64 : ∀ (r : List (List Int)) (S : List Int), I64s S → I64s (sumFrom S r).1
  | [], S, h => h
  | v :: r, S, h => by
    unfold sumFrom
    split
    · exact sumFrom_i64 r _ (opV_i64 _ _ _)
    · intro x hx; simp at hx
theorem sumAll_i64 {rows : List (List Int)} (h : RowsOk rows) : I64s (sumAll rows).1 := by
  unfold sumAll
  split
  · intro x hx; simp at hx
  · split
    · intro x hx; simp at hx
    · exact sumFrom_i64 _ _ (h _ (by simp)).1
end Go.Proofs.YtehbdnehlfplaaaGreat
/- Lines: what they tell, how far they are off, how they are to be bent. Plain mathematics. No program in sight. -/
namespace Go.Proofs.YtehbdnehlfplaaaGreat
open Go.RowKit
set_option maxRecDepth 100000
set_option linter.unusedVariables false
/-- A sample. -/
structure SmpV where
  X : List Int
  Y : Int
def ldE (n : Int) : Int := if n < 1 ∨ 16 < n then 1 else 0
def ldV (n : Int) : Int := if ldE n = 0 then n + 1 else 0
theorem ldE_ok {n : Int} : ldE n = 0 ↔ 1 ≤ n ∧ n ≤ 16 := by unfold ldE; split <;> simp <;> omega
/-- Whether a line goes with samples. -/
def oddX (n : Int) (ls : List SmpV) : Bool := ls.any fun s => decide ((s.X.length : Int) ≠ n)
def lcE (n : Int) (w : List Int) (ls : List SmpV) : Int :=
  if ldE n ≠ 0 then ldE n else if (w.length : Int) ≠ n + 1 then 4 else if oddX n ls = true then 4 else if ls.length = 0 ∨ 64 < ls.length then 1 else 0
theorem oddX_no {n : Int} {ls : List SmpV} : oddX n ls = false ↔ ∀ s ∈ ls, (s.X.length : Int) = n := by
  unfold oddX
  rw [List.any_eq_false]
  simp
theorem lcE_ok {n : Int} {w : List Int} {ls : List SmpV} : lcE n w ls = 0 ↔ (1 ≤ n ∧ n ≤ 16) ∧ (w.length : Int) = n + 1 ∧ (∀ s ∈ ls, (s.X.length : Int) = n) ∧ ls ≠ [] ∧ ls.length ≤ 64 := by
  unfold lcE
  rw [← ldE_ok, ← oddX_no]
  by_cases h1 : ldE n = 0
  · rw [if_neg (by simp [h1])]
    by_cases h2 : (w.length : Int) = n + 1
    · rw [if_neg (by simp [h2])]
      by_cases h3 : oddX n ls = true
      · rw [if_pos h3]; simp [h3]
      · rw [if_neg h3]
        have h3' : oddX n ls = false := by simpa using h3
        by_cases h4 : ls.length = 0 ∨ 64 < ls.length
        · rw [if_pos h4]
          refine ⟨fun h => absurd h (by decide), fun h => ?_⟩
          rcases h4 with h4 | h4
          · exact absurd (List.length_eq_zero_iff.1 h4) h.2.2.2.1
          · omega
        · rw [if_neg h4]
          exact ⟨fun _ => ⟨h1, h2, h3', fun h => h4 (.inl (by rw [h]; rfl)), by omega⟩, fun _ => rfl⟩
    · rw [if_pos h2]
      exact ⟨fun h => absurd h (by decide), fun h => absurd h.2.1 h2⟩
  · rw [if_pos h1]
    exact ⟨fun h => absurd h h1, fun h => absurd h.1 h1⟩
/-- What a line tells. -/
def ltE (w x : List Int) (f : Int) : Int :=
  if lcE x.length w [⟨x, 0⟩] ≠ 0 then lcE x.length w [⟨x, 0⟩] else if dotE (w.take x.length) x f ≠ 0 then dotE (w.take x.length) x f else ckE (dotV (w.take x.length) x f + w.getD x.length 0)
def ltV (w x : List Int) (f : Int) : Int := if ltE w x f = 0 then dotV (w.take x.length) x f + w.getD x.length 0 else 0
theorem ltE_ok {w x : List Int} {f : Int} : ltE w x f = 0 ↔ lcE x.length w [⟨x, 0⟩] = 0 ∧ dotE (w.take x.length) x f = 0 ∧ I64 (dotV (w.take x.length) x f + w.getD x.length 0) := by
  unfold ltE
  rw [← ckE_zero]
  by_cases h1 : lcE x.length w [⟨x, 0⟩] = 0
  · rw [if_neg (by simp [h1])]
    by_cases h2 : dotE (w.take x.length) x f = 0
    · rw [if_neg (by simp [h2])]; simp [h1, h2]
    · rw [if_pos h2]; simp [h2]
  · rw [if_pos h1]; simp [h1]
theorem ltV_i64 (w x : List Int) (f : Int) : I64 (ltV w x f) := by
  unfold ltV
  split
  · rename_i h; exact (ltE_ok.1 h).2.2
  · decide
/-- The mean of vectors. -/
def lmE (n : Int) (rows : List (List Int)) : Int := if n < 1 then 1 else (sumAll rows).2
def lmV (n : Int) (rows : List (List Int)) : List Int := if lmE n rows = 0 then (sumAll rows).1.map fun x => x / n else []
/-- The first error. -/
def fstE : List Int → Int
  | [] => 0
  | e :: r => if e ≠ 0 then e else fstE r
theorem fstE_ok : ∀ {l : List Int}, fstE l = 0 ↔ ∀ e ∈ l, e = 0
  | [] => by simp [fstE]
  | e :: r => by
    rw [fstE]
    by_cases h : e = 0
    · rw [if_neg (by simp [h]), fstE_ok]; simp [h]
    · rw [if_pos h]; simp [h]
end Go.Proofs.YtehbdnehlfplaaaGreat
/- An argument that is a sample (a list of numbers and a number), or a list of samples, opened. -/
namespace Go.Proofs.YtehbdnehlfplaaaGreat
open Go.ChangeShapes Go.WideShapes Go.ChangeAt Go.RowKit
set_option maxRecDepth 100000
set_option linter.unusedVariables false
instance smpInh : Inhabited SmpV := ⟨⟨[], 0⟩⟩
theorem smp_cells : Tryz.prog.cellsOf 36 = 2 := by kernel_rfl
theorem smp_cells1 : Tryz.prog.cellsOf 22 = 1 := by kernel_rfl
theorem smp_cells2 : Tryz.prog.cellsOf 2 = 1 := by kernel_rfl
/-- A slice of samples at A reads so; their numbers lie in blocks below B as well. -/
def RdSm (w : World) (B : Nat) (A : Option Addr) (ls : List SmpV) : Prop :=
  ∀ (k : Nat) (s : SmpV), ls[k]? = some s → ∃ b off Ax cx, A = some ⟨b, off, none⟩ ∧ b < B ∧ w.cell? ⟨b, off + k * 2, none⟩ = some (.slice Ax s.X.length cx) ∧ w.cell? ⟨b, off + k * 2 + 1, none⟩ = some (.int .i64 s.Y) ∧ Rd (Value.int .i64) w B Ax s.X
theorem RdSm.below {w w' : World} {B : Nat} {A : Option Addr} {ls : List SmpV} (h : RdSm w B A ls) (hb : Below B w w') : RdSm w' B A ls := fun k x hx => by
  obtain ⟨b, off, Ax, cx, e, hl, h0, h1, h2⟩ := h k x hx
  exact ⟨b, off, Ax, cx, e, hl, (hb.cell (p := ⟨b, off + k * 2, none⟩) hl).trans h0, (hb.cell (p := ⟨b, off + k * 2 + 1, none⟩) hl).trans h1, h2.below hb⟩
theorem RdSm.more {w : World} {B B' : Nat} {A : Option Addr} {ls : List SmpV} (h : RdSm w B A ls) (hB : B ≤ B') : RdSm w B' A ls := fun k x hx => by
  obtain ⟨b, off, Ax, cx, e, hl, h0, h1, h2⟩ := h k x hx
  exact ⟨b, off, Ax, cx, e, by omega, h0, h1, h2.more hB⟩
theorem RdSm.on {w w' : World} {A : Option Addr} {ls : List SmpV} (h : RdSm w w.heap.size A ls) (hb : Below w.heap.size w w') : RdSm w' w'.heap.size A ls := (h.below hb).more hb.size
theorem RdSm.none_ {w : World} {B : Nat} {A : Option Addr} : RdSm w B A [] := fun k x hx => by simp at hx
theorem RdSm.at_ {w : World} {B : Nat} {A : Option Addr} {ls : List SmpV} (h : RdSm w B A ls) {k : Nat} (hk : k < ls.length) :
    ∃ b off s Ax cx, A = some ⟨b, off, none⟩ ∧ b < B ∧ ls[k]? = some s ∧ w.cell? ⟨b, off + k * 2, none⟩ = some (.slice Ax s.X.length cx) ∧ w.cell? ⟨b, off + k * 2 + 1, none⟩ = some (.int .i64 s.Y) ∧ Rd (Value.int .i64) w B Ax s.X := by
  obtain ⟨b, off, Ax, cx, e, hb, h0, h1, h2⟩ := h k ls[k] (List.getElem?_eq_getElem hk)
  exact ⟨b, off, ls[k], Ax, cx, e, hb, List.getElem?_eq_getElem hk, h0, h1, h2⟩
section
variable {H : Type} {enc : TypeId × Value → H} {W : World}
theorem smp_nums {P : Program} {k : IntKind} {t e : TypeId} {cs : List Value} {fuel : Nat} {x : DataW H × List MemPlace} (ht : P.underlying t = some (.slice e)) (he : P.underlying e = some (.int k)) (hc : P.cellsOf e = 1)
    (hf : DataW.trod enc P W 0 (fun _ => true) true fuel t cs = some x) :
    ∃ A xs c, cs = [.slice A xs.length c] ∧ Rd (Value.int k) W W.heap.size A xs ∧ (∀ x ∈ xs, (Lit.int k x).wf = true) ∧ xs.length ≤ c ∧ c ≤ 9223372036854775807 := by
  rcases open_ints ht he hc hf with ⟨rfl, _⟩ | ⟨a, len, cap, zs, rfl, _, hl, hm, hz, _, hcell, hwz⟩
  · exact ⟨none, [], 0, rfl, Rd.none_, by intro x hx; simp at hx, by simp, by omega⟩
  · simp only [if_true] at hz
    have hlen : (zs.take len).length = len := by rw [List.length_take]; omega
    refine ⟨some a, zs.take len, cap, by rw [hlen], nums_rd rfl fun i hi => hcell i (by omega), fun x hx => hwz x (List.mem_of_mem_take hx), by omega, by unfold maxLen at hm; omega⟩
theorem smp_list2 {cs : List Value} (h : cs.length = 2) : ∃ a b, cs = [a, b] := by
  match cs, h with
  | [a, b], _ => exact ⟨a, b, rfl⟩
theorem cell_smp {c0 c1 : Value} {fuel : Nat} {x : DataW H × List MemPlace}
    (hf : DataW.trod enc Tryz.prog W 0 (fun _ => true) true fuel 36 [c0, c1] = some x) :
    ∃ A X c Y, [c0, c1] = [.slice A X.length c, .int .i64 Y] ∧ Rd (Value.int .i64) W W.heap.size A X ∧ I64s X ∧ I64 Y ∧ X.length ≤ c ∧ c ≤ 9223372036854775807 := by
  obtain ⟨xs, n, _, _, _, hlen, hg⟩ := DataW.trod_struct Tryz.underlying36 hf
  have h0 := hg 0 _ rfl
  have h1 := hg 1 _ rfl
  have hlen2 : xs.length = 2 := hlen
  obtain ⟨x0, x1, rfl⟩ : ∃ x0 x1, xs = [x0, x1] := by
    match xs, hlen2 with
    | [x0, x1], _ => exact ⟨x0, x1, rfl⟩
  simp [smp_cells1] at h0
  simp [smp_cells2] at h1
  obtain ⟨A, X, c, e0, r0, w0, l0, m0⟩ := smp_nums Tryz.underlying22 Tryz.underlying2 smp_cells2 h0
  obtain ⟨Y, e1, _, w1⟩ := DataW.trod_int Tryz.underlying2 h1
  simp only [List.cons.injEq, and_true] at e0 e1
  subst e0 e1
  exact ⟨A, X, c, Y, rfl, r0, fun x hx => I64.of_wf (w0 x hx), I64.of_wf w1, l0, m0⟩
theorem open_smps {r : Reach} {v : Value} {d : DataW H} {ps : List MemPlace} {b0 : Nat}
    (hval : Value.okWide Tryz.prog W r b0 23 v) (hd : DataW.Trod enc Tryz.prog W 0 (fun _ => true) true 23 v d ps) :
    ∃ A ls c, v = .slice A ls.length c ∧ RdSm W W.heap.size A ls ∧ (∀ s ∈ ls, I64s s.X ∧ I64 s.Y ∧ s.X.length ≤ 9223372036854775807) ∧ ls.length ≤ c ∧ c ≤ 9223372036854775807 := by
  obtain ⟨A, len, cap, rfl⟩ := okWide_slice Tryz.underlying23 hval
  obtain ⟨fuel, hf⟩ := hd
  rcases Deep.open_slice Tryz.underlying23 hf with ⟨hcs, _⟩ | ⟨a, len', cap', m, n, D, Pl, hcs, _, hl, hm, hmm, _, hx⟩
  · simp [Value.cells] at hcs
    obtain ⟨rfl, rfl, rfl⟩ := hcs
    exact ⟨none, [], 0, rfl, .none_, by simp, by simp, by omega⟩
  · simp [Value.cells] at hcs
    obtain ⟨rfl, rfl, rfl⟩ := hcs
    simp only [if_true] at hmm
    subst hmm
    rw [smp_cells] at hx
    have each : ∀ i, i < m → ∃ y : SmpV × Option Addr × Nat, W.cell? ((a.add (i * 2)).add 0) = some (.slice y.2.1 y.1.X.length y.2.2) ∧ W.cell? ((a.add (i * 2)).add 1) = some (.int .i64 y.1.Y) ∧ Rd (Value.int .i64) W W.heap.size y.2.1 y.1.X ∧
        I64s y.1.X ∧ I64 y.1.Y ∧ y.1.X.length ≤ 9223372036854775807 := by
      intro i hi
      obtain ⟨cs, h1, h2⟩ := hx i hi
      obtain ⟨_, hlen, hcell⟩ := World.cells?_some h1
      obtain ⟨c0, c1, rfl⟩ := smp_list2 hlen
      obtain ⟨A, X, c, Y, e, i1, i2, i3, i4, i5⟩ := cell_smp h2
      simp only [List.cons.injEq, and_true] at e
      obtain ⟨e0, e1⟩ := e
      subst e0 e1
      exact ⟨(⟨X, Y⟩, A, c), hcell 0 (by omega), hcell 1 (by omega), i1, i2, i3, Nat.le_trans i4 i5⟩
    obtain ⟨y, hy⟩ := Deep.choose_lt each
    have hml : m ≤ 9223372036854775807 := by unfold maxLen at hm; omega
    refine ⟨some a, (List.range len).map fun i => (y i).1, m, by simp, ?_, ?_, by simp; omega, hml⟩
    · intro k x hx
      have hk : k < len := by have := (List.getElem?_eq_some_iff.1 hx).1; simpa using this
      have hxs : x = (y k).1 := by simpa [hk] using hx.symm
      subst hxs
      obtain ⟨h0, h1, h2, _⟩ := hy k (by omega)
      obtain ⟨b, off, spot⟩ := a
      have hs : spot = none := by
        have h9 := (hy 0 (by omega)).1
        have h8 := World.cell?_spot h9
        simpa [Addr.add] using h8
      subst hs
      rw [add_plain, add_plain] at h0 h1
      exact ⟨b, off, (y k).2.1, (y k).2.2, rfl, lt_of_cell h0, by simpa using h0, h1, h2⟩
    · intro h hh
      obtain ⟨k, hk, rfl⟩ := List.mem_map.1 hh
      have hk' : k < len := by simpa using hk
      exact (hy k (by omega)).2.2.2
end
end Go.Proofs.YtehbdnehlfplaaaGreat
/- Lines, by the document: Dim, Check, Tell. -/
namespace Go.Proofs.YtehbdnehlfplaaaGreat
open Go.RowKit
set_option maxHeartbeats 2000000
set_option maxRecDepth 100000
set_option linter.unusedVariables false
theorem ref_Dim14 (n : Int) (hn : I64 n) (w : World) :
    Calls Tryz.prog 100 #[.int .i64 n] w fun e w' => e = .returned (.tuple #[.int .i64 (ldV n), .int .i64 (ldE n)]) ∧ w = w' := by
  by_cases h1 : n < 1
  · have e1 : ldE n = 1 := if_pos (Or.inl h1)
    have e2 : ldV n = 0 := if_neg (by rw [e1]; decide)
    rw [e1, e2]
    clear e1 e2
    go_enter Tryz.func100, Tryz.ntmps100
    go_wp2_with fail
    go_ret2
    exact ⟨rfl, rfl⟩
  · by_cases h2 : n > 16
    · have e1 : ldE n = 1 := if_pos (Or.inr h2)
      have e2 : ldV n = 0 := if_neg (by rw [e1]; decide)
      rw [e1, e2]
      clear e1 e2
      go_enter Tryz.func100, Tryz.ntmps100
      go_wp2_with fail
      go_ret2
      exact ⟨rfl, rfl⟩
    · have e1 : ldE n = 0 := if_neg (by omega)
      have e2 : ldV n = n + 1 := if_pos e1
      rw [e1, e2]
      have hw : IntKind.i64.wrap (n + 1) = n + 1 := Go.IntWalk.i64_in _ (by omega)
      clear e1 e2
      go_enter Tryz.func100, Tryz.ntmps100
      go_wp2_with fail
      go_ret2
      exact ⟨rfl, rfl⟩
theorem ref_Check14 {Aw A : Option Addr} {cw c : Nat} (n : Int) (hn : I64 n) (u : List Int) (hu : u.length ≤ 9223372036854775807) (ls : List SmpV) (hl : ls.length ≤ 9223372036854775807) (hX : ∀ s ∈ ls, s.X.length ≤ 9223372036854775807) (w : World) (ra : RdSm w w.heap.size A ls) :
    Calls Tryz.prog 85 #[.int .i64 n, .slice Aw u.length cw, .slice A ls.length c] w fun e w' => e = .returned (.int .i64 (lcE n u ls)) ∧ Below w.heap.size w w' := by
  have CD := hid (fun w => ref_Dim14 n hn w)
  obtain ⟨M, hM⟩ : ∃ M, ls.length = M := ⟨_, rfl⟩
  obtain ⟨U, hU⟩ : ∃ U, u.length = U := ⟨_, rfl⟩
  by_cases h1 : ldE n = 0
  · have e2 : ldV n = n + 1 := if_pos h1
    have hr := ldE_ok.1 h1
    rw [h1, e2] at CD
    obtain ⟨N1, hN1⟩ : ∃ N1, n + 1 = N1 := ⟨_, rfl⟩
    by_cases h2 : (u.length : Int) = n + 1
    · have HE : Hid (lcE n u ls = if oddX n ls = true then 4 else if ls.length = 0 ∨ 64 < ls.length then 1 else 0) := hid (by
        unfold lcE; rw [if_neg (by simp [h1]), if_neg (by simp [h2])])
      rw [hU, hN1] at h2
      rw [hN1] at CD
      have t0 : ((U : Int) != N1) = false := by rw [h2]; simp
      rw [hM, hU]
      have HM := hid hM
      have RA := hid ra
      have HX := hid hX
      obtain ⟨E, hE⟩ : ∃ E, lcE n u ls = E := ⟨_, rfl⟩
      rw [hE]
      have HEE := hid hE
      clear h1 e2 hr hN1 hM hU ra hX hE h2
      go_enter Tryz.func85, Tryz.ntmps85
      go_wp2_with fail
      refine (CD.out _).mono ?_
      rintro _ _ ⟨rfl, rfl⟩
      go_wp2_with fail
      have hMb : M ≤ 9223372036854775807 := by have := HM.out; omega
      go_loopw [10, 25] (fun _ xi wr => ∃ k : Nat, k ≤ M ∧ xi = .int .i64 (k : Int) ∧ (∀ j s, j < k → ls[j]? = some s → (s.X.length : Int) = n) ∧ Below w.heap.size w wr) (fun _ xi _ => M - (intOf xi).toNat)
      case atStart => exact ⟨0, Nat.zero_le _, rfl, fun j s hj => by omega, Below.refl _ _⟩
      case round =>
        obtain ⟨k, hk, rfl, hall, hbel⟩ := hrel
        have HA := hid hall
        have HB := hid hbel
        clear hall
        by_cases hlt : k < M
        · obtain ⟨b1, o1, s, Ax, cx, rfl, l1, en, c1, d1, rx⟩ := (RA.out.on hbel).at_ (k := k) (by rw [HM.out]; exact hlt)
          have HS := hid en
          clear hbel en rx
          obtain ⟨X, hX⟩ : ∃ X, s.X.length = X := ⟨_, rfl⟩
          have HXX := hid hX
          rw [hX] at c1
          obtain ⟨Y, hY⟩ : ∃ Y, s.Y = Y := ⟨_, rfl⟩
          rw [hY] at d1
          clear hX hY
          by_cases hx : (X : Int) = n
          · have t1 : ((X : Int) != n) = false := by rw [hx]; simp
            have hw : IntKind.i64.wrap ((k : Int) + 1) = ((k + 1 : Nat) : Int) := Go.IntWalk.i64_in _ (by clear hx t1; omega)
            have HXN := hid hx
            clear hx
            go_wp2_with fail
            go_roundw
            case rel =>
              refine ⟨k + 1, hlt, rfl, ?_, HB.out.alloc HB.out.size _⟩
              intro j s' hj hs'
              by_cases e : j = k
              · subst e
                obtain rfl : s = s' := Option.some.inj (HS.out.symm.trans hs')
                rw [HXX.out]; exact HXN.out
              · exact HA.out j s' (by omega) hs'
            case measure => (try clear hw); simp [intOf]; omega
          · have t1 : ((X : Int) != n) = true := by simpa using hx
            have hodd : E = 4 := by
              rw [← HEE.out, HE.out]
              refine if_pos ?_
              unfold oddX
              rw [List.any_eq_true]
              exact ⟨s, List.mem_of_getElem? HS.out, by rw [HXX.out]; simpa using hx⟩
            subst hodd
            clear hx
            go_wp2_with fail
            go_ret
            exact ⟨rfl, HB.out.alloc HB.out.size _⟩
        · obtain rfl : k = M := by omega
          have hno : oddX n ls = false := oddX_no.2 fun s hs => by
            obtain ⟨j, hj, rfl⟩ := List.mem_iff_getElem.1 hs
            exact HA.out j _ (by rw [← HM.out]; exact hj) (List.getElem?_eq_getElem hj)
          have hE2 := HE.out
          rw [hno, if_neg (by decide), HEE.out, HM.out] at hE2
          by_cases h0 : k = 0
          · have m0 : ((k : Int) == 0) = true := by rw [h0]; rfl
            have : E = 1 := by rw [hE2]; exact if_pos (Or.inl h0)
            subst this
            clear hE2 hno h0 hbel
            go_wp2_with fail
            go_ret
            exact ⟨rfl, HB.out⟩
          · have m0 : ((k : Int) == 0) = false := beq_eq_false_iff_ne.2 (by omega)
            by_cases h64 : 64 < k
            · have m1 : (k : Int) > 64 := by omega
              have : E = 1 := by rw [hE2]; exact if_pos (Or.inr h64)
              subst this
              clear hE2 hno h0 hbel h64
              go_wp2_with fail
              go_ret
              exact ⟨rfl, HB.out⟩
            · have m1 : ¬ (k : Int) > 64 := by omega
              have : E = 0 := by rw [hE2]; exact if_neg (by omega)
              subst this
              clear hE2 hno h0 hbel h64
              go_wp2_with fail
              go_ret
              exact ⟨rfl, HB.out⟩
    · have e : lcE n u ls = 4 := by unfold lcE; rw [if_neg (by simp [h1]), if_pos h2]
      rw [e]
      rw [hU, hN1] at h2
      rw [hN1] at CD
      have t0 : ((U : Int) != N1) = true := by simpa using h2
      rw [hM, hU]
      clear h1 e2 hr hN1 hM hU ra hX e h2
      go_enter Tryz.func85, Tryz.ntmps85
      go_wp2_with fail
      refine (CD.out _).mono ?_
      rintro _ _ ⟨rfl, rfl⟩
      go_wp2_with fail
      go_ret
      exact ⟨rfl, Below.refl _ _⟩
  · have e : lcE n u ls = ldE n := by unfold lcE; rw [if_pos h1]
    rw [e]
    have e2 : ldV n = 0 := if_neg h1
    obtain ⟨E, hE⟩ : ∃ E, ldE n = E := ⟨_, rfl⟩
    rw [e2] at CD
    rw [hE] at CD h1 ⊢
    have hne : (E != 0) = true := by simpa using h1
    rw [hM, hU]
    clear e e2 hE h1 ra hX hM hU
    go_enter Tryz.func85, Tryz.ntmps85
    go_wp2_with fail
    refine (CD.out _).mono ?_
    rintro _ _ ⟨rfl, rfl⟩
    go_wp2_with fail
    go_ret
    exact ⟨rfl, Below.refl _ _⟩
end Go.Proofs.YtehbdnehlfplaaaGreat
/- Lines: how few samples are played. -/
namespace Go.Proofs.YtehbdnehlfplaaaGreat
open Go.RowKit
set_option maxHeartbeats 2000000
set_option maxRecDepth 100000
set_option linter.unusedVariables false
def fewL (U : Nat) (ls : List SmpV) : Bool := (ls.all fun s => decide (s.X.length ≤ 100)) && (decide (U ≤ 500) && decide (ls.length ≤ 100))
theorem ref_Few14 {Aw A : Option Addr} {cw c : Nat} (U : Nat) (hU : U ≤ 9223372036854775807) (ls : List SmpV) (hl : ls.length ≤ 9223372036854775807) (w : World) (ra : RdSm w w.heap.size A ls) :
    Calls Tryz.prog 5 #[.slice Aw U cw, .slice A ls.length c] w fun e w' => e = .returned (.bool (fewL U ls)) ∧ Below w.heap.size w w' := by
  obtain ⟨M, hM⟩ : ∃ M, ls.length = M := ⟨_, rfl⟩
  obtain ⟨R, hR⟩ : ∃ R, fewL U ls = R := ⟨_, rfl⟩
  rw [hR, hM]
  rw [hM] at hl
  have HR := hid hR
  have HM := hid hM
  have RA := hid ra
  clear hR hM ra
  go_enter Tryz.func5, Tryz.ntmps5
  go_wp2_with fail
  go_loopw [6, 9] (fun _ xi wr => ∃ k : Nat, k ≤ M ∧ xi = .int .i64 (k : Int) ∧ (∀ j s, j < k → ls[j]? = some s → s.X.length ≤ 100) ∧ Below w.heap.size w wr) (fun _ xi _ => M - (intOf xi).toNat)
  case atStart => exact ⟨0, Nat.zero_le _, rfl, fun j s hj => by omega, Below.refl _ _⟩
  case round =>
    obtain ⟨k, hk, rfl, hall, hbel⟩ := hrel
    have HA := hid hall
    have HB := hid hbel
    clear hall
    by_cases hlt : k < M
    · obtain ⟨b1, o1, s, Ax, cx, rfl, l1, en, c1, d1, rx⟩ := (RA.out.on hbel).at_ (k := k) (by rw [HM.out]; exact hlt)
      have HS := hid en
      clear hbel en rx
      obtain ⟨X, hX⟩ : ∃ X, s.X.length = X := ⟨_, rfl⟩
      have HXX := hid hX
      rw [hX] at c1
      obtain ⟨Y, hY⟩ : ∃ Y, s.Y = Y := ⟨_, rfl⟩
      rw [hY] at d1
      clear hX hY
      by_cases hx : X ≤ 100
      · have t1 : ¬ (X : Int) > 100 := by omega
        have hw : IntKind.i64.wrap ((k : Int) + 1) = ((k + 1 : Nat) : Int) := Go.IntWalk.i64_in _ (by omega)
        go_wp2_with fail
        go_roundw
        case rel =>
          refine ⟨k + 1, hlt, rfl, ?_, HB.out.alloc HB.out.size _⟩
          intro j s' hj hs'
          by_cases e : j = k
          · subst e
            obtain rfl : s = s' := Option.some.inj (HS.out.symm.trans hs')
            rw [HXX.out]; exact hx
          · exact HA.out j s' (by clear hw; omega) hs'
        case measure => (try clear hw); simp [intOf]; omega
      · have t1 : (X : Int) > 100 := by omega
        have : R = false := by
          rw [← HR.out]
          unfold fewL
          have : (ls.all fun s => decide (s.X.length ≤ 100)) = false := by
            rw [List.all_eq_false]
            exact ⟨s, List.mem_of_getElem? HS.out, by rw [HXX.out]; simpa using hx⟩
          rw [this, Bool.false_and]
        subst this
        clear hx
        go_wp2_with fail
        go_ret
        exact ⟨rfl, HB.out.alloc HB.out.size _⟩
    · obtain rfl : k = M := by omega
      have hall : (ls.all fun s => decide (s.X.length ≤ 100)) = true := by
        rw [List.all_eq_true]
        intro s hs
        obtain ⟨j, hj, rfl⟩ := List.mem_iff_getElem.1 hs
        exact decide_eq_true (HA.out j _ (by rw [← HM.out]; exact hj) (List.getElem?_eq_getElem hj))
      have hr2 : R = (decide (U ≤ 500) && decide (k ≤ 100)) := by
        rw [← HR.out]; unfold fewL; rw [hall, HM.out, Bool.true_and]
      clear hall hbel
      by_cases g1 : U ≤ 500
      · have g1' : (U : Int) ≤ 500 := by omega
        by_cases g2 : k ≤ 100
        · have g2' : (k : Int) ≤ 100 := by omega
          rw [decide_eq_true g1, decide_eq_true g2] at hr2
          subst hr2
          go_wp2_with fail
          go_ret
          exact ⟨rfl, HB.out⟩
        · have g2' : ¬ (k : Int) ≤ 100 := by omega
          rw [decide_eq_true g1, decide_eq_false g2] at hr2
          subst hr2
          go_wp2_with fail
          go_ret
          exact ⟨rfl, HB.out⟩
      · have g1' : ¬ (U : Int) ≤ 500 := by omega
        rw [decide_eq_false g1, Bool.false_and] at hr2
        subst hr2
        go_wp2_with fail
        go_ret
        exact ⟨rfl, HB.out⟩
end Go.Proofs.YtehbdnehlfplaaaGreat
/- Lines: told right, turned round, twice as steep, with another base. Plain mathematics. No program in sight. -/
namespace Go.Proofs.YtehbdnehlfplaaaGreat
open Go.RowKit
set_option maxRecDepth 100000
set_option linter.unusedVariables false
theorem beh_bad {f : Int} (h : ¬ (0 ≤ f ∧ f ≤ 30)) : behE f = 1 := if_pos (by omega)
/-- One sample alone. -/
theorem lc_one {n : Int} {w x : List Int} (hx : (x.length : Int) = n) (h1 : 1 ≤ n) (h2 : n ≤ 16) (hw : (w.length : Int) = n + 1) : lcE x.length w [⟨x, 0⟩] = 0 :=
  lcE_ok.2 ⟨⟨by omega, by omega⟩, by omega, fun s hs => by simp at hs; subst hs; rfl, by simp, by simp⟩
end Go.Proofs.YtehbdnehlfplaaaGreat
/- Lines: told right; of one sample; samples in another order. Plain mathematics. No program in sight. -/
/- Lines of classes: the lines, what they tell, shares, the class, how far they are off; what follows. Plain mathematics. No program in sight. -/
namespace Go.Proofs.YtehbdnehlfplaaaGreat
open Go.RowKit
set_option maxRecDepth 100000
set_option linter.unusedVariables false
def sdE (n out : Int) : Int := if n < 1 ∨ 16 < n ∨ out < 2 ∨ 8 < out then 1 else 0
def sdV (n out : Int) : Int := if sdE n out = 0 then out * (n + 1) else 0
/-- Whether lines go with samples. -/
def badY (out : Int) (ls : List SmpV) : Bool := ls.any fun s => decide (s.Y < 0 ∨ out ≤ s.Y)
def scE (n out : Int) (w : List Int) (ls : List SmpV) : Int :=
  if sdE n out ≠ 0 then sdE n out else if (w.length : Int) ≠ out * (n + 1) then 4 else if oddX n ls = true then 4 else if ls.length = 0 ∨ 64 < ls.length then 1 else if badY out ls = true then 1 else 0
/-- The lines. -/
def rwE (out : Int) (w : List Int) : Int := if out < 2 ∨ 8 < out then 1 else if w.length % out.toNat ≠ 0 ∨ w.length / out.toNat < 2 ∨ 17 < w.length / out.toNat then 4 else 0
def rwR (n : Nat) (w : List Int) (i : Nat) : List Int := (w.drop (i * n)).take n
def rwL (out : Int) (w : List Int) : List (List Int) := (List.range out.toNat).map (rwR (w.length / out.toNat) w)
theorem rwE_ok {out : Int} {w : List Int} : rwE out w = 0 ↔ 2 ≤ out ∧ out ≤ 8 ∧ w.length % out.toNat = 0 ∧ 2 ≤ w.length / out.toNat ∧ w.length / out.toNat ≤ 17 := by
  unfold rwE
  by_cases h : out < 2 ∨ 8 < out
  · rw [if_pos h]
    exact ⟨fun h2 => absurd h2 (by decide), fun h2 => by omega⟩
  · rw [if_neg h]
    by_cases h2 : w.length % out.toNat ≠ 0 ∨ w.length / out.toNat < 2 ∨ 17 < w.length / out.toNat
    · rw [if_pos h2]
      exact ⟨fun h3 => absurd h3 (by decide), fun h3 => by omega⟩
    · rw [if_neg h2]
      exact ⟨fun _ => by omega, fun _ => rfl⟩
theorem rw_len {out : Int} {w : List Int} (h : rwE out w = 0) : out.toNat * (w.length / out.toNat) = w.length := by
  obtain ⟨_, _, h3, _⟩ := rwE_ok.1 h
  have := Nat.div_add_mod w.length out.toNat
  omega
theorem rwR_len {n : Nat} {w : List Int} {i k : Nat} (hk : k * n = w.length) (hi : i < k) : (rwR n w i).length = n := by
  have h : (i + 1) * n ≤ k * n := Nat.mul_le_mul_right _ hi
  rw [Nat.add_mul, Nat.one_mul] at h
  unfold rwR
  rw [List.length_take, List.length_drop]
  omega
/-- What the lines tell. -/
def lzE (out : Int) (w x : List Int) (f : Int) : Int :=
  if rwE out w ≠ 0 then rwE out w else if w.length / out.toNat ≠ x.length + 1 then 4 else if f < 0 ∨ 30 < f then 1 else fstE ((rwL out w).map fun r => ltE r x f)
def lzV (out : Int) (w x : List Int) (f : Int) : List Int := (rwL out w).map fun r => ltV r x f
theorem lzE_ok {out : Int} {w x : List Int} {f : Int} : lzE out w x f = 0 ↔ rwE out w = 0 ∧ w.length / out.toNat = x.length + 1 ∧ (0 ≤ f ∧ f ≤ 30) ∧ ∀ r ∈ rwL out w, ltE r x f = 0 := by
  unfold lzE
  have h9 : fstE ((rwL out w).map fun r => ltE r x f) = 0 ↔ ∀ r ∈ rwL out w, ltE r x f = 0 := by rw [fstE_ok]; simp
  rw [← h9]
  by_cases h1 : rwE out w = 0
  · rw [if_neg (by simp [h1])]
    by_cases h2 : w.length / out.toNat = x.length + 1
    · rw [if_neg (by simp [h2])]
      by_cases h3 : f < 0 ∨ 30 < f
      · rw [if_pos h3]
        exact ⟨fun h => absurd h (by decide), fun h => by omega⟩
      · rw [if_neg h3]
        exact ⟨fun h => ⟨h1, h2, by omega, h⟩, fun h => h.2.2.2⟩
    · rw [if_pos h2]
      exact ⟨fun h => absurd h (by decide), fun h => absurd h.2.1 h2⟩
  · rw [if_pos h1]
    exact ⟨fun h => absurd h h1, fun h => absurd h.1 h1⟩
theorem lzV_len (out : Int) (w x : List Int) (f : Int) : (lzV out w x f).length = out.toNat := by unfold lzV rwL; simp
theorem lzV_i64 (out : Int) (w x : List Int) (f : Int) : ∀ z ∈ lzV out w x f, I64 z := fun z hz => by
  unfold lzV at hz
  obtain ⟨r, _, rfl⟩ := List.mem_map.1 hz
  exact ltV_i64 r x f
/-- Shares, the class, how far they are off. -/
def stE (out : Int) (w x : List Int) (f : Int) : Int := if lzE out w x f ≠ 0 then lzE out w x f else sofE f (lzV out w x f)
def stV (out : Int) (w x : List Int) (f : Int) : List Int := if stE out w x f = 0 then sofL f (lzV out w x f) else []
def kcE (out : Int) (w x : List Int) (f : Int) : Int := if lzE out w x f ≠ 0 then lzE out w x f else bstE (lzV out w x f)
def kcN (out : Int) (w x : List Int) (f : Int) : Nat := if kcE out w x f = 0 then bstGo (lzV out w x f) (lzV out w x f).length else 0
def soE (out : Int) (w : List Int) (s : SmpV) (f : Int) : Int := if stE out w s.X f ≠ 0 then stE out w s.X f else if s.Y < 0 ∨ out ≤ s.Y then 1 else 0
def soV (out : Int) (w : List Int) (s : SmpV) (f : Int) : List Int := if soE out w s f = 0 then (stV out w s.X f).set s.Y.toNat ((stV out w s.X f).getD s.Y.toNat 0 - 2 ^ f.toNat) else []
theorem stE_ok {out : Int} {w x : List Int} {f : Int} : stE out w x f = 0 ↔ lzE out w x f = 0 ∧ sofE f (lzV out w x f) = 0 := by
  unfold stE
  by_cases h : lzE out w x f = 0
  · rw [if_neg (by simp [h])]; simp [h]
  · rw [if_pos h]; simp [h]
theorem soE_ok {out : Int} {w : List Int} {s : SmpV} {f : Int} : soE out w s f = 0 ↔ stE out w s.X f = 0 ∧ 0 ≤ s.Y ∧ s.Y < out := by
  unfold soE
  by_cases h : stE out w s.X f = 0
  · rw [if_neg (by simp [h])]
    by_cases h2 : s.Y < 0 ∨ out ≤ s.Y
    · rw [if_pos h2]
      exact ⟨fun h3 => absurd h3 (by decide), fun h3 => by omega⟩
    · rw [if_neg h2]
      exact ⟨fun _ => ⟨h, by omega⟩, fun _ => rfl⟩
  · rw [if_pos h]
    exact ⟨fun h3 => absurd h3 h, fun h3 => absurd h3.1 h⟩
theorem sum_set {l : List Int} {i : Nat} {x : Int} (h : i < l.length) : (l.set i x).sum = l.sum - l.getD i 0 + x := by
  induction l generalizing i with
  | nil => simp at h
  | cons y t ih =>
    cases i with
    | zero => simp; omega
    | succ i =>
      rw [List.set_cons_succ, List.sum_cons, List.sum_cons, ih (by simpa using h), List.getD_cons_succ]
      omega
/-- How far a sample is off, together, and class by class. -/
theorem soft_off {out : Int} {w : List Int} {s : SmpV} {f : Int} (h : soE out w s f = 0) :
    ((soV out w s f).length : Int) = out ∧ (soV out w s f).sum ≤ 0 ∧ -out < (soV out w s f).sum ∧
    (∀ i : Nat, (i : Int) < out → ((i : Int) = s.Y → (soV out w s f).getD i 0 ≤ 0 ∧ -(2 ^ f.toNat) ≤ (soV out w s f).getD i 0) ∧ (¬ (i : Int) = s.Y → 0 ≤ (soV out w s f).getD i 0 ∧ (soV out w s f).getD i 0 ≤ 2 ^ f.toNat)) := by
  obtain ⟨h1, h2, h3⟩ := soE_ok.1 h
  obtain ⟨h4, h5⟩ := stE_ok.1 h1
  obtain ⟨a1, a2, a3, _⟩ := sof_whole h5
  have hl := lzV_len out w s.X f
  have hsl := sofL_len f (lzV out w s.X f)
  have e1 : stV out w s.X f = sofL f (lzV out w s.X f) := if_pos h1
  have e2 : soV out w s f = (stV out w s.X f).set s.Y.toNat ((stV out w s.X f).getD s.Y.toNat 0 - 2 ^ f.toNat) := if_pos h
  obtain ⟨P, hP⟩ : ∃ P, sofL f (lzV out w s.X f) = P := ⟨_, rfl⟩
  rw [hP] at a1 a2 a3 hsl e1
  rw [e1] at e2
  have hYl : s.Y.toNat < P.length := by omega
  have hat : ∀ i, i < P.length → 0 ≤ P.getD i 0 ∧ P.getD i 0 ≤ 2 ^ f.toNat := fun i hi => a3 _ (by rw [List.getD_eq_getElem?_getD, List.getElem?_eq_getElem hi, Option.getD_some]; exact List.getElem_mem _)
  have hsum := sum_set (x := P.getD s.Y.toNat 0 - 2 ^ f.toNat) hYl
  rw [e2]
  refine ⟨by rw [List.length_set]; omega, by rw [hsum]; omega, by rw [hsum]; omega, fun i hi => ⟨fun e => ?_, fun e => ?_⟩⟩
  · have e' : i = s.Y.toNat := by omega
    subst e'
    have := hat _ hYl
    rw [List.getD_eq_getElem?_getD, List.getElem?_set_self hYl, Option.getD_some]
    omega
  · have := hat i (by omega)
    rw [List.getD_eq_getElem?_getD, List.getElem?_set_ne (by omega), ← List.getD_eq_getElem?_getD]
    exact this
end Go.Proofs.YtehbdnehlfplaaaGreat
/- Lines of classes, by the document: Dim, Check. -/
namespace Go.Proofs.YtehbdnehlfplaaaGreat
open Go.RowKit
set_option maxHeartbeats 2000000
set_option maxRecDepth 100000
set_option linter.unusedVariables false
theorem ref_Dim15 (n o : Int) (hn : I64 n) (ho : I64 o) (w : World) :
    Calls Tryz.prog 26 #[.int .i64 n, .int .i64 o] w fun e w' => e = .returned (.tuple #[.int .i64 (sdV n o), .int .i64 (sdE n o)]) ∧ w = w' := by
  have hbad : (n < 1 ∨ 16 < n ∨ o < 2 ∨ 8 < o) → sdE n o = 1 ∧ sdV n o = 0 := fun h => by
    have e1 : sdE n o = 1 := if_pos h
    exact ⟨e1, if_neg (by rw [e1]; decide)⟩
  by_cases h0 : n < 1
  · obtain ⟨e1, e2⟩ := hbad (Or.inl h0)
    rw [e1, e2]
    clear e1 e2 hbad
    go_enter Tryz.func26, Tryz.ntmps26
    go_wp2_with fail
    go_ret2
    exact ⟨rfl, rfl⟩
  · by_cases h1 : n > 16
    · obtain ⟨e1, e2⟩ := hbad (Or.inr (Or.inl h1))
      rw [e1, e2]
      clear e1 e2 hbad
      go_enter Tryz.func26, Tryz.ntmps26
      go_wp2_with fail
      go_ret2
      exact ⟨rfl, rfl⟩
    · by_cases h2 : o < 2
      · obtain ⟨e1, e2⟩ := hbad (Or.inr (Or.inr (Or.inl h2)))
        rw [e1, e2]
        clear e1 e2 hbad
        go_enter Tryz.func26, Tryz.ntmps26
        go_wp2_with fail
        go_ret2
        exact ⟨rfl, rfl⟩
      · by_cases h3 : o > 8
        · obtain ⟨e1, e2⟩ := hbad (Or.inr (Or.inr (Or.inr h3)))
          rw [e1, e2]
          clear e1 e2 hbad
          go_enter Tryz.func26, Tryz.ntmps26
          go_wp2_with fail
          go_ret2
          exact ⟨rfl, rfl⟩
        · have e1 : sdE n o = 0 := if_neg (by omega)
          have e2 : sdV n o = o * (n + 1) := if_pos e1
          rw [e1, e2]
          obtain ⟨n1, hn1⟩ : ∃ n1, n + 1 = n1 := ⟨_, rfl⟩
          have hw : IntKind.i64.wrap (n + 1) = n1 := by rw [← hn1]; exact Go.IntWalk.i64_in _ (by omega)
          rw [hn1]
          have hp : 0 ≤ o * n1 ∧ o * n1 ≤ 136 := ⟨Int.mul_nonneg (by omega) (by omega), by have := Int.mul_le_mul (show o ≤ 8 by omega) (show n1 ≤ 17 by omega) (by omega) (by omega); omega⟩
          obtain ⟨d, hd⟩ : ∃ d, o * n1 = d := ⟨_, rfl⟩
          rw [hd] at hp
          have hw2 : IntKind.i64.wrap (o * n1) = d := by rw [hd]; exact Go.IntWalk.i64_in _ (by omega)
          rw [hd]
          clear e1 e2 hbad hd hn1 hp
          go_enter Tryz.func26, Tryz.ntmps26
          go_wp2_with fail
          go_ret2
          exact ⟨rfl, rfl⟩
theorem ref_Check15 {Aw A : Option Addr} {cw c : Nat} (n o : Int) (hn : I64 n) (ho : I64 o) (u : List Int) (hu : u.length ≤ 9223372036854775807) (ls : List SmpV) (hl : ls.length ≤ 9223372036854775807) (hX : ∀ s ∈ ls, s.X.length ≤ 9223372036854775807) (w : World) (ra : RdSm w w.heap.size A ls) :
    Calls Tryz.prog 12 #[.int .i64 n, .int .i64 o, .slice Aw u.length cw, .slice A ls.length c] w fun e w' => e = .returned (.int .i64 (scE n o u ls)) ∧ Below w.heap.size w w' := by
  have CD := hid (fun w => ref_Dim15 n o hn ho w)
  obtain ⟨M, hM⟩ : ∃ M, ls.length = M := ⟨_, rfl⟩
  obtain ⟨U, hU⟩ : ∃ U, u.length = U := ⟨_, rfl⟩
  by_cases h1 : sdE n o = 0
  · have e2 : sdV n o = o * (n + 1) := if_pos h1
    have hr := True.intro
    rw [h1, e2] at CD
    obtain ⟨N1, hN1⟩ : ∃ N1, o * (n + 1) = N1 := ⟨_, rfl⟩
    by_cases h2 : (u.length : Int) = o * (n + 1)
    · have HE : Hid (scE n o u ls = if oddX n ls = true then 4 else if ls.length = 0 ∨ 64 < ls.length then 1 else if badY o ls = true then 1 else 0) := hid (by
        unfold scE; rw [if_neg (by simp [h1]), if_neg (by simp [h2])])
      rw [hU, hN1] at h2
      rw [hN1] at CD
      have t0 : ((U : Int) != N1) = false := by rw [h2]; simp
      rw [hM, hU]
      have HM := hid hM
      have RA := hid ra
      have HX := hid hX
      obtain ⟨E, hE⟩ : ∃ E, scE n o u ls = E := ⟨_, rfl⟩
      rw [hE]
      have HEE := hid hE
      clear h1 e2 hr hN1 hM hU ra hX hE h2
      go_enter Tryz.func12, Tryz.ntmps12
      go_wp2_with fail
      refine (CD.out _).mono ?_
      rintro _ _ ⟨rfl, rfl⟩
      go_wp2_with fail
      have hMb : M ≤ 9223372036854775807 := by have := HM.out; omega
      go_loopw [12, 30] (fun _ xi wr => ∃ k : Nat, k ≤ M ∧ xi = .int .i64 (k : Int) ∧ (∀ j s, j < k → ls[j]? = some s → (s.X.length : Int) = n) ∧ Below w.heap.size w wr) (fun _ xi _ => M - (intOf xi).toNat)
      case atStart => exact ⟨0, Nat.zero_le _, rfl, fun j s hj => by omega, Below.refl _ _⟩
      case round =>
        obtain ⟨k, hk, rfl, hall, hbel⟩ := hrel
        have HA := hid hall
        have HB := hid hbel
        clear hall
        by_cases hlt : k < M
        · obtain ⟨b1, o1, s, Ax, cx, rfl, l1, en, c1, d1, rx⟩ := (RA.out.on hbel).at_ (k := k) (by rw [HM.out]; exact hlt)
          have HS := hid en
          clear hbel en rx
          obtain ⟨X, hX⟩ : ∃ X, s.X.length = X := ⟨_, rfl⟩
          have HXX := hid hX
          rw [hX] at c1
          obtain ⟨Y, hY⟩ : ∃ Y, s.Y = Y := ⟨_, rfl⟩
          rw [hY] at d1
          clear hX hY
          by_cases hx : (X : Int) = n
          · have t1 : ((X : Int) != n) = false := by rw [hx]; simp
            have hw : IntKind.i64.wrap ((k : Int) + 1) = ((k + 1 : Nat) : Int) := Go.IntWalk.i64_in _ (by clear hx t1; omega)
            have HXN := hid hx
            clear hx
            go_wp2_with fail
            go_roundw
            case rel =>
              refine ⟨k + 1, hlt, rfl, ?_, HB.out.alloc HB.out.size _⟩
              intro j s' hj hs'
              by_cases e : j = k
              · subst e
                obtain rfl : s = s' := Option.some.inj (HS.out.symm.trans hs')
                rw [HXX.out]; exact HXN.out
              · exact HA.out j s' (by omega) hs'
            case measure => (try clear hw); simp [intOf]; omega
          · have t1 : ((X : Int) != n) = true := by simpa using hx
            have hodd : E = 4 := by
              rw [← HEE.out, HE.out]
              refine if_pos ?_
              unfold oddX
              rw [List.any_eq_true]
              exact ⟨s, List.mem_of_getElem? HS.out, by rw [HXX.out]; simpa using hx⟩
            subst hodd
            clear hx
            go_wp2_with fail
            go_ret
            exact ⟨rfl, HB.out.alloc HB.out.size _⟩
        · obtain rfl : k = M := by omega
          have hno : oddX n ls = false := oddX_no.2 fun s hs => by
            obtain ⟨j, hj, rfl⟩ := List.mem_iff_getElem.1 hs
            exact HA.out j _ (by rw [← HM.out]; exact hj) (List.getElem?_eq_getElem hj)
          have hE2 := HE.out
          rw [hno, if_neg (by decide), HEE.out, HM.out] at hE2
          by_cases h0 : k = 0
          · have m0 : ((k : Int) == 0) = true := by rw [h0]; rfl
            have : E = 1 := by rw [hE2]; exact if_pos (Or.inl h0)
            subst this
            clear hE2 hno h0 hbel
            go_wp2_with fail
            go_ret
            exact ⟨rfl, HB.out⟩
          · have m0 : ((k : Int) == 0) = false := beq_eq_false_iff_ne.2 (by omega)
            by_cases h64 : 64 < k
            · have m1 : (k : Int) > 64 := by omega
              have : E = 1 := by rw [hE2]; exact if_pos (Or.inr h64)
              subst this
              clear hE2 hno h0 hbel h64
              go_wp2_with fail
              go_ret
              exact ⟨rfl, HB.out⟩
            · have m1 : ¬ (k : Int) > 64 := by omega
              have HE3 : Hid (E = if badY o ls = true then 1 else 0) := hid (by rw [hE2]; exact if_neg (by omega))
              have hbb := HB.out
              have hkb : k ≤ 9223372036854775807 := hMb
              clear hE2 hno h0 hbel h64 HA hMb
              generalize wr = wo at *
              go_wp2_with fail
              clear m0 m1
              go_loopw [14, 50] (fun _ xi wr => ∃ j : Nat, j ≤ k ∧ xi = .int .i64 (j : Int) ∧ (∀ s ∈ ls.take j, 0 ≤ s.Y ∧ s.Y < o) ∧ Below w.heap.size w wr) (fun _ xi _ => k - (intOf xi).toNat)
              case atStart => exact ⟨0, Nat.zero_le _, rfl, fun s hs => by simp at hs, HB.out⟩
              case round =>
                obtain ⟨j, hj, rfl, hall, hbel⟩ := hrel
                have HA := hid hall
                have HB2 := hid hbel
                clear hall
                by_cases hlt : j < k
                · obtain ⟨b1, o1, s, Ax, cx, rfl, l1, en, c1, d1, rx⟩ := (RA.out.on hbel).at_ (k := j) (by rw [HM.out]; exact hlt)
                  have HS := hid en
                  clear hbel en rx hbb
                  obtain ⟨X, hX⟩ : ∃ X, s.X.length = X := ⟨_, rfl⟩
                  rw [hX] at c1
                  obtain ⟨Y, hY⟩ : ∃ Y, s.Y = Y := ⟨_, rfl⟩
                  rw [hY] at d1
                  have HYY := hid hY
                  have hbad : (Y < 0 ∨ o ≤ Y) → E = 1 := fun h => by
                    rw [HE3.out]
                    refine if_pos ?_
                    unfold badY
                    rw [List.any_eq_true]
                    exact ⟨s, List.mem_of_getElem? HS.out, by rw [HYY.out]; simpa using h⟩
                  clear hX hY
                  by_cases hy1 : Y < 0
                  · obtain rfl : E = 1 := hbad (Or.inl hy1)
                    clear hbad
                    go_wp2_with fail
                    go_ret
                    exact ⟨rfl, HB2.out.alloc HB2.out.size _⟩
                  · by_cases hy2 : Y ≥ o
                    · obtain rfl : E = 1 := hbad (Or.inr hy2)
                      clear hbad
                      go_wp2_with fail
                      go_ret
                      exact ⟨rfl, HB2.out.alloc HB2.out.size _⟩
                    · have HYG : Hid (0 ≤ s.Y ∧ s.Y < o) := hid (by rw [HYY.out]; omega)
                      have htn : Hid (ls.take (j + 1) = ls.take j ++ [s]) := hid (by rw [List.take_add_one, HS.out]; rfl)
                      clear hbad
                      go_wp2_with fail
                      go_roundw
                      case rel =>
                        refine ⟨j + 1, hlt, by go_num, ?_, HB2.out.alloc HB2.out.size _⟩
                        rw [htn.out]
                        intro x hx
                        rcases List.mem_append.1 hx with hx | hx
                        · exact HA.out x hx
                        · simp at hx; subst hx; exact HYG.out
                      case measure => (try clear hy1 hy2); simp [intOf]; omega
                · obtain rfl : j = k := by omega
                  have hyo : badY o ls = false := by
                    unfold badY
                    rw [List.any_eq_false]
                    intro s hs
                    have := HA.out s (by rw [List.take_of_length_le (by rw [HM.out]; exact Nat.le_refl _)]; exact hs)
                    simp; omega
                  obtain rfl : E = 0 := by rw [HE3.out, hyo]; rfl
                  clear hyo hbel hbb
                  go_wp2_with fail
                  go_ret
                  exact ⟨rfl, HB2.out⟩
    · have e : scE n o u ls = 4 := by unfold scE; rw [if_neg (by simp [h1]), if_pos h2]
      rw [e]
      rw [hU, hN1] at h2
      rw [hN1] at CD
      have t0 : ((U : Int) != N1) = true := by simpa using h2
      rw [hM, hU]
      clear h1 e2 hr hN1 hM hU ra hX e h2
      go_enter Tryz.func12, Tryz.ntmps12
      go_wp2_with fail
      refine (CD.out _).mono ?_
      rintro _ _ ⟨rfl, rfl⟩
      go_wp2_with fail
      go_ret
      exact ⟨rfl, Below.refl _ _⟩
  · have e : scE n o u ls = sdE n o := by unfold scE; rw [if_pos h1]
    rw [e]
    have e2 : sdV n o = 0 := if_neg h1
    obtain ⟨E, hE⟩ : ∃ E, sdE n o = E := ⟨_, rfl⟩
    rw [e2] at CD
    rw [hE] at CD h1 ⊢
    have hne : (E != 0) = true := by simpa using h1
    rw [hM, hU]
    clear e e2 hE h1 ra hX hM hU
    go_enter Tryz.func12, Tryz.ntmps12
    go_wp2_with fail
    refine (CD.out _).mono ?_
    rintro _ _ ⟨rfl, rfl⟩
    go_wp2_with fail
    go_ret
    exact ⟨rfl, Below.refl _ _⟩
end Go.Proofs.YtehbdnehlfplaaaGreat
/- Lines of classes, by the document: the lines. -/
namespace Go.Proofs.YtehbdnehlfplaaaGreat
open Go.RowKit
set_option maxHeartbeats 2000000
set_option maxRecDepth 100000
set_option linter.unusedVariables false
/-- The lines, or none. -/
def rwO (o : Int) (u : List Int) : List (List Int) := if rwE o u = 0 then rwL o u else []
/-- A list of rows of the call's own, and an error. -/
def OwnRwE (rows : List (List Int)) (er : Int) (w : World) (e : Ending) (w' : World) : Prop :=
  ∃ A c, e = .returned (.tuple #[.slice A rows.length c, .int .i64 er]) ∧ OwnRw w' w.heap.size A c rows ∧ Below w.heap.size w w'
theorem sf_div {U : Nat} {o : Int} (h1 : 2 ≤ o) (h2 : o ≤ 8) : ∃ O n r : Nat, o = (O : Int) ∧ o.toNat = O ∧ 2 ≤ O ∧ O ≤ 8 ∧ U / O = n ∧ U % O = r ∧ n ≤ U ∧ Hid ((U : Int).tdiv (O : Int) = (n : Int) ∧ (U : Int).tmod (O : Int) = (r : Int)) := by
  refine ⟨o.toNat, U / o.toNat, U % o.toNat, by omega, rfl, by omega, by omega, rfl, rfl, Nat.div_le_self _ _, hid ⟨?_, ?_⟩⟩
  · rw [Int.tdiv_eq_ediv_of_nonneg (by omega)]; rfl
  · rw [Int.tmod_eq_emod_of_nonneg (by omega)]; rfl
theorem sf_wrap {n U c : Nat} (h1 : n ≤ U) (h2 : U ≤ c) (h3 : c ≤ 9223372036854775807) : wrap64 (n : Int) = (n : Int) ∧ IntKind.i64.wrap (n : Int) = (n : Int) := ⟨Go.IntWalk.wrap64_in _ (by omega), Go.IntWalk.i64_in _ (by omega)⟩
theorem sf_cut {k n O U : Nat} (hk : k < O) (hO : O ≤ 8) (hn : n ≤ 17) (hU : O * n = U) : ∃ k2 a b : Nat, k + 1 = k2 ∧ k * n = a ∧ b = a + n ∧ b ≤ U ∧ Hid (IntKind.i64.wrap ((k : Int) * (n : Int)) = (a : Int) ∧ IntKind.i64.wrap ((k : Int) + 1) = (k2 : Int) ∧ IntKind.i64.wrap ((k2 : Int) * (n : Int)) = (b : Int)) := by
  have h1 : k * n ≤ 8 * 17 := Nat.mul_le_mul (by omega) hn
  have h2 : (k + 1) * n = k * n + n := Nat.succ_mul k n
  have h3 : (k + 1) * n ≤ O * n := Nat.mul_le_mul_right n hk
  refine ⟨k + 1, k * n, k * n + n, rfl, rfl, rfl, by omega, hid ⟨?_, ?_, ?_⟩⟩
  · rw [show (k : Int) * (n : Int) = ((k * n : Nat) : Int) by simp]; exact Go.IntWalk.i64_in _ (by omega)
  · exact Go.IntWalk.i64_in _ (by omega)
  · rw [show ((k + 1 : Nat) : Int) * (n : Int) = (((k + 1) * n : Nat) : Int) by simp, h2]; exact Go.IntWalk.i64_in _ (by omega)
theorem ref_Rows15 {Au : Option Addr} {cu : Nat} (o : Int) (ho : I64 o) (u : List Int) (hu : u.length ≤ cu) (hcu : cu ≤ 9223372036854775807) (w : World) (ru : Rd (Value.int .i64) w w.heap.size Au u) :
    Calls Tryz.prog 34 #[.int .i64 o, .slice Au u.length cu] w (OwnRwE (rwO o u) (rwE o u) w) := by
  obtain ⟨U, hU⟩ : ∃ U, u.length = U := ⟨_, rfl⟩
  have hbad1 : (o < 2 ∨ 8 < o) → rwE o u = 1 ∧ rwO o u = [] := fun h => by
    have e1 : rwE o u = 1 := if_pos h
    exact ⟨e1, if_neg (by rw [e1]; decide)⟩
  by_cases h1 : o < 2
  · obtain ⟨e1, e2⟩ := hbad1 (Or.inl h1)
    rw [e1, e2, hU]
    clear e1 e2 hbad1 ru hU
    go_enter Tryz.func34, Tryz.ntmps34
    go_wp2_with fail
    go_ret2
    exact ⟨none, 0, rfl, OwnRw.nil _ _, Below.refl _ _⟩
  · by_cases h2 : o > 8
    · obtain ⟨e1, e2⟩ := hbad1 (Or.inr h2)
      rw [e1, e2, hU]
      clear e1 e2 hbad1 ru hU
      go_enter Tryz.func34, Tryz.ntmps34
      go_wp2_with fail
      go_ret2
      exact ⟨none, 0, rfl, OwnRw.nil _ _, Below.refl _ _⟩
    · obtain ⟨O, n, r, rfl, hO, O2, O8, hn, hr, hnU, hdm⟩ := sf_div (U := U) (o := o) (by omega) (by omega)
      have hO0 : (O : Int) ≠ 0 := by omega
      obtain ⟨d1, d2⟩ := hdm.out
      have hlt1 : ¬ (O : Int) < 2 := h1
      have hlt2 : ¬ (O : Int) > 8 := h2
      have hOb : Hid (O ≤ 8) := hid O8
      by_cases hg : r = 0 ∧ 2 ≤ n ∧ n ≤ 17
      · obtain ⟨rfl, n2, n17⟩ := hg
        have e1 : rwE (O : Int) u = 0 := rwE_ok.2 ⟨by omega, by omega, by rw [hO, hU]; exact hr, by rw [hO, hU, hn]; exact n2, by rw [hO, hU, hn]; exact n17⟩
        have e2 : rwO (O : Int) u = (List.range O).map (rwR n u) := by
          unfold rwO rwL
          rw [if_pos e1, hO, hU, hn]
        have hOn : O * n = U := by
          have := Nat.div_add_mod U O
          rw [hn, hr] at this
          omega
        rw [e1, e2]
        have t1 : ¬ (n : Int) < 2 := by omega
        have t2 : ¬ (n : Int) > 17 := by omega
        have HU := hid hU
        have RU := hid ru
        have HN := hid n17
        have HON := hid hOn
        have HCU := hid hu
        rw [hU]
        clear e1 e2 hbad1 ru hU hr hn hnU h1 h2 hO n2 n17 hOn hdm hu
        go_enter Tryz.func34, Tryz.ntmps34
        go_wp2_with fail
        clear d1 d2 t1 t2 hlt1 hlt2 hO0
        go_loopw [7, 8, 33] (fun xl _ xi wr => ∃ (k : Nat) (A2 : Option Addr) (c2 : Nat), k ≤ O ∧ xi = .int .i64 (k : Int) ∧ xl = .slice A2 k c2 ∧ OwnRw wr w.heap.size A2 c2 ((List.range k).map (rwR n u)) ∧ Below w.heap.size w wr) (fun _ _ xi _ => O - (intOf xi).toNat)
        case atStart => exact ⟨0, none, 0, Nat.zero_le _, rfl, rfl, OwnRw.nil _ _, Below.refl _ _⟩
        case round =>
          obtain ⟨k, A2, c2, hk, rfl, rfl, ho, hbel⟩ := hrel
          have HO := hid ho
          have HB := hid hbel
          clear ho
          by_cases hlt : k < O
          · obtain ⟨k2, a, b, hk2, ha, hb, hbU, hws⟩ := sf_cut hlt hOb.out HN.out HON.out
            obtain ⟨w1, w2, w3⟩ := hws.out
            have hsl := fun W => run_part (P := Tryz.prog) 22 Tryz.underlying22 Tryz.sizeOf2 Au U cu a b (by omega) (by have := HCU.out; rw [HU.out] at this; omega) W
            have hba : b - a = n := by omega
            rw [hba] at hsl
            obtain ⟨A3, hA3⟩ : ∃ A3, cutA Au a cu = A3 := ⟨_, rfl⟩
            rw [hA3] at hsl
            have hrr : rwR n u k = (u.drop a).take n := by unfold rwR; rw [ha]
            have hrl : (rwR n u k).length = n := by rw [hrr, List.length_take, List.length_drop, HU.out]; omega
            have RW : Hid (Rd (Value.int .i64) wr wr.heap.size A3 (rwR n u k)) := hid (by
              have := ((RU.out.on hbel).cut a (c := cu) HCU.out).some_cut n
              rw [hA3] at this
              rw [hrr]; exact this)
            obtain ⟨R, hR⟩ : ∃ R, rwR n u k = R := ⟨_, rfl⟩
            rw [hR] at RW hrl
            have HRL := hid hrl
            have HRR := hid hR
            have RW2 := RW.out
            have HK2 := hid hk2
            have hz := HB.out.size
            have hba2 : ¬ (b : Int) < (a : Int) := by omega
            clear hk2 ha hb hA3 hrr hrl hR hba hbel hws
            go_wp2_with (at_builtin; refine wpList_app5 (Value.int .i64) (fun _ => rfl) _ rfl _ _ 22 rfl wr.heap.size 2 (.int .i64 0) 8 Tryz.underlying22 info_i64 rfl [] none 0 rfl (own_nil _ _ _) R A3 (cu - a) _ (by rw [HRL.out]; rfl) RW2 (by have := HRL.out; have := HN.out; simp [maxLen]; omega) (by have := HRL.out; have := HN.out; simp; omega) (Nat.le_refl _) ?_)
            rintro Q A6 c6 w6 hQ ho6 hb6 hg6 hq6
            replace hQ : Q = R := by simpa using hQ
            subst hQ
            have HO6 := hid (HO.out.on hb6)
            have K6 : Hid (Below w.heap.size w w6) := hid (HB.out.trans (hb6.mono hz))
            have HRX := hid (rdx_own (base := w.heap.size) ho6 hz (fun g hg => (HO.out.lies g hg).2))
            have g7 : Below w6.heap.size w6 (w6.alloc (.cells #[.slice A6 Q.length c6] 22)) := (Below.refl _ _).alloc (Nat.le_refl _) _
            have HRX7 := hid (HRX.out.on g7)
            have HC6 := hid (own_cap ho6)
            have r7 : Rd encS (w6.alloc (.cells #[.slice A6 Q.length c6] 22)) _ (some ⟨w6.heap.size, 0, none⟩) [(A6, Q.length, c6)] := rd_one (enc := encS) (one_cell w6 (.slice A6 Q.length c6) 22).1
            obtain ⟨ps, hpl, hop, hpr⟩ := HO6.out.on g7
            have HPR := hid hpr
            have HPL := hid hpl
            have HPK : Hid (ps.length = k) := hid (by rw [hpl, List.length_map, List.length_range])
            have K7 : Hid (Below w.heap.size w (w6.alloc (.cells #[.slice A6 Q.length c6] 22))) := hid (K6.out.trans (g7.mono K6.out.size))
            have hz7 := K7.out.size
            clear ho6 hb6 hg6 hq6 g7 hpr hpl HO6 HRX
            go_wp2_with (at_builtin; refine wpList_app5 encS (fun _ => rfl) _ rfl _ _ 38 rfl w.heap.size 22 (.slice none 0 0) 24 Tryz.underlying38 info_row rfl ps A2 c2 (by rw [HPK.out]; rfl) hop [(A6, Q.length, c6)] (some ⟨w6.heap.size, 0, none⟩) 1 _ rfl r7 (by have := HPK.out; have := hOb.out; simp [maxLen]; omega) (by have := HPK.out; have := hOb.out; simp; omega) hz7 ?_)
            rintro S A8 c8 w8 hS ho8 hb8 hg8 hq8
            have HN8 := hid (OwnRw.app HPL.out HPR.out (p := (A6, Q.length, c6)) ⟨rfl, HC6.out⟩ HRX7.out hS ho8 hg8 (by simpa using hq8))
            have hSl : S.length = k2 := by rw [hS, List.length_append, HPK.out, ← HK2.out]; rfl
            rw [hSl]
            have K8 : Hid (Below w.heap.size w w8) := hid (K7.out.trans hb8)
            have HKL : Hid (k2 ≤ O) := hid (by have := HK2.out; omega)
            clear hS ho8 hb8 hg8 hq8 hSl r7 hop hz7
            go_wp2_with fail
            go_roundw
            case rel =>
              refine ⟨k2, A8, c8, HKL.out, rfl, rfl, ?_, K8.out⟩
              rw [← HK2.out, List.range_succ, List.map_append, List.map_singleton, HRR.out]
              exact HN8.out
            case measure => have := HK2.out; have := HKL.out; (try clear w1 w2 w3); simp [intOf]; omega
          · obtain rfl : k = O := by omega
            have hll : ((List.range k).map (rwR n u)).length = k := by simp
            have HF := HO.out
            clear hbel
            go_wp2_with fail
            go_ret2
            exact ⟨A2, c2, by rw [hll]; rfl, HF, HB.out⟩
      · have e1 : rwE (O : Int) u = 4 := by
          unfold rwE
          rw [if_neg (by omega), hO, hU, hr, hn]
          exact if_pos (by omega)
        have e2 : rwO (O : Int) u = [] := if_neg (by rw [e1]; decide)
        rw [e1, e2, hU]
        by_cases g1 : r = 0
        · subst g1
          by_cases g2 : n < 2
          · have t1 : (n : Int) < 2 := by omega
            clear e1 e2 hbad1 ru hU hr hn hnU h1 h2 hO hdm hg g2
            go_enter Tryz.func34, Tryz.ntmps34
            go_wp2_with fail
            go_ret2
            exact ⟨none, 0, rfl, OwnRw.nil _ _, Below.refl _ _⟩
          · have t1 : ¬ (n : Int) < 2 := by omega
            have t2 : (n : Int) > 17 := by omega
            obtain ⟨hwn, hwn2⟩ := sf_wrap hnU (show U ≤ cu by rw [← hU]; exact hu) hcu
            clear e1 e2 hbad1 ru hU hr hn hnU h1 h2 hO hdm hg g2
            go_enter Tryz.func34, Tryz.ntmps34
            go_wp2_with fail
            go_ret2
            exact ⟨none, 0, rfl, OwnRw.nil _ _, Below.refl _ _⟩
        · have t0 : ((r : Int) != 0) = true := by simpa using g1
          clear e1 e2 hbad1 ru hU hr hn hnU h1 h2 hO hdm hg g1
          go_enter Tryz.func34, Tryz.ntmps34
          go_wp2_with fail
          go_ret2
          exact ⟨none, 0, rfl, OwnRw.nil _ _, Below.refl _ _⟩
end Go.Proofs.YtehbdnehlfplaaaGreat
/- Lines, by the document: what they tell, how far they are off. -/
namespace Go.Proofs.YtehbdnehlfplaaaGreat
open Go.RowKit
set_option maxHeartbeats 2000000
set_option maxRecDepth 100000
set_option linter.unusedVariables false
theorem smp_one {w : World} {Ax : Option Addr} {x : List Int} {cx : Nat} {Y : Int} (t : TypeId) (rx : Rd (Value.int .i64) w w.heap.size Ax x) :
    RdSm (w.alloc (.cells #[.slice Ax x.length cx, .int .i64 Y] t)) (w.alloc (.cells #[.slice Ax x.length cx, .int .i64 Y] t)).heap.size (some ⟨w.heap.size, 0, none⟩) [⟨x, Y⟩] := fun k s hs => by
  cases k with
  | zero =>
    simp only [List.getElem?_cons_zero, Option.some.injEq] at hs
    subst hs
    refine ⟨w.heap.size, 0, Ax, cx, rfl, by simp, by simp [go_sem], by simp [go_sem], rx.on ((Below.refl _ w).alloc (Nat.le_refl _) _)⟩
  | succ k => simp at hs
theorem ln_mul_i64 (a b m : Int) : I64 (mulV a b m) := by
  unfold mulV
  first | exact ckV_i64 _ | (split <;> first | exact ckV_i64 _ | decide)
theorem ln_dot_i64 (xs ys : List Int) (m : Int) : I64 (dotV xs ys m) := by
  unfold dotV
  split
  · split
    · exact tot_i64 _ (fun k => ln_mul_i64 _ _ _) _
    · decide
  · decide
theorem ln_tot_bad {num : Nat → Int × Int} : ∀ {n : Nat}, (tot num n).2 ≠ 0 → (tot num n).1 = 0
  | 0, h => absurd rfl h
  | n + 1, h => by
    rw [tot] at h ⊢
    by_cases h1 : (tot num n).2 = 0
    · rw [if_pos h1] at h ⊢
      by_cases h2 : (num n).2 = 0
      · rw [if_pos h2] at h ⊢
        rcases ckE_cases ((tot num n).1 + (num n).1) with ⟨a, b, c⟩ | ⟨a, b, c⟩
        · exact absurd a h
        · exact c
      · rw [if_neg h2]
    · rw [if_neg h1] at h ⊢
      exact ln_tot_bad h
theorem ln_dot_zero {xs ys : List Int} {m : Int} (h : dotE xs ys m ≠ 0) : dotV xs ys m = 0 := by
  unfold dotE at h
  unfold dotV
  by_cases h1 : twoE xs.length ys.length = 0
  · rw [if_pos h1] at h ⊢
    by_cases h2 : behE m = 0
    · rw [if_pos h2] at h ⊢
      exact ln_tot_bad h
    · rw [if_neg h2]
  · rw [if_neg h1]
theorem ref_Tell14 {Aw Ax : Option Addr} {cw cx : Nat} (u x : List Int) (hu : u.length ≤ cw) (hcw : cw ≤ 9223372036854775807) (hx : x.length ≤ 9223372036854775807) (iu : I64s u) (ix : I64s x) (f : Int) (w : World)
    (ru : Rd (Value.int .i64) w w.heap.size Aw u) (rx : Rd (Value.int .i64) w w.heap.size Ax x) :
    Calls Tryz.prog 63 #[.slice Aw u.length cw, .slice Ax x.length cx, .int .i64 f] w fun e w' => e = .returned (.tuple #[.int .i64 (ltV u x f), .int .i64 (ltE u x f)]) ∧ Below w.heap.size w w' := by
  have hu9 : u.length ≤ 9223372036854775807 := Nat.le_trans hu hcw
  obtain ⟨w2, hw2⟩ : ∃ w2, w.alloc (.cells #[.slice Ax x.length cx, .int .i64 0] 36) = w2 := ⟨_, rfl⟩
  have hb2 : Below w.heap.size w w2 := by rw [← hw2]; go_grown
  have hs2 : w2.heap.size = w.heap.size + 1 := by rw [← hw2]; simp
  have r2 : RdSm w2 w2.heap.size (some ⟨w.heap.size, 0, none⟩) [⟨x, 0⟩] := by rw [← hw2]; exact smp_one 36 rx
  have CC := hid (ref_Check14 (Aw := Aw) (A := some ⟨w.heap.size, 0, none⟩) (cw := cw) (c := 1) (x.length : Int) (by unfold I64; omega) u hu9 [⟨x, 0⟩] (by simp) (by simpa using hx) w2 r2)
  obtain ⟨U, hU⟩ : ∃ U, u.length = U := ⟨_, rfl⟩
  obtain ⟨N, hN⟩ : ∃ N, x.length = N := ⟨_, rfl⟩
  have HRU := hid (ru.on hb2)
  have HRX := hid (rx.on hb2)
  have HB2 := hid hb2
  by_cases h1 : lcE (x.length : Int) u [⟨x, 0⟩] = 0
  · obtain ⟨⟨n1, n2⟩, hun, _, _, _⟩ := lcE_ok.1 h1
    rw [h1] at CC
    have hlast : ∃ y, u[x.length]? = some y ∧ u.getD x.length 0 = y := ⟨u[x.length]'(by omega), List.getElem?_eq_getElem (by omega), by rw [List.getD_eq_getElem?_getD, List.getElem?_eq_getElem (by omega)]; rfl⟩
    obtain ⟨y, hy, hyD⟩ := hlast
    have iy : I64 y := iu.at_ hy
    have hsl := fun W => run_upto (P := Tryz.prog) 22 Tryz.underlying22 Tryz.sizeOf2 Aw u.length cw x.length (by omega) W
    obtain ⟨A3, hA3⟩ : ∃ A3, cutA Aw 0 cw = A3 := ⟨_, rfl⟩
    rw [hA3] at hsl
    have htl : (u.take x.length).length = x.length := by rw [List.length_take]; omega
    have CD := hid (fun W (h1 : Rd (Value.int .i64) W W.heap.size A3 (u.take x.length)) (h2 : Rd (Value.int .i64) W W.heap.size Ax x) => rDot_any (c := cw) (d := cx) (u.take x.length) x (by rw [htl]; exact hx) hx (fun v hv => iu v (List.mem_of_mem_take hv)) ix f W h1 h2)
    rw [htl] at CD
    have HC := hid (fun W (h : Rd (Value.int .i64) W W.heap.size Aw u) => (by have := h.cut0 (c := cw) hu x.length; rw [hA3] at this; exact this : Rd (Value.int .i64) W W.heap.size A3 (u.take x.length)))
    by_cases h2 : dotE (u.take x.length) x f = 0
    · have eE : ltE u x f = ckE (dotV (u.take x.length) x f + y) := by unfold ltE; rw [if_neg (by simp [h1]), if_neg (by simp [h2]), hyD]
      have eV : ltV u x f = ckV (dotV (u.take x.length) x f + y) := by
        unfold ltV
        rw [eE, hyD]
        rcases ckE_cases (dotV (u.take x.length) x f + y) with ⟨a, b, c⟩ | ⟨a, b, c⟩
        · rw [if_pos a, c]
        · rw [if_neg (by rw [a]; decide), c]
      rw [eE, eV]
      rw [h2] at CD
      have iD : I64 (dotV (u.take x.length) x f) := ln_dot_i64 _ _ _
      obtain ⟨D, hD⟩ : ∃ D, dotV (u.take x.length) x f = D := ⟨_, rfl⟩
      rw [hD] at CD iD ⊢
      have CA := hid (fun W => ref_Add D y iD iy W)
      have HY := hid hy
      have HUN : Hid (x.length < u.length) := hid (by omega)
      have HUL : Hid (N < u.length) := hid (by omega)
      rw [hN] at CC CD HC hsl HY HUN hw2 ⊢
      rw [hU] at CC hsl HUN ⊢
      have hNU : (N : Int) < (U : Int) := by have := HUN.out; omega
      clear h1 n1 n2 hun hyD hA3 htl h2 eE eV hD iD iy hy hU hN hu hcw hu9 hx iu ix ru rx r2 hb2
      clear hs2
      go_enter Tryz.func63, Tryz.ntmps63
      go_wp2_with fail
      refine CC.out.mono ?_
      rintro _ w3 ⟨rfl, hb3⟩
      have K3 : Hid (Below w.heap.size w w3) := hid (HB2.out.trans (hb3.mono HB2.out.size))
      have RU3 := hid (HRU.out.on hb3)
      have RX3 := hid (HRX.out.on hb3)
      clear hb3 hw2
      go_wp2_with fail
      refine (CD.out _ (HC.out _ RU3.out) RX3.out).mono ?_
      rintro _ w4 ⟨rfl, hb4⟩
      have K4 : Hid (Below w.heap.size w w4) := hid (K3.out.trans (hb4.mono K3.out.size))
      obtain ⟨b1, o1, y', rfl, l1, en, c1⟩ := (RU3.out.on hb4).at_ (k := N) HUL.out
      obtain rfl : y = y' := Option.some.inj (HY.out.symm.trans en)
      clear hb4 en
      go_wp2_with fail
      refine (CA.out _).mono ?_
      rintro _ _ ⟨rfl, rfl⟩
      go_wp2_with fail
      go_ret2
      exact ⟨rfl, K4.out⟩
    · have eE : ltE u x f = dotE (u.take x.length) x f := by unfold ltE; rw [if_neg (by simp [h1]), if_pos h2]
      have eV : ltV u x f = 0 := if_neg (by rw [eE]; exact h2)
      rw [eE, eV]
      obtain ⟨E, hE⟩ : ∃ E, dotE (u.take x.length) x f = E := ⟨_, rfl⟩
      have hD0 : dotV (u.take x.length) x f = 0 := ln_dot_zero h2
      rw [hE] at CD h2 ⊢
      rw [hD0] at CD
      have hne : (E != 0) = true := by simpa using h2
      rw [hN] at CC CD HC hsl hw2 ⊢
      rw [hU] at CC hsl ⊢
      clear h1 n1 n2 hun hyD hA3 htl h2 eE eV hE hD0 iy hy hU hN hu hcw hu9 hx iu ix ru rx r2 hb2 hs2
      go_enter Tryz.func63, Tryz.ntmps63
      go_wp2_with fail
      refine CC.out.mono ?_
      rintro _ w3 ⟨rfl, hb3⟩
      have K3 : Hid (Below w.heap.size w w3) := hid (HB2.out.trans (hb3.mono HB2.out.size))
      have RU3 := hid (HRU.out.on hb3)
      have RX3 := hid (HRX.out.on hb3)
      clear hb3 hw2
      go_wp2_with fail
      refine (CD.out _ (HC.out _ RU3.out) RX3.out).mono ?_
      rintro _ w4 ⟨rfl, hb4⟩
      have K4 : Hid (Below w.heap.size w w4) := hid (K3.out.trans (hb4.mono K3.out.size))
      clear hb4
      go_wp2_with fail
      go_ret2
      exact ⟨rfl, K4.out⟩
  · have eE : ltE u x f = lcE (x.length : Int) u [⟨x, 0⟩] := by unfold ltE; rw [if_pos h1]
    have eV : ltV u x f = 0 := if_neg (by rw [eE]; exact h1)
    rw [eE, eV]
    obtain ⟨E, hE⟩ : ∃ E, lcE (x.length : Int) u [⟨x, 0⟩] = E := ⟨_, rfl⟩
    rw [hE] at CC h1 ⊢
    have hne : (E != 0) = true := by simpa using h1
    rw [hN] at CC hw2 ⊢
    rw [hU] at CC ⊢
    clear eE eV hE h1 ru rx iu ix hU hN hu hcw hu9 hx r2 hb2
    go_enter Tryz.func63, Tryz.ntmps63
    go_wp2_with fail
    refine CC.out.mono ?_
    rintro _ w3 ⟨rfl, hb3⟩
    have K3 : Hid (Below w.heap.size w w3) := hid (HB2.out.trans (hb3.mono HB2.out.size))
    clear hb3
    go_wp2_with fail
    go_ret2
    exact ⟨rfl, K3.out⟩
end Go.Proofs.YtehbdnehlfplaaaGreat
/- Lines of classes, by the document: what they tell. -/
namespace Go.Proofs.YtehbdnehlfplaaaGreat
open Go.RowKit
set_option maxHeartbeats 2000000
set_option maxRecDepth 100000
set_option linter.unusedVariables false
theorem fstE_at {α : Type} {g : α → Int} {ls : List α} {k : Nat} {s : α} (h : ∀ x ∈ ls.take k, g x = 0) (hs : ls[k]? = some s) (hn : g s ≠ 0) : fstE (ls.map g) = g s := by
  induction ls generalizing k with
  | nil => simp at hs
  | cons a r ih =>
    rw [List.map_cons, fstE]
    cases k with
    | zero =>
      simp at hs
      subst hs
      rw [if_pos hn]
    | succ k =>
      rw [if_neg (by rw [h a (by simp)]; decide)]
      exact ih (k := k) (fun x hx => h x (by simp [hx])) (by simpa using hs)
theorem take_all {α : Type} {l : List α} {k : Nat} {s : α} {P : α → Prop} (h : ∀ x ∈ l.take k, P x) (hs : l[k]? = some s) (hp : P s) : ∀ x ∈ l.take (k + 1), P x := by
  rw [List.take_add_one, hs]
  intro x hx
  rcases List.mem_append.1 hx with hx | hx
  · exact h x hx
  · simp at hx; subst hx; exact hp
theorem rwL_i64 {o : Int} {u : List Int} (h : I64s u) : ∀ r ∈ rwL o u, I64s r := fun r hr => by
  unfold rwL at hr
  obtain ⟨i, _, rfl⟩ := List.mem_map.1 hr
  intro x hx
  unfold rwR at hx
  exact h x (List.mem_of_mem_drop (List.mem_of_mem_take hx))
theorem rwL_row {o : Int} {u : List Int} (h : rwE o u = 0) : (rwL o u).length = o.toNat ∧ ∀ r ∈ rwL o u, r.length = u.length / o.toNat := by
  refine ⟨by unfold rwL; simp, fun r hr => ?_⟩
  unfold rwL at hr
  obtain ⟨i, hi, rfl⟩ := List.mem_map.1 hr
  exact rwR_len (rw_len h) (List.mem_range.1 hi)
/-- What the lines tell, or nothing. -/
def lzO (o : Int) (u x : List Int) (f : Int) : List Int := if lzE o u x f = 0 then lzV o u x f else []
theorem ref_lines15 {Au Ax : Option Addr} {cu cx : Nat} (o : Int) (ho : I64 o) (u x : List Int) (hu : u.length ≤ cu) (hcu : cu ≤ 9223372036854775807) (iu : I64s u) (hx : x.length ≤ 1099511627776) (ix : I64s x) (f : Int) (w : World)
    (ru : Rd (Value.int .i64) w w.heap.size Au u) (rx : Rd (Value.int .i64) w w.heap.size Ax x) :
    Calls Tryz.prog 40 #[.int .i64 o, .slice Au u.length cu, .slice Ax x.length cx, .int .i64 f] w (OwnInts (lzO o u x f) (lzE o u x f) w) := by
  have CR := hid (ref_Rows15 (Au := Au) (cu := cu) o ho u hu hcu w ru)
  obtain ⟨U, hU⟩ : ∃ U, u.length = U := ⟨_, rfl⟩
  obtain ⟨N, hN⟩ : ∃ N, x.length = N := ⟨_, rfl⟩
  by_cases h1 : rwE o u = 0
  · obtain ⟨o2, o8, _, n2, n17⟩ := rwE_ok.1 h1
    obtain ⟨hRl, hRr⟩ := rwL_row h1
    have hRi := rwL_i64 (o := o) iu
    have e0 : rwO o u = rwL o u := if_pos h1
    have hlz : lzE o u x f = if u.length / o.toNat ≠ x.length + 1 then 4 else if f < 0 ∨ 30 < f then 1 else fstE ((rwL o u).map fun r => ltE r x f) := by unfold lzE; rw [if_neg (by simp [h1])]
    rw [h1, e0] at CR
    obtain ⟨n, hn⟩ : ∃ n, u.length / o.toNat = n := ⟨_, rfl⟩
    rw [hn] at hlz hRr n2 n17
    obtain ⟨Q, hQ⟩ : ∃ Q, lzV o u x f = Q := ⟨_, rfl⟩
    have hQm : Q = (rwL o u).map fun r => ltV r x f := hQ.symm
    have hzo : lzO o u x f = if lzE o u x f = 0 then Q else [] := by unfold lzO; rw [hQ]
    obtain ⟨rows, hrows⟩ : ∃ rows, rwL o u = rows := ⟨_, rfl⟩
    rw [hrows] at CR hlz hRl hRr hRi hQm
    obtain ⟨R, hR⟩ : ∃ R, rows.length = R := ⟨_, rfl⟩
    have hR2 : 2 ≤ R := by omega
    have hR8 : R ≤ 8 := by omega
    have hr0 : ∃ r0, rows[0]? = some r0 ∧ r0.length = n := ⟨rows[0], List.getElem?_eq_getElem (by omega), hRr _ (List.getElem_mem _)⟩
    obtain ⟨r0, hr0, hr0l⟩ := hr0
    have hw : IntKind.i64.wrap ((N : Int) + 1) = ((N + 1 : Nat) : Int) := Go.IntWalk.i64_in _ (by omega)
    have HR := hid hR
    have HR0 := hid hr0
    have HRL0 := hid hr0l
    have RX := hid rx
    rw [hN] at hlz ⊢
    rw [hU] at CR ⊢
    clear e0 hQ hrows hU hn hu hcu iu ru hr0 hr0l rx hRl h1 o2 o8
    by_cases h2 : n = N + 1
    · rw [if_neg (by simp [h2])] at hlz
      have t0 : ((n : Int) != ((N + 1 : Nat) : Int)) = false := by rw [h2]; simp
      clear h2
      by_cases h3 : f < 0 ∨ 30 < f
      · rw [if_pos h3] at hlz
        have hz : lzO o u x f = [] := by rw [hzo, if_neg (by rw [hlz]; decide)]
        rw [hlz, hz]
        clear hlz hzo hz hQm hRr hRi hR hN
        by_cases h4 : f < 0
        · clear h3
          go_enter Tryz.func40, Tryz.ntmps40
          go_wp2_with fail
          refine CR.out.mono ?_
          rintro _ w1 ⟨A1, c1, rfl, ho1, hb1⟩
          obtain ⟨b, off, A0, c0, rfl, hb, hc, _⟩ := ho1.rd 0 r0 HR0.out
          rw [HRL0.out, Nat.add_zero] at hc
          rw [HR.out]
          have K1 := hid hb1
          clear ho1 hb1 CR
          go_wp2_with fail
          go_ret2
          exact ⟨none, 0, rfl, own_nil _ _ _, K1.out⟩
        · have h5 : f > 30 := by omega
          clear h3
          go_enter Tryz.func40, Tryz.ntmps40
          go_wp2_with fail
          refine CR.out.mono ?_
          rintro _ w1 ⟨A1, c1, rfl, ho1, hb1⟩
          obtain ⟨b, off, A0, c0, rfl, hb, hc, _⟩ := ho1.rd 0 r0 HR0.out
          rw [HRL0.out, Nat.add_zero] at hc
          rw [HR.out]
          have K1 := hid hb1
          clear ho1 hb1 CR
          go_wp2_with fail
          go_ret2
          exact ⟨none, 0, rfl, own_nil _ _ _, K1.out⟩
      · rw [if_neg h3] at hlz
        have h4 : ¬ f < 0 := by omega
        have h5 : ¬ f > 30 := by omega
        obtain ⟨vE, hvE⟩ : ∃ e, lzE o u x f = e := ⟨_, rfl⟩
        obtain ⟨vV, hvV⟩ : ∃ e, lzO o u x f = e := ⟨_, rfl⟩
        rw [hvE] at hlz hzo
        rw [hvV] at hzo
        have HLZ := hid hlz
        have HZO := hid hzo
        have HQM := hid hQm
        have HRR := hid hRr
        have HRI := hid hRi
        rw [hvE, hvV]
        have CT := hid (fun (r : List Int) (hr : r ∈ rows) (Ar : Option Addr) (cr : Nat) (h1 : r.length ≤ cr) (h2 : cr ≤ 9223372036854775807) (W : World) (h3 : Rd (Value.int .i64) W W.heap.size Ar r) (h4 : Rd (Value.int .i64) W W.heap.size Ax x) => ref_Tell14 (Aw := Ar) (Ax := Ax) (cw := cr) (cx := cx) r x h1 h2 (by rw [hN]; omega) (hRi r hr) ix f W h3 h4)
        rw [hN] at CT
        clear hlz hzo hQm hRr hRi hR hN h3 hvE hvV
        go_enter Tryz.func40, Tryz.ntmps40
        go_wp2_with fail
        refine CR.out.mono ?_
        rintro _ w1 ⟨A1, c1, rfl, ho1, hb1⟩
        obtain ⟨b, off, A0, c0, rfl, hb, hc, _⟩ := ho1.rd 0 r0 HR0.out
        rw [HRL0.out, Nat.add_zero] at hc
        rw [HR.out]
        have K1 := hid hb1
        have HO1 := hid ho1
        clear ho1 hb1 CR
        go_wp2_with fail
        clear hc t0 hw h4 h5
        go_loopw [12, 14, 15, 16, 42] (fun xz _ _ _ xi wr => ∃ (k : Nat) (T : List Int) (A2 : Option Addr) (c2 : Nat), k ≤ R ∧ xi = .int .i64 (k : Int) ∧ xz = .slice A2 T.length c2 ∧ T = Q.take k ∧ (∀ r ∈ rows.take k, ltE r x f = 0) ∧ wr.ownsRow w1.heap.size 2 1 (.slice A2 T.length c2) T.length (T.map (Value.int .i64)) ∧ Below w1.heap.size w1 wr) (fun _ _ _ _ xi _ => R - (intOf xi).toNat)
        case atStart => exact ⟨0, [], none, 0, Nat.zero_le _, rfl, rfl, rfl, fun r hr => by simp at hr, own_nil _ _ _, Below.refl _ _⟩
        case round =>
          obtain ⟨k, T, A2, c2, hk, rfl, rfl, hT, ha, ho, hbel⟩ := hrel
          have HT := hid hT
          have HA := hid ha
          have HO := hid ho
          have HB := hid hbel
          have KR : Hid (Below w.heap.size w wr) := hid (K1.out.trans (hbel.mono K1.out.size))
          clear hT ha ho
          by_cases hlt : k < R
          · obtain ⟨b2, off2, r, Ar, cr, e2, hb2, er, hcr, hr1, hr2, rr⟩ := (HO1.out.on hbel).at_ (k := k) (by rw [HR.out]; exact hlt)
            cases e2
            have HER := hid er
            have CT2 := hid (CT.out r (List.mem_of_getElem? er) Ar cr hr1 hr2 wr rr (RX.out.on KR.out))
            have hrl : r.length = n := HRR.out r (List.mem_of_getElem? er)
            obtain ⟨V, hV⟩ : ∃ V, ltV r x f = V := ⟨_, rfl⟩
            obtain ⟨E, hE⟩ : ∃ E, ltE r x f = E := ⟨_, rfl⟩
            rw [hV, hE, hrl] at CT2
            rw [hrl] at hcr
            have HEE := hid hE
            have hQn : Hid (Q.take (k + 1) = Q.take k ++ [V]) := hid (by
              rw [List.take_add_one, HQM.out, List.getElem?_map, er]
              rw [← hV]; rfl)
            have hTl : Hid (T.length = k) := hid (by rw [HT.out, List.length_take, HQM.out, List.length_map, HR.out]; omega)
            clear er rr hr1 hr2 hrl hV hE hbel
            by_cases hE0 : E = 0
            · subst hE0
              go_wp2_with fail
              refine CT2.out.mono ?_
              rintro _ w4 ⟨rfl, hb4⟩
              have HB4 : Hid (Below w1.heap.size w1 w4) := hid (HB.out.trans (hb4.mono HB.out.size))
              have hr0' : Rd (Value.int .i64) (w4.alloc (.cells #[.int .i64 V] 2)) _ (some ⟨w4.heap.size, 0, none⟩) [V] := rd_one (one_cell w4 (.int .i64 V) 2).1
              have h0' := own_on (own_on HO.out hb4) ((Below.refl w4.heap.size w4).alloc (Nat.le_refl _) (.cells #[.int .i64 V] 2))
              clear hb4
              go_wp2_with (at_builtin; refine wpList_app (Value.int .i64) (fun _ => rfl) _ rfl _ _ 22 rfl w1.heap.size 2 (.int .i64 0) 8 Tryz.underlying22 info_i64 rfl T _ _ rfl h0' [V] _ 1 _ rfl hr0' (by have := hTl.out; simp [maxLen]; omega) (by have := hTl.out; simp; omega) (by have := HB4.out.size; simp; omega) ?_)
              rintro S' A' c' w5 hS' ho' hb5 _
              have HS' := hid hS'
              have HO' := hid ho'
              have HK5 : Hid (Below w1.heap.size w1 w5) := hid ((HB4.out.alloc HB4.out.size _).trans hb5)
              clear hS' ho' h0' hr0' hb5 hcr
              go_wp2_with fail
              go_roundw
              case rel => exact ⟨k + 1, S', A', c', by omega, by go_num, rfl, by rw [HS'.out, hQn.out, HT.out], take_all HA.out HER.out HEE.out, HO'.out, HK5.out⟩
              case measure => simp [intOf]; omega
            · have hne : (E != 0) = true := by simpa using hE0
              have e1 : vE = E := by
                rw [HLZ.out, fstE_at HA.out HER.out (by rw [HEE.out]; exact hE0), HEE.out]
              have e2 : vV = [] := by rw [HZO.out, if_neg (by rw [e1]; exact hE0)]
              rw [e1, e2]
              clear e1 e2 hE0
              go_wp2_with fail
              refine CT2.out.mono ?_
              rintro _ w4 ⟨rfl, hb4⟩
              have K4 : Hid (Below w.heap.size w w4) := hid (KR.out.trans (hb4.mono KR.out.size))
              clear hb4 hcr
              go_wp2_with fail
              go_ret2
              exact ⟨none, 0, rfl, own_nil _ _ _, K4.out⟩
          · obtain rfl : k = R := by omega
            have e1 : vE = 0 := by
              rw [HLZ.out]
              refine fstE_ok.2 fun e he => ?_
              obtain ⟨r, hr, rfl⟩ := List.mem_map.1 he
              exact HA.out r (by rw [List.take_of_length_le (by rw [HR.out]; exact Nat.le_refl _)]; exact hr)
            have hTQ : T = Q := by rw [HT.out]; exact List.take_of_length_le (by rw [HQM.out, List.length_map, HR.out]; exact Nat.le_refl _)
            have e2 : vV = T := by rw [HZO.out, if_pos e1, hTQ]
            clear hTQ hbel
            subst e2
            subst e1
            go_wp2_with fail
            go_ret2
            exact ⟨A2, c2, rfl, own_base HO.out K1.out.size, KR.out⟩
    · rw [if_pos h2] at hlz
      have t0 : ((n : Int) != ((N + 1 : Nat) : Int)) = true := by rw [bne_iff_ne]; omega
      have hz : lzO o u x f = [] := by rw [hzo, if_neg (by rw [hlz]; decide)]
      rw [hlz, hz]
      clear hlz hzo hz hQm hRr hRi hR hN h2
      go_enter Tryz.func40, Tryz.ntmps40
      go_wp2_with fail
      refine CR.out.mono ?_
      rintro _ w1 ⟨A1, c1, rfl, ho1, hb1⟩
      obtain ⟨b, off, A0, c0, rfl, hb, hc, _⟩ := ho1.rd 0 r0 HR0.out
      rw [HRL0.out, Nat.add_zero] at hc
      rw [HR.out]
      have K1 := hid hb1
      clear ho1 hb1 CR
      go_wp2_with fail
      go_ret2
      exact ⟨none, 0, rfl, own_nil _ _ _, K1.out⟩
  · have e1 : lzE o u x f = rwE o u := by unfold lzE; rw [if_pos h1]
    have e2 : lzO o u x f = [] := if_neg (by rw [e1]; exact h1)
    rw [e1, e2]
    obtain ⟨E, hE⟩ : ∃ E, rwE o u = E := ⟨_, rfl⟩
    rw [hE] at CR h1 ⊢
    have hne : (E != 0) = true := by simpa using h1
    rw [hU] at CR ⊢
    rw [hN]
    clear e1 e2 hE h1 hU hN ru rx iu ix hu hx
    go_enter Tryz.func40, Tryz.ntmps40
    go_wp2_with fail
    refine CR.out.mono ?_
    rintro _ w1 ⟨A1, c1, rfl, ho1, hb1⟩
    have K1 := hid hb1
    clear ho1 hb1 CR
    go_wp2_with fail
    go_ret2
    exact ⟨none, 0, rfl, own_nil _ _ _, K1.out⟩
end Go.Proofs.YtehbdnehlfplaaaGreat

namespace Go.Proofs.YtehbdnehlfplaaaGreat
open Go.RowKit
set_option maxHeartbeats 400000
set_option maxRecDepth 100000
set_option linter.unusedVariables false
theorem lead (y : Int) (h0 : 1 ≤ y) (h1 : y ≤ 18446744073709551615) (w : World) :
    Calls Tryz.prog 102 #[.int .u64 y] w fun e w' => ∃ s : Nat, e = .returned (.int .i64 s) ∧ s ≤ 63 ∧ 9223372036854775808 ≤ y * 2 ^ s ∧ y * 2 ^ s ≤ 18446744073709551615 ∧ w = w' := by
  refine (Tryz.bits_LeadingZeros64 y w (by omega) h1).mono ?_
  rintro e w' ⟨rfl, rfl⟩
  obtain ⟨n, rfl⟩ := Int.eq_ofNat_of_zero_le (show 0 ≤ y by omega)
  have hb := Lib.bitLenAux_bounds 64 n (by omega) (by omega)
  change 1 ≤ Lib.bitLen n ∧ 2 ^ (Lib.bitLen n - 1) ≤ n ∧ n < 2 ^ Lib.bitLen n at hb
  have hle : Lib.bitLen n ≤ 64 := by
    rcases Nat.lt_or_ge 64 (Lib.bitLen n) with h | h
    · have := Nat.pow_le_pow_right (show 0 < 2 by decide) (show 64 ≤ Lib.bitLen n - 1 by omega)
      omega
    · exact h
  have p1 : n * 2 ^ (64 - Lib.bitLen n) < 18446744073709551616 := by
    have e : 2 ^ Lib.bitLen n * 2 ^ (64 - Lib.bitLen n) = 18446744073709551616 := by rw [← Nat.pow_add, show Lib.bitLen n + (64 - Lib.bitLen n) = 64 by omega]
    rw [← e]
    exact Nat.mul_lt_mul_of_pos_right hb.2.2 (Nat.two_pow_pos _)
  have p2 : 9223372036854775808 ≤ n * 2 ^ (64 - Lib.bitLen n) := by
    have e : 2 ^ (Lib.bitLen n - 1) * 2 ^ (64 - Lib.bitLen n) = 9223372036854775808 := by rw [← Nat.pow_add, show Lib.bitLen n - 1 + (64 - Lib.bitLen n) = 63 by omega]
    rw [← e]
    exact Nat.mul_le_mul_right _ hb.2.1
  have c1 : ((n : Int) * 2 ^ (64 - Lib.bitLen n)) = ((n * 2 ^ (64 - Lib.bitLen n) : Nat) : Int) := by simp
  refine ⟨64 - Lib.bitLen n, ?_, by omega, by rw [c1]; omega, by rw [c1]; omega, rfl⟩
  congr 2
  simp only [Int.toNat_natCast]
  omega
theorem div64_low (l y : Int) (hl : U64 l) (hy : U64 y) (h0 : y ≠ 0) (w : World) :
    Calls Tryz.prog 97 #[.int .u64 0, .int .u64 l, .int .u64 y] w fun e w' => e = .returned (.tuple #[.int .u64 (l / y), .int .u64 (l % y)]) ∧ w.drew = w' := by
  unfold U64 at hl hy
  have hy1 : 1 ≤ y := by omega
  have k1 : (y == 0) = false := by simpa using h0
  have k2 : (decide (y ≤ 0)) = false := by simp; omega
  go_enter Tryz.func97, Tryz.ntmps97
  go_wp2
  go_region
  go_wp2
  go_ret2
  exact ⟨rfl, rfl⟩
theorem rem_of {u d1 d0 t1 Q1 D : Int} (n : Den u d1 d0 t1) (hQ : (u * 4294967296 + t1) / (d1 * 4294967296 + d0) = Q1) (hD : D = d1 * 4294967296 + d0) :
    IntKind.u64.wrap (IntKind.u64.wrap (IntKind.u64.wrap (u * 4294967296) + t1) - IntKind.u64.wrap (Q1 * D)) = u * 4294967296 + t1 - Q1 * D ∧ 0 ≤ u * 4294967296 + t1 - Q1 * D ∧ u * 4294967296 + t1 - Q1 * D < D := by
  obtain ⟨h1, h2, h3, h4, h5, h6, h7, h8⟩ := n
  rw [← hD] at hQ
  have e := Int.mul_ediv_add_emod (u * 4294967296 + t1) D
  have e1 := Int.emod_nonneg (u * 4294967296 + t1) (show D ≠ 0 by omega)
  have e2 := Int.emod_lt_of_pos (u * 4294967296 + t1) (show 0 < D by omega)
  rw [hQ, Int.mul_comm] at e
  generalize Q1 * D = p at *
  simp only [IntKind.wrap_u64]
  refine ⟨?_, by omega, by omega⟩
  omega
theorem high_end {h l y u t D d1 d0 t1 t0 Q1 Q0 r1 : Int} {s : Nat} (hs : s ≤ 63) (hy : 0 < y) (hD0 : 0 < D)
    (f : (h * 18446744073709551616 + l) * 2 ^ s = bits BinOp.or IntKind.u64 (IntKind.u64.wrap (h * 2 ^ s)) (l / 2 ^ (64 - s)) * 18446744073709551616 + IntKind.u64.wrap (l * 2 ^ s))
    (hu : bits BinOp.or IntKind.u64 (IntKind.u64.wrap (h * 2 ^ s)) (l / 2 ^ (64 - s)) = u) (ht : IntKind.u64.wrap (l * 2 ^ s) = t) (hD : y * 2 ^ s = D)
    (eD : D = d1 * 4294967296 + d0) (et : t = t1 * 4294967296 + t0) (hr1 : u * 4294967296 + t1 - Q1 * D = r1)
    (hr0 : IntKind.u64.wrap (IntKind.u64.wrap (IntKind.u64.wrap (r1 * 4294967296) + t0) - IntKind.u64.wrap (Q0 * D)) = r1 * 4294967296 + t0 - Q0 * D ∧ 0 ≤ r1 * 4294967296 + t0 - Q0 * D ∧ r1 * 4294967296 + t0 - Q0 * D < D) :
    Q1 * 4294967296 + Q0 = (h * 18446744073709551616 + l) / y ∧ IntKind.u64.wrap (IntKind.u64.wrap (IntKind.u64.wrap (r1 * 4294967296) + t0) - IntKind.u64.wrap (Q0 * D)) / 2 ^ s = (h * 18446744073709551616 + l) % y := by
  obtain ⟨a, b, c⟩ := hr0
  have two := two_digits (D := D) (t1 := u * 4294967296 + t1) (t0 := t0) (a1 := Q1) (a0 := Q0) (b := r1) (r := r1 * 4294967296 + t0 - Q0 * D) hD0 (by omega) (by omega) b c
  rw [hu, ht, et] at f
  have e : (u * 4294967296 + t1) * 4294967296 + t0 = (h * 18446744073709551616 + l) * 2 ^ s := by omega
  rw [e, ← hD] at two
  have q := quo_shift (U := h * 18446744073709551616 + l) (y := y) (p := 2 ^ s) (Int.pow_pos (by decide)) hy
  rw [q.1] at two
  refine ⟨two.1.symm, ?_⟩
  rw [a, ← hD, ← two.2]
  exact q.2
theorem div64_high (h l y : Int) (hl : U64 l) (hy : y ≤ 18446744073709551615) (h0 : 1 ≤ h) (h1 : h < y) (w : World) :
    Calls Tryz.prog 97 #[.int .u64 h, .int .u64 l, .int .u64 y] w fun e w' => e = .returned (.tuple #[.int .u64 ((h * 18446744073709551616 + l) / y), .int .u64 ((h * 18446744073709551616 + l) % y)]) ∧ w = w' := by
  have hy1 : 1 ≤ y := by omega
  have k1 : (y == 0) = false := by simp; omega
  have k2 : (decide (y ≤ h)) = false := by simp; omega
  have k3 : (h == 0) = false := by simp; omega
  go_enter Tryz.func97, Tryz.ntmps97
  go_wp2_with fail
  refine (lead y hy1 hy _).mono ?_
  rintro e w' ⟨s, rfl, hs1, hs2, hs3, rfl⟩
  have f1 := norm_u h l y s hs1 hl (by omega) h1 hs3
  have f2 := norm_sum h l s hs1
  have f3 := norm_lt h l y s hs1 hl h1
  have f4 : 0 ≤ h * 2 ^ s + l / 2 ^ (64 - s) := by rw [← f1, f1]; exact Int.add_nonneg (Int.mul_nonneg (by omega) (Int.le_of_lt (Int.pow_pos (by decide)))) (Int.ediv_nonneg hl.1 (Int.le_of_lt (Int.pow_pos (by decide))))
  rw [← f1] at f2 f3 f4
  have f5 := U64.wrap (l * 2 ^ s)
  obtain ⟨u, hu⟩ : ∃ u, bits BinOp.or IntKind.u64 (IntKind.u64.wrap (h * 2 ^ s)) (l / 2 ^ (64 - s)) = u := ⟨_, rfl⟩
  obtain ⟨t, ht⟩ : ∃ t, IntKind.u64.wrap (l * 2 ^ s) = t := ⟨_, rfl⟩
  have F := hid f2
  clear f1 f2
  rw [hu] at f3 f4
  rw [ht] at f5
  have P := hid (rfl : y * 2 ^ s = y * 2 ^ s)
  obtain ⟨D, hD⟩ : ∃ D, y * 2 ^ s = D := ⟨_, rfl⟩
  rw [hD] at hs2 hs3 f3
  have g1 := and_low D ⟨by omega, hs3⟩
  have g2 := and_low t f5
  obtain ⟨d1, hd1⟩ : ∃ d1, D / 4294967296 = d1 := ⟨_, rfl⟩
  obtain ⟨d0, hd0⟩ : ∃ d0, bits BinOp.and IntKind.u64 D 4294967295 = d0 := ⟨_, rfl⟩
  obtain ⟨t1, ht1⟩ : ∃ t1, t / 4294967296 = t1 := ⟨_, rfl⟩
  obtain ⟨t0, ht0⟩ : ∃ t0, bits BinOp.and IntKind.u64 t 4294967295 = t0 := ⟨_, rfl⟩
  have f6 := f5.1
  have f7 := f5.2
  rw [hd0] at g1
  rw [ht0] at g2
  have eD : D = d1 * 4294967296 + d0 := by omega
  have et : t = t1 * 4294967296 + t0 := by omega
  have b1 : 2147483648 ≤ d1 := by omega
  have b2 : d1 ≤ 4294967295 := by omega
  have b3 : 0 ≤ d0 := by omega
  have b4 : d0 ≤ 4294967295 := by omega
  have b5 : 0 ≤ t1 := by omega
  have b6 : t1 ≤ 4294967295 := by omega
  have b7 : 0 ≤ t0 := by omega
  have b8 : t0 ≤ 4294967295 := by omega
  have n : Den u d1 d0 t1 := ⟨b1, by omega, b3, by omega, f4, by omega, b5, by omega⟩
  have s0 := dig_start n
  have c1 : 0 ≤ u / d1 := s0.1.q0
  have c2 : u / d1 ≤ 4294967297 := s0.1.q1
  have c3 : 0 ≤ u / d1 * d1 := Int.mul_nonneg c1 (by omega)
  have c4 : u / d1 * d1 ≤ u := by have := s0.1.r0; omega
  have b9 : u ≤ 18446744073709551615 := by omega
  have S0 := hid s0
  have ED := hid eD
  have ET := hid et
  clear s0 eD et g1 g2 f3 f5
  go_upto_block 0 with (fail)
  have HU := hid hu
  have HT := hid ht
  have HD := hid hD
  clear hu ht hD hd1 hd0 ht1 ht0 k1 k2 k3 c1 c2 c3 c4
  obtain ⟨Q1, hQ1⟩ : ∃ Q1, (u * 4294967296 + t1) / (d1 * 4294967296 + d0) = Q1 := ⟨_, rfl⟩
  have q1a := dig_quo0 n
  have q1b := dig_quo1 n
  rw [hQ1] at q1a q1b
  have HQ1 := hid hQ1
  clear hQ1
  have QV : Hid (Value.int IntKind.u64 ((u * 4294967296 + t1) / (d1 * 4294967296 + d0)) = Value.int IntKind.u64 Q1) := by unfold Hid; rw [HQ1.out]
  go_cut [15, 16] from 67 to 85 (fun a _ wc => a = .int .u64 Q1 ∧ w = wc)
  case first =>
    go_wp2_with fail
    go_loop [15, 16] (fun a b => ∃ q r : Int, a = .int .u64 q ∧ b = .int .u64 r ∧ Dig u d1 d0 t1 q r ∧ r < 4294967296) (fun a b => (4294967296 - intOf b).toNat)
    case atStart => exact ⟨_, _, rfl, rfl, S0.out.1, S0.out.2⟩
    case round =>
      obtain ⟨q, r, rfl, rfl, hdig, hr⟩ := hrel
      have e1 := hdig.q0
      have e2 := hdig.q1
      have e3 := hdig.r0
      by_cases hc : 4294967296 ≤ q ∨ 4294967296 * r + t1 < q * d0
      · obtain ⟨x1, x2, x3⟩ := dig_step n hdig hc
        have y0 := x1.q0
        by_cases hq : 4294967296 ≤ q
        · clear hc
          by_cases hb : 4294967296 ≤ r + d1
          · go_wp2_with fail
            go_meet
            case rel => exact ⟨by rw [← dig_break n x1 x3 hb]; exact QV.out, rfl⟩
          · go_wp2_with fail
            go_round
            case rel => exact ⟨q - 1, r + d1, rfl, rfl, x1, by omega⟩
            case measure => simp [intOf]; omega
        · have hc' : 4294967296 * r + t1 < q * d0 := by omega
          have z0 : 0 ≤ q * d0 := Int.mul_nonneg e1 b3
          have z1 : q * d0 ≤ 18446744073709551615 := by
            have := Int.mul_le_mul (show q ≤ 4294967295 by omega) b4 b3 (by decide)
            omega
          clear hc
          by_cases hb : 4294967296 ≤ r + d1
          · go_wp2_with fail
            go_meet
            case rel => exact ⟨by rw [← dig_break n x1 x3 hb]; exact QV.out, rfl⟩
          · go_wp2_with fail
            go_round
            case rel => exact ⟨q - 1, r + d1, rfl, rfl, x1, by omega⟩
            case measure => simp [intOf]; omega
      · have hc1 : ¬ 4294967296 ≤ q := by omega
        have hc2 : ¬ 4294967296 * r + t1 < q * d0 := by omega
        have z0 : 0 ≤ q * d0 := Int.mul_nonneg e1 b3
        have z1 : q * d0 ≤ 18446744073709551615 := by
          have := Int.mul_le_mul (show q ≤ 4294967295 by omega) b4 b3 (by decide)
          omega
        have hz := dig_le n hdig (by omega)
        have HZ := hid hz
        clear hc hz
        go_wp2_with fail
        go_meet
        case rel => exact ⟨by rw [← HZ.out]; exact QV.out, rfl⟩
  case rest =>
    obtain ⟨rfl, rfl⟩ := hcut
    have r1e := rem_of n HQ1.out ED.out
    obtain ⟨r1, hr1⟩ : ∃ r1, u * 4294967296 + t1 - Q1 * D = r1 := ⟨_, rfl⟩
    rw [hr1] at r1e
    obtain ⟨r1w, r1a, r1b⟩ := r1e
    have R1 := hid hr1
    clear hr1
    have m : Den r1 d1 d0 t0 := ⟨b1, by omega, b3, by omega, r1a, by rw [← ED.out]; exact r1b, b7, by omega⟩
    have s1 := dig_start m
    have c1 : 0 ≤ r1 / d1 := s1.1.q0
    have c2 : r1 / d1 ≤ 4294967297 := s1.1.q1
    have c3 : 0 ≤ r1 / d1 * d1 := Int.mul_nonneg c1 (by omega)
    have c4 : r1 / d1 * d1 ≤ r1 := by have := s1.1.r0; omega
    have S1 := hid s1
    clear s1
    go_upto_block 2 with (fail)
    clear r1w c1 c2 c3 c4 QV
    obtain ⟨Q0, hQ0⟩ : ∃ Q0, (r1 * 4294967296 + t0) / (d1 * 4294967296 + d0) = Q0 := ⟨_, rfl⟩
    have q0a := dig_quo0 m
    have q0b := dig_quo1 m
    rw [hQ0] at q0a q0b
    have HQ0 := hid hQ0
    clear hQ0
    have QV : Hid (Value.int IntKind.u64 ((r1 * 4294967296 + t0) / (d1 * 4294967296 + d0)) = Value.int IntKind.u64 Q0) := by unfold Hid; rw [HQ0.out]
    go_cut [18, 16] from 102 to 120 (fun a _ wc => a = .int .u64 Q0 ∧ w = wc)
    case first =>
      go_wp2_with fail
      go_loop [18, 16] (fun a b => ∃ q r : Int, a = .int .u64 q ∧ b = .int .u64 r ∧ Dig r1 d1 d0 t0 q r ∧ r < 4294967296) (fun a b => (4294967296 - intOf b).toNat)
      case atStart => exact ⟨_, _, rfl, rfl, S1.out.1, S1.out.2⟩
      case round =>
        obtain ⟨q, r, rfl, rfl, hdig, hr⟩ := hrel
        have e1 := hdig.q0
        have e2 := hdig.q1
        have e3 := hdig.r0
        by_cases hc : 4294967296 ≤ q ∨ 4294967296 * r + t0 < q * d0
        · obtain ⟨x1, x2, x3⟩ := dig_step m hdig hc
          have y0 := x1.q0
          by_cases hq : 4294967296 ≤ q
          · clear hc
            by_cases hb : 4294967296 ≤ r + d1
            · go_wp2_with fail
              go_meet
              case rel => exact ⟨by rw [← dig_break m x1 x3 hb]; exact QV.out, rfl⟩
            · go_wp2_with fail
              go_round
              case rel => exact ⟨q - 1, r + d1, rfl, rfl, x1, by omega⟩
              case measure => simp [intOf]; omega
          · have hc' : 4294967296 * r + t0 < q * d0 := by omega
            have z0 : 0 ≤ q * d0 := Int.mul_nonneg e1 b3
            have z1 : q * d0 ≤ 18446744073709551615 := by
              have := Int.mul_le_mul (show q ≤ 4294967295 by omega) b4 b3 (by decide)
              omega
            clear hc
            by_cases hb : 4294967296 ≤ r + d1
            · go_wp2_with fail
              go_meet
              case rel => exact ⟨by rw [← dig_break m x1 x3 hb]; exact QV.out, rfl⟩
            · go_wp2_with fail
              go_round
              case rel => exact ⟨q - 1, r + d1, rfl, rfl, x1, by omega⟩
              case measure => simp [intOf]; omega
        · have hc1 : ¬ 4294967296 ≤ q := by omega
          have hc2 : ¬ 4294967296 * r + t0 < q * d0 := by omega
          have z0 : 0 ≤ q * d0 := Int.mul_nonneg e1 b3
          have z1 : q * d0 ≤ 18446744073709551615 := by
            have := Int.mul_le_mul (show q ≤ 4294967295 by omega) b4 b3 (by decide)
            omega
          have hz := dig_le m hdig (by omega)
          have HZ := hid hz
          clear hc hz
          go_wp2_with fail
          go_meet
          case rel => exact ⟨by rw [← HZ.out]; exact QV.out, rfl⟩
    case rest =>
      obtain ⟨rfl, rfl⟩ := hcut
      go_wp2_with fail
      have fin := high_end hs1 (show 0 < y by omega) (show 0 < D by omega) F.out HU.out HT.out HD.out ED.out ET.out R1.out (rem_of m HQ0.out ED.out)
      go_ret2
      exact ⟨ret2 fin.1 fin.2, rfl⟩
theorem div64 (h l y : Int) (hl : U64 l) (hy : y ≤ 18446744073709551615) (h0 : 0 ≤ h) (h1 : h < y) (w : World) :
    Calls Tryz.prog 97 #[.int .u64 h, .int .u64 l, .int .u64 y] w fun e w' => e = .returned (.tuple #[.int .u64 ((h * 18446744073709551616 + l) / y), .int .u64 ((h * 18446744073709551616 + l) % y)]) ∧ ∃ n, w.drewN n = w' := by
  by_cases hz : h = 0
  · subst hz
    refine (div64_low l y hl ⟨by omega, hy⟩ (by omega) w).mono ?_
    rintro e w' ⟨rfl, rfl⟩
    exact ⟨by simp only [Int.zero_mul, Int.zero_add], 1, rfl⟩
  · refine (div64_high h l y hl hy (by omega) h1 w).mono ?_
    rintro e w' ⟨rfl, rfl⟩
    exact ⟨rfl, 0, rfl⟩
end Go.Proofs.YtehbdnehlfplaaaGreat
namespace Go.Proofs.YtehbdnehlfplaaaGreat
open Go.RowKit
set_option maxHeartbeats 1000000
set_option maxRecDepth 100000
set_option linter.unusedVariables false
theorem and63 (i : Nat) (h : i < 128) : bits BinOp.and IntKind.i64 (i : Int) 63 = ((i % 64 : Nat) : Int) := by
  show IntKind.i64.wrap ((BitVec.ofInt 64 (i : Int) &&& BitVec.ofInt 64 63).toNat : Int) = _
  rw [BitVec.toNat_and, show (BitVec.ofInt 64 63).toNat = 2 ^ 6 - 1 from rfl, Nat.and_two_pow_sub_one_eq_mod, BitVec.toNat_ofInt, IntKind.wrap_i64]
  omega
theorem and1 (x : Int) (h : U64 x) : bits BinOp.and IntKind.u64 x 1 = x % 2 :=
  bits_mask .u64 64 (by decide) (fun n h0 h1 => by rw [IntKind.wrap_u64]; omega) 1 (by decide) x h.1 (by have := h.2; omega)
theorem or_bit (x b : Int) (hb : 0 ≤ b ∧ b ≤ 1) : bits BinOp.or IntKind.u64 (IntKind.u64.wrap (x * 2)) b = IntKind.u64.wrap (x * 2 + b) := by
  rw [IntKind.wrap_u64, IntKind.wrap_u64, bits_join .u64 64 (by decide) (fun n h0 h1 => by rw [IntKind.wrap_u64]; omega) 1 _ _ (by omega) (by omega) (by omega) (by omega) (by omega) (by omega)]
  omega
theorem shr_u64 {x : Int} (h : U64 x) (k : Nat) : U64 (x / 2 ^ k) := by
  have hp : (0 : Int) < 2 ^ k := Int.pow_pos (by decide)
  have := Int.ediv_le_self (2 ^ k) h.1
  unfold U64 at *
  exact ⟨Int.ediv_nonneg h.1 (Int.le_of_lt hp), by omega⟩
theorem bit_high (h l : Int) (hl : U64 l) {n : Nat} (hn : 64 ≤ n) (hn' : n < 128) : (h * 18446744073709551616 + l) / 2 ^ n % 2 = h / 2 ^ (n % 64) % 2 := by
  have e : (2 : Int) ^ n = 18446744073709551616 * 2 ^ (n % 64) := by
    rw [show (18446744073709551616 : Int) = 2 ^ 64 by rfl, ← Int.pow_add, show 64 + n % 64 = n by omega]
  rw [e, ← Int.ediv_ediv_of_nonneg (by decide)]
  unfold U64 at hl
  rw [show (h * 18446744073709551616 + l) / 18446744073709551616 = h by omega]
theorem bit_low (h l : Int) {n : Nat} (hn : n < 64) : (h * 18446744073709551616 + l) / 2 ^ n % 2 = l / 2 ^ (n % 64) % 2 := by
  have hp : (0 : Int) < 2 ^ n := Int.pow_pos (by decide)
  have e : (18446744073709551616 : Int) = 2 ^ (63 - n) * 2 * 2 ^ n := by
    rw [← Int.pow_succ, ← Int.pow_add, show 63 - n + 1 + n = 64 by omega]; rfl
  rw [show n % 64 = n by omega, e, ← Int.mul_assoc, Int.add_comm, Int.add_mul_ediv_right _ _ (by omega), ← Int.mul_assoc]
  omega
theorem top_bit {left : Int} (h : U64 left) : ((left / 9223372036854775808 == 1) = true ∧ 9223372036854775808 ≤ left) ∨ ((left / 9223372036854775808 == 1) = false ∧ left < 9223372036854775808) := by
  unfold U64 at h
  rcases Int.lt_or_le left 9223372036854775808 with c | c
  · right; exact ⟨by simp; omega, c⟩
  · left; exact ⟨by simp; omega, c⟩
theorem nat_back (n : Nat) : ((n : Int) - 1 + 1).toNat = n := by omega
theorem or_zero {q : Int} (h : U64 q) : bits BinOp.or IntKind.u64 q 0 = q := by
  have := bits_join .u64 64 (by decide) (fun n h0 h1 => by rw [IntKind.wrap_u64]; omega) 0 q 0 h.1 (by omega) (by have := h.2; omega) (by decide) (by decide) (by decide)
  omega
def OverPost (h l y : Int) (w : World) (e : Ending) (w' : World) : Prop := ∃ q r f, e = .returned (.tuple #[.int .u64 q, .int .u64 r, .bool f]) ∧ OvR h l y 0 r q f ∧ w = w'
theorem ref_over (h l y : Int) (hh : U64 h) (hl : U64 l) (hy : U64 y) (hy1 : 1 ≤ y) (w : World) :
    Calls Tryz.prog 84 #[.int .u64 h, .int .u64 l, .int .u64 y] w (OverPost h l y w) := by
  go_enter Tryz.func84, Tryz.ntmps84
  go_wp2_with fail
  go_loop [9, 10, 11, 12] (fun a b c d => ∃ q left f, ∃ i : Int, a = .int .u64 q ∧ b = .int .u64 left ∧ c = .bool f ∧ d = .int .i64 i ∧ -1 ≤ i ∧ i ≤ 127 ∧ OvR h l y (i + 1).toNat left q f) (fun _ _ _ d => (intOf d + 1).toNat)
  case atStart => exact ⟨_, _, _, _, rfl, rfl, rfl, rfl, by decide, by decide, ov_start hh hl hy1⟩
  case round =>
    obtain ⟨q, left, f, i, rfl, rfl, rfl, rfl, hi0, hi1, hr⟩ := hrel
    by_cases hlt : 0 ≤ i
    · obtain ⟨n, rfl⟩ := Int.eq_ofNat_of_zero_le hlt
      have hr' : OvR h l y (n + 1) left q f := hr
      have a63 := and63 n (by omega)
      have ah := and1 _ (shr_u64 hh (n % 64))
      have al := and1 _ (shr_u64 hl (n % 64))
      obtain ⟨bh, hbh⟩ : ∃ b, h / 2 ^ (n % 64) % 2 = b := ⟨_, rfl⟩
      obtain ⟨bl, hbl⟩ : ∃ b, l / 2 ^ (n % 64) % 2 = b := ⟨_, rfl⟩
      rw [hbh] at ah
      rw [hbl] at al
      have orh := or_bit left bh (by omega)
      have orl := or_bit left bl (by omega)
      have lq := hr'.q0
      have lb0 : 0 ≤ left ∧ left < y := by rw [hr'.left]; exact ⟨Int.emod_nonneg _ (by omega), Int.emod_lt_of_pos _ (by omega)⟩
      have ub := hy.2
      have tb := top_bit (left := left) ⟨lb0.1, by omega⟩
      have b1 : 0 ≤ bh ∧ bh ≤ 1 := by omega
      have b2 : 0 ≤ bl ∧ bl ≤ 1 := by omega
      by_cases h64 : 64 ≤ n
      · have st := ov_high hh hl hy1 h64 hr' bh (((bit_high h l hl h64 (by omega))).trans hbh)
        have ST := hid st
        have HL := hid (And.intro hr'.left hr'.q0)
        clear st hr hr' 
        have HB := hid (And.intro hbh hbl)
        clear hbh hbl
        rcases tb with ⟨t1, t2⟩ | ⟨t1, t2⟩
        · have wr : IntKind.u64.wrap (IntKind.u64.wrap (left * 2 + bh) - y) = 2 * left + bh - y := by rw [IntKind.wrap_u64, IntKind.wrap_u64]; omega
          go_wp2
          go_round
          case rel => exact ⟨_, _, _, _, rfl, rfl, rfl, rfl, by omega, by omega, by rw [nat_back]; exact ST.out.1 (by omega)⟩
          case measure => first | (simp [intOf]; done) | (simp [intOf]; omega)
        · have wr : bits BinOp.or IntKind.u64 (left * 2) bh = 2 * left + bh := by
            rw [show IntKind.u64.wrap (left * 2) = left * 2 by rw [IntKind.wrap_u64]; omega] at orh
            rw [orh, IntKind.wrap_u64]
            omega
          clear orh
          by_cases hc : y ≤ 2 * left + bh
          · go_wp2
            go_round
            case rel => exact ⟨_, _, _, _, rfl, rfl, rfl, rfl, by omega, by omega, by rw [nat_back]; exact ST.out.1 hc⟩
            case measure => first | (simp [intOf]; done) | (simp [intOf]; omega)
          · go_wp2
            go_round
            case rel => exact ⟨_, _, _, _, rfl, rfl, rfl, rfl, by omega, by omega, by rw [nat_back]; exact ST.out.2 (by omega)⟩
            case measure => first | (simp [intOf]; done) | (simp [intOf]; omega)
      · have h64 : n < 64 := by omega
        have p1 : (1 : Int) ≤ 2 ^ n := by
          have : (0 : Int) < 2 ^ n := Int.pow_pos (by decide)
          omega
        have p2 : (2 : Int) ^ n ≤ 9223372036854775808 := by
          have hx : 2 ^ n ≤ 2 ^ 63 := Nat.pow_le_pow_right (show 0 < 2 by decide) (show n ≤ 63 by omega)
          have h2 : ((2 ^ n : Nat) : Int) ≤ ((2 ^ 63 : Nat) : Int) := Int.ofNat_le.2 hx
          rw [Int.natCast_pow] at h2
          exact h2
        have q0 : bits BinOp.or IntKind.u64 q 0 = q := or_zero lq
        have st := ov_low hh hl hy1 h64 hr' bl (((bit_low h l h64)).trans hbl)
        have ST := hid st
        have HL := hid (And.intro hr'.left hr'.q0)
        clear st hr hr' 
        have HB := hid (And.intro hbh hbl)
        clear hbh hbl
        rcases tb with ⟨t1, t2⟩ | ⟨t1, t2⟩
        · have wr : IntKind.u64.wrap (IntKind.u64.wrap (left * 2 + bl) - y) = 2 * left + bl - y := by rw [IntKind.wrap_u64, IntKind.wrap_u64]; omega
          go_wp2
          go_round
          case rel => exact ⟨_, _, _, _, rfl, rfl, rfl, rfl, by omega, by omega, by rw [nat_back]; exact ST.out.1 (by omega)⟩
          case measure => first | (simp [intOf]; done) | (simp [intOf]; omega)
        · have wr : bits BinOp.or IntKind.u64 (left * 2) bl = 2 * left + bl := by
            rw [show IntKind.u64.wrap (left * 2) = left * 2 by rw [IntKind.wrap_u64]; omega] at orl
            rw [orl, IntKind.wrap_u64]
            omega
          clear orl
          by_cases hc : y ≤ 2 * left + bl
          · go_wp2
            go_round
            case rel => exact ⟨_, _, _, _, rfl, rfl, rfl, rfl, by omega, by omega, by rw [nat_back]; exact ST.out.1 hc⟩
            case measure => first | (simp [intOf]; done) | (simp [intOf]; omega)
          · go_wp2
            go_round
            case rel => exact ⟨_, _, _, _, rfl, rfl, rfl, rfl, by omega, by omega, by rw [nat_back]; exact ST.out.2 (by omega)⟩
            case measure => first | (simp [intOf]; done) | (simp [intOf]; omega)
    · obtain rfl : i = -1 := by omega
      go_wp2
      go_ret3
      exact ⟨q, left, f, rfl, hr, rfl⟩
end Go.Proofs.YtehbdnehlfplaaaGreat
/- Lines of classes: how they are to be bent, how many are right; two lines in each other's places. Plain mathematics. No program in sight. -/
namespace Go.Proofs.YtehbdnehlfplaaaGreat
open Go.RowKit
set_option maxRecDepth 100000
set_option linter.unusedVariables false
/-- How one sample bends the lines, line by line. -/
def sbE (out : Int) (w : List Int) (f : Int) (s : SmpV) : Int := if soE out w s f ≠ 0 then soE out w s f else fstE ((soV out w s f).map fun o => unE (behE f) (numS s.X o f) s.X.length)
def sbV (out : Int) (w : List Int) (f : Int) (s : SmpV) : List Int := ((soV out w s f).map fun o => unV (behE f) (numS s.X o f) s.X.length ++ [o]).flatten
def sfE (out : Int) (w : List Int) (ls : List SmpV) : Int := if rwE out w ≠ 0 then rwE out w else scE (((w.length / out.toNat : Nat) : Int) - 1) out w ls
def sgdE (out : Int) (w : List Int) (f : Int) (ls : List SmpV) : Int :=
  if sfE out w ls ≠ 0 then sfE out w ls else if fstE (ls.map (sbE out w f)) ≠ 0 then fstE (ls.map (sbE out w f)) else lmE ls.length (ls.map (sbV out w f))
def sgdV (out : Int) (w : List Int) (f : Int) (ls : List SmpV) : List Int := if sgdE out w f ls = 0 then lmV ls.length (ls.map (sbV out w f)) else []
/-- How many are right. -/
def rgE (out : Int) (w : List Int) (f : Int) (ls : List SmpV) : Int := if sfE out w ls ≠ 0 then sfE out w ls else fstE (ls.map fun s => kcE out w s.X f)
def rgN (out : Int) (w : List Int) (f : Int) (ls : List SmpV) : Nat := ls.countP fun s => decide ((kcN out w s.X f : Int) = s.Y)
end Go.Proofs.YtehbdnehlfplaaaGreat
/- Lines, by the landed code: Dim, Check. -/
namespace Go.Proofs.YtehbdnehlfplaaaGreat
open Go.RowKit
set_option maxHeartbeats 2000000
set_option maxRecDepth 100000
set_option linter.unusedVariables false
theorem ln_Dim (n : Int) (hn : I64 n) (w : World) :
    Calls Tryz.prog 42 #[.int .i64 n] w fun e w' => e = .returned (.tuple #[.int .i64 (ldV n), .int .i64 (ldE n)]) ∧ w = w' := by
  by_cases h1 : n < 1
  · have e1 : ldE n = 1 := if_pos (Or.inl h1)
    have e2 : ldV n = 0 := if_neg (by rw [e1]; decide)
    rw [e1, e2]
    clear e1 e2
    go_enter Tryz.func42, Tryz.ntmps42
    go_wp2_with fail
    go_ret2
    exact ⟨rfl, rfl⟩
  · by_cases h2 : n > 16
    · have e1 : ldE n = 1 := if_pos (Or.inr h2)
      have e2 : ldV n = 0 := if_neg (by rw [e1]; decide)
      rw [e1, e2]
      clear e1 e2
      go_enter Tryz.func42, Tryz.ntmps42
      go_wp2_with fail
      go_ret2
      exact ⟨rfl, rfl⟩
    · have e1 : ldE n = 0 := if_neg (by omega)
      have e2 : ldV n = n + 1 := if_pos e1
      rw [e1, e2]
      have hw : IntKind.i64.wrap (n + 1) = n + 1 := Go.IntWalk.i64_in _ (by omega)
      clear e1 e2
      go_enter Tryz.func42, Tryz.ntmps42
      go_wp2_with fail
      go_ret2
      exact ⟨rfl, rfl⟩
theorem ln_Check {Aw A : Option Addr} {cw c : Nat} (n : Int) (hn : I64 n) (u : List Int) (hu : u.length ≤ 9223372036854775807) (ls : List SmpV) (hl : ls.length ≤ 9223372036854775807) (hX : ∀ s ∈ ls, s.X.length ≤ 9223372036854775807) (w : World) (ra : RdSm w w.heap.size A ls) :
    Calls Tryz.prog 24 #[.int .i64 n, .slice Aw u.length cw, .slice A ls.length c] w fun e w' => e = .returned (.int .i64 (lcE n u ls)) ∧ Below w.heap.size w w' := by
  have CD := hid (fun w => ln_Dim n hn w)
  obtain ⟨M, hM⟩ : ∃ M, ls.length = M := ⟨_, rfl⟩
  obtain ⟨U, hU⟩ : ∃ U, u.length = U := ⟨_, rfl⟩
  by_cases h1 : ldE n = 0
  · have e2 : ldV n = n + 1 := if_pos h1
    have hr := ldE_ok.1 h1
    rw [h1, e2] at CD
    obtain ⟨N1, hN1⟩ : ∃ N1, n + 1 = N1 := ⟨_, rfl⟩
    by_cases h2 : (u.length : Int) = n + 1
    · have HE : Hid (lcE n u ls = if oddX n ls = true then 4 else if ls.length = 0 ∨ 64 < ls.length then 1 else 0) := hid (by
        unfold lcE; rw [if_neg (by simp [h1]), if_neg (by simp [h2])])
      rw [hU, hN1] at h2
      rw [hN1] at CD
      have t0 : ((U : Int) != N1) = false := by rw [h2]; simp
      rw [hM, hU]
      have HM := hid hM
      have RA := hid ra
      have HX := hid hX
      obtain ⟨E, hE⟩ : ∃ E, lcE n u ls = E := ⟨_, rfl⟩
      rw [hE]
      have HEE := hid hE
      clear h1 e2 hr hN1 hM hU ra hX hE h2
      go_enter Tryz.func24, Tryz.ntmps24
      go_wp2_with fail
      refine (CD.out _).mono ?_
      rintro _ _ ⟨rfl, rfl⟩
      go_wp2_with fail
      have hMb : M ≤ 9223372036854775807 := by have := HM.out; omega
      go_loopw [10, 25] (fun _ xi wr => ∃ k : Nat, k ≤ M ∧ xi = .int .i64 (k : Int) ∧ (∀ j s, j < k → ls[j]? = some s → (s.X.length : Int) = n) ∧ Below w.heap.size w wr) (fun _ xi _ => M - (intOf xi).toNat)
      case atStart => exact ⟨0, Nat.zero_le _, rfl, fun j s hj => by omega, Below.refl _ _⟩
      case round =>
        obtain ⟨k, hk, rfl, hall, hbel⟩ := hrel
        have HA := hid hall
        have HB := hid hbel
        clear hall
        by_cases hlt : k < M
        · obtain ⟨b1, o1, s, Ax, cx, rfl, l1, en, c1, d1, rx⟩ := (RA.out.on hbel).at_ (k := k) (by rw [HM.out]; exact hlt)
          have HS := hid en
          clear hbel en rx
          obtain ⟨X, hX⟩ : ∃ X, s.X.length = X := ⟨_, rfl⟩
          have HXX := hid hX
          rw [hX] at c1
          obtain ⟨Y, hY⟩ : ∃ Y, s.Y = Y := ⟨_, rfl⟩
          rw [hY] at d1
          clear hX hY
          by_cases hx : (X : Int) = n
          · have t1 : ((X : Int) != n) = false := by rw [hx]; simp
            have hw : IntKind.i64.wrap ((k : Int) + 1) = ((k + 1 : Nat) : Int) := Go.IntWalk.i64_in _ (by clear hx t1; omega)
            have HXN := hid hx
            clear hx
            go_wp2_with fail
            go_roundw
            case rel =>
              refine ⟨k + 1, hlt, rfl, ?_, HB.out.alloc HB.out.size _⟩
              intro j s' hj hs'
              by_cases e : j = k
              · subst e
                obtain rfl : s = s' := Option.some.inj (HS.out.symm.trans hs')
                rw [HXX.out]; exact HXN.out
              · exact HA.out j s' (by omega) hs'
            case measure => (try clear hw); simp [intOf]; omega
          · have t1 : ((X : Int) != n) = true := by simpa using hx
            have hodd : E = 4 := by
              rw [← HEE.out, HE.out]
              refine if_pos ?_
              unfold oddX
              rw [List.any_eq_true]
              exact ⟨s, List.mem_of_getElem? HS.out, by rw [HXX.out]; simpa using hx⟩
            subst hodd
            clear hx
            go_wp2_with fail
            go_ret
            exact ⟨rfl, HB.out.alloc HB.out.size _⟩
        · obtain rfl : k = M := by omega
          have hno : oddX n ls = false := oddX_no.2 fun s hs => by
            obtain ⟨j, hj, rfl⟩ := List.mem_iff_getElem.1 hs
            exact HA.out j _ (by rw [← HM.out]; exact hj) (List.getElem?_eq_getElem hj)
          have hE2 := HE.out
          rw [hno, if_neg (by decide), HEE.out, HM.out] at hE2
          by_cases h0 : k = 0
          · have m0 : ((k : Int) == 0) = true := by rw [h0]; rfl
            have : E = 1 := by rw [hE2]; exact if_pos (Or.inl h0)
            subst this
            clear hE2 hno h0 hbel
            go_wp2_with fail
            go_ret
            exact ⟨rfl, HB.out⟩
          · have m0 : ((k : Int) == 0) = false := beq_eq_false_iff_ne.2 (by omega)
            by_cases h64 : 64 < k
            · have m1 : (k : Int) > 64 := by omega
              have : E = 1 := by rw [hE2]; exact if_pos (Or.inr h64)
              subst this
              clear hE2 hno h0 hbel h64
              go_wp2_with fail
              go_ret
              exact ⟨rfl, HB.out⟩
            · have m1 : ¬ (k : Int) > 64 := by omega
              have : E = 0 := by rw [hE2]; exact if_neg (by omega)
              subst this
              clear hE2 hno h0 hbel h64
              go_wp2_with fail
              go_ret
              exact ⟨rfl, HB.out⟩
    · have e : lcE n u ls = 4 := by unfold lcE; rw [if_neg (by simp [h1]), if_pos h2]
      rw [e]
      rw [hU, hN1] at h2
      rw [hN1] at CD
      have t0 : ((U : Int) != N1) = true := by simpa using h2
      rw [hM, hU]
      clear h1 e2 hr hN1 hM hU ra hX e h2
      go_enter Tryz.func24, Tryz.ntmps24
      go_wp2_with fail
      refine (CD.out _).mono ?_
      rintro _ _ ⟨rfl, rfl⟩
      go_wp2_with fail
      go_ret
      exact ⟨rfl, Below.refl _ _⟩
  · have e : lcE n u ls = ldE n := by unfold lcE; rw [if_pos h1]
    rw [e]
    have e2 : ldV n = 0 := if_neg h1
    obtain ⟨E, hE⟩ : ∃ E, ldE n = E := ⟨_, rfl⟩
    rw [e2] at CD
    rw [hE] at CD h1 ⊢
    have hne : (E != 0) = true := by simpa using h1
    rw [hM, hU]
    clear e e2 hE h1 ra hX hM hU
    go_enter Tryz.func24, Tryz.ntmps24
    go_wp2_with fail
    refine (CD.out _).mono ?_
    rintro _ _ ⟨rfl, rfl⟩
    go_wp2_with fail
    go_ret
    exact ⟨rfl, Below.refl _ _⟩
end Go.Proofs.YtehbdnehlfplaaaGreat
/- Lines, by the landed code: what they tell, how far they are off. -/
namespace Go.Proofs.YtehbdnehlfplaaaGreat
open Go.RowKit
set_option maxHeartbeats 2000000
set_option maxRecDepth 100000
set_option linter.unusedVariables false
theorem ln_Tell {Aw Ax : Option Addr} {cw cx : Nat} (u x : List Int) (hu : u.length ≤ cw) (hcw : cw ≤ 9223372036854775807) (hx : x.length ≤ 9223372036854775807) (iu : I64s u) (ix : I64s x) (f : Int) (w : World)
    (ru : Rd (Value.int .i64) w w.heap.size Aw u) (rx : Rd (Value.int .i64) w w.heap.size Ax x) :
    Calls Tryz.prog 45 #[.slice Aw u.length cw, .slice Ax x.length cx, .int .i64 f] w fun e w' => e = .returned (.tuple #[.int .i64 (ltV u x f), .int .i64 (ltE u x f)]) ∧ Below w.heap.size w w' := by
  have hu9 : u.length ≤ 9223372036854775807 := Nat.le_trans hu hcw
  obtain ⟨w2, hw2⟩ : ∃ w2, w.alloc (.cells #[.slice Ax x.length cx, .int .i64 0] 36) = w2 := ⟨_, rfl⟩
  have hb2 : Below w.heap.size w w2 := by rw [← hw2]; go_grown
  have hs2 : w2.heap.size = w.heap.size + 1 := by rw [← hw2]; simp
  have r2 : RdSm w2 w2.heap.size (some ⟨w.heap.size, 0, none⟩) [⟨x, 0⟩] := by rw [← hw2]; exact smp_one 36 rx
  have CC := hid (ln_Check (Aw := Aw) (A := some ⟨w.heap.size, 0, none⟩) (cw := cw) (c := 1) (x.length : Int) (by unfold I64; omega) u hu9 [⟨x, 0⟩] (by simp) (by simpa using hx) w2 r2)
  obtain ⟨U, hU⟩ : ∃ U, u.length = U := ⟨_, rfl⟩
  obtain ⟨N, hN⟩ : ∃ N, x.length = N := ⟨_, rfl⟩
  have HRU := hid (ru.on hb2)
  have HRX := hid (rx.on hb2)
  have HB2 := hid hb2
  by_cases h1 : lcE (x.length : Int) u [⟨x, 0⟩] = 0
  · obtain ⟨⟨n1, n2⟩, hun, _, _, _⟩ := lcE_ok.1 h1
    rw [h1] at CC
    have hlast : ∃ y, u[x.length]? = some y ∧ u.getD x.length 0 = y := ⟨u[x.length]'(by omega), List.getElem?_eq_getElem (by omega), by rw [List.getD_eq_getElem?_getD, List.getElem?_eq_getElem (by omega)]; rfl⟩
    obtain ⟨y, hy, hyD⟩ := hlast
    have iy : I64 y := iu.at_ hy
    have hsl := fun W => run_upto (P := Tryz.prog) 22 Tryz.underlying22 Tryz.sizeOf2 Aw u.length cw x.length (by omega) W
    obtain ⟨A3, hA3⟩ : ∃ A3, cutA Aw 0 cw = A3 := ⟨_, rfl⟩
    rw [hA3] at hsl
    have htl : (u.take x.length).length = x.length := by rw [List.length_take]; omega
    have CD := hid (fun W (h1 : Rd (Value.int .i64) W W.heap.size A3 (u.take x.length)) (h2 : Rd (Value.int .i64) W W.heap.size Ax x) => Dot_any (c := cw) (d := cx) (u.take x.length) x (by rw [htl]; exact hx) hx (fun v hv => iu v (List.mem_of_mem_take hv)) ix f W h1 h2)
    rw [htl] at CD
    have HC := hid (fun W (h : Rd (Value.int .i64) W W.heap.size Aw u) => (by have := h.cut0 (c := cw) hu x.length; rw [hA3] at this; exact this : Rd (Value.int .i64) W W.heap.size A3 (u.take x.length)))
    by_cases h2 : dotE (u.take x.length) x f = 0
    · have eE : ltE u x f = ckE (dotV (u.take x.length) x f + y) := by unfold ltE; rw [if_neg (by simp [h1]), if_neg (by simp [h2]), hyD]
      have eV : ltV u x f = ckV (dotV (u.take x.length) x f + y) := by
        unfold ltV
        rw [eE, hyD]
        rcases ckE_cases (dotV (u.take x.length) x f + y) with ⟨a, b, c⟩ | ⟨a, b, c⟩
        · rw [if_pos a, c]
        · rw [if_neg (by rw [a]; decide), c]
      rw [eE, eV]
      rw [h2] at CD
      have iD : I64 (dotV (u.take x.length) x f) := ln_dot_i64 _ _ _
      obtain ⟨D, hD⟩ : ∃ D, dotV (u.take x.length) x f = D := ⟨_, rfl⟩
      rw [hD] at CD iD ⊢
      have CA := hid (fun W => fix_Add D y iD iy W)
      have HY := hid hy
      have HUN : Hid (x.length < u.length) := hid (by omega)
      have HUL : Hid (N < u.length) := hid (by omega)
      rw [hN] at CC CD HC hsl HY HUN hw2 ⊢
      rw [hU] at CC hsl HUN ⊢
      have hNU : (N : Int) < (U : Int) := by have := HUN.out; omega
      clear h1 n1 n2 hun hyD hA3 htl h2 eE eV hD iD iy hy hU hN hu hcw hu9 hx iu ix ru rx r2 hb2
      clear hs2
      go_enter Tryz.func45, Tryz.ntmps45
      go_wp2_with fail
      refine CC.out.mono ?_
      rintro _ w3 ⟨rfl, hb3⟩
      have K3 : Hid (Below w.heap.size w w3) := hid (HB2.out.trans (hb3.mono HB2.out.size))
      have RU3 := hid (HRU.out.on hb3)
      have RX3 := hid (HRX.out.on hb3)
      clear hb3 hw2
      go_wp2_with fail
      refine (CD.out _ (HC.out _ RU3.out) RX3.out).mono ?_
      rintro _ w4 ⟨rfl, hb4⟩
      have K4 : Hid (Below w.heap.size w w4) := hid (K3.out.trans (hb4.mono K3.out.size))
      obtain ⟨b1, o1, y', rfl, l1, en, c1⟩ := (RU3.out.on hb4).at_ (k := N) HUL.out
      obtain rfl : y = y' := Option.some.inj (HY.out.symm.trans en)
      clear hb4 en
      go_wp2_with fail
      refine (CA.out _).mono ?_
      rintro _ _ ⟨rfl, rfl⟩
      go_wp2_with fail
      go_ret2
      exact ⟨rfl, K4.out⟩
    · have eE : ltE u x f = dotE (u.take x.length) x f := by unfold ltE; rw [if_neg (by simp [h1]), if_pos h2]
      have eV : ltV u x f = 0 := if_neg (by rw [eE]; exact h2)
      rw [eE, eV]
      obtain ⟨E, hE⟩ : ∃ E, dotE (u.take x.length) x f = E := ⟨_, rfl⟩
      have hD0 : dotV (u.take x.length) x f = 0 := ln_dot_zero h2
      rw [hE] at CD h2 ⊢
      rw [hD0] at CD
      have hne : (E != 0) = true := by simpa using h2
      rw [hN] at CC CD HC hsl hw2 ⊢
      rw [hU] at CC hsl ⊢
      clear h1 n1 n2 hun hyD hA3 htl h2 eE eV hE hD0 iy hy hU hN hu hcw hu9 hx iu ix ru rx r2 hb2 hs2
      go_enter Tryz.func45, Tryz.ntmps45
      go_wp2_with fail
      refine CC.out.mono ?_
      rintro _ w3 ⟨rfl, hb3⟩
      have K3 : Hid (Below w.heap.size w w3) := hid (HB2.out.trans (hb3.mono HB2.out.size))
      have RU3 := hid (HRU.out.on hb3)
      have RX3 := hid (HRX.out.on hb3)
      clear hb3 hw2
      go_wp2_with fail
      refine (CD.out _ (HC.out _ RU3.out) RX3.out).mono ?_
      rintro _ w4 ⟨rfl, hb4⟩
      have K4 : Hid (Below w.heap.size w w4) := hid (K3.out.trans (hb4.mono K3.out.size))
      clear hb4
      go_wp2_with fail
      go_ret2
      exact ⟨rfl, K4.out⟩
  · have eE : ltE u x f = lcE (x.length : Int) u [⟨x, 0⟩] := by unfold ltE; rw [if_pos h1]
    have eV : ltV u x f = 0 := if_neg (by rw [eE]; exact h1)
    rw [eE, eV]
    obtain ⟨E, hE⟩ : ∃ E, lcE (x.length : Int) u [⟨x, 0⟩] = E := ⟨_, rfl⟩
    rw [hE] at CC h1 ⊢
    have hne : (E != 0) = true := by simpa using h1
    rw [hN] at CC hw2 ⊢
    rw [hU] at CC ⊢
    clear eE eV hE h1 ru rx iu ix hU hN hu hcw hu9 hx r2 hb2
    go_enter Tryz.func45, Tryz.ntmps45
    go_wp2_with fail
    refine CC.out.mono ?_
    rintro _ w3 ⟨rfl, hb3⟩
    have K3 : Hid (Below w.heap.size w w3) := hid (HB2.out.trans (hb3.mono HB2.out.size))
    clear hb3
    go_wp2_with fail
    go_ret2
    exact ⟨rfl, K3.out⟩
end Go.Proofs.YtehbdnehlfplaaaGreat
/- Lines, by the document: how far they are off. -/
/- Lists of lists that are the same are told so, by the document. -/
namespace Go.Proofs.YtehbdnehlfplaaaGreat
open Go.RowKit
set_option maxHeartbeats 2000000
set_option maxRecDepth 100000
set_option linter.unusedVariables false
theorem sf_rsame {A B : Option Addr} {c d : Nat} (xs : List Int) (hx : xs.length ≤ 9223372036854775807) (w : World) (ra : Rd (Value.int .i64) w w.heap.size A xs) (rb : Rd (Value.int .i64) w w.heap.size B xs) :
    Calls Tryz.prog 10 #[.slice A xs.length c, .slice B xs.length d] w fun e w' => e = .returned (.bool true) ∧ Below w.heap.size w w' := by
  have h := rSame_any (A := A) (B := B) (c := c) (d := d) xs xs hx hx w ra rb
  rw [eqB_self] at h
  exact h
end Go.Proofs.YtehbdnehlfplaaaGreat
