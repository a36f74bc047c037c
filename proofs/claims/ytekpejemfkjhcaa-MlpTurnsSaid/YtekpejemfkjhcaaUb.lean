
/- Ub: texts joined: Mul VecC Vec Vec2 Vec3 Vec4 RefA RefB VecR VecS VecT VecU VecM VecN VecO LnM ArgX LpA LnN LnO SoM SoN MpM MqA MqM MqB LnA LnF MlA SfA SfB LnB SfC MlB MlC. -/
import Derived.Test.YtekpejemfkjhcaaUFixB
import Derived.Test.YtekpejemfkjhcaaUa
import Derived.Deep.QuietTactic
import Derived.BigQuiet
import Derived.Outline
import Derived.StillTailTactics
import Derived.Deep.RegionHeld3
import Derived.Deep.Slices
import Derived.ChangeSame
namespace Go.Proofs.Ytekpejemfkjhcaa
open Go.RowKit
set_option maxHeartbeats 400000
set_option maxRecDepth 100000
set_option linter.unusedVariables false
theorem behind_yes (n : Int) (h1 : 0 ≤ n) (h2 : n ≤ 30) (w : World) :
    Calls Try.prog 77 #[.int .i64 n] w fun e w' => e = .returned (.bool true) ∧ w = w' := by
  go_enter Try.func77, Try.ntmps77
  go_wp2
  go_ret
  exact ⟨by simp, rfl⟩
theorem behind_no (n : Int) (h : n < 0 ∨ 30 < n) (w : World) :
    Calls Try.prog 77 #[.int .i64 n] w fun e w' => e = .returned (.bool false) ∧ w = w' := by
  by_cases h1 : n < 0
  · clear h
    go_enter Try.func77, Try.ntmps77
    go_wp2
    go_ret
    exact ⟨by simp, rfl⟩
  · have h2 : 30 < n := by omega
    clear h
    go_enter Try.func77, Try.ntmps77
    go_wp2
    go_ret
    exact ⟨by simp; omega, rfl⟩
theorem i128_mul {a b : Int} (ha : I64 a) (hb : I64 b) : I128 (a * b) := by
  unfold I64 at ha hb
  have h1 : (a + 9223372036854775808) * (b + 9223372036854775808) ≥ 0 := Int.mul_nonneg (by omega) (by omega)
  have h2 : (9223372036854775808 - a) * (b + 9223372036854775808) ≥ 0 := Int.mul_nonneg (by omega) (by omega)
  have h3 : (9223372036854775808 - a) * (9223372036854775808 - b) ≥ 0 := Int.mul_nonneg (by omega) (by omega)
  have h4 : (a + 9223372036854775808) * (9223372036854775808 - b) ≥ 0 := Int.mul_nonneg (by omega) (by omega)
  simp only [Int.add_mul, Int.mul_add, Int.sub_mul, Int.mul_sub] at h1 h2 h3 h4
  unfold I128
  generalize a * b = p at *
  omega
theorem i128_div {s d : Int} (hs : I128 s) (hd : 1 ≤ d) : I128 (s / d) := by
  unfold I128 at *
  constructor
  · exact Int.le_ediv_of_mul_le (by omega) (by
      have := Int.mul_le_mul_of_nonneg_left hd (show (0:Int) ≤ 170141183460469231731687303715884105728 by decide)
      omega)
  · have : s / d < 170141183460469231731687303715884105728 := Int.ediv_lt_of_lt_mul (by omega) (by
      have := Int.mul_le_mul_of_nonneg_left hd (show (0:Int) ≤ 170141183460469231731687303715884105728 by decide)
      omega)
    omega
theorem i64_pow {k : Nat} (hk : k ≤ 30) : I64 (2 ^ k) ∧ (2 : Int) ^ k ≤ 1073741824 ∧ 1 ≤ (2 : Int) ^ k := by
  have h0 : (0 : Int) < 2 ^ k := Int.pow_pos (by decide)
  have h1 : (2 : Int) ^ k ≤ 2 ^ 30 := by exact_mod_cast Nat.pow_le_pow_right (show 0 < 2 by decide) hk
  unfold I64
  omega
theorem fix_Mul (a b : Int) (k : Nat) (hk : k ≤ 30) (ha : I64 a) (hb : I64 b) (w : World) :
    Calls Try.prog 65 #[.int .i64 a, .int .i64 b, .int .i64 k] w fun e w' => e = .returned (.tuple #[.int .i64 (ckV (a * b / 2 ^ k)), .int .i64 (ckE (a * b / 2 ^ k))]) ∧ Below w.heap.size w w' := by
  go_enter Try.func65, Try.ntmps65
  go_wp2_with fail
  refine (behind_yes _ (by omega) (by omega) _).mono ?_
  rintro e w' ⟨rfl, rfl⟩
  go_wp2_with fail
  refine (fix_times _ _ ha hb _).mono ?_
  rintro e w1 ⟨rfl, hb1⟩
  go_wp2_with fail
  refine (fix_shift _ k (i128_mul ha hb) hk _).mono ?_
  rintro e w2 ⟨rfl, hb2⟩
  go_wp2_with fail
  refine (fix_number _ (i128_div (i128_mul ha hb) (i64_pow hk).2.2) _).mono ?_
  rintro e w3 ⟨rfl, hb3⟩
  go_wp2_with fail
  go_ret2
  exact ⟨rfl, (hb1.trans (hb2.mono hb1.size)).trans (hb3.mono (Nat.le_trans hb1.size hb2.size))⟩
theorem Mul_bad (a b n : Int) (h : n < 0 ∨ 30 < n) (w : World) :
    Calls Try.prog 65 #[.int .i64 a, .int .i64 b, .int .i64 n] w fun e w' => e = .returned (.tuple #[.int .i64 0, .int .i64 1]) ∧ Below w.heap.size w w' := by
  go_enter Try.func65, Try.ntmps65
  go_wp2_with fail
  refine (behind_no _ h _).mono ?_
  rintro e w' ⟨rfl, rfl⟩
  go_wp2_with fail
  go_ret2
  exact ⟨rfl, Below.refl _ _⟩
end Go.Proofs.Ytekpejemfkjhcaa
/- The function values that vec hands on: each number by its place. -/
namespace Go.Proofs.Ytekpejemfkjhcaa
open Go.RowKit
set_option maxHeartbeats 400000
set_option maxRecDepth 100000
set_option linter.unusedVariables false
theorem add_cl {pa pb k : Nat} {A B : Option Addr} {c d : Nat} {w : World} {x y : Int} (xs ys : List Int)
    (ha : w.cell? ⟨pa, 0, none⟩ = some (.slice A xs.length c)) (hb : w.cell? ⟨pb, 0, none⟩ = some (.slice B ys.length d)) {L M : Nat}
    (ra : Rd (Value.int .i64) w L A xs) (rb : Rd (Value.int .i64) w M B ys) (hx : xs[k]? = some x) (hy : ys[k]? = some y) (ix : I64 x) (iy : I64 y) :
    Calls Try.prog 83 (#[.int .i64 k] ++ #[.pointer (some ⟨pa, 0, none⟩), .pointer (some ⟨pb, 0, none⟩)]) w fun e w' => e = .returned (.tuple #[.int .i64 (ckV (x + y)), .int .i64 (ckE (x + y))]) ∧ Below w.heap.size w w' := by
  obtain ⟨b1, o1, rfl, _, c1⟩ := ra k x hx
  obtain ⟨b2, o2, rfl, _, c2⟩ := rb k y hy
  have l1 : k < xs.length := (List.getElem?_eq_some_iff.1 hx).1
  have l2 : k < ys.length := (List.getElem?_eq_some_iff.1 hy).1
  have C := fun W => fix_Add x y ix iy W
  clear ra rb hx hy
  have C' := hid C
  clear C
  go_enter Try.func83, Try.ntmps83
  go_wp2_with fail
  go_quiet ((go_at_call 46; exact quietL C'.out _))
  go_wp2_with fail
  go_ret2
  exact ⟨rfl, belowN _ _ _⟩
theorem scale_cl {pa pb pc k : Nat} {A : Option Addr} {c : Nat} {w : World} {x by_ m v er : Int} (xs : List Int)
    (ha : w.cell? ⟨pa, 0, none⟩ = some (.slice A xs.length c)) (hb : w.cell? ⟨pb, 0, none⟩ = some (.int .i64 by_)) (hc : w.cell? ⟨pc, 0, none⟩ = some (.int .i64 m)) {L : Nat}
    (ra : Rd (Value.int .i64) w L A xs) (hx : xs[k]? = some x) (C : ∀ W, Calls Try.prog 65 #[.int .i64 x, .int .i64 by_, .int .i64 m] W fun r W' => r = .returned (.tuple #[.int .i64 v, .int .i64 er]) ∧ Below W.heap.size W W') :
    Calls Try.prog 82 (#[.int .i64 k] ++ #[.pointer (some ⟨pa, 0, none⟩), .pointer (some ⟨pb, 0, none⟩), .pointer (some ⟨pc, 0, none⟩)]) w fun e w' => e = .returned (.tuple #[.int .i64 v, .int .i64 er]) ∧ Below w.heap.size w w' := by
  obtain ⟨b1, o1, rfl, _, c1⟩ := ra k x hx
  have l1 : k < xs.length := (List.getElem?_eq_some_iff.1 hx).1
  clear ra hx
  have C' := hid C
  clear C
  go_enter Try.func82, Try.ntmps82
  go_wp2_with fail
  have la := lt_of_cell ha
  have lb := lt_of_cell hb
  have lc := lt_of_cell hc
  have lx := lt_of_cell c1
  go_region_held3 (fun w' => w'.cell? ⟨pa, 0, none⟩ = some (.slice (some ⟨b1, o1, none⟩) xs.length c) ∧ w'.cell? ⟨b1, o1 + k, none⟩ = some (.int .i64 x) ∧ w'.cell? ⟨pb, 0, none⟩ = some (.int .i64 by_) ∧ w'.cell? ⟨pc, 0, none⟩ = some (.int .i64 m) ∧ Below w.heap.size w w') (first | exact ⟨ha, c1, hb, hc, (Below.refl _ _).drew⟩ | (have hk := below_step ((Below.refl _ _).drew) hb1 (Nat.le_refl _); exact ⟨(hk.cell la).trans ha, (hk.cell lx).trans c1, (hk.cell lb).trans hb, (hk.cell lc).trans hc, hk⟩) | go_keep)
    (first | (go_at_call 65; refine (C'.out _).mono ?_; rintro e w1 ⟨rfl, hb1⟩))
  go_wp2_with fail
  go_ret2
  exact ⟨rfl, below_step ((Below.refl _ _).drew) hb1 (Nat.le_refl _)⟩
theorem dot_cl {pa pb pc k : Nat} {A B : Option Addr} {c d : Nat} {w : World} {x y m v er : Int} (xs ys : List Int)
    (ha : w.cell? ⟨pa, 0, none⟩ = some (.slice A xs.length c)) (hb : w.cell? ⟨pb, 0, none⟩ = some (.slice B ys.length d)) (hc : w.cell? ⟨pc, 0, none⟩ = some (.int .i64 m)) {L M : Nat}
    (ra : Rd (Value.int .i64) w L A xs) (rb : Rd (Value.int .i64) w M B ys) (hx : xs[k]? = some x) (hy : ys[k]? = some y) (C : ∀ W, Calls Try.prog 65 #[.int .i64 x, .int .i64 y, .int .i64 m] W fun r W' => r = .returned (.tuple #[.int .i64 v, .int .i64 er]) ∧ Below W.heap.size W W') :
    Calls Try.prog 64 (#[.int .i64 k] ++ #[.pointer (some ⟨pa, 0, none⟩), .pointer (some ⟨pb, 0, none⟩), .pointer (some ⟨pc, 0, none⟩)]) w fun e w' => e = .returned (.tuple #[.int .i64 v, .int .i64 er]) ∧ Below w.heap.size w w' := by
  obtain ⟨b1, o1, rfl, _, c1⟩ := ra k x hx
  obtain ⟨b2, o2, rfl, _, c2⟩ := rb k y hy
  have l1 : k < xs.length := (List.getElem?_eq_some_iff.1 hx).1
  have l2 : k < ys.length := (List.getElem?_eq_some_iff.1 hy).1
  clear ra hx rb hy
  have C' := hid C
  clear C
  go_enter Try.func64, Try.ntmps64
  go_wp2_with fail
  have la := lt_of_cell ha
  have lb := lt_of_cell hb
  have lc := lt_of_cell hc
  have lx := lt_of_cell c1
  have ly := lt_of_cell c2
  go_region_held3 (fun w' => w'.cell? ⟨pa, 0, none⟩ = some (.slice (some ⟨b1, o1, none⟩) xs.length c) ∧ w'.cell? ⟨b1, o1 + k, none⟩ = some (.int .i64 x) ∧ w'.cell? ⟨pb, 0, none⟩ = some (.slice (some ⟨b2, o2, none⟩) ys.length d) ∧ w'.cell? ⟨b2, o2 + k, none⟩ = some (.int .i64 y) ∧ w'.cell? ⟨pc, 0, none⟩ = some (.int .i64 m) ∧ Below w.heap.size w w') (first | exact ⟨ha, c1, hb, c2, hc, (Below.refl _ _).drew⟩ | (have hk := below_step ((Below.refl _ _).drew) hb1 (Nat.le_refl _); exact ⟨(hk.cell la).trans ha, (hk.cell lx).trans c1, (hk.cell lb).trans hb, (hk.cell ly).trans c2, (hk.cell lc).trans hc, hk⟩) | go_keep)
    (first | (go_at_call 65; refine (C'.out _).mono ?_; rintro e w1 ⟨rfl, hb1⟩))
  go_wp2_with fail
  go_ret2
  exact ⟨rfl, below_step ((Below.refl _ _).drew) hb1 (Nat.le_refl _)⟩
theorem add_ok (args : Array Value) (W : World) : (callFunc 83 args).run Try.prog W = .ok (.enter 83 args) W := cl_enter 83 (by kernel_rfl) args W
theorem scale_ok (args : Array Value) (W : World) : (callFunc 82 args).run Try.prog W = .ok (.enter 82 args) W := cl_enter 82 (by kernel_rfl) args W
theorem dot_ok (args : Array Value) (W : World) : (callFunc 64 args).run Try.prog W = .ok (.enter 64 args) W := cl_enter 64 (by kernel_rfl) args W
end Go.Proofs.Ytekpejemfkjhcaa
/- vec's functions, each by its contract. -/
namespace Go.Proofs.Ytekpejemfkjhcaa
open Go.RowKit
set_option maxHeartbeats 400000
set_option maxRecDepth 100000
set_option linter.unusedVariables false
/-- What stands in the way of two vectors. -/
def twoE (n m : Nat) : Int := if 4096 < n ∨ 4096 < m then 3 else if n = m then 0 else 4
def oneE (n : Nat) : Int := if 4096 < n then 3 else 0
theorem Check_any (A : Option Addr) (n c : Nat) (hn : n ≤ 9223372036854775807) (w : World) :
    Calls Try.prog 38 #[.slice A n c] w fun e w' => e = .returned (.int .i64 (oneE n)) ∧ w = w' := by
  by_cases h : 4096 < n
  · have e1 : oneE n = 3 := if_pos h
    rw [e1]
    clear e1
    go_enter Try.func38, Try.ntmps38
    go_wp2
    go_ret
    exact ⟨rfl, rfl⟩
  · have e1 : oneE n = 0 := if_neg h
    rw [e1]
    clear e1
    go_enter Try.func38, Try.ntmps38
    go_wp2
    go_ret
    exact ⟨rfl, rfl⟩
theorem match_any (A B : Option Addr) (n m c d : Nat) (hn : n ≤ 9223372036854775807) (hm : m ≤ 9223372036854775807) (w : World) :
    Calls Try.prog 61 #[.slice A n c, .slice B m d] w fun e w' => e = .returned (.int .i64 (twoE n m)) ∧ w = w' := by
  have C1 := hid (Check_any A n c hn)
  have C2 := hid (Check_any B m d hm)
  by_cases h1 : 4096 < n
  · have e1 : twoE n m = 3 := if_pos (Or.inl h1)
    have e2 : oneE n = 3 := if_pos h1
    rw [e2] at C1
    rw [e1]
    clear e1 e2
    go_enter Try.func61, Try.ntmps61
    go_wp2_with fail
    refine (C1.out _).mono ?_
    rintro _ _ ⟨rfl, rfl⟩
    go_wp2_with fail
    go_ret
    exact ⟨rfl, rfl⟩
  · have e2 : oneE n = 0 := if_neg h1
    rw [e2] at C1
    clear e2
    by_cases h2 : 4096 < m
    · have e1 : twoE n m = 3 := if_pos (Or.inr h2)
      have e2 : oneE m = 3 := if_pos h2
      rw [e2] at C2
      rw [e1]
      clear e1 e2
      go_enter Try.func61, Try.ntmps61
      go_wp2_with fail
      refine (C1.out _).mono ?_
      rintro _ _ ⟨rfl, rfl⟩
      go_wp2_with fail
      refine (C2.out _).mono ?_
      rintro _ _ ⟨rfl, rfl⟩
      go_wp2_with fail
      go_ret
      exact ⟨rfl, rfl⟩
    · have e2 : oneE m = 0 := if_neg h2
      rw [e2] at C2
      clear e2
      by_cases h3 : n = m
      · subst h3
        have e1 : twoE n n = 0 := by unfold twoE; rw [if_neg (by omega), if_pos rfl]
        rw [e1]
        clear e1
        go_enter Try.func61, Try.ntmps61
        go_wp2_with fail
        refine (C1.out _).mono ?_
        rintro _ _ ⟨rfl, rfl⟩
        go_wp2_with fail
        refine (C2.out _).mono ?_
        rintro _ _ ⟨rfl, rfl⟩
        go_wp2_with fail
        go_ret
        exact ⟨rfl, rfl⟩
      · have e1 : twoE n m = 4 := by unfold twoE; rw [if_neg (by omega), if_neg h3]
        rw [e1]
        have h4 : ((n : Int) != (m : Int)) = true := by simp; omega
        have h5 : (n != m) = true := by simp; omega
        clear e1
        go_enter Try.func61, Try.ntmps61
        go_wp2_with fail
        refine (C1.out _).mono ?_
        rintro _ _ ⟨rfl, rfl⟩
        go_wp2_with fail
        refine (C2.out _).mono ?_
        rintro _ _ ⟨rfl, rfl⟩
        go_wp2_with fail
        go_ret
        exact ⟨rfl, rfl⟩
def numV2 (f : Int → Int → Int) (xs ys : List Int) (k : Nat) : Int × Int := (ckV (f (xs.getD k 0) (ys.getD k 0)), ckE (f (xs.getD k 0) (ys.getD k 0)))
/-- Two vectors, number by number: the error, and the vector. -/
def opE (f : Int → Int → Int) (xs ys : List Int) : Int := if twoE xs.length ys.length = 0 then seqE (numV2 f xs ys) xs.length else twoE xs.length ys.length
def opV (f : Int → Int → Int) (xs ys : List Int) : List Int := if twoE xs.length ys.length = 0 then seqV (numV2 f xs ys) xs.length else []
theorem twoE_ok {n m : Nat} (h : twoE n m = 0) : n ≤ 4096 ∧ m = n := by
  unfold twoE at h
  split at h
  · cases h
  · split at h
    · omega
    · cases h
theorem OwnInts.onto {xs : List Int} {er : Int} {w wl w' : World} {e : Ending} (h : OwnInts xs er wl e w') (hb : Below w.heap.size w wl) : OwnInts xs er w e w' := by
  obtain ⟨A, c, he, ho, hk⟩ := h
  exact ⟨A, c, he, own_base ho hb.size, hb.trans (hk.mono hb.size)⟩
theorem add_H {A B : Option Addr} {c d : Nat} (xs ys : List Int) (hl : ys.length = xs.length) (ix : I64s xs) (iy : I64s ys) (w : World)
    (ra : Rd (Value.int .i64) w w.heap.size A xs) (rb : Rd (Value.int .i64) w w.heap.size B ys) (k : Nat) (hk : k < xs.length) (W : World)
    (hW : Below ((w.alloc (.cells #[.slice A xs.length c] 22)).alloc (.cells #[.slice B ys.length d] 22)).heap.size ((w.alloc (.cells #[.slice A xs.length c] 22)).alloc (.cells #[.slice B ys.length d] 22)) W) :
    Calls Try.prog 83 (#[.int .i64 k] ++ #[.pointer (some ⟨w.heap.size, 0, none⟩), .pointer (some ⟨w.heap.size + 1, 0, none⟩)]) W fun e w' => e = .returned (.tuple #[.int .i64 (numV2 (· + ·) xs ys k).1, .int .i64 (numV2 (· + ·) xs ys k).2]) ∧ Below W.heap.size W w' := by
  obtain ⟨ca, cb, hb⟩ := two_cells w (.slice A xs.length c) (.slice B ys.length d) 22 22
  obtain ⟨_, _, x, _, _, hx, _⟩ := ra.at_ hk
  obtain ⟨_, _, y, _, _, hy, _⟩ := rb.at_ (show k < ys.length by omega)
  have hB := hb.trans (hW.mono hb.size)
  have h := add_cl xs ys (cell_later hW ca) (cell_later hW cb) (ra.below hB) (rb.below hB) hx hy (ix.at_ hx) (iy.at_ hy)
  unfold numV2
  rw [getD_of hx, getD_of hy]
  exact h
theorem Add_any {A B : Option Addr} {c d : Nat} (xs ys : List Int) (hx : xs.length ≤ 9223372036854775807) (hy : ys.length ≤ 9223372036854775807) (ix : I64s xs) (iy : I64s ys) (w : World)
    (ra : Rd (Value.int .i64) w w.heap.size A xs) (rb : Rd (Value.int .i64) w w.heap.size B ys) :
    Calls Try.prog 71 #[.slice A xs.length c, .slice B ys.length d] w (OwnInts (opV (· + ·) xs ys) (opE (· + ·) xs ys) w) := by
  have CM := hid (match_any A B xs.length ys.length c d hx hy)
  by_cases ht : twoE xs.length ys.length = 0
  · have e1 : opE (· + ·) xs ys = seqE (numV2 (· + ·) xs ys) xs.length := if_pos ht
    have e2 : opV (· + ·) xs ys = seqV (numV2 (· + ·) xs ys) xs.length := if_pos ht
    rw [e1, e2]
    obtain ⟨hn, hl⟩ := twoE_ok ht
    have hH := add_H (c := c) (d := d) xs ys hl ix iy w ra rb
    have hL := hid (list_any _ _ xs.length hn _ (numV2 (· + ·) xs ys) add_ok hH)
    have hll := hid hl
    rw [ht] at CM
    clear e1 e2 hH ix iy ra rb hl ht
    go_enter Try.func71, Try.ntmps71
    go_wp2_with fail
    refine (CM.out _).mono ?_
    rintro _ _ ⟨rfl, rfl⟩
    go_wp2_with fail
    refine hL.out.mono ?_
    rintro _ w1 ⟨A', c', rfl, ho, hb⟩
    go_wp2_with fail
    go_ret2
    have hb0 := (two_cells w (.slice A xs.length c) (.slice B ys.length d) 22 22).2.2
    exact OwnInts.onto ⟨A', c', rfl, ho, hb⟩ hb0
  · have e1 : opE (· + ·) xs ys = twoE xs.length ys.length := if_neg ht
    have e2 : opV (· + ·) xs ys = [] := if_neg ht
    rw [e1, e2]
    clear e1 e2
    obtain ⟨t, hte⟩ : ∃ t, twoE xs.length ys.length = t := ⟨_, rfl⟩
    rw [hte] at ht CM ⊢
    have hne : (t != 0) = true := by simpa using ht
    clear ra rb ix iy hte ht
    go_enter Try.func71, Try.ntmps71
    go_wp2_with fail
    refine (CM.out _).mono ?_
    rintro _ _ ⟨rfl, rfl⟩
    go_wp2_with fail
    go_ret2
    exact ⟨none, 0, rfl, own_nil _ _ _, (two_cells w _ _ _ _).2.2⟩
/-- A product with so many bits behind the point: the number, and the error. -/
def mulV (a b m : Int) : Int := if m < 0 ∨ 30 < m then 0 else ckV (a * b / 2 ^ m.toNat)
def mulE (a b m : Int) : Int := if m < 0 ∨ 30 < m then 1 else ckE (a * b / 2 ^ m.toNat)
def behE (m : Int) : Int := if m < 0 ∨ 30 < m then 1 else 0
theorem fix_mul (a b m : Int) (ha : I64 a) (hb : I64 b) (w : World) :
    Calls Try.prog 65 #[.int .i64 a, .int .i64 b, .int .i64 m] w fun r W' => r = .returned (.tuple #[.int .i64 (mulV a b m), .int .i64 (mulE a b m)]) ∧ Below w.heap.size w W' := by
  by_cases h : m < 0 ∨ 30 < m
  · rw [show mulV a b m = 0 from if_pos h, show mulE a b m = 1 from if_pos h]
    exact Mul_bad a b m h w
  · rw [show mulV a b m = ckV (a * b / 2 ^ m.toNat) from if_neg h, show mulE a b m = ckE (a * b / 2 ^ m.toNat) from if_neg h]
    obtain ⟨k, rfl⟩ := Int.eq_ofNat_of_zero_le (show 0 ≤ m by omega)
    exact fix_Mul a b k (by omega) ha hb w
theorem vec_behind (m : Int) (w : World) :
    Calls Try.prog 62 #[.int .i64 m] w fun r W' => r = .returned (.int .i64 (behE m)) ∧ Below w.heap.size w W' := by
  have C := hid (fix_mul 0 0 m (by decide) (by decide))
  have e : mulE 0 0 m = behE m := by
    unfold mulE behE
    split
    · rfl
    · rw [Int.zero_mul, Int.zero_ediv]; decide
  rw [e] at C
  clear e
  go_enter Try.func62, Try.ntmps62
  go_wp2_with fail
  refine (C.out _).mono ?_
  rintro _ w1 ⟨rfl, hb1⟩
  go_wp2_with fail
  go_ret
  exact ⟨rfl, hb1⟩
def bndE (n : Nat) (q : Int) : Int := if 4096 < n then 3 else q
def unE (q : Int) (num : Nat → Int × Int) (n : Nat) : Int := if bndE n q = 0 then seqE num n else bndE n q
def unV (q : Int) (num : Nat → Int × Int) (n : Nat) : List Int := if bndE n q = 0 then seqV num n else []
theorem un_long {n : Nat} (h : 4096 < n) (q : Int) (num : Nat → Int × Int) : unE q num n = 3 ∧ unV q num n = [] := by
  have e : bndE n q = 3 := if_pos h
  unfold unE unV
  rw [e]
  exact ⟨rfl, rfl⟩
theorem un_bad {n : Nat} (h : ¬ 4096 < n) {q : Int} (hq : q ≠ 0) (num : Nat → Int × Int) : unE q num n = q ∧ unV q num n = [] := by
  have e : bndE n q = q := if_neg h
  unfold unE unV
  rw [e, if_neg hq, if_neg hq]
  exact ⟨rfl, rfl⟩
theorem un_ok {n : Nat} (h : ¬ 4096 < n) (num : Nat → Int × Int) : unE 0 num n = seqE num n ∧ unV 0 num n = seqV num n := by
  have e : bndE n 0 = 0 := if_neg h
  unfold unE unV
  rw [e]
  exact ⟨rfl, rfl⟩
def numS (xs : List Int) (b m : Int) (k : Nat) : Int × Int := (mulV (xs.getD k 0) b m, mulE (xs.getD k 0) b m)
def numD (xs ys : List Int) (m : Int) (k : Nat) : Int × Int := (mulV (xs.getD k 0) (ys.getD k 0) m, mulE (xs.getD k 0) (ys.getD k 0) m)
theorem three_cells (w : World) (u v x : Value) (t s r : TypeId) :
    (((w.alloc (.cells #[u] t)).alloc (.cells #[v] s)).alloc (.cells #[x] r)).cell? ⟨w.heap.size, 0, none⟩ = some u ∧ (((w.alloc (.cells #[u] t)).alloc (.cells #[v] s)).alloc (.cells #[x] r)).cell? ⟨w.heap.size + 1, 0, none⟩ = some v ∧
      (((w.alloc (.cells #[u] t)).alloc (.cells #[v] s)).alloc (.cells #[x] r)).cell? ⟨w.heap.size + 1 + 1, 0, none⟩ = some x ∧ Below w.heap.size w (((w.alloc (.cells #[u] t)).alloc (.cells #[v] s)).alloc (.cells #[x] r)) := by
  refine ⟨?_, ?_, ?_, by go_grown⟩ <;> simp [go_sem]
theorem scale_H {A : Option Addr} {c : Nat} (xs : List Int) (ix : I64s xs) (b m : Int) (hb : I64 b) (w : World) (ra : Rd (Value.int .i64) w w.heap.size A xs) (wb wl : World)
    (ca : wb.cell? ⟨w.heap.size, 0, none⟩ = some (.slice A xs.length c)) (cb : wb.cell? ⟨w.heap.size + 1, 0, none⟩ = some (.int .i64 b)) (cm : wb.cell? ⟨w.heap.size + 1 + 1, 0, none⟩ = some (.int .i64 m)) (hwb : Below w.heap.size w wb) (hwl : Below wb.heap.size wb wl)
    (k : Nat) (hk : k < xs.length) (W : World) (hW : Below wl.heap.size wl W) :
    Calls Try.prog 82 (#[.int .i64 k] ++ #[.pointer (some ⟨w.heap.size, 0, none⟩), .pointer (some ⟨w.heap.size + 1, 0, none⟩), .pointer (some ⟨w.heap.size + 1 + 1, 0, none⟩)]) W fun e w' => e = .returned (.tuple #[.int .i64 (numS xs b m k).1, .int .i64 (numS xs b m k).2]) ∧ Below W.heap.size W w' := by
  obtain ⟨_, _, x, _, _, hx, _⟩ := ra.at_ hk
  have hw := hwl.trans (hW.mono hwl.size)
  have h := scale_cl xs (cell_later hw ca) (cell_later hw cb) (cell_later hw cm) (ra.below (hwb.trans (hw.mono hwb.size))) hx (fix_mul x b m (ix.at_ hx) hb)
  unfold numS
  rw [getD_of hx]
  exact h
theorem Scale_any {A : Option Addr} {c : Nat} (xs : List Int) (hx : xs.length ≤ 9223372036854775807) (ix : I64s xs) (b m : Int) (hb : I64 b) (w : World) (ra : Rd (Value.int .i64) w w.heap.size A xs) :
    Calls Try.prog 70 #[.slice A xs.length c, .int .i64 b, .int .i64 m] w (OwnInts (unV (behE m) (numS xs b m) xs.length) (unE (behE m) (numS xs b m) xs.length) w) := by
  have CM := hid (Check_any A xs.length c hx)
  have CB := hid (vec_behind m)
  obtain ⟨k1, k2, k3, hb0⟩ := three_cells w (.slice A xs.length c) (.int .i64 b) (.int .i64 m) 22 2 3
  by_cases hn : 4096 < xs.length
  · have e := un_long hn (behE m) (numS xs b m)
    rw [e.1, e.2]
    rw [show oneE xs.length = 3 from if_pos hn] at CM
    clear e ra ix k1 k2 k3
    have HB := hid hb0
    clear hb0
    go_enter Try.func70, Try.ntmps70
    go_wp2_with fail
    refine (CM.out _).mono ?_
    rintro _ _ ⟨rfl, rfl⟩
    go_wp2_with fail
    go_ret2
    exact ⟨none, 0, rfl, own_nil _ _ _, HB.out⟩
  · rw [show oneE xs.length = 0 from if_neg hn] at CM
    by_cases hq : behE m = 0
    · rw [hq] at CB ⊢
      have e := un_ok hn (numS xs b m)
      rw [e.1, e.2]
      have hH := hid (fun wl => scale_H xs ix b m hb w ra _ wl k1 k2 k3 hb0)
      have HB := hid hb0
      clear e hq k1 k2 k3 hb0 ix
      go_enter Try.func70, Try.ntmps70
      go_wp2_with fail
      refine (CM.out _).mono ?_
      rintro _ _ ⟨rfl, rfl⟩
      go_wp2_with fail
      refine (CB.out _).mono ?_
      rintro _ w1 ⟨rfl, hb1⟩
      obtain ⟨hc1, hf1⟩ := bcells hb1
      go_wp2_with fail
      refine (list_any _ _ xs.length (by omega) _ (numS xs b m) scale_ok (hH.out w1 hb1)).mono ?_
      rintro _ w2 ⟨A', c', rfl, ho, hb2⟩
      go_wp2_with fail
      go_ret2
      exact OwnInts.onto (OwnInts.onto ⟨A', c', rfl, ho, hb2⟩ hb1) HB.out
    · have e := un_bad hn hq (numS xs b m)
      rw [e.1, e.2]
      obtain ⟨q, hqe⟩ : ∃ q, behE m = q := ⟨_, rfl⟩
      rw [hqe] at hq CB ⊢
      have hne : (q != 0) = true := by simpa using hq
      have HB := hid hb0
      clear e hq k1 k2 k3 hb0 ix hqe ra
      go_enter Try.func70, Try.ntmps70
      go_wp2_with fail
      refine (CM.out _).mono ?_
      rintro _ _ ⟨rfl, rfl⟩
      go_wp2_with fail
      refine (CB.out _).mono ?_
      rintro _ w1 ⟨rfl, hb1⟩
      go_wp2_with fail
      go_ret2
      exact ⟨none, 0, rfl, own_nil _ _ _, HB.out.trans (hb1.mono HB.out.size)⟩
end Go.Proofs.Ytekpejemfkjhcaa
/- vec's functions, each by its contract: the others. -/
namespace Go.Proofs.Ytekpejemfkjhcaa
open Go.RowKit
set_option maxHeartbeats 400000
set_option maxRecDepth 100000
set_option linter.unusedVariables false
theorem seqV_i64 {num : Nat → Int × Int} {n : Nat} (h : ∀ k, k < n → I64 (num k).1) : I64s (seqV num n) := by
  unfold seqV
  split
  · intro x hx
    obtain ⟨k, hk, rfl⟩ := List.mem_map.1 hx
    exact h k (by simpa using hk)
  · intro x hx; simp at hx
theorem opV_i64 (f : Int → Int → Int) (xs ys : List Int) : I64s (opV f xs ys) := by
  unfold opV
  split
  · exact seqV_i64 fun k _ => ckV_i64 _
  · intro x hx; simp at hx
theorem mulV_i64 (a b m : Int) : I64 (mulV a b m) := by
  unfold mulV
  split
  · decide
  · exact ckV_i64 _
theorem seqV_len (num : Nat → Int × Int) (n : Nat) : (seqV num n).length ≤ n := by
  unfold seqV; split <;> simp
theorem unV_len (q : Int) (num : Nat → Int × Int) (n : Nat) : (unV q num n).length ≤ 4096 := by
  by_cases h : bndE n q = 0
  · rw [show unV q num n = seqV num n from if_pos h]
    have := seqV_len num n
    have : ¬ 4096 < n := fun hn => by rw [show bndE n q = 3 from if_pos hn] at h; cases h
    omega
  · rw [show unV q num n = [] from if_neg h]; simp
theorem opV_len (f : Int → Int → Int) (xs ys : List Int) : (opV f xs ys).length ≤ 4096 := by
  unfold opV
  split
  · rename_i h
    have := twoE_ok h
    have := seqV_len (numV2 f xs ys) xs.length
    omega
  · simp
/-- A product of two vectors: the number, and the error. -/
def dotE (xs ys : List Int) (m : Int) : Int := if twoE xs.length ys.length = 0 then (if behE m = 0 then (tot (numD xs ys m) xs.length).2 else behE m) else twoE xs.length ys.length
def dotV (xs ys : List Int) (m : Int) : Int := if twoE xs.length ys.length = 0 then (if behE m = 0 then (tot (numD xs ys m) xs.length).1 else 0) else 0
theorem dot_H {A B : Option Addr} {c d : Nat} (xs ys : List Int) (hl : ys.length = xs.length) (ix : I64s xs) (iy : I64s ys) (m : Int) (w : World) (ra : Rd (Value.int .i64) w w.heap.size A xs) (rb : Rd (Value.int .i64) w w.heap.size B ys) (wb wl : World)
    (ca : wb.cell? ⟨w.heap.size, 0, none⟩ = some (.slice A xs.length c)) (cb : wb.cell? ⟨w.heap.size + 1, 0, none⟩ = some (.slice B ys.length d)) (cm : wb.cell? ⟨w.heap.size + 1 + 1, 0, none⟩ = some (.int .i64 m)) (hwb : Below w.heap.size w wb) (hwl : Below wb.heap.size wb wl)
    (k : Nat) (hk : k < xs.length) (W : World) (hW : Below wl.heap.size wl W) :
    Calls Try.prog 64 (#[.int .i64 k] ++ #[.pointer (some ⟨w.heap.size, 0, none⟩), .pointer (some ⟨w.heap.size + 1, 0, none⟩), .pointer (some ⟨w.heap.size + 1 + 1, 0, none⟩)]) W fun e w' => e = .returned (.tuple #[.int .i64 (numD xs ys m k).1, .int .i64 (numD xs ys m k).2]) ∧ Below W.heap.size W w' := by
  obtain ⟨_, _, x, _, _, hx, _⟩ := ra.at_ hk
  obtain ⟨_, _, y, _, _, hy, _⟩ := rb.at_ (show k < ys.length by omega)
  have hw := hwl.trans (hW.mono hwl.size)
  have hB := hwb.trans (hw.mono hwb.size)
  have h := dot_cl xs ys (cell_later hw ca) (cell_later hw cb) (cell_later hw cm) (ra.below hB) (rb.below hB) hx hy (fix_mul x y m (ix.at_ hx) (iy.at_ hy))
  unfold numD
  rw [getD_of hx, getD_of hy]
  exact h
theorem Dot_any {A B : Option Addr} {c d : Nat} (xs ys : List Int) (hx : xs.length ≤ 9223372036854775807) (hy : ys.length ≤ 9223372036854775807) (ix : I64s xs) (iy : I64s ys) (m : Int) (w : World)
    (ra : Rd (Value.int .i64) w w.heap.size A xs) (rb : Rd (Value.int .i64) w w.heap.size B ys) :
    Calls Try.prog 45 #[.slice A xs.length c, .slice B ys.length d, .int .i64 m] w fun e w' => e = .returned (.tuple #[.int .i64 (dotV xs ys m), .int .i64 (dotE xs ys m)]) ∧ Below w.heap.size w w' := by
  have CM := hid (match_any A B xs.length ys.length c d hx hy)
  have CB := hid (vec_behind m)
  obtain ⟨k1, k2, k3, hb0⟩ := three_cells w (.slice A xs.length c) (.slice B ys.length d) (.int .i64 m) 22 22 3
  by_cases ht : twoE xs.length ys.length = 0
  · rw [show dotE xs ys m = if behE m = 0 then (tot (numD xs ys m) xs.length).2 else behE m from if_pos ht, show dotV xs ys m = if behE m = 0 then (tot (numD xs ys m) xs.length).1 else 0 from if_pos ht]
    obtain ⟨hn, hl⟩ := twoE_ok ht
    rw [ht] at CM
    by_cases hq : behE m = 0
    · rw [if_pos hq, if_pos hq]
      rw [hq] at CB
      have hH := hid (fun wl => dot_H xs ys hl ix iy m w ra rb _ wl k1 k2 k3 hb0)
      have hT := hid (fun W K => total_any _ K xs.length hn W (numD xs ys m) dot_ok (fun k _ => mulV_i64 _ _ _))
      have HB := hid hb0
      obtain ⟨s, hs⟩ : ∃ s, tot (numD xs ys m) xs.length = s := ⟨_, rfl⟩
      rw [hs] at hT ⊢
      have hll := hid hl
      clear hq k1 k2 k3 hb0 ix iy ra rb hs ht hl
      go_enter Try.func45, Try.ntmps45
      go_wp2_with fail
      refine (CM.out _).mono ?_
      rintro _ _ ⟨rfl, rfl⟩
      go_wp2_with fail
      refine (CB.out _).mono ?_
      rintro _ w1 ⟨rfl, hb1⟩
      obtain ⟨hc1, hf1⟩ := bcells hb1
      go_wp2_with fail
      refine (hT.out _ _ (hH.out w1 hb1)).mono ?_
      rintro _ w2 ⟨rfl, hb2⟩
      go_wp2_with fail
      go_ret2
      exact ⟨rfl, HB.out.trans ((hb1.trans (hb2.mono hb1.size)).mono HB.out.size)⟩
    · rw [if_neg hq, if_neg hq]
      obtain ⟨q, hqe⟩ : ∃ q, behE m = q := ⟨_, rfl⟩
      rw [hqe] at hq CB ⊢
      have hne : (q != 0) = true := by simpa using hq
      have HB := hid hb0
      have hll := hid hl
      clear hq k1 k2 k3 hb0 ix iy ra rb ht hqe hl
      go_enter Try.func45, Try.ntmps45
      go_wp2_with fail
      refine (CM.out _).mono ?_
      rintro _ _ ⟨rfl, rfl⟩
      go_wp2_with fail
      refine (CB.out _).mono ?_
      rintro _ w1 ⟨rfl, hb1⟩
      go_wp2_with fail
      go_ret2
      exact ⟨rfl, HB.out.trans (hb1.mono HB.out.size)⟩
  · rw [show dotE xs ys m = twoE xs.length ys.length from if_neg ht, show dotV xs ys m = 0 from if_neg ht]
    obtain ⟨t, hte⟩ : ∃ t, twoE xs.length ys.length = t := ⟨_, rfl⟩
    rw [hte] at ht CM ⊢
    have hne : (t != 0) = true := by simpa using ht
    have HB := hid hb0
    clear k1 k2 k3 hb0 ix iy ra rb ht hte
    go_enter Try.func45, Try.ntmps45
    go_wp2_with fail
    refine (CM.out _).mono ?_
    rintro _ _ ⟨rfl, rfl⟩
    go_wp2_with fail
    go_ret2
    exact ⟨rfl, HB.out⟩
end Go.Proofs.Ytekpejemfkjhcaa
/- vec's functions, each by its contract: Same, Most, Zero, Sum, and what they take of package slices. -/
namespace Go.Proofs.Ytekpejemfkjhcaa
open Go.RowKit
set_option maxHeartbeats 400000
set_option maxRecDepth 100000
set_option linter.unusedVariables false
/-- The greatest of numbers that are not below 0 (0 of none). -/
def mx (xs : List Int) : Int := xs.foldl max 0
end Go.Proofs.Ytekpejemfkjhcaa
/- vec's Sum, by its contract. -/
namespace Go.Proofs.Ytekpejemfkjhcaa
open Go.RowKit
set_option maxHeartbeats 400000
set_option maxRecDepth 100000
set_option linter.unusedVariables false
/-- A call's answer: a list of numbers, in memory of the call's own; nothing that was there has turned. -/
def OwnList (xs : List Int) (w : World) (e : Ending) (w' : World) : Prop :=
  ∃ A c, e = .returned (.slice A xs.length c) ∧ w'.ownsRow w.heap.size 2 1 (.slice A xs.length c) xs.length (xs.map (Value.int .i64)) ∧ Below w.heap.size w w'
theorem Clone_any {A : Option Addr} {c : Nat} (xs : List Int) (hx : xs.length ≤ 1099511627776) (w : World) (ra : Rd (Value.int .i64) w w.heap.size A xs) :
    Calls Try.prog 52 #[.slice A xs.length c] w (OwnList xs w) := by
  have qT : ∀ (w : World) (a : Option Addr) (n c n' c' : Nat), (binOp .eql 22 (.slice a n c) (.slice none n' c')).run Try.prog w = .ok (.bool a.isNone) w := fun w a n c n' c' => Lib.run_eql_slice_nil w _ _ a n c n' c' Try.underlying22
  rcases A with _ | ad
  · have hxs : xs = [] := by
      cases xs with
      | nil => rfl
      | cons x xs =>
        obtain ⟨_, _, he, _⟩ := ra 0 x rfl
        cases he
    subst hxs
    clear ra
    go_enter Try.func52, Try.ntmps52
    go_wp2_with fail
    go_ret
    exact ⟨none, 0, rfl, own_nil _ _ _, Below.refl _ _⟩
  · have HA := hid ra
    clear ra
    go_enter Try.func52, Try.ntmps52
    have h0 : (w.alloc (.cells #[] 2)).ownsRow w.heap.size 2 1 (.slice (some ⟨w.heap.size, 0, none⟩) ([] : List Int).length 0) ([] : List Int).length (([] : List Int).map (Value.int .i64)) :=
      World.ownsRow_made w #[] 0 (Nat.le_refl _) (by unfold maxLen; omega) rfl
    have hr0 := HA.out.below ((Below.refl w.heap.size w).alloc (Nat.le_refl _) (.cells #[] 2))
    go_wp2_with (at_builtin; refine wpList_app (Value.int .i64) (fun _ => rfl) _ rfl _ _ 22 rfl w.heap.size 2 (.int .i64 0) 8 Try.underlying22 info_i64 rfl [] _ 0 rfl h0 xs _ c w.heap.size rfl hr0 (by simp [maxLen]; omega) (by simp; omega) (by simp) ?_)
    rintro S A' c' w1 rfl ho hb _
    go_wp2_with fail
    go_ret
    exact ⟨A', c', rfl, ho, ((Below.refl w.heap.size w).alloc (Nat.le_refl _) _).trans hb⟩
def sumFrom : List Int → List (List Int) → List Int × Int
  | S, [] => (S, 0)
  | S, v :: r => if opE (· + ·) S v = 0 then sumFrom (opV (· + ·) S v) r else ([], opE (· + ·) S v)
/-- Vectors added, from the first one on: the vector, and the error. -/
def sumAll : List (List Int) → List Int × Int
  | [] => ([], 0)
  | v :: r => if 4096 < v.length then ([], 3) else sumFrom v r
def RowsOk (rows : List (List Int)) : Prop := ∀ xs ∈ rows, I64s xs ∧ xs.length ≤ 1099511627776
theorem sum_go {S v : List Int} {r : List (List Int)} {k : Nat} (hv : r[k]? = some v) (h : opE (· + ·) S v = 0) : sumFrom S (r.drop k) = sumFrom (opV (· + ·) S v) (r.drop (k + 1)) := by
  have hk : k < r.length := (List.getElem?_eq_some_iff.1 hv).1
  rw [List.drop_eq_getElem_cons hk, show r[k] = v from (List.getElem?_eq_some_iff.1 hv).2]
  exact if_pos h
theorem sum_off {S v : List Int} {r : List (List Int)} {k : Nat} (hv : r[k]? = some v) (h : opE (· + ·) S v ≠ 0) : sumFrom S (r.drop k) = ([], opE (· + ·) S v) := by
  have hk : k < r.length := (List.getElem?_eq_some_iff.1 hv).1
  rw [List.drop_eq_getElem_cons hk, show r[k] = v from (List.getElem?_eq_some_iff.1 hv).2]
  exact if_neg h
theorem opV_off {f : Int → Int → Int} {xs ys : List Int} (h : opE f xs ys ≠ 0) : opV f xs ys = [] := by
  unfold opE at h
  unfold opV
  split
  · rename_i e
    rw [if_pos e] at h
    unfold seqV
    rw [if_neg h]
  · rfl
theorem Sum_nil (A : Option Addr) (c : Nat) (w : World) :
    Calls Try.prog 55 #[.slice A 0 c] w (OwnInts [] 0 w) := by
  go_enter Try.func55, Try.ntmps55
  go_wp2_with fail
  go_ret2
  exact ⟨none, 0, rfl, own_nil _ _ _, Below.refl _ _⟩
theorem Sum_long (A : Option Addr) (c : Nat) (v : List Int) (r : List (List Int)) (hl : 4096 < v.length) (ho : RowsOk (v :: r)) (hr : r.length ≤ 1099511627776) (w : World) (ra : RdRows w w.heap.size A (v :: r)) :
    Calls Try.prog 55 #[.slice A (v :: r).length c] w (OwnInts [] 3 w) := by
  obtain ⟨b, off, A', c', rfl, hb, hc, hv⟩ := ra 0 v rfl
  have lv := (ho v (by simp)).2
  have CM := hid (Check_any A' v.length c' (by omega))
  rw [show oneE v.length = 3 from if_pos hl] at CM
  rw [Nat.add_zero] at hc
  rw [List.length_cons]
  clear ra ho hv
  go_enter Try.func55, Try.ntmps55
  go_wp2_with fail
  refine (CM.out _).mono ?_
  rintro _ _ ⟨rfl, rfl⟩
  go_wp2_with fail
  go_ret2
  exact ⟨none, 0, rfl, own_nil _ _ _, Below.refl _ _⟩
theorem Sum_short (A : Option Addr) (c : Nat) (v : List Int) (r : List (List Int)) (hl : ¬ 4096 < v.length) (ho : RowsOk (v :: r)) (hr : r.length ≤ 1099511627776) (hcap : r.length + 1 ≤ c) (w : World) (ra : RdRows w w.heap.size A (v :: r)) :
    Calls Try.prog 55 #[.slice A (v :: r).length c] w (OwnInts (sumFrom v r).1 (sumFrom v r).2 w) := by
  obtain ⟨b, off, A', c', rfl, hb, hc, hv⟩ := ra 0 v rfl
  obtain ⟨iv, lv⟩ := ho v (by simp)
  have CM := hid (Check_any A' v.length c' (by omega))
  have CC := hid (Clone_any (c := c') v lv w hv)
  rw [show oneE v.length = 0 from if_neg hl] at CM
  rw [Nat.add_zero] at hc
  rw [List.length_cons]
  have RA := hid ra
  have HO := hid ho
  have IV := hid iv
  clear ra ho hv iv
  go_enter Try.func55, Try.ntmps55
  go_wp2_with fail
  refine (CM.out _).mono ?_
  rintro _ _ ⟨rfl, rfl⟩
  go_wp2_with fail
  refine CC.out.mono ?_
  rintro _ w1 ⟨A1, c1, rfl, ho1, hb1⟩
  have HO1 := hid ho1
  clear ho1
  go_wp2_with fail
  all_goals
    go_loopw [5, 26] (fun s i wr => ∃ (k : Nat) (S : List Int) (A2 : Option Addr) (c2 : Nat), k ≤ r.length ∧ i = .int .i64 k ∧ s = .slice A2 S.length c2 ∧ wr.ownsRow w.heap.size 2 1 (.slice A2 S.length c2) S.length (S.map (Value.int .i64)) ∧ I64s S ∧ S.length ≤ 4096 ∧ sumFrom S (r.drop k) = sumFrom v r ∧ Below w.heap.size w wr) (fun _ i _ => r.length - (intOf i).toNat)
    case atStart => exact ⟨0, v, A1, c1, by omega, rfl, rfl, HO1.out, IV.out, by omega, by rw [List.drop_zero], hb1⟩
    case round =>
      obtain ⟨k, S, A2, c2, hk, rfl, rfl, hS, iS, lS, hs, hbr⟩ := hrel
      have HSO := hid hS
      have HSI := hid iS
      have HSE := hid hs
      clear hS iS hs
      by_cases hlt : k < r.length
      · first
        | (exfalso; omega)
        | (obtain ⟨u, hu⟩ : ∃ u, r[k]? = some u := ⟨_, List.getElem?_eq_getElem hlt⟩
           obtain ⟨b3, off3, A3, c3, e3, l3, hc3, hr3⟩ := RA.out (k + 1) u (by rw [List.getElem?_cons_succ]; exact hu)
           have e4 := Option.some.inj e3
           simp only [Addr.mk.injEq] at e4
           obtain ⟨rfl, rfl, _⟩ := e4
           have hc4 : wr.cell? ⟨b, off + 1 + k, none⟩ = some (.slice A3 u.length c3) := by
             rw [show off + 1 + k = off + (k + 1) by omega]
             exact (hbr.cell (p := ⟨b, off + (k + 1), none⟩) l3).trans hc3
           have hu2 := HO.out u (by simp [List.mem_of_getElem? hu])
           have lu := hu2.2
           have CA := hid (Add_any (c := c2) (d := c3) S u (by omega) (by omega) HSI.out hu2.1 wr (own_rd HSO.out) ((hr3.below hbr).more hbr.size))
           have hgo := hid (fun h => sum_go (S := S) hu h)
           have hoff := hid (fun h => sum_off (S := S) hu h)
           have hlen := opV_len (· + ·) S u
           have hi64 := hid (opV_i64 (· + ·) S u)
           have hVO := hid (fun h => opV_off (f := (· + ·)) (xs := S) (ys := u) h)
           obtain ⟨er, he⟩ : ∃ x, opE (· + ·) S u = x := ⟨_, rfl⟩
           obtain ⟨T, hT⟩ : ∃ x, opV (· + ·) S u = x := ⟨_, rfl⟩
           rw [he, hT] at CA hgo hVO
           rw [he] at hoff
           rw [hT] at hlen hi64
           clear hc3 hr3 hu2 hu e3 he hT
           go_wp2_with fail
           refine CA.out.mono ?_
           rintro _ w2 ⟨A4, c4, rfl, ho4, hb4⟩
           have HO4 := hid ho4
           clear ho4
           have hbr2 := hbr.trans (hb4.mono hbr.size)
           by_cases her : er = 0
           · subst her
             go_wp2_with fail
             go_roundw
             case rel => exact ⟨k + 1, T, A4, c4, by omega, by go_num, rfl, own_base HO4.out hbr.size, hi64.out, hlen, by rw [← hgo.out (by simp)]; exact HSE.out, hbr2⟩
             case measure => simp [intOf]; omega
           · have hne : (er != 0) = true := by simpa using her
             have hh := hid (hoff.out her)
             go_wp2_with fail
             go_ret2
             rw [← HSE.out, hh.out]
             exact ⟨none, 0, rfl, own_nil _ _ _, hbr2⟩)
      · obtain rfl : k = r.length := by omega
        go_wp2_with fail
        go_ret2
        have := HSE.out
        rw [List.drop_length] at this
        rw [← this]
        exact ⟨A2, c2, rfl, HSO.out, hbr⟩
theorem Sum_any (A : Option Addr) (c : Nat) (rows : List (List Int)) (ho : RowsOk rows) (hr : rows.length ≤ 1099511627776) (hcap : rows.length ≤ c) (w : World) (ra : RdRows w w.heap.size A rows) :
    Calls Try.prog 55 #[.slice A rows.length c] w (OwnInts (sumAll rows).1 (sumAll rows).2 w) := by
  cases rows with
  | nil => exact Sum_nil A c w
  | cons v r =>
    simp only [List.length_cons] at hr hcap
    by_cases hl : 4096 < v.length
    · rw [show sumAll (v :: r) = ([], 3) from if_pos hl]
      exact Sum_long A c v r hl ho (by omega) w ra
    · rw [show sumAll (v :: r) = sumFrom v r from if_neg hl]
      exact Sum_short A c v r hl ho (by omega) (by omega) w ra
end Go.Proofs.Ytekpejemfkjhcaa
namespace Go.Proofs.Ytekpejemfkjhcaa
open Go.RowKit
set_option maxHeartbeats 400000
set_option maxRecDepth 100000
set_option linter.unusedVariables false
theorem absI_le {a : Int} (h : I64 a) : 0 ≤ absI a ∧ absI a ≤ 9223372036854775808 := by unfold I64 at h; unfold absI; split <;> omega
theorem ref_size (a : Int) (ha : I64 a) (w : World) :
    Calls Try.prog 86 #[.int .i64 a] w fun e w' => e = .returned (.int .u64 (absI a)) ∧ w = w' := by
  have h := ha
  unfold I64 at h
  by_cases hn : a < 0
  · have e1 : absI a = -a := if_pos hn
    rw [e1]
    clear e1
    go_enter Try.func86, Try.ntmps86
    go_wp2
    go_ret
    refine ⟨congrArg (fun z => Ending.returned (Value.int .u64 z)) ?_, rfl⟩
    show _ = -a
    first | rfl | omega | (rw [IntKind.wrap_u64]; omega)
  · have e1 : absI a = a := if_neg hn
    rw [e1]
    clear e1
    go_enter Try.func86, Try.ntmps86
    go_wp2
    go_ret
    exact ⟨rfl, rfl⟩
theorem half_bound {x y : Int} (hx0 : 0 ≤ x) (hx : x < 4294967296) (hy0 : 0 ≤ y) (hy : y < 4294967296) : 0 ≤ x * y ∧ x * y ≤ 18446744065119617025 := by
  refine ⟨Int.mul_nonneg hx0 hy0, ?_⟩
  have := Int.mul_le_mul (show x ≤ 4294967295 by omega) (show y ≤ 4294967295 by omega) hy0 (by decide)
  omega
theorem halves (ah al bh bl : Int) : (ah * 4294967296 + al) * (bh * 4294967296 + bl) = ah * bh * 18446744073709551616 + (ah * bl + al * bh) * 4294967296 + al * bl := by
  grind
theorem or_low (z y : Int) (hy0 : 0 ≤ y) (hy : y < 4294967296) : bits BinOp.or IntKind.u64 (IntKind.u64.wrap (z * 4294967296)) y = z * 4294967296 % 18446744073709551616 + y := by
  rw [IntKind.wrap_u64]
  exact bits_join .u64 64 (by decide) (fun n h0 h1 => by rw [IntKind.wrap_u64]; omega) 32 _ _ (by omega) (by omega) (by omega) hy0 hy (by omega)
/-- The parts of a product of halves. -/
theorem times_end (a b m1 m2 m3 p ph x y t : Int) (e : a * b = m3 * 18446744073709551616 + (m1 + m2) * 4294967296 + p) (h0 : 0 ≤ a * b) (h1 : a * b < 340282366920938463463374607431768211456)
    (hph : p / 4294967296 = ph) (hx : (m1 + ph) / 4294967296 = x) (hy : (m1 + ph) % 4294967296 = y) (ht : (m2 + y) / 4294967296 = t) :
    a * b / 18446744073709551616 = m3 + x + t ∧ a * b % 18446744073709551616 = (m2 + y) * 4294967296 % 18446744073709551616 + p % 4294967296 := by
  rw [e]
  omega
theorem times_core (a b ah al bh bl m1 m2 m3 p ph x y t lo u : Int) (hah : a / 4294967296 = ah) (hbh : b / 4294967296 = bh)
    (hal : bits BinOp.and IntKind.u64 a 4294967295 = al) (hbl : bits BinOp.and IntKind.u64 b 4294967295 = bl)
    (hp : al * bl = p) (hm1 : ah * bl = m1) (hm2 : al * bh = m2) (hm3 : ah * bh = m3) (hph : p / 4294967296 = ph)
    (hx : (m1 + ph) / 4294967296 = x) (hy : bits BinOp.and IntKind.u64 (m1 + ph) 4294967295 = y) (ht : (m2 + y) / 4294967296 = t)
    (hlo : bits BinOp.and IntKind.u64 p 4294967295 = lo) (hu : bits BinOp.or IntKind.u64 (IntKind.u64.wrap ((m2 + y) * 4294967296)) lo = u)
    (p0 : 0 ≤ p) (p1 : p ≤ 18446744065119617025) (m10 : 0 ≤ m1) (m11 : m1 ≤ 18446744065119617025) (m20 : 0 ≤ m2) (m21 : m2 ≤ 18446744065119617025) (m30 : 0 ≤ m3)
    (ph0 : 0 ≤ ph) (ph1 : ph < 4294967296) (x0 : 0 ≤ x) (t0 : 0 ≤ t) (y0 : 0 ≤ y) (y1 : y < 4294967296) (hs : m3 + x + t ≤ 18446744073709551615) (w : World) :
    Calls Try.prog 85 #[.int .u64 a, .int .u64 b] w fun e w' => e = .returned (.tuple #[.int .u64 (m3 + x + t), .int .u64 u]) ∧ w = w' := by
  go_enter Try.func85, Try.ntmps85
  go_wp2
  go_ret2
  exact ⟨rfl, rfl⟩
theorem ref_Times (a b : Int) (ha : U64 a) (hb : U64 b) (w : World) :
    Calls Try.prog 85 #[.int .u64 a, .int .u64 b] w fun e w' => e = .returned (.tuple #[.int .u64 (a * b / 18446744073709551616), .int .u64 (a * b % 18446744073709551616)]) ∧ w = w' := by
  have g1 := and_low a ha
  have g2 := and_low b hb
  have a1 := ha.1
  have a2 := ha.2
  have b1 := hb.1
  have b2 := hb.2
  have e := halves (a / 4294967296) (a % 4294967296) (b / 4294967296) (b % 4294967296)
  rw [show a / 4294967296 * 4294967296 + a % 4294967296 = a by omega, show b / 4294967296 * 4294967296 + b % 4294967296 = b by omega] at e
  have q0 := half_bound (x := a % 4294967296) (y := b % 4294967296) (by omega) (by omega) (by omega) (by omega)
  have q1 := half_bound (x := a / 4294967296) (y := b % 4294967296) (by omega) (by omega) (by omega) (by omega)
  have q2 := half_bound (x := a % 4294967296) (y := b / 4294967296) (by omega) (by omega) (by omega) (by omega)
  have q3 := half_bound (x := a / 4294967296) (y := b / 4294967296) (by omega) (by omega) (by omega) (by omega)
  have k0 : 0 ≤ a * b := Int.mul_nonneg a1 b1
  have k1 : a * b < 340282366920938463463374607431768211456 := by
    have := Int.mul_le_mul a2 b2 b1 (by decide)
    omega
  have g3 := and_low (a / 4294967296 * (b % 4294967296) + a % 4294967296 * (b % 4294967296) / 4294967296) ⟨by omega, by omega⟩
  have g4 := and_low (a % 4294967296 * (b % 4294967296)) ⟨by omega, by omega⟩
  have fin := times_end a b _ _ _ _ _ _ _ _ e k0 k1 rfl rfl rfl rfl
  have g5 := or_low (a % 4294967296 * (b / 4294967296) + (a / 4294967296 * (b % 4294967296) + a % 4294967296 * (b % 4294967296) / 4294967296) % 4294967296) (a % 4294967296 * (b % 4294967296) % 4294967296) (by omega) (by omega)
  rw [fin.1, fin.2]
  refine times_core a b _ _ _ _ _ _ _ _ _ _ _ _ _ _ rfl rfl g1 g2 rfl rfl rfl rfl rfl rfl g3 rfl g4 g5 (by omega) (by omega) (by omega) (by omega) (by omega) (by omega) (by omega) (by omega) (by omega) (by omega) (by omega) (by omega) (by omega) ?_ w
  have := fin.1
  omega
theorem wide_same {a b P : Int} (h : a * b = P) (h0 : 0 ≤ P) (h1 : P ≤ 85070591730234615865843651857942052864) : wrap64 (P / 18446744073709551616) = wrap64 (hiU (a * b)) ∧ P % 18446744073709551616 = loU (a * b) := by
  rw [h]; unfold hiU loU
  refine ⟨?_, rfl⟩
  congr 1
  omega
theorem wide_neg {s P h l : Int} (hs : s = -P) (h0 : 0 ≤ P) (h1 : P ≤ 85070591730234615865843651857942052864) (hh : P / 18446744073709551616 = h) (hl : P % 18446744073709551616 = l) :
    (IntKind.u64.wrap (18446744073709551615 - l + 1) = loU s) ∧ ((loU s = 0 ∧ IntKind.u64.wrap (18446744073709551615 - h + 1) = hiU s) ∨ (loU s ≠ 0 ∧ 18446744073709551615 - h = hiU s)) := by
  subst hs
  simp only [IntKind.wrap_u64]
  unfold hiU loU
  omega
theorem Wide_same (a b P : Int) (ha : I64 a) (hb : I64 b) (x y : Bool) (d1 : decide (a < 0) = x) (d2 : decide (b < 0) = y) (hxy : (x == y) = true) (hP : a * b = P) (hPa : absI a * absI b = P) (h0 : 0 ≤ P) (h1 : P ≤ 85070591730234615865843651857942052864) (w : World) :
    Calls Try.prog 73 #[.int .i64 a, .int .i64 b] w fun e w' => e = .returned (.tuple #[.int .i64 (wrap64 (hiU (a * b))), .int .u64 (loU (a * b))]) ∧ w = w' := by
  obtain ⟨e1, e2⟩ := wide_same hP h0 h1
  rw [← e1, ← e2]
  have T := fun W => ref_Times (absI a) (absI b) ⟨(absI_le ha).1, by have := (absI_le ha).2; omega⟩ ⟨(absI_le hb).1, by have := (absI_le hb).2; omega⟩ W
  rw [hPa] at T
  have HT := hid T
  clear e1 e2 T hP hPa h0 h1
  go_enter Try.func73, Try.ntmps73
  go_wp2_with fail
  refine (ref_size a ha _).mono ?_
  rintro _ _ ⟨rfl, rfl⟩
  go_wp2_with fail
  refine (ref_size b hb _).mono ?_
  rintro _ _ ⟨rfl, rfl⟩
  go_wp2_with fail
  refine (HT.out _).mono ?_
  rintro _ _ ⟨rfl, rfl⟩
  go_wp2_with fail
  go_ret2
  exact ⟨rfl, rfl⟩
theorem Wide_other (a b P : Int) (ha : I64 a) (hb : I64 b) (x y : Bool) (d1 : decide (a < 0) = x) (d2 : decide (b < 0) = y) (hxy : (x == y) = false) (hP : a * b = -P) (hPa : absI a * absI b = P) (h0 : 0 ≤ P) (h1 : P ≤ 85070591730234615865843651857942052864) (w : World) :
    Calls Try.prog 73 #[.int .i64 a, .int .i64 b] w fun e w' => e = .returned (.tuple #[.int .i64 (wrap64 (hiU (a * b))), .int .u64 (loU (a * b))]) ∧ w = w' := by
  obtain ⟨h, hh⟩ : ∃ h, P / 18446744073709551616 = h := ⟨_, rfl⟩
  obtain ⟨l, hl⟩ : ∃ l, P % 18446744073709551616 = l := ⟨_, rfl⟩
  obtain ⟨e1, e2⟩ := wide_neg hP h0 h1 hh hl
  have n1 := bits_not_u64 (p := h) (by unfold U64; omega)
  have n2 := bits_not_u64 (p := l) (by unfold U64; omega)
  have T := fun W => ref_Times (absI a) (absI b) ⟨(absI_le ha).1, by have := (absI_le ha).2; omega⟩ ⟨(absI_le hb).1, by have := (absI_le hb).2; omega⟩ W
  rw [hPa, hh, hl] at T
  have HT := hid T
  have b0 : 0 ≤ h := by omega
  have b1 : h < 18446744073709551616 := by omega
  obtain ⟨lo, hlo⟩ : ∃ lo, loU (a * b) = lo := ⟨_, rfl⟩
  obtain ⟨hi, hhi⟩ : ∃ hi, hiU (a * b) = hi := ⟨_, rfl⟩
  rw [hlo] at e1
  rw [hlo, hhi] at e2
  rw [hlo, hhi]
  clear T hP hPa hh hl hlo hhi h0 h1
  have hsg : IntKind.u64.signed = false := rfl
  rcases e2 with ⟨z, e2⟩ | ⟨z, e2⟩
  · have zb : (lo == 0) = true := by simpa using z
    clear z
    go_enter Try.func73, Try.ntmps73
    go_wp2_with fail
    refine (ref_size a ha _).mono ?_
    rintro _ _ ⟨rfl, rfl⟩
    go_wp2_with fail
    refine (ref_size b hb _).mono ?_
    rintro _ _ ⟨rfl, rfl⟩
    go_wp2_with fail
    refine (HT.out _).mono ?_
    rintro _ _ ⟨rfl, rfl⟩
    go_wp2_with fail
    go_ret2
    exact ⟨rfl, rfl⟩
  · have zb : (lo == 0) = false := by simpa using z
    clear z
    go_enter Try.func73, Try.ntmps73
    go_wp2_with fail
    refine (ref_size a ha _).mono ?_
    rintro _ _ ⟨rfl, rfl⟩
    go_wp2_with fail
    refine (ref_size b hb _).mono ?_
    rintro _ _ ⟨rfl, rfl⟩
    go_wp2_with fail
    refine (HT.out _).mono ?_
    rintro _ _ ⟨rfl, rfl⟩
    go_wp2_with fail
    go_ret2
    exact ⟨rfl, rfl⟩
theorem ref_Wide (a b : Int) (ha : I64 a) (hb : I64 b) (w : World) :
    Calls Try.prog 73 #[.int .i64 a, .int .i64 b] w fun e w' => e = .returned (.tuple #[.int .i64 (wrap64 (hiU (a * b))), .int .u64 (loU (a * b))]) ∧ w = w' := by
  have p0 : 0 ≤ absI a * absI b := Int.mul_nonneg (absI_le ha).1 (absI_le hb).1
  have p1 := Int.mul_le_mul (absI_le ha).2 (absI_le hb).2 (absI_le hb).1 (by decide)
  have p2 : absI a * absI b ≤ 85070591730234615865843651857942052864 := by omega
  rcases Int.lt_or_le a 0 with sa | sa <;> rcases Int.lt_or_le b 0 with sb | sb
  · exact Wide_same a b _ ha hb true true (by simpa using sa) (by simpa using sb) rfl (by unfold absI; rw [if_pos sa, if_pos sb, Int.neg_mul_neg]) rfl p0 p2 w
  · exact Wide_other a b _ ha hb true false (by simpa using sa) (by simpa using sb) rfl (by unfold absI; rw [if_pos sa, if_neg (by omega), Int.neg_mul, Int.neg_neg]) rfl p0 p2 w
  · exact Wide_other a b _ ha hb false true (by simpa using sa) (by simpa using sb) rfl (by unfold absI; rw [if_neg (by omega), if_pos sb, Int.mul_neg, Int.neg_neg]) rfl p0 p2 w
  · exact Wide_same a b _ ha hb false false (by simpa using sa) (by simpa using sb) rfl (by unfold absI; rw [if_neg (by omega), if_neg (by omega)]) rfl p0 p2 w
end Go.Proofs.Ytekpejemfkjhcaa
namespace Go.Proofs.Ytekpejemfkjhcaa
open Go.RowKit
set_option maxHeartbeats 400000
set_option maxRecDepth 100000
set_option linter.unusedVariables false
theorem and_one_i64 (n : Int) : bits .and .i64 n 1 = n % 2 := by
  show IntKind.i64.wrap ((BitVec.ofInt 64 n &&& BitVec.ofInt 64 1).toNat : Int) = _
  rw [BitVec.toNat_and, show (BitVec.ofInt 64 1).toNat = 2 ^ 1 - 1 from rfl, Nat.and_two_pow_sub_one_eq_mod, BitVec.toNat_ofInt, IntKind.wrap_i64]
  omega
theorem next_shift {a y : Int} {j : Nat} (h : a / 2 ^ j = y) : a / 2 ^ (j + 1) = y / 2 := by
  rw [Int.pow_succ, ← h, Int.ediv_ediv_of_nonneg (Int.le_of_lt (Int.pow_pos (by decide)))]
theorem ref_Mul_bad (a b n : Int) (h : n < 0 ∨ 30 < n) (w : World) :
    Calls Try.prog 57 #[.int .i64 a, .int .i64 b, .int .i64 n] w fun e w' => e = .returned (.tuple #[.int .i64 0, .int .i64 1]) ∧ w = w' := by
  by_cases h1 : n < 0
  · clear h
    go_enter Try.func57, Try.ntmps57
    go_wp2
    go_ret2
    exact ⟨rfl, rfl⟩
  · have h2 : 30 < n := by omega
    clear h
    go_enter Try.func57, Try.ntmps57
    go_wp2
    go_ret2
    exact ⟨rfl, rfl⟩
theorem or_comm_u64f (x y : Int) : bits .or .u64 x y = bits .or .u64 y x := by
  show IntKind.u64.wrap ((BitVec.ofInt 64 x ||| BitVec.ofInt 64 y).toNat : Int) = IntKind.u64.wrap ((BitVec.ofInt 64 y ||| BitVec.ofInt 64 x).toNat : Int)
  rw [BitVec.or_comm]
theorem i128_half {s : Int} (h : I128 s) : I128 (s / 2) := by unfold I128 at *; omega
theorem half_hi {s h : Int} (hI : I128 s) (hh : wrap64 (hiU s) = h) : h / 2 = wrap64 (hiU (s / 2)) := by
  rw [hi_signed hI] at hh
  rw [hi_signed (i128_half hI)]
  omega
theorem half_lo {s h : Int} (hI : I128 s) (hh : wrap64 (hiU s) = h) : bits BinOp.or IntKind.u64 (loU s / 2) (h % 2 * 9223372036854775808) = loU (s / 2) := by
  rw [hi_signed hI] at hh
  have hl := U64.lo s
  unfold U64 at hl
  rw [or_comm_u64f, bits_join .u64 64 (by decide) (fun n h0 h1 => by rw [IntKind.wrap_u64]; omega) 63 _ _ (by omega) (by omega) (by omega) (by omega) (by omega) (by omega)]
  unfold loU
  omega
theorem mul_out {s h : Int} (hI : I128 s) (hh : wrap64 (hiU s) = h) (ht : (h != wrap64 (loU s) / 9223372036854775808) = true) : ¬ I64 s := by
  rw [hi_signed hI] at hh
  simp only [bne_iff_ne, ne_eq] at ht
  intro hs
  unfold I64 at hs
  apply ht
  unfold loU
  rw [wrap64_eq]
  omega
theorem mul_in {s h : Int} (hI : I128 s) (hh : wrap64 (hiU s) = h) (ht : (h != wrap64 (loU s) / 9223372036854775808) = false) : I64 s ∧ wrap64 (loU s) = s := by
  rw [hi_signed hI] at hh
  simp only [bne_eq_false_iff_eq] at ht
  unfold loU at *
  unfold I64
  rw [wrap64_eq] at *
  unfold I128 at hI
  omega
theorem ref_Mul (a b : Int) (k : Nat) (hk : k ≤ 30) (ha : I64 a) (hb : I64 b) (w : World) :
    Calls Try.prog 57 #[.int .i64 a, .int .i64 b, .int .i64 k] w fun e w' => e = .returned (.tuple #[.int .i64 (ckV (a * b / 2 ^ k)), .int .i64 (ckE (a * b / 2 ^ k))]) ∧ w = w' := by
  have i1 := i128_mul ha hb
  go_enter Try.func57, Try.ntmps57
  go_wp2_with fail
  refine (ref_Wide a b ha hb _).mono ?_
  rintro _ _ ⟨rfl, rfl⟩
  go_wp2_with fail
  go_loop [8, 9, 24] (fun x y i => ∃ j : Nat, ∃ s : Int, j ≤ k ∧ i = .int .i64 j ∧ a * b / 2 ^ j = s ∧ I128 s ∧ x = .int .i64 (wrap64 (hiU s)) ∧ y = .int .u64 (loU s)) (fun _ _ i => k - (intOf i).toNat)
  case atStart => exact ⟨0, a * b, Nat.zero_le _, rfl, by simp, i1, rfl, rfl⟩
  case round =>
    obtain ⟨j, s, hj, rfl, hs, hI, rfl, rfl⟩ := hrel
    have HS := hid hs
    clear hs
    have f := and_one_i64 (wrap64 (hiU s))
    obtain ⟨h, hh⟩ : ∃ h, wrap64 (hiU s) = h := ⟨_, rfl⟩
    rw [hh] at f
    by_cases hlt : j < k
    · have X := hid (half_hi hI hh)
      have Y := hid (half_lo hI hh)
      go_wp2
      go_round
      case rel => exact ⟨j + 1, s / 2, by omega, by go_num, next_shift HS.out, i128_half hI, by rw [X.out], by rw [Y.out]⟩
      case measure => simp [intOf]; omega
    · have E : Hid (a * b / 2 ^ k = s) := by rw [show k = j by omega]; exact HS
      clear hh
      go_wp2
      · go_ret2
        rw [E.out]
        exact ⟨ck_out2 (mul_out hI rfl (by assumption)), rfl⟩
      · go_ret2
        rw [E.out]
        exact ⟨number_end (mul_in hI rfl (by assumption)), rfl⟩
end Go.Proofs.Ytekpejemfkjhcaa
/- The document's vec, each function by its contract. -/
namespace Go.Proofs.Ytekpejemfkjhcaa
open Go.RowKit
set_option maxHeartbeats 400000
set_option maxRecDepth 100000
set_option linter.unusedVariables false
theorem rCheck_any (A : Option Addr) (n c : Nat) (hn : n ≤ 9223372036854775807) (w : World) :
    Calls Try.prog 74 #[.slice A n c] w fun e w' => e = .returned (.int .i64 (oneE n)) ∧ w = w' := by
  by_cases h : 4096 < n
  · have e1 : oneE n = 3 := if_pos h
    rw [e1]
    clear e1
    go_enter Try.func74, Try.ntmps74
    go_wp2
    go_ret
    exact ⟨rfl, rfl⟩
  · have e1 : oneE n = 0 := if_neg h
    rw [e1]
    clear e1
    go_enter Try.func74, Try.ntmps74
    go_wp2
    go_ret
    exact ⟨rfl, rfl⟩
theorem two_any (A B : Option Addr) (n m c d : Nat) (hn : n ≤ 9223372036854775807) (hm : m ≤ 9223372036854775807) (w : World) :
    Calls Try.prog 68 #[.slice A n c, .slice B m d] w fun e w' => e = .returned (.int .i64 (twoE n m)) ∧ w = w' := by
  by_cases h1 : 4096 < n
  · have e1 : twoE n m = 3 := if_pos (Or.inl h1)
    rw [e1]
    clear e1
    go_enter Try.func68, Try.ntmps68
    go_wp2
    go_ret
    exact ⟨rfl, rfl⟩
  · by_cases h2 : 4096 < m
    · have e1 : twoE n m = 3 := if_pos (Or.inr h2)
      rw [e1]
      clear e1
      go_enter Try.func68, Try.ntmps68
      go_wp2
      go_ret
      exact ⟨rfl, rfl⟩
    · by_cases h3 : n = m
      · subst h3
        have e1 : twoE n n = 0 := by unfold twoE; rw [if_neg (by omega), if_pos rfl]
        rw [e1]
        clear e1
        go_enter Try.func68, Try.ntmps68
        go_wp2
        go_ret
        exact ⟨rfl, rfl⟩
      · have e1 : twoE n m = 4 := by unfold twoE; rw [if_neg (by omega), if_neg h3]
        rw [e1]
        have h4 : ((n : Int) != (m : Int)) = true := by simp; omega
        have h5 : (n != m) = true := by simp; omega
        clear e1
        go_enter Try.func68, Try.ntmps68
        go_wp2
        go_ret
        exact ⟨rfl, rfl⟩
theorem rSame_any {A B : Option Addr} {c d : Nat} (xs ys : List Int) (hx : xs.length ≤ 9223372036854775807) (hy : ys.length ≤ 9223372036854775807) (w : World)
    (ra : Rd (Value.int .i64) w w.heap.size A xs) (rb : Rd (Value.int .i64) w w.heap.size B ys) :
    Calls Try.prog 22 #[.slice A xs.length c, .slice B ys.length d] w fun e w' => e = .returned (.bool (eqB xs ys)) ∧ Below w.heap.size w w' := by
  by_cases hl : xs.length = ys.length
  · have HA := hid ra
    have HB := hid rb
    clear ra rb
    have h1 : ((xs.length : Int) != (ys.length : Int)) = false := by simp; omega
    have h2 : (xs.length != ys.length) = false := by simp; omega
    have HL := hid hl
    clear hl
    go_enter Try.func22, Try.ntmps22
    go_wp2_with fail
    clear h1 h2
    go_loopw [13] (fun i wr => ∃ k : Nat, k ≤ xs.length ∧ i = .int .i64 k ∧ xs.take k = ys.take k ∧ Below w.heap.size w wr) (fun i _ => xs.length - (intOf i).toNat)
    case atStart => exact ⟨0, by omega, rfl, rfl, Below.refl _ _⟩
    case round =>
      obtain ⟨k, hk, rfl, ht, hb⟩ := hrel
      have HT := hid ht
      clear ht
      by_cases hlt : k < xs.length
      · have hlt2 : k < ys.length := by have := HL.out; omega
        obtain ⟨b1, o1, x, rfl, l1, ex, c1⟩ := (HA.out.below hb).at_ hlt
        obtain ⟨b2, o2, y, rfl, l2, ey, c2⟩ := (HB.out.below hb).at_ hlt2
        have EX := hid ex
        have EY := hid ey
        clear ex ey
        by_cases e : x = y
        · have e' : (x != y) = false := by simpa using e
          have E := hid e
          clear e
          go_wp2_with fail
          go_quiet (fail)
          go_wp2_with fail
          go_roundw
          case rel => exact ⟨k + 1, by omega, by go_num, take_step HT.out EX.out EY.out E.out, hb.trans (belowN _ _ _)⟩
          case measure => simp [intOf]; omega
        · have e' : (x != y) = true := by simpa using e
          go_wp2_with fail
          go_quiet (fail)
          go_wp2_with fail
          go_ret
          rw [eqB_no EX.out EY.out e]
          exact ⟨rfl, hb.trans (belowN _ _ _)⟩
      · have hke : k = xs.length := by omega
        have HK := hid hke
        clear hke
        go_wp2_with fail
        go_ret
        rw [eqB_yes HT.out HK.out HL.out]
        exact ⟨rfl, hb⟩
  · rw [eqB_len hl]
    have h1 : ((xs.length : Int) != (ys.length : Int)) = true := by simp; omega
    have h2 : (xs.length != ys.length) = true := by simp; omega
    go_enter Try.func22, Try.ntmps22
    go_wp2_with fail
    go_ret
    exact ⟨rfl, Below.refl _ _⟩
/-- The first k numbers. -/
def pre (num : Nat → Int × Int) (k : Nat) : List Int := (List.range k).map fun j => (num j).1
theorem pre_succ (num : Nat → Int × Int) (k : Nat) : pre num (k + 1) = pre num k ++ [(num k).1] := by
  unfold pre; rw [List.range_succ, List.map_append]; rfl
theorem seqV_pre {num : Nat → Int × Int} {n : Nat} (h : seqE num n = 0) : seqV num n = pre num n := if_pos h
theorem seqE_succ {num : Nat → Int × Int} {k : Nat} (h : seqE num k = 0) : seqE num (k + 1) = (num k).2 := by
  show (if seqE num k = 0 then (num k).2 else seqE num k) = _
  rw [if_pos h]
theorem seq_off {num : Nat → Int × Int} {k n : Nat} (h : seqE num k = 0) (hk : k < n) (he : (num k).2 ≠ 0) : seqE num n = (num k).2 ∧ seqV num n = [] := by
  have e1 := seqE_succ h
  have e2 : seqE num n = (num k).2 := by rw [seqE_stays (k := k + 1) (by rw [e1]; exact he) n hk, e1]
  refine ⟨e2, ?_⟩
  unfold seqV
  rw [if_neg (by rw [e2]; exact he)]
theorem rAdd_any {A B : Option Addr} {c d : Nat} (xs ys : List Int) (hx : xs.length ≤ 9223372036854775807) (hy : ys.length ≤ 9223372036854775807) (ix : I64s xs) (iy : I64s ys) (w : World)
    (ra : Rd (Value.int .i64) w w.heap.size A xs) (rb : Rd (Value.int .i64) w w.heap.size B ys) :
    Calls Try.prog 75 #[.slice A xs.length c, .slice B ys.length d] w (OwnInts (opV (· + ·) xs ys) (opE (· + ·) xs ys) w) := by
  have CM := hid (two_any A B xs.length ys.length c d hx hy)
  by_cases ht : twoE xs.length ys.length = 0
  · have e1 : opE (· + ·) xs ys = seqE (numV2 (· + ·) xs ys) xs.length := if_pos ht
    have e2 : opV (· + ·) xs ys = seqV (numV2 (· + ·) xs ys) xs.length := if_pos ht
    rw [e1, e2]
    obtain ⟨hn, hl⟩ := twoE_ok ht
    have HL := hid hl
    have HA := hid ra
    have HB := hid rb
    have IX := hid ix
    have IY := hid iy
    rw [ht] at CM
    clear e1 e2 ht hl ra rb ix iy
    go_enter Try.func75, Try.ntmps75
    go_wp2_with fail
    refine (CM.out _).mono ?_
    rintro _ _ ⟨rfl, rfl⟩
    go_wp2_with fail
    go_loopw [7, 19] (fun o i wr => ∃ (k : Nat) (S : List Int) (A2 : Option Addr) (c2 : Nat), k ≤ xs.length ∧ i = .int .i64 k ∧ S.length = k ∧ o = .slice A2 S.length c2 ∧ S = pre (numV2 (· + ·) xs ys) k ∧ wr.ownsRow w.heap.size 2 1 (.slice A2 S.length c2) S.length (S.map (Value.int .i64)) ∧ seqE (numV2 (· + ·) xs ys) k = 0 ∧ Below w.heap.size w wr) (fun _ i _ => xs.length - (intOf i).toNat)
    case atStart => exact ⟨0, [], none, 0, by omega, rfl, rfl, rfl, rfl, own_nil _ _ _, rfl, Below.refl _ _⟩
    case round =>
      obtain ⟨k, S, A2, c2, hk, rfl, hSk, rfl, hS, hown, hs, hb⟩ := hrel
      have HS := hid hS
      have HO := hid hown
      have HE := hid hs
      have HSK := hid hSk
      have lS : S.length ≤ 4096 := by omega
      clear hS hown hs hSk
      by_cases hlt : k < xs.length
      · have hlt2 : k < ys.length := by have := HL.out; omega
        obtain ⟨b1, o1, x, rfl, l1, ex, c1⟩ := (HA.out.below hb).at_ hlt
        obtain ⟨b2, o2, y, rfl, l2, ey, c2⟩ := (HB.out.below hb).at_ hlt2
        have CA := hid (ref_Add x y (IX.out.at_ ex) (IY.out.at_ ey))
        have en : numV2 (· + ·) xs ys k = (ckV (x + y), ckE (x + y)) := by unfold numV2; rw [getD_of ex, getD_of ey]
        have EN := hid en
        clear ex ey en
        obtain ⟨z, hz⟩ : ∃ z, ckV (x + y) = z := ⟨_, rfl⟩
        obtain ⟨er, he⟩ : ∃ z, ckE (x + y) = z := ⟨_, rfl⟩
        rw [hz, he] at CA EN
        clear hz he
        go_wp2_with fail
        go_quiet ((go_at_call 50; exact quietL CA.out _))
        have hbn := hb.trans (belowN w.heap.size wr nq)
        by_cases her : er = 0
        · subst her
          have h0 := own_on HO.out ((belowN wr.heap.size wr nq).alloc (Nat.le_refl _) (.cells #[.int .i64 z] 2))
          have hr0 : Rd (Value.int .i64) ((wr.drewN nq).alloc (.cells #[.int .i64 z] 2)) _ (some ⟨wr.heap.size, 0, none⟩) [z] := rd_one (one_cell (wr.drewN nq) (.int .i64 z) 2).1
          go_wp2_with (at_builtin; refine wpList_app (Value.int .i64) (fun _ => rfl) _ rfl _ _ 22 rfl w.heap.size 2 (.int .i64 0) 8 Try.underlying22 info_i64 rfl S _ _ rfl h0 [z] _ 1 _ rfl hr0 (by simp [maxLen]; omega) (by simp; omega) (by have := hb.size; simp; omega) ?_)
          rintro S' A' c' w1 hS' ho hb1 _
          have HS' := hid hS'
          have HO' := hid ho
          clear hS' ho
          go_wp2_with fail
          go_roundw
          case rel =>
            refine ⟨k + 1, S', A', c', by omega, by go_num, ?_, rfl, ?_, HO'.out, ?_, (hbn.alloc hb.size _).trans hb1⟩
            · rw [HS'.out, List.length_append, HSK.out]; rfl
            · rw [HS'.out, HS.out, pre_succ, EN.out]
            · rw [seqE_succ HE.out, EN.out]
          case measure => simp [intOf]; omega
        · have hne : (er != 0) = true := by simpa using her
          go_wp2_with fail
          go_ret2
          obtain ⟨e1, e2⟩ := seq_off HE.out hlt (by rw [EN.out]; exact her)
          rw [e1, e2, EN.out]
          exact ⟨none, 0, rfl, own_nil _ _ _, hbn⟩
      · obtain rfl : k = xs.length := by omega
        go_wp2_with fail
        go_ret2
        rw [HE.out, seqV_pre HE.out, ← HS.out]
        exact ⟨A2, c2, rfl, HO.out, hb⟩
  · have e1 : opE (· + ·) xs ys = twoE xs.length ys.length := if_neg ht
    have e2 : opV (· + ·) xs ys = [] := if_neg ht
    rw [e1, e2]
    clear e1 e2
    obtain ⟨t, hte⟩ : ∃ t, twoE xs.length ys.length = t := ⟨_, rfl⟩
    rw [hte] at ht CM ⊢
    have hne : (t != 0) = true := by simpa using ht
    clear ra rb ix iy hte ht
    go_enter Try.func75, Try.ntmps75
    go_wp2_with fail
    refine (CM.out _).mono ?_
    rintro _ _ ⟨rfl, rfl⟩
    go_wp2_with fail
    go_ret2
    exact ⟨none, 0, rfl, own_nil _ _ _, Below.refl _ _⟩
end Go.Proofs.Ytekpejemfkjhcaa
/- The document's vec: Scale, More, Zero. -/
namespace Go.Proofs.Ytekpejemfkjhcaa
open Go.RowKit
set_option maxHeartbeats 400000
set_option maxRecDepth 100000
set_option linter.unusedVariables false
theorem ref_mul (a b m : Int) (ha : I64 a) (hb : I64 b) (w : World) :
    Calls Try.prog 57 #[.int .i64 a, .int .i64 b, .int .i64 m] w fun r W' => r = .returned (.tuple #[.int .i64 (mulV a b m), .int .i64 (mulE a b m)]) ∧ w = W' := by
  by_cases h : m < 0 ∨ 30 < m
  · rw [show mulV a b m = 0 from if_pos h, show mulE a b m = 1 from if_pos h]
    exact ref_Mul_bad a b m h w
  · rw [show mulV a b m = ckV (a * b / 2 ^ m.toNat) from if_neg h, show mulE a b m = ckE (a * b / 2 ^ m.toNat) from if_neg h]
    obtain ⟨k, rfl⟩ := Int.eq_ofNat_of_zero_le (show 0 ≤ m by omega)
    exact ref_Mul a b k (by omega) ha hb w
theorem rScale_any {A : Option Addr} {c : Nat} (xs : List Int) (hx : xs.length ≤ 9223372036854775807) (ix : I64s xs) (b m : Int) (hb : I64 b) (w : World) (ra : Rd (Value.int .i64) w w.heap.size A xs) :
    Calls Try.prog 58 #[.slice A xs.length c, .int .i64 b, .int .i64 m] w (OwnInts (unV (behE m) (numS xs b m) xs.length) (unE (behE m) (numS xs b m) xs.length) w) := by
  by_cases hn : 4096 < xs.length
  · have e := un_long hn (behE m) (numS xs b m)
    rw [e.1, e.2]
    clear e ra ix
    go_enter Try.func58, Try.ntmps58
    go_wp2_with fail
    go_ret2
    exact ⟨none, 0, rfl, own_nil _ _ _, Below.refl _ _⟩
  · by_cases hq : m < 0 ∨ 30 < m
    · have e := un_bad hn (q := behE m) (by rw [show behE m = 1 from if_pos hq]; decide) (numS xs b m)
      rw [e.1, e.2, show behE m = 1 from if_pos hq]
      clear e ra ix
      by_cases h1 : m < 0
      · clear hq
        go_enter Try.func58, Try.ntmps58
        go_wp2_with fail
        go_ret2
        exact ⟨none, 0, rfl, own_nil _ _ _, Below.refl _ _⟩
      · have h2 : 30 < m := by omega
        clear hq
        go_enter Try.func58, Try.ntmps58
        go_wp2_with fail
        go_ret2
        exact ⟨none, 0, rfl, own_nil _ _ _, Below.refl _ _⟩
    · rw [show behE m = 0 from if_neg hq]
      have e := un_ok hn (numS xs b m)
      rw [e.1, e.2]
      have HA := hid ra
      have IX := hid ix
      have m1 : 0 ≤ m := by omega
      have m2 : m ≤ 30 := by omega
      clear e ra ix hq
      go_enter Try.func58, Try.ntmps58
      go_wp2_with fail
      go_loopw [8, 24] (fun o i wr => ∃ (k : Nat) (S : List Int) (A2 : Option Addr) (c2 : Nat), k ≤ xs.length ∧ i = .int .i64 k ∧ S.length = k ∧ o = .slice A2 S.length c2 ∧ S = pre (numS xs b m) k ∧ wr.ownsRow w.heap.size 2 1 (.slice A2 S.length c2) S.length (S.map (Value.int .i64)) ∧ seqE (numS xs b m) k = 0 ∧ Below w.heap.size w wr) (fun _ i _ => xs.length - (intOf i).toNat)
      case atStart => exact ⟨0, [], none, 0, by omega, rfl, rfl, rfl, rfl, own_nil _ _ _, rfl, Below.refl _ _⟩
      case round =>
        obtain ⟨k, S, A2, c2, hk, rfl, hSk, rfl, hS, hown, hs, hbr⟩ := hrel
        have HS := hid hS
        have HO := hid hown
        have HE := hid hs
        have HSK := hid hSk
        have lS : S.length ≤ 4096 := by omega
        clear hS hown hs hSk
        by_cases hlt : k < xs.length
        · obtain ⟨b1, o1, x, rfl, l1, ex, c1⟩ := (HA.out.below hbr).at_ hlt
          have CA := hid (ref_mul x b m (IX.out.at_ ex) hb)
          have en : numS xs b m k = (mulV x b m, mulE x b m) := by unfold numS; rw [getD_of ex]
          have EN := hid en
          clear ex en
          obtain ⟨z, hz⟩ : ∃ z, mulV x b m = z := ⟨_, rfl⟩
          obtain ⟨er, he⟩ : ∃ z, mulE x b m = z := ⟨_, rfl⟩
          rw [hz, he] at CA EN
          clear hz he
          go_wp2_with fail
          refine (CA.out _).mono ?_
          rintro _ _ ⟨rfl, rfl⟩
          by_cases her : er = 0
          · subst her
            have h0 := own_on HO.out ((Below.refl wr.heap.size wr).alloc (Nat.le_refl _) (.cells #[.int .i64 z] 2))
            have hr0 : Rd (Value.int .i64) (wr.alloc (.cells #[.int .i64 z] 2)) _ (some ⟨wr.heap.size, 0, none⟩) [z] := rd_one (one_cell wr (.int .i64 z) 2).1
            go_wp2_with (at_builtin; refine wpList_app (Value.int .i64) (fun _ => rfl) _ rfl _ _ 22 rfl w.heap.size 2 (.int .i64 0) 8 Try.underlying22 info_i64 rfl S _ _ rfl h0 [z] _ 1 _ rfl hr0 (by simp [maxLen]; omega) (by simp; omega) (by have := hbr.size; simp; omega) ?_)
            rintro S' A' c' w1 hS' ho hb1 _
            have HS' := hid hS'
            have HO' := hid ho
            clear hS' ho
            go_wp2_with fail
            go_roundw
            case rel =>
              refine ⟨k + 1, S', A', c', by omega, by go_num, ?_, rfl, ?_, HO'.out, ?_, (hbr.alloc hbr.size _).trans hb1⟩
              · rw [HS'.out, List.length_append, HSK.out]; rfl
              · rw [HS'.out, HS.out, pre_succ, EN.out]
              · rw [seqE_succ HE.out, EN.out]
            case measure => simp [intOf]; omega
          · have hne : (er != 0) = true := by simpa using her
            go_wp2_with fail
            go_ret2
            obtain ⟨e1, e2⟩ := seq_off HE.out hlt (by rw [EN.out]; exact her)
            rw [e1, e2, EN.out]
            exact ⟨none, 0, rfl, own_nil _ _ _, hbr⟩
        · obtain rfl : k = xs.length := by omega
          go_wp2_with fail
          go_ret2
          rw [HE.out, seqV_pre HE.out, ← HS.out]
          exact ⟨A2, c2, rfl, HO.out, hbr⟩
end Go.Proofs.Ytekpejemfkjhcaa
/- The document's vec: Size, Most, Dot, Sum, Clip. -/
namespace Go.Proofs.Ytekpejemfkjhcaa
open Go.RowKit
set_option maxHeartbeats 400000
set_option maxRecDepth 100000
set_option linter.unusedVariables false
theorem rDot_any {A B : Option Addr} {c d : Nat} (xs ys : List Int) (hx : xs.length ≤ 9223372036854775807) (hy : ys.length ≤ 9223372036854775807) (ix : I64s xs) (iy : I64s ys) (m : Int) (w : World)
    (ra : Rd (Value.int .i64) w w.heap.size A xs) (rb : Rd (Value.int .i64) w w.heap.size B ys) :
    Calls Try.prog 49 #[.slice A xs.length c, .slice B ys.length d, .int .i64 m] w fun e w' => e = .returned (.tuple #[.int .i64 (dotV xs ys m), .int .i64 (dotE xs ys m)]) ∧ Below w.heap.size w w' := by
  have CM := hid (two_any A B xs.length ys.length c d hx hy)
  by_cases ht : twoE xs.length ys.length = 0
  · rw [show dotE xs ys m = if behE m = 0 then (tot (numD xs ys m) xs.length).2 else behE m from if_pos ht, show dotV xs ys m = if behE m = 0 then (tot (numD xs ys m) xs.length).1 else 0 from if_pos ht]
    obtain ⟨hn, hl⟩ := twoE_ok ht
    have HL := hid hl
    have HA := hid ra
    have HB := hid rb
    have IX := hid ix
    have IY := hid iy
    rw [ht] at CM
    clear ht hl ra rb ix iy
    by_cases hq : m < 0 ∨ 30 < m
    · rw [show behE m = 1 from if_pos hq, if_neg (by decide), if_neg (by decide)]
      by_cases h1 : m < 0
      · clear hq
        go_enter Try.func49, Try.ntmps49
        go_wp2_with fail
        refine (CM.out _).mono ?_
        rintro _ _ ⟨rfl, rfl⟩
        go_wp2_with fail
        go_ret2
        exact ⟨rfl, Below.refl _ _⟩
      · have h2 : 30 < m := by omega
        clear hq
        go_enter Try.func49, Try.ntmps49
        go_wp2_with fail
        refine (CM.out _).mono ?_
        rintro _ _ ⟨rfl, rfl⟩
        go_wp2_with fail
        go_ret2
        exact ⟨rfl, Below.refl _ _⟩
    · rw [show behE m = 0 from if_neg hq, if_pos rfl, if_pos rfl]
      have m1 : 0 ≤ m := by omega
      have m2 : m ≤ 30 := by omega
      clear hq
      go_enter Try.func49, Try.ntmps49
      go_wp2_with fail
      refine (CM.out _).mono ?_
      rintro _ _ ⟨rfl, rfl⟩
      go_wp2_with fail
      go_loopw [9, 27] (fun s i wr => ∃ (k : Nat) (S : Int), k ≤ xs.length ∧ i = .int .i64 k ∧ s = .int .i64 S ∧ I64 S ∧ tot (numD xs ys m) k = (S, 0) ∧ Below w.heap.size w wr) (fun _ i _ => xs.length - (intOf i).toNat)
      case atStart => exact ⟨0, 0, by omega, rfl, rfl, by decide, rfl, Below.refl _ _⟩
      case round =>
        obtain ⟨k, S, hk, rfl, rfl, hS, hs, hbr⟩ := hrel
        have HS := hid hs
        clear hs
        by_cases hlt : k < xs.length
        · have hlt2 : k < ys.length := by have := HL.out; omega
          obtain ⟨b1, o1, x, rfl, l1, ex, c1⟩ := (HA.out.below hbr).at_ hlt
          obtain ⟨b2, o2, y, rfl, l2, ey, c2⟩ := (HB.out.below hbr).at_ hlt2
          have CA := hid (ref_mul x y m (IX.out.at_ ex) (IY.out.at_ ey))
          have en : numD xs ys m k = (mulV x y m, mulE x y m) := by unfold numD; rw [getD_of ex, getD_of ey]
          have EN := hid en
          have iz := mulV_i64 x y m
          clear ex ey en
          obtain ⟨z, hz⟩ : ∃ z, mulV x y m = z := ⟨_, rfl⟩
          obtain ⟨er, he⟩ : ∃ z, mulE x y m = z := ⟨_, rfl⟩
          rw [hz, he] at CA EN
          rw [hz] at iz
          have CB := ref_Add S z hS iz
          clear hz he
          by_cases her : er = 0
          · subst her
            by_cases hin : I64 (S + z)
            · rw [ckV_in hin, ckE_in hin] at CB
              obtain ⟨T, hT⟩ : ∃ T, S + z = T := ⟨_, rfl⟩
              rw [hT] at CB hin
              have HT := hid hT
              have CB' := hid CB
              clear CB hT
              go_wp2_with fail
              go_quiet ((go_at_call 57; exact quietL CA.out _))
              go_wp2_with fail
              refine (CB'.out _).mono ?_
              rintro _ _ ⟨rfl, rfl⟩
              go_wp2_with fail
              go_roundw
              case rel =>
                refine ⟨k + 1, T, by omega, by go_num, rfl, hin, ?_, hbr.trans (belowN _ _ _)⟩
                simp only [tot, HS.out, EN.out, HT.out, if_pos, ckV_in hin, ckE_in hin]
              case measure => simp [intOf]; omega
            · rw [ckV_out hin, ckE_out hin] at CB
              have CB' := hid CB
              clear CB
              go_wp2_with fail
              go_quiet ((go_at_call 57; exact quietL CA.out _))
              go_wp2_with fail
              refine (CB'.out _).mono ?_
              rintro _ _ ⟨rfl, rfl⟩
              go_wp2_with fail
              go_ret2
              have e1 : tot (numD xs ys m) (k + 1) = (0, 2) := by simp only [tot, HS.out, EN.out, if_pos, ckV_out hin, ckE_out hin]
              rw [tot_stays (k := k + 1) (by rw [e1]; decide) xs.length hlt, e1]
              exact ⟨rfl, hbr.trans (belowN _ _ _)⟩
          · have hne : (er != 0) = true := by simpa using her
            clear CB
            go_wp2_with fail
            go_quiet ((go_at_call 57; exact quietL CA.out _))
            go_wp2_with fail
            go_ret2
            have e1 : tot (numD xs ys m) (k + 1) = (0, er) := by simp only [tot, HS.out, EN.out, if_pos, if_neg her]
            rw [tot_stays (k := k + 1) (by rw [e1]; exact her) xs.length hlt, e1]
            exact ⟨rfl, hbr.trans (belowN _ _ _)⟩
        · obtain rfl : k = xs.length := by omega
          go_wp2_with fail
          go_ret2
          rw [HS.out]
          exact ⟨rfl, hbr⟩
  · rw [show dotE xs ys m = twoE xs.length ys.length from if_neg ht, show dotV xs ys m = 0 from if_neg ht]
    obtain ⟨t, hte⟩ : ∃ t, twoE xs.length ys.length = t := ⟨_, rfl⟩
    rw [hte] at ht CM ⊢
    have hne : (t != 0) = true := by simpa using ht
    clear ix iy ra rb ht hte
    go_enter Try.func49, Try.ntmps49
    go_wp2_with fail
    refine (CM.out _).mono ?_
    rintro _ _ ⟨rfl, rfl⟩
    go_wp2_with fail
    go_ret2
    exact ⟨rfl, Below.refl _ _⟩
end Go.Proofs.Ytekpejemfkjhcaa
/- The document's vec: Sum; the chapter's examples; how many are short enough. -/
namespace Go.Proofs.Ytekpejemfkjhcaa
open Go.RowKit
set_option maxHeartbeats 400000
set_option maxRecDepth 100000
set_option linter.unusedVariables false
theorem rSum_any (A : Option Addr) (c : Nat) (rows : List (List Int)) (ho : RowsOk rows) (hr : rows.length ≤ 1099511627776) (w : World) (ra : RdRows w w.heap.size A rows) :
    Calls Try.prog 59 #[.slice A rows.length c] w (OwnInts (sumAll rows).1 (sumAll rows).2 w) := by
  have RA := hid ra
  have HR := hid ho
  clear ra ho
  go_enter Try.func59, Try.ntmps59
  go_wp2_with fail
  go_loopw [4, 12] (fun s i wr => ∃ (k : Nat) (S : List Int) (A2 : Option Addr) (c2 : Nat), k ≤ rows.length ∧ i = .int .i64 k ∧ s = .slice A2 S.length c2 ∧ wr.ownsRow w.heap.size 2 1 (.slice A2 S.length c2) S.length (S.map (Value.int .i64)) ∧ I64s S ∧ S.length ≤ 4096 ∧ (k = 0 → S = []) ∧ (1 ≤ k → sumFrom S (rows.drop k) = sumAll rows) ∧ Below w.heap.size w wr) (fun _ i _ => rows.length - (intOf i).toNat)
  case atStart => exact ⟨0, [], none, 0, by omega, rfl, rfl, own_nil _ _ _, by intro x hx; simp at hx, by simp, fun _ => rfl, fun h => absurd h (by omega), Below.refl _ _⟩
  case round =>
    obtain ⟨k, S, A2, c2, hk, rfl, rfl, hS, iS, lS, h0S, hs, hbr⟩ := hrel
    have HSO := hid hS
    have HSI := hid iS
    have HSE := hid hs
    have HS0 := hid h0S
    clear hS iS hs h0S
    by_cases hlt : k < rows.length
    · obtain ⟨u, hu⟩ : ∃ u, rows[k]? = some u := ⟨_, List.getElem?_eq_getElem hlt⟩
      obtain ⟨b, off, A3, c3, rfl, l3, hc3, hr3⟩ := RA.out k u hu
      have hc4 := (hbr.cell (p := ⟨b, off + k, none⟩) l3).trans hc3
      obtain ⟨iu, lu⟩ := HR.out u (List.mem_of_getElem? hu)
      by_cases hk0 : k = 0
      · have hk1 : ((k : Int) == 0) = true := by simp; omega
        have hk2 : k ≤ 0 := by omega
        have CM := hid (rCheck_any A3 u.length c3 (by omega))
        obtain ⟨v0, r0, hrows⟩ : ∃ v r, rows = v :: r := by
          cases rows with
          | nil => simp at hlt
          | cons v r => exact ⟨v, r, rfl⟩
        have huv : v0 = u := by rw [hk0, hrows] at hu; simpa using hu
        have HV := hid (And.intro hrows huv)
        have HIU := hid iu
        clear hrows huv iu
        by_cases hl : 4096 < u.length
        · rw [show oneE u.length = 3 from if_pos hl] at CM
          clear hc3 hr3 hu hk0
          go_wp2_with fail
          refine (CM.out _).mono ?_
          rintro _ _ ⟨rfl, rfl⟩
          go_wp2_with fail
          go_ret2
          obtain ⟨hrows, rfl⟩ := HV.out
          rw [show sumAll rows = ([], 3) by rw [hrows]; exact if_pos hl]
          exact ⟨none, 0, rfl, own_nil _ _ _, hbr⟩
        · rw [show oneE u.length = 0 from if_neg hl] at CM
          have hrd := hr3.below hbr
          have hSe := HS0.out hk0
          have HK0 := hid hk0
          clear hc3 hr3 hu hk0
          have HO0 := HSO.out
          have hS0 : S.length ≤ 0 := by rw [hSe]; simp
          have HSe := hid hSe
          clear hSe
          go_wp2_with fail
          refine (CM.out _).mono ?_
          rintro _ _ ⟨rfl, rfl⟩
          go_wp2_with (at_builtin; refine wpList_app (Value.int .i64) (fun _ => rfl) _ rfl _ _ 22 rfl w.heap.size 2 (.int .i64 0) 8 Try.underlying22 info_i64 rfl S _ _ rfl HO0 u _ c3 _ rfl hrd (by simp [maxLen]; omega) (by omega) hbr.size ?_)
          rintro S' A' c' w1 hS' ho1 hb1 _
          have HS' := hid hS'
          have HO' := hid ho1
          clear hS' ho1 HO0
          have hlS : S'.length ≤ 4096 := by rw [HS'.out, HSe.out]; simp; omega
          go_wp2_with fail
          go_roundw
          case rel =>
            refine ⟨k + 1, S', A', c', by omega, by go_num, rfl, HO'.out, ?_, hlS, fun h => absurd h (by omega), fun _ => ?_, hbr.trans hb1⟩
            · rw [HS'.out, HSe.out]; exact HIU.out
            · obtain ⟨hrows, rfl⟩ := HV.out
              rw [HS'.out, HSe.out, HK0.out, hrows]
              exact (if_neg hl).symm
          case measure => simp [intOf]; omega
      · have hk1 : ((k : Int) == 0) = false := by simp; omega
        have CA := hid (rAdd_any (c := c2) (d := c3) S u (by omega) (by omega) HSI.out iu wr (own_rd HSO.out) ((hr3.below hbr).more hbr.size))
        have hgo := hid (fun h => sum_go (S := S) hu h)
        have hoff := hid (fun h => sum_off (S := S) hu h)
        have hlen := opV_len (· + ·) S u
        have hi64 := hid (opV_i64 (· + ·) S u)
        obtain ⟨er, he⟩ : ∃ x, opE (· + ·) S u = x := ⟨_, rfl⟩
        obtain ⟨T, hT⟩ : ∃ x, opV (· + ·) S u = x := ⟨_, rfl⟩
        rw [he, hT] at CA hgo
        rw [he] at hoff
        rw [hT] at hlen hi64
        have HK := hid hk0
        have kge : 1 ≤ k := by omega
        clear hc3 hr3 hu he hT hk0 iu
        go_wp2_with fail
        refine CA.out.mono ?_
        rintro _ w2 ⟨A4, c4, rfl, ho4, hb4⟩
        have HO4 := hid ho4
        clear ho4
        have hbr2 := hbr.trans (hb4.mono hbr.size)
        by_cases her : er = 0
        · subst her
          go_wp2_with fail
          go_roundw
          case rel => exact ⟨k + 1, T, A4, c4, by omega, by go_num, rfl, own_base HO4.out hbr.size, hi64.out, hlen, fun h => absurd h (by omega), fun _ => by rw [← hgo.out (by simp)]; exact HSE.out kge, hbr2⟩
          case measure => simp [intOf]; omega
        · have hne : (er != 0) = true := by simpa using her
          have hh := hid (hoff.out her)
          go_wp2_with fail
          go_ret2
          rw [← HSE.out kge, hh.out]
          exact ⟨none, 0, rfl, own_nil _ _ _, hbr2⟩
    · obtain rfl : k = rows.length := by omega
      go_wp2_with fail
      go_ret2
      have e : sumAll rows = (S, 0) := by
        by_cases h1 : 1 ≤ rows.length
        · have := HSE.out h1
          rw [List.drop_length] at this
          exact this.symm
        · have hnil : rows = [] := List.eq_nil_of_length_eq_zero (by omega)
          rw [HS0.out (by omega), hnil]; rfl
      rw [e]
      exact ⟨A2, c2, rfl, HSO.out, hbr⟩
end Go.Proofs.Ytekpejemfkjhcaa
/- Plain mathematics of vectors: when a call tells no error, and what it tells then. -/
namespace Go.Proofs.Ytekpejemfkjhcaa
set_option maxRecDepth 100000
set_option linter.unusedVariables false
theorem seqE_zero {num : Nat → Int × Int} : ∀ {n : Nat}, seqE num n = 0 ↔ ∀ k, k < n → (num k).2 = 0
  | 0 => ⟨fun _ k hk => absurd hk (by omega), fun _ => rfl⟩
  | n + 1 => by
    show (if seqE num n = 0 then (num n).2 else seqE num n) = 0 ↔ _
    have ih := seqE_zero (num := num) (n := n)
    split
    · rename_i h
      constructor
      · intro h2 k hk
        by_cases e : k = n
        · rw [e]; exact h2
        · exact ih.1 h k (by omega)
      · intro h2; exact h2 n (by omega)
    · rename_i h
      constructor
      · intro h2; exact absurd h2 h
      · intro h2; exact absurd (ih.2 fun k hk => h2 k (by omega)) h
theorem ckE_zero {s : Int} : ckE s = 0 ↔ I64 s := by
  unfold ckE; split <;> simp_all
theorem range_getDv (xs : List Int) : (List.range xs.length).map (fun k => xs.getD k 0) = xs := by
  apply List.ext_getElem?
  intro i
  by_cases h : i < xs.length
  · simp [h, List.getD]
  · simp [h]
theorem getD_range {f : Nat → Int} {n k : Nat} (hk : k < n) : ((List.range n).map f).getD k 0 = f k := by
  simp [List.getD, hk]
theorem map_range_ext {f g : Nat → Int} {n : Nat} (h : ∀ k, k < n → f k = g k) : (List.range n).map f = (List.range n).map g := by
  apply List.map_congr_left
  intro k hk
  exact h k (by simpa using hk)
theorem op_ok {f : Int → Int → Int} {xs ys : List Int} (h : opE f xs ys = 0) :
    xs.length ≤ 4096 ∧ ys.length = xs.length ∧ (∀ k, k < xs.length → I64 (f (xs.getD k 0) (ys.getD k 0))) ∧ opV f xs ys = (List.range xs.length).map fun k => f (xs.getD k 0) (ys.getD k 0) := by
  unfold opE at h
  unfold opV
  by_cases ht : twoE xs.length ys.length = 0
  · rw [if_pos ht] at h ⊢
    obtain ⟨h1, h2⟩ := twoE_ok ht
    have hk : ∀ k, k < xs.length → I64 (f (xs.getD k 0) (ys.getD k 0)) := fun k hk => ckE_zero.1 (seqE_zero.1 h k hk)
    refine ⟨h1, h2, hk, ?_⟩
    unfold seqV
    rw [if_pos h]
    exact map_range_ext fun k hk' => ckV_in (hk k hk')
  · rw [if_neg ht] at h
    exact absurd h ht
theorem twoE_mk {n m : Nat} (h1 : n ≤ 4096) (h2 : m = n) : twoE n m = 0 := by
  unfold twoE; rw [if_neg (by omega), if_pos h2.symm]
theorem op_mk {f : Int → Int → Int} {xs ys : List Int} (h1 : xs.length ≤ 4096) (h2 : ys.length = xs.length) (hk : ∀ k, k < xs.length → I64 (f (xs.getD k 0) (ys.getD k 0))) :
    opE f xs ys = 0 ∧ opV f xs ys = (List.range xs.length).map fun k => f (xs.getD k 0) (ys.getD k 0) := by
  have h : opE f xs ys = 0 := by
    unfold opE
    rw [if_pos (twoE_mk h1 h2)]
    exact seqE_zero.2 fun k hk' => ckE_zero.2 (hk k hk')
  exact ⟨h, (op_ok h).2.2.2⟩
theorem sumFrom_len : ∀ (r : List (List Int)) (S : List Int), S.length ≤ 4096 → (sumFrom S r).1.length ≤ 4096
  | [], S, h => h
  | v :: r, S, h => by
    unfold sumFrom
    split
    · exact sumFrom_len r _ (opV_len _ _ _)
    · simp
theorem sumAll_len {rows : List (List Int)} (h : RowsOk rows) : (sumAll rows).1.length ≤ 4096 := by
  unfold sumAll
  split
  · simp
  · split
    · simp
    · exact sumFrom_len _ _ (by omega)
end Go.Proofs.Ytekpejemfkjhcaa
/- Plain mathematics of vectors: sizes, the greatest, products. -/
namespace Go.Proofs.Ytekpejemfkjhcaa
set_option maxRecDepth 100000
set_option linter.unusedVariables false
def sm (f : Nat → Int) : Nat → Int
  | 0 => 0
  | n + 1 => sm f n + f n
theorem tot_mk {num : Nat → Int × Int} : ∀ {n : Nat}, (∀ k, k < n → (num k).2 = 0) → (∀ k, k ≤ n → I64 (sm (fun k => (num k).1) k)) → tot num n = (sm (fun k => (num k).1) n, 0)
  | 0, _, _ => rfl
  | n + 1, h, hi => by
    have ih := tot_mk (num := num) (n := n) (fun k hk => h k (by omega)) (fun k hk => hi k (by omega))
    have := hi (n + 1) (Nat.le_refl _)
    unfold tot
    rw [ih]
    simp only [if_pos, h n (by omega)]
    have e : sm (fun k => (num k).1) n + (num n).1 = sm (fun k => (num k).1) (n + 1) := rfl
    rw [e, ckV_in this, ckE_in this]
theorem sm_ext {f g : Nat → Int} : ∀ {n : Nat}, (∀ k, k < n → f k = g k) → sm f n = sm g n
  | 0, _ => rfl
  | n + 1, h => by
    unfold sm
    rw [sm_ext (n := n) fun k hk => h k (by omega), h n (by omega)]
theorem sm_bound {f : Nat → Int} {m : Int} : ∀ {n : Nat}, (∀ k, k < n → -m ≤ f k ∧ f k ≤ m) → -(m * n) ≤ sm f n ∧ sm f n ≤ m * n
  | 0, _ => by simp [sm]
  | n + 1, h => by
    have a := sm_bound (f := f) (n := n) fun k hk => h k (by omega)
    have b := h n (by omega)
    have e : m * ((n + 1 : Nat) : Int) = m * n + m := by rw [Int.natCast_add, Int.mul_add]; simp
    unfold sm
    rw [e]; omega
theorem seqE_two {num : Nat → Int × Int} (h : ∀ k, (num k).2 = 0 ∨ (num k).2 = 2) : ∀ n, seqE num n = 0 ∨ seqE num n = 2
  | 0 => .inl rfl
  | n + 1 => by
    show (if seqE num n = 0 then (num n).2 else seqE num n) = 0 ∨ (if seqE num n = 0 then (num n).2 else seqE num n) = 2
    split
    · exact h n
    · exact seqE_two h n
theorem ckE_two (s : Int) : ckE s = 0 ∨ ckE s = 2 := by unfold ckE; split <;> simp
theorem tot_i64 (num : Nat → Int × Int) (h : ∀ k, I64 (num k).1) : ∀ n, I64 (tot num n).1
  | 0 => (by decide : I64 0)
  | n + 1 => by
    have ih := tot_i64 num h n
    unfold tot
    by_cases h1 : (tot num n).2 = 0
    · rw [if_pos h1]
      by_cases h2 : (num n).2 = 0
      · rw [if_pos h2]; exact ckV_i64 _
      · rw [if_neg h2]; exact (by decide : I64 0)
    · rw [if_neg h1]; exact ih
theorem un_mk {num : Nat → Int × Int} {n : Nat} (hn : n ≤ 4096) (h : ∀ k, k < n → (num k).2 = 0) : unE 0 num n = 0 ∧ unV 0 num n = (List.range n).map fun k => (num k).1 := by
  have h' : ¬ 4096 < n := by omega
  rw [(un_ok h' num).1, (un_ok h' num).2]
  refine ⟨seqE_zero.2 h, ?_⟩
  unfold seqV
  rw [if_pos (seqE_zero.2 h)]
theorem mul_ok {a b : Int} {m : Nat} (hm : m ≤ 30) {c : Int} (h : a * b / 2 ^ m = c) (hc : I64 c) : mulV a b m = c ∧ mulE a b m = 0 := by
  unfold mulV mulE
  rw [if_neg (by omega), if_neg (by omega), show ((m : Nat) : Int).toNat = m from Int.toNat_natCast m, h, ckV_in hc, ckE_in hc]
  exact ⟨rfl, rfl⟩
theorem beh_ok {m : Nat} (hm : m ≤ 30) : behE m = 0 := if_neg (by omega)
end Go.Proofs.Ytekpejemfkjhcaa
/- Plain mathematics of vectors: sums of many; lists of lists in memory, part of them and turned round. -/
namespace Go.Proofs.Ytekpejemfkjhcaa
open Go.RowKit
set_option maxRecDepth 100000
set_option linter.unusedVariables false
/-- What all rows have at one place, together. -/
def col (rows : List (List Int)) (k : Nat) : Int := rows.foldr (fun r s => r.getD k 0 + s) 0
theorem col_cons (v : List Int) (r : List (List Int)) (k : Nat) : col (v :: r) k = v.getD k 0 + col r k := rfl
/-- Rows of one length, none great. -/
def Even (n : Nat) (rows : List (List Int)) : Prop := ∀ v ∈ rows, v.length = n ∧ ∀ x ∈ v, -1125899906842624 ≤ x ∧ x ≤ 1125899906842624
theorem even_at {n : Nat} {rows : List (List Int)} (h : Even n rows) {v : List Int} (hv : v ∈ rows) {k : Nat} (hk : k < n) : -1125899906842624 ≤ v.getD k 0 ∧ v.getD k 0 ≤ 1125899906842624 := by
  obtain ⟨hl, hx⟩ := h v hv
  have : v.getD k 0 = v[k]'(by omega) := by simp [List.getD, show k < v.length by omega]
  rw [this]
  exact hx _ (List.getElem_mem _)
theorem sumFrom_even {n : Nat} (hn : n ≤ 4096) : ∀ (r : List (List Int)) (S : List Int) (m0 : Nat), Even n r → S.length = n → (∀ k, k < n → -(1125899906842624 * (m0 : Int)) ≤ S.getD k 0 ∧ S.getD k 0 ≤ 1125899906842624 * (m0 : Int)) → m0 + r.length ≤ 100 →
    sumFrom S r = ((List.range n).map fun k => S.getD k 0 + col r k, 0)
  | [], S, m0, _, hl, _, _ => by
    show (S, (0 : Int)) = _
    rw [Prod.mk.injEq]
    refine ⟨?_, rfl⟩
    conv => lhs; rw [← range_getDv S]
    rw [hl]
    exact map_range_ext fun k _ => by simp [col]
  | v :: r, S, m0, he, hl, hb, hm => by
    simp only [List.length_cons] at hm
    have hv := he v (by simp)
    have o := op_mk (f := (· + ·)) (xs := S) (ys := v) (by omega) (by omega) fun k hk => by
      have a := hb k (by omega)
      have b := even_at he (v := v) (by simp) (k := k) (by omega)
      show I64 (_ + _)
      unfold I64; omega
    unfold sumFrom
    rw [if_pos o.1, o.2, hl]
    have hT : ((List.range n).map fun k => S.getD k 0 + v.getD k 0).length = n := by simp
    have ih := sumFrom_even hn r ((List.range n).map fun k => S.getD k 0 + v.getD k 0) (m0 + 1) (fun u hu => he u (by simp [hu])) hT (fun k hk => by
      have a := hb k hk
      have b := even_at he (v := v) (by simp) hk
      rw [getD_range hk]
      rw [Int.natCast_add]; omega) (by omega)
    rw [ih, Prod.mk.injEq]
    refine ⟨map_range_ext fun k hk => ?_, rfl⟩
    rw [getD_range hk, col_cons]; omega
theorem sumAll_even {n : Nat} (hn : n ≤ 4096) {rows : List (List Int)} (he : Even n rows) (hl : rows.length ≤ 100) (h0 : rows ≠ []) : sumAll rows = ((List.range n).map (col rows), 0) := by
  cases rows with
  | nil => exact absurd rfl h0
  | cons v r =>
    have hv := he v (by simp)
    simp only [List.length_cons] at hl
    rw [show sumAll (v :: r) = sumFrom v r from if_neg (by omega)]
    rw [sumFrom_even hn r v 1 (fun u hu => he u (by simp [hu])) hv.1 (fun k hk => by have := even_at he (v := v) (by simp) hk; omega) (by omega)]
    rfl
theorem sumFrom_i64 : ∀ (r : List (List Int)) (S : List Int), I64s S → I64s (sumFrom S r).1
  | [], S, h => h
  | v :: r, S, h => by
    unfold sumFrom
    split
    · exact sumFrom_i64 r _ (opV_i64 _ _ _)
    · intro x hx; simp at hx
theorem sumAll_i64 {rows : List (List Int)} (h : RowsOk rows) : I64s (sumAll rows).1 := by
  unfold sumAll
  split
  · intro x hx; simp at hx
  · split
    · intro x hx; simp at hx
    · exact sumFrom_i64 _ _ (h _ (by simp)).1
end Go.Proofs.Ytekpejemfkjhcaa
/- Lines: what they tell, how far they are off, how they are to be bent. Plain mathematics. No program in sight. -/
namespace Go.Proofs.Ytekpejemfkjhcaa
open Go.RowKit
set_option maxRecDepth 100000
set_option linter.unusedVariables false
/-- A sample. -/
structure SmpV where
  X : List Int
  Y : Int
def ldE (n : Int) : Int := if n < 1 ∨ 16 < n then 1 else 0
def ldV (n : Int) : Int := if ldE n = 0 then n + 1 else 0
theorem ldE_ok {n : Int} : ldE n = 0 ↔ 1 ≤ n ∧ n ≤ 16 := by unfold ldE; split <;> simp <;> omega
/-- Whether a line goes with samples. -/
def oddX (n : Int) (ls : List SmpV) : Bool := ls.any fun s => decide ((s.X.length : Int) ≠ n)
def lcE (n : Int) (w : List Int) (ls : List SmpV) : Int :=
  if ldE n ≠ 0 then ldE n else if (w.length : Int) ≠ n + 1 then 4 else if oddX n ls = true then 4 else if ls.length = 0 ∨ 64 < ls.length then 1 else 0
theorem oddX_no {n : Int} {ls : List SmpV} : oddX n ls = false ↔ ∀ s ∈ ls, (s.X.length : Int) = n := by
  unfold oddX
  rw [List.any_eq_false]
  simp
theorem lcE_ok {n : Int} {w : List Int} {ls : List SmpV} : lcE n w ls = 0 ↔ (1 ≤ n ∧ n ≤ 16) ∧ (w.length : Int) = n + 1 ∧ (∀ s ∈ ls, (s.X.length : Int) = n) ∧ ls ≠ [] ∧ ls.length ≤ 64 := by
  unfold lcE
  rw [← ldE_ok, ← oddX_no]
  by_cases h1 : ldE n = 0
  · rw [if_neg (by simp [h1])]
    by_cases h2 : (w.length : Int) = n + 1
    · rw [if_neg (by simp [h2])]
      by_cases h3 : oddX n ls = true
      · rw [if_pos h3]; simp [h3]
      · rw [if_neg h3]
        have h3' : oddX n ls = false := by simpa using h3
        by_cases h4 : ls.length = 0 ∨ 64 < ls.length
        · rw [if_pos h4]
          refine ⟨fun h => absurd h (by decide), fun h => ?_⟩
          rcases h4 with h4 | h4
          · exact absurd (List.length_eq_zero_iff.1 h4) h.2.2.2.1
          · omega
        · rw [if_neg h4]
          exact ⟨fun _ => ⟨h1, h2, h3', fun h => h4 (.inl (by rw [h]; rfl)), by omega⟩, fun _ => rfl⟩
    · rw [if_pos h2]
      exact ⟨fun h => absurd h (by decide), fun h => absurd h.2.1 h2⟩
  · rw [if_pos h1]
    exact ⟨fun h => absurd h h1, fun h => absurd h.1 h1⟩
/-- What a line tells. -/
def ltE (w x : List Int) (f : Int) : Int :=
  if lcE x.length w [⟨x, 0⟩] ≠ 0 then lcE x.length w [⟨x, 0⟩] else if dotE (w.take x.length) x f ≠ 0 then dotE (w.take x.length) x f else ckE (dotV (w.take x.length) x f + w.getD x.length 0)
def ltV (w x : List Int) (f : Int) : Int := if ltE w x f = 0 then dotV (w.take x.length) x f + w.getD x.length 0 else 0
theorem ltE_ok {w x : List Int} {f : Int} : ltE w x f = 0 ↔ lcE x.length w [⟨x, 0⟩] = 0 ∧ dotE (w.take x.length) x f = 0 ∧ I64 (dotV (w.take x.length) x f + w.getD x.length 0) := by
  unfold ltE
  rw [← ckE_zero]
  by_cases h1 : lcE x.length w [⟨x, 0⟩] = 0
  · rw [if_neg (by simp [h1])]
    by_cases h2 : dotE (w.take x.length) x f = 0
    · rw [if_neg (by simp [h2])]; simp [h1, h2]
    · rw [if_pos h2]; simp [h2]
  · rw [if_pos h1]; simp [h1]
theorem ltV_i64 (w x : List Int) (f : Int) : I64 (ltV w x f) := by
  unfold ltV
  split
  · rename_i h; exact (ltE_ok.1 h).2.2
  · decide
/-- How far it is off. -/
def loE (w : List Int) (s : SmpV) (f : Int) : Int := if ltE w s.X f ≠ 0 then ltE w s.X f else ckE (ltV w s.X f - s.Y)
def loV (w : List Int) (s : SmpV) (f : Int) : Int := if loE w s f = 0 then ltV w s.X f - s.Y else 0
/-- The mean of vectors. -/
def lmE (n : Int) (rows : List (List Int)) : Int := if n < 1 then 1 else (sumAll rows).2
def lmV (n : Int) (rows : List (List Int)) : List Int := if lmE n rows = 0 then (sumAll rows).1.map fun x => x / n else []
/-- The first error. -/
def fstE : List Int → Int
  | [] => 0
  | e :: r => if e ≠ 0 then e else fstE r
theorem fstE_ok : ∀ {l : List Int}, fstE l = 0 ↔ ∀ e ∈ l, e = 0
  | [] => by simp [fstE]
  | e :: r => by
    rw [fstE]
    by_cases h : e = 0
    · rw [if_neg (by simp [h]), fstE_ok]; simp [h]
    · rw [if_pos h]; simp [h]
end Go.Proofs.Ytekpejemfkjhcaa
/- An argument that is a sample (a list of numbers and a number), or a list of samples, opened. -/
namespace Go.Proofs.Ytekpejemfkjhcaa
open Go.ChangeShapes Go.WideShapes Go.ChangeAt Go.RowKit
set_option maxRecDepth 100000
set_option linter.unusedVariables false
instance smpInh : Inhabited SmpV := ⟨⟨[], 0⟩⟩
theorem smp_cells : Try.prog.cellsOf 24 = 2 := by kernel_rfl
theorem smp_cells1 : Try.prog.cellsOf 22 = 1 := by kernel_rfl
theorem smp_cells2 : Try.prog.cellsOf 2 = 1 := by kernel_rfl
/-- A slice of samples at A reads so; their numbers lie in blocks below B as well. -/
def RdSm (w : World) (B : Nat) (A : Option Addr) (ls : List SmpV) : Prop :=
  ∀ (k : Nat) (s : SmpV), ls[k]? = some s → ∃ b off Ax cx, A = some ⟨b, off, none⟩ ∧ b < B ∧ w.cell? ⟨b, off + k * 2, none⟩ = some (.slice Ax s.X.length cx) ∧ w.cell? ⟨b, off + k * 2 + 1, none⟩ = some (.int .i64 s.Y) ∧ Rd (Value.int .i64) w B Ax s.X
theorem RdSm.below {w w' : World} {B : Nat} {A : Option Addr} {ls : List SmpV} (h : RdSm w B A ls) (hb : Below B w w') : RdSm w' B A ls := fun k x hx => by
  obtain ⟨b, off, Ax, cx, e, hl, h0, h1, h2⟩ := h k x hx
  exact ⟨b, off, Ax, cx, e, hl, (hb.cell (p := ⟨b, off + k * 2, none⟩) hl).trans h0, (hb.cell (p := ⟨b, off + k * 2 + 1, none⟩) hl).trans h1, h2.below hb⟩
theorem RdSm.more {w : World} {B B' : Nat} {A : Option Addr} {ls : List SmpV} (h : RdSm w B A ls) (hB : B ≤ B') : RdSm w B' A ls := fun k x hx => by
  obtain ⟨b, off, Ax, cx, e, hl, h0, h1, h2⟩ := h k x hx
  exact ⟨b, off, Ax, cx, e, by omega, h0, h1, h2.more hB⟩
theorem RdSm.on {w w' : World} {A : Option Addr} {ls : List SmpV} (h : RdSm w w.heap.size A ls) (hb : Below w.heap.size w w') : RdSm w' w'.heap.size A ls := (h.below hb).more hb.size
theorem RdSm.none_ {w : World} {B : Nat} {A : Option Addr} : RdSm w B A [] := fun k x hx => by simp at hx
theorem RdSm.at_ {w : World} {B : Nat} {A : Option Addr} {ls : List SmpV} (h : RdSm w B A ls) {k : Nat} (hk : k < ls.length) :
    ∃ b off s Ax cx, A = some ⟨b, off, none⟩ ∧ b < B ∧ ls[k]? = some s ∧ w.cell? ⟨b, off + k * 2, none⟩ = some (.slice Ax s.X.length cx) ∧ w.cell? ⟨b, off + k * 2 + 1, none⟩ = some (.int .i64 s.Y) ∧ Rd (Value.int .i64) w B Ax s.X := by
  obtain ⟨b, off, Ax, cx, e, hb, h0, h1, h2⟩ := h k ls[k] (List.getElem?_eq_getElem hk)
  exact ⟨b, off, ls[k], Ax, cx, e, hb, List.getElem?_eq_getElem hk, h0, h1, h2⟩
section
variable {H : Type} {enc : TypeId × Value → H} {W : World}
theorem smp_nums {P : Program} {k : IntKind} {t e : TypeId} {cs : List Value} {fuel : Nat} {x : DataW H × List MemPlace} (ht : P.underlying t = some (.slice e)) (he : P.underlying e = some (.int k)) (hc : P.cellsOf e = 1)
    (hf : DataW.trod enc P W 0 (fun _ => true) true fuel t cs = some x) :
    ∃ A xs c, cs = [.slice A xs.length c] ∧ Rd (Value.int k) W W.heap.size A xs ∧ (∀ x ∈ xs, (Lit.int k x).wf = true) ∧ xs.length ≤ c ∧ c ≤ 9223372036854775807 := by
  rcases open_ints ht he hc hf with ⟨rfl, _⟩ | ⟨a, len, cap, zs, rfl, _, hl, hm, hz, _, hcell, hwz⟩
  · exact ⟨none, [], 0, rfl, Rd.none_, by intro x hx; simp at hx, by simp, by omega⟩
  · simp only [if_true] at hz
    have hlen : (zs.take len).length = len := by rw [List.length_take]; omega
    refine ⟨some a, zs.take len, cap, by rw [hlen], nums_rd rfl fun i hi => hcell i (by omega), fun x hx => hwz x (List.mem_of_mem_take hx), by omega, by unfold maxLen at hm; omega⟩
theorem smp_list2 {cs : List Value} (h : cs.length = 2) : ∃ a b, cs = [a, b] := by
  match cs, h with
  | [a, b], _ => exact ⟨a, b, rfl⟩
theorem cell_smp {c0 c1 : Value} {fuel : Nat} {x : DataW H × List MemPlace}
    (hf : DataW.trod enc Try.prog W 0 (fun _ => true) true fuel 24 [c0, c1] = some x) :
    ∃ A X c Y, [c0, c1] = [.slice A X.length c, .int .i64 Y] ∧ Rd (Value.int .i64) W W.heap.size A X ∧ I64s X ∧ I64 Y ∧ X.length ≤ c ∧ c ≤ 9223372036854775807 := by
  obtain ⟨xs, n, _, _, _, hlen, hg⟩ := DataW.trod_struct Try.underlying24 hf
  have h0 := hg 0 _ rfl
  have h1 := hg 1 _ rfl
  have hlen2 : xs.length = 2 := hlen
  obtain ⟨x0, x1, rfl⟩ : ∃ x0 x1, xs = [x0, x1] := by
    match xs, hlen2 with
    | [x0, x1], _ => exact ⟨x0, x1, rfl⟩
  simp [smp_cells1] at h0
  simp [smp_cells2] at h1
  obtain ⟨A, X, c, e0, r0, w0, l0, m0⟩ := smp_nums Try.underlying22 Try.underlying2 smp_cells2 h0
  obtain ⟨Y, e1, _, w1⟩ := DataW.trod_int Try.underlying2 h1
  simp only [List.cons.injEq, and_true] at e0 e1
  subst e0 e1
  exact ⟨A, X, c, Y, rfl, r0, fun x hx => I64.of_wf (w0 x hx), I64.of_wf w1, l0, m0⟩
theorem open_smp {r : Reach} {v : Value} {d : DataW H} {ps : List MemPlace} {b0 : Nat}
    (hval : Value.okWide Try.prog W r b0 24 v) (hd : DataW.Trod enc Try.prog W 0 (fun _ => true) true 24 v d ps) :
    ∃ A X c Y, v = .agg #[.slice A X.length c, .int .i64 Y] ∧ Rd (Value.int .i64) W W.heap.size A X ∧ I64s X ∧ I64 Y ∧ X.length ≤ c ∧ c ≤ 9223372036854775807 := by
  obtain ⟨cs, rfl, hs⟩ := okWide_struct Try.underlying24 hval
  obtain ⟨fuel, hf⟩ := hd
  rw [smp_cells] at hs
  obtain ⟨cs⟩ := cs
  obtain ⟨c0, c1, rfl⟩ := smp_list2 (by simpa using hs)
  have hf' : DataW.trod enc Try.prog W 0 (fun _ => true) true fuel 24 [c0, c1] = some (d, ps) := by simpa [Value.cells] using hf
  obtain ⟨A, X, c, Y, e, h1, h2, h3, h4, h5⟩ := cell_smp hf'
  simp only [List.cons.injEq, and_true] at e
  obtain ⟨e0, e1⟩ := e
  subst e0 e1
  exact ⟨A, X, c, Y, rfl, h1, h2, h3, h4, h5⟩
theorem open_smps {r : Reach} {v : Value} {d : DataW H} {ps : List MemPlace} {b0 : Nat}
    (hval : Value.okWide Try.prog W r b0 43 v) (hd : DataW.Trod enc Try.prog W 0 (fun _ => true) true 43 v d ps) :
    ∃ A ls c, v = .slice A ls.length c ∧ RdSm W W.heap.size A ls ∧ (∀ s ∈ ls, I64s s.X ∧ I64 s.Y ∧ s.X.length ≤ 9223372036854775807) ∧ ls.length ≤ c ∧ c ≤ 9223372036854775807 := by
  obtain ⟨A, len, cap, rfl⟩ := okWide_slice Try.underlying43 hval
  obtain ⟨fuel, hf⟩ := hd
  rcases Deep.open_slice Try.underlying43 hf with ⟨hcs, _⟩ | ⟨a, len', cap', m, n, D, Pl, hcs, _, hl, hm, hmm, _, hx⟩
  · simp [Value.cells] at hcs
    obtain ⟨rfl, rfl, rfl⟩ := hcs
    exact ⟨none, [], 0, rfl, .none_, by simp, by simp, by omega⟩
  · simp [Value.cells] at hcs
    obtain ⟨rfl, rfl, rfl⟩ := hcs
    simp only [if_true] at hmm
    subst hmm
    rw [smp_cells] at hx
    have each : ∀ i, i < m → ∃ y : SmpV × Option Addr × Nat, W.cell? ((a.add (i * 2)).add 0) = some (.slice y.2.1 y.1.X.length y.2.2) ∧ W.cell? ((a.add (i * 2)).add 1) = some (.int .i64 y.1.Y) ∧ Rd (Value.int .i64) W W.heap.size y.2.1 y.1.X ∧
        I64s y.1.X ∧ I64 y.1.Y ∧ y.1.X.length ≤ 9223372036854775807 := by
      intro i hi
      obtain ⟨cs, h1, h2⟩ := hx i hi
      obtain ⟨_, hlen, hcell⟩ := World.cells?_some h1
      obtain ⟨c0, c1, rfl⟩ := smp_list2 hlen
      obtain ⟨A, X, c, Y, e, i1, i2, i3, i4, i5⟩ := cell_smp h2
      simp only [List.cons.injEq, and_true] at e
      obtain ⟨e0, e1⟩ := e
      subst e0 e1
      exact ⟨(⟨X, Y⟩, A, c), hcell 0 (by omega), hcell 1 (by omega), i1, i2, i3, Nat.le_trans i4 i5⟩
    obtain ⟨y, hy⟩ := Deep.choose_lt each
    have hml : m ≤ 9223372036854775807 := by unfold maxLen at hm; omega
    refine ⟨some a, (List.range len).map fun i => (y i).1, m, by simp, ?_, ?_, by simp; omega, hml⟩
    · intro k x hx
      have hk : k < len := by have := (List.getElem?_eq_some_iff.1 hx).1; simpa using this
      have hxs : x = (y k).1 := by simpa [hk] using hx.symm
      subst hxs
      obtain ⟨h0, h1, h2, _⟩ := hy k (by omega)
      obtain ⟨b, off, spot⟩ := a
      have hs : spot = none := by
        have h9 := (hy 0 (by omega)).1
        have h8 := World.cell?_spot h9
        simpa [Addr.add] using h8
      subst hs
      rw [add_plain, add_plain] at h0 h1
      exact ⟨b, off, (y k).2.1, (y k).2.2, rfl, lt_of_cell h0, by simpa using h0, h1, h2⟩
    · intro h hh
      obtain ⟨k, hk, rfl⟩ := List.mem_map.1 hh
      have hk' : k < len := by simpa using hk
      exact (hy k (by omega)).2.2.2
end
end Go.Proofs.Ytekpejemfkjhcaa
/- Lines, by the landed code: Dim, Check. -/
namespace Go.Proofs.Ytekpejemfkjhcaa
open Go.RowKit
set_option maxHeartbeats 2000000
set_option maxRecDepth 100000
set_option linter.unusedVariables false
theorem ln_Dim (n : Int) (hn : I64 n) (w : World) :
    Calls Try.prog 36 #[.int .i64 n] w fun e w' => e = .returned (.tuple #[.int .i64 (ldV n), .int .i64 (ldE n)]) ∧ w = w' := by
  by_cases h1 : n < 1
  · have e1 : ldE n = 1 := if_pos (Or.inl h1)
    have e2 : ldV n = 0 := if_neg (by rw [e1]; decide)
    rw [e1, e2]
    clear e1 e2
    go_enter Try.func36, Try.ntmps36
    go_wp2_with fail
    go_ret2
    exact ⟨rfl, rfl⟩
  · by_cases h2 : n > 16
    · have e1 : ldE n = 1 := if_pos (Or.inr h2)
      have e2 : ldV n = 0 := if_neg (by rw [e1]; decide)
      rw [e1, e2]
      clear e1 e2
      go_enter Try.func36, Try.ntmps36
      go_wp2_with fail
      go_ret2
      exact ⟨rfl, rfl⟩
    · have e1 : ldE n = 0 := if_neg (by omega)
      have e2 : ldV n = n + 1 := if_pos e1
      rw [e1, e2]
      have hw : IntKind.i64.wrap (n + 1) = n + 1 := Go.IntWalk.i64_in _ (by omega)
      clear e1 e2
      go_enter Try.func36, Try.ntmps36
      go_wp2_with fail
      go_ret2
      exact ⟨rfl, rfl⟩
theorem ln_Check {Aw A : Option Addr} {cw c : Nat} (n : Int) (hn : I64 n) (u : List Int) (hu : u.length ≤ 9223372036854775807) (ls : List SmpV) (hl : ls.length ≤ 9223372036854775807) (hX : ∀ s ∈ ls, s.X.length ≤ 9223372036854775807) (w : World) (ra : RdSm w w.heap.size A ls) :
    Calls Try.prog 39 #[.int .i64 n, .slice Aw u.length cw, .slice A ls.length c] w fun e w' => e = .returned (.int .i64 (lcE n u ls)) ∧ Below w.heap.size w w' := by
  have CD := hid (fun w => ln_Dim n hn w)
  obtain ⟨M, hM⟩ : ∃ M, ls.length = M := ⟨_, rfl⟩
  obtain ⟨U, hU⟩ : ∃ U, u.length = U := ⟨_, rfl⟩
  by_cases h1 : ldE n = 0
  · have e2 : ldV n = n + 1 := if_pos h1
    have hr := ldE_ok.1 h1
    rw [h1, e2] at CD
    obtain ⟨N1, hN1⟩ : ∃ N1, n + 1 = N1 := ⟨_, rfl⟩
    by_cases h2 : (u.length : Int) = n + 1
    · have HE : Hid (lcE n u ls = if oddX n ls = true then 4 else if ls.length = 0 ∨ 64 < ls.length then 1 else 0) := hid (by
        unfold lcE; rw [if_neg (by simp [h1]), if_neg (by simp [h2])])
      rw [hU, hN1] at h2
      rw [hN1] at CD
      have t0 : ((U : Int) != N1) = false := by rw [h2]; simp
      rw [hM, hU]
      have HM := hid hM
      have RA := hid ra
      have HX := hid hX
      obtain ⟨E, hE⟩ : ∃ E, lcE n u ls = E := ⟨_, rfl⟩
      rw [hE]
      have HEE := hid hE
      clear h1 e2 hr hN1 hM hU ra hX hE h2
      go_enter Try.func39, Try.ntmps39
      go_wp2_with fail
      refine (CD.out _).mono ?_
      rintro _ _ ⟨rfl, rfl⟩
      go_wp2_with fail
      have hMb : M ≤ 9223372036854775807 := by have := HM.out; omega
      go_loopw [10, 25] (fun _ xi wr => ∃ k : Nat, k ≤ M ∧ xi = .int .i64 (k : Int) ∧ (∀ j s, j < k → ls[j]? = some s → (s.X.length : Int) = n) ∧ Below w.heap.size w wr) (fun _ xi _ => M - (intOf xi).toNat)
      case atStart => exact ⟨0, Nat.zero_le _, rfl, fun j s hj => by omega, Below.refl _ _⟩
      case round =>
        obtain ⟨k, hk, rfl, hall, hbel⟩ := hrel
        have HA := hid hall
        have HB := hid hbel
        clear hall
        by_cases hlt : k < M
        · obtain ⟨b1, o1, s, Ax, cx, rfl, l1, en, c1, d1, rx⟩ := (RA.out.on hbel).at_ (k := k) (by rw [HM.out]; exact hlt)
          have HS := hid en
          clear hbel en rx
          obtain ⟨X, hX⟩ : ∃ X, s.X.length = X := ⟨_, rfl⟩
          have HXX := hid hX
          rw [hX] at c1
          obtain ⟨Y, hY⟩ : ∃ Y, s.Y = Y := ⟨_, rfl⟩
          rw [hY] at d1
          clear hX hY
          by_cases hx : (X : Int) = n
          · have t1 : ((X : Int) != n) = false := by rw [hx]; simp
            have hw : IntKind.i64.wrap ((k : Int) + 1) = ((k + 1 : Nat) : Int) := Go.IntWalk.i64_in _ (by clear hx t1; omega)
            have HXN := hid hx
            clear hx
            go_wp2_with fail
            go_roundw
            case rel =>
              refine ⟨k + 1, hlt, rfl, ?_, HB.out.alloc HB.out.size _⟩
              intro j s' hj hs'
              by_cases e : j = k
              · subst e
                obtain rfl : s = s' := Option.some.inj (HS.out.symm.trans hs')
                rw [HXX.out]; exact HXN.out
              · exact HA.out j s' (by omega) hs'
            case measure => (try clear hw); simp [intOf]; omega
          · have t1 : ((X : Int) != n) = true := by simpa using hx
            have hodd : E = 4 := by
              rw [← HEE.out, HE.out]
              refine if_pos ?_
              unfold oddX
              rw [List.any_eq_true]
              exact ⟨s, List.mem_of_getElem? HS.out, by rw [HXX.out]; simpa using hx⟩
            subst hodd
            clear hx
            go_wp2_with fail
            go_ret
            exact ⟨rfl, HB.out.alloc HB.out.size _⟩
        · obtain rfl : k = M := by omega
          have hno : oddX n ls = false := oddX_no.2 fun s hs => by
            obtain ⟨j, hj, rfl⟩ := List.mem_iff_getElem.1 hs
            exact HA.out j _ (by rw [← HM.out]; exact hj) (List.getElem?_eq_getElem hj)
          have hE2 := HE.out
          rw [hno, if_neg (by decide), HEE.out, HM.out] at hE2
          by_cases h0 : k = 0
          · have m0 : ((k : Int) == 0) = true := by rw [h0]; rfl
            have : E = 1 := by rw [hE2]; exact if_pos (Or.inl h0)
            subst this
            clear hE2 hno h0 hbel
            go_wp2_with fail
            go_ret
            exact ⟨rfl, HB.out⟩
          · have m0 : ((k : Int) == 0) = false := beq_eq_false_iff_ne.2 (by omega)
            by_cases h64 : 64 < k
            · have m1 : (k : Int) > 64 := by omega
              have : E = 1 := by rw [hE2]; exact if_pos (Or.inr h64)
              subst this
              clear hE2 hno h0 hbel h64
              go_wp2_with fail
              go_ret
              exact ⟨rfl, HB.out⟩
            · have m1 : ¬ (k : Int) > 64 := by omega
              have : E = 0 := by rw [hE2]; exact if_neg (by omega)
              subst this
              clear hE2 hno h0 hbel h64
              go_wp2_with fail
              go_ret
              exact ⟨rfl, HB.out⟩
    · have e : lcE n u ls = 4 := by unfold lcE; rw [if_neg (by simp [h1]), if_pos h2]
      rw [e]
      rw [hU, hN1] at h2
      rw [hN1] at CD
      have t0 : ((U : Int) != N1) = true := by simpa using h2
      rw [hM, hU]
      clear h1 e2 hr hN1 hM hU ra hX e h2
      go_enter Try.func39, Try.ntmps39
      go_wp2_with fail
      refine (CD.out _).mono ?_
      rintro _ _ ⟨rfl, rfl⟩
      go_wp2_with fail
      go_ret
      exact ⟨rfl, Below.refl _ _⟩
  · have e : lcE n u ls = ldE n := by unfold lcE; rw [if_pos h1]
    rw [e]
    have e2 : ldV n = 0 := if_neg h1
    obtain ⟨E, hE⟩ : ∃ E, ldE n = E := ⟨_, rfl⟩
    rw [e2] at CD
    rw [hE] at CD h1 ⊢
    have hne : (E != 0) = true := by simpa using h1
    rw [hM, hU]
    clear e e2 hE h1 ra hX hM hU
    go_enter Try.func39, Try.ntmps39
    go_wp2_with fail
    refine (CD.out _).mono ?_
    rintro _ _ ⟨rfl, rfl⟩
    go_wp2_with fail
    go_ret
    exact ⟨rfl, Below.refl _ _⟩
end Go.Proofs.Ytekpejemfkjhcaa
/- Lines: told right, turned round, twice as steep, with another base. Plain mathematics. No program in sight. -/
namespace Go.Proofs.Ytekpejemfkjhcaa
open Go.RowKit
set_option maxRecDepth 100000
set_option linter.unusedVariables false
theorem mul_bd {a b : Int} {A C : Nat} (ha : a.natAbs ≤ A) (hb : b.natAbs ≤ C) : -((A * C : Nat) : Int) ≤ a * b ∧ a * b ≤ ((A * C : Nat) : Int) := by
  have h : (a * b).natAbs ≤ A * C := by rw [Int.natAbs_mul]; exact Nat.mul_le_mul ha hb
  omega
theorem div_bd {p q M : Int} (hq : 1 ≤ q) (h1 : -M ≤ p) (h2 : p ≤ M) (hM : 0 ≤ M) : -M ≤ p / q ∧ p / q ≤ M := by
  constructor
  · refine Int.le_ediv_of_mul_le (by omega) ?_
    have : M * 1 ≤ M * q := Int.mul_le_mul_of_nonneg_left hq hM
    rw [Int.neg_mul]
    omega
  · rcases Int.lt_or_le p 0 with h | h
    · have := Int.ediv_neg_of_neg_of_pos h (show 0 < q by omega)
      omega
    · have := Int.ediv_le_self q h
      omega
theorem pow_one (m : Nat) : (1 : Int) ≤ 2 ^ m := by
  have h := Nat.two_pow_pos m
  have e : ((2 ^ m : Nat) : Int) = 2 ^ m := by simp
  omega
theorem dot_mk {xs ys : List Int} {m : Nat} (hm : m ≤ 30) (hl : ys.length = xs.length) (hn : xs.length ≤ 16) {A C : Nat} (hAC : A * C ≤ 36028797018963968) (h : ∀ k, k < xs.length → (xs.getD k 0).natAbs ≤ A ∧ (ys.getD k 0).natAbs ≤ C) :
    dotE xs ys m = 0 ∧ dotV xs ys m = sm (fun k => xs.getD k 0 * ys.getD k 0 / 2 ^ m) xs.length ∧ -(((A * C : Nat) : Int) * xs.length) ≤ dotV xs ys m ∧ dotV xs ys m ≤ ((A * C : Nat) : Int) * xs.length := by
  have hb : ∀ k, k < xs.length → -((A * C : Nat) : Int) ≤ xs.getD k 0 * ys.getD k 0 / 2 ^ m ∧ xs.getD k 0 * ys.getD k 0 / 2 ^ m ≤ ((A * C : Nat) : Int) := fun k hk => by
    obtain ⟨a, b⟩ := h k hk
    obtain ⟨c, d⟩ := mul_bd a b
    exact div_bd (pow_one m) c d (by omega)
  have hnum : ∀ k, k < xs.length → numD xs ys m k = (xs.getD k 0 * ys.getD k 0 / 2 ^ m, 0) := fun k hk => by
    obtain ⟨a, b⟩ := hb k hk
    obtain ⟨c, d⟩ := mul_ok hm (a := xs.getD k 0) (b := ys.getD k 0) rfl (by unfold I64; omega)
    unfold numD
    rw [c, d]
  have hsm : ∀ k, k ≤ xs.length → sm (fun k => (numD xs ys m k).1) k = sm (fun k => xs.getD k 0 * ys.getD k 0 / 2 ^ m) k := fun k hk => sm_ext fun j hj => by rw [hnum j (by omega)]
  have hbd : ∀ k, k ≤ xs.length → -(((A * C : Nat) : Int) * k) ≤ sm (fun k => xs.getD k 0 * ys.getD k 0 / 2 ^ m) k ∧ sm (fun k => xs.getD k 0 * ys.getD k 0 / 2 ^ m) k ≤ ((A * C : Nat) : Int) * k := fun k hk => sm_bound fun j hj => hb j (by omega)
  have ht : tot (numD xs ys m) xs.length = (sm (fun k => xs.getD k 0 * ys.getD k 0 / 2 ^ m) xs.length, 0) := by
    rw [← hsm _ (Nat.le_refl _)]
    refine tot_mk (fun k hk => by rw [hnum k hk]) fun k hk => ?_
    rw [hsm k hk]
    obtain ⟨a, b⟩ := hbd k hk
    have : ((A * C : Nat) : Int) * k ≤ 36028797018963968 * 16 := Int.mul_le_mul (by omega) (by omega) (by omega) (by omega)
    unfold I64
    omega
  have h2 : twoE xs.length ys.length = 0 := twoE_mk (by omega) hl
  have e1 : dotE xs ys m = 0 := by unfold dotE; rw [if_pos h2, if_pos (beh_ok hm), ht]
  have e2 : dotV xs ys m = sm (fun k => xs.getD k 0 * ys.getD k 0 / 2 ^ m) xs.length := by unfold dotV; rw [if_pos h2, if_pos (beh_ok hm), ht]
  obtain ⟨a, b⟩ := hbd _ (Nat.le_refl _)
  exact ⟨e1, e2, by rw [e2]; exact a, by rw [e2]; exact b⟩
theorem take_getD {w : List Int} {n k : Nat} (hk : k < n) : (w.take n).getD k 0 = w.getD k 0 := by
  rw [List.getD_eq_getElem?_getD, List.getD_eq_getElem?_getD, List.getElem?_take_of_lt hk]
/-- One sample alone. -/
theorem lc_one {n : Int} {w x : List Int} (hx : (x.length : Int) = n) (h1 : 1 ≤ n) (h2 : n ≤ 16) (hw : (w.length : Int) = n + 1) : lcE x.length w [⟨x, 0⟩] = 0 :=
  lcE_ok.2 ⟨⟨by omega, by omega⟩, by omega, fun s hs => by simp at hs; subst hs; rfl, by simp, by simp⟩
end Go.Proofs.Ytekpejemfkjhcaa
/- Lines: told right; of one sample; samples in another order. Plain mathematics. No program in sight. -/
namespace Go.Proofs.Ytekpejemfkjhcaa
open Go.RowKit
set_option maxRecDepth 100000
set_option linter.unusedVariables false
theorem mul_none {a f : Int} (hf : 0 ≤ f ∧ f ≤ 30) : mulV a 0 f = 0 ∧ mulE a 0 f = 0 := by
  unfold mulV mulE
  rw [if_neg (by omega), if_neg (by omega), Int.mul_zero, Int.zero_ediv]
  exact ⟨by decide, by decide⟩
theorem un_zero {num : Nat → Int × Int} {n : Nat} {f : Int} (hf : 0 ≤ f ∧ f ≤ 30) (hn : n ≤ 4096) (h : ∀ k, k < n → (num k).2 = 0) : unE (behE f) num n = 0 ∧ unV (behE f) num n = (List.range n).map fun k => (num k).1 := by
  have hb : behE f = 0 := if_neg (by omega)
  rw [hb]
  exact un_mk hn h
theorem col_zero {rows : List (List Int)} (h : ∀ r ∈ rows, ∀ x ∈ r, x = 0) (k : Nat) : col rows k = 0 := by
  induction rows with
  | nil => rfl
  | cons v r ih =>
    rw [col_cons, ih fun u hu => h u (by simp [hu])]
    have : v.getD k 0 = 0 := by
      rw [List.getD_eq_getElem?_getD]
      by_cases hk : k < v.length
      · rw [List.getElem?_eq_getElem hk, Option.getD_some]; exact h v (by simp) _ (List.getElem_mem _)
      · rw [List.getElem?_eq_none (by omega)]; rfl
    omega
end Go.Proofs.Ytekpejemfkjhcaa
/- Lines of classes: the lines, what they tell, shares, the class, how far they are off; what follows. Plain mathematics. No program in sight. -/
namespace Go.Proofs.Ytekpejemfkjhcaa
open Go.RowKit
set_option maxRecDepth 100000
set_option linter.unusedVariables false
def rwR (n : Nat) (w : List Int) (i : Nat) : List Int := (w.drop (i * n)).take n
end Go.Proofs.Ytekpejemfkjhcaa
/- Lines of classes: how they are to be bent, how many are right; two lines in each other's places. Plain mathematics. No program in sight. -/
/- Two layers: the lines, what is hidden, what is told, how all is to be bent; what follows. Plain mathematics. No program in sight. -/
namespace Go.Proofs.Ytekpejemfkjhcaa
open Go.RowKit
set_option maxRecDepth 100000
set_option linter.unusedVariables false
def mdE (n hid : Int) : Int := if n < 1 ∨ 16 < n ∨ hid < 1 ∨ 8 < hid then 1 else 0
def mdV (n hid : Int) : Int := if mdE n hid = 0 then hid * (n + 1) + hid + 1 else 0
def mcE (n hid : Int) (w : List Int) (ls : List SmpV) : Int :=
  if mdE n hid ≠ 0 then mdE n hid else if (w.length : Int) ≠ hid * (n + 1) + hid + 1 then 4 else if oddX n ls = true then 4 else if ls.length = 0 ∨ 64 < ls.length then 1 else 0
theorem mcE_ok {n hid : Int} {w : List Int} {ls : List SmpV} : mcE n hid w ls = 0 ↔ (1 ≤ n ∧ n ≤ 16 ∧ 1 ≤ hid ∧ hid ≤ 8) ∧ (w.length : Int) = hid * (n + 1) + hid + 1 ∧ (∀ s ∈ ls, (s.X.length : Int) = n) ∧ ls ≠ [] ∧ ls.length ≤ 64 := by
  unfold mcE mdE
  rw [← oddX_no]
  by_cases h1 : n < 1 ∨ 16 < n ∨ hid < 1 ∨ 8 < hid
  · rw [if_pos h1, if_pos (by decide)]
    exact ⟨fun h => absurd h (by decide), fun h => by omega⟩
  · rw [if_neg h1, if_neg (by decide)]
    by_cases h2 : (w.length : Int) = hid * (n + 1) + hid + 1
    · rw [if_neg (by simp [h2])]
      by_cases h3 : oddX n ls = true
      · rw [if_pos h3]; simp [h3]
      · rw [if_neg h3]
        have h3' : oddX n ls = false := by simpa using h3
        by_cases h4 : ls.length = 0 ∨ 64 < ls.length
        · rw [if_pos h4]
          refine ⟨fun h => absurd h (by decide), fun h => ?_⟩
          rcases h4 with h4 | h4
          · exact absurd (List.length_eq_zero_iff.1 h4) h.2.2.2.1
          · omega
        · rw [if_neg h4]
          exact ⟨fun _ => ⟨by omega, h2, h3', fun h => h4 (.inl (by rw [h]; rfl)), by omega⟩, fun _ => rfl⟩
    · rw [if_pos h2]
      exact ⟨fun h => absurd h (by decide), fun h => absurd h.2.1 h2⟩
/-- How many numbers the lines see, and whether they may. -/
def msN (hid : Int) (w : List Int) : Nat := (w.length - 1) / hid.toNat - 2
def msE (hid : Int) (w : List Int) : Int := if hid < 1 ∨ 8 < hid then 1 else if 1 ≤ msN hid w ∧ msN hid w ≤ 16 ∧ hid.toNat * (msN hid w + 1) + hid.toNat + 1 = w.length then 0 else 4
theorem msE_ok {hid : Int} {w : List Int} : msE hid w = 0 ↔ (1 ≤ hid ∧ hid ≤ 8) ∧ (1 ≤ msN hid w ∧ msN hid w ≤ 16) ∧ hid.toNat * (msN hid w + 1) + hid.toNat + 1 = w.length := by
  unfold msE
  by_cases h : hid < 1 ∨ 8 < hid
  · rw [if_pos h]
    exact ⟨fun h2 => absurd h2 (by decide), fun h2 => by omega⟩
  · rw [if_neg h]
    by_cases h2 : 1 ≤ msN hid w ∧ msN hid w ≤ 16 ∧ hid.toNat * (msN hid w + 1) + hid.toNat + 1 = w.length
    · rw [if_pos h2]
      exact ⟨fun _ => ⟨by omega, ⟨h2.1, h2.2.1⟩, h2.2.2⟩, fun _ => rfl⟩
    · rw [if_neg h2]
      exact ⟨fun h3 => absurd h3 (by decide), fun h3 => absurd ⟨h3.2.1.1, h3.2.1.2, h3.2.2⟩ h2⟩
/-- The number that fits is that. -/
theorem msN_is {hid : Int} {w : List Int} {n : Nat} (h1 : 1 ≤ hid) (h : hid.toNat * (n + 1) + hid.toNat + 1 = w.length) : msN hid w = n := by
  unfold msN
  have e : w.length - 1 = hid.toNat * (n + 2) := by rw [← h, Nat.mul_add, Nat.mul_add]; omega
  rw [e, Nat.mul_div_cancel_left _ (by omega)]
  omega
def mlL (hid : Int) (w : List Int) : List (List Int) := (List.range hid.toNat).map (rwR (msN hid w + 1) w)
def mlZ (hid : Int) (w : List Int) : List Int := w.drop (hid.toNat * (msN hid w + 1))
theorem mlL_len (hid : Int) (w : List Int) : (mlL hid w).length = hid.toNat := by unfold mlL; simp
theorem mlZ_len {hid : Int} {w : List Int} (h : msE hid w = 0) : (mlZ hid w).length = hid.toNat + 1 := by
  have := (msE_ok.1 h).2.2
  unfold mlZ
  rw [List.length_drop]
  omega
/-- Bent. -/
def bdE (z : List Int) : Int := if 4096 < z.length then 3 else 0
def bdL (z : List Int) : List Int := z.map fun x => max x 0
def bdV (z : List Int) : List Int := if bdE z = 0 then bdL z else []
/-- What is hidden. -/
def mhE (hid : Int) (w x : List Int) (f : Int) : Int :=
  if msE hid w ≠ 0 then msE hid w else if msN hid w ≠ x.length then 4 else if f < 0 ∨ 30 < f then 1 else fstE ((mlL hid w).map fun r => ltE r x f)
def mhL (hid : Int) (w x : List Int) (f : Int) : List Int := bdL ((mlL hid w).map fun r => ltV r x f)
def mhV (hid : Int) (w x : List Int) (f : Int) : List Int := if mhE hid w x f = 0 then mhL hid w x f else []
theorem mhE_ok {hid : Int} {w x : List Int} {f : Int} : mhE hid w x f = 0 ↔ msE hid w = 0 ∧ msN hid w = x.length ∧ (0 ≤ f ∧ f ≤ 30) ∧ ∀ r ∈ mlL hid w, ltE r x f = 0 := by
  unfold mhE
  have h9 : fstE ((mlL hid w).map fun r => ltE r x f) = 0 ↔ ∀ r ∈ mlL hid w, ltE r x f = 0 := by rw [fstE_ok]; simp
  rw [← h9]
  by_cases h1 : msE hid w = 0
  · rw [if_neg (by simp [h1])]
    by_cases h2 : msN hid w = x.length
    · rw [if_neg (by simp [h2])]
      by_cases h3 : f < 0 ∨ 30 < f
      · rw [if_pos h3]
        exact ⟨fun h => absurd h (by decide), fun h => by omega⟩
      · rw [if_neg h3]
        exact ⟨fun h => ⟨h1, h2, by omega, h⟩, fun h => h.2.2.2⟩
    · rw [if_pos h2]
      exact ⟨fun h => absurd h (by decide), fun h => absurd h.2.1 h2⟩
  · rw [if_pos h1]
    exact ⟨fun h => absurd h h1, fun h => absurd h.1 h1⟩
theorem mhL_len (hid : Int) (w x : List Int) (f : Int) : (mhL hid w x f).length = hid.toNat := by unfold mhL bdL; rw [List.length_map, List.length_map, mlL_len]
theorem mhL_at {hid : Int} {w x : List Int} {f : Int} {i : Nat} {r : List Int} (h : (mlL hid w)[i]? = some r) : (mhL hid w x f).getD i 0 = max (ltV r x f) 0 := by
  unfold mhL bdL
  rw [List.getD_eq_getElem?_getD, List.getElem?_map, List.getElem?_map, h]
  rfl
theorem mhL_i64 (hid : Int) (w x : List Int) (f : Int) : ∀ y ∈ mhL hid w x f, I64 y ∧ 0 ≤ y := fun y hy => by
  unfold mhL bdL at hy
  obtain ⟨z, hz, rfl⟩ := List.mem_map.1 hy
  obtain ⟨r, _, rfl⟩ := List.mem_map.1 hz
  have := ltV_i64 r x f
  unfold I64 at this ⊢
  omega
/-- What is told, and how far it is off. -/
def mqE (hid : Int) (w x : List Int) (f : Int) : Int := if mhE hid w x f ≠ 0 then mhE hid w x f else ltE (mlZ hid w) (mhL hid w x f) f
def mqV (hid : Int) (w x : List Int) (f : Int) : Int := if mqE hid w x f = 0 then ltV (mlZ hid w) (mhL hid w x f) f else 0
theorem mqE_ok {hid : Int} {w x : List Int} {f : Int} : mqE hid w x f = 0 ↔ mhE hid w x f = 0 ∧ ltE (mlZ hid w) (mhL hid w x f) f = 0 := by
  unfold mqE
  by_cases h : mhE hid w x f = 0
  · rw [if_neg (by simp [h])]; simp [h]
  · rw [if_pos h]; simp [h]
theorem mqV_i64 (hid : Int) (w x : List Int) (f : Int) : I64 (mqV hid w x f) := by
  unfold mqV
  split
  · exact ltV_i64 _ _ _
  · decide
def moE (hid : Int) (w : List Int) (s : SmpV) (f : Int) : Int := if mqE hid w s.X f ≠ 0 then mqE hid w s.X f else ckE (mqV hid w s.X f - s.Y)
def moV (hid : Int) (w : List Int) (s : SmpV) (f : Int) : Int := if moE hid w s f = 0 then mqV hid w s.X f - s.Y else 0
theorem moE_ok {hid : Int} {w : List Int} {s : SmpV} {f : Int} : moE hid w s f = 0 ↔ mqE hid w s.X f = 0 ∧ I64 (mqV hid w s.X f - s.Y) := by
  unfold moE
  rw [← ckE_zero]
  by_cases h : mqE hid w s.X f = 0
  · rw [if_neg (by simp [h])]; simp [h]
  · rw [if_pos h]; simp [h]
/-- How far a line is off: told by what is hidden there, and the last line's number. -/
def mwE (off h z f : Int) : Int := if 0 < h then mulE off z f else 0
def mwV (off h z f : Int) : Int := if 0 < h then mulV off z f else 0
/-- How one sample bends a line. -/
def mlnE (X : List Int) (off h z f : Int) : Int := if mwE off h z f ≠ 0 then mwE off h z f else unE (behE f) (numS X (mwV off h z f) f) X.length
def mlnV (X : List Int) (off h z f : Int) : List Int := unV (behE f) (numS X (mwV off h z f) f) X.length ++ [mwV off h z f]
/-- .. and all. -/
def mbE (hid : Int) (w : List Int) (f : Int) (s : SmpV) : Int :=
  if moE hid w s f ≠ 0 then moE hid w s f else
    fstE ((List.range hid.toNat).map (fun i => mlnE s.X (moV hid w s f) ((mhL hid w s.X f).getD i 0) ((mlZ hid w).getD i 0) f) ++ [unE (behE f) (numS (mhL hid w s.X f) (moV hid w s f) f) (mhL hid w s.X f).length])
def mbV (hid : Int) (w : List Int) (f : Int) (s : SmpV) : List Int :=
  ((List.range hid.toNat).map fun i => mlnV s.X (moV hid w s f) ((mhL hid w s.X f).getD i 0) ((mlZ hid w).getD i 0) f).flatten ++ (unV (behE f) (numS (mhL hid w s.X f) (moV hid w s f) f) (mhL hid w s.X f).length ++ [moV hid w s f])
def mgE (hid : Int) (w : List Int) (f : Int) (ls : List SmpV) : Int :=
  if msE hid w ≠ 0 then msE hid w else if mcE (msN hid w) hid w ls ≠ 0 then mcE (msN hid w) hid w ls else if fstE (ls.map (mbE hid w f)) ≠ 0 then fstE (ls.map (mbE hid w f)) else lmE ls.length (ls.map (mbV hid w f))
def mgV (hid : Int) (w : List Int) (f : Int) (ls : List SmpV) : List Int := if mgE hid w f ls = 0 then lmV ls.length (ls.map (mbV hid w f)) else []
theorem mgE_ok {hid : Int} {w : List Int} {f : Int} {ls : List SmpV} : mgE hid w f ls = 0 ↔ msE hid w = 0 ∧ mcE (msN hid w) hid w ls = 0 ∧ (∀ s ∈ ls, mbE hid w f s = 0) ∧ lmE ls.length (ls.map (mbV hid w f)) = 0 := by
  unfold mgE
  have h9 : fstE (ls.map (mbE hid w f)) = 0 ↔ ∀ s ∈ ls, mbE hid w f s = 0 := by rw [fstE_ok]; simp
  rw [← h9]
  by_cases h0 : msE hid w = 0
  · rw [if_neg (by simp [h0])]
    by_cases h1 : mcE (msN hid w) hid w ls = 0
    · rw [if_neg (by simp [h1])]
      by_cases h2 : fstE (ls.map (mbE hid w f)) = 0
      · rw [if_neg (by simp [h2])]; simp [h0, h1, h2]
      · rw [if_pos h2]; simp [h2]
    · rw [if_pos h1]; simp [h1]
  · rw [if_pos h0]; simp [h0]
/-- Nothing by which to bend: zeros. -/
theorem mul_zero_l {b f : Int} (hf : 0 ≤ f ∧ f ≤ 30) : mulV 0 b f = 0 ∧ mulE 0 b f = 0 := by
  unfold mulV mulE
  rw [if_neg (by omega), if_neg (by omega), Int.zero_mul, Int.zero_ediv]
  exact ⟨by decide, by decide⟩
theorem un_none {X : List Int} {f : Int} (hf : 0 ≤ f ∧ f ≤ 30) (hl : X.length ≤ 4096) : unE (behE f) (numS X 0 f) X.length = 0 ∧ (unV (behE f) (numS X 0 f) X.length).length = X.length ∧ ∀ x ∈ unV (behE f) (numS X 0 f) X.length, x = 0 := by
  obtain ⟨u1, u2⟩ := un_zero (num := numS X 0 f) hf hl fun k _ => (mul_none hf).2
  refine ⟨u1, by rw [u2]; simp, fun x hx => ?_⟩
  rw [u2] at hx
  obtain ⟨k, _, rfl⟩ := List.mem_map.1 hx
  exact (mul_none hf).1
theorem ml_none {X : List Int} {off h z f : Int} (hf : 0 ≤ f ∧ f ≤ 30) (hl : X.length ≤ 4096) (h0 : off = 0 ∨ z = 0) : mlnE X off h z f = 0 ∧ (mlnV X off h z f).length = X.length + 1 ∧ ∀ x ∈ mlnV X off h z f, x = 0 := by
  have hw : mwE off h z f = 0 ∧ mwV off h z f = 0 := by
    unfold mwE mwV
    by_cases hh : 0 < h
    · rw [if_pos hh, if_pos hh]
      rcases h0 with rfl | rfl
      · exact ⟨(mul_zero_l hf).2, (mul_zero_l hf).1⟩
      · exact ⟨(mul_none hf).2, (mul_none hf).1⟩
    · rw [if_neg hh, if_neg hh]; exact ⟨rfl, rfl⟩
  obtain ⟨u1, u2, u3⟩ := un_none hf hl
  refine ⟨by unfold mlnE; rw [if_neg (by simp [hw.1]), hw.2, u1], ?_, ?_⟩
  · unfold mlnV; rw [hw.2, List.length_append, u2]; rfl
  · intro x hx
    unfold mlnV at hx
    rw [hw.2] at hx
    rcases List.mem_append.1 hx with hx | hx
    · exact u3 x hx
    · simpa using hx
theorem flat_len {m : Nat} : ∀ (rows : List (List Int)), (∀ r ∈ rows, r.length = m) → rows.flatten.length = rows.length * m
  | [], _ => by simp
  | r :: t, h => by
    rw [List.flatten_cons, List.length_append, h r (by simp), flat_len t fun x hx => h x (by simp [hx]), List.length_cons, Nat.add_mul, Nat.one_mul]
    omega
theorem mlp_parts {hid : Int} {w x : List Int} {f : Int} (h : mqE hid w x f = 0) : msE hid w = 0 ∧ msN hid w = x.length ∧ (0 ≤ f ∧ f ≤ 30) ∧ (1 ≤ hid ∧ hid ≤ 8) ∧ x.length ≤ 16 ∧ 1 ≤ x.length ∧ w.length = hid.toNat * (x.length + 1) + hid.toNat + 1 := by
  obtain ⟨h1, _⟩ := mqE_ok.1 h
  obtain ⟨a, b, c, _⟩ := mhE_ok.1 h1
  obtain ⟨d, e, g⟩ := msE_ok.1 a
  rw [b] at e g
  exact ⟨a, b, c, d, e.2, e.1, g.symm⟩
/-- A sample that is told right bends nothing. -/
theorem mb_right {hid : Int} {w : List Int} {f : Int} {s : SmpV} (h : mqE hid w s.X f = 0) (hy : s.Y = mqV hid w s.X f) :
    mbE hid w f s = 0 ∧ (mbV hid w f s).length = w.length ∧ ∀ x ∈ mbV hid w f s, x = 0 := by
  obtain ⟨a1, a2, hf, a4, a5, a6, a7⟩ := mlp_parts h
  have e1 : moE hid w s f = 0 := moE_ok.2 ⟨h, by rw [hy, Int.sub_self]; decide⟩
  have e2 : moV hid w s f = 0 := by unfold moV; rw [if_pos e1, hy, Int.sub_self]
  have hl := mhL_len hid w s.X f
  obtain ⟨u1, u2, u3⟩ := un_none (X := mhL hid w s.X f) hf (by omega)
  have hml := fun i => ml_none (X := s.X) (off := 0) (h := (mhL hid w s.X f).getD i 0) (z := (mlZ hid w).getD i 0) hf (by omega) (.inl rfl)
  refine ⟨?_, ?_, ?_⟩
  · unfold mbE
    rw [if_neg (by simp [e1]), e2, u1]
    refine fstE_ok.2 fun e he => ?_
    rcases List.mem_append.1 he with he | he
    · obtain ⟨i, _, rfl⟩ := List.mem_map.1 he
      exact (hml i).1
    · simpa using he
  · unfold mbV
    rw [e2, List.length_append, List.length_append, u2, hl, flat_len (m := s.X.length + 1) _ fun r hr => by
      obtain ⟨i, _, rfl⟩ := List.mem_map.1 hr
      exact (hml i).2.1]
    rw [List.length_map, List.length_range, a7]
    simp
    omega
  · intro x hx
    unfold mbV at hx
    rw [e2] at hx
    rcases List.mem_append.1 hx with hx | hx
    · obtain ⟨r, hr, hx⟩ := List.mem_flatten.1 hx
      obtain ⟨i, _, rfl⟩ := List.mem_map.1 hr
      exact (hml i).2.2 x hx
    · rcases List.mem_append.1 hx with hx | hx
      · exact u3 x hx
      · simpa using hx
theorem mlp_right {hid : Int} {w : List Int} {f : Int} {ls : List SmpV} (h : ∀ s ∈ ls, mqE hid w s.X f = 0 ∧ s.Y = mqV hid w s.X f) (hne : ls ≠ []) (hl : ls.length ≤ 64) :
    mgE hid w f ls = 0 ∧ (mgV hid w f ls).length = w.length ∧ ∀ x ∈ mgV hid w f ls, x = 0 := by
  have hpos : 0 < ls.length := List.length_pos_iff.2 hne
  obtain ⟨s0, hs0⟩ := List.exists_mem_of_ne_nil ls hne
  obtain ⟨a1, a2, hf, a4, a5, a6, a7⟩ := mlp_parts (h s0 hs0).1
  have hwl : w.length ≤ 4096 := by
    have h1 : hid.toNat * (s0.X.length + 1) ≤ 8 * 17 := Nat.mul_le_mul (by omega) (by omega)
    omega
  have hc : mcE (msN hid w) hid w ls = 0 := mcE_ok.2 ⟨by omega, by
      rw [a2]
      have e : hid = (hid.toNat : Int) := by omega
      rw [e, a7]
      simp, fun s hs => by have := (mlp_parts (h s hs).1).2.1; omega, hne, hl⟩
  have hr := fun s hs => mb_right (h s hs).1 (h s hs).2
  have he : Even w.length (ls.map (mbV hid w f)) := fun v hv => by
    obtain ⟨s, hs, rfl⟩ := List.mem_map.1 hv
    obtain ⟨_, a, b⟩ := hr s hs
    exact ⟨a, fun x hx => by rw [b x hx]; omega⟩
  have hs := sumAll_even hwl he (by rw [List.length_map]; omega) (by simpa using hne)
  have hz : ∀ r ∈ ls.map (mbV hid w f), ∀ x ∈ r, x = 0 := fun v hv => by
    obtain ⟨s, hs, rfl⟩ := List.mem_map.1 hv
    exact (hr s hs).2.2
  have hm : lmE ls.length (ls.map (mbV hid w f)) = 0 := by unfold lmE; rw [if_neg (by omega), hs]
  have hg : mgE hid w f ls = 0 := mgE_ok.2 ⟨a1, hc, fun s hs => (hr s hs).1, hm⟩
  have hv : mgV hid w f ls = (List.range w.length).map fun k => col (ls.map (mbV hid w f)) k / (ls.length : Int) := by
    unfold mgV lmV
    rw [if_pos hg, if_pos hm, hs, List.map_map]
    rfl
  refine ⟨hg, by rw [hv]; simp, ?_⟩
  intro x hx
  rw [hv] at hx
  obtain ⟨k, _, rfl⟩ := List.mem_map.1 hx
  show col _ k / _ = 0
  rw [col_zero hz, Int.zero_ediv]
/-- What is hidden. -/
theorem mlp_hides {hid : Int} {w x : List Int} {f : Int} (h : mhE hid w x f = 0) :
    msE hid w = 0 ∧ ((mhL hid w x f).length : Int) = hid ∧ ((mlL hid w).length : Int) = hid ∧ ((mlZ hid w).length : Int) = hid + 1 ∧
    (∀ i r, (mlL hid w)[i]? = some r → ltE r x f = 0 ∧ 0 ≤ (mhL hid w x f).getD i 0 ∧ (0 < ltV r x f → (mhL hid w x f).getD i 0 = ltV r x f) ∧ (ltV r x f ≤ 0 → (mhL hid w x f).getD i 0 = 0)) ∧
    mqE hid w x f = ltE (mlZ hid w) (mhL hid w x f) f ∧ mqV hid w x f = ltV (mlZ hid w) (mhL hid w x f) f := by
  obtain ⟨a1, a2, a3, a4⟩ := mhE_ok.1 h
  obtain ⟨b1, _⟩ := msE_ok.1 a1
  have e1 : mqE hid w x f = ltE (mlZ hid w) (mhL hid w x f) f := by unfold mqE; rw [if_neg (by simp [h])]
  refine ⟨a1, by rw [mhL_len]; omega, by rw [mlL_len]; omega, by rw [mlZ_len a1]; omega, fun i r hr => ?_, e1, ?_⟩
  · rw [mhL_at hr]
    exact ⟨a4 r (List.mem_of_getElem? hr), by omega, fun h => by omega, fun h => by omega⟩
  · unfold mqV
    rw [e1]
    by_cases h9 : ltE (mlZ hid w) (mhL hid w x f) f = 0
    · rw [if_pos h9]
    · rw [if_neg h9]; unfold ltV; rw [if_neg h9]
end Go.Proofs.Ytekpejemfkjhcaa
/- Two layers, by the landed code: Dim, Check, what is below 0. -/
namespace Go.Proofs.Ytekpejemfkjhcaa
open Go.RowKit
set_option maxHeartbeats 2000000
set_option maxRecDepth 100000
set_option linter.unusedVariables false
theorem mq_hides {o : Int} {b : Bool} (hb : b = true ↔ 1 ≤ o ∧ o ≤ 8) (w : World) :
    Calls Try.prog 37 #[.int .i64 o] w fun e w' => e = .returned (.bool b) ∧ w = w' := by
  by_cases h1 : o ≥ 1
  · by_cases h2 : o ≤ 8
    · obtain rfl : b = true := hb.2 ⟨h1, h2⟩
      clear hb
      go_enter Try.func37, Try.ntmps37
      go_wp2_with fail
      go_ret
      exact ⟨rfl, rfl⟩
    · obtain rfl : b = false := by cases b with
        | false => rfl
        | true => exact absurd (hb.1 rfl).2 h2
      clear hb
      go_enter Try.func37, Try.ntmps37
      go_wp2_with fail
      go_ret
      exact ⟨rfl, rfl⟩
  · obtain rfl : b = false := by cases b with
      | false => rfl
      | true => exact absurd (hb.1 rfl).1 h1
    clear hb
    go_enter Try.func37, Try.ntmps37
    go_wp2_with fail
    go_ret
    exact ⟨rfl, rfl⟩
theorem ml_Dim (n o : Int) (hn : I64 n) (ho : I64 o) (w : World) :
    Calls Try.prog 18 #[.int .i64 n, .int .i64 o] w fun e w' => e = .returned (.tuple #[.int .i64 (mdV n o), .int .i64 (mdE n o)]) ∧ w = w' := by
  have CD := hid (fun W => ln_Dim n hn W)
  by_cases h1 : ldE n = 0
  · obtain ⟨n1, n16⟩ := ldE_ok.1 h1
    have e0 : ldV n = n + 1 := if_pos h1
    rw [h1, e0] at CD
    by_cases h2 : 1 ≤ o ∧ o ≤ 8
    · have CC := hid (fun W => mq_hides (o := o) (b := true) ⟨fun _ => h2, fun _ => rfl⟩ W)
      have CL := hid (fun W => ln_Dim o ho W)
      have h3 : ldE o = 0 := ldE_ok.2 (by omega)
      have e3 : ldV o = o + 1 := if_pos h3
      rw [h3, e3] at CL
      have e1 : mdE n o = 0 := if_neg (by omega)
      have e2 : mdV n o = o * (n + 1) + o + 1 := if_pos e1
      rw [e1, e2]
      obtain ⟨m, hm⟩ : ∃ m, n + 1 = m := ⟨_, rfl⟩
      rw [hm] at CD ⊢
      have hp : 0 ≤ o * m ∧ o * m ≤ 136 := ⟨Int.mul_nonneg (by omega) (by omega), by have := Int.mul_le_mul h2.2 (show m ≤ 17 by omega) (by omega) (by omega); omega⟩
      obtain ⟨d, hd⟩ : ∃ d, o * m = d := ⟨_, rfl⟩
      obtain ⟨l, hl⟩ : ∃ l, o + 1 = l := ⟨_, rfl⟩
      rw [hd] at hp
      rw [hl] at CL
      have hw2 : IntKind.i64.wrap (o * m) = d := by rw [hd]; exact Go.IntWalk.i64_in _ (by omega)
      have hw3 : wrap64 (o * m) = d := by rw [hd]; exact Go.IntWalk.wrap64_in _ (by omega)
      rw [hd, show d + o + 1 = d + l by omega]
      obtain ⟨q, hq⟩ : ∃ q, d + l = q := ⟨_, rfl⟩
      have hw4 : IntKind.i64.wrap (d + l) = q := by rw [hq]; exact Go.IntWalk.i64_in _ (by omega)
      have hw5 : wrap64 (d + l) = q := by rw [hq]; exact Go.IntWalk.wrap64_in _ (by omega)
      rw [hq]
      clear e0 e1 e2 e3 hd hm hp h1 h2 h3 n1 n16 hl hq
      go_enter Try.func18, Try.ntmps18
      go_wp2_with fail
      refine (CD.out _).mono ?_
      rintro _ _ ⟨rfl, rfl⟩
      go_wp2_with fail
      refine (CC.out _).mono ?_
      rintro _ _ ⟨rfl, rfl⟩
      go_wp2_with fail
      refine (CL.out _).mono ?_
      rintro _ _ ⟨rfl, rfl⟩
      go_wp2_with fail
      go_ret2
      exact ⟨rfl, rfl⟩
    · have CC := hid (fun W => mq_hides (o := o) (b := false) ⟨fun h => (by cases h), fun h => absurd h h2⟩ W)
      have e1 : mdE n o = 1 := if_pos (by omega)
      have e2 : mdV n o = 0 := if_neg (by rw [e1]; decide)
      rw [e1, e2]
      clear e0 e1 e2 h1 h2 n1 n16
      go_enter Try.func18, Try.ntmps18
      go_wp2_with fail
      refine (CD.out _).mono ?_
      rintro _ _ ⟨rfl, rfl⟩
      go_wp2_with fail
      refine (CC.out _).mono ?_
      rintro _ _ ⟨rfl, rfl⟩
      go_wp2_with fail
      go_ret2
      exact ⟨rfl, rfl⟩
  · have hb : n < 1 ∨ 16 < n := by
      by_cases h : 1 ≤ n ∧ n ≤ 16
      · exact absurd (ldE_ok.2 h) h1
      · omega
    have e0 : ldE n = 1 := if_pos hb
    have e1 : mdE n o = 1 := if_pos (by omega)
    have e2 : mdV n o = 0 := if_neg (by rw [e1]; decide)
    have e3 : ldV n = 0 := if_neg h1
    rw [e0, e3] at CD
    rw [e1, e2]
    clear e0 e1 e2 e3 h1 hb
    go_enter Try.func18, Try.ntmps18
    go_wp2_with fail
    refine (CD.out _).mono ?_
    rintro _ _ ⟨rfl, rfl⟩
    go_wp2_with fail
    go_ret2
    exact ⟨rfl, rfl⟩
theorem ml_Check {Aw A : Option Addr} {cw c : Nat} (n o : Int) (hn : I64 n) (ho : I64 o) (u : List Int) (hu : u.length ≤ 9223372036854775807) (hcw : u.length ≤ cw) (ls : List SmpV) (hl : ls.length ≤ 9223372036854775807) (hX : ∀ s ∈ ls, s.X.length ≤ 9223372036854775807) (w : World) (ra : RdSm w w.heap.size A ls) :
    Calls Try.prog 24 #[.int .i64 n, .int .i64 o, .slice Aw u.length cw, .slice A ls.length c] w fun e w' => e = .returned (.int .i64 (mcE n o u ls)) ∧ Below w.heap.size w w' := by
  have CD := hid (fun W => ml_Dim n o hn ho W)
  obtain ⟨M, hM⟩ : ∃ M, ls.length = M := ⟨_, rfl⟩
  obtain ⟨U, hU⟩ : ∃ U, u.length = U := ⟨_, rfl⟩
  by_cases h1 : mdE n o = 0
  · have e2 : mdV n o = o * (n + 1) + o + 1 := if_pos h1
    have hr : 1 ≤ n ∧ n ≤ 16 ∧ 1 ≤ o ∧ o ≤ 8 := by
      unfold mdE at h1
      by_cases h : n < 1 ∨ 16 < n ∨ o < 1 ∨ 8 < o
      · rw [if_pos h] at h1; exact absurd h1 (by decide)
      · omega
    rw [h1, e2] at CD
    obtain ⟨N1, hN1⟩ : ∃ N1, o * (n + 1) + o + 1 = N1 := ⟨_, rfl⟩
    by_cases h2 : (u.length : Int) = o * (n + 1) + o + 1
    · obtain ⟨m, rfl⟩ : ∃ m : Nat, n = (m : Int) := ⟨n.toNat, by omega⟩
      have hmU : m + 1 ≤ U := by
        have h3 : 1 * ((m : Int) + 1) ≤ o * ((m : Int) + 1) := Int.mul_le_mul_of_nonneg_right hr.2.2.1 (by omega)
        rw [hU] at h2
        omega
      have hul : (u.take (m + 1)).length = m + 1 := by rw [List.length_take, hU]; omega
      have hld : ldE (m : Int) = 0 := ldE_ok.2 ⟨hr.1, hr.2.1⟩
      have HL1 : lcE (m : Int) (u.take (m + 1)) ls = if oddX (m : Int) ls = true then 4 else if ls.length = 0 ∨ 64 < ls.length then 1 else 0 := by
        unfold lcE; rw [if_neg (by simp [hld]), if_neg (by rw [hul]; simp)]
      have HL2 : mcE (m : Int) o u ls = if oddX (m : Int) ls = true then 4 else if ls.length = 0 ∨ 64 < ls.length then 1 else 0 := by
        unfold mcE; rw [if_neg (by simp [h1]), if_neg (by simp [h2])]
      have HL : lcE (m : Int) (u.take (m + 1)) ls = mcE (m : Int) o u ls := HL1.trans HL2.symm
      clear HL1 HL2
      have CL := hid (fun W (h : RdSm W W.heap.size A ls) => ln_Check (Aw := cutA Aw 0 cw) (A := A) (cw := cw) (c := c) (m : Int) hn (u.take (m + 1)) (by rw [hul]; omega) ls hl hX W h)
      rw [hul, HL] at CL
      have hsl := fun W => run_upto (P := Try.prog) 22 Try.underlying22 Try.sizeOf2 Aw U cw (m + 1) (by omega) W
      have hw1 : IntKind.i64.wrap ((m : Int) + 1) = ((m + 1 : Nat) : Int) := Go.IntWalk.i64_in _ (by omega)
      have hw2 : wrap64 ((m : Int) + 1) = ((m + 1 : Nat) : Int) := Go.IntWalk.wrap64_in _ (by omega)
      rw [hU, hN1] at h2
      rw [hN1] at CD
      have t0 : ((U : Int) != N1) = false := by rw [h2]; simp
      obtain ⟨A2, hA2⟩ : ∃ A2, cutA Aw 0 cw = A2 := ⟨_, rfl⟩
      rw [hA2] at CL hsl
      obtain ⟨L, hL⟩ : ∃ L, mcE (m : Int) o u ls = L := ⟨_, rfl⟩
      rw [hL] at CL ⊢
      have RA := hid ra
      have hm1 : ¬ ((m + 1 : Nat) : Int) < 0 := Int.not_lt.2 (Int.natCast_nonneg _)
      obtain ⟨m1, hm1'⟩ : ∃ m1, m + 1 = m1 := ⟨_, rfl⟩
      rw [hm1'] at CL hsl hw1 hw2 hm1
      rw [hU]
      rw [hM] at CL ⊢
      clear e2 hr hN1 hU ra hX h2 HL hL hA2 hul hld hm1' hmU hu hcw h1 hM hl
      go_enter Try.func24, Try.ntmps24
      go_wp2_with fail
      refine (CD.out _).mono ?_
      rintro _ _ ⟨rfl, rfl⟩
      go_wp2_with fail
      refine (CL.out _ RA.out).mono ?_
      rintro _ w1 ⟨rfl, hb1⟩
      have K1 := hid hb1
      clear hsl hw1 hw2 hm1 t0 CL CD hb1
      go_wp2_with fail
      go_ret
      exact ⟨rfl, K1.out⟩
    · have e : mcE n o u ls = 4 := by unfold mcE; rw [if_neg (by simp [h1]), if_pos h2]
      rw [e]
      rw [hU, hN1] at h2
      rw [hN1] at CD
      have t0 : ((U : Int) != N1) = true := by simpa using h2
      rw [hM, hU]
      clear h1 e2 hr hN1 hM hU ra hX e h2 hu hcw hl
      go_enter Try.func24, Try.ntmps24
      go_wp2_with fail
      refine (CD.out _).mono ?_
      rintro _ _ ⟨rfl, rfl⟩
      go_wp2_with fail
      go_ret
      exact ⟨rfl, Below.refl _ _⟩
  · have e : mcE n o u ls = mdE n o := by unfold mcE; rw [if_pos h1]
    rw [e]
    have e2 : mdV n o = 0 := if_neg h1
    obtain ⟨E, hE⟩ : ∃ E, mdE n o = E := ⟨_, rfl⟩
    rw [e2] at CD
    rw [hE] at CD h1 ⊢
    have hne : (E != 0) = true := by simpa using h1
    rw [hM, hU]
    clear e e2 hE h1 ra hX hM hU hu hcw hl
    go_enter Try.func24, Try.ntmps24
    go_wp2_with fail
    refine (CD.out _).mono ?_
    rintro _ _ ⟨rfl, rfl⟩
    go_wp2_with fail
    go_ret
    exact ⟨rfl, Below.refl _ _⟩
end Go.Proofs.Ytekpejemfkjhcaa
/- Two layers, by the landed code: what its order of errors comes to. Plain mathematics. -/
namespace Go.Proofs.Ytekpejemfkjhcaa
open Go.RowKit
set_option maxRecDepth 100000
set_option linter.unusedVariables false
theorem bd_range (z : List Int) : bdL z = (List.range z.length).map fun j => max (z.getD j 0) 0 := by
  unfold bdL
  refine List.ext_getElem (by simp) fun i h1 h2 => ?_
  have h3 : i < z.length := by simpa using h1
  simp [List.getD_eq_getElem?_getD, List.getElem?_eq_getElem h3]
theorem lt_frac {r x : List Int} {f : Int} (h1 : 1 ≤ x.length) (h2 : x.length ≤ 16) (h3 : r.length = x.length + 1) (hf : f < 0 ∨ 30 < f) : ltE r x f = 1 := by
  have e1 : lcE (x.length : Int) r [⟨x, 0⟩] = 0 := lcE_ok.2 ⟨by omega, by rw [h3]; simp, fun s hs => by simp at hs; subst hs; rfl, by simp, by simp⟩
  have e2 : dotE (r.take x.length) x f = 1 := by
    unfold dotE twoE behE
    have : (r.take x.length).length = x.length := by rw [List.length_take]; omega
    rw [this, if_neg (show ¬ (4096 < x.length ∨ 4096 < x.length) by omega), if_pos (rfl : x.length = x.length), if_pos rfl, if_pos hf, if_neg (by decide)]
  unfold ltE
  rw [if_neg (by simp [e1]), e2, if_pos (by decide)]
theorem mh_fst {o : Int} {u x : List Int} {f : Int} (h1 : msE o u = 0) (h2 : msN o u = x.length) (hr : ∀ r ∈ mlL o u, r.length = x.length + 1) : mhE o u x f = fstE ((mlL o u).map fun r => ltE r x f) := by
  obtain ⟨⟨a1, a2⟩, ⟨b1, b2⟩, _⟩ := msE_ok.1 h1
  unfold mhE
  rw [if_neg (by simp [h1]), if_neg (by simp [h2])]
  by_cases h3 : f < 0 ∨ 30 < f
  · rw [if_pos h3]
    have hl := mlL_len o u
    cases hm : mlL o u with
    | nil => rw [hm] at hl; simp at hl; omega
    | cons r t =>
      have e : ltE r x f = 1 := lt_frac (by omega) (by omega) (hr r (by rw [hm]; simp)) h3
      rw [List.map_cons, fstE, e, if_pos (by decide)]
  · rw [if_neg h3]
/-- All errors are of one kind. -/
theorem fst_same {c : Int} {l : List Int} (h : ∀ e ∈ l, e = 0 ∨ e = c) : fstE l = 0 ∨ fstE l = c := by
  induction l with
  | nil => exact .inl rfl
  | cons a r ih =>
    rw [fstE]
    by_cases e : a = 0
    · rw [if_neg (by simp [e])]
      exact ih fun x hx => h x (by simp [hx])
    · rw [if_pos e]
      exact h a (by simp)
theorem mul_err {a b f : Int} (hf : 0 ≤ f ∧ f ≤ 30) : mulE a b f = 0 ∨ mulE a b f = 2 := by
  unfold mulE
  rw [if_neg (by omega)]
  rcases ckE_cases (a * b / 2 ^ f.toNat) with ⟨h, _⟩ | ⟨h, _⟩
  · exact .inl h
  · exact .inr h
theorem mw_err {off h z f : Int} (hf : 0 ≤ f ∧ f ≤ 30) : mwE off h z f = 0 ∨ mwE off h z f = 2 := by
  unfold mwE
  split
  · exact mul_err hf
  · exact .inl rfl
theorem seq_err {num : Nat → Int × Int} : ∀ (n : Nat), (∀ k, (num k).2 = 0 ∨ (num k).2 = 2) → seqE num n = 0 ∨ seqE num n = 2
  | 0, _ => .inl rfl
  | n + 1, h => by
    show (if seqE num n = 0 then (num n).2 else seqE num n) = 0 ∨ (if seqE num n = 0 then (num n).2 else seqE num n) = 2
    split
    · exact h n
    · exact seq_err n h
theorem un_err {X : List Int} {b f : Int} (hf : 0 ≤ f ∧ f ≤ 30) (hl : X.length ≤ 4096) : unE (behE f) (numS X b f) X.length = 0 ∨ unE (behE f) (numS X b f) X.length = 2 := by
  unfold unE bndE behE
  rw [if_neg (show ¬ 4096 < X.length by omega), if_neg (show ¬ (f < 0 ∨ 30 < f) by omega), if_pos rfl]
  exact seq_err _ fun k => mul_err hf
theorem mln_err {X : List Int} {off h z f : Int} (hf : 0 ≤ f ∧ f ≤ 30) (hl : X.length ≤ 4096) : mlnE X off h z f = 0 ∨ mlnE X off h z f = 2 := by
  unfold mlnE
  split
  · exact mw_err hf
  · exact un_err hf hl
/-- How far the lines ahead are off. -/
def mkE (o : Int) (u : List Int) (f off : Int) (H : List Int) : Int := fstE ((List.range o.toNat).map fun i => mwE off (H.getD i 0) ((mlZ o u).getD i 0) f)
def mkV (o : Int) (u : List Int) (f off : Int) (H : List Int) : List Int := (List.range o.toNat).map fun i => mwV off (H.getD i 0) ((mlZ o u).getD i 0) f
def mkO (o : Int) (u : List Int) (f off : Int) (H : List Int) : List Int := if mkE o u f off H = 0 then mkV o u f off H else []
/-- The errors of what follows, all together. -/
def mtE (o : Int) (u : List Int) (f off : Int) (H X : List Int) : Int :=
  fstE ((List.range o.toNat).map (fun i => unE (behE f) (numS X (mwV off (H.getD i 0) ((mlZ o u).getD i 0) f) f) X.length) ++ [unE (behE f) (numS H off f) H.length])
theorem mo_frac {o : Int} {u : List Int} {s : SmpV} {f : Int} (h : moE o u s f = 0) : (0 ≤ f ∧ f ≤ 30) ∧ s.X.length ≤ 16 ∧ msE o u = 0 ∧ mhE o u s.X f = 0 := by
  obtain ⟨h1, _⟩ := moE_ok.1 h
  obtain ⟨a1, a2, hf, a4, a5, a6, a7⟩ := mlp_parts h1
  exact ⟨hf, a5, a1, (mqE_ok.1 h1).1⟩
/-- Where a line is not told how far it is off, the error is the one that the document tells. -/
theorem mb_back {o : Int} {u : List Int} {f : Int} {s : SmpV} (h : moE o u s f = 0) (hk : mkE o u f (moV o u s f) (mhL o u s.X f) ≠ 0) : mbE o u f s = mkE o u f (moV o u s f) (mhL o u s.X f) := by
  obtain ⟨hf, hX, hm, hh⟩ := mo_frac h
  have hl := mhL_len o u s.X f
  have h8 := (msE_ok.1 hm).1
  have hk2 : mkE o u f (moV o u s f) (mhL o u s.X f) = 2 := by
    rcases fst_same (c := 2) (l := (List.range o.toNat).map fun i => mwE (moV o u s f) ((mhL o u s.X f).getD i 0) ((mlZ o u).getD i 0) f) (fun e he => by
      obtain ⟨i, _, rfl⟩ := List.mem_map.1 he
      exact mw_err hf) with h0 | h0
    · exact absurd h0 hk
    · exact h0
  rw [hk2]
  unfold mbE
  rw [if_neg (by simp [h])]
  rcases fst_same (c := 2) (l := (List.range o.toNat).map (fun i => mlnE s.X (moV o u s f) ((mhL o u s.X f).getD i 0) ((mlZ o u).getD i 0) f) ++ [unE (behE f) (numS (mhL o u s.X f) (moV o u s f) f) (mhL o u s.X f).length]) (fun e he => by
    rcases List.mem_append.1 he with he | he
    · obtain ⟨i, _, rfl⟩ := List.mem_map.1 he
      exact mln_err hf (by omega)
    · simp only [List.mem_singleton] at he
      rw [he]
      exact un_err hf (by rw [hl]; omega)) with h0 | h0
  · exfalso
    refine hk (fstE_ok.2 fun e he => ?_)
    obtain ⟨i, hi, rfl⟩ := List.mem_map.1 he
    have := fstE_ok.1 h0 _ (List.mem_append_left _ (List.mem_map.2 ⟨i, hi, rfl⟩))
    unfold mlnE at this
    by_cases e : mwE (moV o u s f) ((mhL o u s.X f).getD i 0) ((mlZ o u).getD i 0) f = 0
    · exact e
    · rw [if_pos e] at this; exact absurd this e
  · exact h0
theorem mb_tail {o : Int} {u : List Int} {f : Int} {s : SmpV} (h : moE o u s f = 0) (hk : mkE o u f (moV o u s f) (mhL o u s.X f) = 0) : mbE o u f s = mtE o u f (moV o u s f) (mhL o u s.X f) s.X := by
  unfold mbE mtE
  rw [if_neg (by simp [h])]
  congr 2
  refine List.map_congr_left fun i hi => ?_
  have h0 := fstE_ok.1 hk _ (List.mem_map.2 ⟨i, hi, rfl⟩)
  unfold mlnE
  exact if_neg (fun hc => hc h0)
end Go.Proofs.Ytekpejemfkjhcaa
/- Two layers, by the landed code: numbers below 0 bent; a line's numbers for others; what layers see. -/
namespace Go.Proofs.Ytekpejemfkjhcaa
open Go.RowKit
set_option maxHeartbeats 2000000
set_option maxRecDepth 100000
set_option linter.unusedVariables false
/-- What stands there when the first k are bent. -/
def bdF (z : List Int) (k j : Nat) : Int := if j < k then max (z.getD j 0) 0 else 0
theorem bdF_0 (z : List Int) (j : Nat) : bdF z 0 j = 0 := if_neg (by omega)
theorem bdF_on {z : List Int} {k : Nat} {x : Int} (hx : z[k]? = some x) (j : Nat) : bdF z (k + 1) j = if j = k then max x 0 else bdF z k j := by
  unfold bdF
  by_cases e : j = k
  · subst e
    rw [if_pos (by omega), if_pos rfl, List.getD_eq_getElem?_getD, hx]; rfl
  · rw [if_neg e]
    by_cases h : j < k
    · rw [if_pos h, if_pos (by omega)]
    · rw [if_neg h, if_neg (by omega)]
theorem bdF_all {z : List Int} {k j : Nat} (hj : j < k) : bdF z k j = max (z.getD j 0) 0 := if_pos hj
theorem ml_Bend {A : Option Addr} {c : Nat} (z : List Int) (hz : z.length ≤ 9223372036854775807) (w : World) (ra : Rd (Value.int .i64) w w.heap.size A z) :
    Calls Try.prog 20 #[.slice A z.length c] w (OwnInts (bdV z) (bdE z) w) := by
  have CC := hid (fun W => Check_any A z.length c hz W)
  obtain ⟨M, hM⟩ : ∃ M, z.length = M := ⟨_, rfl⟩
  by_cases h1 : 4096 < z.length
  · have e1 : bdE z = 3 := if_pos h1
    have e2 : bdV z = [] := if_neg (by rw [e1]; decide)
    have e3 : oneE z.length = 3 := if_pos h1
    rw [e1, e2]
    rw [e3] at CC
    rw [hM] at CC ⊢
    clear e1 e2 e3 hM hz ra h1
    go_enter Try.func20, Try.ntmps20
    go_wp2_with fail
    refine (CC.out _).mono ?_
    rintro _ _ ⟨rfl, rfl⟩
    go_wp2_with fail
    go_ret2
    exact ⟨none, 0, rfl, own_nil _ _ _, Below.refl _ _⟩
  · have e1 : bdE z = 0 := if_neg h1
    have e2 : bdV z = bdL z := if_pos e1
    have e3 : oneE z.length = 0 := if_neg h1
    rw [e1, e2]
    rw [e3] at CC
    rw [hM] at CC h1 ⊢
    have HM := hid hM
    have RA := hid ra
    have HM4 : Hid (M ≤ 4096) := hid (by omega)
    have hmk := fun W => run_make_row' (P := Try.prog) 22 2 (.int .i64 0) 8 Try.underlying22 info_i64 rfl .i64 .i64 M (by omega) (by omega) W
    have hQ : Hid (bdL z = (List.range M).map fun j => max (z.getD j 0) 0) := hid (by rw [bd_range, hM])
    obtain ⟨Q, hQQ⟩ : ∃ Q, bdL z = Q := ⟨_, rfl⟩
    rw [hQQ] at hQ ⊢
    clear e1 e2 e3 hM hz ra h1 hQQ
    go_enter Try.func20, Try.ntmps20
    go_wp2_with fail
    refine (CC.out _).mono ?_
    rintro _ _ ⟨rfl, rfl⟩
    go_wp2_with fail
    have hMb : M ≤ 9223372036854775807 := by have := HM4.out; omega
    clear CC
    go_loopw [6, 7, 18] (fun _ _ xi wr => ∃ k : Nat, k ≤ M ∧ xi = .int .i64 (k : Int) ∧ wr.rowIs w.heap.size 2 M (fun j => .int .i64 (bdF z k j)) ∧ Below w.heap.size w wr) (fun _ _ xi _ => M - (intOf xi).toNat)
    case atStart => exact ⟨0, Nat.zero_le _, rfl, (World.rowIs_made w (.int .i64 0) M _).congr (fun j hj => by rw [bdF_0]), by go_grown⟩
    case round =>
      obtain ⟨k, hk, rfl, hrow, hbel⟩ := hrel
      have HR := hid hrow
      clear hmk
      by_cases hlt : k < M
      · obtain ⟨b1, o1, x, rfl, l1, en, c1⟩ := (RA.out.on hbel).at_ (k := k) (by rw [HM.out]; exact hlt)
        have HS := hid (bdF_on en)
        have f1 := hrow.frozen k
        have c3 := hrow.cell hlt
        have HB := hid hbel
        have HKM := hid hlt
        obtain ⟨y, hy⟩ : ∃ y, bdF z k k = y := ⟨_, rfl⟩
        simp only [hy] at c3
        obtain ⟨q, hq, hqq⟩ : ∃ q, max x 0 = q ∧ Hid (max x 0 = q) := ⟨_, rfl, hid rfl⟩
        clear en hrow hbel hy
        by_cases hx : ¬ x < 0
        · obtain rfl : q = x := by rw [← hqq.out]; omega
          go_wp2_with fail
          go_roundw
          case rel =>
            refine ⟨k + 1, HKM.out, by go_num, ?_, HB.out.setCell (Nat.le_refl _) _⟩
            refine World.rowIs.congr (HR.out.set k (.int .i64 q)) fun j hj => ?_
            rw [HS.out, hqq.out]
            by_cases e : j = k
            · rw [if_pos e, if_pos e]
            · rw [if_neg e, if_neg e]
          case measure => have := HKM.out; simp [intOf]; omega
        · replace hx : x < 0 := by omega
          obtain rfl : q = 0 := by rw [← hqq.out]; omega
          go_wp2_with fail
          go_roundw
          case rel =>
            refine ⟨k + 1, HKM.out, by go_num, ?_, HB.out.setCell (Nat.le_refl _) _⟩
            refine World.rowIs.congr (HR.out.set k (.int .i64 0)) fun j hj => ?_
            rw [HS.out, hqq.out]
            by_cases e : j = k
            · rw [if_pos e, if_pos e]
            · rw [if_neg e, if_neg e]
          case measure => have := HKM.out; simp [intOf]; omega
      · obtain rfl : k = M := by omega
        have HB := hid hbel
        clear hbel hrow
        go_wp2_with fail
        go_ret2
        have HR2 := HR.out.congr (g := fun j => .int .i64 (max (z.getD j 0) 0)) fun j hj => by rw [bdF_all hj]
        have h := own_made (w' := wr) (B := w.heap.size) HR2 (Nat.le_refl _) (by have := HM4.out; unfold maxLen; omega)
        have hl : Q.length = k := by rw [hQ.out, List.length_map, List.length_range]
        refine ⟨some ⟨w.heap.size, 0, none⟩, k, by rw [hl]; rfl, ?_, HB.out⟩
        rw [hl, hQ.out, List.map_map]
        exact h
theorem mq_own {A : Option Addr} {c : Nat} (xs : List Int) (hx : xs.length ≤ 1099511627776) (m : Int) (w : World) (ra : Rd (Value.int .i64) w w.heap.size A xs) :
    Calls Try.prog 35 #[.agg #[.slice A xs.length c, .int .i64 m]] w (OwnList xs w) := by
  obtain ⟨w2, hw2⟩ : ∃ w2, w.alloc (.cells #[.slice A xs.length c, .int .i64 m] 52) = w2 := ⟨_, rfl⟩
  have hb2 : Below w.heap.size w w2 := by rw [← hw2]; go_grown
  have c0 : w2.cell? ⟨w.heap.size, 0, none⟩ = some (.slice A xs.length c) := by rw [← hw2]; simp [go_sem]
  have c1 : w2.cell? ⟨w.heap.size, 1, none⟩ = some (.int .i64 m) := by rw [← hw2]; simp [go_sem]
  have CC := hid (Clone_any (c := c) xs hx w2 (ra.on hb2))
  obtain ⟨N, hN⟩ : ∃ N, xs.length = N := ⟨_, rfl⟩
  have HN := hid hN
  rw [hN] at CC c0 hw2 ⊢
  have HB2 := hid hb2
  clear hb2 ra hx hN
  go_enter Try.func35, Try.ntmps35
  go_wp2_with fail
  refine CC.out.mono ?_
  rintro _ w4 ⟨A4, c4, rfl, ho4, hb4⟩
  have HO4 := hid ho4
  have K4 : Hid (Below w.heap.size w w4) := hid (HB2.out.trans (hb4.mono HB2.out.size))
  clear ho4 hb4 hw2 c0 c1 CC
  go_wp2_with fail
  go_ret
  exact ⟨A4, c4, rfl, own_base HO4.out HB2.out.size, K4.out⟩
/-- Two layers, cut: the last line's numbers, and the lines ahead. -/
def NetR (w : World) (o : Int) (u : List Int) (Az : Option Addr) (cz : Nat) (Aa : Option Addr) : Prop :=
  Rd (Value.int .i64) w w.heap.size Az (mlZ o u) ∧ (mlZ o u).length ≤ cz ∧ cz ≤ 9223372036854775807 ∧ RdLn w w.heap.size Aa (mlL o u) (msN o u)
theorem NetR.on {w w' : World} {o : Int} {u : List Int} {Az Aa : Option Addr} {cz : Nat} (h : NetR w o u Az cz Aa) (hb : Below w.heap.size w w') : NetR w' o u Az cz Aa :=
  ⟨h.1.on hb, h.2.1, h.2.2.1, h.2.2.2.on hb⟩
theorem mq_sees {Az Aa : Option Addr} {cz ca Z : Nat} (O : Nat) (u : List Int) (h1 : msE (O : Int) u = 0) (w : World) (hn : NetR w (O : Int) u Az cz Aa) :
    Calls Try.prog 40 #[.agg #[.slice Az Z cz, .int .i64 O, .slice Aa O ca]] w fun e w' => e = .returned (.int .i64 (msN (O : Int) u)) ∧ Below w.heap.size w w' := by
  have hO := (msE_ok.1 h1).1
  obtain ⟨w2, hw2⟩ : ∃ w2, w.alloc (.cells #[.slice Az Z cz, .int .i64 O, .slice Aa O ca] 55) = w2 := ⟨_, rfl⟩
  have hb2 : Below w.heap.size w w2 := by rw [← hw2]; go_grown
  have c0 : w2.cell? ⟨w.heap.size, 2, none⟩ = some (.slice Aa O ca) := by rw [← hw2]; simp [go_sem]
  obtain ⟨b, off, r, Ar, cr, rfl, hb, er, q0, q1, _⟩ := (hn.2.2.2.on hb2).at_ (k := 0) (by rw [mlL_len]; omega)
  obtain ⟨m, hm⟩ : ∃ m, msN (O : Int) u = m := ⟨_, rfl⟩
  rw [hm] at q1 ⊢
  rw [Nat.zero_mul, Nat.add_zero] at q0 q1
  have HB2 := hid hb2
  have hO1 : 0 < O := by omega
  clear hb2 hn er hm h1 hO hb
  go_enter Try.func40, Try.ntmps40
  go_wp2_with fail
  go_ret
  exact ⟨rfl, HB2.out⟩
end Go.Proofs.Ytekpejemfkjhcaa
/- Lines, by the document: Dim, Check, Tell. -/
namespace Go.Proofs.Ytekpejemfkjhcaa
open Go.RowKit
set_option maxHeartbeats 2000000
set_option maxRecDepth 100000
set_option linter.unusedVariables false
theorem ref_Dim14 (n : Int) (hn : I64 n) (w : World) :
    Calls Try.prog 67 #[.int .i64 n] w fun e w' => e = .returned (.tuple #[.int .i64 (ldV n), .int .i64 (ldE n)]) ∧ w = w' := by
  by_cases h1 : n < 1
  · have e1 : ldE n = 1 := if_pos (Or.inl h1)
    have e2 : ldV n = 0 := if_neg (by rw [e1]; decide)
    rw [e1, e2]
    clear e1 e2
    go_enter Try.func67, Try.ntmps67
    go_wp2_with fail
    go_ret2
    exact ⟨rfl, rfl⟩
  · by_cases h2 : n > 16
    · have e1 : ldE n = 1 := if_pos (Or.inr h2)
      have e2 : ldV n = 0 := if_neg (by rw [e1]; decide)
      rw [e1, e2]
      clear e1 e2
      go_enter Try.func67, Try.ntmps67
      go_wp2_with fail
      go_ret2
      exact ⟨rfl, rfl⟩
    · have e1 : ldE n = 0 := if_neg (by omega)
      have e2 : ldV n = n + 1 := if_pos e1
      rw [e1, e2]
      have hw : IntKind.i64.wrap (n + 1) = n + 1 := Go.IntWalk.i64_in _ (by omega)
      clear e1 e2
      go_enter Try.func67, Try.ntmps67
      go_wp2_with fail
      go_ret2
      exact ⟨rfl, rfl⟩
theorem ref_Check14 {Aw A : Option Addr} {cw c : Nat} (n : Int) (hn : I64 n) (u : List Int) (hu : u.length ≤ 9223372036854775807) (ls : List SmpV) (hl : ls.length ≤ 9223372036854775807) (hX : ∀ s ∈ ls, s.X.length ≤ 9223372036854775807) (w : World) (ra : RdSm w w.heap.size A ls) :
    Calls Try.prog 48 #[.int .i64 n, .slice Aw u.length cw, .slice A ls.length c] w fun e w' => e = .returned (.int .i64 (lcE n u ls)) ∧ Below w.heap.size w w' := by
  have CD := hid (fun w => ref_Dim14 n hn w)
  obtain ⟨M, hM⟩ : ∃ M, ls.length = M := ⟨_, rfl⟩
  obtain ⟨U, hU⟩ : ∃ U, u.length = U := ⟨_, rfl⟩
  by_cases h1 : ldE n = 0
  · have e2 : ldV n = n + 1 := if_pos h1
    have hr := ldE_ok.1 h1
    rw [h1, e2] at CD
    obtain ⟨N1, hN1⟩ : ∃ N1, n + 1 = N1 := ⟨_, rfl⟩
    by_cases h2 : (u.length : Int) = n + 1
    · have HE : Hid (lcE n u ls = if oddX n ls = true then 4 else if ls.length = 0 ∨ 64 < ls.length then 1 else 0) := hid (by
        unfold lcE; rw [if_neg (by simp [h1]), if_neg (by simp [h2])])
      rw [hU, hN1] at h2
      rw [hN1] at CD
      have t0 : ((U : Int) != N1) = false := by rw [h2]; simp
      rw [hM, hU]
      have HM := hid hM
      have RA := hid ra
      have HX := hid hX
      obtain ⟨E, hE⟩ : ∃ E, lcE n u ls = E := ⟨_, rfl⟩
      rw [hE]
      have HEE := hid hE
      clear h1 e2 hr hN1 hM hU ra hX hE h2
      go_enter Try.func48, Try.ntmps48
      go_wp2_with fail
      refine (CD.out _).mono ?_
      rintro _ _ ⟨rfl, rfl⟩
      go_wp2_with fail
      have hMb : M ≤ 9223372036854775807 := by have := HM.out; omega
      go_loopw [10, 25] (fun _ xi wr => ∃ k : Nat, k ≤ M ∧ xi = .int .i64 (k : Int) ∧ (∀ j s, j < k → ls[j]? = some s → (s.X.length : Int) = n) ∧ Below w.heap.size w wr) (fun _ xi _ => M - (intOf xi).toNat)
      case atStart => exact ⟨0, Nat.zero_le _, rfl, fun j s hj => by omega, Below.refl _ _⟩
      case round =>
        obtain ⟨k, hk, rfl, hall, hbel⟩ := hrel
        have HA := hid hall
        have HB := hid hbel
        clear hall
        by_cases hlt : k < M
        · obtain ⟨b1, o1, s, Ax, cx, rfl, l1, en, c1, d1, rx⟩ := (RA.out.on hbel).at_ (k := k) (by rw [HM.out]; exact hlt)
          have HS := hid en
          clear hbel en rx
          obtain ⟨X, hX⟩ : ∃ X, s.X.length = X := ⟨_, rfl⟩
          have HXX := hid hX
          rw [hX] at c1
          obtain ⟨Y, hY⟩ : ∃ Y, s.Y = Y := ⟨_, rfl⟩
          rw [hY] at d1
          clear hX hY
          by_cases hx : (X : Int) = n
          · have t1 : ((X : Int) != n) = false := by rw [hx]; simp
            have hw : IntKind.i64.wrap ((k : Int) + 1) = ((k + 1 : Nat) : Int) := Go.IntWalk.i64_in _ (by clear hx t1; omega)
            have HXN := hid hx
            clear hx
            go_wp2_with fail
            go_roundw
            case rel =>
              refine ⟨k + 1, hlt, rfl, ?_, HB.out.alloc HB.out.size _⟩
              intro j s' hj hs'
              by_cases e : j = k
              · subst e
                obtain rfl : s = s' := Option.some.inj (HS.out.symm.trans hs')
                rw [HXX.out]; exact HXN.out
              · exact HA.out j s' (by omega) hs'
            case measure => (try clear hw); simp [intOf]; omega
          · have t1 : ((X : Int) != n) = true := by simpa using hx
            have hodd : E = 4 := by
              rw [← HEE.out, HE.out]
              refine if_pos ?_
              unfold oddX
              rw [List.any_eq_true]
              exact ⟨s, List.mem_of_getElem? HS.out, by rw [HXX.out]; simpa using hx⟩
            subst hodd
            clear hx
            go_wp2_with fail
            go_ret
            exact ⟨rfl, HB.out.alloc HB.out.size _⟩
        · obtain rfl : k = M := by omega
          have hno : oddX n ls = false := oddX_no.2 fun s hs => by
            obtain ⟨j, hj, rfl⟩ := List.mem_iff_getElem.1 hs
            exact HA.out j _ (by rw [← HM.out]; exact hj) (List.getElem?_eq_getElem hj)
          have hE2 := HE.out
          rw [hno, if_neg (by decide), HEE.out, HM.out] at hE2
          by_cases h0 : k = 0
          · have m0 : ((k : Int) == 0) = true := by rw [h0]; rfl
            have : E = 1 := by rw [hE2]; exact if_pos (Or.inl h0)
            subst this
            clear hE2 hno h0 hbel
            go_wp2_with fail
            go_ret
            exact ⟨rfl, HB.out⟩
          · have m0 : ((k : Int) == 0) = false := beq_eq_false_iff_ne.2 (by omega)
            by_cases h64 : 64 < k
            · have m1 : (k : Int) > 64 := by omega
              have : E = 1 := by rw [hE2]; exact if_pos (Or.inr h64)
              subst this
              clear hE2 hno h0 hbel h64
              go_wp2_with fail
              go_ret
              exact ⟨rfl, HB.out⟩
            · have m1 : ¬ (k : Int) > 64 := by omega
              have : E = 0 := by rw [hE2]; exact if_neg (by omega)
              subst this
              clear hE2 hno h0 hbel h64
              go_wp2_with fail
              go_ret
              exact ⟨rfl, HB.out⟩
    · have e : lcE n u ls = 4 := by unfold lcE; rw [if_neg (by simp [h1]), if_pos h2]
      rw [e]
      rw [hU, hN1] at h2
      rw [hN1] at CD
      have t0 : ((U : Int) != N1) = true := by simpa using h2
      rw [hM, hU]
      clear h1 e2 hr hN1 hM hU ra hX e h2
      go_enter Try.func48, Try.ntmps48
      go_wp2_with fail
      refine (CD.out _).mono ?_
      rintro _ _ ⟨rfl, rfl⟩
      go_wp2_with fail
      go_ret
      exact ⟨rfl, Below.refl _ _⟩
  · have e : lcE n u ls = ldE n := by unfold lcE; rw [if_pos h1]
    rw [e]
    have e2 : ldV n = 0 := if_neg h1
    obtain ⟨E, hE⟩ : ∃ E, ldE n = E := ⟨_, rfl⟩
    rw [e2] at CD
    rw [hE] at CD h1 ⊢
    have hne : (E != 0) = true := by simpa using h1
    rw [hM, hU]
    clear e e2 hE h1 ra hX hM hU
    go_enter Try.func48, Try.ntmps48
    go_wp2_with fail
    refine (CD.out _).mono ?_
    rintro _ _ ⟨rfl, rfl⟩
    go_wp2_with fail
    go_ret
    exact ⟨rfl, Below.refl _ _⟩
end Go.Proofs.Ytekpejemfkjhcaa
/- Lines: how few samples are played. -/
namespace Go.Proofs.Ytekpejemfkjhcaa
open Go.RowKit
set_option maxHeartbeats 2000000
set_option maxRecDepth 100000
set_option linter.unusedVariables false
def fewL (U : Nat) (ls : List SmpV) : Bool := (ls.all fun s => decide (s.X.length ≤ 100)) && (decide (U ≤ 500) && decide (ls.length ≤ 100))
theorem ref_Few14 {Aw A : Option Addr} {cw c : Nat} (U : Nat) (hU : U ≤ 9223372036854775807) (ls : List SmpV) (hl : ls.length ≤ 9223372036854775807) (w : World) (ra : RdSm w w.heap.size A ls) :
    Calls Try.prog 9 #[.slice Aw U cw, .slice A ls.length c] w fun e w' => e = .returned (.bool (fewL U ls)) ∧ Below w.heap.size w w' := by
  obtain ⟨M, hM⟩ : ∃ M, ls.length = M := ⟨_, rfl⟩
  obtain ⟨R, hR⟩ : ∃ R, fewL U ls = R := ⟨_, rfl⟩
  rw [hR, hM]
  rw [hM] at hl
  have HR := hid hR
  have HM := hid hM
  have RA := hid ra
  clear hR hM ra
  go_enter Try.func9, Try.ntmps9
  go_wp2_with fail
  go_loopw [6, 9] (fun _ xi wr => ∃ k : Nat, k ≤ M ∧ xi = .int .i64 (k : Int) ∧ (∀ j s, j < k → ls[j]? = some s → s.X.length ≤ 100) ∧ Below w.heap.size w wr) (fun _ xi _ => M - (intOf xi).toNat)
  case atStart => exact ⟨0, Nat.zero_le _, rfl, fun j s hj => by omega, Below.refl _ _⟩
  case round =>
    obtain ⟨k, hk, rfl, hall, hbel⟩ := hrel
    have HA := hid hall
    have HB := hid hbel
    clear hall
    by_cases hlt : k < M
    · obtain ⟨b1, o1, s, Ax, cx, rfl, l1, en, c1, d1, rx⟩ := (RA.out.on hbel).at_ (k := k) (by rw [HM.out]; exact hlt)
      have HS := hid en
      clear hbel en rx
      obtain ⟨X, hX⟩ : ∃ X, s.X.length = X := ⟨_, rfl⟩
      have HXX := hid hX
      rw [hX] at c1
      obtain ⟨Y, hY⟩ : ∃ Y, s.Y = Y := ⟨_, rfl⟩
      rw [hY] at d1
      clear hX hY
      by_cases hx : X ≤ 100
      · have t1 : ¬ (X : Int) > 100 := by omega
        have hw : IntKind.i64.wrap ((k : Int) + 1) = ((k + 1 : Nat) : Int) := Go.IntWalk.i64_in _ (by omega)
        go_wp2_with fail
        go_roundw
        case rel =>
          refine ⟨k + 1, hlt, rfl, ?_, HB.out.alloc HB.out.size _⟩
          intro j s' hj hs'
          by_cases e : j = k
          · subst e
            obtain rfl : s = s' := Option.some.inj (HS.out.symm.trans hs')
            rw [HXX.out]; exact hx
          · exact HA.out j s' (by clear hw; omega) hs'
        case measure => (try clear hw); simp [intOf]; omega
      · have t1 : (X : Int) > 100 := by omega
        have : R = false := by
          rw [← HR.out]
          unfold fewL
          have : (ls.all fun s => decide (s.X.length ≤ 100)) = false := by
            rw [List.all_eq_false]
            exact ⟨s, List.mem_of_getElem? HS.out, by rw [HXX.out]; simpa using hx⟩
          rw [this, Bool.false_and]
        subst this
        clear hx
        go_wp2_with fail
        go_ret
        exact ⟨rfl, HB.out.alloc HB.out.size _⟩
    · obtain rfl : k = M := by omega
      have hall : (ls.all fun s => decide (s.X.length ≤ 100)) = true := by
        rw [List.all_eq_true]
        intro s hs
        obtain ⟨j, hj, rfl⟩ := List.mem_iff_getElem.1 hs
        exact decide_eq_true (HA.out j _ (by rw [← HM.out]; exact hj) (List.getElem?_eq_getElem hj))
      have hr2 : R = (decide (U ≤ 500) && decide (k ≤ 100)) := by
        rw [← HR.out]; unfold fewL; rw [hall, HM.out, Bool.true_and]
      clear hall hbel
      by_cases g1 : U ≤ 500
      · have g1' : (U : Int) ≤ 500 := by omega
        by_cases g2 : k ≤ 100
        · have g2' : (k : Int) ≤ 100 := by omega
          rw [decide_eq_true g1, decide_eq_true g2] at hr2
          subst hr2
          go_wp2_with fail
          go_ret
          exact ⟨rfl, HB.out⟩
        · have g2' : ¬ (k : Int) ≤ 100 := by omega
          rw [decide_eq_true g1, decide_eq_false g2] at hr2
          subst hr2
          go_wp2_with fail
          go_ret
          exact ⟨rfl, HB.out⟩
      · have g1' : ¬ (U : Int) ≤ 500 := by omega
        rw [decide_eq_false g1, Bool.false_and] at hr2
        subst hr2
        go_wp2_with fail
        go_ret
        exact ⟨rfl, HB.out⟩
end Go.Proofs.Ytekpejemfkjhcaa
/- Lines hidden and a last one, by the document: Dim, Check. -/
namespace Go.Proofs.Ytekpejemfkjhcaa
open Go.RowKit
set_option maxHeartbeats 2000000
set_option maxRecDepth 100000
set_option linter.unusedVariables false
theorem ref_Dim16 (n o : Int) (hn : I64 n) (ho : I64 o) (w : World) :
    Calls Try.prog 19 #[.int .i64 n, .int .i64 o] w fun e w' => e = .returned (.tuple #[.int .i64 (mdV n o), .int .i64 (mdE n o)]) ∧ w = w' := by
  have hbad : (n < 1 ∨ 16 < n ∨ o < 1 ∨ 8 < o) → mdE n o = 1 ∧ mdV n o = 0 := fun h => by
    have e1 : mdE n o = 1 := if_pos h
    exact ⟨e1, if_neg (by rw [e1]; decide)⟩
  by_cases h0 : n < 1
  · obtain ⟨e1, e2⟩ := hbad (Or.inl h0)
    rw [e1, e2]
    clear e1 e2 hbad
    go_enter Try.func19, Try.ntmps19
    go_wp2_with fail
    go_ret2
    exact ⟨rfl, rfl⟩
  · by_cases h1 : n > 16
    · obtain ⟨e1, e2⟩ := hbad (Or.inr (Or.inl h1))
      rw [e1, e2]
      clear e1 e2 hbad
      go_enter Try.func19, Try.ntmps19
      go_wp2_with fail
      go_ret2
      exact ⟨rfl, rfl⟩
    · by_cases h2 : o < 1
      · obtain ⟨e1, e2⟩ := hbad (Or.inr (Or.inr (Or.inl h2)))
        rw [e1, e2]
        clear e1 e2 hbad
        go_enter Try.func19, Try.ntmps19
        go_wp2_with fail
        go_ret2
        exact ⟨rfl, rfl⟩
      · by_cases h3 : o > 8
        · obtain ⟨e1, e2⟩ := hbad (Or.inr (Or.inr (Or.inr h3)))
          rw [e1, e2]
          clear e1 e2 hbad
          go_enter Try.func19, Try.ntmps19
          go_wp2_with fail
          go_ret2
          exact ⟨rfl, rfl⟩
        · have e1 : mdE n o = 0 := if_neg (by omega)
          have e2 : mdV n o = o * (n + 1) + o + 1 := if_pos e1
          rw [e1, e2]
          obtain ⟨n1, hn1⟩ : ∃ n1, n + 1 = n1 := ⟨_, rfl⟩
          have hw : IntKind.i64.wrap (n + 1) = n1 := by rw [← hn1]; exact Go.IntWalk.i64_in _ (by omega)
          rw [hn1]
          have hp : 0 ≤ o * n1 ∧ o * n1 ≤ 136 := ⟨Int.mul_nonneg (by omega) (by omega), by have := Int.mul_le_mul (show o ≤ 8 by omega) (show n1 ≤ 17 by omega) (by omega) (by omega); omega⟩
          obtain ⟨d, hd⟩ : ∃ d, o * n1 = d := ⟨_, rfl⟩
          rw [hd] at hp
          have hw2 : IntKind.i64.wrap (o * n1) = d := by rw [hd]; exact Go.IntWalk.i64_in _ (by omega)
          rw [hd]
          obtain ⟨e, he⟩ : ∃ e, d + o = e := ⟨_, rfl⟩
          obtain ⟨g, hg⟩ : ∃ g, e + 1 = g := ⟨_, rfl⟩
          have hw3 : IntKind.i64.wrap (d + o) = e := by rw [he]; exact Go.IntWalk.i64_in _ (by omega)
          have hw4 : IntKind.i64.wrap (e + 1) = g := by rw [hg]; exact Go.IntWalk.i64_in _ (by omega)
          rw [he, hg]
          clear e1 e2 hbad hd hn1 hp he hg
          go_enter Try.func19, Try.ntmps19
          go_wp2_with fail
          go_ret2
          exact ⟨rfl, rfl⟩
theorem ref_Check16 {Aw A : Option Addr} {cw c : Nat} (n o : Int) (hn : I64 n) (ho : I64 o) (u : List Int) (hu : u.length ≤ 9223372036854775807) (ls : List SmpV) (hl : ls.length ≤ 9223372036854775807) (hX : ∀ s ∈ ls, s.X.length ≤ 9223372036854775807) (w : World) (ra : RdSm w w.heap.size A ls) :
    Calls Try.prog 25 #[.int .i64 n, .int .i64 o, .slice Aw u.length cw, .slice A ls.length c] w fun e w' => e = .returned (.int .i64 (mcE n o u ls)) ∧ Below w.heap.size w w' := by
  have CD := hid (fun w => ref_Dim16 n o hn ho w)
  obtain ⟨M, hM⟩ : ∃ M, ls.length = M := ⟨_, rfl⟩
  obtain ⟨U, hU⟩ : ∃ U, u.length = U := ⟨_, rfl⟩
  by_cases h1 : mdE n o = 0
  · have e2 : mdV n o = o * (n + 1) + o + 1 := if_pos h1
    have hr := True.intro
    rw [h1, e2] at CD
    obtain ⟨N1, hN1⟩ : ∃ N1, o * (n + 1) + o + 1 = N1 := ⟨_, rfl⟩
    by_cases h2 : (u.length : Int) = o * (n + 1) + o + 1
    · have HE : Hid (mcE n o u ls = if oddX n ls = true then 4 else if ls.length = 0 ∨ 64 < ls.length then 1 else 0) := hid (by
        unfold mcE; rw [if_neg (by simp [h1]), if_neg (by simp [h2])])
      rw [hU, hN1] at h2
      rw [hN1] at CD
      have t0 : ((U : Int) != N1) = false := by rw [h2]; simp
      rw [hM, hU]
      have HM := hid hM
      have RA := hid ra
      have HX := hid hX
      obtain ⟨E, hE⟩ : ∃ E, mcE n o u ls = E := ⟨_, rfl⟩
      rw [hE]
      have HEE := hid hE
      clear h1 e2 hr hN1 hM hU ra hX hE h2
      go_enter Try.func25, Try.ntmps25
      go_wp2_with fail
      refine (CD.out _).mono ?_
      rintro _ _ ⟨rfl, rfl⟩
      go_wp2_with fail
      have hMb : M ≤ 9223372036854775807 := by have := HM.out; omega
      go_loopw [12, 28] (fun _ xi wr => ∃ k : Nat, k ≤ M ∧ xi = .int .i64 (k : Int) ∧ (∀ j s, j < k → ls[j]? = some s → (s.X.length : Int) = n) ∧ Below w.heap.size w wr) (fun _ xi _ => M - (intOf xi).toNat)
      case atStart => exact ⟨0, Nat.zero_le _, rfl, fun j s hj => by omega, Below.refl _ _⟩
      case round =>
        obtain ⟨k, hk, rfl, hall, hbel⟩ := hrel
        have HA := hid hall
        have HB := hid hbel
        clear hall
        by_cases hlt : k < M
        · obtain ⟨b1, o1, s, Ax, cx, rfl, l1, en, c1, d1, rx⟩ := (RA.out.on hbel).at_ (k := k) (by rw [HM.out]; exact hlt)
          have HS := hid en
          clear hbel en rx
          obtain ⟨X, hX⟩ : ∃ X, s.X.length = X := ⟨_, rfl⟩
          have HXX := hid hX
          rw [hX] at c1
          obtain ⟨Y, hY⟩ : ∃ Y, s.Y = Y := ⟨_, rfl⟩
          rw [hY] at d1
          clear hX hY
          by_cases hx : (X : Int) = n
          · have t1 : ((X : Int) != n) = false := by rw [hx]; simp
            have hw : IntKind.i64.wrap ((k : Int) + 1) = ((k + 1 : Nat) : Int) := Go.IntWalk.i64_in _ (by clear hx t1; omega)
            have HXN := hid hx
            clear hx
            go_wp2_with fail
            go_roundw
            case rel =>
              refine ⟨k + 1, hlt, rfl, ?_, HB.out.alloc HB.out.size _⟩
              intro j s' hj hs'
              by_cases e : j = k
              · subst e
                obtain rfl : s = s' := Option.some.inj (HS.out.symm.trans hs')
                rw [HXX.out]; exact HXN.out
              · exact HA.out j s' (by omega) hs'
            case measure => (try clear hw); simp [intOf]; omega
          · have t1 : ((X : Int) != n) = true := by simpa using hx
            have hodd : E = 4 := by
              rw [← HEE.out, HE.out]
              refine if_pos ?_
              unfold oddX
              rw [List.any_eq_true]
              exact ⟨s, List.mem_of_getElem? HS.out, by rw [HXX.out]; simpa using hx⟩
            subst hodd
            clear hx
            go_wp2_with fail
            go_ret
            exact ⟨rfl, HB.out.alloc HB.out.size _⟩
        · obtain rfl : k = M := by omega
          have hno : oddX n ls = false := oddX_no.2 fun s hs => by
            obtain ⟨j, hj, rfl⟩ := List.mem_iff_getElem.1 hs
            exact HA.out j _ (by rw [← HM.out]; exact hj) (List.getElem?_eq_getElem hj)
          have hE2 := HE.out
          rw [hno, if_neg (by decide), HEE.out, HM.out] at hE2
          by_cases h0 : k = 0
          · have m0 : ((k : Int) == 0) = true := by rw [h0]; rfl
            have : E = 1 := by rw [hE2]; exact if_pos (Or.inl h0)
            subst this
            clear hE2 hno h0 hbel
            go_wp2_with fail
            go_ret
            exact ⟨rfl, HB.out⟩
          · have m0 : ((k : Int) == 0) = false := beq_eq_false_iff_ne.2 (by omega)
            by_cases h64 : 64 < k
            · have m1 : (k : Int) > 64 := by omega
              have : E = 1 := by rw [hE2]; exact if_pos (Or.inr h64)
              subst this
              clear hE2 hno h0 hbel h64
              go_wp2_with fail
              go_ret
              exact ⟨rfl, HB.out⟩
            · have m1 : ¬ (k : Int) > 64 := by omega
              have : E = 0 := by rw [hE2]; exact if_neg (by omega)
              subst this
              clear hE2 hno h0 hbel h64
              go_wp2_with fail
              go_ret
              exact ⟨rfl, HB.out⟩
    · have e : mcE n o u ls = 4 := by unfold mcE; rw [if_neg (by simp [h1]), if_pos h2]
      rw [e]
      rw [hU, hN1] at h2
      rw [hN1] at CD
      have t0 : ((U : Int) != N1) = true := by simpa using h2
      rw [hM, hU]
      clear h1 e2 hr hN1 hM hU ra hX e h2
      go_enter Try.func25, Try.ntmps25
      go_wp2_with fail
      refine (CD.out _).mono ?_
      rintro _ _ ⟨rfl, rfl⟩
      go_wp2_with fail
      go_ret
      exact ⟨rfl, Below.refl _ _⟩
  · have e : mcE n o u ls = mdE n o := by unfold mcE; rw [if_pos h1]
    rw [e]
    have e2 : mdV n o = 0 := if_neg h1
    obtain ⟨E, hE⟩ : ∃ E, mdE n o = E := ⟨_, rfl⟩
    rw [e2] at CD
    rw [hE] at CD h1 ⊢
    have hne : (E != 0) = true := by simpa using h1
    rw [hM, hU]
    clear e e2 hE h1 ra hX hM hU
    go_enter Try.func25, Try.ntmps25
    go_wp2_with fail
    refine (CD.out _).mono ?_
    rintro _ _ ⟨rfl, rfl⟩
    go_wp2_with fail
    go_ret
    exact ⟨rfl, Below.refl _ _⟩
end Go.Proofs.Ytekpejemfkjhcaa
/- Lines of classes, by the document: Dim, Check. -/
/- Lines of classes, by the document: the lines. -/
namespace Go.Proofs.Ytekpejemfkjhcaa
open Go.RowKit
set_option maxHeartbeats 2000000
set_option maxRecDepth 100000
set_option linter.unusedVariables false
theorem sf_cut {k n O U : Nat} (hk : k < O) (hO : O ≤ 8) (hn : n ≤ 17) (hU : O * n = U) : ∃ k2 a b : Nat, k + 1 = k2 ∧ k * n = a ∧ b = a + n ∧ b ≤ U ∧ Hid (IntKind.i64.wrap ((k : Int) * (n : Int)) = (a : Int) ∧ IntKind.i64.wrap ((k : Int) + 1) = (k2 : Int) ∧ IntKind.i64.wrap ((k2 : Int) * (n : Int)) = (b : Int)) := by
  have h1 : k * n ≤ 8 * 17 := Nat.mul_le_mul (by omega) hn
  have h2 : (k + 1) * n = k * n + n := Nat.succ_mul k n
  have h3 : (k + 1) * n ≤ O * n := Nat.mul_le_mul_right n hk
  refine ⟨k + 1, k * n, k * n + n, rfl, rfl, rfl, by omega, hid ⟨?_, ?_, ?_⟩⟩
  · rw [show (k : Int) * (n : Int) = ((k * n : Nat) : Int) by simp]; exact Go.IntWalk.i64_in _ (by omega)
  · exact Go.IntWalk.i64_in _ (by omega)
  · rw [show ((k + 1 : Nat) : Int) * (n : Int) = (((k + 1) * n : Nat) : Int) by simp, h2]; exact Go.IntWalk.i64_in _ (by omega)
end Go.Proofs.Ytekpejemfkjhcaa
/- Lines, by the document: what they tell, how far they are off. -/
namespace Go.Proofs.Ytekpejemfkjhcaa
open Go.RowKit
set_option maxHeartbeats 2000000
set_option maxRecDepth 100000
set_option linter.unusedVariables false
theorem smp_one {w : World} {Ax : Option Addr} {x : List Int} {cx : Nat} {Y : Int} (t : TypeId) (rx : Rd (Value.int .i64) w w.heap.size Ax x) :
    RdSm (w.alloc (.cells #[.slice Ax x.length cx, .int .i64 Y] t)) (w.alloc (.cells #[.slice Ax x.length cx, .int .i64 Y] t)).heap.size (some ⟨w.heap.size, 0, none⟩) [⟨x, Y⟩] := fun k s hs => by
  cases k with
  | zero =>
    simp only [List.getElem?_cons_zero, Option.some.injEq] at hs
    subst hs
    refine ⟨w.heap.size, 0, Ax, cx, rfl, by simp, by simp [go_sem], by simp [go_sem], rx.on ((Below.refl _ w).alloc (Nat.le_refl _) _)⟩
  | succ k => simp at hs
theorem ln_mul_i64 (a b m : Int) : I64 (mulV a b m) := by
  unfold mulV
  first | exact ckV_i64 _ | (split <;> first | exact ckV_i64 _ | decide)
theorem ln_dot_i64 (xs ys : List Int) (m : Int) : I64 (dotV xs ys m) := by
  unfold dotV
  split
  · split
    · exact tot_i64 _ (fun k => ln_mul_i64 _ _ _) _
    · decide
  · decide
theorem ln_tot_bad {num : Nat → Int × Int} : ∀ {n : Nat}, (tot num n).2 ≠ 0 → (tot num n).1 = 0
  | 0, h => absurd rfl h
  | n + 1, h => by
    rw [tot] at h ⊢
    by_cases h1 : (tot num n).2 = 0
    · rw [if_pos h1] at h ⊢
      by_cases h2 : (num n).2 = 0
      · rw [if_pos h2] at h ⊢
        rcases ckE_cases ((tot num n).1 + (num n).1) with ⟨a, b, c⟩ | ⟨a, b, c⟩
        · exact absurd a h
        · exact c
      · rw [if_neg h2]
    · rw [if_neg h1] at h ⊢
      exact ln_tot_bad h
theorem ln_dot_zero {xs ys : List Int} {m : Int} (h : dotE xs ys m ≠ 0) : dotV xs ys m = 0 := by
  unfold dotE at h
  unfold dotV
  by_cases h1 : twoE xs.length ys.length = 0
  · rw [if_pos h1] at h ⊢
    by_cases h2 : behE m = 0
    · rw [if_pos h2] at h ⊢
      exact ln_tot_bad h
    · rw [if_neg h2]
  · rw [if_neg h1]
theorem ref_Tell14 {Aw Ax : Option Addr} {cw cx : Nat} (u x : List Int) (hu : u.length ≤ cw) (hcw : cw ≤ 9223372036854775807) (hx : x.length ≤ 9223372036854775807) (iu : I64s u) (ix : I64s x) (f : Int) (w : World)
    (ru : Rd (Value.int .i64) w w.heap.size Aw u) (rx : Rd (Value.int .i64) w w.heap.size Ax x) :
    Calls Try.prog 32 #[.slice Aw u.length cw, .slice Ax x.length cx, .int .i64 f] w fun e w' => e = .returned (.tuple #[.int .i64 (ltV u x f), .int .i64 (ltE u x f)]) ∧ Below w.heap.size w w' := by
  have hu9 : u.length ≤ 9223372036854775807 := Nat.le_trans hu hcw
  obtain ⟨w2, hw2⟩ : ∃ w2, w.alloc (.cells #[.slice Ax x.length cx, .int .i64 0] 24) = w2 := ⟨_, rfl⟩
  have hb2 : Below w.heap.size w w2 := by rw [← hw2]; go_grown
  have hs2 : w2.heap.size = w.heap.size + 1 := by rw [← hw2]; simp
  have r2 : RdSm w2 w2.heap.size (some ⟨w.heap.size, 0, none⟩) [⟨x, 0⟩] := by rw [← hw2]; exact smp_one 24 rx
  have CC := hid (ref_Check14 (Aw := Aw) (A := some ⟨w.heap.size, 0, none⟩) (cw := cw) (c := 1) (x.length : Int) (by unfold I64; omega) u hu9 [⟨x, 0⟩] (by simp) (by simpa using hx) w2 r2)
  obtain ⟨U, hU⟩ : ∃ U, u.length = U := ⟨_, rfl⟩
  obtain ⟨N, hN⟩ : ∃ N, x.length = N := ⟨_, rfl⟩
  have HRU := hid (ru.on hb2)
  have HRX := hid (rx.on hb2)
  have HB2 := hid hb2
  by_cases h1 : lcE (x.length : Int) u [⟨x, 0⟩] = 0
  · obtain ⟨⟨n1, n2⟩, hun, _, _, _⟩ := lcE_ok.1 h1
    rw [h1] at CC
    have hlast : ∃ y, u[x.length]? = some y ∧ u.getD x.length 0 = y := ⟨u[x.length]'(by omega), List.getElem?_eq_getElem (by omega), by rw [List.getD_eq_getElem?_getD, List.getElem?_eq_getElem (by omega)]; rfl⟩
    obtain ⟨y, hy, hyD⟩ := hlast
    have iy : I64 y := iu.at_ hy
    have hsl := fun W => run_upto (P := Try.prog) 22 Try.underlying22 Try.sizeOf2 Aw u.length cw x.length (by omega) W
    obtain ⟨A3, hA3⟩ : ∃ A3, cutA Aw 0 cw = A3 := ⟨_, rfl⟩
    rw [hA3] at hsl
    have htl : (u.take x.length).length = x.length := by rw [List.length_take]; omega
    have CD := hid (fun W (h1 : Rd (Value.int .i64) W W.heap.size A3 (u.take x.length)) (h2 : Rd (Value.int .i64) W W.heap.size Ax x) => rDot_any (c := cw) (d := cx) (u.take x.length) x (by rw [htl]; exact hx) hx (fun v hv => iu v (List.mem_of_mem_take hv)) ix f W h1 h2)
    rw [htl] at CD
    have HC := hid (fun W (h : Rd (Value.int .i64) W W.heap.size Aw u) => (by have := h.cut0 (c := cw) hu x.length; rw [hA3] at this; exact this : Rd (Value.int .i64) W W.heap.size A3 (u.take x.length)))
    by_cases h2 : dotE (u.take x.length) x f = 0
    · have eE : ltE u x f = ckE (dotV (u.take x.length) x f + y) := by unfold ltE; rw [if_neg (by simp [h1]), if_neg (by simp [h2]), hyD]
      have eV : ltV u x f = ckV (dotV (u.take x.length) x f + y) := by
        unfold ltV
        rw [eE, hyD]
        rcases ckE_cases (dotV (u.take x.length) x f + y) with ⟨a, b, c⟩ | ⟨a, b, c⟩
        · rw [if_pos a, c]
        · rw [if_neg (by rw [a]; decide), c]
      rw [eE, eV]
      rw [h2] at CD
      have iD : I64 (dotV (u.take x.length) x f) := ln_dot_i64 _ _ _
      obtain ⟨D, hD⟩ : ∃ D, dotV (u.take x.length) x f = D := ⟨_, rfl⟩
      rw [hD] at CD iD ⊢
      have CA := hid (fun W => ref_Add D y iD iy W)
      have HY := hid hy
      have HUN : Hid (x.length < u.length) := hid (by omega)
      have HUL : Hid (N < u.length) := hid (by omega)
      rw [hN] at CC CD HC hsl HY HUN hw2 ⊢
      rw [hU] at CC hsl HUN ⊢
      have hNU : (N : Int) < (U : Int) := by have := HUN.out; omega
      clear h1 n1 n2 hun hyD hA3 htl h2 eE eV hD iD iy hy hU hN hu hcw hu9 hx iu ix ru rx r2 hb2
      clear hs2
      go_enter Try.func32, Try.ntmps32
      go_wp2_with fail
      refine CC.out.mono ?_
      rintro _ w3 ⟨rfl, hb3⟩
      have K3 : Hid (Below w.heap.size w w3) := hid (HB2.out.trans (hb3.mono HB2.out.size))
      have RU3 := hid (HRU.out.on hb3)
      have RX3 := hid (HRX.out.on hb3)
      clear hb3 hw2
      go_wp2_with fail
      refine (CD.out _ (HC.out _ RU3.out) RX3.out).mono ?_
      rintro _ w4 ⟨rfl, hb4⟩
      have K4 : Hid (Below w.heap.size w w4) := hid (K3.out.trans (hb4.mono K3.out.size))
      obtain ⟨b1, o1, y', rfl, l1, en, c1⟩ := (RU3.out.on hb4).at_ (k := N) HUL.out
      obtain rfl : y = y' := Option.some.inj (HY.out.symm.trans en)
      clear hb4 en
      go_wp2_with fail
      refine (CA.out _).mono ?_
      rintro _ _ ⟨rfl, rfl⟩
      go_wp2_with fail
      go_ret2
      exact ⟨rfl, K4.out⟩
    · have eE : ltE u x f = dotE (u.take x.length) x f := by unfold ltE; rw [if_neg (by simp [h1]), if_pos h2]
      have eV : ltV u x f = 0 := if_neg (by rw [eE]; exact h2)
      rw [eE, eV]
      obtain ⟨E, hE⟩ : ∃ E, dotE (u.take x.length) x f = E := ⟨_, rfl⟩
      have hD0 : dotV (u.take x.length) x f = 0 := ln_dot_zero h2
      rw [hE] at CD h2 ⊢
      rw [hD0] at CD
      have hne : (E != 0) = true := by simpa using h2
      rw [hN] at CC CD HC hsl hw2 ⊢
      rw [hU] at CC hsl ⊢
      clear h1 n1 n2 hun hyD hA3 htl h2 eE eV hE hD0 iy hy hU hN hu hcw hu9 hx iu ix ru rx r2 hb2 hs2
      go_enter Try.func32, Try.ntmps32
      go_wp2_with fail
      refine CC.out.mono ?_
      rintro _ w3 ⟨rfl, hb3⟩
      have K3 : Hid (Below w.heap.size w w3) := hid (HB2.out.trans (hb3.mono HB2.out.size))
      have RU3 := hid (HRU.out.on hb3)
      have RX3 := hid (HRX.out.on hb3)
      clear hb3 hw2
      go_wp2_with fail
      refine (CD.out _ (HC.out _ RU3.out) RX3.out).mono ?_
      rintro _ w4 ⟨rfl, hb4⟩
      have K4 : Hid (Below w.heap.size w w4) := hid (K3.out.trans (hb4.mono K3.out.size))
      clear hb4
      go_wp2_with fail
      go_ret2
      exact ⟨rfl, K4.out⟩
  · have eE : ltE u x f = lcE (x.length : Int) u [⟨x, 0⟩] := by unfold ltE; rw [if_pos h1]
    have eV : ltV u x f = 0 := if_neg (by rw [eE]; exact h1)
    rw [eE, eV]
    obtain ⟨E, hE⟩ : ∃ E, lcE (x.length : Int) u [⟨x, 0⟩] = E := ⟨_, rfl⟩
    rw [hE] at CC h1 ⊢
    have hne : (E != 0) = true := by simpa using h1
    rw [hN] at CC hw2 ⊢
    rw [hU] at CC ⊢
    clear eE eV hE h1 ru rx iu ix hU hN hu hcw hu9 hx r2 hb2
    go_enter Try.func32, Try.ntmps32
    go_wp2_with fail
    refine CC.out.mono ?_
    rintro _ w3 ⟨rfl, hb3⟩
    have K3 : Hid (Below w.heap.size w w3) := hid (HB2.out.trans (hb3.mono HB2.out.size))
    clear hb3
    go_wp2_with fail
    go_ret2
    exact ⟨rfl, K3.out⟩
end Go.Proofs.Ytekpejemfkjhcaa
/- Lines of classes, by the document: what they tell. -/
namespace Go.Proofs.Ytekpejemfkjhcaa
open Go.RowKit
set_option maxHeartbeats 2000000
set_option maxRecDepth 100000
set_option linter.unusedVariables false
theorem fstE_at {α : Type} {g : α → Int} {ls : List α} {k : Nat} {s : α} (h : ∀ x ∈ ls.take k, g x = 0) (hs : ls[k]? = some s) (hn : g s ≠ 0) : fstE (ls.map g) = g s := by
  induction ls generalizing k with
  | nil => simp at hs
  | cons a r ih =>
    rw [List.map_cons, fstE]
    cases k with
    | zero =>
      simp at hs
      subst hs
      rw [if_pos hn]
    | succ k =>
      rw [if_neg (by rw [h a (by simp)]; decide)]
      exact ih (k := k) (fun x hx => h x (by simp [hx])) (by simpa using hs)
theorem take_all {α : Type} {l : List α} {k : Nat} {s : α} {P : α → Prop} (h : ∀ x ∈ l.take k, P x) (hs : l[k]? = some s) (hp : P s) : ∀ x ∈ l.take (k + 1), P x := by
  rw [List.take_add_one, hs]
  intro x hx
  rcases List.mem_append.1 hx with hx | hx
  · exact h x hx
  · simp at hx; subst hx; exact hp
end Go.Proofs.Ytekpejemfkjhcaa
/- Lines hidden and a last one, by the document: what is below 0 is nothing. -/
namespace Go.Proofs.Ytekpejemfkjhcaa
open Go.RowKit
set_option maxHeartbeats 2000000
set_option maxRecDepth 100000
set_option linter.unusedVariables false
theorem ref_Bend16 {A : Option Addr} {c : Nat} (z : List Int) (hz : z.length ≤ 9223372036854775807) (w : World) (ra : Rd (Value.int .i64) w w.heap.size A z) :
    Calls Try.prog 21 #[.slice A z.length c] w (OwnInts (bdV z) (bdE z) w) := by
  obtain ⟨M, hM⟩ : ∃ M, z.length = M := ⟨_, rfl⟩
  by_cases h1 : 4096 < z.length
  · have e1 : bdE z = 3 := if_pos h1
    have e2 : bdV z = [] := if_neg (by rw [e1]; decide)
    rw [e1, e2]
    rw [hM] at h1 ⊢
    have t0 : (M : Int) > 4096 := by omega
    clear e1 e2 hM hz ra h1
    go_enter Try.func21, Try.ntmps21
    go_wp2_with fail
    go_ret2
    exact ⟨none, 0, rfl, own_nil _ _ _, Below.refl _ _⟩
  · have e1 : bdE z = 0 := if_neg h1
    have e2 : bdV z = bdL z := if_pos e1
    rw [e1, e2]
    obtain ⟨Q, hQ⟩ : ∃ Q, bdL z = Q := ⟨_, rfl⟩
    rw [hQ]
    have HQ : Hid (Q = z.map fun x => max x 0) := hid hQ.symm
    rw [hM] at h1 ⊢
    have t0 : ¬ (M : Int) > 4096 := by omega
    have HM := hid hM
    have RA := hid ra
    have HM4 : Hid (M ≤ 4096) := hid (by omega)
    clear e1 e2 hM hz ra h1 hQ
    go_enter Try.func21, Try.ntmps21
    go_wp2_with fail
    have hMb : M ≤ 9223372036854775807 := by have := HM4.out; omega
    clear t0
    go_loopw [4, 6, 12] (fun xo _ xi wr => ∃ (k : Nat) (T : List Int) (A2 : Option Addr) (c2 : Nat), k ≤ M ∧ xi = .int .i64 (k : Int) ∧ xo = .slice A2 T.length c2 ∧ T = Q.take k ∧ wr.ownsRow w.heap.size 2 1 (.slice A2 T.length c2) T.length (T.map (Value.int .i64)) ∧ Below w.heap.size w wr) (fun _ _ xi _ => M - (intOf xi).toNat)
    case atStart => exact ⟨0, [], none, 0, Nat.zero_le _, rfl, rfl, rfl, own_nil _ _ _, Below.refl _ _⟩
    case round =>
      obtain ⟨k, T, A2, c2, hk, rfl, rfl, hT, ho, hbel⟩ := hrel
      have HT := hid hT
      have HO := hid ho
      have HB := hid hbel
      have hTl : Hid (T.length ≤ 4096) := hid (by rw [hT, List.length_take]; have := HM4.out; omega)
      clear hT ho
      by_cases hlt : k < M
      · obtain ⟨b1, o1, x, rfl, l1, en, c1⟩ := (RA.out.on hbel).at_ (k := k) (by rw [HM.out]; exact hlt)
        have hnx : Hid (Q.take (k + 1) = Q.take k ++ [max x 0]) := hid (by rw [List.take_add_one, HQ.out, List.getElem?_map, en]; rfl)
        obtain ⟨q, hq, hqq⟩ : ∃ q, max x 0 = q ∧ Hid (max x 0 = q) := ⟨_, rfl, hid rfl⟩
        rw [hq] at hnx
        have hr0 : Rd (Value.int .i64) (wr.alloc (.cells #[.int .i64 q] 2)) _ (some ⟨wr.heap.size, 0, none⟩) [q] := rd_one (one_cell wr (.int .i64 q) 2).1
        have h0' := own_on HO.out ((Below.refl wr.heap.size wr).alloc (Nat.le_refl _) (.cells #[.int .i64 q] 2))
        have hz := HB.out.size
        have HKM := hid hlt
        clear en hbel
        by_cases hx : ¬ x < 0
        · obtain rfl : q = x := by rw [← hqq.out]; omega
          clear hqq
          go_wp2_with (at_builtin; refine wpList_app (Value.int .i64) (fun _ => rfl) _ rfl _ _ 22 rfl w.heap.size 2 (.int .i64 0) 8 Try.underlying22 info_i64 rfl T _ _ rfl h0' [q] _ 1 _ rfl hr0 (by have := hTl.out; simp [maxLen]; omega) (by have := hTl.out; simp; omega) (by simp; omega) ?_)
          rintro S' A' c' w5 hS' ho' hb5 _
          have HS' := hid hS'
          have HO' := hid ho'
          have HK5 : Hid (Below w.heap.size w w5) := hid ((HB.out.alloc HB.out.size _).trans hb5)
          clear hS' ho' h0' hr0 hb5
          go_wp2_with fail
          go_roundw
          case rel => exact ⟨k + 1, S', A', c', HKM.out, by go_num, rfl, by rw [HS'.out, hnx.out, HT.out], HO'.out, HK5.out⟩
          case measure => have := HKM.out; simp [intOf]; omega
        · replace hx : x < 0 := by omega
          obtain rfl : q = 0 := by rw [← hqq.out]; omega
          clear hqq
          go_wp2_with (at_builtin; refine wpList_app (Value.int .i64) (fun _ => rfl) _ rfl _ _ 22 rfl w.heap.size 2 (.int .i64 0) 8 Try.underlying22 info_i64 rfl T _ _ rfl h0' [0] _ 1 _ rfl hr0 (by have := hTl.out; simp [maxLen]; omega) (by have := hTl.out; simp; omega) (by simp; omega) ?_)
          rintro S' A' c' w5 hS' ho' hb5 _
          have HS' := hid hS'
          have HO' := hid ho'
          have HK5 : Hid (Below w.heap.size w w5) := hid ((HB.out.alloc HB.out.size _).trans hb5)
          clear hS' ho' h0' hr0 hb5
          go_wp2_with fail
          go_roundw
          case rel => exact ⟨k + 1, S', A', c', HKM.out, by go_num, rfl, by rw [HS'.out, hnx.out, HT.out], HO'.out, HK5.out⟩
          case measure => have := HKM.out; simp [intOf]; omega
      · obtain rfl : k = M := by omega
        have hTQ : T = Q := by rw [HT.out]; exact List.take_of_length_le (by rw [HQ.out, List.length_map, HM.out]; exact Nat.le_refl _)
        subst hTQ
        clear hbel
        go_wp2_with fail
        go_ret2
        exact ⟨A2, c2, rfl, HO.out, HB.out⟩
end Go.Proofs.Ytekpejemfkjhcaa
/- Lines hidden and a last one, by the document: which lines they are. -/
namespace Go.Proofs.Ytekpejemfkjhcaa
open Go.RowKit
set_option maxHeartbeats 2000000
set_option maxRecDepth 100000
set_option linter.unusedVariables false
/-- The lines hidden, and the last one, or none. -/
def mlO (h : Int) (u : List Int) : List (List Int) := if msE h u = 0 then mlL h u else []
def mzO (h : Int) (u : List Int) : List Int := if msE h u = 0 then mlZ h u else []
/-- A list of rows of the call's own, a list of its own, and an error. -/
def OwnRwZ (rows : List (List Int)) (z : List Int) (er : Int) (w : World) (e : Ending) (w' : World) : Prop :=
  ∃ A c B d, e = .returned (.tuple #[.slice A rows.length c, .slice B z.length d, .int .i64 er]) ∧ OwnRw w' w.heap.size A c rows ∧ (z.length ≤ d ∧ d ≤ 9223372036854775807) ∧ RdX w' w.heap.size (A.map (·.block)) B z ∧ Below w.heap.size w w'
theorem ms_dim {h : Int} {i : Nat} (h1 : 1 ≤ h) (h8 : h ≤ 8) (i1 : 1 ≤ i) (i16 : i ≤ 16) : mdE (i : Int) h = 0 ∧ mdV (i : Int) h = ((h.toNat * (i + 1) + h.toNat + 1 : Nat) : Int) := by
  have e1 : mdE (i : Int) h = 0 := if_neg (by omega)
  refine ⟨e1, ?_⟩
  unfold mdV
  rw [if_pos e1]
  push_cast
  rw [show ((h.toNat : Nat) : Int) = h by omega]
theorem ms_none {h : Int} {u : List Int} (h1 : 1 ≤ h) (h8 : h ≤ 8) (hn : ∀ i : Nat, 1 ≤ i → i ≤ 16 → h.toNat * (i + 1) + h.toNat + 1 ≠ u.length) : msE h u = 4 := by
  unfold msE
  rw [if_neg (by omega), if_neg]
  rintro ⟨a, b, c⟩
  exact hn _ a b c
theorem ms_some {h : Int} {u : List Int} {i : Nat} (h1 : 1 ≤ h) (h8 : h ≤ 8) (i1 : 1 ≤ i) (i16 : i ≤ 16) (e : h.toNat * (i + 1) + h.toNat + 1 = u.length) : msE h u = 0 ∧ msN h u = i := by
  have e2 := msN_is (hid := h) (w := u) h1 e
  exact ⟨msE_ok.2 ⟨⟨h1, h8⟩, by rw [e2]; exact ⟨i1, i16⟩, by rw [e2]; exact e⟩, e2⟩
theorem ms_cut {k n O U : Nat} (hk : k < O) (hO : O ≤ 8) (hn : n ≤ 17) (hU : O * n ≤ U) : ∃ k2 a b : Nat, k + 1 = k2 ∧ k * n = a ∧ b = a + n ∧ b ≤ U ∧ Hid (IntKind.i64.wrap ((k : Int) * (n : Int)) = (a : Int) ∧ IntKind.i64.wrap ((k : Int) + 1) = (k2 : Int) ∧ IntKind.i64.wrap ((k2 : Int) * (n : Int)) = (b : Int)) := by
  obtain ⟨k2, a, b, e1, e2, e3, e4, e5⟩ := sf_cut (U := O * n) hk hO hn rfl
  exact ⟨k2, a, b, e1, e2, e3, Nat.le_trans e4 hU, e5⟩
theorem ms_last {n O : Nat} (hO : O ≤ 8) (hn : n ≤ 17) : ∃ a : Nat, O * n = a ∧ IntKind.i64.wrap ((O : Int) * (n : Int)) = (a : Int) := by
  have h1 : O * n ≤ 8 * 17 := Nat.mul_le_mul hO hn
  refine ⟨O * n, rfl, ?_⟩
  rw [show (O : Int) * (n : Int) = ((O * n : Nat) : Int) by simp]
  exact Go.IntWalk.i64_in _ (by omega)
theorem ms_next {i : Nat} (h : i ≤ 16) : ∃ n : Nat, i + 1 = n ∧ n ≤ 17 ∧ IntKind.i64.wrap ((i : Int) + 1) = (n : Int) := ⟨i + 1, rfl, by omega, Go.IntWalk.i64_in _ (by omega)⟩
theorem ref_Split16 {Au : Option Addr} {cu : Nat} (h : Int) (ih : I64 h) (u : List Int) (hu : u.length ≤ cu) (hcu : cu ≤ 9223372036854775807) (w : World) (ru : Rd (Value.int .i64) w w.heap.size Au u) :
    Calls Try.prog 17 #[.int .i64 h, .slice Au u.length cu] w (OwnRwZ (mlO h u) (mzO h u) (msE h u) w) := by
  obtain ⟨U, hU⟩ : ∃ U, u.length = U := ⟨_, rfl⟩
  have hbad1 : (h < 1 ∨ 8 < h) → msE h u = 1 ∧ mlO h u = [] ∧ mzO h u = [] := fun g => by
    have e1 : msE h u = 1 := if_pos g
    exact ⟨e1, if_neg (by rw [e1]; decide), if_neg (by rw [e1]; decide)⟩
  by_cases h1 : h < 1
  · obtain ⟨e1, e2, e3⟩ := hbad1 (Or.inl h1)
    rw [e1, e2, e3, hU]
    clear e1 e2 e3 hbad1 ru hU
    go_enter Try.func17, Try.ntmps17
    go_wp2_with fail
    go_ret3
    exact ⟨none, 0, none, 0, rfl, OwnRw.nil _ _, ⟨by simp, by decide⟩, RdX.none_, Below.refl _ _⟩
  · by_cases h2 : h > 8
    · obtain ⟨e1, e2, e3⟩ := hbad1 (Or.inr h2)
      rw [e1, e2, e3, hU]
      clear e1 e2 e3 hbad1 ru hU
      go_enter Try.func17, Try.ntmps17
      go_wp2_with fail
      go_ret3
      exact ⟨none, 0, none, 0, rfl, OwnRw.nil _ _, ⟨by simp, by decide⟩, RdX.none_, Below.refl _ _⟩
    · obtain ⟨O, rfl⟩ : ∃ O : Nat, h = (O : Int) := ⟨h.toNat, by omega⟩
      have hO1 : 1 ≤ O := by omega
      have hO8 : O ≤ 8 := by omega
      have HO1 := hid hO1
      have HO8 := hid hO8
      have CD := hid (fun (i : Nat) (i1 : 1 ≤ i) (i16 : i ≤ 16) W => ref_Dim16 (i : Int) (O : Int) (by unfold I64; omega) ih W)
      have HDM := hid (fun (i : Nat) (i1 : 1 ≤ i) (i16 : i ≤ 16) => ms_dim (h := (O : Int)) (i := i) (by omega) (by omega) i1 i16)
      have HNO := hid (fun hn => ms_none (h := (O : Int)) (u := u) (by omega) (by omega) hn)
      have HSO := hid (fun (i : Nat) i1 i16 e => ms_some (h := (O : Int)) (u := u) (i := i) (by omega) (by omega) i1 i16 e)
      have eO : mlO (O : Int) u = if msE (O : Int) u = 0 then (List.range O).map (rwR (msN (O : Int) u + 1) u) else [] := rfl
      have eZ : mzO (O : Int) u = if msE (O : Int) u = 0 then u.drop (O * (msN (O : Int) u + 1)) else [] := rfl
      obtain ⟨rO, hrO⟩ : ∃ r, mlO (O : Int) u = r := ⟨_, rfl⟩
      obtain ⟨rZ, hrZ⟩ : ∃ r, mzO (O : Int) u = r := ⟨_, rfl⟩
      obtain ⟨rE, hrE⟩ : ∃ r, msE (O : Int) u = r := ⟨_, rfl⟩
      rw [hrO, hrE] at eO
      rw [hrZ, hrE] at eZ
      rw [hrE] at HNO HSO
      rw [hrO, hrZ, hrE]
      have HEO := hid eO
      have HEZ := hid eZ
      rw [hU] at HNO HSO ⊢
      have HU := hid hU
      have RU := hid ru
      have HCU := hid hu
      have hlt1 : ¬ (O : Int) < 1 := h1
      have hlt2 : ¬ (O : Int) > 8 := h2
      have HTN : Hid ((O : Int).toNat = O) := hid rfl
      clear hbad1 ru hU h1 h2 hu hrO hrZ hrE eO eZ
      go_enter Try.func17, Try.ntmps17
      go_wp2_with fail
      clear hlt1 hlt2
      go_loopw [7, 8, 9, 10, 11, 33] (fun xi _ _ _ _ _ wr => ∃ i : Nat, 1 ≤ i ∧ i ≤ 17 ∧ xi = .int .i64 (i : Int) ∧ (∀ j : Nat, 1 ≤ j → j < i → O * (j + 1) + O + 1 ≠ U) ∧ wr = w) (fun xi _ _ _ _ _ _ => 17 - (intOf xi).toNat)
      case atStart => exact ⟨1, by decide, by decide, rfl, fun j h1 h2 => by omega, rfl⟩
      case round =>
        obtain ⟨i, i1, i17, rfl, hno, hwr⟩ := hrel
        have hwr2 := hwr.symm
        subst hwr2
        clear hwr
        have HNN := hid hno
        clear hno
        by_cases i16 : i ≤ 16
        · have t0 : (i : Int) ≤ 16 := by omega
          have CD2 := hid (CD.out i i1 i16 w)
          obtain ⟨dm1, dm2⟩ := HDM.out i i1 i16
          rw [dm1, dm2, HTN.out] at CD2
          obtain ⟨d, hd⟩ : ∃ d, O * (i + 1) + O + 1 = d := ⟨_, rfl⟩
          rw [hd] at CD2
          obtain ⟨n, hn, hn17, hwn⟩ := ms_next i16
          have HN := hid hn
          have HN17 := hid hn17
          clear dm1 dm2
          by_cases hdU : d = U
          · subst hdU
            obtain ⟨rfl, hmn⟩ := HSO.out i i1 i16 (by rw [HTN.out]; exact hd)
            have hro := HEO.out
            have hrz := HEZ.out
            rw [if_pos rfl, hmn, hn] at hro hrz
            subst hro
            subst hrz
            have hOn : O * n ≤ d := by rw [← hn]; omega
            have HON := hid hOn
            have HDD : Hid (d = O * n + O + 1) := hid (by rw [← hn, ← hd])
            have t1 : ((d : Int) != (d : Int)) = false := by simp
            clear hn hn17 hd hmn hOn HEO HEZ HNO HSO HNN HDM CD
            go_wp2_with fail
            refine CD2.out.mono ?_
            rintro _ _ ⟨rfl, rfl⟩
            go_wp2_with fail
            go_loopw [10, 11, 33] (fun xl _ xi wr => ∃ (k : Nat) (A2 : Option Addr) (c2 : Nat), k ≤ O ∧ xi = .int .i64 (k : Int) ∧ xl = .slice A2 k c2 ∧ OwnRw wr w.heap.size A2 c2 ((List.range k).map (rwR n u)) ∧ Below w.heap.size w wr) (fun _ _ xi _ => O - (intOf xi).toNat)
            case atStart => exact ⟨0, none, 0, Nat.zero_le _, rfl, rfl, OwnRw.nil _ _, Below.refl _ _⟩
            case round =>
              obtain ⟨k, A2, c2, hk, rfl, rfl, ho, hbel⟩ := hrel
              have HO := hid ho
              have HB := hid hbel
              clear ho
              by_cases hlt : k < O
              · obtain ⟨k2, a, b, hk2, ha, hb, hbU, hws⟩ := ms_cut hlt HO8.out HN17.out HON.out
                obtain ⟨w1, w2, w3⟩ := hws.out
                have hsl := fun W => run_part (P := Try.prog) 22 Try.underlying22 Try.sizeOf2 Au d cu a b (by omega) (by have := HCU.out; rw [HU.out] at this; omega) W
                have hba : b - a = n := by omega
                rw [hba] at hsl
                obtain ⟨A3, hA3⟩ : ∃ A3, cutA Au a cu = A3 := ⟨_, rfl⟩
                rw [hA3] at hsl
                have hrr : rwR n u k = (u.drop a).take n := by unfold rwR; rw [ha]
                have hrl : (rwR n u k).length = n := by rw [hrr, List.length_take, List.length_drop, HU.out]; omega
                have RW : Hid (Rd (Value.int .i64) wr wr.heap.size A3 (rwR n u k)) := hid (by
                  have := ((RU.out.on hbel).cut a (c := cu) HCU.out).some_cut n
                  rw [hA3] at this
                  rw [hrr]; exact this)
                obtain ⟨R, hR⟩ : ∃ R, rwR n u k = R := ⟨_, rfl⟩
                rw [hR] at RW hrl
                have HRL := hid hrl
                have HRR := hid hR
                have RW2 := RW.out
                have HK2 := hid hk2
                have hz := HB.out.size
                have hba2 : ¬ (b : Int) < (a : Int) := by omega
                clear hk2 ha hb hA3 hrr hrl hR hba hbel hws
                go_wp2_with (at_builtin; refine wpList_app5 (Value.int .i64) (fun _ => rfl) _ rfl _ _ 22 rfl wr.heap.size 2 (.int .i64 0) 8 Try.underlying22 info_i64 rfl [] none 0 rfl (own_nil _ _ _) R A3 (cu - a) _ (by rw [HRL.out]; rfl) RW2 (by have := HRL.out; have := HN17.out; simp [maxLen]; omega) (by have := HRL.out; have := HN17.out; simp; omega) (Nat.le_refl _) ?_)
                rintro Q A6 c6 w6 hQ ho6 hb6 hg6 hq6
                replace hQ : Q = R := by simpa using hQ
                subst hQ
                have HO6 := hid (HO.out.on hb6)
                have K6 : Hid (Below w.heap.size w w6) := hid (HB.out.trans (hb6.mono hz))
                have HRX := hid (rdx_own (base := w.heap.size) ho6 hz (fun g hg => (HO.out.lies g hg).2))
                have g7 : Below w6.heap.size w6 (w6.alloc (.cells #[.slice A6 Q.length c6] 22)) := (Below.refl _ _).alloc (Nat.le_refl _) _
                have HRX7 := hid (HRX.out.on g7)
                have HC6 := hid (own_cap ho6)
                have r7 : Rd encS (w6.alloc (.cells #[.slice A6 Q.length c6] 22)) _ (some ⟨w6.heap.size, 0, none⟩) [(A6, Q.length, c6)] := rd_one (enc := encS) (one_cell w6 (.slice A6 Q.length c6) 22).1
                obtain ⟨ps, hpl, hop, hpr⟩ := HO6.out.on g7
                have HPR := hid hpr
                have HPL := hid hpl
                have HPK : Hid (ps.length = k) := hid (by rw [hpl, List.length_map, List.length_range])
                have K7 : Hid (Below w.heap.size w (w6.alloc (.cells #[.slice A6 Q.length c6] 22))) := hid (K6.out.trans (g7.mono K6.out.size))
                have hz7 := K7.out.size
                clear ho6 hb6 hg6 hq6 g7 hpr hpl HO6 HRX
                go_wp2_with (at_builtin; refine wpList_app5 encS (fun _ => rfl) _ rfl _ _ 33 rfl w.heap.size 22 (.slice none 0 0) 24 Try.underlying33 info_row rfl ps A2 c2 (by rw [HPK.out]; rfl) hop [(A6, Q.length, c6)] (some ⟨w6.heap.size, 0, none⟩) 1 _ rfl r7 (by have := HPK.out; have := HO8.out; simp [maxLen]; omega) (by have := HPK.out; have := HO8.out; simp; omega) hz7 ?_)
                rintro S A8 c8 w8 hS ho8 hb8 hg8 hq8
                have HN8 := hid (OwnRw.app HPL.out HPR.out (p := (A6, Q.length, c6)) ⟨rfl, HC6.out⟩ HRX7.out hS ho8 hg8 (by simpa using hq8))
                have hSl : S.length = k2 := by rw [hS, List.length_append, HPK.out, ← HK2.out]; rfl
                rw [hSl]
                have K8 : Hid (Below w.heap.size w w8) := hid (K7.out.trans hb8)
                have HKL : Hid (k2 ≤ O) := hid (by have := HK2.out; omega)
                clear hS ho8 hb8 hg8 hq8 hSl r7 hop hz7
                go_wp2_with fail
                go_roundw
                case rel =>
                  refine ⟨k2, A8, c8, HKL.out, rfl, rfl, ?_, K8.out⟩
                  rw [← HK2.out, List.range_succ, List.map_append, List.map_singleton, HRR.out]
                  exact HN8.out
                case measure => have := HK2.out; have := HKL.out; (try clear w1 w2 w3); simp [intOf]; omega
              · obtain rfl : k = O := by omega
                obtain ⟨a, ha, hwa⟩ := ms_last (n := n) HO8.out HN17.out
                have hsl := fun W => run_from (P := Try.prog) 22 Try.underlying22 Try.sizeOf2 Au d cu a (by rw [← ha]; exact HON.out) (by have := HCU.out; rw [HU.out] at this; exact this) W
                obtain ⟨A3, hA3⟩ : ∃ A3, cutA Au a cu = A3 := ⟨_, rfl⟩
                obtain ⟨m, hm⟩ : ∃ m, d - a = m := ⟨_, rfl⟩
                rw [hA3, hm] at hsl
                have RW : Hid (Rd (Value.int .i64) wr wr.heap.size A3 (u.drop a)) := hid (by
                  have := (RU.out.on hbel).cut a (c := cu) HCU.out
                  rw [hA3] at this
                  exact this)
                have hZl : Hid ((u.drop a).length = m) := hid (by rw [List.length_drop, HU.out, hm])
                have hml : Hid (m ≤ 9) := hid (by rw [← hm, ← ha, HDD.out]; have := HO8.out; omega)
                obtain ⟨Z, hZ⟩ : ∃ Z, u.drop a = Z := ⟨_, rfl⟩
                rw [hZ] at RW hZl
                have HZ : Hid (u.drop (k * n) = Z) := hid (by rw [ha, hZ])
                have RW2 := RW.out
                have HF := HO
                clear ha hA3 hZ hbel hm
                go_wp2_with (at_builtin; refine wpList_app (Value.int .i64) (fun _ => rfl) _ rfl _ _ 22 rfl wr.heap.size 2 (.int .i64 0) 8 Try.underlying22 info_i64 rfl [] none 0 rfl (own_nil _ _ _) Z A3 (cu - a) _ (by rw [hZl.out]; rfl) RW2 (by have := hZl.out; have := hml.out; simp [maxLen]; omega) (by have := hZl.out; have := hml.out; simp; omega) (Nat.le_refl _) ?_)
                rintro Q A6 c6 w6 hQ ho6 hb6 _
                replace hQ : Q = Z := by simpa using hQ
                subst hQ
                have HO6 := hid (HO.out.on hb6)
                have HC6 := hid (own_cap ho6)
                have R6 := hid (rdx_own (base := w.heap.size) (G := A2.map (·.block)) ho6 HB.out.size (fun g hg => (HO.out.lies g hg).2))
                have K6 : Hid (Below w.heap.size w w6) := hid (HB.out.trans (hb6.mono HB.out.size))
                have hll : ((List.range k).map (rwR n u)).length = k := by simp
                clear ho6 hb6
                go_wp2_with fail
                go_ret3
                rw [HZ.out]
                exact ⟨A2, c2, A6, c6, by rw [hll]; rfl, HO6.out, HC6.out, R6.out, K6.out⟩
          · have t1 : ((d : Int) != (U : Int)) = true := by rw [bne_iff_ne]; omega
            have hnx : ∀ j : Nat, 1 ≤ j → j < n → O * (j + 1) + O + 1 ≠ U := fun j j1 j2 => by
              by_cases e : j = i
              · subst e; rw [hd]; exact hdU
              · exact HNN.out j j1 (by omega)
            have HNX := hid hnx
            have HLT : Hid (1 ≤ n ∧ n ≤ 17 ∧ i < n) := hid (by omega)
            clear hn hn17 hd hnx hdU
            go_wp2_with fail
            refine CD2.out.mono ?_
            rintro _ _ ⟨rfl, rfl⟩
            go_wp2_with fail
            go_roundw
            case rel => exact ⟨n, HLT.out.1, HLT.out.2.1, rfl, HNX.out, by trivial⟩
            case measure => have := HLT.out; (try clear hwn); simp [intOf]; omega
        · have t0 : ¬ (i : Int) ≤ 16 := by omega
          have e1 : rE = 4 := HNO.out (fun j j1 j2 => by rw [HTN.out]; exact HNN.out j j1 (by omega))
          have e2 : rO = [] := by rw [HEO.out, if_neg (by rw [e1]; decide)]
          have e3 : rZ = [] := by rw [HEZ.out, if_neg (by rw [e1]; decide)]
          subst e1
          subst e2
          subst e3
          go_wp2_with fail
          go_ret3
          exact ⟨none, 0, none, 0, rfl, OwnRw.nil _ _, ⟨by simp, by decide⟩, RdX.none_, Below.refl _ _⟩
end Go.Proofs.Ytekpejemfkjhcaa
