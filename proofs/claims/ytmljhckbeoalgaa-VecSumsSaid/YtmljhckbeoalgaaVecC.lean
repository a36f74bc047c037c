
/- The function values that vec hands on: each number by its place. -/
import Derived.Test.YtmljhckbeoalgaaVecL
import Derived.Test.YtmljhckbeoalgaaMul
import Derived.Deep.QuietTactic
import Derived.BigQuiet
import Derived.Outline
import Derived.StillTailTactics
import Derived.Deep.RegionHeld3
namespace Go.Proofs.Ytmljhckbeoalgaa
open Go.RowKit
set_option maxHeartbeats 400000
set_option linter.unusedVariables false
theorem quietL {P : Program} {f : FuncId} {args : Array Value} {w : World} {v : Value} (h : ∀ W : World, Calls P f args W fun e w' => e = .returned v ∧ W = w') (n : Nat) :
    Calls P f args (w.drewN n) fun e w' => e = .returned v ∧ ∃ m, w' = w.drewN m := (h _).mono fun _ _ ⟨he, hm⟩ => ⟨he, n, hm.symm⟩
theorem belowN (B : Nat) (w : World) (n : Nat) : Below B w (w.drewN n) := ⟨rfl, rfl, rfl, Nat.le_refl _, fun _ _ => rfl⟩
theorem below_step {B : Nat} {w W w1 : World} (h0 : Below B w W) (h1 : Below W.heap.size W w1) (hB : B ≤ w.heap.size) : Below B w w1 := h0.trans (h1.mono (Nat.le_trans hB h0.size))
theorem add_cl {pa pb k : Nat} {A B : Option Addr} {c d : Nat} {w : World} {x y : Int} (xs ys : List Int)
    (ha : w.cell? ⟨pa, 0, none⟩ = some (.slice A xs.length c)) (hb : w.cell? ⟨pb, 0, none⟩ = some (.slice B ys.length d)) {L M : Nat}
    (ra : Rd (Value.int .i64) w L A xs) (rb : Rd (Value.int .i64) w M B ys) (hx : xs[k]? = some x) (hy : ys[k]? = some y) (ix : I64 x) (iy : I64 y) :
    Calls Try.prog 38 (#[.int .i64 k] ++ #[.pointer (some ⟨pa, 0, none⟩), .pointer (some ⟨pb, 0, none⟩)]) w fun e w' => e = .returned (.tuple #[.int .i64 (ckV (x + y)), .int .i64 (ckE (x + y))]) ∧ Below w.heap.size w w' := by
  obtain ⟨b1, o1, rfl, _, c1⟩ := ra k x hx
  obtain ⟨b2, o2, rfl, _, c2⟩ := rb k y hy
  have l1 : k < xs.length := (List.getElem?_eq_some_iff.1 hx).1
  have l2 : k < ys.length := (List.getElem?_eq_some_iff.1 hy).1
  have C := fun W => fix_Add x y ix iy W
  clear ra rb hx hy
  have C' := hid C
  clear C
  go_enter Try.func38, Try.ntmps38
  go_wp2_with fail
  go_quiet ((go_at_call 39; exact quietL C'.out _))
  go_wp2_with fail
  go_ret2
  exact ⟨rfl, belowN _ _ _⟩
theorem scale_cl {pa pb pc k : Nat} {A : Option Addr} {c : Nat} {w : World} {x by_ m v er : Int} (xs : List Int)
    (ha : w.cell? ⟨pa, 0, none⟩ = some (.slice A xs.length c)) (hb : w.cell? ⟨pb, 0, none⟩ = some (.int .i64 by_)) (hc : w.cell? ⟨pc, 0, none⟩ = some (.int .i64 m)) {L : Nat}
    (ra : Rd (Value.int .i64) w L A xs) (hx : xs[k]? = some x) (C : ∀ W, Calls Try.prog 47 #[.int .i64 x, .int .i64 by_, .int .i64 m] W fun r W' => r = .returned (.tuple #[.int .i64 v, .int .i64 er]) ∧ Below W.heap.size W W') :
    Calls Try.prog 46 (#[.int .i64 k] ++ #[.pointer (some ⟨pa, 0, none⟩), .pointer (some ⟨pb, 0, none⟩), .pointer (some ⟨pc, 0, none⟩)]) w fun e w' => e = .returned (.tuple #[.int .i64 v, .int .i64 er]) ∧ Below w.heap.size w w' := by
  obtain ⟨b1, o1, rfl, _, c1⟩ := ra k x hx
  have l1 : k < xs.length := (List.getElem?_eq_some_iff.1 hx).1
  clear ra hx
  have C' := hid C
  clear C
  go_enter Try.func46, Try.ntmps46
  go_wp2_with fail
  have la := lt_of_cell ha
  have lb := lt_of_cell hb
  have lc := lt_of_cell hc
  have lx := lt_of_cell c1
  go_region_held3 (fun w' => w'.cell? ⟨pa, 0, none⟩ = some (.slice (some ⟨b1, o1, none⟩) xs.length c) ∧ w'.cell? ⟨b1, o1 + k, none⟩ = some (.int .i64 x) ∧ w'.cell? ⟨pb, 0, none⟩ = some (.int .i64 by_) ∧ w'.cell? ⟨pc, 0, none⟩ = some (.int .i64 m) ∧ Below w.heap.size w w') (first | exact ⟨ha, c1, hb, hc, (Below.refl _ _).drew⟩ | (have hk := below_step ((Below.refl _ _).drew) hb1 (Nat.le_refl _); exact ⟨(hk.cell la).trans ha, (hk.cell lx).trans c1, (hk.cell lb).trans hb, (hk.cell lc).trans hc, hk⟩) | go_keep)
    (first | (go_at_call 47; refine (C'.out _).mono ?_; rintro e w1 ⟨rfl, hb1⟩))
  go_wp2_with fail
  go_ret2
  exact ⟨rfl, below_step ((Below.refl _ _).drew) hb1 (Nat.le_refl _)⟩
theorem dot_cl {pa pb pc k : Nat} {A B : Option Addr} {c d : Nat} {w : World} {x y m v er : Int} (xs ys : List Int)
    (ha : w.cell? ⟨pa, 0, none⟩ = some (.slice A xs.length c)) (hb : w.cell? ⟨pb, 0, none⟩ = some (.slice B ys.length d)) (hc : w.cell? ⟨pc, 0, none⟩ = some (.int .i64 m)) {L M : Nat}
    (ra : Rd (Value.int .i64) w L A xs) (rb : Rd (Value.int .i64) w M B ys) (hx : xs[k]? = some x) (hy : ys[k]? = some y) (C : ∀ W, Calls Try.prog 47 #[.int .i64 x, .int .i64 y, .int .i64 m] W fun r W' => r = .returned (.tuple #[.int .i64 v, .int .i64 er]) ∧ Below W.heap.size W W') :
    Calls Try.prog 54 (#[.int .i64 k] ++ #[.pointer (some ⟨pa, 0, none⟩), .pointer (some ⟨pb, 0, none⟩), .pointer (some ⟨pc, 0, none⟩)]) w fun e w' => e = .returned (.tuple #[.int .i64 v, .int .i64 er]) ∧ Below w.heap.size w w' := by
  obtain ⟨b1, o1, rfl, _, c1⟩ := ra k x hx
  obtain ⟨b2, o2, rfl, _, c2⟩ := rb k y hy
  have l1 : k < xs.length := (List.getElem?_eq_some_iff.1 hx).1
  have l2 : k < ys.length := (List.getElem?_eq_some_iff.1 hy).1
  clear ra hx rb hy
  have C' := hid C
  clear C
  go_enter Try.func54, Try.ntmps54
  go_wp2_with fail
  have la := lt_of_cell ha
  have lb := lt_of_cell hb
  have lc := lt_of_cell hc
  have lx := lt_of_cell c1
  have ly := lt_of_cell c2
  go_region_held3 (fun w' => w'.cell? ⟨pa, 0, none⟩ = some (.slice (some ⟨b1, o1, none⟩) xs.length c) ∧ w'.cell? ⟨b1, o1 + k, none⟩ = some (.int .i64 x) ∧ w'.cell? ⟨pb, 0, none⟩ = some (.slice (some ⟨b2, o2, none⟩) ys.length d) ∧ w'.cell? ⟨b2, o2 + k, none⟩ = some (.int .i64 y) ∧ w'.cell? ⟨pc, 0, none⟩ = some (.int .i64 m) ∧ Below w.heap.size w w') (first | exact ⟨ha, c1, hb, c2, hc, (Below.refl _ _).drew⟩ | (have hk := below_step ((Below.refl _ _).drew) hb1 (Nat.le_refl _); exact ⟨(hk.cell la).trans ha, (hk.cell lx).trans c1, (hk.cell lb).trans hb, (hk.cell ly).trans c2, (hk.cell lc).trans hc, hk⟩) | go_keep)
    (first | (go_at_call 47; refine (C'.out _).mono ?_; rintro e w1 ⟨rfl, hb1⟩))
  go_wp2_with fail
  go_ret2
  exact ⟨rfl, below_step ((Below.refl _ _).drew) hb1 (Nat.le_refl _)⟩
theorem sub_cl {pa pb k : Nat} {A B : Option Addr} {c d : Nat} {w : World} {x y : Int} (xs ys : List Int)
    (ha : w.cell? ⟨pa, 0, none⟩ = some (.slice A xs.length c)) (hb : w.cell? ⟨pb, 0, none⟩ = some (.slice B ys.length d)) {L M : Nat}
    (ra : Rd (Value.int .i64) w L A xs) (rb : Rd (Value.int .i64) w M B ys) (hx : xs[k]? = some x) (hy : ys[k]? = some y) (ix : I64 x) (iy : I64 y) :
    Calls Try.prog 42 (#[.int .i64 k] ++ #[.pointer (some ⟨pa, 0, none⟩), .pointer (some ⟨pb, 0, none⟩)]) w fun e w' => e = .returned (.tuple #[.int .i64 (ckV (x - y)), .int .i64 (ckE (x - y))]) ∧ Below w.heap.size w w' := by
  obtain ⟨b1, o1, rfl, _, c1⟩ := ra k x hx
  obtain ⟨b2, o2, rfl, _, c2⟩ := rb k y hy
  have l1 : k < xs.length := (List.getElem?_eq_some_iff.1 hx).1
  have l2 : k < ys.length := (List.getElem?_eq_some_iff.1 hy).1
  have C := fun W => fix_Sub x y ix iy W
  clear ra rb hx hy
  have C' := hid C
  clear C
  go_enter Try.func42, Try.ntmps42
  go_wp2_with fail
  go_quiet ((go_at_call 43; exact quietL C'.out _))
  go_wp2_with fail
  go_ret2
  exact ⟨rfl, belowN _ _ _⟩
theorem clip_cl {pa pb k : Nat} {A : Option Addr} {c : Nat} {w : World} {x most : Int} (xs : List Int)
    (ha : w.cell? ⟨pa, 0, none⟩ = some (.slice A xs.length c)) (hb : w.cell? ⟨pb, 0, none⟩ = some (.int .i64 most)) {L : Nat}
    (ra : Rd (Value.int .i64) w L A xs) (hx : xs[k]? = some x) (ix : I64 x) (im : I64 most) :
    Calls Try.prog 50 (#[.int .i64 k] ++ #[.pointer (some ⟨pa, 0, none⟩), .pointer (some ⟨pb, 0, none⟩)]) w fun e w' => e = .returned (.tuple #[.int .i64 (clipV x most), .int .i64 (clipE most)]) ∧ Below w.heap.size w w' := by
  obtain ⟨b1, o1, rfl, _, c1⟩ := ra k x hx
  have l1 : k < xs.length := (List.getElem?_eq_some_iff.1 hx).1
  have C := fun W => fix_Clip x most ix im W
  clear ra hx
  have C' := hid C
  clear C
  go_enter Try.func50, Try.ntmps50
  go_wp2_with fail
  go_quiet ((go_at_call 51; exact quietL C'.out _))
  go_wp2_with fail
  go_ret2
  exact ⟨rfl, belowN _ _ _⟩
theorem size_cl {pa k : Nat} {A : Option Addr} {c : Nat} {w : World} {x : Int} (xs : List Int)
    (ha : w.cell? ⟨pa, 0, none⟩ = some (.slice A xs.length c)) {L : Nat} (ra : Rd (Value.int .i64) w L A xs) (hx : xs[k]? = some x) (ix : I64 x) :
    Calls Try.prog 55 (#[.int .i64 k] ++ #[.pointer (some ⟨pa, 0, none⟩)]) w fun e w' => e = .returned (.tuple #[.int .i64 (ckV (absI x)), .int .i64 (ckE (absI x))]) ∧ Below w.heap.size w w' := by
  obtain ⟨b1, o1, rfl, _, c1⟩ := ra k x hx
  have l1 : k < xs.length := (List.getElem?_eq_some_iff.1 hx).1
  have C := fun W => fix_Abs x ix W
  clear ra hx
  have C' := hid C
  clear C
  go_enter Try.func55, Try.ntmps55
  go_wp2_with fail
  refine (C'.out _).mono ?_
  rintro _ _ ⟨rfl, rfl⟩
  go_wp2_with fail
  go_ret2
  exact ⟨rfl, Below.refl _ _⟩
theorem most_cl {pa k : Nat} {A : Option Addr} {c : Nat} {w : World} {x : Int} (xs : List Int)
    (ha : w.cell? ⟨pa, 0, none⟩ = some (.slice A xs.length c)) {L : Nat} (ra : Rd (Value.int .i64) w L A xs) (hx : xs[k]? = some x) (ix : I64 x) :
    Calls Try.prog 58 (#[.int .i64 k] ++ #[.pointer (some ⟨pa, 0, none⟩)]) w fun e w' => e = .returned (.tuple #[.int .i64 (ckV (absI x)), .int .i64 (ckE (absI x))]) ∧ Below w.heap.size w w' := by
  obtain ⟨b1, o1, rfl, _, c1⟩ := ra k x hx
  have l1 : k < xs.length := (List.getElem?_eq_some_iff.1 hx).1
  have C := fun W => fix_Abs x ix W
  clear ra hx
  have C' := hid C
  clear C
  go_enter Try.func58, Try.ntmps58
  go_wp2_with fail
  refine (C'.out _).mono ?_
  rintro _ _ ⟨rfl, rfl⟩
  go_wp2_with fail
  go_ret2
  exact ⟨rfl, Below.refl _ _⟩
theorem cl_enter (K : FuncId) (hK : (Try.prog.funcs[K]?).map (fun f => f.name == "runtime.NumGoroutine" || f.body.isNone) = some false) (args : Array Value) (W : World) : (callFunc K args).run Try.prog W = .ok (.enter K args) W := by
  obtain ⟨fn, hf, hb⟩ := Option.map_eq_some_iff.1 hK
  simp only [Bool.or_eq_false_iff] at hb
  have h1 : ¬ fn.name = "runtime.NumGoroutine" := by simpa using hb.1
  have h2 : ¬ fn.body = none := fun e => by simp [e] at hb
  simp [callFunc, hf, h1, h2, go_sem]
theorem add_ok (args : Array Value) (W : World) : (callFunc 38 args).run Try.prog W = .ok (.enter 38 args) W := cl_enter 38 (by kernel_rfl) args W
theorem sub_ok (args : Array Value) (W : World) : (callFunc 42 args).run Try.prog W = .ok (.enter 42 args) W := cl_enter 42 (by kernel_rfl) args W
theorem scale_ok (args : Array Value) (W : World) : (callFunc 46 args).run Try.prog W = .ok (.enter 46 args) W := cl_enter 46 (by kernel_rfl) args W
theorem dot_ok (args : Array Value) (W : World) : (callFunc 54 args).run Try.prog W = .ok (.enter 54 args) W := cl_enter 54 (by kernel_rfl) args W
theorem clip_ok (args : Array Value) (W : World) : (callFunc 50 args).run Try.prog W = .ok (.enter 50 args) W := cl_enter 50 (by kernel_rfl) args W
theorem size_ok (args : Array Value) (W : World) : (callFunc 55 args).run Try.prog W = .ok (.enter 55 args) W := cl_enter 55 (by kernel_rfl) args W
theorem most_ok (args : Array Value) (W : World) : (callFunc 58 args).run Try.prog W = .ok (.enter 58 args) W := cl_enter 58 (by kernel_rfl) args W
end Go.Proofs.Ytmljhckbeoalgaa
