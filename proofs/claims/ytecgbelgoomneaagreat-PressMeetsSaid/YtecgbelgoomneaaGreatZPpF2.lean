
/- ZPpF2: texts joined: PpF2. -/
import Derived.Test.YtecgbelgoomneaaGreatZPpF0
import Derived.Test.YtecgbelgoomneaaGreatZc
/- Whether a vector is pressed so, by the program: where it is not. -/
namespace Go.Proofs.YtecgbelgoomneaaGreat
open Go.RowKit
set_option maxHeartbeats 4000000
set_option maxRecDepth 100000
set_option linter.unusedVariables false
theorem pm_sch {A : Option Addr} {c nv : Nat} (sch k wide : Int) (s : SentV) (AL AV AE AN : Option Addr) (cL cV cE cN : Nat) (w : World) (hnv : nv ≤ 9223372036854775807) (CC0 : ∀ W, Calls Tryz.prog 17 #[.agg #[.int .i64 sch, .int .i64 k, .int .i64 wide], .int .i64 (nv : Int)] W fun e w' => e = .returned (.int .i64 0) ∧ Below W.heap.size W w') (CM0 : ∀ W, Below w.heap.size w W → Calls Tryz.prog 42 #[(.agg #[.int .i64 s.sch, .int .i64 s.dim, .slice AL s.L.length cL, .slice AV s.V.length cV, .int .i64 s.scale, .int .i64 s.wide, .slice AE s.lev.length cE, .slice AN s.neg.length cN])] W fun e w' => e = .returned (.bool true) ∧ Below W.heap.size W w') (th : (s.sch == sch) = false) :
    Calls Tryz.prog 26 #[.agg #[.int .i64 sch, .int .i64 k, .int .i64 wide], .slice A nv c, (.agg #[.int .i64 s.sch, .int .i64 s.dim, .slice AL s.L.length cL, .slice AV s.V.length cV, .int .i64 s.scale, .int .i64 s.wide, .slice AE s.lev.length cE, .slice AN s.neg.length cN])] w fun e w' => e = .returned (.bool false) ∧ Below w.heap.size w w' := by
  have CC := hid CC0
  have CM := hid CM0
  clear CC0 CM0
  have BH := (BoxL.new w [.int .i64 sch, .int .i64 k, .int .i64 wide] 23).below (sg_up _ (.cells #[.int .i64 s.sch, .int .i64 s.dim, .slice AL s.L.length cL, .slice AV s.V.length cV, .int .i64 s.scale, .int .i64 s.wide, .slice AE s.lev.length cE, .slice AN s.neg.length cN] 32)) (by simp)
  have BS := box2 w (.cells #[.int .i64 sch, .int .i64 k, .int .i64 wide] 23) [.int .i64 s.sch, .int .i64 s.dim, .slice AL s.L.length cL, .slice AV s.V.length cV, .int .i64 s.scale, .int .i64 s.wide, .slice AE s.lev.length cE, .slice AN s.neg.length cN] 32
  have k0 : Below w.heap.size w ((w.alloc (.cells #[.int .i64 sch, .int .i64 k, .int .i64 wide] 23)).alloc (.cells #[.int .i64 s.sch, .int .i64 s.dim, .slice AL s.L.length cL, .slice AV s.V.length cV, .int .i64 s.scale, .int .i64 s.wide, .slice AE s.lev.length cE, .slice AN s.neg.length cN] 32)) := by go_grown
  obtain ⟨⟨f0, f1, f2, f3, f4, f5, f6, f7⟩, _⟩ := BS.eight
  have y0 := (BH 0 _ rfl).1
  have y1 := (BH 1 _ rfl).1
  have y2 := (BH 2 _ rfl).1
  simp only [List.toArray] at y0 y1 y2 f0 f1 f2 f3 f4 f5 f6 f7
  have hz0 : w.heap.size + 2 ≤ ((w.alloc (.cells #[.int .i64 sch, .int .i64 k, .int .i64 wide] 23)).alloc (.cells #[.int .i64 s.sch, .int .i64 s.dim, .slice AL s.L.length cL, .slice AV s.V.length cV, .int .i64 s.scale, .int .i64 s.wide, .slice AE s.lev.length cE, .slice AN s.neg.length cN] 32)).heap.size := by simp
  clear BH BS
  obtain ⟨C, hC⟩ : ∃ C : World → Prop, C = fun W => W.cell? ⟨w.heap.size, 0, none⟩ = some (.int .i64 sch) ∧ W.cell? ⟨w.heap.size, 1, none⟩ = some (.int .i64 k) ∧ W.cell? ⟨w.heap.size, 2, none⟩ = some (.int .i64 wide) ∧ W.cell? ⟨w.heap.size + 1, 0, none⟩ = some (.int .i64 s.sch) ∧ W.cell? ⟨w.heap.size + 1, 1, none⟩ = some (.int .i64 s.dim) ∧ W.cell? ⟨w.heap.size + 1, 2, none⟩ = some (.slice AL s.L.length cL) ∧ W.cell? ⟨w.heap.size + 1, 3, none⟩ = some (.slice AV s.V.length cV) ∧ W.cell? ⟨w.heap.size + 1, 4, none⟩ = some (.int .i64 s.scale) ∧ W.cell? ⟨w.heap.size + 1, 5, none⟩ = some (.int .i64 s.wide) ∧ W.cell? ⟨w.heap.size + 1, 6, none⟩ = some (.slice AE s.lev.length cE) ∧ W.cell? ⟨w.heap.size + 1, 7, none⟩ = some (.slice AN s.neg.length cN) ∧ w.heap.size + 2 ≤ W.heap.size ∧ Below w.heap.size w W := ⟨_, rfl⟩
  have HC : Hid (∀ W, C W → W.cell? ⟨w.heap.size, 0, none⟩ = some (.int .i64 sch) ∧ W.cell? ⟨w.heap.size, 1, none⟩ = some (.int .i64 k) ∧ W.cell? ⟨w.heap.size, 2, none⟩ = some (.int .i64 wide) ∧ W.cell? ⟨w.heap.size + 1, 0, none⟩ = some (.int .i64 s.sch) ∧ W.cell? ⟨w.heap.size + 1, 1, none⟩ = some (.int .i64 s.dim) ∧ W.cell? ⟨w.heap.size + 1, 2, none⟩ = some (.slice AL s.L.length cL) ∧ W.cell? ⟨w.heap.size + 1, 3, none⟩ = some (.slice AV s.V.length cV) ∧ W.cell? ⟨w.heap.size + 1, 4, none⟩ = some (.int .i64 s.scale) ∧ W.cell? ⟨w.heap.size + 1, 5, none⟩ = some (.int .i64 s.wide) ∧ W.cell? ⟨w.heap.size + 1, 6, none⟩ = some (.slice AE s.lev.length cE) ∧ W.cell? ⟨w.heap.size + 1, 7, none⟩ = some (.slice AN s.neg.length cN) ∧ w.heap.size + 2 ≤ W.heap.size ∧ Below w.heap.size w W) := hid (fun W h => by rw [hC] at h; exact h)
  have HK : Hid (∀ W W', C W → Below W.heap.size W W' → C W') := hid (fun W W' h hb => by rw [hC] at h ⊢; exact heldM h (hb.mono (heldMZ h)))
  have HI : C ((w.alloc (.cells #[.int .i64 sch, .int .i64 k, .int .i64 wide] 23)).alloc (.cells #[.int .i64 s.sch, .int .i64 s.dim, .slice AL s.L.length cL, .slice AV s.V.length cV, .int .i64 s.scale, .int .i64 s.wide, .slice AE s.lev.length cE, .slice AN s.neg.length cN] 32)).drew := by rw [hC]; exact ⟨y0, y1, y2, f0, f1, f2, f3, f4, f5, f6, f7, hz0, k0.drew⟩
  have HB : Hid (∀ W, C W → Below w.heap.size w W) := hid (fun W h => heldMB (HC.out W h))
  clear hC y0 y1 y2 f0 f1 f2 f3 f4 f5 f6 f7 hz0 k0
  go_enter Tryz.func26, Tryz.ntmps26
  go_wp2_with fail
  refine region_in (C := C) (by kernel_rfl) (by kernel_rfl) HI ?_
  go_big_quiet_want
  refine ⟨.agg #[.int .i64 sch, .int .i64 k, .int .i64 wide], fun W hW => ?_, ?_⟩
  · obtain ⟨x0, x1, x2, y0, y1, y2, y3, y4, y5, y6, y7, hz, hB⟩ := HC.out W hW
    go_simp
  simp only [Act.put, List.setIfInBounds_toArray, List.set_cons_zero, List.set_cons_succ]
  go_big_quiet_on
  go_big_quiet_want
  go_big_quiet_op
  first | go_big_quiet_on | (refine ⟨_, fun _ _ => rfl, ?_⟩; go_big_quiet_on)
  go_big_quiet_want
  go_big_quiet_op
  first | go_big_quiet_on | (refine ⟨_, fun _ _ => rfl, ?_⟩; go_big_quiet_on)
  go_big_quiet_want
  go_big_quiet_op
  go_big_quiet_call ((intro hW; refine (CC.out _).mono ?_; rintro _ w' ⟨rfl, hb⟩; exact ⟨rfl, HK.out _ _ hW hb⟩))
  go_big_quiet_want
  go_big_quiet_op
  first | go_big_quiet_on | (refine ⟨_, fun _ _ => rfl, ?_⟩; go_big_quiet_on)
  go_big_quiet_want
  go_big_quiet_op
  first | go_big_quiet_on | (refine ⟨_, fun _ _ => rfl, ?_⟩; go_big_quiet_on)
  go_big_quiet_want
  refine ⟨(.agg #[.int .i64 s.sch, .int .i64 s.dim, .slice AL s.L.length cL, .slice AV s.V.length cV, .int .i64 s.scale, .int .i64 s.wide, .slice AE s.lev.length cE, .slice AN s.neg.length cN]), fun W hW => ?_, ?_⟩
  · obtain ⟨x0, x1, x2, y0, y1, y2, y3, y4, y5, y6, y7, hz, hB⟩ := HC.out W hW
    go_simp
  simp only [Act.put, List.setIfInBounds_toArray, List.set_cons_zero, List.set_cons_succ]
  go_big_quiet_on
  go_big_quiet_want
  go_big_quiet_op
  go_big_quiet_call ((intro hW; refine (CM.out _ (HB.out _ hW)).mono ?_; rintro _ w' ⟨rfl, hb⟩; exact ⟨rfl, HK.out _ _ hW hb⟩))
  go_big_quiet_want
  go_big_quiet_op
  first | go_big_quiet_on | (refine ⟨_, fun _ _ => rfl, ?_⟩; go_big_quiet_on)
  go_big_quiet_want
  go_big_quiet_op
  first | go_big_quiet_on | (refine ⟨_, fun _ _ => rfl, ?_⟩; go_big_quiet_on)
  go_big_quiet_want
  go_big_quiet_op
  first | go_big_quiet_on | (refine ⟨_, fun _ _ => rfl, ?_⟩; go_big_quiet_on)
  go_big_quiet_want
  refine ⟨.int .i64 s.sch, fun W hW => ?_, ?_⟩
  · obtain ⟨x0, x1, x2, y0, y1, y2, y3, y4, y5, y6, y7, hz, hB⟩ := HC.out W hW
    go_simp
  simp only [Act.put, List.setIfInBounds_toArray, List.set_cons_zero, List.set_cons_succ]
  go_big_quiet_on
  go_big_quiet_want
  go_big_quiet_op
  first | go_big_quiet_on | (refine ⟨_, fun _ _ => rfl, ?_⟩; go_big_quiet_on)
  go_big_quiet_want
  refine ⟨.int .i64 sch, fun W hW => ?_, ?_⟩
  · obtain ⟨x0, x1, x2, y0, y1, y2, y3, y4, y5, y6, y7, hz, hB⟩ := HC.out W hW
    go_simp
  simp only [Act.put, List.setIfInBounds_toArray, List.set_cons_zero, List.set_cons_succ]
  go_big_quiet_on
  go_big_quiet_want
  go_big_quiet_op
  first | go_big_quiet_on | (refine ⟨_, fun _ _ => rfl, ?_⟩; go_big_quiet_on)
  go_big_quiet_want
  go_big_quiet_op
  first | go_big_quiet_on | (refine ⟨_, fun _ _ => rfl, ?_⟩; go_big_quiet_on)
  go_big_quiet_want
  go_big_quiet_op
  first | go_big_quiet_on | (refine ⟨_, fun _ _ => rfl, ?_⟩; go_big_quiet_on)
  go_big_quiet_skip
  go_big_quiet_skip
  go_big_quiet_skip
  go_big_quiet_skip
  go_big_quiet_skip
  go_big_quiet_skip
  go_big_quiet_skip
  go_big_quiet_skip
  go_big_quiet_skip
  go_big_quiet_want
  go_big_quiet_op
  first | go_big_quiet_on | (refine ⟨_, fun _ _ => rfl, ?_⟩; go_big_quiet_on)
  go_big_quiet_want
  go_big_quiet_op
  first | go_big_quiet_on | (refine ⟨_, fun _ _ => rfl, ?_⟩; go_big_quiet_on)
  refine fun w' hw' => ?_
  have kk := HB.out w' hw'
  clear HI
  go_wp2_with fail
  go_ret
  exact ⟨rfl, kk⟩
theorem pm_may {A : Option Addr} {c nv : Nat} (sch k wide : Int) (s : SentV) (AL AV AE AN : Option Addr) (cL cV cE cN : Nat) (w : World) (hnv : nv ≤ 9223372036854775807) (CC0 : ∀ W, Calls Tryz.prog 17 #[.agg #[.int .i64 sch, .int .i64 k, .int .i64 wide], .int .i64 (nv : Int)] W fun e w' => e = .returned (.int .i64 0) ∧ Below W.heap.size W w') (CM0 : ∀ W, Below w.heap.size w W → Calls Tryz.prog 42 #[(.agg #[.int .i64 s.sch, .int .i64 s.dim, .slice AL s.L.length cL, .slice AV s.V.length cV, .int .i64 s.scale, .int .i64 s.wide, .slice AE s.lev.length cE, .slice AN s.neg.length cN])] W fun e w' => e = .returned (.bool false) ∧ Below W.heap.size W w') :
    Calls Tryz.prog 26 #[.agg #[.int .i64 sch, .int .i64 k, .int .i64 wide], .slice A nv c, (.agg #[.int .i64 s.sch, .int .i64 s.dim, .slice AL s.L.length cL, .slice AV s.V.length cV, .int .i64 s.scale, .int .i64 s.wide, .slice AE s.lev.length cE, .slice AN s.neg.length cN])] w fun e w' => e = .returned (.bool false) ∧ Below w.heap.size w w' := by
  have CC := hid CC0
  have CM := hid CM0
  clear CC0 CM0
  have BH := (BoxL.new w [.int .i64 sch, .int .i64 k, .int .i64 wide] 23).below (sg_up _ (.cells #[.int .i64 s.sch, .int .i64 s.dim, .slice AL s.L.length cL, .slice AV s.V.length cV, .int .i64 s.scale, .int .i64 s.wide, .slice AE s.lev.length cE, .slice AN s.neg.length cN] 32)) (by simp)
  have BS := box2 w (.cells #[.int .i64 sch, .int .i64 k, .int .i64 wide] 23) [.int .i64 s.sch, .int .i64 s.dim, .slice AL s.L.length cL, .slice AV s.V.length cV, .int .i64 s.scale, .int .i64 s.wide, .slice AE s.lev.length cE, .slice AN s.neg.length cN] 32
  have k0 : Below w.heap.size w ((w.alloc (.cells #[.int .i64 sch, .int .i64 k, .int .i64 wide] 23)).alloc (.cells #[.int .i64 s.sch, .int .i64 s.dim, .slice AL s.L.length cL, .slice AV s.V.length cV, .int .i64 s.scale, .int .i64 s.wide, .slice AE s.lev.length cE, .slice AN s.neg.length cN] 32)) := by go_grown
  obtain ⟨⟨f0, f1, f2, f3, f4, f5, f6, f7⟩, _⟩ := BS.eight
  have y0 := (BH 0 _ rfl).1
  have y1 := (BH 1 _ rfl).1
  have y2 := (BH 2 _ rfl).1
  simp only [List.toArray] at y0 y1 y2 f0 f1 f2 f3 f4 f5 f6 f7
  have hz0 : w.heap.size + 2 ≤ ((w.alloc (.cells #[.int .i64 sch, .int .i64 k, .int .i64 wide] 23)).alloc (.cells #[.int .i64 s.sch, .int .i64 s.dim, .slice AL s.L.length cL, .slice AV s.V.length cV, .int .i64 s.scale, .int .i64 s.wide, .slice AE s.lev.length cE, .slice AN s.neg.length cN] 32)).heap.size := by simp
  clear BH BS
  obtain ⟨C, hC⟩ : ∃ C : World → Prop, C = fun W => W.cell? ⟨w.heap.size, 0, none⟩ = some (.int .i64 sch) ∧ W.cell? ⟨w.heap.size, 1, none⟩ = some (.int .i64 k) ∧ W.cell? ⟨w.heap.size, 2, none⟩ = some (.int .i64 wide) ∧ W.cell? ⟨w.heap.size + 1, 0, none⟩ = some (.int .i64 s.sch) ∧ W.cell? ⟨w.heap.size + 1, 1, none⟩ = some (.int .i64 s.dim) ∧ W.cell? ⟨w.heap.size + 1, 2, none⟩ = some (.slice AL s.L.length cL) ∧ W.cell? ⟨w.heap.size + 1, 3, none⟩ = some (.slice AV s.V.length cV) ∧ W.cell? ⟨w.heap.size + 1, 4, none⟩ = some (.int .i64 s.scale) ∧ W.cell? ⟨w.heap.size + 1, 5, none⟩ = some (.int .i64 s.wide) ∧ W.cell? ⟨w.heap.size + 1, 6, none⟩ = some (.slice AE s.lev.length cE) ∧ W.cell? ⟨w.heap.size + 1, 7, none⟩ = some (.slice AN s.neg.length cN) ∧ w.heap.size + 2 ≤ W.heap.size ∧ Below w.heap.size w W := ⟨_, rfl⟩
  have HC : Hid (∀ W, C W → W.cell? ⟨w.heap.size, 0, none⟩ = some (.int .i64 sch) ∧ W.cell? ⟨w.heap.size, 1, none⟩ = some (.int .i64 k) ∧ W.cell? ⟨w.heap.size, 2, none⟩ = some (.int .i64 wide) ∧ W.cell? ⟨w.heap.size + 1, 0, none⟩ = some (.int .i64 s.sch) ∧ W.cell? ⟨w.heap.size + 1, 1, none⟩ = some (.int .i64 s.dim) ∧ W.cell? ⟨w.heap.size + 1, 2, none⟩ = some (.slice AL s.L.length cL) ∧ W.cell? ⟨w.heap.size + 1, 3, none⟩ = some (.slice AV s.V.length cV) ∧ W.cell? ⟨w.heap.size + 1, 4, none⟩ = some (.int .i64 s.scale) ∧ W.cell? ⟨w.heap.size + 1, 5, none⟩ = some (.int .i64 s.wide) ∧ W.cell? ⟨w.heap.size + 1, 6, none⟩ = some (.slice AE s.lev.length cE) ∧ W.cell? ⟨w.heap.size + 1, 7, none⟩ = some (.slice AN s.neg.length cN) ∧ w.heap.size + 2 ≤ W.heap.size ∧ Below w.heap.size w W) := hid (fun W h => by rw [hC] at h; exact h)
  have HK : Hid (∀ W W', C W → Below W.heap.size W W' → C W') := hid (fun W W' h hb => by rw [hC] at h ⊢; exact heldM h (hb.mono (heldMZ h)))
  have HI : C ((w.alloc (.cells #[.int .i64 sch, .int .i64 k, .int .i64 wide] 23)).alloc (.cells #[.int .i64 s.sch, .int .i64 s.dim, .slice AL s.L.length cL, .slice AV s.V.length cV, .int .i64 s.scale, .int .i64 s.wide, .slice AE s.lev.length cE, .slice AN s.neg.length cN] 32)).drew := by rw [hC]; exact ⟨y0, y1, y2, f0, f1, f2, f3, f4, f5, f6, f7, hz0, k0.drew⟩
  have HB : Hid (∀ W, C W → Below w.heap.size w W) := hid (fun W h => heldMB (HC.out W h))
  clear hC y0 y1 y2 f0 f1 f2 f3 f4 f5 f6 f7 hz0 k0
  go_enter Tryz.func26, Tryz.ntmps26
  go_wp2_with fail
  refine region_in (C := C) (by kernel_rfl) (by kernel_rfl) HI ?_
  go_big_quiet_want
  refine ⟨.agg #[.int .i64 sch, .int .i64 k, .int .i64 wide], fun W hW => ?_, ?_⟩
  · obtain ⟨x0, x1, x2, y0, y1, y2, y3, y4, y5, y6, y7, hz, hB⟩ := HC.out W hW
    go_simp
  simp only [Act.put, List.setIfInBounds_toArray, List.set_cons_zero, List.set_cons_succ]
  go_big_quiet_on
  go_big_quiet_want
  go_big_quiet_op
  first | go_big_quiet_on | (refine ⟨_, fun _ _ => rfl, ?_⟩; go_big_quiet_on)
  go_big_quiet_want
  go_big_quiet_op
  first | go_big_quiet_on | (refine ⟨_, fun _ _ => rfl, ?_⟩; go_big_quiet_on)
  go_big_quiet_want
  go_big_quiet_op
  go_big_quiet_call ((intro hW; refine (CC.out _).mono ?_; rintro _ w' ⟨rfl, hb⟩; exact ⟨rfl, HK.out _ _ hW hb⟩))
  go_big_quiet_want
  go_big_quiet_op
  first | go_big_quiet_on | (refine ⟨_, fun _ _ => rfl, ?_⟩; go_big_quiet_on)
  go_big_quiet_want
  go_big_quiet_op
  first | go_big_quiet_on | (refine ⟨_, fun _ _ => rfl, ?_⟩; go_big_quiet_on)
  go_big_quiet_want
  refine ⟨(.agg #[.int .i64 s.sch, .int .i64 s.dim, .slice AL s.L.length cL, .slice AV s.V.length cV, .int .i64 s.scale, .int .i64 s.wide, .slice AE s.lev.length cE, .slice AN s.neg.length cN]), fun W hW => ?_, ?_⟩
  · obtain ⟨x0, x1, x2, y0, y1, y2, y3, y4, y5, y6, y7, hz, hB⟩ := HC.out W hW
    go_simp
  simp only [Act.put, List.setIfInBounds_toArray, List.set_cons_zero, List.set_cons_succ]
  go_big_quiet_on
  go_big_quiet_want
  go_big_quiet_op
  go_big_quiet_call ((intro hW; refine (CM.out _ (HB.out _ hW)).mono ?_; rintro _ w' ⟨rfl, hb⟩; exact ⟨rfl, HK.out _ _ hW hb⟩))
  go_big_quiet_want
  go_big_quiet_op
  first | go_big_quiet_on | (refine ⟨_, fun _ _ => rfl, ?_⟩; go_big_quiet_on)
  go_big_quiet_want
  go_big_quiet_op
  first | go_big_quiet_on | (refine ⟨_, fun _ _ => rfl, ?_⟩; go_big_quiet_on)
  go_big_quiet_skip
  go_big_quiet_skip
  go_big_quiet_skip
  go_big_quiet_skip
  go_big_quiet_skip
  go_big_quiet_want
  go_big_quiet_op
  first | go_big_quiet_on | (refine ⟨_, fun _ _ => rfl, ?_⟩; go_big_quiet_on)
  go_big_quiet_want
  go_big_quiet_op
  first | go_big_quiet_on | (refine ⟨_, fun _ _ => rfl, ?_⟩; go_big_quiet_on)
  go_big_quiet_skip
  go_big_quiet_skip
  go_big_quiet_skip
  go_big_quiet_skip
  go_big_quiet_skip
  go_big_quiet_skip
  go_big_quiet_skip
  go_big_quiet_skip
  go_big_quiet_skip
  go_big_quiet_want
  go_big_quiet_op
  first | go_big_quiet_on | (refine ⟨_, fun _ _ => rfl, ?_⟩; go_big_quiet_on)
  go_big_quiet_want
  go_big_quiet_op
  first | go_big_quiet_on | (refine ⟨_, fun _ _ => rfl, ?_⟩; go_big_quiet_on)
  refine fun w' hw' => ?_
  have kk := HB.out w' hw'
  clear HI
  go_wp2_with fail
  go_ret
  exact ⟨rfl, kk⟩
theorem pm_chk {A : Option Addr} {c nv : Nat} (sch k wide : Int) (s : SentV) (AL AV AE AN : Option Addr) (cL cV cE cN : Nat) (w : World) (hnv : nv ≤ 9223372036854775807) (CC0 : ∀ W, Calls Tryz.prog 17 #[.agg #[.int .i64 sch, .int .i64 k, .int .i64 wide], .int .i64 (nv : Int)] W fun e w' => e = .returned (.int .i64 1) ∧ Below W.heap.size W w') :
    Calls Tryz.prog 26 #[.agg #[.int .i64 sch, .int .i64 k, .int .i64 wide], .slice A nv c, (.agg #[.int .i64 s.sch, .int .i64 s.dim, .slice AL s.L.length cL, .slice AV s.V.length cV, .int .i64 s.scale, .int .i64 s.wide, .slice AE s.lev.length cE, .slice AN s.neg.length cN])] w fun e w' => e = .returned (.bool false) ∧ Below w.heap.size w w' := by
  have CC := hid CC0
  clear CC0
  have BH := (BoxL.new w [.int .i64 sch, .int .i64 k, .int .i64 wide] 23).below (sg_up _ (.cells #[.int .i64 s.sch, .int .i64 s.dim, .slice AL s.L.length cL, .slice AV s.V.length cV, .int .i64 s.scale, .int .i64 s.wide, .slice AE s.lev.length cE, .slice AN s.neg.length cN] 32)) (by simp)
  have BS := box2 w (.cells #[.int .i64 sch, .int .i64 k, .int .i64 wide] 23) [.int .i64 s.sch, .int .i64 s.dim, .slice AL s.L.length cL, .slice AV s.V.length cV, .int .i64 s.scale, .int .i64 s.wide, .slice AE s.lev.length cE, .slice AN s.neg.length cN] 32
  have k0 : Below w.heap.size w ((w.alloc (.cells #[.int .i64 sch, .int .i64 k, .int .i64 wide] 23)).alloc (.cells #[.int .i64 s.sch, .int .i64 s.dim, .slice AL s.L.length cL, .slice AV s.V.length cV, .int .i64 s.scale, .int .i64 s.wide, .slice AE s.lev.length cE, .slice AN s.neg.length cN] 32)) := by go_grown
  obtain ⟨⟨f0, f1, f2, f3, f4, f5, f6, f7⟩, _⟩ := BS.eight
  have y0 := (BH 0 _ rfl).1
  have y1 := (BH 1 _ rfl).1
  have y2 := (BH 2 _ rfl).1
  simp only [List.toArray] at y0 y1 y2 f0 f1 f2 f3 f4 f5 f6 f7
  have hz0 : w.heap.size + 2 ≤ ((w.alloc (.cells #[.int .i64 sch, .int .i64 k, .int .i64 wide] 23)).alloc (.cells #[.int .i64 s.sch, .int .i64 s.dim, .slice AL s.L.length cL, .slice AV s.V.length cV, .int .i64 s.scale, .int .i64 s.wide, .slice AE s.lev.length cE, .slice AN s.neg.length cN] 32)).heap.size := by simp
  clear BH BS
  obtain ⟨C, hC⟩ : ∃ C : World → Prop, C = fun W => W.cell? ⟨w.heap.size, 0, none⟩ = some (.int .i64 sch) ∧ W.cell? ⟨w.heap.size, 1, none⟩ = some (.int .i64 k) ∧ W.cell? ⟨w.heap.size, 2, none⟩ = some (.int .i64 wide) ∧ W.cell? ⟨w.heap.size + 1, 0, none⟩ = some (.int .i64 s.sch) ∧ W.cell? ⟨w.heap.size + 1, 1, none⟩ = some (.int .i64 s.dim) ∧ W.cell? ⟨w.heap.size + 1, 2, none⟩ = some (.slice AL s.L.length cL) ∧ W.cell? ⟨w.heap.size + 1, 3, none⟩ = some (.slice AV s.V.length cV) ∧ W.cell? ⟨w.heap.size + 1, 4, none⟩ = some (.int .i64 s.scale) ∧ W.cell? ⟨w.heap.size + 1, 5, none⟩ = some (.int .i64 s.wide) ∧ W.cell? ⟨w.heap.size + 1, 6, none⟩ = some (.slice AE s.lev.length cE) ∧ W.cell? ⟨w.heap.size + 1, 7, none⟩ = some (.slice AN s.neg.length cN) ∧ w.heap.size + 2 ≤ W.heap.size ∧ Below w.heap.size w W := ⟨_, rfl⟩
  have HC : Hid (∀ W, C W → W.cell? ⟨w.heap.size, 0, none⟩ = some (.int .i64 sch) ∧ W.cell? ⟨w.heap.size, 1, none⟩ = some (.int .i64 k) ∧ W.cell? ⟨w.heap.size, 2, none⟩ = some (.int .i64 wide) ∧ W.cell? ⟨w.heap.size + 1, 0, none⟩ = some (.int .i64 s.sch) ∧ W.cell? ⟨w.heap.size + 1, 1, none⟩ = some (.int .i64 s.dim) ∧ W.cell? ⟨w.heap.size + 1, 2, none⟩ = some (.slice AL s.L.length cL) ∧ W.cell? ⟨w.heap.size + 1, 3, none⟩ = some (.slice AV s.V.length cV) ∧ W.cell? ⟨w.heap.size + 1, 4, none⟩ = some (.int .i64 s.scale) ∧ W.cell? ⟨w.heap.size + 1, 5, none⟩ = some (.int .i64 s.wide) ∧ W.cell? ⟨w.heap.size + 1, 6, none⟩ = some (.slice AE s.lev.length cE) ∧ W.cell? ⟨w.heap.size + 1, 7, none⟩ = some (.slice AN s.neg.length cN) ∧ w.heap.size + 2 ≤ W.heap.size ∧ Below w.heap.size w W) := hid (fun W h => by rw [hC] at h; exact h)
  have HK : Hid (∀ W W', C W → Below W.heap.size W W' → C W') := hid (fun W W' h hb => by rw [hC] at h ⊢; exact heldM h (hb.mono (heldMZ h)))
  have HI : C ((w.alloc (.cells #[.int .i64 sch, .int .i64 k, .int .i64 wide] 23)).alloc (.cells #[.int .i64 s.sch, .int .i64 s.dim, .slice AL s.L.length cL, .slice AV s.V.length cV, .int .i64 s.scale, .int .i64 s.wide, .slice AE s.lev.length cE, .slice AN s.neg.length cN] 32)).drew := by rw [hC]; exact ⟨y0, y1, y2, f0, f1, f2, f3, f4, f5, f6, f7, hz0, k0.drew⟩
  have HB : Hid (∀ W, C W → Below w.heap.size w W) := hid (fun W h => heldMB (HC.out W h))
  clear hC y0 y1 y2 f0 f1 f2 f3 f4 f5 f6 f7 hz0 k0
  go_enter Tryz.func26, Tryz.ntmps26
  go_wp2_with fail
  refine region_in (C := C) (by kernel_rfl) (by kernel_rfl) HI ?_
  go_big_quiet_want
  refine ⟨.agg #[.int .i64 sch, .int .i64 k, .int .i64 wide], fun W hW => ?_, ?_⟩
  · obtain ⟨x0, x1, x2, y0, y1, y2, y3, y4, y5, y6, y7, hz, hB⟩ := HC.out W hW
    go_simp
  simp only [Act.put, List.setIfInBounds_toArray, List.set_cons_zero, List.set_cons_succ]
  go_big_quiet_on
  go_big_quiet_want
  go_big_quiet_op
  first | go_big_quiet_on | (refine ⟨_, fun _ _ => rfl, ?_⟩; go_big_quiet_on)
  go_big_quiet_want
  go_big_quiet_op
  first | go_big_quiet_on | (refine ⟨_, fun _ _ => rfl, ?_⟩; go_big_quiet_on)
  go_big_quiet_want
  go_big_quiet_op
  go_big_quiet_call ((intro hW; refine (CC.out _).mono ?_; rintro _ w' ⟨rfl, hb⟩; exact ⟨rfl, HK.out _ _ hW hb⟩))
  go_big_quiet_want
  go_big_quiet_op
  first | go_big_quiet_on | (refine ⟨_, fun _ _ => rfl, ?_⟩; go_big_quiet_on)
  go_big_quiet_want
  go_big_quiet_op
  first | go_big_quiet_on | (refine ⟨_, fun _ _ => rfl, ?_⟩; go_big_quiet_on)
  go_big_quiet_skip
  go_big_quiet_skip
  go_big_quiet_want
  go_big_quiet_op
  first | go_big_quiet_on | (refine ⟨_, fun _ _ => rfl, ?_⟩; go_big_quiet_on)
  go_big_quiet_want
  go_big_quiet_op
  first | go_big_quiet_on | (refine ⟨_, fun _ _ => rfl, ?_⟩; go_big_quiet_on)
  go_big_quiet_skip
  go_big_quiet_skip
  go_big_quiet_skip
  go_big_quiet_skip
  go_big_quiet_skip
  go_big_quiet_want
  go_big_quiet_op
  first | go_big_quiet_on | (refine ⟨_, fun _ _ => rfl, ?_⟩; go_big_quiet_on)
  go_big_quiet_want
  go_big_quiet_op
  first | go_big_quiet_on | (refine ⟨_, fun _ _ => rfl, ?_⟩; go_big_quiet_on)
  go_big_quiet_skip
  go_big_quiet_skip
  go_big_quiet_skip
  go_big_quiet_skip
  go_big_quiet_skip
  go_big_quiet_skip
  go_big_quiet_skip
  go_big_quiet_skip
  go_big_quiet_skip
  go_big_quiet_want
  go_big_quiet_op
  first | go_big_quiet_on | (refine ⟨_, fun _ _ => rfl, ?_⟩; go_big_quiet_on)
  go_big_quiet_want
  go_big_quiet_op
  first | go_big_quiet_on | (refine ⟨_, fun _ _ => rfl, ?_⟩; go_big_quiet_on)
  refine fun w' hw' => ?_
  have kk := HB.out w' hw'
  clear HI
  go_wp2_with fail
  go_ret
  exact ⟨rfl, kk⟩
end Go.Proofs.YtecgbelgoomneaaGreat
