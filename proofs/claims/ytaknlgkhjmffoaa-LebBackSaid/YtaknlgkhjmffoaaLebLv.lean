
/- The chapter's examples; whether a text, and numbers, are short enough. -/
import Derived.Test.YtaknlgkhjmffoaaLebE
import Derived.Test.YtaknlgkhjmffoaaArg
namespace Go.Proofs.Ytaknlgkhjmffoaa
open Go.RowKit
set_option maxHeartbeats 400000
set_option linter.unusedVariables false
theorem cells_u8 : Try.prog.cellsOf 5 = 1 := by kernel_rfl
theorem cells_u64 : Try.prog.cellsOf 25 = 1 := by kernel_rfl
theorem cells_i64' : Try.prog.cellsOf 2 = 1 := by kernel_rfl
theorem few_yes (A : Option Addr) (n c : Nat) (m : Int) (hn : n ≤ 2000) (hm : m ≤ 500) (w : World) :
    Calls Try.prog 10 #[.slice A n c, .int .i64 m] w fun e w' => e = .returned (.bool true) ∧ w = w' := by
  go_enter Try.func10, Try.ntmps10
  go_wp2_with fail
  go_ret
  exact ⟨rfl, rfl⟩
theorem few_no (A : Option Addr) (n c : Nat) (m : Int) (hc : n ≤ 9223372036854775807) (h : ¬ (n ≤ 2000 ∧ m ≤ 500)) (w : World) :
    Calls Try.prog 10 #[.slice A n c, .int .i64 m] w fun e w' => e = .returned (.bool false) ∧ w = w' := by
  by_cases h1 : n ≤ 2000
  · have h2 : decide (m ≤ 500) = false := by simp; omega
    clear h
    go_enter Try.func10, Try.ntmps10
    go_wp2_with fail
    go_ret
    exact ⟨rfl, rfl⟩
  · have h2 : 2000 < n := by omega
    clear h h1
    go_enter Try.func10, Try.ntmps10
    go_wp2_with fail
    go_ret
    exact ⟨rfl, rfl⟩
theorem ref_Size (n : Int) (hn : U64 n) (w : World) :
    Calls Try.prog 17 #[.int .u64 n] w fun e w' => e = .returned (.int .i64 ((lebI n).length : Int)) ∧ Below w.heap.size w w' := by
  have CC := hid (ref_code n hn)
  obtain ⟨R, hR⟩ : ∃ R, lebI n = R := ⟨_, rfl⟩
  rw [hR] at CC ⊢
  clear hR
  go_enter Try.func17, Try.ntmps17
  go_wp2_with fail
  refine (CC.out _).mono ?_
  rintro _ w1 ⟨A, c, rfl, ho, hb⟩
  clear ho
  go_wp2_with fail
  go_ret
  exact ⟨rfl, hb⟩
theorem code_300 : encs [300] = [172, 2] := by
  rw [encs_one, lebI_more (by decide), lebI_last (by decide) (by decide)]
  rfl
theorem get_300 : getN [172, 2] 0 = 300 ∧ getA [172, 2] 0 = 2 ∧ getE [172, 2] 0 = 0 := by decide
theorem live_yes (w : World) :
    Calls Try.prog 9 #[] w fun e w' => e = .returned (.bool true) ∧ Below w.heap.size w w' := by
  have hr : Rd (Value.int .u64) (w.alloc (.cells #[.int .u64 300] 25)) (w.alloc (.cells #[.int .u64 300] 25)).heap.size (some ⟨w.heap.size, 0, none⟩) [300] := rd_one (one_cell w (.int .u64 300) 25).1
  have CP := hid (leb_Put (A := none) (c := 0) (d := 1) [] [300] (by decide) (by decide) (by intro x hx; simp at hx; subst hx; exact ⟨by decide, by decide⟩) _ Rd.none_ hr)
  rw [List.nil_append, code_300] at CP
  have CZ := hid (leb_Zig (-3) (by decide))
  rw [show zigI (-3) = 5 by decide] at CZ
  clear hr
  go_enter Try.func9, Try.ntmps9
  go_wp2_with fail
  refine CP.out.mono ?_
  rintro _ w1 ⟨A, c, rfl, ho, hb⟩
  have hr := own_rd ho
  obtain ⟨h1, h2⟩ := own_cap ho
  have CG := hid (leb_Get (A := A) (c := c) [172, 2] h1 h2 (by intro x hx; simp at hx; omega) 0 (by decide) w1 hr)
  rw [get_300.1, get_300.2.1, get_300.2.2] at CG
  obtain ⟨b1, o1, x, rfl, l1, ex, c1⟩ := hr.at_ (k := 0) (by decide)
  obtain rfl : 172 = x := by simpa using ex
  obtain ⟨b2, o2, y, e2, l2, ey, c2⟩ := hr.at_ (k := 1) (by decide)
  obtain rfl : 2 = y := by simpa using ey
  injection e2 with e2
  injection e2 with e2 e3
  subst e2 e3
  clear ho hr ex ey
  rw [Nat.add_zero] at c1
  rw [show ([172, 2] : List Int).length = 2 from rfl] at CG ⊢
  go_wp2_with fail
  refine CG.out.mono ?_
  rintro _ _ ⟨rfl, rfl⟩
  go_wp2_with fail
  refine (CZ.out _).mono ?_
  rintro _ _ ⟨rfl, rfl⟩
  go_wp2_with fail
  go_ret
  exact ⟨rfl, (one_cell w _ _).2.trans (hb.mono (by simp))⟩
end Go.Proofs.Ytaknlgkhjmffoaa
