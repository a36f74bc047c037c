
/- Number by number, and all added up: each number told by a function value. -/
import Derived.Test.YtnokomlekndgfaaWd
import Derived.Test.YtnokomlekndgfaaFixA
namespace Go.Proofs.Ytnokomlekndgfaa
open Go.RowKit
set_option maxHeartbeats 400000
set_option maxRecDepth 100000
set_option linter.unusedVariables false
theorem total_any (K : FuncId) (caps : Array Value) (n : Nat) (hn : n ≤ 4096) (w : World) (num : Nat → Int × Int)
   (hK : ∀ (args : Array Value) (W : World), (callFunc K args).run Try.prog W = .ok (.enter K args) W) (hI : ∀ k, k < n → I64 (num k).1)
   (H : ∀ k, k < n → ∀ W, Below w.heap.size w W → Calls Try.prog K (#[.int .i64 k] ++ caps) W fun e w' => e = .returned (.tuple #[.int .i64 (num k).1, .int .i64 (num k).2]) ∧ Below W.heap.size W w') :
    Calls Try.prog 42 #[.int .i64 n, .func (.func K) #[] caps] w fun e w' => e = .returned (.tuple #[.int .i64 (tot num n).1, .int .i64 (tot num n).2]) ∧ Below w.heap.size w w' := by
  have HH := hid H
  have HI := hid hI
  clear H hI
  go_enter Try.func42, Try.ntmps42
  go_wp2_with fail
  go_loopw [6, 11] (fun s i wr => ∃ (k : Nat) (S : Int), k ≤ n ∧ i = .int .i64 k ∧ s = .int .i64 S ∧ I64 S ∧ tot num k = (S, 0) ∧ Below w.heap.size w wr) (fun _ i _ => n - (intOf i).toNat)
  case atStart => exact ⟨0, 0, by omega, rfl, rfl, by decide, rfl, by go_grown⟩
  case round =>
    obtain ⟨k, S, hk, rfl, rfl, hS, hs, hbel⟩ := hrel
    have HS := hid hs
    clear hs
    by_cases hlt : k < n
    · have h := HH.out k hlt wr hbel
      have hX := HI.out k hlt
      obtain ⟨x, hx⟩ : ∃ x, (num k).1 = x := ⟨_, rfl⟩
      obtain ⟨er, he⟩ : ∃ x, (num k).2 = x := ⟨_, rfl⟩
      rw [hx, he] at h
      rw [hx] at hX
      have HX := hid hx
      have HE := hid he
      clear hx he
      go_wp2_with fail
      refine h.mono ?_
      clear h
      rintro _ w1 ⟨rfl, hb1⟩
      have hbel1 := hbel.trans (hb1.mono hbel.size)
      by_cases her : er = 0
      · subst her
        have hA := fix_Add S x hS hX
        by_cases hin : I64 (S + x)
        · rw [ckV_in hin, ckE_in hin] at hA
          obtain ⟨T, hT⟩ : ∃ T, S + x = T := ⟨_, rfl⟩
          rw [hT] at hA hin
          have HT := hid hT
          have HA := hid hA
          clear hA hT
          go_wp2_with fail
          refine (HA.out _).mono ?_
          rintro _ _ ⟨rfl, rfl⟩
          go_wp2_with fail
          go_roundw
          case rel =>
            refine ⟨k + 1, T, by omega, by go_num, rfl, hin, ?_, hbel1⟩
            simp only [tot, HS.out, HE.out, HX.out, HT.out, if_pos, ckV_in hin, ckE_in hin]
          case measure => simp [intOf]; omega
        · rw [ckV_out hin, ckE_out hin] at hA
          have HA := hid hA
          clear hA
          go_wp2_with fail
          refine (HA.out _).mono ?_
          rintro _ _ ⟨rfl, rfl⟩
          go_wp2_with fail
          go_ret2
          have e1 : tot num (k + 1) = (0, 2) := by simp only [tot, HS.out, HE.out, HX.out, if_pos, ckV_out hin, ckE_out hin]
          rw [tot_stays (k := k + 1) (by rw [e1]; decide) n hlt, e1]
          exact ⟨rfl, hbel1⟩
      · have hne : (er != 0) = true := by simpa using her
        go_wp2_with fail
        go_ret2
        have e1 : tot num (k + 1) = (0, er) := by simp only [tot, HS.out, HE.out, if_pos, if_neg her]
        rw [tot_stays (k := k + 1) (by rw [e1]; exact her) n hlt, e1]
        exact ⟨rfl, hbel1⟩
    · obtain rfl : k = n := by omega
      go_wp2_with fail
      go_ret2
      rw [HS.out]
      exact ⟨rfl, hbel⟩
end Go.Proofs.Ytnokomlekndgfaa
