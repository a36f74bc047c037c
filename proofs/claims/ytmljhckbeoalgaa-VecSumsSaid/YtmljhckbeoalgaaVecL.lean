
/- Number by number, and all added up: each number told by a function value. -/
import Derived.Test.YtmljhckbeoalgaaMem
import Derived.Test.YtmljhckbeoalgaaFixA
namespace Go.Proofs.Ytmljhckbeoalgaa
open Go.RowKit
set_option maxHeartbeats 400000
set_option linter.unusedVariables false
theorem list_any (K : FuncId) (caps : Array Value) (n : Nat) (hn : n ≤ 4096) (w : World) (num : Nat → Int × Int)
   (hK : ∀ (args : Array Value) (W : World), (callFunc K args).run Try.prog W = .ok (.enter K args) W)
   (H : ∀ k, k < n → ∀ W, Below w.heap.size w W → Calls Try.prog K (#[.int .i64 k] ++ caps) W fun e w' => e = .returned (.tuple #[.int .i64 (num k).1, .int .i64 (num k).2]) ∧ Below W.heap.size W w') :
    Calls Try.prog 37 #[.int .i64 n, .func (.func K) #[] caps] w (OwnInts (seqV num n) (seqE num n) w) := by
  have hmk := fun W => run_make_row' (P := Try.prog) 22 2 (.int .i64 0) 8 Try.underlying22 info_i64 rfl .i64 .i64 n (by omega) (by omega) W
  have HH := hid H
  clear H
  go_enter Try.func37, Try.ntmps37
  go_wp2_with fail
  go_loopw [14] (fun i wr => ∃ k : Nat, k ≤ n ∧ i = .int .i64 k ∧ seqE num k = 0 ∧ wr.rowIs w.heap.size 2 n (fun j => if j < k then .int .i64 (num j).1 else .int .i64 0) ∧ Below w.heap.size w wr) (fun i _ => n - (intOf i).toNat)
  case atStart => exact ⟨0, by omega, rfl, rfl, by simpa using World.rowIs_made w (.int .i64 0) n _, by go_grown⟩
  case round =>
    obtain ⟨k, hk, rfl, hs, hrow, hbel⟩ := hrel
    have hz := hrow.lt
    clear hmk
    have HS := hid hs
    clear hs
    by_cases hlt : k < n
    · have h := HH.out k hlt wr hbel
      obtain ⟨x, hx⟩ : ∃ x, (num k).1 = x := ⟨_, rfl⟩
      obtain ⟨er, he⟩ : ∃ x, (num k).2 = x := ⟨_, rfl⟩
      rw [hx, he] at h
      have HX := hid hx
      have HE := hid he
      clear hx he
      go_wp2_with fail
      refine h.mono ?_
      clear h
      rintro _ w1 ⟨rfl, hb1⟩
      have hbel1 := hbel.trans (hb1.mono (Nat.le_of_lt hz))
      have hrow1 := hrow.of_block (hb1.block _ hz)
      have hz1 := hrow1.lt
      have c1 := hrow1.cell hlt
      rw [if_neg (Nat.lt_irrefl k)] at c1
      have f1 := hrow1.frozen k
      by_cases her : er = 0
      · subst her
        go_wp2_with fail
        go_roundw
        case rel =>
          refine ⟨k + 1, by omega, by go_num, by unfold seqE; rw [if_pos HS.out, HE.out], ?_, hbel1.setCell (Nat.le_refl _) _⟩
          refine (hrow1.set k (.int .i64 x)).congr fun j hj => ?_
          by_cases e : j = k
          · subst e
            rw [if_pos rfl, if_pos (by omega), HX.out]
          · rw [if_neg e]
            by_cases e2 : j < k
            · rw [if_pos e2, if_pos (by omega)]
            · rw [if_neg e2, if_neg (by omega)]
        case measure => simp [intOf]; omega
      · have hne : (er != 0) = true := by simpa using her
        go_wp2_with fail
        go_ret2
        have e1 : seqE num (k + 1) = er := by unfold seqE; rw [if_pos HS.out, HE.out]
        have e2 : seqE num n = er := by rw [seqE_stays (by rw [e1]; exact her) n hlt, e1]
        have e3 : seqV num n = [] := by unfold seqV; rw [e2, if_neg her]
        rw [e2, e3]
        exact ⟨none, 0, rfl, own_nil _ _ _, hbel1⟩
    · obtain rfl : k = n := by omega
      go_wp2_with fail
      go_ret2
      have e2 := HS.out
      have e3 : seqV num k = (List.range k).map fun k => (num k).1 := by unfold seqV; rw [e2, if_pos rfl]
      rw [e2, e3]
      refine ⟨some ⟨w.heap.size, 0, none⟩, k, by simp, ?_, hbel⟩
      have := own_made (B := w.heap.size) (w' := w) (hrow.congr (g := fun j => .int .i64 (num j).1) fun i hi => by rw [if_pos hi]) (Nat.le_refl _) (by unfold maxLen; omega)
      simpa [Function.comp_def] using this
theorem total_any (K : FuncId) (caps : Array Value) (n : Nat) (hn : n ≤ 4096) (w : World) (num : Nat → Int × Int)
   (hK : ∀ (args : Array Value) (W : World), (callFunc K args).run Try.prog W = .ok (.enter K args) W) (hI : ∀ k, k < n → I64 (num k).1)
   (H : ∀ k, k < n → ∀ W, Below w.heap.size w W → Calls Try.prog K (#[.int .i64 k] ++ caps) W fun e w' => e = .returned (.tuple #[.int .i64 (num k).1, .int .i64 (num k).2]) ∧ Below W.heap.size W w') :
    Calls Try.prog 53 #[.int .i64 n, .func (.func K) #[] caps] w fun e w' => e = .returned (.tuple #[.int .i64 (tot num n).1, .int .i64 (tot num n).2]) ∧ Below w.heap.size w w' := by
  have HH := hid H
  have HI := hid hI
  clear H hI
  go_enter Try.func53, Try.ntmps53
  go_wp2_with fail
  go_loopw [6, 11] (fun s i wr => ∃ (k : Nat) (S : Int), k ≤ n ∧ i = .int .i64 k ∧ s = .int .i64 S ∧ I64 S ∧ tot num k = (S, 0) ∧ Below w.heap.size w wr) (fun _ i _ => n - (intOf i).toNat)
  case atStart => exact ⟨0, 0, by omega, rfl, rfl, by decide, rfl, by go_grown⟩
  case round =>
    obtain ⟨k, S, hk, rfl, rfl, hS, hs, hbel⟩ := hrel
    have HS := hid hs
    clear hs
    by_cases hlt : k < n
    · have h := HH.out k hlt wr hbel
      have hX := HI.out k hlt
      obtain ⟨x, hx⟩ : ∃ x, (num k).1 = x := ⟨_, rfl⟩
      obtain ⟨er, he⟩ : ∃ x, (num k).2 = x := ⟨_, rfl⟩
      rw [hx, he] at h
      rw [hx] at hX
      have HX := hid hx
      have HE := hid he
      clear hx he
      go_wp2_with fail
      refine h.mono ?_
      clear h
      rintro _ w1 ⟨rfl, hb1⟩
      have hbel1 := hbel.trans (hb1.mono hbel.size)
      by_cases her : er = 0
      · subst her
        have hA := fix_Add S x hS hX
        by_cases hin : I64 (S + x)
        · rw [ckV_in hin, ckE_in hin] at hA
          obtain ⟨T, hT⟩ : ∃ T, S + x = T := ⟨_, rfl⟩
          rw [hT] at hA hin
          have HT := hid hT
          have HA := hid hA
          clear hA hT
          go_wp2_with fail
          refine (HA.out _).mono ?_
          rintro _ _ ⟨rfl, rfl⟩
          go_wp2_with fail
          go_roundw
          case rel =>
            refine ⟨k + 1, T, by omega, by go_num, rfl, hin, ?_, hbel1⟩
            simp only [tot, HS.out, HE.out, HX.out, HT.out, if_pos, ckV_in hin, ckE_in hin]
          case measure => simp [intOf]; omega
        · rw [ckV_out hin, ckE_out hin] at hA
          have HA := hid hA
          clear hA
          go_wp2_with fail
          refine (HA.out _).mono ?_
          rintro _ _ ⟨rfl, rfl⟩
          go_wp2_with fail
          go_ret2
          have e1 : tot num (k + 1) = (0, 2) := by simp only [tot, HS.out, HE.out, HX.out, if_pos, ckV_out hin, ckE_out hin]
          rw [tot_stays (k := k + 1) (by rw [e1]; decide) n hlt, e1]
          exact ⟨rfl, hbel1⟩
      · have hne : (er != 0) = true := by simpa using her
        go_wp2_with fail
        go_ret2
        have e1 : tot num (k + 1) = (0, er) := by simp only [tot, HS.out, HE.out, if_pos, if_neg her]
        rw [tot_stays (k := k + 1) (by rw [e1]; exact her) n hlt, e1]
        exact ⟨rfl, hbel1⟩
    · obtain rfl : k = n := by omega
      go_wp2_with fail
      go_ret2
      rw [HS.out]
      exact ⟨rfl, hbel⟩
end Go.Proofs.Ytmljhckbeoalgaa
