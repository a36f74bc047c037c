
/- Widths, bytes, whether numbers may be packed; bits put into bytes, by the document. -/
import Derived.Test.YtgkkliibeiklbaaPlN
import Derived.Test.YtgkkliibeiklbaaSame
import Derived.Test.YtgkkliibeiklbaaApp
import Derived.RegionTactic
import Derived.ChangeAlike
namespace Go.Proofs.Ytgkkliibeiklbaa
open Go.RowKit
set_option maxHeartbeats 400000
set_option linter.unusedVariables false
theorem info_bool : (Try.prog.info? 4).map (fun i => (i.zero, i.size, i.bytes)) = some (some (.bool false), 1, 1) := by kernel_rfl
theorem wdt_zero : wdt 0 = 0 := by decide
theorem wdt_half {n : Int} (h0 : 0 < n) (h : n ≤ 18446744073709551615) : wdt n = 1 + wdt (n / 2) := by
  unfold wdt
  rw [Lib.bitLen_half n.toNat (by omega) (by omega)]
  congr 2
  omega
theorem wdt_64 {n : Int} (hn : U64 n) : wdt n ≤ 64 := by
  rw [wdt_le hn (by omega)]
  unfold U64 at hn
  have : (2 : Int) ^ 64 = 18446744073709551616 := by decide
  omega
theorem ref_Width (n : Int) (hn : U64 n) (w : World) :
    Calls Try.prog 43 #[.int .u64 n] w fun e w' => e = .returned (.int .i64 (wdt n : Int)) ∧ w = w' := by
  have hle := wdt_64 hn
  obtain ⟨R, hR⟩ : ∃ R, wdt n = R := ⟨_, rfl⟩
  rw [hR] at hle ⊢
  have HR := hid hR
  unfold U64 at hn
  clear hR
  go_enter Try.func43, Try.ntmps43
  go_wp2_with fail
  go_loop [0, 3] (fun m s => ∃ (x : Int) (k : Nat), 0 ≤ x ∧ x ≤ 18446744073709551615 ∧ m = .int .u64 x ∧ s = .int .i64 k ∧ k + wdt x = R) (fun m _ => (intOf m).toNat)
  case atStart => exact ⟨n, 0, hn.1, hn.2, rfl, rfl, by rw [HR.out]; omega⟩
  case round =>
    obtain ⟨x, k, h0, h1, rfl, rfl, hs⟩ := hrel
    have hk : k ≤ 64 := by omega
    have HS := hid hs
    clear hs
    by_cases hlt : 0 < x
    · have HN : Hid (k + 1 + wdt (x / 2) = R) := hid (by have h := HS.out; rw [wdt_half hlt h1] at h; omega)
      go_wp2_with fail
      go_round
      case rel => exact ⟨x / 2, k + 1, by omega, by omega, rfl, by go_num, HN.out⟩
      case measure => simp [intOf]; omega
    · obtain rfl : x = 0 := by omega
      have HN : Hid (k = R) := hid (by have h := HS.out; rw [wdt_zero] at h; omega)
      go_wp2_with fail
      go_ret
      rw [HN.out]
      exact ⟨rfl, rfl⟩
theorem ref_Bytes (wd many : Int) (hw : I64 wd) (hm : I64 many) (w : World) :
    Calls Try.prog 39 #[.int .i64 wd, .int .i64 many] w fun e w' => e = .returned (.tuple #[.int .i64 (bysV wd many), .int .i64 (bysE wd many)]) ∧ w = w' := by
  unfold I64 at hw hm
  unfold bysV bysE
  by_cases h1 : wd < 0 ∨ 32 < wd ∨ many < 0
  · rw [if_pos h1, if_neg (by decide)]
    by_cases a : wd < 0
    · clear h1
      go_enter Try.func39, Try.ntmps39
      go_wp2_with fail
      go_ret2
      exact ⟨rfl, rfl⟩
    · by_cases b : 32 < wd
      · clear h1
        go_enter Try.func39, Try.ntmps39
        go_wp2_with fail
        go_ret2
        exact ⟨rfl, rfl⟩
      · have c : many < 0 := by omega
        clear h1
        go_enter Try.func39, Try.ntmps39
        go_wp2_with fail
        go_ret2
        exact ⟨rfl, rfl⟩
  · rw [if_neg h1]
    have a : 0 ≤ wd := by omega
    have b : wd ≤ 32 := by omega
    have c : 0 ≤ many := by omega
    by_cases h2 : 4096 < many
    · rw [if_pos h2, if_neg (by decide)]
      clear h1
      go_enter Try.func39, Try.ntmps39
      go_wp2_with fail
      go_ret2
      exact ⟨rfl, rfl⟩
    · rw [if_neg h2, if_pos rfl]
      have hp : 0 ≤ wd * many ∧ wd * many ≤ 131072 := by
        have h3 := Int.mul_nonneg a c
        have h4 := Int.mul_le_mul b (show many ≤ 4096 by omega) c (by decide)
        omega
      obtain ⟨q, hq⟩ : ∃ q, wd * many = q := ⟨_, rfl⟩
      rw [hq] at hp ⊢
      clear h1
      go_enter Try.func39, Try.ntmps39
      go_wp2_with fail
      go_ret2
      exact ⟨rfl, rfl⟩
theorem fits_take {wd : Int} {l : List Int} : fitsB wd l = true → ∀ k, fitsB wd (l.take k) = true := fun h k => by
  unfold fitsB at *
  rw [List.all_eq_true] at *
  exact fun n hn => h n (List.mem_of_mem_take hn)
theorem fits_no {wd : Int} {l : List Int} {k : Nat} {x : Int} (hx : l[k]? = some x) (h : wd < (wdt x : Int)) : fitsB wd l = false := by
  cases hb : fitsB wd l with
  | false => rfl
  | true =>
    unfold fitsB at hb
    rw [List.all_eq_true] at hb
    have := of_decide_eq_true (hb x (List.mem_of_getElem? hx))
    omega
theorem fits_step {wd : Int} {l : List Int} {k : Nat} {x : Int} (hx : l[k]? = some x) (h : (wdt x : Int) ≤ wd) (ht : fitsB wd (l.take k) = true) : fitsB wd (l.take (k + 1)) = true := by
  unfold fitsB at *
  rw [List.take_add_one, hx, List.all_append, ht]
  simpa using h
theorem ref_may {A : Option Addr} {c : Nat} (wd : Int) (l : List Int) (hw : I64 wd) (hl : l.length ≤ 9223372036854775807) (ul : U64s l) (w : World) {B : Nat} (ra : Rd (Value.int .u64) w B A l) :
    Calls Try.prog 50 #[.int .i64 wd, .slice A l.length c] w fun e w' => e = .returned (.int .i64 (mayE wd l)) ∧ w = w' := by
  have CB := hid (ref_Bytes wd l.length hw (by unfold I64; omega))
  by_cases h : bysE wd l.length = 0
  · have hwd := (bys_ok h).1
    have hM : mayE wd l = if fitsB wd l = true then 0 else 1 := if_pos h
    rw [h] at CB
    obtain ⟨V, hV⟩ : ∃ V, bysV wd l.length = V := ⟨_, rfl⟩
    rw [hV] at CB
    have HM := hid hM
    have RA := hid ra
    have UL := hid ul
    obtain ⟨E, hE⟩ : ∃ E, mayE wd l = E := ⟨_, rfl⟩
    rw [hE] at HM ⊢
    clear h hM hV ra ul hE
    go_enter Try.func50, Try.ntmps50
    go_wp2_with fail
    refine (CB.out _).mono ?_
    rintro _ _ ⟨rfl, rfl⟩
    go_wp2_with fail
    go_loop [8, 21] (fun m i => ∃ (k : Nat), k ≤ l.length ∧ i = .int .i64 k ∧ fitsB wd (l.take k) = true) (fun _ i => l.length - (intOf i).toNat)
    case atStart => exact ⟨0, by omega, rfl, by rw [List.take_zero]; rfl⟩
    case round =>
      obtain ⟨k, hk, rfl, hs⟩ := hrel
      have HS := hid hs
      clear hs
      by_cases hlt : k < l.length
      · obtain ⟨b1, o1, x, rfl, l1, ex, c1⟩ := RA.out.at_ hlt
        have CW := hid (ref_Width x (UL.out.at_ ex))
        have hle := wdt_64 (UL.out.at_ ex)
        have HF : Hid ((wd < (wdt x : Int) → fitsB wd l = false) ∧ ((wdt x : Int) ≤ wd → fitsB wd (l.take (k + 1)) = true)) := hid ⟨fits_no ex, fun h => fits_step ex h HS.out⟩
        obtain ⟨z, hz⟩ : ∃ z, wdt x = z := ⟨_, rfl⟩
        rw [hz] at CW HF hle
        clear ex hz
        by_cases hgt : wd < (z : Int)
        · go_wp2_with fail
          refine (CW.out _).mono ?_
          rintro _ _ ⟨rfl, rfl⟩
          go_wp2_with fail
          go_ret
          rw [HM.out, HF.out.1 hgt]
          exact ⟨rfl, rfl⟩
        · have hle2 : (z : Int) ≤ wd := by omega
          go_wp2_with fail
          refine (CW.out _).mono ?_
          rintro _ _ ⟨rfl, rfl⟩
          go_wp2_with fail
          go_round
          case rel => exact ⟨k + 1, by omega, by go_num, HF.out.2 hle2⟩
          case measure => simp [intOf]; omega
      · have HL : Hid (fitsB wd l = true) := hid (by have h := HS.out; rw [List.take_of_length_le (by omega)] at h; exact h)
        obtain rfl : k = l.length := by omega
        go_wp2_with fail
        go_ret
        rw [HM.out, if_pos HL.out]
        exact ⟨rfl, rfl⟩
  · have hM : mayE wd l = bysE wd l.length := if_neg h
    rw [hM]
    obtain ⟨E, hE⟩ : ∃ E, bysE wd l.length = E := ⟨_, rfl⟩
    obtain ⟨V, hV⟩ : ∃ V, bysV wd l.length = V := ⟨_, rfl⟩
    rw [hE] at CB h ⊢
    rw [hV] at CB
    have hne : (E != 0) = true := by simpa using h
    clear h hM hE hV ra ul
    go_enter Try.func50, Try.ntmps50
    go_wp2_with fail
    refine (CB.out _).mono ?_
    rintro _ _ ⟨rfl, rfl⟩
    go_wp2_with fail
    go_ret
    exact ⟨rfl, rfl⟩
end Go.Proofs.Ytgkkliibeiklbaa
