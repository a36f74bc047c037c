
/- The program's widths, bytes, single bits, and places as function values. -/
import Derived.Test.YtgkkliibeiklbaaPlO
import Derived.Test.YtgkkliibeiklbaaShelf
import Derived.Test.YtgkkliibeiklbaaFun
import Derived.RegionTactic
import Derived.ChangeAlike
import Derived.Deep.QuietTactic
import Derived.BigQuiet
import Derived.StillTailTactics
import Derived.Deep.RegionHeld3
namespace Go.Proofs.Ytgkkliibeiklbaa
open Go.RowKit
set_option maxHeartbeats 400000
set_option linter.unusedVariables false
theorem pl_Width (n : Int) (hn : U64 n) (w : World) :
    Calls Try.prog 42 #[.int .u64 n] w fun e w' => e = .returned (.int .i64 (wdt n : Int)) ∧ w = w' := by
  unfold U64 at hn
  have CL := hid (Try.bits_Len64 n w hn.1 hn.2)
  rw [show (Lib.bitLen n.toNat : Int) = (wdt n : Int) from rfl] at CL
  obtain ⟨R, hR⟩ : ∃ R, wdt n = R := ⟨_, rfl⟩
  rw [hR] at CL ⊢
  clear hR
  go_enter Try.func42, Try.ntmps42
  go_wp2_with fail
  refine CL.out.mono ?_
  rintro _ _ ⟨rfl, rfl⟩
  go_wp2_with fail
  go_ret
  exact ⟨rfl, rfl⟩
theorem pl_Bytes (wd many : Int) (hw : I64 wd) (hm : I64 many) (w : World) :
    Calls Try.prog 38 #[.int .i64 wd, .int .i64 many] w fun e w' => e = .returned (.tuple #[.int .i64 (bysV wd many), .int .i64 (bysE wd many)]) ∧ w = w' := by
  unfold I64 at hw hm
  unfold bysV bysE
  by_cases h1 : wd < 0 ∨ 32 < wd ∨ many < 0
  · rw [if_pos h1, if_neg (by decide)]
    by_cases a : wd < 0
    · clear h1
      go_enter Try.func38, Try.ntmps38
      go_wp2_with fail
      go_ret2
      exact ⟨rfl, rfl⟩
    · by_cases b : 32 < wd
      · clear h1
        go_enter Try.func38, Try.ntmps38
        go_wp2_with fail
        go_ret2
        exact ⟨rfl, rfl⟩
      · have c : many < 0 := by omega
        clear h1
        go_enter Try.func38, Try.ntmps38
        go_wp2_with fail
        go_ret2
        exact ⟨rfl, rfl⟩
  · rw [if_neg h1]
    have a : 0 ≤ wd := by omega
    have b : wd ≤ 32 := by omega
    have c : 0 ≤ many := by omega
    by_cases h2 : 4096 < many
    · rw [if_pos h2, if_neg (by decide)]
      clear h1
      go_enter Try.func38, Try.ntmps38
      go_wp2_with fail
      go_ret2
      exact ⟨rfl, rfl⟩
    · rw [if_neg h2, if_pos rfl]
      have hp : 0 ≤ wd * many ∧ wd * many ≤ 131072 := by
        have h3 := Int.mul_nonneg a c
        have h4 := Int.mul_le_mul b (show many ≤ 4096 by omega) c (by decide)
        omega
      obtain ⟨q, hq⟩ : ∃ q, wd * many = q := ⟨_, rfl⟩
      rw [hq] at hp ⊢
      have e8 : q + 8 - 1 = q + 7 := by omega
      clear h1
      go_enter Try.func38, Try.ntmps38
      go_wp2_with fail
      go_ret2
      exact ⟨rfl, rfl⟩
theorem pl_shift (p : Nat) (hp : p ≤ 1000000) (w : World) :
    Calls Try.prog 59 #[.int .i64 (p : Int)] w fun e w' => e = .returned (.int .i64 ((7 - p % 8 : Nat) : Int)) ∧ w = w' := by
  obtain ⟨s, hs⟩ : ∃ s, 7 - p % 8 = s := ⟨_, rfl⟩
  rw [hs]
  have e1 : (7 : Int) - (p : Int) % 8 = (s : Int) := by omega
  clear hs
  go_enter Try.func59, Try.ntmps59
  go_wp2_with fail
  go_ret
  exact ⟨rfl, rfl⟩
theorem pl_one {A : Option Addr} {c : Nat} (b : List Int) (hb : b.length ≤ 100000) (ub : U8s b) (p : Nat) (hp : p < 8 * b.length) (w : World) {B : Nat} (ra : Rd (Value.int .u8) w B A b) :
    Calls Try.prog 63 #[.slice A b.length c, .int .i64 (p : Int)] w fun e w' => e = .returned (.int .u8 (b2 (fB b p))) ∧ ∃ n, w' = w.drewN n := by
  obtain ⟨b1, o1, x, rfl, l1, ex, c1⟩ := ra.at_ (show p / 8 < b.length by omega)
  obtain ⟨x0, x1⟩ := ub.at_ ex
  have CS := hid (pl_shift p (by omega))
  have e1 := and_u8 x0 x1 (7 - p % 8)
  have e2 : bt x (7 - p % 8) = fB b p := by unfold fB; rw [getD_of ex]
  rw [e2] at e1
  obtain ⟨s, hs⟩ : ∃ s, 7 - p % 8 = s := ⟨_, rfl⟩
  have hs7 : s ≤ 7 := by omega
  obtain ⟨R, hR⟩ : ∃ R, b2 (fB b p) = R := ⟨_, rfl⟩
  rw [hs] at CS e1
  rw [hR] at e1 ⊢
  obtain ⟨n, hn⟩ : ∃ n, b.length = n := ⟨_, rfl⟩
  rw [hn] at hb hp ⊢
  have hq1 : (0 : Int) ≤ (p : Int) / 8 := by omega
  have hq2 : (p : Int) / 8 < (n : Int) := by omega
  clear ex hs hR e2 ra ub hn
  go_enter Try.func63, Try.ntmps63
  go_wp2_with fail
  go_quiet ((go_at_call 59; exact quietL CS.out _))
  go_wp2_with fail
  go_ret
  exact ⟨rfl, _, rfl⟩
theorem tlB_no {n : Nat} {b : List Int} {p : Nat} (h : fB b p = true) (h1 : n ≤ p) (h2 : p < 8 * b.length) : tlB n b = false := by
  cases ht : tlB n b with
  | false => rfl
  | true =>
    have := (tlB_iff n b).1 ht p h1 h2
    rw [h] at this
    exact this
theorem pl_left {A : Option Addr} {c : Nat} (b : List Int) (hb : b.length ≤ 100000) (ub : U8s b) (n : Nat) (hn : n ≤ 8 * b.length) (w : World) {B : Nat} (ra : Rd (Value.int .u8) w B A b) :
    Calls Try.prog 62 #[.slice A b.length c, .int .i64 (n : Int)] w fun e w' => e = .returned (.bool (!tlB n b)) ∧ ∃ m, w' = w.drewN m := by
  have HO := hid (fun p (hp : p < 8 * b.length) W hW => pl_one (A := A) (c := c) b hb ub p hp W (B := B) hW)
  have HT : Hid (∀ p, n ≤ p → p < 8 * b.length → fB b p = true → tlB n b = false) := hid (fun p h1 h2 h => tlB_no h h1 h2)
  have HY := hid (tlB_iff n b).2
  obtain ⟨R, hR⟩ : ∃ R, tlB n b = R := ⟨_, rfl⟩
  rw [hR] at HT HY ⊢
  obtain ⟨f, hf⟩ : ∃ f, fB b = f := ⟨_, rfl⟩
  rw [hf] at HT HO HY
  obtain ⟨N, hN⟩ : ∃ N, b.length = N := ⟨_, rfl⟩
  rw [hN] at HO HT HY hb hn ⊢
  have RA := hid ra
  clear hR hf hN ub ra
  go_enter Try.func62, Try.ntmps62
  go_wp2_with fail
  go_loopw [5] (fun s wr => ∃ p : Nat, n ≤ p ∧ p ≤ 8 * N ∧ s = .int .i64 p ∧ (∀ q, n ≤ q → q < p → f q = false) ∧ ∃ m, wr = w.drewN m) (fun s _ => 8 * N - (intOf s).toNat)
  case atStart => exact ⟨n, Nat.le_refl _, hn, rfl, by intro q h1 h2; omega, 0, rfl⟩
  case round =>
    obtain ⟨p, hp0, hp, rfl, hs, m, rfl⟩ := hrel
    have HS := hid hs
    clear hs
    by_cases hlt : p < 8 * N
    · have C := hid (HO.out p hlt (w.drewN m) RA.out)
      have hTp := HT.out p hp0 hlt
      obtain ⟨v, hv⟩ : ∃ v, f p = v := ⟨_, rfl⟩
      rw [hv] at C hTp
      have HV := hid hv
      clear hv
      cases v with
      | true =>
        have hR := hTp rfl
        subst hR
        go_wp2_with fail
        refine C.out.mono ?_
        rintro _ _ ⟨rfl, m2, rfl⟩
        go_wp2_with fail
        go_ret
        exact ⟨rfl, _, rfl⟩
      | false =>
        clear hTp
        go_wp2_with fail
        refine C.out.mono ?_
        rintro _ _ ⟨rfl, m2, rfl⟩
        go_wp2_with fail
        go_roundw
        case rel =>
          refine ⟨p + 1, by omega, by omega, by go_num, ?_, m + m2, by simp⟩
          intro q h1 h2
          by_cases e : q = p
          · rw [e]; exact HV.out
          · exact HS.out q h1 (by omega)
        case measure => simp [intOf]; omega
    · have hR : R = true := HY.out (fun q h1 h2 => HS.out q h1 (by omega))
      subst hR
      go_wp2_with fail
      go_ret
      exact ⟨rfl, _, rfl⟩
theorem side_cl {p i j k P : Nat} {w : World} (hc : w.cell? ⟨p, 0, none⟩ = some (.int .i64 (k : Int))) (hP : i * k + j = P) (h1 : P ≤ 1000000) :
    Calls Try.prog 60 (#[.int .i64 (i : Int), .int .i64 (j : Int)] ++ #[.pointer (some ⟨p, 0, none⟩)]) w fun e w' => e = .returned (.int .i64 (P : Int)) ∧ w = w' := by
  obtain ⟨q, hq⟩ : ∃ q, i * k = q := ⟨_, rfl⟩
  have hm : (i : Int) * (k : Int) = (q : Int) := by rw [← hq, Int.natCast_mul]
  have hs : (q : Int) + (j : Int) = (P : Int) := by omega
  clear hq hP
  go_enter Try.func60, Try.ntmps60
  go_wp2_with fail
  go_ret
  exact ⟨rfl, rfl⟩
theorem plane_cl {p i j m P : Nat} {w : World} (hc : w.cell? ⟨p, 0, none⟩ = some (.int .i64 (m : Int))) (hP : j * m + i = P) (h1 : P ≤ 1000000) :
    Calls Try.prog 61 (#[.int .i64 (i : Int), .int .i64 (j : Int)] ++ #[.pointer (some ⟨p, 0, none⟩)]) w fun e w' => e = .returned (.int .i64 (P : Int)) ∧ w = w' := by
  obtain ⟨q, hq⟩ : ∃ q, j * m = q := ⟨_, rfl⟩
  have hm : (j : Int) * (m : Int) = (q : Int) := by rw [← hq, Int.natCast_mul]
  have hs : (q : Int) + (i : Int) = (P : Int) := by omega
  clear hq hP
  go_enter Try.func61, Try.ntmps61
  go_wp2_with fail
  go_ret
  exact ⟨rfl, rfl⟩
theorem width_cl {p : Nat} {wd x : Int} {w : World} (hc : w.cell? ⟨p, 0, none⟩ = some (.int .i64 wd)) (ux : U64 x) :
    Calls Try.prog 58 (#[.int .u64 x] ++ #[.pointer (some ⟨p, 0, none⟩)]) w fun e w' => e = .returned (.bool (decide (wd < (wdt x : Int)))) ∧ ∃ n, w' = w.drewN n := by
  have CW := hid (fun W => pl_Width x ux W)
  obtain ⟨z, hz⟩ : ∃ z, wdt x = z := ⟨_, rfl⟩
  rw [hz] at CW ⊢
  clear hz
  go_enter Try.func58, Try.ntmps58
  go_wp2_with fail
  go_quiet ((go_at_call 42; exact quietL CW.out _))
  go_wp2_with fail
  go_ret
  exact ⟨rfl, _, rfl⟩
/-- The place of the first that is so, or -1. -/
def fidx (P : Int → Bool) (l : List Int) : Int := if l.any P = true then (l.findIdx P : Int) else -1
theorem fidx_at {P : Int → Bool} {l : List Int} {k : Nat} {x : Int} (hx : l[k]? = some x) (hp : P x = true) (h : ∀ y ∈ l.take k, P y = false) : fidx P l = k ∧ l.any P = true := by
  obtain ⟨hk, rfl⟩ := List.getElem?_eq_some_iff.1 hx
  have ha : l.any P = true := List.any_eq_true.2 ⟨l[k], List.getElem_mem hk, hp⟩
  refine ⟨?_, ha⟩
  unfold fidx
  rw [if_pos ha, (List.findIdx_eq hk).2 ⟨hp, fun j hj => h _ (by rw [List.mem_take_iff_getElem]; exact ⟨j, by omega, rfl⟩)⟩]
theorem fidx_no {P : Int → Bool} {l : List Int} (h : ∀ y ∈ l, P y = false) : fidx P l = -1 ∧ l.any P = false := by
  have ha : l.any P = false := by rw [List.any_eq_false]; intro y hy; rw [h y hy]; decide
  refine ⟨?_, ha⟩
  unfold fidx
  rw [ha]; rfl
theorem index_any {A : Option Addr} {c : Nat} (K : FuncId) (caps : Array Value) (l : List Int) (hl : l.length ≤ 100000) (P : Int → Bool) (w : World)
   (hK : ∀ (args : Array Value) (W : World), (callFunc K args).run Try.prog W = .ok (.enter K args) W) {B : Nat} (ra : Rd (Value.int .u64) w B A l)
   (H : ∀ x ∈ l, ∀ n, Calls Try.prog K (#[.int .u64 x] ++ caps) (w.drewN n) fun e w' => e = .returned (.bool (P x)) ∧ ∃ m, w' = (w.drewN n).drewN m) :
    Calls Try.prog 64 #[.slice A l.length c, .func (.func K) #[] caps] w fun e w' => e = .returned (.int .i64 (fidx P l)) ∧ ∃ n, w' = w.drewN n := by
  have HH := hid H
  have RA := hid ra
  have HF : Hid (∀ k x, l[k]? = some x → P x = true → (∀ y ∈ l.take k, P y = false) → fidx P l = k) := hid (fun k x h1 h2 h3 => (fidx_at h1 h2 h3).1)
  have HG : Hid ((∀ y ∈ l, P y = false) → fidx P l = -1) := hid (fun h => (fidx_no h).1)
  obtain ⟨R, hR⟩ : ∃ R, fidx P l = R := ⟨_, rfl⟩
  rw [hR] at HF HG ⊢
  obtain ⟨N, hN⟩ : ∃ N, l.length = N := ⟨_, rfl⟩
  have HN := hid hN
  rw [hN] at hl ⊢
  clear hR hN H ra
  go_enter Try.func64, Try.ntmps64
  go_wp2_with fail
  go_loopw [5, 8] (fun i0 i wr => ∃ k : Nat, k ≤ N ∧ i = .int .i64 k ∧ (∀ y ∈ l.take k, P y = false) ∧ ∃ m, wr = w.drewN m) (fun _ i _ => N - (intOf i).toNat)
  case atStart => exact ⟨0, by omega, rfl, by simp, 0, rfl⟩
  case round =>
    obtain ⟨k, hk, rfl, hs, m, rfl⟩ := hrel
    have HS := hid hs
    clear hs
    by_cases hlt : k < N
    · obtain ⟨b1, o1, x, rfl, l1, ex, c1⟩ := RA.out.at_ (k := k) (by rw [HN.out]; exact hlt)
      have C := hid (HH.out x (List.mem_of_getElem? ex) m)
      have hFk := HF.out k x ex
      obtain ⟨v, hv⟩ : ∃ v, P x = v := ⟨_, rfl⟩
      rw [hv] at C hFk
      have HV := hid hv
      have HE := hid ex
      clear hv ex
      cases v with
      | true =>
        have hR := hFk rfl HS.out
        subst hR
        go_wp2_with fail
        refine C.out.mono ?_
        rintro _ _ ⟨rfl, m2, rfl⟩
        go_wp2_with fail
        go_ret
        exact ⟨rfl, m + m2, by simp⟩
      | false =>
        clear hFk
        go_wp2_with fail
        refine C.out.mono ?_
        rintro _ _ ⟨rfl, m2, rfl⟩
        go_wp2_with fail
        go_roundw
        case rel =>
          refine ⟨k + 1, by omega, by go_num, ?_, m + m2, by simp⟩
          intro y hy
          rw [List.take_add_one, HE.out] at hy
          rcases List.mem_append.1 hy with h | h
          · exact HS.out y h
          · simp at h
            rw [h]; exact HV.out
        case measure => simp [intOf]; omega
    · have hR : R = -1 := HG.out (fun y hy => HS.out y (by rw [List.take_of_length_le (by rw [HN.out]; omega)]; exact hy))
      subst hR
      go_wp2_with fail
      go_ret
      exact ⟨rfl, _, rfl⟩
theorem contains_any {A : Option Addr} {c : Nat} (K : FuncId) (caps : Array Value) (l : List Int) (hl : l.length ≤ 100000) (P : Int → Bool) (w : World)
   (hK : ∀ (args : Array Value) (W : World), (callFunc K args).run Try.prog W = .ok (.enter K args) W) {B : Nat} (ra : Rd (Value.int .u64) w B A l)
   (H : ∀ x ∈ l, ∀ n, Calls Try.prog K (#[.int .u64 x] ++ caps) (w.drewN n) fun e w' => e = .returned (.bool (P x)) ∧ ∃ m, w' = (w.drewN n).drewN m) :
    Calls Try.prog 57 #[.slice A l.length c, .func (.func K) #[] caps] w fun e w' => e = .returned (.bool (l.any P)) ∧ ∃ n, w' = w.drewN n := by
  have C := hid (index_any (A := A) (c := c) K caps l hl P w hK ra H)
  have hge : decide (0 ≤ fidx P l) = l.any P := by
    unfold fidx
    by_cases h : l.any P = true
    · rw [if_pos h, h]; simp
    · rw [if_neg h]
      cases hb : l.any P with
      | true => exact absurd hb h
      | false => rfl
  obtain ⟨R, hR⟩ : ∃ R, fidx P l = R := ⟨_, rfl⟩
  obtain ⟨v, hv⟩ : ∃ v, l.any P = v := ⟨_, rfl⟩
  rw [hR, hv] at hge
  rw [hR] at C
  rw [hv]
  clear hR hv H ra
  go_enter Try.func57, Try.ntmps57
  go_wp2_with fail
  refine C.out.mono ?_
  rintro _ _ ⟨rfl, m, rfl⟩
  go_wp2_with fail
  go_ret
  exact ⟨rfl, _, rfl⟩
end Go.Proofs.Ytgkkliibeiklbaa
