
/- Tb: texts joined: Fun TkA CrcM IxN PlM PlN FrM PlA PlB PlC PlD PlE PlF Box FrN Rin Grn Law Arg ArgB. -/
import Derived.Test.YtjkhdfncahhnoaaTa
import Derived.Lib.BitFns
import Derived.RegionTactic
import Derived.ChangeAlike
import Derived.Deep.QuietTactic
import Derived.BigQuiet
import Derived.Test.YtjkhdfncahhnoaaRows
import Derived.WalkKit
import Derived.ProofKit
import Derived.OpenShut
import Derived.Carry
import Derived.Deep.Grids
/- Function values: a call of one enters its function. -/
namespace Go.Proofs.Ytjkhdfncahhnoaa
open Go.RowKit
set_option maxRecDepth 100000
set_option linter.unusedVariables false
theorem cl_enter (K : FuncId) (hK : (Try.prog.funcs[K]?).map (fun f => f.name == "runtime.NumGoroutine" || f.body.isNone) = some false) (args : Array Value) (W : World) : (callFunc K args).run Try.prog W = .ok (.enter K args) W := by
  obtain ⟨fn, hf, hb⟩ := Option.map_eq_some_iff.1 hK
  simp only [Bool.or_eq_false_iff] at hb
  have h1 : ¬ fn.name = "runtime.NumGoroutine" := by simpa using hb.1
  have h2 : ¬ fn.body = none := fun e => by simp [e] at hb
  simp [callFunc, hf, h1, h2, go_sem]
end Go.Proofs.Ytjkhdfncahhnoaa
/- Sizes, which place is ahead, an order of all: by the document. -/
namespace Go.Proofs.Ytjkhdfncahhnoaa
open Go.RowKit
set_option maxHeartbeats 400000
set_option maxRecDepth 100000
set_option linter.unusedVariables false
/-- An order's error, and the order. -/
def orkE (v : List Int) : Int := if 4096 < v.length then 3 else 0
def orkV (v : List Int) : List Int := if orkE v = 0 then (ordT v).map fun (i : Nat) => (i : Int) else []
theorem orkE_ok {v : List Int} : orkE v = 0 ↔ v.length ≤ 4096 := by unfold orkE; split <;> omega
theorem orkV_len {v : List Int} (h : orkE v = 0) : (orkV v).length = v.length := by unfold orkV; rw [if_pos h, List.length_map, ordT_len]
theorem orkV_le (v : List Int) : (orkV v).length ≤ v.length := by
  unfold orkV
  split
  · rw [List.length_map, ordT_len]; exact Nat.le_refl _
  · simp
/-- The places found by those below m. -/
def oF (v : List Int) (m j : Nat) : Nat := if atR v j < m then atR v j else 0
theorem oF_step {v : List Int} {m j : Nat} (hm : m < v.length) (hj : j < v.length) : oF v (m + 1) j = if j = rkN v m then m else oF v m j := by
  obtain ⟨h1, h2⟩ := atR_is hj
  by_cases e : j = rkN v m
  · have e2 : atR v j = m := by rw [e, atR_of hm]
    unfold oF
    rw [if_pos e, e2, if_pos (by omega)]
  · have e2 : atR v j ≠ m := fun h => e (by rw [← h2, h])
    unfold oF
    rw [if_neg e]
    by_cases h3 : atR v j < m
    · rw [if_pos h3, if_pos (by omega)]
    · rw [if_neg h3, if_neg (by omega)]
theorem oF_all {v : List Int} {j : Nat} (hj : j < v.length) : oF v v.length j = atR v j := if_pos (atR_is hj).1
theorem szN_le {n : Int} (h : I64 n) : szN n ≤ 9223372036854775808 := by unfold szN; unfold I64 at h; omega
theorem ref_Size9 (n : Int) (hn : I64 n) (w : World) :
    Calls Try.prog 25 #[.int .i64 n] w fun e w' => e = .returned (.int .u64 (szN n : Int)) ∧ w = w' := by
  unfold I64 at hn
  have hs : Hid (n < 0 → (szN n : Int) = -n) := hid (fun h => by unfold szN; omega)
  have hp : Hid (¬ n < 0 → (szN n : Int) = n) := hid (fun h => by unfold szN; omega)
  obtain ⟨z, hz⟩ : ∃ z, (szN n : Int) = z := ⟨_, rfl⟩
  rw [hz] at hs hp ⊢
  clear hz
  by_cases h : n < 0
  · rw [hs.out h]
    have e1 : IntKind.i64.wrap (n + 1) = n + 1 := by rw [IntKind.wrap_i64]; omega
    have e2 : IntKind.i64.wrap (-(n + 1)) = -(n + 1) := by rw [IntKind.wrap_i64]; omega
    have e3 : IntKind.u64.wrap (-(n + 1)) = -(n + 1) := by rw [IntKind.wrap_u64]; omega
    have e4 : IntKind.u64.wrap (-(n + 1) + 1) = -n := by rw [IntKind.wrap_u64]; omega
    clear hs hp
    go_enter Try.func25, Try.ntmps25
    go_wp2_with fail
    go_ret
    exact ⟨by simp <;> omega, rfl⟩
  · rw [hp.out h]
    have e1 : IntKind.u64.wrap n = n := by rw [IntKind.wrap_u64]; omega
    clear hs hp
    go_enter Try.func25, Try.ntmps25
    go_wp2_with fail
    go_ret
    exact ⟨by simp <;> omega, rfl⟩
theorem ret_of9 {v R : Bool} (h : v = true ↔ R = true) : Ending.returned (Value.bool v) = Ending.returned (Value.bool R) := by
  have : v = R := by cases v <;> cases R <;> simp_all
  rw [this]
theorem ref_Ahead {A : Option Addr} {c : Nat} (v : List Int) (uv : ∀ x ∈ v, I64 x) (i k : Nat) (hi : i < v.length) (hk : k < v.length) (hl : v.length ≤ 9223372036854775807) (w : World) {B : Nat} (ra : Rd (Value.int .i64) w B A v) :
    Calls Try.prog 24 #[.slice A v.length c, .int .i64 (i : Int), .int .i64 (k : Int)] w fun e w' => e = .returned (.bool (ahB v i k)) ∧ w = w' := by
  obtain ⟨b1, o1, x, rfl, l1, ex, c1⟩ := ra.at_ hi
  obtain ⟨b2, o2, y, e2, l2, ey, c2⟩ := ra.at_ hk
  injection e2 with e2
  injection e2 with e2 e3
  subst e2 e3
  have hx := uv x (List.mem_of_getElem? ex)
  have hy := uv y (List.mem_of_getElem? ey)
  have CX := hid (ref_Size9 x hx w)
  have CY := hid (ref_Size9 y hy w)
  have HR : Hid (ahB v i k = true ↔ ((szN y : Int) < szN x ∨ ((szN x : Int) = szN y ∧ i < k))) := hid (by
    rw [ahB_iff, getD_of ex, getD_of ey]
    constructor <;> rintro (h | h) <;> first | exact .inl (by omega) | exact .inr ⟨by omega, h.2⟩)
  obtain ⟨R, hR⟩ : ∃ R, ahB v i k = R := ⟨_, rfl⟩
  rw [hR] at HR ⊢
  obtain ⟨p, hp⟩ : ∃ p, (szN x : Int) = p := ⟨_, rfl⟩
  obtain ⟨q, hq⟩ : ∃ q, (szN y : Int) = q := ⟨_, rfl⟩
  rw [hp] at CX HR
  rw [hq] at CY HR
  clear hR hp hq ex ey ra uv hx hy
  go_enter Try.func24, Try.ntmps24
  go_wp2_with fail
  refine CX.out.mono ?_
  rintro _ _ ⟨rfl, rfl⟩
  go_wp2_with fail
  refine CY.out.mono ?_
  rintro _ _ ⟨rfl, rfl⟩
  go_wp2_with fail
  all_goals (go_ret; refine ⟨ret_of9 ?_, rfl⟩; rw [HR.out]; first | (simp [*]; done) | (simp [*]; omega))
theorem own_ordT {w : World} {b M : Nat} {v : List Int} (h : w.rowIs b 3 M (fun j => .int .i64 (oF v M j : Int))) (hM : v.length = M) (hl : M ≤ 4096) {B : Nat} (hB : B ≤ b) :
    w.ownsRow B 3 1 (.slice (some ⟨b, 0, none⟩) M M) M (((ordT v).map fun (i : Nat) => (i : Int)).map (Value.int .i64)) := by
  have h2 := own_made (w' := w) h hB (by unfold maxLen; omega)
  have e : ((ordT v).map fun (i : Nat) => (i : Int)).map (Value.int .i64) = (List.range M).map fun j => .int .i64 (oF v M j : Int) := by
    unfold ordT
    rw [List.map_map, List.map_map, hM]
    refine List.map_congr_left fun j hj => ?_
    have hj' : j < v.length := by rw [hM]; exact List.mem_range.1 hj
    have := oF_all hj'
    rw [hM] at this
    rw [this]
    rfl
  rw [e]
  exact h2
set_option maxHeartbeats 1000000 in
theorem ref_Order9 {A : Option Addr} {c : Nat} (v : List Int) (uv : ∀ x ∈ v, I64 x) (hl : v.length ≤ 9223372036854775807) (w : World) (ra : Rd (Value.int .i64) w w.heap.size A v) :
    Calls Try.prog 14 #[.slice A v.length c] w (OwnE 3 .i64 w.heap.size (orkV v) (orkE v) w) := by
  by_cases h1 : 4096 < v.length
  · have he : orkE v = 3 := if_pos h1
    have hv : orkV v = [] := if_neg (by rw [he]; decide)
    rw [he, hv]
    have h1' : (v.length : Int) > 4096 := by omega
    clear he hv ra uv
    go_enter Try.func14, Try.ntmps14
    go_wp2_with fail
    go_ret2
    exact .nil (Below.refl _ _)
  · have he : orkE v = 0 := if_neg h1
    have hv : orkV v = (ordT v).map fun (i : Nat) => (i : Int) := if_pos he
    have hvl : (orkV v).length = v.length := orkV_len he
    rw [he, hv]
    rw [hv] at hvl
    have h1' : ¬ (v.length : Int) > 4096 := by omega
    obtain ⟨M, hM⟩ : ∃ M, v.length = M := ⟨_, rfl⟩
    have HA := hid ra
    have CA := hid (fun (i k : Nat) (hi : i < M) (hk : k < M) W (h : Rd (Value.int .i64) W w.heap.size A v) => ref_Ahead (A := A) (c := c) v uv k i (by omega) (by omega) hl W h)
    have HO := hid (fun (W : World) (h : W.rowIs w.heap.size 3 M (fun j => .int .i64 (oF v M j : Int))) => own_ordT (v := v) (B := w.heap.size) h hM (by omega) (Nat.le_refl _))
    have HST := hid (fun (m j : Nat) (hm : m < M) (hj : j < M) => oF_step (v := v) (m := m) (j := j) (by omega) (by omega))
    have HRK := hid (fun (i : Nat) (hi : i < M) => rkN_lt (v := v) (i := i) (by omega))
    have HRM := hid (fun (i m : Nat) => rkM_le v i m)
    have HRN := hid (fun (i : Nat) => show rkM v i M = rkN v i by unfold rkN; rw [hM])
    rw [hM] at hvl h1' HRK ⊢
    have hM4 : M ≤ 4096 := by omega
    have hmk := fun W => run_make_row' (P := Try.prog) 23 3 (.int .i64 0) 8 Try.underlying23 info_int rfl .i64 .i64 M (by omega) (by omega) W
    have HF0 : Hid (∀ j, oF v 0 j = 0) := hid (fun j => by unfold oF; simp)
    have HLEN := hid hvl
    simp only [hM] at CA
    clear ra uv h1 he hv hM hl hvl
    go_enter Try.func14, Try.ntmps14
    go_wp2_with fail
    go_loopw [5, 6, 7, 16, 20, 21] (fun x5 x6 x7 i x20 x21 wr => ∃ k : Nat, k ≤ M ∧ i = .int .i64 k ∧ wr.rowIs w.heap.size 3 M (fun j => .int .i64 (oF v k j : Int)) ∧ Below w.heap.size w wr) (fun _ _ _ i _ _ _ => M - (intOf i).toNat)
    case atStart => exact ⟨0, by omega, rfl, (World.rowIs_made w (.int .i64 0) M _).congr (fun j hj => by rw [HF0.out]; rfl), by go_grown⟩
    case round =>
      clear hmk
      obtain ⟨k, hk, rfl, hrow, hbel⟩ := hrel
      have HR := hid hrow
      have HB := hid hbel
      clear hrow
      by_cases hlt : k < M
      · go_wp2_with fail
        go_loop [6, 7, 21] (fun n x7 i => ∃ q : Nat, q ≤ M ∧ i = .int .i64 q ∧ n = .int .i64 (rkM v k q : Int)) (fun _ _ i => M - (intOf i).toNat)
        case atStart => exact ⟨0, by omega, rfl, rfl⟩
        case round =>
          obtain ⟨q, hq, rfl, rfl⟩ := hrel
          by_cases hq2 : q < M
          · have C := hid (CA.out k q hlt hq2 wr (HA.out.below HB.out))
            have HS : Hid (rkM v k (q + 1) = rkM v k q + (if ahB v q k = true then 1 else 0)) := hid rfl
            have hle := HRM.out k q
            obtain ⟨R, hR⟩ : ∃ R, ahB v q k = R := ⟨_, rfl⟩
            rw [hR] at C HS
            obtain ⟨N, hN⟩ : ∃ N, rkM v k q = N := ⟨_, rfl⟩
            rw [hN] at HS hle ⊢
            clear hR hN
            cases R with
            | true =>
              go_wp2_with fail
              refine C.out.mono ?_
              rintro _ _ ⟨rfl, rfl⟩
              go_wp2_with fail
              go_round
              case rel => exact ⟨q + 1, by omega, by go_num, by rw [HS.out]; go_num⟩
              case measure => simp [intOf]; omega
            | false =>
              go_wp2_with fail
              refine C.out.mono ?_
              rintro _ _ ⟨rfl, rfl⟩
              go_wp2_with fail
              go_round
              case rel => exact ⟨q + 1, by omega, by go_num, by rw [HS.out]; simp⟩
              case measure => simp [intOf]; omega
          · obtain rfl : q = M := by omega
            have hlt2 := HRK.out k hlt
            rw [HRN.out]
            have HSS := hid (fun j hj => HST.out k j hlt hj)
            obtain ⟨N, hN⟩ : ∃ N, rkN v k = N := ⟨_, rfl⟩
            rw [hN] at hlt2 HSS ⊢
            have f1 := HR.out.frozen N
            have c3 := HR.out.cell hlt2
            clear hN hbel
            go_wp2_with fail
            go_roundw
            case rel =>
              refine ⟨k + 1, by omega, by go_num, ?_, HB.out.setCell (Nat.le_refl _) _⟩
              refine World.rowIs.congr (HR.out.set N (.int .i64 k)) fun j hj => ?_
              rw [HSS.out j hj]
              by_cases e : j = N
              · rw [if_pos e, if_pos e]
              · rw [if_neg e, if_neg e]
            case measure => simp [intOf]; omega
      · obtain rfl : k = M := by omega
        have h := HO.out wr HR.out
        have HH := hid h
        clear h hbel
        go_wp2_with fail
        go_ret2
        exact ⟨some ⟨w.heap.size, 0, none⟩, k, by rw [HLEN.out]; rfl, by rw [HLEN.out]; exact HH.out, HB.out⟩
end Go.Proofs.Ytjkhdfncahhnoaa
/- A text's sum: a register of 32 bits, halved and turned; bursts. Plain mathematics on numbers. No program in sight. -/
namespace Go.Proofs.Ytjkhdfncahhnoaa
set_option maxRecDepth 100000
set_option linter.unusedVariables false
/-- What a register is turned by whose bit that fell out was 1. -/
def tnr : Nat := 3988292384
/-- A register halved. -/
def hs (r : Nat) : Nat := if r % 2 = 1 then r / 2 ^^^ tnr else r / 2
/-- .. so many times. -/
def hn : Nat → Nat → Nat
  | 0, r => r
  | n + 1, r => hn n (hs r)
theorem hs_lt {r : Nat} (h : r < 2 ^ 32) : hs r < 2 ^ 32 := by
  unfold hs
  split
  · exact Nat.xor_lt_two_pow (by omega) (by decide)
  · omega
theorem hn_lt : ∀ (n : Nat) {r : Nat}, r < 2 ^ 32 → hn n r < 2 ^ 32
  | 0, _, h => h
  | n + 1, _, h => hn_lt n (hs_lt h)
theorem hs_zero : hs 0 = 0 := by rfl
theorem hn_zero : ∀ n, hn n 0 = 0
  | 0 => rfl
  | n + 1 => by rw [hn, hs_zero, hn_zero]
theorem xor4 (a b t : Nat) : (a ^^^ t) ^^^ (b ^^^ t) = a ^^^ b := by
  rw [Nat.xor_assoc, Nat.xor_comm b t, ← Nat.xor_assoc t, Nat.xor_self, Nat.zero_xor]
theorem hs_xor (a b : Nat) : hs (a ^^^ b) = hs a ^^^ hs b := by
  have hm : (a ^^^ b) % 2 = 1 ↔ ¬ ((a % 2 = 1) ↔ (b % 2 = 1)) := Nat.xor_mod_two_eq_one
  unfold hs
  rw [Nat.xor_div_two]
  by_cases ha : a % 2 = 1 <;> by_cases hb : b % 2 = 1
  · rw [if_neg (by rw [hm]; simp [ha, hb]), if_pos ha, if_pos hb, xor4]
  · rw [if_pos (by rw [hm]; simp [ha, hb]), if_pos ha, if_neg hb, Nat.xor_assoc, Nat.xor_comm _ tnr, ← Nat.xor_assoc]
  · rw [if_pos (by rw [hm]; simp [ha, hb]), if_neg ha, if_pos hb, Nat.xor_assoc]
  · rw [if_neg (by rw [hm]; simp [ha, hb]), if_neg ha, if_neg hb]
theorem hn_xor : ∀ (n a b : Nat), hn n (a ^^^ b) = hn n a ^^^ hn n b
  | 0, _, _ => rfl
  | n + 1, a, b => by rw [hn, hs_xor, hn_xor n, hn, hn]
theorem hn_add : ∀ (m n r : Nat), hn (m + n) r = hn n (hn m r)
  | 0, n, r => by rw [Nat.zero_add]; rfl
  | m + 1, n, r => by rw [show m + 1 + n = (m + n) + 1 by omega, hn, hn_add m n, hn]
theorem eq_of_xor {a b : Nat} (h : a ^^^ b = 0) : a = b := by
  have := congrArg (· ^^^ b) h
  simpa [Nat.xor_assoc] using this
theorem hs_inj {r : Nat} (h : r < 2 ^ 32) (h0 : hs r = 0) : r = 0 := by
  unfold hs at h0
  split at h0
  · have := eq_of_xor h0
    unfold tnr at this
    omega
  · omega
theorem hn_inj : ∀ (n : Nat) {r : Nat}, r < 2 ^ 32 → hn n r = 0 → r = 0
  | 0, _, _, h0 => h0
  | n + 1, _, h, h0 => hs_inj h (hn_inj n (hs_lt h) h0)
theorem hn_pow : ∀ (i : Nat), hn i (2 ^ i) = 1
  | 0 => rfl
  | i + 1 => by
    rw [hn]
    have : hs (2 ^ (i + 1)) = 2 ^ i := by
      unfold hs
      rw [Nat.pow_succ, if_neg (by omega)]
      omega
    rw [this, hn_pow i]
/-- The lowest bits alone are turned. -/
theorem hn_split (k c : Nat) : hn k c = hn k (c % 2 ^ k) ^^^ c / 2 ^ k := by
  induction k generalizing c with
  | zero => simp [hn, Nat.mod_one]
  | succ k ih =>
    have hdiv : c / 2 / 2 ^ k = c / 2 ^ (k + 1) := by rw [Nat.div_div_eq_div_mul, Nat.pow_succ, Nat.mul_comm]
    have hmod : c % 2 ^ (k + 1) / 2 = c / 2 % 2 ^ k := by
      rw [Nat.pow_succ, Nat.mul_comm (2 ^ k) 2, Nat.mod_mul]
      omega
    have hm2 : c % 2 ^ (k + 1) % 2 = c % 2 := by
      rw [Nat.pow_succ, Nat.mul_comm (2 ^ k) 2, Nat.mod_mul]
      omega
    rw [hn, hn, ← hdiv]
    unfold hs
    rw [hm2, hmod]
    split
    · rw [hn_xor, hn_xor, ih (c / 2), Nat.xor_assoc, Nat.xor_assoc, Nat.xor_comm _ (hn k tnr)]
    · rw [ih (c / 2)]
/-- One byte taken in, and texts. -/
def crcB (c x : Nat) : Nat := hn 8 (c ^^^ x)
def crcL : Nat → List Int → Nat
  | c, [] => c
  | c, x :: xs => crcL (crcB c x.toNat) xs
theorem crcL_nil (c : Nat) : crcL c [] = c := by rfl
theorem crcL_cons (c : Nat) (x : Int) (xs : List Int) : crcL c (x :: xs) = crcL (crcB c x.toNat) xs := by rfl
theorem crcB_lt {c x : Nat} (hc : c < 2 ^ 32) (hx : x < 256) : crcB c x < 2 ^ 32 := hn_lt 8 (Nat.xor_lt_two_pow hc (by omega))
theorem crcL_app : ∀ (a b : List Int) (c : Nat), crcL c (a ++ b) = crcL (crcL c a) b
  | [], _, _ => rfl
  | x :: xs, b, c => by rw [List.cons_append, crcL_cons, crcL_app xs b, crcL_cons]
theorem crcL_one (c : Nat) (x : Int) : crcL c [x] = crcB c x.toNat := by rfl
theorem crcL_step {l : List Int} {k : Nat} {x : Int} (c : Nat) (h : l[k]? = some x) : crcL c (l.take (k + 1)) = crcB (crcL c (l.take k)) x.toNat := by
  rw [List.take_add_one, h, crcL_app]
  exact crcL_one _ x
theorem crcL_lt : ∀ (l : List Int) {c : Nat}, U8s l → c < 2 ^ 32 → crcL c l < 2 ^ 32
  | [], _, _, h => h
  | x :: xs, c, hl, h => by
    have hx := hl x (by simp)
    exact crcL_lt xs (fun y hy => hl y (by simp [hy])) (crcB_lt h (by omega))
/-- A register turned, behind a text. -/
theorem crcL_xor : ∀ (l : List Int) (c d : Nat), crcL (c ^^^ d) l = crcL c l ^^^ hn (8 * l.length) d
  | [], c, d => rfl
  | x :: xs, c, d => by
    rw [crcL_cons, crcL_cons, List.length_cons, show 8 * (xs.length + 1) = 8 + 8 * xs.length by omega, hn_add, ← crcL_xor xs]
    congr 1
    unfold crcB
    rw [← hn_xor, Nat.xor_assoc, Nat.xor_comm d, ← Nat.xor_assoc]
/-- All bits of a register turned. -/
def inv (s : Nat) : Nat := 4294967295 - s
theorem inv_lt (s : Nat) : inv s < 2 ^ 32 := by unfold inv; omega
theorem inv_inv {s : Nat} (h : s < 2 ^ 32) : inv (inv s) = s := by unfold inv; omega
theorem inv_xor {s : Nat} (h : s < 2 ^ 32) : inv s = s ^^^ 4294967295 := by
  have e : inv s = (~~~ (BitVec.ofNat 32 s)).toNat := by
    rw [BitVec.toNat_not, BitVec.toNat_ofNat, Nat.mod_eq_of_lt h]; rfl
  have e2 : s ^^^ 4294967295 = (BitVec.ofNat 32 s ^^^ BitVec.allOnes 32).toNat := by
    rw [BitVec.toNat_xor, BitVec.toNat_ofNat, Nat.mod_eq_of_lt h, BitVec.toNat_allOnes]
  rw [e, e2, BitVec.xor_allOnes]
/-- The sum that goes on from s, and a text's. -/
def moreN (s : Nat) (l : List Int) : Nat := inv (crcL (inv s) l)
def sumN (l : List Int) : Nat := moreN 0 l
theorem moreN_lt (s : Nat) (l : List Int) : moreN s l < 2 ^ 32 := inv_lt _
theorem sumN_lt (l : List Int) : sumN l < 2 ^ 32 := inv_lt _
theorem sumN_nil : sumN [] = 0 := by unfold sumN moreN inv; rfl
theorem moreN_app {a b : List Int} (ha : U8s a) : moreN (sumN a) b = sumN (a ++ b) := by
  unfold sumN moreN
  rw [inv_inv (crcL_lt a ha (inv_lt _)), crcL_app]
/-- The lowest bytes of a number, the lowest first. -/
def le4 (s : Nat) : List Int := [((s % 256 : Nat) : Int), ((s / 256 % 256 : Nat) : Int), ((s / 65536 % 256 : Nat) : Int), ((s / 16777216 % 256 : Nat) : Int)]
theorem le4_bytes (s : Nat) : U8s (le4 s) := by
  intro x hx
  simp only [le4, List.mem_cons, List.not_mem_nil, or_false] at hx
  omega
theorem le4_len (s : Nat) : (le4 s).length = 4 := by rfl
theorem le4_inj {s t : Nat} (hs : s < 2 ^ 32) (ht : t < 2 ^ 32) (h : le4 s = le4 t) : s = t := by
  unfold le4 at h
  simp only [List.cons.injEq, and_true] at h
  omega
theorem le4_of {a b c d : Int} (h : U8s [a, b, c, d]) : ∃ s, s < 2 ^ 32 ∧ [a, b, c, d] = le4 s := by
  have h0 := h a (by simp)
  have h1 := h b (by simp)
  have h2 := h c (by simp)
  have h3 := h d (by simp)
  refine ⟨(a + 256 * b + 65536 * c + 16777216 * d).toNat, by omega, ?_⟩
  unfold le4
  simp only [List.cons.injEq, and_true]
  omega
theorem xor_byte (a x : Nat) : (a ^^^ x) / 256 = a / 256 ^^^ x / 256 := Nat.xor_div_two_pow (n := 8)
/-- Eight bits of a number, put ahead of what is above them. -/
theorem join_byte (n : Nat) : n = n % 256 ^^^ (n / 256) * 256 := by
  have h1 : n = (n / 256) * 2 ^ 8 + n % 256 := by omega
  apply Nat.eq_of_testBit_eq
  intro i
  rw [Nat.testBit_xor, show (n / 256 * 256) = n / 256 * 2 ^ 8 from rfl, Nat.testBit_mul_two_pow, show n % 256 = n % 2 ^ 8 from rfl, Nat.testBit_mod_two_pow, show n / 256 = n / 2 ^ 8 from rfl, Nat.testBit_div_two_pow]
  by_cases h : i < 8
  · simp [h, show ¬ 8 ≤ i by omega]
  · simp [h, show 8 ≤ i by omega, show i - 8 + 8 = i by omega]
theorem hn_up : ∀ (k m : Nat), hn k (m * 2 ^ k) = m
  | 0, m => by simp [hn]
  | k + 1, m => by
    rw [hn]
    have : hs (m * 2 ^ (k + 1)) = m * 2 ^ k := by
      unfold hs
      rw [Nat.pow_succ, ← Nat.mul_assoc, if_neg (by omega)]
      omega
    rw [this, hn_up k]
/-- A number's bytes taken in, one behind the other, are the number taken in. -/
theorem crcL_le4 {c s : Nat} (hs : s < 2 ^ 32) : crcL c (le4 s) = hn 32 (c ^^^ s) := by
  have step : ∀ (c n : Nat), crcB c (n % 256) ^^^ n / 256 = hn 8 (c ^^^ n) := fun c n => by
    unfold crcB
    conv => rhs; rw [join_byte n, ← Nat.xor_assoc, hn_xor, show n / 256 * 256 = n / 256 * 2 ^ 8 from rfl, hn_up]
  have e : ∀ (c n : Nat), crcB c (n % 256) = hn 8 (c ^^^ n) ^^^ n / 256 := fun c n => by
    rw [← step, Nat.xor_assoc, Nat.xor_self, Nat.xor_zero]
  have e2 : ∀ a n : Nat, crcB (a ^^^ n) (n % 256) = hn 8 a ^^^ n / 256 := fun a n => by
    rw [e, Nat.xor_assoc, Nat.xor_self, Nat.xor_zero]
  have cast : ∀ k : Nat, ((k : Int)).toNat = k := fun k => by omega
  unfold le4
  rw [crcL_cons, crcL_cons, crcL_cons, crcL_cons, crcL_nil, cast, cast, cast, cast, show s / 65536 = s / 256 / 256 by omega, show s / 16777216 = s / 256 / 256 / 256 by omega]
  have h0 : s / 256 / 256 / 256 / 256 = 0 := by omega
  obtain ⟨a, ha⟩ : ∃ a, s / 256 = a := ⟨_, rfl⟩
  obtain ⟨b, hb⟩ : ∃ b, a / 256 = b := ⟨_, rfl⟩
  obtain ⟨d, hd⟩ : ∃ d, b / 256 = d := ⟨_, rfl⟩
  rw [ha, hb, hd] at h0
  have h1 := e c s
  have h2 := e2 (hn 8 (c ^^^ s)) a
  have h3 := e2 (hn 8 (hn 8 (c ^^^ s))) b
  have h4 := e2 (hn 8 (hn 8 (hn 8 (c ^^^ s)))) d
  rw [ha] at h1
  rw [hb] at h2
  rw [hd] at h3
  rw [h0, Nat.xor_zero] at h4
  rw [ha, hb, hd, h1, h2, h3, h4, show (32 : Nat) = 8 + (8 + (8 + 8)) from rfl, hn_add 8, hn_add 8, hn_add 8]
/-- How far a sealed text is off. -/
def off (l : List Int) : Nat := crcL 4294967295 l ^^^ hn 32 4294967295
theorem off_sum {a : List Int} (ha : U8s a) {s : Nat} (hs : s < 2 ^ 32) : off (a ++ le4 s) = hn 32 (sumN a ^^^ s) := by
  have hc := crcL_lt a ha (c := 4294967295) (by decide)
  have e : sumN a = crcL 4294967295 a ^^^ 4294967295 := by
    unfold sumN moreN
    rw [show inv 0 = 4294967295 from rfl, inv_xor hc]
  unfold off
  rw [crcL_app, crcL_le4 hs, e, ← hn_xor]
  congr 1
  rw [Nat.xor_assoc, Nat.xor_assoc, Nat.xor_comm s]
/-- A sealed text's sum is its own just if it isn't off. -/
theorem off_iff {a : List Int} (ha : U8s a) {s : Nat} (hs : s < 2 ^ 32) : off (a ++ le4 s) = 0 ↔ s = sumN a := by
  rw [off_sum ha hs]
  constructor
  · intro h
    exact (eq_of_xor (hn_inj 32 (Nat.xor_lt_two_pow (sumN_lt a) hs) h)).symm
  · rintro rfl
    rw [Nat.xor_self, hn_zero]
theorem cut4 {l : List Int} (hl : U8s l) (h4 : 4 ≤ l.length) : ∃ s, s < 2 ^ 32 ∧ l.drop (l.length - 4) = le4 s := by
  have hb := hl.drop (l.length - 4)
  have hlen : (l.drop (l.length - 4)).length = 4 := by rw [List.length_drop]; omega
  match hd : l.drop (l.length - 4), hlen, hb with
  | [a, b, c, d], _, hb => exact le4_of hb
/-- Is it sealed? -/
def sealedB (l : List Int) : Bool := eqL (l.drop (l.length - 4)) (le4 (sumN (l.take (l.length - 4))))
where eqL (a b : List Int) : Bool := decide (a = b)
theorem sealed_iff {l : List Int} (hl : U8s l) (h4 : 4 ≤ l.length) : sealedB l = true ↔ off l = 0 := by
  obtain ⟨s, hs, e⟩ := cut4 hl h4
  unfold sealedB sealedB.eqL
  rw [decide_eq_true_iff, e]
  have h := off_iff (hl.take (l.length - 4)) hs
  rw [← e, List.take_append_drop] at h
  rw [h]
  constructor
  · intro h'; exact le4_inj hs (sumN_lt _) h'
  · rintro rfl; rfl
/-- A text with one bit turned. -/
def trn (l : List Int) (p : Nat) : List Int := l.set (p / 8) (((l.getD (p / 8) 0).toNat ^^^ 2 ^ (p % 8) : Nat) : Int)
theorem trn_len (l : List Int) (p : Nat) : (trn l p).length = l.length := by unfold trn; simp
theorem trn_bytes {l : List Int} (hl : U8s l) {p : Nat} (hp : p / 8 < l.length) : U8s (trn l p) := by
  intro x hx
  unfold trn at hx
  rcases List.mem_or_eq_of_mem_set hx with hx | rfl
  · exact hl x hx
  · have h0 := hl.at_ (List.getElem?_eq_getElem hp)
    rw [List.getD_eq_getElem?_getD, List.getElem?_eq_getElem hp, Option.getD_some]
    have : (l[p / 8]).toNat ^^^ 2 ^ (p % 8) < 2 ^ 8 := Nat.xor_lt_two_pow (by omega) (by
      have : p % 8 < 8 := by omega
      exact Nat.pow_lt_pow_right (by decide) this)
    omega
theorem set_split (l : List Int) (q : Nat) (v : Int) (h : q < l.length) : l.set q v = l.take q ++ v :: l.drop (q + 1) := by
  rw [List.set_eq_take_append_cons_drop, if_pos h]
theorem crcL_trn {l : List Int} {p : Nat} (hl : U8s l) (hp : p / 8 < l.length) (c : Nat) : crcL c (trn l p) = crcL c l ^^^ hn (8 * l.length - p) 1 := by
  have e1 : l = l.take (p / 8) ++ l[p / 8] :: l.drop (p / 8 + 1) := by
    rw [← List.drop_eq_getElem_cons hp, List.take_append_drop]
  have ex : l.getD (p / 8) 0 = l[p / 8] := by rw [List.getD_eq_getElem?_getD, List.getElem?_eq_getElem hp, Option.getD_some]
  unfold trn
  rw [ex, set_split _ _ _ hp]
  conv => rhs; rw [e1]
  rw [crcL_app, crcL_app, crcL_cons, crcL_cons]
  have hcast : (((l[p / 8].toNat ^^^ 2 ^ (p % 8) : Nat) : Int)).toNat = l[p / 8].toNat ^^^ 2 ^ (p % 8) := by omega
  rw [hcast]
  have e2 : ∀ c x : Nat, crcB c (x ^^^ 2 ^ (p % 8)) = crcB c x ^^^ hn (8 - p % 8) 1 := fun c x => by
    unfold crcB
    rw [← Nat.xor_assoc, hn_xor]
    congr 1
    obtain ⟨q, hq⟩ : ∃ q, p % 8 = q := ⟨_, rfl⟩
    rw [hq]
    have hq8 : q < 8 := by omega
    have h8 : hn 8 (2 ^ q) = hn (q + (8 - q)) (2 ^ q) := by rw [show q + (8 - q) = 8 by omega]
    rw [h8, hn_add, hn_pow]
  rw [e2, crcL_xor, ← hn_add]
  congr 2
  rw [List.length_drop, ← e1]
  omega
theorem off_trn {l : List Int} {p : Nat} (hl : U8s l) (hp : p / 8 < l.length) : off (trn l p) = off l ^^^ hn (8 * l.length - p) 1 := by
  unfold off
  rw [crcL_trn hl hp, Nat.xor_assoc, Nat.xor_assoc, Nat.xor_comm (hn 32 4294967295)]
theorem trn_trn {l : List Int} {p : Nat} (hl : U8s l) (hp : p / 8 < l.length) : trn (trn l p) p = l := by
  have ex : l.getD (p / 8) 0 = l[p / 8] := by rw [List.getD_eq_getElem?_getD, List.getElem?_eq_getElem hp, Option.getD_some]
  have hb := hl.at_ (List.getElem?_eq_getElem hp)
  unfold trn
  rw [ex]
  have e2 : (l.set (p / 8) (((l[p / 8]).toNat ^^^ 2 ^ (p % 8) : Nat) : Int)).getD (p / 8) 0 = (((l[p / 8]).toNat ^^^ 2 ^ (p % 8) : Nat) : Int) := by
    rw [List.getD_eq_getElem?_getD, List.getElem?_set, if_pos rfl, if_pos hp, Option.getD_some]
  rw [e2, List.set_set, show ((((l[p / 8]).toNat ^^^ 2 ^ (p % 8) : Nat) : Int)).toNat = (l[p / 8]).toNat ^^^ 2 ^ (p % 8) by omega, Nat.xor_assoc, Nat.xor_self, Nat.xor_zero, show (((l[p / 8]).toNat : Nat) : Int) = l[p / 8] by omega]
  exact List.set_getElem_self hp
/-- The lowest k bits of a pattern, as far as there is room for n. -/
def pk (p n k : Nat) : Nat := p % 2 ^ min k n
theorem pk_zero (p n : Nat) : pk p n 0 = 0 := by unfold pk; rw [Nat.zero_min, Nat.pow_zero, Nat.mod_one]
theorem pk_lt (p n k : Nat) (hk : k ≤ 32) : pk p n k < 2 ^ 32 := by
  unfold pk
  have h1 := Nat.mod_lt p (show 0 < 2 ^ min k n from Nat.pow_pos (by decide))
  have h2 : 2 ^ min k n ≤ 2 ^ 32 := Nat.pow_le_pow_right (by decide) (by omega)
  omega
theorem pk_out {p n k : Nat} (h : n ≤ k) : pk p n (k + 1) = pk p n k := by
  unfold pk; rw [show min (k + 1) n = min k n by omega]
theorem pk_next {p n k : Nat} (h : k < n) : pk p n (k + 1) = pk p n k + 2 ^ k * (p / 2 ^ k % 2) := by
  unfold pk
  rw [show min (k + 1) n = k + 1 by omega, show min k n = k by omega, Nat.mod_pow_succ]
theorem pk_skip {p n k : Nat} (h : p / 2 ^ k % 2 ≠ 1) : pk p n (k + 1) = pk p n k := by
  by_cases hk : k < n
  · rw [pk_next hk, show p / 2 ^ k % 2 = 0 by omega, Nat.mul_zero, Nat.add_zero]
  · exact pk_out (by omega)
theorem pk_turn {p n k : Nat} (hk : k < n) (h : p / 2 ^ k % 2 = 1) : pk p n (k + 1) = pk p n k ^^^ 2 ^ k := by
  rw [pk_next hk, h, Nat.mul_one]
  have hlt : pk p n k < 2 ^ k := by
    unfold pk
    rw [show min k n = k by omega]
    exact Nat.mod_lt p (Nat.pow_pos (by decide))
  obtain ⟨a, ha⟩ : ∃ a, pk p n k = a := ⟨_, rfl⟩
  rw [ha] at hlt ⊢
  have h2 := Nat.two_pow_add_eq_or_of_lt hlt 1
  rw [Nat.mul_one] at h2
  rw [Nat.add_comm, h2]
  apply Nat.eq_of_testBit_eq
  intro i
  rw [Nat.testBit_or, Nat.testBit_xor, Nat.testBit_two_pow]
  by_cases e : k = i
  · subst e
    rw [Nat.testBit_lt_two_pow hlt]
    simp
  · simp [e]
theorem pk_pos {p n k : Nat} (hk : k < n) (h : p / 2 ^ k % 2 = 1) : pk p n (k + 1) ≠ 0 := by
  rw [pk_next hk, h]
  have := Nat.pow_pos (n := k) (show 0 < 2 by decide)
  omega
theorem hn_bit {n k : Nat} (h : k ≤ n) : hn n (2 ^ k) = hn (n - k) 1 := by
  rw [show n = k + (n - k) by omega, hn_add, hn_pow, show k + (n - k) - k = n - k by omega]
/-- A burst, bit by bit. -/
theorem burst_step {l : List Int} {p f k n : Nat} (hl : U8s l) (hn' : f + n = 8 * l.length) (hk : k < n) (hb : p / 2 ^ k % 2 = 1) (h : off l = hn n (pk p n k)) :
    off (trn l (f + k)) = hn n (pk p n (k + 1)) := by
  rw [off_trn hl (by omega), h, pk_turn hk hb, hn_xor, hn_bit (by omega), show 8 * l.length - (f + k) = n - k by omega]
/-- Texts turned by one another. -/
def xorL : List Int → List Int → List Int
  | x :: xs, y :: ys => ((x.toNat ^^^ y.toNat : Nat) : Int) :: xorL xs ys
  | _, _ => []
theorem xorL_len : ∀ {a b : List Int}, a.length = b.length → (xorL a b).length = a.length
  | [], [], _ => rfl
  | x :: xs, y :: ys, h => by
    simp only [List.length_cons] at h
    rw [xorL, List.length_cons, List.length_cons, xorL_len (by omega)]
theorem crcL_xorL : ∀ (a b : List Int) (c d : Nat), a.length = b.length → crcL (c ^^^ d) (xorL a b) = crcL c a ^^^ crcL d b
  | [], [], c, d, _ => by rfl
  | x :: xs, y :: ys, c, d, h => by
    simp only [List.length_cons] at h
    rw [xorL, crcL_cons, crcL_cons, crcL_cons, show (((x.toNat ^^^ y.toNat : Nat) : Int)).toNat = x.toNat ^^^ y.toNat by omega, ← crcL_xorL xs ys _ _ (by omega)]
    congr 1
    unfold crcB
    rw [← hn_xor]
    congr 1
    rw [Nat.xor_assoc, Nat.xor_assoc, ← Nat.xor_assoc d, Nat.xor_comm d, Nat.xor_assoc]
theorem xorL_bytes : ∀ {a b : List Int}, U8s a → U8s b → U8s (xorL a b)
  | [], _, _, _ => by intro x hx; simp [xorL] at hx
  | _ :: _, [], _, _ => by intro x hx; simp [xorL] at hx
  | x :: xs, y :: ys, ha, hb => by
    intro z hz
    rw [xorL] at hz
    rcases List.mem_cons.1 hz with rfl | hz
    · have h1 := ha x (by simp)
      have h2 := hb y (by simp)
      have : x.toNat ^^^ y.toNat < 2 ^ 8 := Nat.xor_lt_two_pow (by omega) (by omega)
      omega
    · exact xorL_bytes (fun w hw => ha w (by simp [hw])) (fun w hw => hb w (by simp [hw])) z hz
theorem xorL_at : ∀ {a b : List Int} {k : Nat} {x y : Int}, a[k]? = some x → b[k]? = some y → (xorL a b)[k]? = some ((x.toNat ^^^ y.toNat : Nat) : Int)
  | [], _, _, _, _, h, _ => by simp at h
  | _ :: _, [], _, _, _, _, h => by simp at h
  | x :: xs, y :: ys, 0, _, _, h1, h2 => by
    simp only [List.getElem?_cons_zero, Option.some.injEq] at h1 h2
    subst h1 h2
    simp [xorL]
  | x :: xs, y :: ys, k + 1, _, _, h1, h2 => by
    simp only [List.getElem?_cons_succ] at h1 h2
    rw [xorL, List.getElem?_cons_succ]
    exact xorL_at h1 h2
theorem sum_lin {a b c : List Int} (ha : U8s a) (hb : U8s b) (hc : U8s c) (h1 : a.length = b.length) (h2 : a.length = c.length) :
    sumN (xorL (xorL a b) c) = (sumN a ^^^ sumN b) ^^^ sumN c := by
  have e : ∀ {l : List Int}, U8s l → sumN l = crcL 4294967295 l ^^^ 4294967295 := fun {l} hl => by
    unfold sumN moreN
    rw [show inv 0 = 4294967295 from rfl, inv_xor (crcL_lt l hl (by decide))]
  rw [e ha, e hb, e hc, e (xorL_bytes (xorL_bytes ha hb) hc)]
  have h3 := crcL_xorL (xorL a b) c (4294967295 ^^^ 4294967295) 4294967295 (by rw [xorL_len h1]; exact h2)
  rw [crcL_xorL a b _ _ h1, show (4294967295 ^^^ 4294967295 ^^^ 4294967295 : Nat) = 4294967295 from by decide] at h3
  rw [h3, xor4, Nat.xor_assoc]
/-- The register's lowest bits turned alone: how the program takes a byte in. -/
theorem crcB_low {c x : Nat} (hx : x < 256) : crcB c x = c / 256 ^^^ hn 8 (c % 256 ^^^ x) := by
  unfold crcB
  have h1 : (c ^^^ x) % 2 ^ 8 = c % 256 ^^^ x := by
    rw [Nat.xor_mod_two_pow, Nat.mod_eq_of_lt (a := x) (by omega)]
  have h2 : (c ^^^ x) / 2 ^ 8 = c / 256 := by
    rw [Nat.xor_div_two_pow, Nat.div_eq_of_lt (a := x) (by omega), Nat.xor_zero]
  rw [hn_split 8 (c ^^^ x), h1, h2, Nat.xor_comm]
/-- What the calls tell, and their errors. -/
def trnV (l : List Int) (bit : Int) : List Int := if bit < 0 ∨ (l.length : Int) ≤ bit / 8 then [] else trn l bit.toNat
def trnE (l : List Int) (bit : Int) : Int := if bit < 0 ∨ (l.length : Int) ≤ bit / 8 then 1 else 0
def sealV (l : List Int) : List Int := if 65532 < l.length then [] else l ++ le4 (sumN l)
def sealE (l : List Int) : Int := if 65532 < l.length then 3 else 0
def openV (l : List Int) : List Int := if 65536 < l.length ∨ l.length < 4 ∨ sealedB l = false then [] else l.take (l.length - 4)
def openE (l : List Int) : Int := if 65536 < l.length then 3 else if l.length < 4 then 5 else if sealedB l = false then 7 else 0
end Go.Proofs.Ytjkhdfncahhnoaa
/- What was put is got, what was got was put; spread, gathered, left: plain mathematics. -/
namespace Go.Proofs.Ytjkhdfncahhnoaa
set_option maxRecDepth 100000
set_option linter.unusedVariables false
theorem pixV_u8 (dim : Int) (l : List Int) : U8s (pixV dim l) := by
  unfold pixV
  split
  · rename_i h; exact encs_u8 (putL_u64 (chk_ok.1 h))
  · intro x hx; simp at hx
theorem pixV_len (dim : Int) (l : List Int) : (pixV dim l).length ≤ 41000 := by
  unfold pixV
  split
  · rename_i h
    have hp := chk_ok.1 h
    have h1 := encs_len (putL_u64 hp)
    have h2 := plc_le hp
    have h3 := hp.2.1
    unfold putL at h1 ⊢
    rw [List.length_cons, gaps_len] at h1
    omega
  · simp
theorem ixL_put {dim : Int} {b behind : List Int} (hd : dim ≤ 4096) : ∀ (l : List Int) (last : Int) (ahead : List Int), risP (last :: l) → -1 ≤ last → (∀ n ∈ l, n < dim) → b = ahead ++ (encs (gapsF last l) ++ behind) →
    ixL dim b l.length last ahead.length = (l, (((ahead ++ encs (gapsF last l)).length : Nat) : Int), 0)
  | [], last, ahead, _, _, _, hb => by simp [ixL, gapsF, encs]
  | n :: l, last, ahead, hr, hl, hn, hb => by
    have hn1 := hn n (by simp)
    have hlt : last < n := (List.pairwise_cons.1 hr).1 n (by simp)
    rw [gapsF, encs_cons] at hb
    have hu : U64 (n - last - 1) := by unfold U64; omega
    have hb' : b = ahead ++ (lebI (n - last - 1) ++ (encs (gapsF n l) ++ behind)) := by rw [hb]; simp
    obtain ⟨e1, e2, e3⟩ := get_at hu ahead _ hb'
    have ih := ixL_put (b := b) (behind := behind) hd l n (ahead ++ lebI (n - last - 1)) (List.pairwise_cons.1 hr).2 (by omega) (fun m hm => hn m (by simp [hm])) (by rw [hb']; simp)
    rw [List.length_cons, ixL]
    have h1 : ¬ getE b (ahead.length : Int) ≠ 0 := fun h => h e2
    rw [if_neg h1, e1, if_neg (by omega), show last + (n - last - 1) + 1 = n by omega, e3]
    rw [List.length_append, Int.natCast_add] at ih
    rw [ih]
    simp [gapsF, encs_cons]
theorem gix_put {dim : Int} {l ahead behind b : List Int} (h : chkE dim l = 0) (hb : b = ahead ++ (pixV dim l ++ behind)) : gixR dim b ahead.length = (l, (((ahead ++ pixV dim l).length : Nat) : Int), 0) := by
  have hp := chk_ok.1 h
  have h1 := hp.1
  have h2 := hp.2.1
  have h3 := plc_le hp
  have e : pixV dim l = lebI (l.length : Int) ++ encs (gapsF (-1) l) := by unfold pixV; rw [if_pos h]; unfold putL; rw [encs_cons]
  rw [e] at hb ⊢
  have hu : U64 (l.length : Int) := by unfold U64; omega
  have hb' : b = ahead ++ (lebI (l.length : Int) ++ (encs (gapsF (-1) l) ++ behind)) := by rw [hb]; simp
  obtain ⟨e1, e2, e3⟩ := get_at hu ahead _ hb'
  have h4 := ixL_put (b := b) (behind := behind) h2 l (-1) (ahead ++ lebI (l.length : Int)) (plc_cons hp) (by omega) (fun n hn => (hp.2.2.2 n hn).2) (by rw [hb']; simp)
  unfold gixR
  have hne : ¬ getE b (ahead.length : Int) ≠ 0 := fun h => h e2
  rw [if_neg (by omega), if_neg hne, e1, if_neg (by omega), Int.toNat_natCast, e3]
  rw [List.length_append, Int.natCast_add] at h4
  rw [h4]
  simp
theorem ixL_back {dim : Int} {b : List Int} (ub : U8s b) : ∀ (m : Nat) (last : Int) (k : Nat) (l : List Int) (a' : Int), ixL dim b m last k = (l, a', 0) → k ≤ b.length → last < dim → l.length = m ∧ risP (last :: l) ∧ (∀ n ∈ l, n < dim) ∧
    ∃ j : Nat, k + j ≤ b.length ∧ a' = ((k + j : Nat) : Int) ∧ (b.drop k).take j = encs (gapsF last l)
  | 0, last, k, l, a', h, hk, hl => by
    rw [ixL] at h
    simp only [Prod.mk.injEq, and_true] at h
    obtain ⟨rfl, rfl⟩ := h
    exact ⟨rfl, ris_one _, by intro n hn; simp at hn, 0, by omega, by simp, by simp [gapsF, encs]⟩
  | m + 1, last, k, l, a', h, hk, hl => by
    rw [ixL] at h
    split at h
    · rename_i h1
      simp only [Prod.mk.injEq] at h
      exact absurd h.2.2 h1
    · rename_i h1
      have h1 : getE b k = 0 := by omega
      split at h
      · simp at h
      · rename_i h2
        obtain ⟨_, hu, j1, hj1, hA, ht⟩ := get_ok ub h1
        rw [Int.toNat_natCast] at hj1 hA ht
        rw [hA] at h
        unfold U64 at hu
        split at h
        · rename_i h3
          obtain ⟨l2, a2, e2, hr⟩ : ∃ l2 a2 e2, ixL dim b m (last + getN b k + 1) ((k + j1 : Nat) : Int) = (l2, a2, e2) := ⟨_, _, _, rfl⟩
          rw [hr] at h h3
          simp only at h3
          subst h3
          simp only [Prod.mk.injEq, and_true] at h
          obtain ⟨rfl, rfl⟩ := h
          obtain ⟨i1, i2, i3, j2, i4, i5, i6⟩ := ixL_back ub m _ _ l2 a2 hr hj1 (by omega)
          refine ⟨by rw [List.length_cons, i1], ?_, ?_, j1 + j2, by omega, by rw [i5]; congr 1; omega, ?_⟩
          · refine List.pairwise_cons.2 ⟨fun x hx => ?_, i2⟩
            rcases List.mem_cons.1 hx with rfl | hx
            · omega
            · have := (List.pairwise_cons.1 i2).1 x hx
              omega
          · intro n hn
            rcases List.mem_cons.1 hn with rfl | hn
            · omega
            · exact i3 n hn
          · rw [List.take_add, ht, List.drop_drop, i6, gapsF, encs_cons, show last + getN b k + 1 - last - 1 = getN b k by omega]
        · rename_i h3
          simp only [Prod.mk.injEq] at h
          exact absurd h.2.2 h3
theorem gix_back {dim : Int} {b m : List Int} {a : Int} (ub : U8s b) (h : gixR dim b 0 = (m, a, 0)) : chkE dim m = 0 ∧ ∃ j : Nat, a = j ∧ j ≤ b.length ∧ pixV dim m = b.take j := by
  unfold gixR at h
  split at h
  · simp at h
  · rename_i hd
    split at h
    · rename_i h1
      simp only [Prod.mk.injEq] at h
      exact absurd h.2.2 h1
    · rename_i h1
      have h1 : getE b 0 = 0 := by omega
      split at h
      · simp at h
      · rename_i h2
        obtain ⟨_, hu, j1, hj1, hA, ht⟩ := get_ok ub h1
        unfold U64 at hu
        rw [hA] at h
        rw [Int.toNat_zero] at hj1 ht
        rw [Int.toNat_zero] at h
        obtain ⟨i1, i2, i3, j2, i4, i5, i6⟩ := ixL_back ub _ _ _ m a h (by omega) (by omega)
        have hp : plcP dim m := ⟨by omega, by omega, (List.pairwise_cons.1 i2).2, fun n hn => ⟨by have := (List.pairwise_cons.1 i2).1 n hn; omega, i3 n hn⟩⟩
        refine ⟨chk_ok.2 hp, 0 + j1 + j2, i5, by omega, ?_⟩
        unfold pixV
        rw [if_pos (chk_ok.2 hp)]
        unfold putL
        rw [encs_cons, ← i6]
        rw [List.drop_zero] at ht
        rw [i1, show ((getN b 0).toNat : Int) = getN b 0 by omega, ← ht, Nat.zero_add, List.take_add]
theorem ixL_len (dim : Int) (b : List Int) : ∀ (m : Nat) (last a : Int), (ixL dim b m last a).1.length ≤ m
  | 0, _, _ => by simp [ixL]
  | m + 1, last, a => by
    have h := ixL_len dim b m (last + getN b a + 1) (getA b a)
    rw [ixL]
    split
    · simp
    · split
      · simp
      · split
        · simp; omega
        · simp
theorem gix_len (dim : Int) (b : List Int) (a : Int) : (gixR dim b a).1.length ≤ 4096 := by
  unfold gixR
  split
  · simp
  · split
    · simp
    · split
      · simp
      · have h := ixL_len dim b (getN b a).toNat (-1) (getA b a)
        omega
theorem gix_nil {dim : Int} {b m : List Int} {a a' e : Int} (h : gixR dim b a = (m, a', e)) (he : e ≠ 0) : m = [] := by
  unfold gixR at h
  split at h
  · simp at h; exact h.1
  · split at h
    · simp at h; exact h.1
    · split at h
      · simp at h; exact h.1
      · have hb := ixL_bad dim b (getN b a).toNat (-1) (getA b a) (by rw [h]; exact he)
        rw [h] at hb
        simp at hb
        exact hb.1
theorem mrg_left {K : Nat} {l : List Int} (h : plcP K l) : mrgV [lfF K l, l] = upI K := by
  refine (mrgV_eq (upI_ris K) fun x => ?_).symm
  rw [upI_mem]
  constructor
  · intro hx
    by_cases hm : x ∈ l
    · exact ⟨l, by simp, hm⟩
    · exact ⟨lfF K l, by simp, lfF_mem.2 ⟨hx, hm⟩⟩
  · rintro ⟨m, hm, hx⟩
    simp only [List.mem_cons, List.not_mem_nil, or_false] at hm
    rcases hm with rfl | rfl
    · exact (lfF_mem.1 hx).1
    · exact h.2.2.2 x hx
theorem left_all {dim : Int} {l : List Int} (h : chkE dim l = 0) : ∃ (K : Nat) (m : List Int), dim = K ∧ 1 ≤ K ∧ K ≤ 4096 ∧ lfV dim l = m ∧ chkE dim m = 0 ∧ lfV dim m = l ∧ mrgV [m, l] = upI K ∧ m.length + l.length = K := by
  have hp := chk_ok.1 h
  obtain ⟨K, rfl, h1, h2, _⟩ := plc_sub hp
  have e : lfV K l = lfF K l := by unfold lfV; rw [if_pos h, Int.toNat_natCast]
  have hl := lf_lf hp
  have hc := chk_ok.2 (lf_plc hp)
  have hn := plc_len hp
  rw [e] at hl hc
  exact ⟨K, lfF K l, rfl, h1, h2, e, hc, hl, mrg_left hp, by omega⟩
theorem getD_nat {v : List Int} {n : Nat} {z : Int} (h : v[n]? = some z) : v.getD ((n : Int)).toNat 0 = z := by rw [Int.toNat_natCast, List.getD_eq_getElem?_getD, h]; rfl
theorem gat_plc {l v : List Int} {K : Nat} (h : plcP K l) (hv : v.length = K) : gatP l v := ⟨h.2.2.1, fun n hn => by have := h.2.2.2 n hn; omega⟩
theorem gat_len {l v : List Int} (h : gatE l v = 0) : (gatV l v).length = l.length := by unfold gatV; rw [if_pos h, List.length_map]
theorem gat_at {l v : List Int} (h : gatE l v = 0) {i n : Nat} {z : Int} (hl : l[i]? = some (n : Int)) (hv : v[n]? = some z) : (gatV l v)[i]? = some z := by
  unfold gatV
  rw [if_pos h, List.getElem?_map, hl, Option.map_some, getD_nat hv]
theorem sp_ok {K : Nat} {l v : List Int} (h : chkE K l = 0) (hv : l.length = v.length) : spE K l v = 0 ∧ spV K l v = (upI K).map (spF l v) := by
  have e : spE K l v = 0 := by unfold spE; rw [if_pos h, if_pos hv]
  refine ⟨e, ?_⟩
  unfold spV
  rw [if_pos e, Int.toNat_natCast]
theorem sp_at {K : Nat} {l v : List Int} {n : Nat} (hn : n < K) : ((upI K).map (spF l v))[n]? = some (spF l v n) := by
  rw [List.getElem?_map, upI_at hn]; rfl
/-- What is gathered, and what is gathered elsewhere, spread. -/
theorem spreads {l v : List Int} (h : chkE v.length l = 0) : ∃ m a b x y, v.length ≤ 4096 ∧ lfV v.length l = m ∧ chkE v.length m = 0 ∧ gatV l v = a ∧ gatE l v = 0 ∧ gatV m v = b ∧ gatE m v = 0 ∧
    spV v.length l a = x ∧ spE v.length l a = 0 ∧ spV v.length m b = y ∧ spE v.length m b = 0 ∧ l.length + m.length = v.length ∧ a.length = l.length ∧ b.length = m.length ∧ x.length = v.length ∧ y.length = v.length ∧
    ∀ (n : Nat) (z : Int), v[n]? = some z → (x[n]? = some z ∧ y[n]? = some 0) ∨ (x[n]? = some 0 ∧ y[n]? = some z) := by
  have hp := chk_ok.1 h
  obtain ⟨K, m, hK, _, hK4, e1, e2, e3, _, e5⟩ := left_all h
  have hp2 := chk_ok.1 e2
  have g1 := gat_ok.2 (gat_plc hp rfl)
  have g2 := gat_ok.2 (gat_plc hp2 rfl)
  have l1 := gat_len g1
  have l2 := gat_len g2
  obtain ⟨s1, s2⟩ := sp_ok (v := gatV l v) h (by rw [l1])
  obtain ⟨s3, s4⟩ := sp_ok (v := gatV m v) e2 (by rw [l2])
  refine ⟨m, gatV l v, gatV m v, _, _, by omega, e1, e2, rfl, g1, rfl, g2, s2, s1, s4, s3, by omega, l1, l2, ?_, ?_, ?_⟩
  · rw [List.length_map, upI_len]
  · rw [List.length_map, upI_len]
  · intro n z hz
    have hn : n < v.length := (List.getElem?_eq_some_iff.1 hz).1
    rw [sp_at hn, sp_at hn]
    have hm : (n : Int) ∈ m ↔ (n : Int) ∉ l := by
      rw [← e1]
      unfold lfV
      rw [if_pos h, lfF_mem]
      constructor
      · exact fun h => h.2
      · intro h; exact ⟨⟨by omega, by rw [Int.toNat_natCast]; omega⟩, h⟩
    by_cases hl : (n : Int) ∈ l
    · left
      obtain ⟨i, hi, hin⟩ := List.getElem_of_mem hl
      have hli : l[i]? = some (n : Int) := by rw [List.getElem?_eq_getElem hi, hin]
      rw [spF_in hp.2.2.1 l1.symm hli (gat_at g1 hli hz), spF_out (fun h => hm.1 h hl)]
      exact ⟨rfl, rfl⟩
    · right
      obtain ⟨i, hi, hin⟩ := List.getElem_of_mem (hm.2 hl)
      have hli : m[i]? = some (n : Int) := by rw [List.getElem?_eq_getElem hi, hin]
      rw [spF_in hp2.2.2.1 l2.symm hli (gat_at g2 hli hz), spF_out hl]
      exact ⟨rfl, rfl⟩
/-- What was spread is gathered. -/
theorem spread_back {K : Nat} {l u : List Int} (h : chkE K l = 0) (hu : l.length = u.length) : spE K l u = 0 ∧ (spV K l u).length = K ∧ gatE l (spV K l u) = 0 ∧ gatV l (spV K l u) = u := by
  have hp := chk_ok.1 h
  obtain ⟨s1, s2⟩ := sp_ok (v := u) h hu
  have hl : (spV K l u).length = K := by rw [s2, List.length_map, upI_len]
  have g := gat_ok.2 (gat_plc hp hl)
  refine ⟨s1, hl, g, ?_⟩
  apply List.ext_getElem?
  intro i
  by_cases hi : i < l.length
  · have hli : l[i]? = some l[i] := List.getElem?_eq_getElem hi
    have hpl := hp.2.2.2 _ (List.getElem_mem hi)
    obtain ⟨n, hn⟩ := Int.eq_ofNat_of_zero_le hpl.1
    have hui : u[i]? = some u[i] := List.getElem?_eq_getElem (by omega)
    rw [hn] at hli
    have hnK : n < K := by omega
    rw [gat_at (z := u[i]) g hli (by rw [s2, sp_at hnK, spF_in hp.2.2.1 hu hli hui]), hui]
  · rw [List.getElem?_eq_none (by rw [gat_len g]; omega), List.getElem?_eq_none (by omega)]
theorem spV_len (dim : Int) (l v : List Int) : (spV dim l v).length ≤ 4096 := by
  unfold spV
  split
  · rename_i h
    unfold spE at h
    split at h
    · rename_i h1
      have hd := (chk_ok.1 h1).2.1
      rw [List.length_map, upI_len]
      omega
    · rename_i h1; exact absurd h h1
  · simp
theorem lfV_len (dim : Int) (l : List Int) : (lfV dim l).length ≤ 4096 := by
  unfold lfV
  split
  · rename_i h
    have hd := (chk_ok.1 h).2.1
    unfold lfF
    have := List.length_filter_le (fun x => !decide (x ∈ l)) (upI dim.toNat)
    rw [upI_len] at this
    omega
  · simp
end Go.Proofs.Ytjkhdfncahhnoaa
/- Bits in bytes, side by side and in planes: plain mathematics. No program in sight. -/
namespace Go.Proofs.Ytjkhdfncahhnoaa
set_option maxRecDepth 100000
set_option linter.unusedVariables false
/-- The first n of the bits that f tells. -/
def mkB (n : Nat) (f : Nat → Bool) : List Bool := (List.range n).map f
theorem mkB_len (n : Nat) (f : Nat → Bool) : (mkB n f).length = n := by unfold mkB; simp
theorem mkB_succ (n : Nat) (f : Nat → Bool) : mkB (n + 1) f = mkB n f ++ [f n] := by unfold mkB; simp [List.range_succ]
theorem mkB_at {n k : Nat} (f : Nat → Bool) (h : k < n) : (mkB n f)[k]? = some (f k) := by unfold mkB; simp [h]
theorem mkB_congr {n : Nat} {f g : Nat → Bool} (h : ∀ k, k < n → f k = g k) : mkB n f = mkB n g := by
  unfold mkB
  exact List.map_congr_left fun k hk => h k (List.mem_range.1 hk)
theorem mkB_take {n k : Nat} (f : Nat → Bool) (h : k ≤ n) : (mkB n f).take k = mkB k f := by
  unfold mkB
  rw [← List.map_take, List.take_range, Nat.min_eq_left h]
/-- What a bit at place p weighs, of the first n. -/
def bv (n : Nat) (f : Nat → Bool) (p : Nat) (w : Int) : Int := if p < n ∧ f p = true then w else 0
/-- A byte of the first n bits. -/
def byF (n : Nat) (f : Nat → Bool) (i : Nat) : Int :=
  bv n f (8 * i) 128 + bv n f (8 * i + 1) 64 + bv n f (8 * i + 2) 32 + bv n f (8 * i + 3) 16 + bv n f (8 * i + 4) 8 + bv n f (8 * i + 5) 4 + bv n f (8 * i + 6) 2 + bv n f (8 * i + 7) 1
def pkL (n : Nat) (f : Nat → Bool) : List Int := (List.range ((n + 7) / 8)).map (byF n f)
theorem pkL_len (n : Nat) (f : Nat → Bool) : (pkL n f).length = (n + 7) / 8 := by unfold pkL; simp
theorem pkL_at {n i : Nat} (f : Nat → Bool) (h : i < (n + 7) / 8) : (pkL n f)[i]? = some (byF n f i) := by unfold pkL; simp [h]
theorem bv_next {n p : Nat} {f : Nat → Bool} {w : Int} (h : p ≠ n) : bv (n + 1) f p w = bv n f p w := by
  unfold bv
  by_cases hp : p < n
  · simp [hp, show p < n + 1 by omega]
  · simp [hp, show ¬ p < n + 1 by omega]
theorem bv_here {n p : Nat} {f : Nat → Bool} {w : Int} (h : p = n) : bv (n + 1) f p w = if f n = true then w else 0 := by
  unfold bv
  subst h
  simp
theorem bv_not {n p : Nat} {f : Nat → Bool} {w : Int} (h : n ≤ p) : bv n f p w = 0 := by
  unfold bv
  rw [if_neg (by omega)]
theorem byF_other {n i : Nat} {f : Nat → Bool} (h : i ≠ n / 8) : byF (n + 1) f i = byF n f i := by
  unfold byF
  rw [bv_next (by omega), bv_next (by omega), bv_next (by omega), bv_next (by omega), bv_next (by omega), bv_next (by omega), bv_next (by omega), bv_next (by omega)]
theorem byF_off {n i : Nat} {f : Nat → Bool} (h : f n = false) : byF (n + 1) f i = byF n f i := by
  have e : ∀ p w, bv (n + 1) f p w = bv n f p w := fun p w => by
    by_cases hp : p = n
    · rw [bv_here hp, bv_not (by omega), h]; rfl
    · exact bv_next hp
  unfold byF
  simp only [e]
theorem byF_on {n : Nat} {f : Nat → Bool} (h : f n = true) : byF (n + 1) f (n / 8) = byF n f (n / 8) + 128 / 2 ^ (n % 8) := by
  have e : ∀ j w, bv (n + 1) f (8 * (n / 8) + j) w = bv n f (8 * (n / 8) + j) w + if j = n % 8 then w else 0 := fun j w => by
    by_cases hj : j = n % 8
    · rw [bv_here (by omega), bv_not (by omega), if_pos h, if_pos hj]; omega
    · rw [bv_next (by omega), if_neg hj]; omega
  have e0 : ∀ w, bv (n + 1) f (8 * (n / 8)) w = bv n f (8 * (n / 8)) w + if 0 = n % 8 then w else 0 := e 0
  unfold byF
  rw [e0, e, e, e, e, e, e, e]
  have h8 : n % 8 < 8 := Nat.mod_lt _ (by decide)
  obtain ⟨r, hr⟩ : ∃ r, n % 8 = r := ⟨_, rfl⟩
  rw [hr] at h8 ⊢
  match r, h8 with
  | 0, _ => simp; omega
  | 1, _ => simp; omega
  | 2, _ => simp; omega
  | 3, _ => simp; omega
  | 4, _ => simp; omega
  | 5, _ => simp; omega
  | 6, _ => simp; omega
  | 7, _ => simp; omega
theorem bv_cases (n : Nat) (f : Nat → Bool) (p : Nat) (w : Int) : bv n f p w = if (decide (p < n) && f p) then w else 0 := by
  unfold bv
  by_cases h : p < n <;> simp [h]
theorem byF_lt (n : Nat) (f : Nat → Bool) (i : Nat) : 0 ≤ byF n f i ∧ byF n f i ≤ 255 := by
  have h : ∀ p w, 0 ≤ w → 0 ≤ bv n f p w ∧ bv n f p w ≤ w := fun p w hw => by unfold bv; split <;> omega
  unfold byF
  have := h (8 * i) 128 (by decide)
  have := h (8 * i + 1) 64 (by decide)
  have := h (8 * i + 2) 32 (by decide)
  have := h (8 * i + 3) 16 (by decide)
  have := h (8 * i + 4) 8 (by decide)
  have := h (8 * i + 5) 4 (by decide)
  have := h (8 * i + 6) 2 (by decide)
  have := h (8 * i + 7) 1 (by decide)
  omega
theorem pkL_bytes (n : Nat) (f : Nat → Bool) : U8s (pkL n f) := by
  intro x hx
  unfold pkL at hx
  obtain ⟨i, _, rfl⟩ := List.mem_map.1 hx
  exact byF_lt n f i
theorem pkL_congr {n : Nat} {f g : Nat → Bool} (h : ∀ k, k < n → f k = g k) : pkL n f = pkL n g := by
  have e : ∀ p w, bv n f p w = bv n g p w := fun p w => by
    unfold bv
    by_cases hp : p < n
    · rw [h p hp]
    · rw [if_neg (by omega), if_neg (by omega)]
  unfold pkL
  refine List.map_congr_left fun i _ => ?_
  unfold byF
  simp only [e]
/-- A bit of a number, of bytes. -/
def bt (n : Int) (k : Nat) : Bool := decide (n / 2 ^ k % 2 = 1)
def fB (b : List Int) (p : Nat) : Bool := bt (b.getD (p / 8) 0) (7 - p % 8)
def sum8 (a b c d e f g h : Bool) : Int := (if a then 128 else 0) + (if b then 64 else 0) + (if c then 32 else 0) + (if d then 16 else 0) + (if e then 8 else 0) + (if f then 4 else 0) + (if g then 2 else 0) + (if h then 1 else 0)
theorem sum8_bits : ∀ a b c d e f g h : Bool, bt (sum8 a b c d e f g h) 7 = a ∧ bt (sum8 a b c d e f g h) 6 = b ∧ bt (sum8 a b c d e f g h) 5 = c ∧ bt (sum8 a b c d e f g h) 4 = d ∧
    bt (sum8 a b c d e f g h) 3 = e ∧ bt (sum8 a b c d e f g h) 2 = f ∧ bt (sum8 a b c d e f g h) 1 = g ∧ bt (sum8 a b c d e f g h) 0 = h := by decide +kernel
theorem sum8_of : ∀ x : Fin 256, sum8 (bt (x.val : Int) 7) (bt (x.val : Int) 6) (bt (x.val : Int) 5) (bt (x.val : Int) 4) (bt (x.val : Int) 3) (bt (x.val : Int) 2) (bt (x.val : Int) 1) (bt (x.val : Int) 0) = (x.val : Int) := by decide +kernel
theorem byF_sum (n : Nat) (f : Nat → Bool) (i : Nat) : byF n f i = sum8 (decide (8 * i < n) && f (8 * i)) (decide (8 * i + 1 < n) && f (8 * i + 1)) (decide (8 * i + 2 < n) && f (8 * i + 2)) (decide (8 * i + 3 < n) && f (8 * i + 3))
    (decide (8 * i + 4 < n) && f (8 * i + 4)) (decide (8 * i + 5 < n) && f (8 * i + 5)) (decide (8 * i + 6 < n) && f (8 * i + 6)) (decide (8 * i + 7 < n) && f (8 * i + 7)) := by
  unfold byF sum8
  simp only [bv_cases]
theorem byF_bit (n : Nat) (f : Nat → Bool) (i j : Nat) (hj : j < 8) : bt (byF n f i) (7 - j) = (decide (8 * i + j < n) && f (8 * i + j)) := by
  rw [byF_sum]
  obtain ⟨h0, h1, h2, h3, h4, h5, h6, h7⟩ := sum8_bits (decide (8 * i < n) && f (8 * i)) (decide (8 * i + 1 < n) && f (8 * i + 1)) (decide (8 * i + 2 < n) && f (8 * i + 2)) (decide (8 * i + 3 < n) && f (8 * i + 3))
    (decide (8 * i + 4 < n) && f (8 * i + 4)) (decide (8 * i + 5 < n) && f (8 * i + 5)) (decide (8 * i + 6 < n) && f (8 * i + 6)) (decide (8 * i + 7 < n) && f (8 * i + 7))
  match j, hj with
  | 0, _ => exact h0
  | 1, _ => exact h1
  | 2, _ => exact h2
  | 3, _ => exact h3
  | 4, _ => exact h4
  | 5, _ => exact h5
  | 6, _ => exact h6
  | 7, _ => exact h7
/-- What was packed, bit by bit. -/
theorem fB_pkL {n p : Nat} (f : Nat → Bool) (h : p / 8 < (n + 7) / 8) : fB (pkL n f) p = (decide (p < n) && f p) := by
  unfold fB
  rw [List.getD_eq_getElem?_getD, pkL_at f h, Option.getD_some, byF_bit n f (p / 8) (p % 8) (Nat.mod_lt _ (by decide)), show 8 * (p / 8) + p % 8 = p by omega]
/-- Bytes, packed from their own bits. -/
theorem pkL_fB {n : Nat} {b : List Int} (ub : U8s b) (hl : b.length = (n + 7) / 8) (ht : ∀ p, n ≤ p → p < 8 * b.length → fB b p = false) : pkL n (fB b) = b := by
  apply List.ext_getElem?
  intro i
  by_cases hi : i < b.length
  · rw [pkL_at _ (by omega), List.getElem?_eq_getElem hi]
    congr 1
    rw [byF_sum]
    have hb := ub _ (List.getElem_mem hi)
    have e : ∀ j, j < 8 → (decide (8 * i + j < n) && fB b (8 * i + j)) = bt b[i] (7 - j) := fun j hj => by
      have h1 : fB b (8 * i + j) = bt b[i] (7 - j) := by
        unfold fB
        rw [show (8 * i + j) / 8 = i by omega, show (8 * i + j) % 8 = j by omega, List.getD_eq_getElem?_getD, List.getElem?_eq_getElem hi, Option.getD_some]
      by_cases hn : 8 * i + j < n
      · simp [hn, h1]
      · rw [← h1, ht (8 * i + j) (by omega) (by omega)]; simp
    have e0 := e 0 (by omega)
    rw [Nat.add_zero] at e0
    rw [e0, e 1 (by omega), e 2 (by omega), e 3 (by omega), e 4 (by omega), e 5 (by omega), e 6 (by omega), e 7 (by omega)]
    have h := sum8_of ⟨b[i].toNat, by omega⟩
    rw [show (((⟨b[i].toNat, by omega⟩ : Fin 256).val : Nat) : Int) = b[i] by simp; omega] at h
    exact h
  · rw [List.getElem?_eq_none (by rw [pkL_len]; omega), List.getElem?_eq_none (by omega)]
/-- A number of w bits, the highest first. -/
def nmF : Nat → (Nat → Bool) → Int
  | 0, _ => 0
  | w + 1, g => 2 * nmF w g + if g w then 1 else 0
theorem nmF_congr : ∀ {w : Nat} {f g : Nat → Bool}, (∀ k, k < w → f k = g k) → nmF w f = nmF w g
  | 0, _, _, _ => by rfl
  | w + 1, f, g, h => by rw [nmF, nmF, nmF_congr (fun k hk => h k (by omega)), h w (by omega)]
theorem nmF_lt : ∀ (w : Nat) (g : Nat → Bool), 0 ≤ nmF w g ∧ nmF w g < 2 ^ w
  | 0, _ => by simp [nmF]
  | w + 1, g => by
    have h := nmF_lt w g
    rw [nmF, Int.pow_succ]
    split <;> omega
theorem nmF_half (w : Nat) (g : Nat → Bool) : nmF (w + 1) g / 2 = nmF w g := by
  rw [nmF]
  split <;> omega
theorem nmF_up : ∀ (m w : Nat) (g : Nat → Bool), nmF (w + m) g / 2 ^ m = nmF w g
  | 0, w, g => by simp
  | m + 1, w, g => by
    rw [show w + (m + 1) = (w + m) + 1 by omega, Int.pow_succ, Int.mul_comm, ← Int.ediv_ediv_of_nonneg (by decide), nmF_half, nmF_up m]
theorem nmF_bit {w k : Nat} (g : Nat → Bool) (h : k < w) : bt (nmF w g) (w - 1 - k) = g k := by
  unfold bt
  have e : w = (k + 1) + (w - 1 - k) := by omega
  have h1 := nmF_up (w - 1 - k) (k + 1) g
  rw [← e] at h1
  rw [h1, nmF]
  cases g k <;> simp <;> omega
theorem nmF_of {n : Int} {w : Nat} (h0 : 0 ≤ n) (h1 : n < 2 ^ w) : nmF w (fun k => bt n (w - 1 - k)) = n := by
  have key : ∀ j, j ≤ w → nmF j (fun k => bt n (w - 1 - k)) = n / 2 ^ (w - j) := by
    intro j
    induction j with
    | zero =>
      intro _
      rw [nmF, Nat.sub_zero, Int.ediv_eq_zero_of_lt h0 h1]
    | succ j ih =>
      intro hj
      rw [nmF, ih (by omega)]
      have e : w - j = (w - (j + 1)) + 1 := by omega
      have h2 : n / 2 ^ (w - j) = n / 2 ^ (w - (j + 1)) / 2 := by
        rw [e, Int.pow_succ, Int.ediv_ediv_of_nonneg (Int.pow_nonneg (by decide))]
      rw [h2]
      unfold bt
      rw [show w - 1 - j = w - (j + 1) by omega]
      by_cases hb : n / 2 ^ (w - (j + 1)) % 2 = 1
      · simp only [hb, decide_true, if_true]; omega
      · simp only [hb, decide_false, Bool.false_eq_true, if_false]; omega
  have := key w (Nat.le_refl _)
  rw [Nat.sub_self] at this
  simpa using this
/-- A number's width. -/
def wdt (n : Int) : Nat := Lib.bitLen n.toNat
theorem bitLen_lt (k : Nat) : ∀ x : Nat, k ≤ 64 → x < 2 ^ 64 → (Lib.bitLen x ≤ k ↔ x < 2 ^ k) := by
  induction k with
  | zero =>
    intro x _ hx
    constructor
    · intro h
      by_cases h0 : x = 0
      · simp [h0]
      · rw [Lib.bitLen_half x h0 hx] at h; omega
    · intro h
      exact Lib.bitLen_le x 0 (by omega) h
  | succ k ih =>
    intro x hk hx
    by_cases h0 : x = 0
    · subst h0
      exact ⟨fun _ => Nat.pow_pos (by decide), fun h => Lib.bitLen_le 0 _ (by omega) h⟩
    · rw [Lib.bitLen_half x h0 hx]
      have := ih (x / 2) (by omega) (by omega)
      rw [Nat.pow_succ]
      omega
theorem wdt_le {n : Int} (hn : U64 n) {w : Nat} (hw : w ≤ 64) : wdt n ≤ w ↔ n < 2 ^ w := by
  unfold U64 at hn
  unfold wdt
  rw [bitLen_lt w n.toNat hw (by omega)]
  have : ((2 ^ w : Nat) : Int) = (2 : Int) ^ w := by norm_cast
  omega
end Go.Proofs.Ytjkhdfncahhnoaa
/- What plane's calls tell, and what follows. Plain mathematics. No program in sight. -/
namespace Go.Proofs.Ytjkhdfncahhnoaa
set_option maxRecDepth 100000
set_option linter.unusedVariables false
/-- How many bytes, and the error. -/
def bysE (w m : Int) : Int := if w < 0 ∨ 32 < w ∨ m < 0 then 1 else if 4096 < m then 3 else 0
def bysV (w m : Int) : Int := if bysE w m = 0 then (w * m + 7) / 8 else 0
theorem bys_ok {w m : Int} (h : bysE w m = 0) : (0 ≤ w ∧ w ≤ 32) ∧ 0 ≤ m ∧ m ≤ 4096 := by
  unfold bysE at h
  split at h
  · simp at h
  · split at h
    · simp at h
    · omega
theorem bys_nat {w m : Nat} (h : bysE w m = 0) : bysV w m = (((w * m + 7) / 8 : Nat) : Int) := by
  unfold bysV
  rw [if_pos h]
  rw [Int.natCast_ediv, Int.natCast_add, Int.natCast_mul]
  rfl
theorem bysE_cases (w m : Int) : bysE w m = 0 ∨ bysE w m = 1 ∨ bysE w m = 3 := by
  unfold bysE
  split
  · exact Or.inr (Or.inl rfl)
  · split
    · exact Or.inr (Or.inr rfl)
    · exact Or.inl rfl
/-- Whether numbers may be packed. -/
def fitsB (w : Int) (l : List Int) : Bool := l.all fun n => decide ((wdt n : Int) ≤ w)
def mayE (w : Int) (l : List Int) : Int := if bysE w l.length = 0 then (if fitsB w l = true then 0 else 1) else bysE w l.length
theorem mayE_ok {w : Int} {l : List Int} (h : mayE w l = 0) : bysE w l.length = 0 ∧ fitsB w l = true := by
  unfold mayE at h
  split at h
  · rename_i h1
    split at h
    · rename_i h2; exact ⟨h1, h2⟩
    · simp at h
  · rename_i h1; exact absurd h h1
theorem fitsB_iff {w : Nat} (hw : w ≤ 32) {l : List Int} (ul : U64s l) : fitsB w l = true ↔ ∀ n ∈ l, n < 2 ^ w := by
  unfold fitsB
  rw [List.all_eq_true]
  constructor
  · intro h n hn
    have := of_decide_eq_true (h n hn)
    exact (wdt_le (ul n hn) (by omega)).1 (by omega)
  · intro h n hn
    have := (wdt_le (ul n hn) (w := w) (by omega)).2 (h n hn)
    exact decide_eq_true (by omega)
/-- Where each bit goes: side by side, and in planes. -/
def sdF (w : Nat) (l : List Int) (p : Nat) : Bool := bt (l.getD (p / w) 0) (w - 1 - p % w)
def plF (w : Nat) (l : List Int) (p : Nat) : Bool := bt (l.getD (p % l.length) 0) (w - 1 - p / l.length)
def pckV (w : Int) (l : List Int) : List Int := if mayE w l = 0 then pkL (w.toNat * l.length) (sdF w.toNat l) else []
def wevV (w : Int) (l : List Int) : List Int := if mayE w l = 0 then pkL (w.toNat * l.length) (plF w.toNat l) else []
/-- Is what is left of the last byte 0? -/
def tlB (n : Nat) (b : List Int) : Bool := (List.range (8 * b.length - n)).all fun j => !fB b (n + j)
def bitE (w m : Int) (b : List Int) : Int := if bysE w m = 0 then (if (b.length : Int) = bysV w m then (if tlB (w.toNat * m.toNat) b = true then 0 else 6) else 4) else bysE w m
def bitV (w m : Int) (b : List Int) : List Bool := if bitE w m b = 0 then mkB (w.toNat * m.toNat) (fB b) else []
def upkV (w m : Int) (b : List Int) : List Int := if bitE w m b = 0 then (List.range m.toNat).map (fun i => nmF w.toNat fun k => fB b (i * w.toNat + k)) else []
def uwvV (w m : Int) (b : List Int) : List Int := if bitE w m b = 0 then (List.range m.toNat).map (fun i => nmF w.toNat fun k => fB b (k * m.toNat + i)) else []
/-- Signs. -/
def sgnE (l : List Bool) : Int := if 4096 < l.length then 3 else 0
def sgnV (l : List Bool) : List Int := if 4096 < l.length then [] else pkL l.length fun p => l.getD p false
theorem tlB_iff (n : Nat) (b : List Int) : tlB n b = true ↔ ∀ p, n ≤ p → p < 8 * b.length → fB b p = false := by
  unfold tlB
  rw [List.all_eq_true]
  constructor
  · intro h p h1 h2
    have := h (p - n) (List.mem_range.2 (by omega))
    rw [show n + (p - n) = p by omega] at this
    simpa using this
  · intro h j hj
    have hj := List.mem_range.1 hj
    rw [h (n + j) (by omega) (by omega)]
    rfl
theorem bitE_ok {w m : Int} {b : List Int} (h : bitE w m b = 0) : bysE w m = 0 ∧ (b.length : Int) = bysV w m ∧ ∀ p, w.toNat * m.toNat ≤ p → p < 8 * b.length → fB b p = false := by
  unfold bitE at h
  split at h
  · rename_i h1
    split at h
    · rename_i h2
      split at h
      · rename_i h3; exact ⟨h1, h2, (tlB_iff _ _).1 h3⟩
      · simp at h
    · simp at h
  · rename_i h1; exact absurd h h1
/-- What was packed reads well. -/
theorem bitE_pkL {w m : Nat} (f : Nat → Bool) (h : bysE w m = 0) : bitE w m (pkL (w * m) f) = 0 := by
  unfold bitE
  rw [if_pos h, if_pos (by rw [pkL_len, bys_nat h]), if_pos]
  rw [tlB_iff, pkL_len]
  intro p h1 h2
  rw [Int.toNat_natCast, Int.toNat_natCast] at h1
  rw [fB_pkL f (by omega)]
  simp
  omega
theorem sd_at {w : Nat} {l : List Int} {i k : Nat} (hk : k < w) : sdF w l (i * w + k) = bt (l.getD i 0) (w - 1 - k) := by
  unfold sdF
  have h1 : (i * w + k) / w = i := by rw [Nat.mul_comm, Nat.mul_add_div (by omega), Nat.div_eq_of_lt hk, Nat.add_zero]
  have h2 : (i * w + k) % w = k := by rw [Nat.mul_comm, Nat.mul_add_mod, Nat.mod_eq_of_lt hk]
  rw [h1, h2]
theorem pl_at {w : Nat} {l : List Int} {i k : Nat} (hi : i < l.length) : plF w l (k * l.length + i) = bt (l.getD i 0) (w - 1 - k) := by
  unfold plF
  have h1 : (k * l.length + i) / l.length = k := by rw [Nat.mul_comm, Nat.mul_add_div (by omega), Nat.div_eq_of_lt hi, Nat.add_zero]
  have h2 : (k * l.length + i) % l.length = i := by rw [Nat.mul_comm, Nat.mul_add_mod, Nat.mod_eq_of_lt hi]
  rw [h1, h2]
theorem place_lt {w m i k : Nat} (hi : i < m) (hk : k < w) : i * w + k < w * m := by
  have : (i + 1) * w ≤ m * w := Nat.mul_le_mul_right w (by omega)
  rw [Nat.add_mul, Nat.one_mul] at this
  rw [Nat.mul_comm w m]
  omega
theorem fB_in {n p : Nat} (f : Nat → Bool) (h : p < n) : fB (pkL n f) p = f p := by
  rw [fB_pkL f (by omega)]
  simp [h]
theorem numbers_back {w : Nat} {l : List Int} (h0 : ∀ n ∈ l, 0 ≤ n ∧ n < 2 ^ w) {g : Nat → Nat → Bool} (hg : ∀ i k, i < l.length → k < w → g i k = bt (l.getD i 0) (w - 1 - k)) :
    (List.range l.length).map (fun i => nmF w fun k => g i k) = l := by
  apply List.ext_getElem?
  intro i
  by_cases hi : i < l.length
  · rw [List.getElem?_map, List.getElem?_range hi, Option.map_some, List.getElem?_eq_getElem hi]
    congr 1
    have h := h0 _ (List.getElem_mem hi)
    rw [nmF_congr (fun k hk => hg i k hi hk), List.getD_eq_getElem?_getD, List.getElem?_eq_getElem hi, Option.getD_some]
    exact nmF_of h.1 h.2
  · rw [List.getElem?_eq_none (by simp; omega), List.getElem?_eq_none (by omega)]
theorem may_nat {w : Int} {l : List Int} (h : mayE w l = 0) (ul : U64s l) : ∃ k : Nat, w = k ∧ k ≤ 32 ∧ bysE (k : Int) (l.length : Int) = 0 ∧ (∀ n ∈ l, 0 ≤ n ∧ n < 2 ^ k) := by
  obtain ⟨h1, h2⟩ := mayE_ok h
  have hb := bys_ok h1
  obtain ⟨k, rfl⟩ := Int.eq_ofNat_of_zero_le hb.1.1
  have hk : k ≤ 32 := by omega
  exact ⟨k, rfl, hk, h1, fun n hn => ⟨(ul n hn).1, (fitsB_iff hk ul).1 h2 n hn⟩⟩
theorem upk_pck {w : Int} {l : List Int} (h : mayE w l = 0) (ul : U64s l) : bitE w l.length (pckV w l) = 0 ∧ upkV w l.length (pckV w l) = l := by
  obtain ⟨k, rfl, hk, h1, h2⟩ := may_nat h ul
  unfold pckV upkV
  rw [if_pos h, Int.toNat_natCast, if_pos (bitE_pkL _ h1)]
  refine ⟨bitE_pkL _ h1, ?_⟩
  rw [Int.toNat_natCast]
  exact numbers_back h2 fun i j hi hj => by rw [fB_in _ (place_lt hi hj), sd_at hj]
theorem uwv_wev {w : Int} {l : List Int} (h : mayE w l = 0) (ul : U64s l) : bitE w l.length (wevV w l) = 0 ∧ uwvV w l.length (wevV w l) = l := by
  obtain ⟨k, rfl, hk, h1, h2⟩ := may_nat h ul
  unfold wevV uwvV
  rw [if_pos h, Int.toNat_natCast, if_pos (bitE_pkL _ h1)]
  refine ⟨bitE_pkL _ h1, ?_⟩
  rw [Int.toNat_natCast]
  exact numbers_back h2 fun i j hi hj => by
    have := place_lt (w := l.length) (m := k) hj hi
    rw [Nat.mul_comm l.length k] at this
    rw [fB_in _ this, pl_at hi]
theorem read_sgn {l : List Bool} (h : l.length ≤ 4096) : bitE 1 l.length (sgnV l) = 0 ∧ bitV 1 l.length (sgnV l) = l := by
  have h1 : bysE (1 : Nat) (l.length : Nat) = 0 := by unfold bysE; rw [if_neg (by omega), if_neg (by omega)]
  have h2 := bitE_pkL (w := 1) (m := l.length) (fun p => l.getD p false) h1
  rw [Nat.one_mul] at h2
  have h2 : bitE 1 l.length (pkL l.length fun p => l.getD p false) = 0 := h2
  unfold sgnV bitV
  rw [if_neg (by omega), if_pos h2]
  refine ⟨h2, ?_⟩
  rw [show (1 : Int).toNat = 1 from rfl, Int.toNat_natCast, Nat.one_mul]
  apply List.ext_getElem?
  intro i
  by_cases hi : i < l.length
  · rw [mkB_at _ hi, fB_in _ hi, List.getD_eq_getElem?_getD, List.getElem?_eq_getElem hi, Option.getD_some]
  · rw [List.getElem?_eq_none (by rw [mkB_len]; omega), List.getElem?_eq_none (by omega)]
theorem upk_len {w m : Int} {b : List Int} (h : bitE w m b = 0) : ((upkV w m b).length : Int) = m := by
  have := bys_ok (bitE_ok h).1
  unfold upkV
  rw [if_pos h]
  simp
  omega
theorem uwv_len {w m : Int} {b : List Int} (h : bitE w m b = 0) : ((uwvV w m b).length : Int) = m := by
  have := bys_ok (bitE_ok h).1
  unfold uwvV
  rw [if_pos h]
  simp
  omega
theorem range_getD {m i : Nat} (g : Nat → Int) (h : i < m) : ((List.range m).map g).getD i 0 = g i := by
  rw [List.getD_eq_getElem?_getD, List.getElem?_map, List.getElem?_range h]; rfl
theorem numbers_u64 {k m : Nat} (hk : k ≤ 32) (g : Nat → Nat → Bool) : (∀ n ∈ (List.range m).map (fun i => nmF k (g i)), 0 ≤ n ∧ n < 2 ^ k) ∧ U64s ((List.range m).map (fun i => nmF k (g i))) := by
  have key : ∀ n ∈ (List.range m).map (fun i => nmF k (g i)), 0 ≤ n ∧ n < 2 ^ k := fun n hn => by
    obtain ⟨i, _, rfl⟩ := List.mem_map.1 hn
    exact nmF_lt k _
  refine ⟨key, fun n hn => ?_⟩
  have h := key n hn
  have h2 : (2 : Int) ^ k ≤ 2 ^ 32 := by
    have := Nat.pow_le_pow_right (show 0 < 2 by decide) hk
    exact_mod_cast this
  unfold U64
  have h3 : (2 : Int) ^ 32 = 4294967296 := by decide
  omega
theorem may_numbers {k m : Nat} (hk : k ≤ 32) (h : bysE k m = 0) (g : Nat → Nat → Bool) : mayE k ((List.range m).map (fun i => nmF k (g i))) = 0 := by
  unfold mayE
  have hl : ((List.range m).map (fun i => nmF k (g i))).length = m := by simp
  rw [hl, if_pos h, if_pos]
  rw [fitsB_iff hk (numbers_u64 hk g).2]
  exact fun n hn => ((numbers_u64 hk g).1 n hn).2
theorem pck_upk {w m : Int} {b : List Int} (ub : U8s b) (h : bitE w m b = 0) : mayE w (upkV w m b) = 0 ∧ pckV w (upkV w m b) = b := by
  obtain ⟨h1, h2, h3⟩ := bitE_ok h
  have hb := bys_ok h1
  obtain ⟨k, rfl⟩ := Int.eq_ofNat_of_zero_le hb.1.1
  obtain ⟨m, rfl⟩ := Int.eq_ofNat_of_zero_le hb.2.1
  have hm : mayE (k : Int) (upkV k m b) = 0 := by
    unfold upkV
    rw [if_pos h, Int.toNat_natCast, Int.toNat_natCast]
    exact may_numbers (by omega) h1 _
  refine ⟨hm, ?_⟩
  unfold pckV
  rw [if_pos hm]
  unfold upkV
  rw [if_pos h]
  simp only [Int.toNat_natCast, List.length_map, List.length_range] at h3 ⊢
  rw [bys_nat h1] at h2
  have e : pkL (k * m) (sdF k ((List.range m).map fun i => nmF k fun j => fB b (i * k + j))) = pkL (k * m) (fB b) := pkL_congr fun p hp => by
    have hk0 : 0 < k := Nat.pos_of_ne_zero (by rintro rfl; simp at hp)
    have hi : p / k < m := Nat.div_lt_of_lt_mul hp
    have hj := Nat.mod_lt p hk0
    unfold sdF
    rw [range_getD _ hi, nmF_bit _ hj]
    congr 1
    rw [Nat.mul_comm]; exact Nat.div_add_mod p k
  rw [e]
  exact pkL_fB ub (by omega) h3
theorem wev_uwv {w m : Int} {b : List Int} (ub : U8s b) (h : bitE w m b = 0) : mayE w (uwvV w m b) = 0 ∧ wevV w (uwvV w m b) = b := by
  obtain ⟨h1, h2, h3⟩ := bitE_ok h
  have hb := bys_ok h1
  obtain ⟨k, rfl⟩ := Int.eq_ofNat_of_zero_le hb.1.1
  obtain ⟨m, rfl⟩ := Int.eq_ofNat_of_zero_le hb.2.1
  have hm : mayE (k : Int) (uwvV k m b) = 0 := by
    unfold uwvV
    rw [if_pos h, Int.toNat_natCast, Int.toNat_natCast]
    exact may_numbers (by omega) h1 _
  refine ⟨hm, ?_⟩
  unfold wevV
  rw [if_pos hm]
  unfold uwvV
  rw [if_pos h]
  simp only [Int.toNat_natCast, List.length_map, List.length_range] at h3 ⊢
  rw [bys_nat h1] at h2
  have e : pkL (k * m) (plF k ((List.range m).map fun i => nmF k fun j => fB b (j * m + i))) = pkL (k * m) (fB b) := pkL_congr fun p hp => by
    have hm0 : 0 < m := Nat.pos_of_ne_zero (by rintro rfl; simp at hp)
    have hj : p / m < k := Nat.div_lt_of_lt_mul (by rw [Nat.mul_comm]; exact hp)
    have hi := Nat.mod_lt p hm0
    unfold plF
    simp only [List.length_map, List.length_range]
    rw [range_getD _ hi, nmF_bit _ hj]
    congr 1
    rw [Nat.mul_comm]; exact Nat.div_add_mod p m
  rw [e]
  exact pkL_fB ub (by omega) h3
/-- Of width 1, and of width 0, both ways are the same. -/
theorem upk_uwv {w m : Int} {b : List Int} (h : bitE w m b = 0) (hw : w ≤ 1) : upkV w m b = uwvV w m b := by
  have hb := bys_ok (bitE_ok h).1
  unfold upkV uwvV
  rw [if_pos h, if_pos h]
  refine List.map_congr_left fun i _ => nmF_congr fun k hk => ?_
  have h1 : w.toNat = 1 := by omega
  have h2 : k = 0 := by omega
  rw [h1, h2]
  simp
theorem may_same (w : Int) (l : List Int) : (mayE w l ≠ 0 → pckV w l = [] ∧ wevV w l = []) ∧ (mayE w l = 0 → (pckV w l).length = (w.toNat * l.length + 7) / 8 ∧ (wevV w l).length = (w.toNat * l.length + 7) / 8) := by
  unfold pckV wevV
  constructor
  · intro h; rw [if_neg h, if_neg h]; exact ⟨rfl, rfl⟩
  · intro h; rw [if_pos h, if_pos h, pkL_len, pkL_len]; exact ⟨rfl, rfl⟩
theorem pckV_bytes (w : Int) (l : List Int) : U8s (pckV w l) := by
  unfold pckV
  split
  · exact pkL_bytes _ _
  · intro x hx; simp at hx
theorem wevV_bytes (w : Int) (l : List Int) : U8s (wevV w l) := by
  unfold wevV
  split
  · exact pkL_bytes _ _
  · intro x hx; simp at hx
theorem sgnV_bytes (l : List Bool) : U8s (sgnV l) := by
  unfold sgnV
  split
  · intro x hx; simp at hx
  · exact pkL_bytes _ _
theorem upkV_u64 {w m : Int} (b : List Int) : U64s (upkV w m b) := by
  unfold upkV
  split
  · rename_i h
    have hb := bys_ok (bitE_ok h).1
    exact (numbers_u64 (by omega) _).2
  · intro x hx; simp at hx
theorem uwvV_u64 {w m : Int} (b : List Int) : U64s (uwvV w m b) := by
  unfold uwvV
  split
  · rename_i h
    have hb := bys_ok (bitE_ok h).1
    exact (numbers_u64 (by omega) _).2
  · intro x hx; simp at hx
end Go.Proofs.Ytjkhdfncahhnoaa
/- Pressed vectors, frames, their texts, and what a text is: plain words. No program in sight. -/
namespace Go.Proofs.Ytjkhdfncahhnoaa
set_option maxRecDepth 100000
set_option linter.unusedVariables false
/-- A pressed vector. -/
structure SentV where
  sch : Int
  dim : Int
  L : List Int
  V : List Int
  scale : Int
  wide : Int
  lev : List Int
  neg : List Bool
def zeroS : SentV := ⟨0, 0, [], [], 0, 0, [], []⟩
/-- A frame. -/
structure FrameV where
  knd : Int
  frm : Int
  stp : Int
  S : SentV
def zeroF : FrameV := ⟨0, 0, 0, zeroS⟩
def eqN (a b : List Bool) : Bool := decide (a = b)
def sameS (a b : SentV) : Bool := (a.sch == b.sch) && ((a.dim == b.dim) && (eqB a.L b.L && (eqB a.V b.V && ((a.scale == b.scale) && ((a.wide == b.wide) && (eqB a.lev b.lev && eqN a.neg b.neg))))))
def sameF (a b : FrameV) : Bool := (a.knd == b.knd) && ((a.frm == b.frm) && ((a.stp == b.stp) && sameS a.S b.S))
theorem sameS_iff {a b : SentV} : sameS a b = true ↔ a = b := by
  obtain ⟨a1, a2, a3, a4, a5, a6, a7, a8⟩ := a
  obtain ⟨b1, b2, b3, b4, b5, b6, b7, b8⟩ := b
  unfold sameS eqB eqN
  simp
theorem sameF_iff {a b : FrameV} : sameF a b = true ↔ a = b := by
  obtain ⟨a1, a2, a3, a4⟩ := a
  obtain ⟨b1, b2, b3, b4⟩ := b
  unfold sameF
  simp [sameS_iff]
theorem sameF_self (a : FrameV) : sameF a a = true := sameF_iff.2 rfl
/-- Whether it may be. -/
def mayP (s : SentV) : Prop := 1 ≤ s.dim ∧ s.dim ≤ 4096 ∧
  ((s.sch = 0 ∧ s.L = [] ∧ (s.V.length : Int) = s.dim ∧ s.wide = 0 ∧ s.lev = [] ∧ s.scale = 0 ∧ s.neg = []) ∨
   (s.sch = 1 ∧ chkE s.dim s.L = 0 ∧ s.V.length = s.L.length ∧ s.wide = 0 ∧ s.lev = [] ∧ s.scale = 0 ∧ s.neg = []) ∨
   (s.sch = 2 ∧ 1 ≤ s.wide ∧ s.wide ≤ 8 ∧ (s.lev.length : Int) = s.dim ∧ fitsB s.wide s.lev = true ∧ s.L = [] ∧ s.V = [] ∧ 0 ≤ s.scale ∧ (s.neg.length : Int) = s.dim) ∨
   (s.sch = 3 ∧ s.L = [] ∧ s.V = [] ∧ s.wide = 0 ∧ s.lev = [] ∧ 0 ≤ s.scale ∧ (s.neg.length : Int) = s.dim))
instance (s : SentV) : Decidable (mayP s) := by unfold mayP; infer_instance
def mayB (s : SentV) : Bool := decide (mayP s)
theorem mayB_iff {s : SentV} : mayB s = true ↔ mayP s := by unfold mayB; exact decide_eq_true_iff
theorem mayB_no {s : SentV} (h : ¬ mayP s) : mayB s = false := decide_eq_false h
def frmP (f : FrameV) : Prop := 0 ≤ f.frm ∧ f.frm < 64 ∧ 0 ≤ f.stp ∧ f.stp ≤ 1073741824 ∧ ((f.knd = 1 ∧ mayB f.S = true) ∨ (f.knd = 2 ∧ sameS f.S zeroS = true))
instance (f : FrameV) : Decidable (frmP f) := by unfold frmP; infer_instance
def chkF (f : FrameV) : Int := if frmP f then 0 else 1
theorem chkF_ok {f : FrameV} : chkF f = 0 ↔ frmP f := by unfold chkF; split <;> simp_all
theorem chkF_no {f : FrameV} (h : ¬ frmP f) : chkF f = 1 := if_neg h
/-- Signed codes. -/
def sgnd (l : List Int) : List Int := encs (l.map zigI)
/-- What stands behind the scheme and the dimension. -/
def tailL (s : SentV) : List Int :=
  if s.sch = 0 then sgnd s.V else if s.sch = 1 then pixV s.dim s.L ++ sgnd s.V else lebI s.scale ++ ((if s.sch = 2 then s.wide :: wevV s.wide s.lev else []) ++ sgnV s.neg)
def bodyL (s : SentV) : List Int := s.sch :: (lebI s.dim ++ tailL s)
def bodyV (s : SentV) : List Int := if mayB s = true then bodyL s else []
def bodyE (s : SentV) : Int := if mayB s = true then 0 else 1
def textL (f : FrameV) : List Int := 1 :: f.knd :: (lebI f.frm ++ (lebI f.stp ++ (if f.knd = 1 then bodyL f.S else [])))
def wrtE (f : FrameV) : Int := if chkF f = 0 then sealE (textL f) else 1
def wrtV (f : FrameV) : List Int := if chkF f = 0 then sealV (textL f) else []
/-- What is still to be read, and whether it is none. -/
abbrev Tx := List Int × Bool
def badT : Tx := ([], true)
def by1 (t : Tx) : Int × Tx := if t.2 = true ∨ t.1 = [] then (0, badT) else (t.1.headD 0, t.1.tail, false)
def num1 (m : Int) (t : Tx) : Int × Tx := if t.2 = true ∨ getE t.1 0 ≠ 0 ∨ m < getN t.1 0 then (0, badT) else (getN t.1 0, t.1.drop (getA t.1 0).toNat, false)
def sgd1 : Nat → List Int → Tx → List Int × Tx
  | 0, O, t => (O, t)
  | k + 1, O, t => if t.2 = true ∨ getE t.1 0 ≠ 0 then ([], badT) else sgd1 k (O ++ [zagI (getN t.1 0)]) (t.1.drop (getA t.1 0).toNat, false)
def prt1 (n : Int) (t : Tx) : List Int × Tx := if t.2 = true ∨ (t.1.length : Int) < n then ([], badT) else (t.1.take n.toNat, t.1.drop n.toNat, false)
/-- The signs. -/
def neg1 (s : SentV) (t : Tx) : SentV × Tx :=
  ({ s with neg := bitV 1 s.dim (prt1 ((s.dim + 7) / 8) t).1 }, (prt1 ((s.dim + 7) / 8) t).2.1, (prt1 ((s.dim + 7) / 8) t).2.2 || (bitE 1 s.dim (prt1 ((s.dim + 7) / 8) t).1 != 0))
/-- Levels, and the signs. -/
def lev1 (s : SentV) (t : Tx) : SentV × Tx :=
  if s.wide < 1 ∨ 8 < s.wide then (s, badT) else
  if (prt1 ((s.wide * s.dim + 7) / 8) t).2.2 = true ∨ bitE s.wide s.dim (prt1 ((s.wide * s.dim + 7) / 8) t).1 ≠ 0 then (s, badT) else
  neg1 { s with lev := uwvV s.wide s.dim (prt1 ((s.wide * s.dim + 7) / 8) t).1 } (prt1 ((s.wide * s.dim + 7) / 8) t).2
def dns1 (dim : Int) (t : Tx) : SentV × Tx := (⟨0, dim, [], (sgd1 dim.toNat [] t).1, 0, 0, [], []⟩, (sgd1 dim.toNat [] t).2)
def top1 (dim : Int) (t : Tx) : SentV × Tx :=
  if (gixR dim t.1 0).2.2 ≠ 0 then (⟨1, dim, [], [], 0, 0, [], []⟩, badT) else
  (⟨1, dim, (gixR dim t.1 0).1, (sgd1 (gixR dim t.1 0).1.length [] (t.1.drop (gixR dim t.1 0).2.1.toNat, false)).1, 0, 0, [], []⟩, (sgd1 (gixR dim t.1 0).1.length [] (t.1.drop (gixR dim t.1 0).2.1.toNat, false)).2)
def top63 : Int := 9223372036854775807
/-- What stands behind the scheme and the dimension. -/
def rest1 (sch dim : Int) (t : Tx) : SentV × Tx :=
  if sch = 1 then top1 dim t else if sch = 0 then dns1 dim t
  else if sch = 2 then lev1 ⟨2, dim, [], [], (num1 top63 t).1, (by1 (num1 top63 t).2).1, [], []⟩ (by1 (num1 top63 t).2).2
  else neg1 ⟨sch, dim, [], [], (num1 top63 t).1, 0, [], []⟩ (num1 top63 t).2
def sent1 (t : Tx) : SentV × Tx :=
  if (num1 4096 (by1 t).2).2.2 = true ∨ (num1 4096 (by1 t).2).1 = 0 then (⟨(by1 t).1, (num1 4096 (by1 t).2).1, [], [], 0, 0, [], []⟩, badT)
  else rest1 (by1 t).1 (num1 4096 (by1 t).2).1 (num1 4096 (by1 t).2).2
def fram1 (knd frm stp : Int) (t : Tx) : FrameV × Tx := (⟨knd, frm, stp, (if knd = 1 then sent1 t else (zeroS, t)).1⟩, (if knd = 1 then sent1 t else (zeroS, t)).2)
def endR (ver : Int) (r : FrameV × Tx) : FrameV × Int := if r.2.2 = true ∨ r.2.1 ≠ [] ∨ ver ≠ 1 ∨ chkF r.1 ≠ 0 then (zeroF, 6) else (r.1, 0)
def read1 (o : List Int) : FrameV × Int :=
  endR (by1 (o, false)).1 (fram1 (by1 (by1 (o, false)).2).1 (num1 63 (by1 (by1 (o, false)).2).2).1 (num1 1073741824 (num1 63 (by1 (by1 (o, false)).2).2).2).1 (num1 1073741824 (num1 63 (by1 (by1 (o, false)).2).2).2).2)
def rdR (b : List Int) : FrameV × Int := if openE b ≠ 0 then (zeroF, openE b) else read1 (openV b)
/-- How great its numbers are. -/
def wfS (s : SentV) : Prop := I64 s.sch ∧ I64 s.dim ∧ (∀ x ∈ s.L, I64 x) ∧ (∀ x ∈ s.V, I64 x) ∧ I64 s.scale ∧ I64 s.wide ∧ U64s s.lev
def wfF (f : FrameV) : Prop := I64 f.knd ∧ I64 f.frm ∧ I64 f.stp ∧ wfS f.S
theorem wf_zeroS : wfS zeroS := by
  refine ⟨by decide, by decide, ?_, ?_, by decide, by decide, ?_⟩ <;> intro x hx <;> simp [zeroS] at hx
/-- Reading what was written. -/
theorem by1_put (x : Int) (r : List Int) : by1 (x :: r, false) = (x, r, false) := by unfold by1; simp
theorem get_here {n : Int} (h : U64 n) (r : List Int) : getN (lebI n ++ r) 0 = n ∧ getE (lebI n ++ r) 0 = 0 ∧ getA (lebI n ++ r) 0 = (lebI n).length := by
  have := get_at h [] r (b := lebI n ++ r) rfl
  simpa using this
theorem num1_put {n m : Int} (h : U64 n) (hm : n ≤ m) (r : List Int) : num1 m (lebI n ++ r, false) = (n, r, false) := by
  obtain ⟨h1, h2, h3⟩ := get_here h r
  unfold num1
  simp only [h1, h2, h3]
  rw [if_neg (by simp; omega)]
  rw [Int.toNat_natCast, List.drop_left]
theorem sgnd_cons (x : Int) (l : List Int) : sgnd (x :: l) = lebI (zigI x) ++ sgnd l := by unfold sgnd; rw [List.map_cons, encs_cons]
theorem sgd1_put : ∀ (l O r : List Int), (∀ x ∈ l, I64 x) → sgd1 l.length O (sgnd l ++ r, false) = (O ++ l, r, false)
  | [], O, r, _ => by simp [sgd1, sgnd, encs]
  | x :: l, O, r, h => by
    rw [List.length_cons, sgd1, sgnd_cons, List.append_assoc]
    obtain ⟨h1, h2, h3⟩ := get_here (zig_u64 (h x (by simp))) (sgnd l ++ r)
    simp only [h1, h2, h3]
    rw [if_neg (by simp), zag_zig, Int.toNat_natCast, List.drop_left, sgd1_put l _ r (fun y hy => h y (by simp [hy])), List.append_assoc]
    rfl
theorem prt1_put {n : Int} {p : List Int} (h : (p.length : Int) = n) (r : List Int) : prt1 n (p ++ r, false) = (p, r, false) := by
  unfold prt1
  rw [if_neg (by simp; omega)]
  have : n.toNat = p.length := by omega
  simp only [this, List.take_left, List.drop_left]
theorem gix_here {dim : Int} {l : List Int} (h : chkE dim l = 0) (r : List Int) : gixR dim (pixV dim l ++ r) 0 = (l, ((pixV dim l).length : Int), 0) := by
  have := gix_put (ahead := []) (behind := r) (b := pixV dim l ++ r) h rfl
  simpa using this
theorem sgnV_len {l : List Bool} (h : l.length ≤ 4096) : (sgnV l).length = (l.length + 7) / 8 := by
  unfold sgnV; rw [if_neg (by omega), pkL_len]
theorem neg1_put {sch dim scale wide : Int} {L V lev : List Int} {neg : List Bool} (h : (neg.length : Int) = dim) (h4 : dim ≤ 4096) (r : List Int) : neg1 ⟨sch, dim, L, V, scale, wide, lev, []⟩ (sgnV neg ++ r, false) = (⟨sch, dim, L, V, scale, wide, lev, neg⟩, r, false) := by
  have hl := sgnV_len (l := neg) (by omega)
  have hr := read_sgn (l := neg) (by omega)
  have hp : prt1 ((dim + 7) / 8) (sgnV neg ++ r, false) = (sgnV neg, r, false) := prt1_put (by rw [hl]; omega) r
  rw [h] at hr
  unfold neg1
  simp only [hp, hr.1, hr.2]
  rfl
theorem lev1_put {sch dim scale wide : Int} {L V lev : List Int} {neg : List Bool} (hw1 : 1 ≤ wide) (hw8 : wide ≤ 8) (hl : (lev.length : Int) = dim) (hf : fitsB wide lev = true) (ul : U64s lev) (h : (neg.length : Int) = dim) (h4 : dim ≤ 4096) (r : List Int) :
    lev1 ⟨sch, dim, L, V, scale, wide, [], []⟩ (wevV wide lev ++ (sgnV neg ++ r), false) = (⟨sch, dim, L, V, scale, wide, lev, neg⟩, r, false) := by
  have hb : bysE wide lev.length = 0 := by unfold bysE; rw [if_neg (by omega), if_neg (by omega)]
  have hm : mayE wide lev = 0 := by unfold mayE; rw [if_pos hb, if_pos hf]
  have hwl := (may_same wide lev).2 hm
  have hu := uwv_wev hm ul
  have hn : ((wevV wide lev).length : Int) = (wide * dim + 7) / 8 := by
    rw [hwl.2, ← hl]
    obtain ⟨k, rfl⟩ := Int.eq_ofNat_of_zero_le (show 0 ≤ wide by omega)
    rw [Int.toNat_natCast]
    omega
  have hp : prt1 ((wide * dim + 7) / 8) (wevV wide lev ++ (sgnV neg ++ r), false) = (wevV wide lev, sgnV neg ++ r, false) := prt1_put hn _
  rw [hl] at hu
  unfold lev1
  simp only [hp, hu.1, hu.2]
  rw [if_neg (by omega), if_neg (by simp)]
  exact neg1_put h h4 r
theorem sent1_put {s : SentV} (hm : mayP s) (hw : wfS s) (r : List Int) : sent1 (bodyL s ++ r, false) = (s, r, false) := by
  obtain ⟨sch, dim, L, V, scale, wide, lev, neg⟩ := s
  obtain ⟨hd1, hd4, hc⟩ := hm
  obtain ⟨w1, w2, w3, w4, w5, w6, w7⟩ := hw
  simp only at hd1 hd4 hc w1 w2 w3 w4 w5 w6 w7
  have hn := fun R => num1_put (n := dim) (m := 4096) (by unfold U64; omega) hd4 R
  have hsc := fun (h : 0 ≤ scale) R => num1_put (n := scale) (m := top63) (by unfold I64 at w5; unfold U64; omega) (by unfold I64 at w5; unfold top63; omega) R
  have key : ∀ T, rest1 sch dim (T ++ r, false) = (⟨sch, dim, L, V, scale, wide, lev, neg⟩, r, false) → sent1 (sch :: (lebI dim ++ T) ++ r, false) = (⟨sch, dim, L, V, scale, wide, lev, neg⟩, r, false) := fun T hT => by
    rw [List.cons_append, List.append_assoc]
    unfold sent1
    simp only [by1_put, hn]
    rw [if_neg (by simp; omega)]
    exact hT
  refine key _ ?_
  unfold tailL rest1
  simp only
  rcases hc with ⟨rfl, rfl, h2, rfl, rfl, rfl, rfl⟩ | ⟨rfl, h1, h2, rfl, rfl, rfl, rfl⟩ | ⟨rfl, h1, h2, h3, h4, rfl, rfl, h7, h8⟩ | ⟨rfl, rfl, rfl, rfl, rfl, h5, h6⟩
  · rw [if_neg (by decide), if_pos rfl, if_pos rfl]
    unfold dns1
    have hn : dim.toNat = V.length := by omega
    rw [hn, sgd1_put _ _ _ w4]
    rfl
  · rw [if_pos rfl, if_neg (by decide), if_pos rfl]
    unfold top1
    simp only [List.append_assoc, gix_here h1]
    rw [if_neg (by simp), Int.toNat_natCast, List.drop_left, ← h2, sgd1_put _ _ _ w4]
    rfl
  · rw [if_neg (by decide), if_neg (by decide), if_pos rfl, if_neg (by decide), if_neg (by decide), if_pos rfl]
    simp only [List.append_assoc, hsc h7, List.cons_append, by1_put]
    exact lev1_put h1 h2 h3 h4 w7 h8 hd4 r
  · rw [if_neg (by decide), if_neg (by decide), if_neg (by decide), if_neg (by decide), if_neg (by decide), if_neg (by decide)]
    simp only [List.append_assoc, hsc h5, List.nil_append]
    exact neg1_put h6 hd4 r
theorem read1_put {f : FrameV} (hc : chkF f = 0) (hw : wfF f) : read1 (textL f) = (f, 0) := by
  have hp := chkF_ok.1 hc
  obtain ⟨knd, frm, stp, S⟩ := f
  obtain ⟨h1, h2, h3, h4, h5⟩ := hp
  simp only at h1 h2 h3 h4 h5
  have hf := fun R => num1_put (n := frm) (m := 63) (by unfold U64; omega) (by omega) R
  have hs := fun R => num1_put (n := stp) (m := 1073741824) (by unfold U64; omega) (by omega) R
  have he : endR 1 (⟨knd, frm, stp, S⟩, ([], false)) = (⟨knd, frm, stp, S⟩, 0) := by
    unfold endR
    rw [if_neg]
    simp [hc]
  unfold read1 textL
  simp only [by1_put, hf, hs]
  rcases h5 with ⟨rfl, hm⟩ | ⟨rfl, hz⟩
  · have hb := sent1_put (of_decide_eq_true hm) hw.2.2.2 []
    rw [List.append_nil] at hb
    unfold fram1
    rw [if_pos rfl, if_pos rfl, hb]
    exact he
  · have e2 := sameS_iff.1 hz
    subst e2
    unfold fram1
    rw [if_neg (by decide), if_neg (by decide)]
    exact he
/-- Writing what was read. -/
theorem by1_back {t r : List Int} {b : Bool} {x : Int} (h : by1 (t, b) = (x, r, false)) : b = false ∧ t = x :: r := by
  unfold by1 at h
  split at h
  · simp [badT] at h
  · rename_i hn
    cases b with
    | true => simp at hn
    | false =>
      cases t with
      | nil => simp at hn
      | cons y t =>
        simp only [Prod.mk.injEq, List.headD_cons, List.tail_cons] at h
        obtain ⟨rfl, rfl, _⟩ := h
        exact ⟨rfl, rfl⟩
theorem get_back {b : List Int} (ub : U8s b) (h : getE b 0 = 0) : U64 (getN b 0) ∧ b = lebI (getN b 0) ++ b.drop (getA b 0).toNat := by
  obtain ⟨_, h2, j, hj, ha, he⟩ := get_ok ub h
  refine ⟨h2, ?_⟩
  simp only [Int.toNat_zero, Nat.zero_add, List.drop_zero] at ha he hj
  rw [← he, ha, Int.toNat_natCast, List.take_append_drop]
theorem num1_back {m n : Int} {t r : List Int} {b : Bool} (ut : U8s t) (h : num1 m (t, b) = (n, r, false)) : b = false ∧ 0 ≤ n ∧ n ≤ m ∧ U64 n ∧ t = lebI n ++ r := by
  unfold num1 at h
  split at h
  · simp [badT] at h
  · rename_i hn
    have h1 : b = false := by cases b with
      | true => simp at hn
      | false => rfl
    have h2 : getE t 0 = 0 := by
      by_cases e : getE t 0 = 0
      · exact e
      · simp [e] at hn
    have h3 : ¬ m < getN t 0 := fun e => hn (Or.inr (Or.inr e))
    obtain ⟨hu, hb⟩ := get_back ut h2
    simp only [Prod.mk.injEq] at h
    obtain ⟨rfl, rfl, _⟩ := h
    exact ⟨h1, hu.1, by omega, hu, hb⟩
theorem sgd1_back : ∀ (k : Nat) (O t V r : List Int) (b : Bool), U8s t → sgd1 k O (t, b) = (V, r, false) → ∃ l : List Int, V = O ++ l ∧ l.length = k ∧ (∀ x ∈ l, I64 x) ∧ (b = false → t = sgnd l ++ r) ∧ (0 < k → b = false) ∧ (k = 0 → b = false)
  | 0, O, t, V, r, b, _, h => by
    rw [sgd1] at h
    simp only [Prod.mk.injEq] at h
    obtain ⟨rfl, rfl, rfl⟩ := h
    exact ⟨[], by simp, rfl, by simp, fun _ => by simp [sgnd, encs], fun h => by omega, fun _ => rfl⟩
  | k + 1, O, t, V, r, b, ut, h => by
    rw [sgd1] at h
    split at h
    · simp [badT] at h
    · rename_i hn
      have h1 : b = false := by cases b with
        | true => simp at hn
        | false => rfl
      have h2 : getE t 0 = 0 := by
        by_cases e : getE t 0 = 0
        · exact e
        · simp [e] at hn
      obtain ⟨hu, hb⟩ := get_back ut h2
      have hud : U8s (t.drop (getA t 0).toNat) := ut.drop _
      obtain ⟨l, e1, e2, e3, e4, e5, e6⟩ := sgd1_back k _ _ V r false hud h
      refine ⟨zagI (getN t 0) :: l, by rw [e1, List.append_assoc]; rfl, by rw [List.length_cons, e2], ?_, fun _ => ?_, fun _ => h1, fun e => by omega⟩
      · intro x hx
        rcases List.mem_cons.1 hx with rfl | hx
        · exact zag_i64 hu
        · exact e3 x hx
      · rw [sgnd_cons, zig_zag hu.1, List.append_assoc, ← e4 rfl]
        exact hb
theorem prt1_back {n : Int} {t p r : List Int} {b : Bool} (hn : 0 ≤ n) (h : prt1 n (t, b) = (p, r, false)) : b = false ∧ (p.length : Int) = n ∧ t = p ++ r := by
  unfold prt1 at h
  split at h
  · simp [badT] at h
  · rename_i hx
    have h1 : b = false := by cases b with
      | true => simp at hx
      | false => rfl
    have h2 : ¬ (t.length : Int) < n := fun e => hx (Or.inr e)
    simp only [Prod.mk.injEq] at h
    obtain ⟨rfl, rfl, _⟩ := h
    refine ⟨h1, ?_, (List.take_append_drop _ _).symm⟩
    rw [List.length_take]
    omega
theorem sgn_back {m : Int} {b : List Int} (ub : U8s b) (h : bitE 1 m b = 0) : sgnV (bitV 1 m b) = b ∧ ((bitV 1 m b).length : Int) = m := by
  obtain ⟨h1, h2, h3⟩ := bitE_ok h
  have hb := bys_ok h1
  obtain ⟨k, rfl⟩ := Int.eq_ofNat_of_zero_le hb.2.1
  have hl : bitV 1 k b = mkB k (fB b) := by
    unfold bitV
    rw [if_pos h, show (1 : Int).toNat = 1 from rfl, Int.toNat_natCast, Nat.one_mul]
  rw [hl, mkB_len]
  refine ⟨?_, rfl⟩
  unfold sgnV
  rw [mkB_len, if_neg (by omega)]
  rw [show (1 : Int).toNat = 1 from rfl, Int.toNat_natCast, Nat.one_mul] at h3
  have h2' : b.length = (k + 7) / 8 := by
    have := bys_nat (w := 1) (m := k) h1
    rw [show ((1 : Nat) : Int) = 1 from rfl] at this
    omega
  rw [pkL_congr (g := fB b) (fun p hp => by rw [List.getD_eq_getElem?_getD, mkB_at _ hp]; rfl)]
  exact pkL_fB ub h2' h3
theorem neg1_back {sch dim scale wide : Int} {L V lev r t : List Int} {n0 : List Bool} {b : Bool} {s : SentV} (ut : U8s t) (hd : 1 ≤ dim) (h : neg1 ⟨sch, dim, L, V, scale, wide, lev, n0⟩ (t, b) = (s, r, false)) :
    ∃ neg : List Bool, s = ⟨sch, dim, L, V, scale, wide, lev, neg⟩ ∧ b = false ∧ (neg.length : Int) = dim ∧ t = sgnV neg ++ r := by
  unfold neg1 at h
  simp only at h
  obtain ⟨p, u, hp⟩ : ∃ p u, prt1 ((dim + 7) / 8) (t, b) = (p, u) := ⟨_, _, rfl⟩
  obtain ⟨u1, u2⟩ := u
  rw [hp] at h
  simp only [Prod.mk.injEq, Bool.or_eq_false_iff, bne_eq_false_iff_eq] at h
  obtain ⟨rfl, rfl, rfl, he⟩ := h
  obtain ⟨hb, hl, rfl⟩ := prt1_back (by omega) hp
  have up : U8s p := fun x hx => ut x (by simp [hx])
  obtain ⟨h1, h2⟩ := sgn_back up he
  exact ⟨_, rfl, hb, h2, by rw [h1]⟩
theorem lev1_back {sch dim scale wide : Int} {L V r t : List Int} {b : Bool} {s : SentV} (ut : U8s t) (hd : 1 ≤ dim) (h : lev1 ⟨sch, dim, L, V, scale, wide, [], []⟩ (t, b) = (s, r, false)) :
    ∃ (lev : List Int) (neg : List Bool), s = ⟨sch, dim, L, V, scale, wide, lev, neg⟩ ∧ b = false ∧ 1 ≤ wide ∧ wide ≤ 8 ∧ (lev.length : Int) = dim ∧ U64s lev ∧ (neg.length : Int) = dim ∧ t = wevV wide lev ++ (sgnV neg ++ r) := by
  unfold lev1 at h
  simp only at h
  split at h
  · simp [badT] at h
  · rename_i hw
    obtain ⟨p, u, hp⟩ : ∃ p u, prt1 ((wide * dim + 7) / 8) (t, b) = (p, u) := ⟨_, _, rfl⟩
    obtain ⟨u1, u2⟩ := u
    rw [hp] at h
    simp only at h
    split at h
    · simp [badT] at h
    · rename_i he
      have hu2 : u2 = false := by cases u2 with
        | true => simp at he
        | false => rfl
      subst hu2
      have hbe : bitE wide dim p = 0 := by
        by_cases e : bitE wide dim p = 0
        · exact e
        · simp [e] at he
      have hn : 0 ≤ (wide * dim + 7) / 8 := by
        have := Int.mul_nonneg (show 0 ≤ wide by omega) (show 0 ≤ dim by omega)
        omega
      obtain ⟨hb, hl, rfl⟩ := prt1_back hn hp
      have up : U8s p := fun x hx => ut x (by simp [hx])
      have uu : U8s u1 := fun x hx => ut x (by simp [hx])
      obtain ⟨neg, rfl, _, hneg, rfl⟩ := neg1_back uu hd h
      have hwv := (wev_uwv up hbe).2
      exact ⟨_, neg, rfl, hb, by omega, by omega, uwv_len hbe, uwvV_u64 _, hneg, by rw [hwv]⟩
theorem rest1_back {sch dim : Int} {t r : List Int} {s : SentV} (ut : U8s t) (hd : 1 ≤ dim) (hd4 : dim ≤ 4096) (hs : I64 sch) (h : rest1 sch dim (t, false) = (s, r, false)) :
    s.sch = sch ∧ s.dim = dim ∧ wfS s ∧ t = tailL s ++ r := by
  have hdI : I64 dim := by unfold I64; omega
  have nlI : ∀ x ∈ ([] : List Int), I64 x := by intro x hx; simp at hx
  have nlU : U64s [] := by intro x hx; simp at hx
  have h0I : I64 0 := by decide
  unfold rest1 at h
  split at h
  · rename_i e
    subst e
    unfold top1 at h
    split at h
    · simp [badT] at h
    · rename_i he
      obtain ⟨l, a, g, hg⟩ : ∃ l a g, gixR dim t 0 = (l, a, g) := ⟨_, _, _, rfl⟩
      simp only [hg, ne_eq, Decidable.not_not] at he h
      subst he
      obtain ⟨hc, j, rfl, hj, hv⟩ := gix_back ut hg
      rw [Int.toNat_natCast] at h
      obtain ⟨V, u, hV⟩ : ∃ V u, sgd1 l.length [] (t.drop j, false) = (V, u) := ⟨_, _, rfl⟩
      obtain ⟨u1, u2⟩ := u
      rw [hV] at h
      simp only [Prod.mk.injEq] at h
      obtain ⟨rfl, rfl, rfl⟩ := h
      obtain ⟨l2, e1, e2, e3, e4, _, _⟩ := sgd1_back _ _ _ _ _ _ (ut.drop j) hV
      rw [List.nil_append] at e1
      subst e1
      have hp := (chk_ok.1 hc).2.2.2
      refine ⟨rfl, rfl, ⟨hs, hdI, fun x hx => ?_, e3, h0I, h0I, nlU⟩, ?_⟩
      · have := hp x hx; unfold I64; omega
      · show t = (if (1 : Int) = 0 then _ else if (1 : Int) = 1 then pixV dim l ++ sgnd V else _) ++ u1
        rw [if_neg (by decide), if_pos rfl, hv, List.append_assoc, ← e4 rfl, List.take_append_drop]
  · split at h
    · rename_i e
      subst e
      unfold dns1 at h
      obtain ⟨V, u, hV⟩ : ∃ V u, sgd1 dim.toNat [] (t, false) = (V, u) := ⟨_, _, rfl⟩
      obtain ⟨u1, u2⟩ := u
      rw [hV] at h
      simp only [Prod.mk.injEq] at h
      obtain ⟨rfl, rfl, rfl⟩ := h
      obtain ⟨l2, e1, e2, e3, e4, _, _⟩ := sgd1_back _ _ _ _ _ _ ut hV
      rw [List.nil_append] at e1
      subst e1
      refine ⟨rfl, rfl, ⟨hs, hdI, nlI, e3, h0I, h0I, nlU⟩, ?_⟩
      show t = (if (0 : Int) = 0 then sgnd V else _) ++ u1
      rw [if_pos rfl]
      exact e4 rfl
    · obtain ⟨n, u, hN⟩ : ∃ n u, num1 top63 (t, false) = (n, u) := ⟨_, _, rfl⟩
      obtain ⟨u1, u2⟩ := u
      rw [hN] at h
      split at h
      · rename_i e
        subst e
        obtain ⟨x, v, hX⟩ : ∃ x v, by1 (u1, u2) = (x, v) := ⟨_, _, rfl⟩
        obtain ⟨v1, v2⟩ := v
        simp only [hX] at h
        have uv : U8s v1 := by
          unfold by1 at hX
          split at hX
          · simp [badT] at hX
            obtain ⟨_, rfl, _⟩ := hX
            intro x hx; simp at hx
          · simp only [Prod.mk.injEq] at hX
            obtain ⟨_, rfl, _⟩ := hX
            intro x hx
            unfold num1 at hN
            split at hN
            · simp [badT] at hN
              obtain ⟨_, rfl, _⟩ := hN
              simp at hx
            · simp only [Prod.mk.injEq] at hN
              obtain ⟨_, rfl, _⟩ := hN
              exact (ut.drop _) x (List.mem_of_mem_tail hx)
        obtain ⟨lev, neg, rfl, rfl, w1, w8, hl, hu, hn, rfl⟩ := lev1_back uv hd h
        obtain ⟨rfl, rfl⟩ := by1_back hX
        obtain ⟨_, n0, n1, nu, rfl⟩ := num1_back ut hN
        unfold top63 at n1
        refine ⟨rfl, rfl, ⟨hs, hdI, nlI, nlI, show I64 n by unfold I64; omega, show I64 x by unfold I64; omega, hu⟩, ?_⟩
        show _ = (if (2 : Int) = 0 then _ else if (2 : Int) = 1 then _ else lebI n ++ ((if (2 : Int) = 2 then x :: wevV x lev else []) ++ sgnV neg)) ++ r
        rw [if_neg (by decide), if_neg (by decide), if_pos rfl]
        simp
      · rename_i e1 e0 e2
        have uu : U8s u1 := by
          unfold num1 at hN
          split at hN
          · simp [badT] at hN
            obtain ⟨_, rfl, _⟩ := hN
            intro x hx; simp at hx
          · simp only [Prod.mk.injEq] at hN
            obtain ⟨_, rfl, _⟩ := hN
            exact ut.drop _
        obtain ⟨neg, rfl, rfl, hn, rfl⟩ := neg1_back uu hd h
        obtain ⟨_, n0, n1, nu, rfl⟩ := num1_back ut hN
        unfold top63 at n1
        refine ⟨rfl, rfl, ⟨hs, hdI, nlI, nlI, show I64 n by unfold I64; omega, h0I, nlU⟩, ?_⟩
        show _ = (if sch = 0 then _ else if sch = 1 then _ else lebI n ++ ((if sch = 2 then _ else []) ++ sgnV neg)) ++ r
        rw [if_neg e0, if_neg e1, if_neg e2]
        simp
theorem sent1_back {t r : List Int} {b : Bool} {s : SentV} (ut : U8s t) (h : sent1 (t, b) = (s, r, false)) : wfS s ∧ b = false ∧ t = bodyL s ++ r := by
  unfold sent1 at h
  obtain ⟨x, u, hX⟩ : ∃ x u, by1 (t, b) = (x, u) := ⟨_, _, rfl⟩
  obtain ⟨u1, u2⟩ := u
  rw [hX] at h
  obtain ⟨n, v, hN⟩ : ∃ n v, num1 4096 (u1, u2) = (n, v) := ⟨_, _, rfl⟩
  obtain ⟨v1, v2⟩ := v
  simp only [hN] at h
  split at h
  · simp [badT] at h
  · rename_i hne
    have hv2 : v2 = false := by cases v2 with
      | true => simp at hne
      | false => rfl
    subst hv2
    have hn0 : n ≠ 0 := fun e => hne (Or.inr e)
    have uu : U8s u1 := by
      unfold by1 at hX
      split at hX
      · simp [badT] at hX
        obtain ⟨_, rfl, _⟩ := hX
        intro x hx; simp at hx
      · simp only [Prod.mk.injEq] at hX
        obtain ⟨_, rfl, _⟩ := hX
        exact fun x hx => ut x (List.mem_of_mem_tail hx)
    obtain ⟨rfl, h0, h4, hu, rfl⟩ := num1_back uu hN
    obtain ⟨rfl, rfl⟩ := by1_back hX
    have hx := ut x (by simp)
    have uv : U8s v1 := fun y hy => uu y (by simp [hy])
    obtain ⟨e1, e2, hw, rfl⟩ := rest1_back uv (by omega) h4 (by unfold I64; omega) h
    refine ⟨hw, rfl, ?_⟩
    unfold bodyL
    rw [e1, e2]
    simp
theorem read1_back {o : List Int} {f : FrameV} (uo : U8s o) (h : read1 o = (f, 0)) : chkF f = 0 ∧ wfF f ∧ textL f = o := by
  unfold read1 endR at h
  obtain ⟨ver, u, hV⟩ : ∃ x u, by1 (o, false) = (x, u) := ⟨_, _, rfl⟩
  obtain ⟨u1, u2⟩ := u
  obtain ⟨knd, v, hK⟩ : ∃ x v, by1 (u1, u2) = (x, v) := ⟨_, _, rfl⟩
  obtain ⟨v1, v2⟩ := v
  obtain ⟨frm, x, hF⟩ : ∃ n x, num1 63 (v1, v2) = (n, x) := ⟨_, _, rfl⟩
  obtain ⟨x1, x2⟩ := x
  obtain ⟨stp, y, hS⟩ : ∃ n y, num1 1073741824 (x1, x2) = (n, y) := ⟨_, _, rfl⟩
  obtain ⟨y1, y2⟩ := y
  simp only [hV, hK, hF, hS] at h
  split at h
  · simp at h
  · rename_i hne
    simp only [Prod.mk.injEq, and_true] at h
    rw [h] at hne
    have hc : chkF f = 0 := by
      by_cases e : chkF f = 0
      · exact e
      · exact absurd (Or.inr (Or.inr (Or.inr e))) hne
    have hv1 : ver = 1 := by
      by_cases e : ver = 1
      · exact e
      · exact absurd (Or.inr (Or.inr (Or.inl e))) hne
    have hby : ∀ {t : List Int} {b : Bool} {x : Int} {u1 : List Int} {u2 : Bool}, U8s t → by1 (t, b) = (x, u1, u2) → U8s u1 := fun {t b x u1 u2} ut hX => by
      unfold by1 at hX
      split at hX
      · simp [badT] at hX
        obtain ⟨_, rfl, _⟩ := hX
        intro x hx; simp at hx
      · simp only [Prod.mk.injEq] at hX
        obtain ⟨_, rfl, _⟩ := hX
        exact fun x hx => ut x (List.mem_of_mem_tail hx)
    have hnu : ∀ {m : Int} {t : List Int} {b : Bool} {x : Int} {u1 : List Int} {u2 : Bool}, U8s t → num1 m (t, b) = (x, u1, u2) → U8s u1 := fun {m t b x u1 u2} ut hX => by
      unfold num1 at hX
      split at hX
      · simp [badT] at hX
        obtain ⟨_, rfl, _⟩ := hX
        intro x hx; simp at hx
      · simp only [Prod.mk.injEq] at hX
        obtain ⟨_, rfl, _⟩ := hX
        exact ut.drop _
    have a1 := hby uo hV
    have a2 := hby a1 hK
    have a3 := hnu a2 hF
    have a4 := hnu a3 hS
    have key : ∀ {S : SentV} {z : Tx}, (if knd = 1 then sent1 (y1, y2) else (zeroS, (y1, y2))) = (S, z) → z.2 = false → z.1 = [] → wfS S ∧ y2 = false ∧ y1 = (if knd = 1 then bodyL S else []) := fun {S z} hz h1 h2 => by
      obtain ⟨z1, z2⟩ := z
      simp only at h1 h2
      subst h1 h2
      by_cases e : knd = 1
      · rw [if_pos e] at hz ⊢
        have := sent1_back a4 hz
        rw [List.append_nil] at this
        exact this
      · rw [if_neg e] at hz ⊢
        simp only [Prod.mk.injEq] at hz
        obtain ⟨rfl, rfl, rfl⟩ := hz
        exact ⟨wf_zeroS, rfl, rfl⟩
    obtain ⟨S, z, hz⟩ : ∃ S z, (if knd = 1 then sent1 (y1, y2) else (zeroS, (y1, y2))) = (S, z) := ⟨_, _, rfl⟩
    have hz1 : z.2 = false := by
      cases hz2 : z.2 with
      | false => rfl
      | true => exact absurd (Or.inl (by unfold fram1; rw [hz]; exact hz2)) hne
    have hz3 : z.1 = [] := by
      by_cases e : z.1 = []
      · exact e
      · exact absurd (Or.inr (Or.inl (by unfold fram1; rw [hz]; exact e))) hne
    obtain ⟨hw, rfl, hy⟩ := key hz hz1 hz3
    obtain ⟨rfl, s0, s1, su, rfl⟩ := num1_back a3 hS
    obtain ⟨rfl, f0, f1, fu, rfl⟩ := num1_back a2 hF
    obtain ⟨rfl, rfl⟩ := by1_back hK
    obtain ⟨_, rfl⟩ := by1_back hV
    unfold fram1 at h
    rw [hz] at h
    simp only at h
    subst h
    have hk := a1 knd (by simp)
    refine ⟨hc, ⟨show I64 knd by unfold I64; omega, show I64 frm by unfold I64; omega, show I64 stp by unfold I64; omega, hw⟩, ?_⟩
    unfold textL
    simp only
    rw [← hy, hv1]
theorem read1_bad {o : List Int} (h : (read1 o).2 ≠ 0) : read1 o = (zeroF, 6) := by
  unfold read1 endR at h ⊢
  split
  · rfl
  · rename_i hn
    rw [if_neg hn] at h
    exact absurd rfl h
end Go.Proofs.Ytjkhdfncahhnoaa
/- Widths, bytes, whether numbers may be packed; bits put into bytes, by the document. -/
namespace Go.Proofs.Ytjkhdfncahhnoaa
open Go.RowKit
set_option maxHeartbeats 400000
set_option maxRecDepth 100000
set_option linter.unusedVariables false
theorem info_bool : (Try.prog.info? 4).map (fun i => (i.zero, i.size, i.bytes)) = some (some (.bool false), 1, 1) := by kernel_rfl
theorem wdt_zero : wdt 0 = 0 := by decide
theorem wdt_half {n : Int} (h0 : 0 < n) (h : n ≤ 18446744073709551615) : wdt n = 1 + wdt (n / 2) := by
  unfold wdt
  rw [Lib.bitLen_half n.toNat (by omega) (by omega)]
  congr 2
  omega
theorem wdt_64 {n : Int} (hn : U64 n) : wdt n ≤ 64 := by
  rw [wdt_le hn (by omega)]
  unfold U64 at hn
  have : (2 : Int) ^ 64 = 18446744073709551616 := by decide
  omega
theorem fits_take {wd : Int} {l : List Int} : fitsB wd l = true → ∀ k, fitsB wd (l.take k) = true := fun h k => by
  unfold fitsB at *
  rw [List.all_eq_true] at *
  exact fun n hn => h n (List.mem_of_mem_take hn)
theorem fits_no {wd : Int} {l : List Int} {k : Nat} {x : Int} (hx : l[k]? = some x) (h : wd < (wdt x : Int)) : fitsB wd l = false := by
  cases hb : fitsB wd l with
  | false => rfl
  | true =>
    unfold fitsB at hb
    rw [List.all_eq_true] at hb
    have := of_decide_eq_true (hb x (List.mem_of_getElem? hx))
    omega
theorem fits_step {wd : Int} {l : List Int} {k : Nat} {x : Int} (hx : l[k]? = some x) (h : (wdt x : Int) ≤ wd) (ht : fitsB wd (l.take k) = true) : fitsB wd (l.take (k + 1)) = true := by
  unfold fitsB at *
  rw [List.take_add_one, hx, List.all_append, ht]
  simpa using h
end Go.Proofs.Ytjkhdfncahhnoaa
/- Bits put into bytes; numbers packed, woven, signs, by the document. -/
namespace Go.Proofs.Ytjkhdfncahhnoaa
open Go.RowKit
set_option maxHeartbeats 400000
set_option maxRecDepth 100000
set_option linter.unusedVariables false
theorem byF_zero (f : Nat → Bool) (i : Nat) : byF 0 f i = 0 := by
  unfold byF
  simp [bv_not]
theorem beq_bt {x : Int} (h0 : 0 ≤ x) (q : Nat) : ((x / 2 ^ q).tmod 2 == 1) = bt x q := by
  rw [Int.tmod_eq_emod_of_nonneg (Int.ediv_nonneg h0 (Int.pow_nonneg (by decide)))]
  unfold bt
  by_cases h : x / 2 ^ q % 2 = 1 <;> simp [h]
end Go.Proofs.Ytjkhdfncahhnoaa
/- Numbers woven, by the document. -/
namespace Go.Proofs.Ytjkhdfncahhnoaa
open Go.RowKit
set_option maxHeartbeats 400000
set_option maxRecDepth 100000
set_option linter.unusedVariables false
end Go.Proofs.Ytjkhdfncahhnoaa
/- Bytes read as bits, by the document. -/
namespace Go.Proofs.Ytjkhdfncahhnoaa
open Go.RowKit
set_option maxHeartbeats 400000
set_option maxRecDepth 100000
set_option linter.unusedVariables false
/-- A call's answer: a list that reads so, and an error; nothing that was there has turned. -/
def RdE {α : Type} (enc : α → Value) (xs : List α) (er : Int) (w : World) (e : Ending) (w' : World) : Prop :=
  ∃ A c, e = .returned (.tuple #[.slice A xs.length c, .int .i64 er]) ∧ xs.length ≤ c ∧ c ≤ 9223372036854775807 ∧ Rd enc w' w'.heap.size A xs ∧ Below w.heap.size w w'
theorem RdE.nil {α : Type} {enc : α → Value} {er : Int} {w w' : World} (hb : Below w.heap.size w w') : RdE enc ([] : List α) er w (.returned (.tuple #[.slice none 0 0, .int .i64 er])) w' := ⟨none, 0, rfl, by simp, by omega, Rd.none_, hb⟩
theorem beq_bt8 {x : Int} (h0 : 0 ≤ x) (q : Nat) : ((x / 2 ^ q).tmod 2 == 1) = bt x q := beq_bt h0 q
theorem fB_at {b : List Int} {i j q : Nat} {x : Int} (hx : b[i]? = some x) (h : q + j + 1 = 8) : fB b (8 * i + j) = bt x q := by
  unfold fB
  rw [show (8 * i + j) / 8 = i by omega, show (8 * i + j) % 8 = j by omega, getD_of hx, show 7 - j = q by omega]
end Go.Proofs.Ytjkhdfncahhnoaa
/- Numbers unpacked, unwoven; signs read, by the document; lists of signs that are the same. -/
namespace Go.Proofs.Ytjkhdfncahhnoaa
open Go.RowKit
set_option maxHeartbeats 400000
set_option maxRecDepth 100000
set_option linter.unusedVariables false
theorem nmF_32 {t k : Nat} (h : t ≤ k) (hk : k ≤ 32) (g : Nat → Bool) : 0 ≤ nmF t g ∧ nmF t g ≤ 4294967296 := by
  have h1 := nmF_lt t g
  have h2 : (2 : Int) ^ t ≤ 2 ^ 32 := by
    have := Nat.pow_le_pow_right (show 0 < 2 by decide) (show t ≤ 32 by omega)
    exact_mod_cast this
  have h3 : (2 : Int) ^ 32 = 4294967296 := by decide
  omega
end Go.Proofs.Ytjkhdfncahhnoaa
/- Numbers unwoven, signs read, by the document; lists of signs that are the same. -/
namespace Go.Proofs.Ytjkhdfncahhnoaa
open Go.RowKit
set_option maxHeartbeats 400000
set_option maxRecDepth 100000
set_option linter.unusedVariables false
theorem ref_SameSigns {A B : Option Addr} {c d : Nat} (xs : List Bool) (hx : xs.length ≤ 9223372036854775807) (w : World) (ra : Rd Value.bool w w.heap.size A xs) (rb : Rd Value.bool w w.heap.size B xs) :
    Calls Try.prog 40 #[.slice A xs.length c, .slice B xs.length d] w fun e w' => e = .returned (.bool true) ∧ Below w.heap.size w w' := by
  have HA := hid ra
  have HB := hid rb
  clear ra rb
  go_enter Try.func40, Try.ntmps40
  go_wp2_with fail
  go_loopw [13] (fun i wr => ∃ k : Nat, k ≤ xs.length ∧ i = .int .i64 k ∧ Below w.heap.size w wr) (fun i _ => xs.length - (intOf i).toNat)
  case atStart => exact ⟨0, by omega, rfl, Below.refl _ _⟩
  case round =>
    obtain ⟨k, hk, rfl, hb⟩ := hrel
    by_cases hlt : k < xs.length
    · obtain ⟨b1, o1, x, rfl, l1, ex, c1⟩ := (HA.out.below hb).at_ hlt
      obtain ⟨b2, o2, y, rfl, l2, ey, c2⟩ := (HB.out.below hb).at_ hlt
      obtain rfl : x = y := Option.some.inj (ex.symm.trans ey)
      have e' : (x != x) = false := by simp
      clear ex ey
      go_wp2_with fail
      go_quiet (fail)
      go_wp2_with fail
      go_roundw
      case rel => exact ⟨k + 1, by omega, by go_num, hb.trans (belowN _ _ _)⟩
      case measure => simp [intOf]; omega
    · go_wp2_with fail
      go_ret
      exact ⟨rfl, hb⟩
end Go.Proofs.Ytjkhdfncahhnoaa
/- A block of the call's own that holds these values, cell by cell: structs in boxes; what stores and calls leave of them. -/
namespace Go.Proofs.Ytjkhdfncahhnoaa
open Go.RowKit
set_option maxRecDepth 100000
set_option linter.unusedVariables false
/-- The cells of a block, none of them frozen. -/
def BoxL (w : World) (g : Nat) (vs : List Value) : Prop := ∀ (k : Nat) (v : Value), vs[k]? = some v → w.cell? ⟨g, k, none⟩ = some v ∧ w.frozen? ⟨g, k, none⟩ = false
section
variable {w w' : World} {g B : Nat} {vs : List Value}
theorem BoxL.below (h : BoxL w g vs) (hb : Below B w w') (hg : g < B) : BoxL w' g vs := fun k v hv =>
  ⟨(hb.cell (p := ⟨g, k, none⟩) hg).trans (h k v hv).1, (hb.frozen (p := ⟨g, k, none⟩) hg).trans (h k v hv).2⟩
theorem BoxL.new (w : World) (vs : List Value) (t : TypeId) : BoxL (w.alloc (.cells vs.toArray t)) w.heap.size vs := fun k v hv => by
  have hn := heap_alloc_new w (.cells vs.toArray t)
  refine ⟨?_, ?_⟩
  · rw [cell_of_row _ _ k _ t (0, 0) hn]
    simp [hv]
  · unfold World.frozen?
    simp only [hn]
    simp
theorem BoxL.one (h : BoxL w g vs) {k : Nat} {v : Value} (hv : vs[k]? = some v) (u : Value) : BoxL (w.setCell ⟨g, k, none⟩ u) g (vs.set k u) := fun j x hx => by
  refine ⟨?_, ?_⟩
  · by_cases e : j = k
    · subst e
      rw [List.getElem?_set_self (List.getElem?_eq_some_iff.1 hv).1] at hx
      obtain rfl : u = x := Option.some.inj hx
      exact World.cell?_setCell_same _ _ _ (h j v hv).1
    · rw [List.getElem?_set_ne (by omega)] at hx
      rw [World.cell?_setCell_other _ _ _ _ (by intro e'; injection e' with _ e2; exact e e2.symm)]
      exact (h j x hx).1
  · rw [World.frozen?_setCell]
    by_cases e : j = k
    · subst e; exact (h j v hv).2
    · rw [List.getElem?_set_ne (by omega)] at hx
      exact (h j x hx).2
theorem BoxL.other (h : BoxL w g vs) {p : Addr} (hp : p.block ≠ g) (u : Value) : BoxL (w.setCell p u) g vs := fun j x hx => by
  refine ⟨?_, ?_⟩
  · rw [World.cell?_setCell_other _ _ _ _ (by rintro rfl; exact hp rfl)]
    exact (h j x hx).1
  · rw [World.frozen?_setCell]; exact (h j x hx).2
theorem BoxL.drew (h : BoxL w g vs) : BoxL w.drew g vs := h
theorem BoxL.lt (h : BoxL w g vs) (h0 : 0 < vs.length) : g < w.heap.size := lt_of_cell (h 0 _ (List.getElem?_eq_getElem h0)).1
/-- The facts of two, eight, eleven cells. -/
theorem BoxL.two {a b : Value} (h : BoxL w g [a, b]) : w.cell? ⟨g, 0, none⟩ = some a ∧ w.cell? ⟨g, 1, none⟩ = some b ∧ w.frozen? ⟨g, 0, none⟩ = false ∧ w.frozen? ⟨g, 1, none⟩ = false :=
  ⟨(h 0 a rfl).1, (h 1 b rfl).1, (h 0 a rfl).2, (h 1 b rfl).2⟩
theorem BoxL.eight {a b c d e f i j : Value} (h : BoxL w g [a, b, c, d, e, f, i, j]) :
    (w.cell? ⟨g, 0, none⟩ = some a ∧ w.cell? ⟨g, 1, none⟩ = some b ∧ w.cell? ⟨g, 2, none⟩ = some c ∧ w.cell? ⟨g, 3, none⟩ = some d ∧ w.cell? ⟨g, 4, none⟩ = some e ∧ w.cell? ⟨g, 5, none⟩ = some f ∧ w.cell? ⟨g, 6, none⟩ = some i ∧ w.cell? ⟨g, 7, none⟩ = some j) ∧
    (w.frozen? ⟨g, 0, none⟩ = false ∧ w.frozen? ⟨g, 1, none⟩ = false ∧ w.frozen? ⟨g, 2, none⟩ = false ∧ w.frozen? ⟨g, 3, none⟩ = false ∧ w.frozen? ⟨g, 4, none⟩ = false ∧ w.frozen? ⟨g, 5, none⟩ = false ∧ w.frozen? ⟨g, 6, none⟩ = false ∧ w.frozen? ⟨g, 7, none⟩ = false) :=
  ⟨⟨(h 0 a rfl).1, (h 1 b rfl).1, (h 2 c rfl).1, (h 3 d rfl).1, (h 4 e rfl).1, (h 5 f rfl).1, (h 6 i rfl).1, (h 7 j rfl).1⟩, (h 0 a rfl).2, (h 1 b rfl).2, (h 2 c rfl).2, (h 3 d rfl).2, (h 4 e rfl).2, (h 5 f rfl).2, (h 6 i rfl).2, (h 7 j rfl).2⟩
theorem BoxL.cells11 {a b c d e f i j k l m : Value} (h : BoxL w g [a, b, c, d, e, f, i, j, k, l, m]) :
    w.cell? ⟨g, 0, none⟩ = some a ∧ w.cell? ⟨g, 1, none⟩ = some b ∧ w.cell? ⟨g, 2, none⟩ = some c ∧ w.cell? ⟨g, 3, none⟩ = some d ∧ w.cell? ⟨g, 4, none⟩ = some e ∧ w.cell? ⟨g, 5, none⟩ = some f ∧ w.cell? ⟨g, 6, none⟩ = some i ∧ w.cell? ⟨g, 7, none⟩ = some j ∧ w.cell? ⟨g, 8, none⟩ = some k ∧ w.cell? ⟨g, 9, none⟩ = some l ∧ w.cell? ⟨g, 10, none⟩ = some m :=
  ⟨(h 0 a rfl).1, (h 1 b rfl).1, (h 2 c rfl).1, (h 3 d rfl).1, (h 4 e rfl).1, (h 5 f rfl).1, (h 6 i rfl).1, (h 7 j rfl).1, (h 8 k rfl).1, (h 9 l rfl).1, (h 10 m rfl).1⟩
/-- Two cells laid at once; eight cells laid at once. -/
theorem BoxL.set2 {a b : Value} (h : BoxL w g [a, b]) (a' b' : Value) : BoxL ((w.setCell ⟨g, 0, none⟩ a').setCell ⟨g, 1, none⟩ b') g [a', b'] :=
  (h.one (k := 0) rfl a').one (k := 1) (v := b) rfl b'
theorem BoxL.other2 (h : BoxL w g vs) {g' : Nat} (hg : g' ≠ g) (a' b' : Value) : BoxL ((w.setCell ⟨g', 0, none⟩ a').setCell ⟨g', 1, none⟩ b') g vs :=
  (h.other (p := ⟨g', 0, none⟩) hg a').other (p := ⟨g', 1, none⟩) hg b'
end
theorem own_set {w : World} {base n : Nat} {e : TypeId} {v : Value} {vs : List Value} (h : w.ownsRow base e 1 v n vs) {p : Addr} (hp : p.block < base) (u : Value) : (w.setCell p u).ownsRow base e 1 v n vs := by
  refine ⟨h.1, ?_⟩
  rcases h.2 with hn | ⟨g, cap, cur, hv, hg, hh, r⟩
  · exact .inl hn
  · exact .inr ⟨g, cap, cur, hv, hg, (Below.heap_setCell w p u g (by omega)).trans hh, r⟩
end Go.Proofs.Ytjkhdfncahhnoaa
/- What follows of frames' texts: read back, written again, apart, how long. No program in sight. -/
namespace Go.Proofs.Ytjkhdfncahhnoaa
set_option maxRecDepth 100000
set_option linter.unusedVariables false
theorem sealed_own {b : List Int} (ub : U8s b) : sealedB (b ++ le4 (sumN b)) = true := by
  have hl : (b ++ le4 (sumN b)).length = b.length + 4 := by rw [List.length_append, le4_len]
  rw [sealed_iff (ub.app (le4_bytes _)) (by omega), off_iff ub (sumN_lt b)]
theorem open_seal {b : List Int} (ub : U8s b) (hb : b.length ≤ 65532) : openV (sealV b) = b ∧ openE (sealV b) = 0 := by
  have e : sealV b = b ++ le4 (sumN b) := if_neg (by omega)
  rw [e]
  have hl : (b ++ le4 (sumN b)).length = b.length + 4 := by rw [List.length_append, le4_len]
  have hs := sealed_own ub
  unfold openV openE
  rw [hs, hl, if_neg (by simp only [Bool.true_eq_false, or_false]; omega), if_neg (by omega), if_neg (by omega), if_neg (by decide)]
  refine ⟨?_, rfl⟩
  rw [show b.length + 4 - 4 = b.length by omega, List.take_left]
theorem seal_open {b : List Int} (h : openE b = 0) : sealV (openV b) = b ∧ sealE (openV b) = 0 ∧ (openV b).length + 4 = b.length ∧ b.length ≤ 65536 := by
  unfold openE at h
  split at h
  · simp at h
  · rename_i h1
    split at h
    · simp at h
    · rename_i h2
      split at h
      · simp at h
      · rename_i h3
        have hs : sealedB b = true := by cases hb : sealedB b with
          | true => rfl
          | false => exact absurd hb h3
        have ho : openV b = b.take (b.length - 4) := by
          unfold openV
          rw [if_neg]
          rintro (h | h | h)
          · exact h1 h
          · exact h2 h
          · exact h3 h
        have hl : (openV b).length + 4 = b.length := by rw [ho, List.length_take]; omega
        unfold sealedB sealedB.eqL at hs
        rw [decide_eq_true_eq] at hs
        refine ⟨?_, ?_, hl, by omega⟩
        · unfold sealV
          rw [if_neg (by omega), ho, ← hs, List.take_append_drop]
        · unfold sealE
          rw [if_neg (by omega)]
theorem openV_u8 {l : List Int} (hl : U8s l) : U8s (openV l) := by
  unfold openV
  split
  · intro x hx; simp at hx
  · exact hl.take _
theorem sealV_u8 {l : List Int} (hl : U8s l) : U8s (sealV l) := by
  unfold sealV
  split
  · intro x hx; simp at hx
  · exact hl.app (le4_bytes _)
theorem sgnd_u8 {l : List Int} (h : ∀ x ∈ l, I64 x) : U8s (sgnd l) := encs_u8 (zigs_u64 h)
theorem sgnd_len {l : List Int} (h : ∀ x ∈ l, I64 x) : (sgnd l).length ≤ 10 * l.length := by
  have := encs_len (zigs_u64 h)
  rwa [List.length_map] at this
theorem U8s.cons {x : Int} {l : List Int} (h0 : 0 ≤ x) (h1 : x ≤ 255) (h : U8s l) : U8s (x :: l) := fun y hy => by
  rcases List.mem_cons.1 hy with rfl | hy
  · exact ⟨h0, h1⟩
  · exact h y hy
theorem body_u8 {s : SentV} (hm : mayP s) (hw : wfS s) : U8s (bodyL s) := by
  obtain ⟨sch, dim, L, V, scale, wide, lev, neg⟩ := s
  obtain ⟨hd1, hd4, hc⟩ := hm
  obtain ⟨w1, w2, w3, w4, w5, w6, w7⟩ := hw
  simp only at hd1 hd4 hc w1 w2 w3 w4 w5 w6 w7
  have ud := lebI_u8 dim (by omega)
  unfold bodyL tailL
  simp only
  rcases hc with ⟨rfl, rfl, h2, rfl, rfl, rfl, rfl⟩ | ⟨rfl, h1, h2, rfl, rfl, rfl, rfl⟩ | ⟨rfl, h1, h2, h3, h4, rfl, rfl, h7, h8⟩ | ⟨rfl, rfl, rfl, rfl, rfl, h5, h6⟩
  · exact .cons (by decide) (by decide) (ud.app (sgnd_u8 w4))
  · exact .cons (by decide) (by decide) (ud.app ((pixV_u8 _ _).app (sgnd_u8 w4)))
  · exact .cons (by decide) (by decide) (ud.app ((lebI_u8 scale h7).app ((U8s.cons (by omega) (by omega) (wevV_bytes _ _)).app (sgnV_bytes _))))
  · exact .cons (by decide) (by decide) (ud.app ((lebI_u8 scale h5).app (sgnV_bytes _)))
theorem body_len {s : SentV} {n : Nat} (hm : mayP s) (hw : wfS s) (hV : s.V.length ≤ n) : (bodyL s).length ≤ 45200 + 10 * n := by
  obtain ⟨sch, dim, L, V, scale, wide, lev, neg⟩ := s
  obtain ⟨hd1, hd4, hc⟩ := hm
  obtain ⟨w1, w2, w3, w4, w5, w6, w7⟩ := hw
  simp only at hd1 hd4 hc w1 w2 w3 w4 w5 w6 w7 hV
  have ld := lebI_ten (n := dim) (by unfold U64; omega)
  have lv := sgnd_len w4
  have lp := pixV_len dim L
  unfold bodyL tailL
  simp only [List.length_cons, List.length_append]
  rcases hc with ⟨rfl, rfl, h2, rfl, rfl, rfl, rfl⟩ | ⟨rfl, h1, h2, rfl, rfl, rfl, rfl⟩ | ⟨rfl, h1, h2, h3, h4, rfl, rfl, h7, h8⟩ | ⟨rfl, rfl, rfl, rfl, rfl, h5, h6⟩
  · rw [if_pos rfl]; omega
  · rw [if_neg (by decide), if_pos rfl, List.length_append]; omega
  · rw [if_neg (by decide), if_neg (by decide), if_pos rfl]
    have ls := lebI_ten (n := scale) (by unfold I64 at w5; unfold U64; omega)
    have hn := sgnV_len (l := neg) (by omega)
    have hb : bysE wide lev.length = 0 := by unfold bysE; rw [if_neg (by omega), if_neg (by omega)]
    have hm : mayE wide lev = 0 := by unfold mayE; rw [if_pos hb, if_pos h4]
    have hwl := ((may_same wide lev).2 hm).2
    have h9 : wide.toNat * lev.length ≤ 8 * 4096 := Nat.mul_le_mul (by omega) (by omega)
    simp only [List.length_cons, List.length_append]
    omega
  · rw [if_neg (by decide), if_neg (by decide), if_neg (by decide)]
    have ls := lebI_ten (n := scale) (by unfold I64 at w5; unfold U64; omega)
    have hn := sgnV_len (l := neg) (by omega)
    simp only [List.length_append, List.length_nil]
    omega
theorem text_u8 {f : FrameV} (hc : chkF f = 0) (hw : wfF f) : U8s (textL f) := by
  obtain ⟨h1, h2, h3, h4, h5⟩ := chkF_ok.1 hc
  have hk : f.knd = 1 ∨ f.knd = 2 := by rcases h5 with h | h; exact Or.inl h.1; exact Or.inr h.1
  unfold textL
  refine .cons (by decide) (by decide) (.cons (by omega) (by omega) ((lebI_u8 _ h1).app ((lebI_u8 _ h3).app ?_)))
  rcases h5 with ⟨e, hm⟩ | ⟨e, hz⟩
  · rw [if_pos e]; exact body_u8 (mayB_iff.1 hm) hw.2.2.2
  · rw [if_neg (by omega)]; intro x hx; simp at hx
theorem text_len {f : FrameV} {n : Nat} (hc : chkF f = 0) (hw : wfF f) (hV : f.S.V.length ≤ n) : (textL f).length ≤ 45300 + 10 * n := by
  obtain ⟨h1, h2, h3, h4, h5⟩ := chkF_ok.1 hc
  have lf := lebI_ten (n := f.frm) (by unfold U64; omega)
  have ls := lebI_ten (n := f.stp) (by unfold U64; omega)
  unfold textL
  simp only [List.length_cons, List.length_append]
  rcases h5 with ⟨e, hm⟩ | ⟨e, hz⟩
  · rw [if_pos e]
    have := body_len (mayB_iff.1 hm) hw.2.2.2 hV
    omega
  · rw [if_neg (by omega)]
    simp only [List.length_nil]
    omega
/-- Written, and read. -/
theorem wrt_ok {f : FrameV} (hw : wfF f) (hV : f.S.V.length ≤ 1000) : (wrtE f = 0 ↔ chkF f = 0) ∧ (wrtE f = 0 ∨ wrtE f = 1) := by
  unfold wrtE
  by_cases hc : chkF f = 0
  · have := text_len hc hw hV
    have hs : sealE (textL f) = 0 := if_neg (by omega)
    rw [if_pos hc, hs]
    simp [hc]
  · rw [if_neg hc]
    simp [hc]
theorem rd_wrt {f : FrameV} (hw : wfF f) (hV : f.S.V.length ≤ 1000) (h : wrtE f = 0) : rdR (wrtV f) = (f, 0) ∧ U8s (wrtV f) ∧ (wrtV f).length = (textL f).length + 4 ∧ off (wrtV f) = 0 := by
  have hc := (wrt_ok hw hV).1.1 h
  have hl := text_len hc hw hV
  have hu := text_u8 hc hw
  have e : wrtV f = sealV (textL f) := if_pos hc
  have e2 : sealV (textL f) = textL f ++ le4 (sumN (textL f)) := if_neg (by omega)
  obtain ⟨h1, h2⟩ := open_seal hu (by omega)
  refine ⟨?_, by rw [e]; exact sealV_u8 hu, by rw [e, e2, List.length_append, le4_len], ?_⟩
  · unfold rdR
    rw [e, h2, if_neg (by decide), h1]
    exact read1_put hc hw
  · rw [e, e2]
    exact (off_iff hu (sumN_lt _)).2 rfl
theorem wrt_rd {b : List Int} {f : FrameV} (ub : U8s b) (h : rdR b = (f, 0)) : chkF f = 0 ∧ wfF f ∧ wrtV f = b ∧ wrtE f = 0 := by
  unfold rdR at h
  by_cases he : openE b = 0
  · rw [if_neg (by rw [he]; decide)] at h
    obtain ⟨hc, hw, ht⟩ := read1_back (openV_u8 ub) h
    obtain ⟨h1, h2, _, _⟩ := seal_open he
    refine ⟨hc, hw, ?_, ?_⟩
    · unfold wrtV; rw [if_pos hc, ht, h1]
    · unfold wrtE; rw [if_pos hc, ht, h2]
  · rw [if_pos he] at h
    simp only [Prod.mk.injEq] at h
    exact absurd h.2 he
theorem rd_bad {b : List Int} (h : (rdR b).2 ≠ 0) : (rdR b).1 = zeroF := by
  unfold rdR at h ⊢
  by_cases he : openE b = 0
  · rw [if_neg (by rw [he]; decide)] at h ⊢
    rw [read1_bad h]
  · rw [if_pos he]
theorem rd_cases (b : List Int) : (rdR b).2 = openE b ∨ openE b = 0 ∧ (rdR b).2 = 6 := by
  unfold rdR
  by_cases he : openE b = 0
  · rw [if_neg (by rw [he]; decide)]
    by_cases h : (read1 (openV b)).2 = 0
    · left; rw [h, he]
    · right; rw [read1_bad h]; exact ⟨he, rfl⟩
  · rw [if_pos he]
    left; rfl
theorem apart {f g : FrameV} (hf : wfF f) (hg : wfF g) (lf : f.S.V.length ≤ 1000) (lg : g.S.V.length ≤ 1000) (h1 : wrtE f = 0) (h2 : wrtE g = 0) : eqB (wrtV f) (wrtV g) = sameF f g := by
  have a := (rd_wrt hf lf h1).1
  have b := (rd_wrt hg lg h2).1
  by_cases e : f = g
  · subst e
    rw [eqB_self, sameF_self]
  · have hs : sameF f g = false := by
      cases h : sameF f g with
      | false => rfl
      | true => exact absurd (sameF_iff.1 h) e
    rw [hs]
    unfold eqB
    rw [decide_eq_false_iff_not]
    intro he
    rw [he, b] at a
    simp only [Prod.mk.injEq, and_true] at a
    exact e a.symm
/-- How long its lists are, if it may be; what is read. -/
theorem may_len {s : SentV} (h : mayP s) : s.L.length ≤ 4096 ∧ s.V.length ≤ 4096 ∧ s.lev.length ≤ 4096 ∧ s.neg.length ≤ 4096 := by
  obtain ⟨sch, dim, L, V, scale, wide, lev, neg⟩ := s
  obtain ⟨hd1, hd4, hc⟩ := h
  simp only at hd1 hd4 hc ⊢
  rcases hc with ⟨_, rfl, h2, _, rfl, _, rfl⟩ | ⟨_, h1, h2, _, rfl, _, rfl⟩ | ⟨_, _, _, h3, _, rfl, rfl, _, h8⟩ | ⟨_, rfl, rfl, _, rfl, _, h6⟩
  · simp; omega
  · have := plc_le (chk_ok.1 h1)
    simp; omega
  · simp; omega
  · simp; omega
theorem chk_len {f : FrameV} (h : chkF f = 0) : f.S.L.length ≤ 4096 ∧ f.S.V.length ≤ 4096 ∧ f.S.lev.length ≤ 4096 ∧ f.S.neg.length ≤ 4096 := by
  obtain ⟨_, _, _, _, h5⟩ := chkF_ok.1 h
  rcases h5 with ⟨_, hm⟩ | ⟨_, hz⟩
  · exact may_len (mayB_iff.1 hm)
  · rw [sameS_iff.1 hz]; simp [zeroS]
theorem rd_all {b : List Int} (ub : U8s b) : wfF (rdR b).1 ∧ (rdR b).1.S.L.length ≤ 4096 ∧ (rdR b).1.S.V.length ≤ 4096 ∧ (rdR b).1.S.lev.length ≤ 4096 ∧ (rdR b).1.S.neg.length ≤ 4096 := by
  by_cases h : (rdR b).2 = 0
  · obtain ⟨f, e, hf⟩ : ∃ f e, rdR b = (f, e) := ⟨_, _, rfl⟩
    rw [hf] at h ⊢
    simp only at h
    subst h
    obtain ⟨hc, hw, _, _⟩ := wrt_rd ub hf
    exact ⟨hw, chk_len hc⟩
  · rw [rd_bad h]
    exact ⟨⟨by decide, by decide, by decide, wf_zeroS⟩, by simp [zeroF, zeroS]⟩
/-- An acknowledgement. -/
def ackF (frm stp : Int) : FrameV := ⟨2, frm, stp, zeroS⟩
theorem ack_wf {frm stp : Int} (h1 : I64 frm) (h2 : I64 stp) : wfF (ackF frm stp) := ⟨show I64 2 by decide, h1, h2, wf_zeroS⟩
theorem ack_chk {frm stp : Int} : chkF (ackF frm stp) = 0 ↔ (0 ≤ frm ∧ frm < 64 ∧ 0 ≤ stp ∧ stp ≤ 1073741824) := by
  rw [chkF_ok]
  unfold frmP ackF
  simp only
  constructor
  · rintro ⟨h1, h2, h3, h4, _⟩; exact ⟨h1, h2, h3, h4⟩
  · rintro ⟨h1, h2, h3, h4⟩; exact ⟨h1, h2, h3, h4, by simp [sameS_iff]⟩
theorem ack_text (frm stp : Int) : textL (ackF frm stp) = 1 :: 2 :: encs [frm, stp] := by
  unfold textL ackF
  simp only
  rw [if_neg (by decide), List.append_nil, encs_cons, encs_one]
/-- Bent. -/
theorem no_frm {f : FrameV} : chkF { f with frm := 64 } = 1 := chkF_no (fun h => by have := h.2.1; simp at this)
theorem no_knd {f : FrameV} (h : chkF f = 0) : chkF { f with knd := 3 - f.knd } = 1 := chkF_no (fun h2 => by
  obtain ⟨_, _, _, _, h5⟩ := chkF_ok.1 h
  obtain ⟨_, _, _, _, h6⟩ := h2
  simp only at h6
  have key : mayB f.S = true → sameS f.S zeroS = true → False := fun a b => by
    rw [sameS_iff.1 b] at a
    have := (mayB_iff.1 a).1
    simp [zeroS] at this
  rcases h5 with ⟨e, hm⟩ | ⟨e, hz⟩
  · rcases h6 with ⟨e2, hm2⟩ | ⟨e2, hz2⟩
    · omega
    · exact key hm hz2
  · rcases h6 with ⟨e2, hm2⟩ | ⟨e2, hz2⟩
    · exact key hm2 hz
    · omega)
theorem may_kinds {f : FrameV} (h : chkF f = 0) : mayB f.S = (f.knd == 1) := by
  obtain ⟨_, _, _, _, h5⟩ := chkF_ok.1 h
  rcases h5 with ⟨e, hm⟩ | ⟨e, hz⟩
  · rw [hm, e]; rfl
  · rw [e, sameS_iff.1 hz]
    rfl
theorem no_V {f : FrameV} (h : chkF f = 0) : chkF { f with S := { f.S with V := f.S.V ++ [1] } } = 1 := chkF_no (fun h2 => by
  obtain ⟨_, _, _, _, h5⟩ := chkF_ok.1 h
  obtain ⟨_, _, _, _, h6⟩ := h2
  simp only at h6
  rcases h6 with ⟨e2, hm2⟩ | ⟨e2, hz2⟩
  · rcases h5 with ⟨e, hm⟩ | ⟨e, hz⟩
    · obtain ⟨_, _, a⟩ := mayB_iff.1 hm
      obtain ⟨_, _, b⟩ := mayB_iff.1 hm2
      simp only [List.length_append, List.length_singleton] at b
      rcases a with a | a | a | a <;> rcases b with b | b | b | b
      all_goals first
        | (have := a.1; have := b.1; omega)
        | (have := a.2.2.1; have := b.2.2.1; omega)
        | (have := b.2.2.2.2.2.2.1; simp at this)
        | (have := b.2.2.1; simp at this)
    · omega
  · have := sameS_iff.1 hz2
    have := congrArg SentV.V this
    simp [zeroS] at this)
theorem no_L {f : FrameV} (h : chkF f = 0) : chkF { f with S := { f.S with L := f.S.L ++ [f.S.dim] } } = 1 := chkF_no (fun h2 => by
  obtain ⟨_, _, _, _, h6⟩ := h2
  simp only at h6
  rcases h6 with ⟨e2, hm2⟩ | ⟨e2, hz2⟩
  · obtain ⟨_, _, b⟩ := mayB_iff.1 hm2
    simp only at b
    rcases b with b | b | b | b
    · have := b.2.1; simp at this
    · have := (chk_ok.1 b.2.1).2.2.2 f.S.dim (by simp)
      omega
    · have := b.2.2.2.2.2.1; simp at this
    · have := b.2.1; simp at this
  · have := sameS_iff.1 hz2
    have := congrArg SentV.L this
    simp [zeroS] at this)
theorem no_scale {f : FrameV} : chkF { f with S := { f.S with scale := -1 } } = 1 := chkF_no (fun h2 => by
  obtain ⟨_, _, _, _, h6⟩ := h2
  simp only at h6
  rcases h6 with ⟨e2, hm2⟩ | ⟨e2, hz2⟩
  · obtain ⟨_, _, b⟩ := mayB_iff.1 hm2
    simp only at b
    rcases b with b | b | b | b
    · have := b.2.2.2.2.2.1; omega
    · have := b.2.2.2.2.2.1; omega
    · have := b.2.2.2.2.2.2.2.1; omega
    · have := b.2.2.2.2.2.1; omega
  · have := sameS_iff.1 hz2
    have := congrArg SentV.scale this
    simp [zeroS] at this)
end Go.Proofs.Ytjkhdfncahhnoaa
/- A region that draws, walked once. -/
namespace Go.Proofs.Ytjkhdfncahhnoaa
open Go.RowKit
set_option maxRecDepth 100000
set_option linter.unusedVariables false
/-- A region that draws, walked once, in a class of worlds of one's own. -/
theorem region_in {P : Program} {C : World → Prop} {id : Nat} {Q : Exit → Act → World → Prop} {a : Act} {w : World} {l : List Oper} (hm : P.follows .mixedOrders = true) (hB : Region.lexB .any l.toArray = true) (hC : C w.drew)
    (h : wpQuiet P l.toArray C (fun a' => ∀ w', C w' → Q .normal a' w') l a) : (Code.region id l.toArray true).wp P Q a w :=
  wp_region_quiet hm hB hC (by simpa using h)
end Go.Proofs.Ytjkhdfncahhnoaa
/- Stores into a block of the call's own, seen from other blocks. -/
namespace Go.Proofs.Ytjkhdfncahhnoaa
open Go.RowKit
set_option maxRecDepth 100000
set_option linter.unusedVariables false
theorem grown_set (w : World) (a : Addr) (u : Value) : w.grownBy (w.setCell a u) (some a.block) :=
  ⟨rfl, rfl, rfl, by simp, fun k _ hk => Below.heap_setCell w a u k (fun e => hk (by rw [e]))⟩
theorem grown_me (w : World) (row : Option Nat) : w.grownBy w row := ⟨rfl, rfl, rfl, Nat.le_refl _, fun _ _ _ => rfl⟩
theorem BoxL.far {w w' : World} {g : Nat} {vs : List Value} {row : Option Nat} (h : BoxL w g vs) (hg : w.grownBy w' row) (hr : some g ≠ row) (hl : g < w.heap.size) : BoxL w' g vs := fun k v hv =>
  ⟨(World.cell?_of_block (a := ⟨g, k, none⟩) (hg.block g hl hr)).trans (h k v hv).1, (World.frozen?_of_block (a := ⟨g, k, none⟩) (hg.block g hl hr)).trans (h k v hv).2⟩
theorem own_apart {w w' : World} {base n c : Nat} {e : TypeId} {A : Option Addr} {vs : List Value} {row : Option Nat} (h : w.ownsRow base e 1 (.slice A n c) n vs) (hg : w.grownBy w' row) (hr : ∀ b, row = some b → b < base) : w'.ownsRow base e 1 (.slice A n c) n vs := by
  refine ⟨h.1, ?_⟩
  rcases h.2 with hn | ⟨g, cap, cur, hv, hg2, hh, r⟩
  · exact .inl hn
  · exact .inr ⟨g, cap, cur, hv, hg2, (hg.block g (Array.getElem?_eq_some_iff.1 hh).1 (by intro e; have := hr g e.symm; omega)).trans hh, r⟩
/-- Where a list of the call's own lies. -/
theorem row_in {w : World} {base n c : Nat} {e : TypeId} {A : Option Addr} {vs : List Value} (h : w.ownsRow base e 1 (.slice A n c) n vs) : ∀ b, A.map (·.block) = some b → base ≤ b ∧ b < w.heap.size := by
  intro b hb
  rcases h.2 with ⟨he, _⟩ | ⟨g, cap, cur, he, hg, hh, _⟩
  · simp only [Value.slice.injEq] at he
    rw [he.1] at hb
    cases hb
  · simp only [Value.slice.injEq] at he
    rw [he.1] at hb
    simp at hb
    subst hb
    exact ⟨hg, (Array.getElem?_eq_some_iff.1 hh).1⟩
end Go.Proofs.Ytjkhdfncahhnoaa
/- A law's frame: where a call answers true and nothing that was there has turned, the given row's post holds, whatever the arguments are made of. -/
namespace Go.Proofs.Ytjkhdfncahhnoaa
open Go.ChangeShapes Go.WideShapes Go.ChangeAt Go.RowKit
set_option maxRecDepth 100000
set_option linter.unusedVariables false

theorem own : ownKnob Try.prog.godebug = none := by kernel_rfl
theorem laid : laidOutB Try.prog = true := by kernel_rfl

section
variable {H : Type} {enc : TypeId × Value → H} {P : Program}

theorem all_stay (hl : laidOutB P = true) {W W' : World} (hb : Below W.heap.size W W') {sp : Nat → Bool} :
    ∀ (ts : List TypeId) (vs : List Value) (ds : List (DataW H)) (ps : List MemPlace), (∀ t ∈ ts, P.readableRec t = true ∧ t < P.types.size) →
      DataW.TrodAll enc P W 0 (fun _ => true) true ts vs ds ps → (∀ x ∈ ps, x.block < W.heap.size) → (∀ x ∈ ps, sp x.block = true) → DataW.TrodAll enc P W' 0 sp true ts vs ds ps
  | [], [], [], ps, _, h, _, _ => h
  | [], [], _ :: _, _, _, h, _, _ => h.elim
  | [], _ :: _, _, _, _, h, _, _ => h.elim
  | _ :: _, [], _, _, _, h, _, _ => h.elim
  | _ :: _, _ :: _, [], _, _, h, _, _ => h.elim
  | t :: ts, v :: vs, d :: ds, ps, hr, h, hlt, hsp => by
    obtain ⟨p, q, h1, h2, rfl⟩ := h
    have ht := hr t (by simp)
    refine ⟨p, q, WideElems.Trod_stays hl ht.1 ht.2 h1 (fun x hx => hb.same (hlt x (by simp [hx]))) (fun x hx => hsp x (by simp [hx])), ?_, rfl⟩
    exact all_stay hl hb ts vs ds q (fun t' ht' => hr t' (by simp [ht'])) h2 (fun x hx => hlt x (by simp [hx])) (fun x hx => hsp x (by simp [hx]))

theorem law_post {f : Func} {s : ChangeSpec} {apart fresh handsOn again : Bool} {W W' : World} {args : Array Value} {ds gs : List (DataW H)} {before : List MemPlace} {tb : TypeId}
    (hl : laidOutB P = true) (hts : ∀ t ∈ f.params.toList, P.readableRec t = true ∧ t < P.types.size) (hv : s.vars = [])
    (hW : DataW.Whole enc P f.params.toList s.vars apart W args.toList ds gs before)
    (hs : (s.fn H (ds ++ gs)).results = [.lit (.bool true)] ∧ (s.fn H (ds ++ gs)).args = ds ∧ (s.fn H (ds ++ gs)).vars = [])
    (hr : f.resultTypes = #[tb]) (htb : P.underlying tb = some .bool) (hb : Below W.heap.size W W') :
    s.post enc P f apart fresh handsOn again W args (.bool true) W' := by
  have hlt : ∀ p ∈ before, p.block < W.heap.size := fun p hp => hW.lt p hp
  have hW0 := hW
  obtain ⟨p, q, h1, h2, e, hz, hn⟩ := hW
  rw [hv] at h2
  cases gs with
  | cons _ _ => exact h2.elim
  | nil =>
    have hq : q = [] := h2
    subst hq
    simp only [List.append_nil] at e
    subst e
    have stay : ∀ sp : Nat → Bool, (∀ x ∈ before, sp x.block = true) → DataW.TrodAll enc P W' 0 sp true f.params.toList args.toList (s.fn H (ds ++ [])).args before :=
      fun sp hsp => by rw [hs.2.1]; exact all_stay hl hb _ _ _ _ hts h1 hlt hsp
    have vars : ∀ sp : Nat → Bool, DataW.TrodVars enc P W' sp s.vars (s.fn H (ds ++ [])).vars [] := fun sp => by rw [hs.2.2, hv]; rfl
    have res : ∀ (b : Nat) (sp : Nat → Bool) (hd : Bool), DataW.TrodAll enc P W' b sp hd f.resultTypes.toList ((Value.bool true).resultList f.resultTypes.size) (s.fn H (ds ++ [])).results [] := by
      intro b sp hd
      rw [hs.1, hr]
      exact trodAll_mk1 (shut_bool htb true)
    refine ⟨ds, [], before, [], before, [], hW0, res _ _ _, stay _ (fun x hx => by simpa using hlt x hx), vars _, ?_, fun _ => ?_⟩
    · exact World.keptBut_mono (fun x hx => ⟨hx, by simpa using hx⟩) (hb.frame (· ∈ before))
    · refine ⟨?_, _, _, ([] ++ before) ++ [], ⟨[] ++ before, [], trodAll_append (stay _ (fun _ _ => rfl)) (res _ _ _), vars _, rfl, ?_, ?_⟩, ?_⟩
      · exact ok_one hr rfl (okWide_bool_mk htb true)
      · intro b off hp
        have hin : MemPlace.cell b off ∈ before := by simpa using hp
        rw [hb.frozen (hlt _ hin)]
        exact hz b off hin
      · intro ha
        simpa using hn ha
      · intro x hx _
        simpa using hx
end
end Go.Proofs.Ytjkhdfncahhnoaa
/- An argument that is a list of whole numbers of one kind, opened. -/
namespace Go.Proofs.Ytjkhdfncahhnoaa
open Go.ChangeShapes Go.WideShapes Go.ChangeAt Go.RowKit
set_option maxRecDepth 100000
set_option linter.unusedVariables false
section
variable {H : Type} {enc : TypeId × Value → H} {P : Program} {W : World}
theorem nums_rd {k : IntKind} {a : Addr} {zs xs : List Int} {m : Nat} (hm : xs = zs.take m) (hc : ∀ i, i < m → W.cell? (a.add i) = some (.int k (zs.getD i 0))) : Rd (Value.int k) W W.heap.size (some a) xs := fun j x hx => by
  subst hm
  have hk : j < (zs.take m).length := (List.getElem?_eq_some_iff.1 hx).1
  have hkm : j < m := by rw [List.length_take] at hk; omega
  obtain ⟨b, off, spot⟩ := a
  have hs : spot = none := by simpa [Addr.add] using World.cell?_spot (hc 0 (by omega))
  subst hs
  have h := hc j hkm
  rw [Go.WideShapes.add_plain] at h
  have hz : zs.getD j 0 = x := by
    rw [List.getElem?_take_of_lt hkm] at hx
    simp [List.getD, hx]
  rw [hz] at h
  exact ⟨b, off, rfl, lt_of_cell h, h⟩
theorem open_nums {k : IntKind} {r : Reach} {t e : TypeId} {v : Value} {d : DataW H} {ps : List MemPlace} (ht : P.underlying t = some (.slice e)) (he : P.underlying e = some (.int k)) (hc : P.cellsOf e = 1) {b0 : Nat}
    (hval : Value.okWide P W r b0 t v) (hd : DataW.Trod enc P W 0 (fun _ => true) true t v d ps) :
    ∃ A xs c, v = .slice A xs.length c ∧ Rd (Value.int k) W W.heap.size A xs ∧ (∀ x ∈ xs, (Lit.int k x).wf = true) ∧ xs.length ≤ c ∧ c ≤ 9223372036854775807 := by
  obtain ⟨A, len, cap, rfl⟩ := okWide_slice ht hval
  obtain ⟨fuel, hf⟩ := hd
  rcases open_ints ht he hc hf with ⟨hcs, _⟩ | ⟨a, len', cap', zs, hcs, _, hl, hm, hz, _, hcell, hwz⟩
  · simp [Value.cells] at hcs
    obtain ⟨rfl, rfl, rfl⟩ := hcs
    exact ⟨none, [], 0, rfl, Rd.none_, by intro x hx; simp at hx, by simp, by omega⟩
  · simp [Value.cells] at hcs
    obtain ⟨rfl, rfl, rfl⟩ := hcs
    simp only [if_true] at hz
    have hlen : (zs.take len).length = len := by rw [List.length_take]; omega
    refine ⟨some a, zs.take len, cap, by rw [hlen], nums_rd rfl fun i hi => hcell i (by omega), fun x hx => hwz x (List.mem_of_mem_take hx), by omega, by unfold maxLen at hm; omega⟩
/-- .. and the datum that it reads as is as long. -/
theorem open_numsd {k : IntKind} {r : Reach} {t e : TypeId} {v : Value} {d : DataW H} {ps : List MemPlace} (ht : P.underlying t = some (.slice e)) (he : P.underlying e = some (.int k)) (hc : P.cellsOf e = 1) {b0 : Nat}
    (hval : Value.okWide P W r b0 t v) (hd : DataW.Trod enc P W 0 (fun _ => true) true t v d ps) :
    ∃ A xs c, v = .slice A xs.length c ∧ Rd (Value.int k) W W.heap.size A xs ∧ (∀ x ∈ xs, (Lit.int k x).wf = true) ∧ xs.length ≤ c ∧ c ≤ 9223372036854775807 ∧ (xs = [] ∨ ∃ es sp, d = .slice es sp ∧ es.length = xs.length) := by
  obtain ⟨A, xs, c, rfl, h1, h2, h3, h4⟩ := open_nums ht he hc hval hd
  refine ⟨A, xs, c, rfl, h1, h2, h3, h4, ?_⟩
  obtain ⟨fuel, hf⟩ := hd
  rcases open_ints ht he hc hf with ⟨hcs, _⟩ | ⟨a, len', cap', zs, hcs, _, hl, hm, hz, hx, _, _⟩
  · left
    simp [Value.cells] at hcs
    exact List.length_eq_zero_iff.1 (by rw [hcs.2.1]; rfl)
  · right
    simp [Value.cells] at hcs
    obtain ⟨rfl, e1, rfl⟩ := hcs
    simp only [if_true] at hz
    injection hx with hx _
    refine ⟨_, _, hx, ?_⟩
    rw [e1]
    simp [lits, List.length_take]
    omega
theorem U64.of_wf {a : Int} (h : (Lit.int .u64 a).wf = true) : U64 a := by
  simp [Lit.wf, IntKind.min, IntKind.max, IntKind.signed, IntKind.bits] at h
  unfold U64; omega
theorem U32.of_wf {a : Int} (h : (Lit.int .u32 a).wf = true) : 0 ≤ a ∧ a ≤ 4294967295 := by
  simp [Lit.wf, IntKind.min, IntKind.max, IntKind.signed, IntKind.bits] at h
  omega
end
end Go.Proofs.Ytjkhdfncahhnoaa
/- An argument that is a list of bools, opened. -/
namespace Go.Proofs.Ytjkhdfncahhnoaa
open Go.ChangeShapes Go.WideShapes Go.ChangeAt Go.RowKit
set_option maxRecDepth 100000
set_option linter.unusedVariables false
theorem cells_bool : Try.prog.cellsOf 4 = 1 := by kernel_rfl
section
variable {H : Type} {enc : TypeId × Value → H} {P : Program} {W : World}
theorem bools_rd {a : Addr} {B : Nat → Bool} {m : Nat} (hc : ∀ i, i < m → W.cell? (a.add i) = some (.bool (B i))) : Rd Value.bool W W.heap.size (some a) ((List.range m).map B) := fun j x hx => by
  have hk : j < ((List.range m).map B).length := (List.getElem?_eq_some_iff.1 hx).1
  have hkm : j < m := by simpa using hk
  obtain ⟨b, off, spot⟩ := a
  have hs : spot = none := by simpa [Addr.add] using World.cell?_spot (hc 0 (by omega))
  subst hs
  have h := hc j hkm
  rw [Go.WideShapes.add_plain] at h
  have hz : B j = x := by
    rw [List.getElem?_map, List.getElem?_range hkm] at hx
    exact Option.some.inj hx
  rw [hz] at h
  exact ⟨b, off, rfl, lt_of_cell h, h⟩
theorem open_bls {r : Reach} {t e : TypeId} {v : Value} {d : DataW H} {ps : List MemPlace} (ht : P.underlying t = some (.slice e)) (he : P.underlying e = some .bool) (hc : P.cellsOf e = 1) {b0 : Nat}
    (hval : Value.okWide P W r b0 t v) (hd : DataW.Trod enc P W 0 (fun _ => true) true t v d ps) :
    ∃ A xs c, v = .slice A xs.length c ∧ Rd Value.bool W W.heap.size A xs ∧ xs.length ≤ c ∧ c ≤ 9223372036854775807 := by
  obtain ⟨A, len, cap, rfl⟩ := okWide_slice ht hval
  obtain ⟨fuel, hf⟩ := hd
  rcases Deep.open_bools ht he hc hf with ⟨hcs, _⟩ | ⟨a, len', cap', B, hcs, _, hl, hm, _, hcell⟩
  · simp [Value.cells] at hcs
    obtain ⟨rfl, rfl, rfl⟩ := hcs
    exact ⟨none, [], 0, rfl, Rd.none_, by simp, by omega⟩
  · simp [Value.cells] at hcs
    obtain ⟨rfl, rfl, rfl⟩ := hcs
    have hlen : ((List.range len).map B).length = len := by simp
    exact ⟨some a, (List.range len).map B, cap, by rw [hlen], bools_rd fun i hi => hcell i (by omega), by omega, by unfold maxLen at hm; omega⟩
end
end Go.Proofs.Ytjkhdfncahhnoaa
