
/- Je: texts joined: FsB QuN QuO FsC. -/
import Derived.Test.YtbkoapdeglmopaaJd
import Derived.Test.YtbkoapdeglmopaaJFrB
import Derived.Test.YtbkoapdeglmopaaJQuB
/- Whether a vector may be, by the program: an outline, what is left, signs, levels, what its scheme names. -/
namespace Go.Proofs.Ytbkoapdeglmopaa
open Go.RowKit
set_option maxHeartbeats 400000
set_option maxRecDepth 100000
set_option linter.unusedVariables false
attribute [local go_sem] equal_eight
def outL (s : SentV) : List Int := [s.sch, s.dim, s.scale, s.wide, s.L.length, s.V.length, s.lev.length, s.neg.length]
def outV (s : SentV) : Value := .agg #[.int .i64 s.sch, .int .i64 s.dim, .int .i64 s.scale, .int .i64 s.wide, .int .i64 s.L.length, .int .i64 s.V.length, .int .i64 s.lev.length, .int .i64 s.neg.length]
def empB (s : SentV) : Bool := eqB (outL s) [0, 0, 0, 0, 0, 0, 0, 0]
theorem empB_iff {s : SentV} : empB s = true ↔ s.sch = 0 ∧ s.dim = 0 ∧ s.scale = 0 ∧ s.wide = 0 ∧ s.L = [] ∧ s.V = [] ∧ s.lev = [] ∧ s.neg = [] := by
  unfold empB eqB outL
  simp [List.length_eq_zero_iff]
theorem fs_outline (s : SentV) (p : SentP) (w : World) :
    Calls Try.prog 66 #[encT s p] w fun e w' => e = .returned (.agg #[.int .i64 s.sch, .int .i64 s.dim, .int .i64 s.scale, .int .i64 s.wide, .int .i64 s.L.length, .int .i64 s.V.length, .int .i64 s.lev.length, .int .i64 s.neg.length]) ∧ Below w.heap.size w w' := by
  go_enter Try.func66, Try.ntmps66
  go_wp2_with fail
  refine bodyPost_ret (v := .agg #[.int .i64 s.sch, .int .i64 s.dim, .int .i64 s.scale, .int .i64 s.wide, .int .i64 s.L.length, .int .i64 s.V.length, .int .i64 s.lev.length, .int .i64 s.neg.length]) (by simp [results, Try.results66, go_sem]) rfl ⟨rfl, by go_grown⟩
theorem fs_empty (s : SentV) (p : SentP) (w : World) :
    Calls Try.prog 44 #[encT s p] w fun e w' => e = .returned (.bool (empB s)) ∧ Below w.heap.size w w' := by
  have C1 := hid (fun W => fs_outline s p W)
  have C2 := hid (fun W => fs_outline zeroS zeroP W)
  have HE : Hid (∀ X, eqB (outL s) X = X.isEqv (outL s) (fun a b => a == b) ∨ True) := hid (fun _ => Or.inr trivial)
  obtain ⟨R, hR⟩ : ∃ R, empB s = R := ⟨_, rfl⟩
  have HR := hid hR
  rw [hR]
  clear hR HE
  go_enter Try.func44, Try.ntmps44
  go_wp2_with fail
  refine (C1.out _).mono ?_
  rintro _ w1 ⟨rfl, hb1⟩
  have k1 : Below w.heap.size w w1 := Below.trans (by go_grown) (hb1.mono (by simp))
  go_wp2_with fail
  refine (C2.out _).mono ?_
  rintro _ w2 ⟨rfl, hb2⟩
  have k2 := k1.trans (hb2.mono k1.size)
  go_wp2_with fail
  go_ret
  exact ⟨by rw [← HR.out]; rfl, k2⟩
theorem fs_rest0 (s : SentV) (p : SentP) (w : World) (hs : s.sch = 0) :
    Calls Try.prog 45 #[encT s p] w fun e w' => e = .returned (encT ⟨0, 0, s.L, [], s.scale, s.wide, s.lev, s.neg⟩ ⟨p.AL, p.cL, none, 0, p.AE, p.cE, p.AN, p.cN⟩) ∧ Below w.heap.size w w' := by
  go_enter Try.func45, Try.ntmps45
  go_wp2_with fail
  refine bodyPost_ret (v := encT ⟨0, 0, s.L, [], s.scale, s.wide, s.lev, s.neg⟩ ⟨p.AL, p.cL, none, 0, p.AE, p.cE, p.AN, p.cN⟩) (by simp [results, Try.results45, go_sem]) rfl ⟨rfl, by go_grown⟩
theorem fs_rest1 (s : SentV) (p : SentP) (w : World) (hs : s.sch = 1) :
    Calls Try.prog 45 #[encT s p] w fun e w' => e = .returned (encT ⟨0, 0, [], [], s.scale, s.wide, s.lev, s.neg⟩ ⟨none, 0, none, 0, p.AE, p.cE, p.AN, p.cN⟩) ∧ Below w.heap.size w w' := by
  go_enter Try.func45, Try.ntmps45
  go_wp2_with fail
  refine bodyPost_ret (v := encT ⟨0, 0, [], [], s.scale, s.wide, s.lev, s.neg⟩ ⟨none, 0, none, 0, p.AE, p.cE, p.AN, p.cN⟩) (by simp [results, Try.results45, go_sem]) rfl ⟨rfl, by go_grown⟩
theorem fs_rest2 (s : SentV) (p : SentP) (w : World) (hs : s.sch = 2) :
    Calls Try.prog 45 #[encT s p] w fun e w' => e = .returned (encT ⟨0, 0, s.L, s.V, 0, 0, [], []⟩ ⟨p.AL, p.cL, p.AV, p.cV, none, 0, none, 0⟩) ∧ Below w.heap.size w w' := by
  go_enter Try.func45, Try.ntmps45
  go_wp2_with fail
  refine bodyPost_ret (v := encT ⟨0, 0, s.L, s.V, 0, 0, [], []⟩ ⟨p.AL, p.cL, p.AV, p.cV, none, 0, none, 0⟩) (by simp [results, Try.results45, go_sem]) rfl ⟨rfl, by go_grown⟩
theorem fs_rest3 (s : SentV) (p : SentP) (w : World) (hs : s.sch = 3) :
    Calls Try.prog 45 #[encT s p] w fun e w' => e = .returned (encT ⟨0, 0, s.L, s.V, 0, s.wide, s.lev, []⟩ ⟨p.AL, p.cL, p.AV, p.cV, p.AE, p.cE, none, 0⟩) ∧ Below w.heap.size w w' := by
  go_enter Try.func45, Try.ntmps45
  go_wp2_with fail
  refine bodyPost_ret (v := encT ⟨0, 0, s.L, s.V, 0, s.wide, s.lev, []⟩ ⟨p.AL, p.cL, p.AV, p.cV, p.AE, p.cE, none, 0⟩) (by simp [results, Try.results45, go_sem]) rfl ⟨rfl, by go_grown⟩
def sgB (s : SentV) : Bool := decide (0 ≤ s.scale ∧ (s.neg.length : Int) = s.dim)
theorem fs_signs (s : SentV) (p : SentP) (w : World) :
    Calls Try.prog 64 #[encT s p] w fun e w' => e = .returned (.bool (sgB s)) ∧ Below w.heap.size w w' := by
  have HR : sgB s = true ↔ (0 ≤ s.scale ∧ (s.neg.length : Int) = s.dim) := by unfold sgB; rw [decide_eq_true_eq]
  obtain ⟨R, hR⟩ : ∃ R, sgB s = R := ⟨_, rfl⟩
  rw [hR] at HR ⊢
  have HR2 := hid HR
  clear hR HR
  go_enter Try.func64, Try.ntmps64
  go_wp2_with fail
  all_goals (go_ret; refine ⟨ret_of ?_, by go_grown⟩; rw [HR2.out]; first | (simp [*]; done) | (simp [*]; omega))
def lvB (s : SentV) : Bool := decide (1 ≤ s.wide ∧ s.wide ≤ 8 ∧ (s.lev.length : Int) = s.dim ∧ fitsB s.wide s.lev = true)
theorem width_lv {g : Nat} {wd x : Int} {w : World} (hc : w.cell? ⟨g, 5, none⟩ = some (.int .i64 wd)) (ux : U64 x) :
    Calls Try.prog 79 (#[.int .u64 x] ++ #[.pointer (some ⟨g, 0, none⟩)]) w fun e w' => e = .returned (.bool (decide (wd < (wdt x : Int)))) ∧ ∃ n, w' = w.drewN n := by
  have CW := hid (fun W => pl_Width x ux W)
  obtain ⟨z, hz⟩ : ∃ z, wdt x = z := ⟨_, rfl⟩
  rw [hz] at CW ⊢
  clear hz
  go_enter Try.func79, Try.ntmps79
  go_wp2_with fail
  go_quiet ((go_at_call 74; exact quietL CW.out _))
  go_wp2_with fail
  go_ret
  exact ⟨rfl, _, rfl⟩
theorem fs_levels (s : SentV) (p : SentP) (hn : lnS 100000 s) (ul : U64s s.lev) (w : World) {B : Nat} (hB : B ≤ w.heap.size) (ra : RdS w B s p) :
    Calls Try.prog 65 #[encT s p] w fun e w' => e = .returned (.bool (lvB s)) ∧ Below w.heap.size w w' := by
  have HR : lvB s = true ↔ (1 ≤ s.wide ∧ s.wide ≤ 8 ∧ (s.lev.length : Int) = s.dim ∧ fitsB s.wide s.lev = true) := by unfold lvB; rw [decide_eq_true_eq]
  obtain ⟨R, hR⟩ : ∃ R, lvB s = R := ⟨_, rfl⟩
  rw [hR] at HR ⊢
  have CC : Hid (∀ W, Below w.heap.size w W → W.cell? ⟨w.heap.size, 5, none⟩ = some (.int .i64 s.wide) → Calls Try.prog 72 #[.slice p.AE s.lev.length p.cE, .func (.func 79) #[] #[.pointer (some ⟨w.heap.size, 0, none⟩)]] W fun e w' => e = .returned (.bool (!fitsB s.wide s.lev)) ∧ ∃ n, w' = W.drewN n) := hid (fun W hb hc => by
    have h := contains_any (A := p.AE) (c := p.cE) 79 #[.pointer (some ⟨w.heap.size, 0, none⟩)] s.lev (by have := hn.2.2.1; omega) (fun x => decide (s.wide < (wdt x : Int))) W (cl_enter 79 (by kernel_rfl)) (ra.2.2.1.below (hb.mono hB)) (fun x hx n => width_lv (w := W.drewN n) hc (ul x hx))
    rw [any_fits] at h
    exact h)
  obtain ⟨v, hv⟩ : ∃ v, fitsB s.wide s.lev = v := ⟨_, rfl⟩
  rw [hv] at HR CC
  have HR2 := hid HR
  clear hR HR hv ra hn ul
  go_enter Try.func65, Try.ntmps65
  go_wp2_with fail
  any_goals (go_ret; refine ⟨ret_of ?_, by go_grown⟩; rw [HR2.out]; first | (simp [*]; done) | (simp [*]; omega))
  refine (CC.out _ (by go_grown) (by simp [go_sem])).mono ?_
  rintro _ _ ⟨rfl, n1, rfl⟩
  go_wp2_with fail
  go_ret
  refine ⟨ret_of ?_, Below.trans (by go_grown) (belowN _ _ _)⟩
  rw [HR2.out]
  first | (simp [*]; done) | (simp [*]; omega)
end Go.Proofs.Ytbkoapdeglmopaa
/- What is pressed to levels may be, is near, and is loosened to what is not far; what is sure; what is turned. Plain mathematics. No program in sight. -/
namespace Go.Proofs.Ytbkoapdeglmopaa
open Go.RowKit
set_option maxRecDepth 100000
set_option linter.unusedVariables false
theorem prqE_ok {v : List Int} {wide : Int} : prqE v wide = 0 ↔ stsE wide = 0 ∧ v ≠ [] ∧ mostE v = 0 := by
  unfold prqE
  by_cases h : stsE wide ≠ 0 ∨ v = []
  · rw [if_pos h]
    refine ⟨fun h2 => by omega, fun ⟨a, b, _⟩ => ?_⟩
    rcases h with h | h
    · exact absurd a h
    · exact absurd h b
  · rw [if_neg h]
    refine ⟨fun h2 => ⟨Classical.byContradiction fun h3 => h (.inl h3), fun h3 => h (.inr h3), h2⟩, fun ⟨_, _, c⟩ => c⟩
/-- What stands below a number, and whether anything is left, where nothing is wrong. -/
theorem lvl_is {x scale wide : Int} (h : lvlE x scale wide = 0) : lvlL x scale wide = szN x * topQ wide / scale.toNat ∧ lvlR x scale wide = szN x * topQ wide % scale.toNat ∧ szN x ≤ scale.toNat ∧ 1 ≤ topQ wide := by
  have h2 := lvlE_ok.1 h
  refine ⟨?_, ?_, by omega, (topQ_bd h2.1).1⟩
  · unfold lvlL lvQ; rw [if_pos h]
  · unfold lvlR rsQ; rw [if_pos h]
/-- A level that is pressed is the one below, or the one above where something is left; there is such a level. -/
theorem plQ_is {x scale wide : Int} {seed : Nat} {n : List Int} {i : Nat} (h : lvlE x scale wide = 0) :
    (plQ scale wide seed n i x = lvlL x scale wide ∨ (lvlR x scale wide ≠ 0 ∧ plQ scale wide seed n i x = lvlL x scale wide + 1)) ∧ plQ scale wide seed n i x ≤ topQ wide := by
  obtain ⟨a, b, c, d⟩ := lvl_is h
  have hle : lvlL x scale wide ≤ topQ wide := by
    have := lvQ_le c (topQ wide)
    unfold lvQ at this
    rw [a]
    exact this
  unfold plQ
  by_cases hc : 0 < lvlR x scale wide ∧ belV scale.toNat seed (n ++ [(i : Int)]) < lvlR x scale wide
  · rw [if_pos hc]
    refine ⟨.inr ⟨by omega, rfl⟩, ?_⟩
    have h0 : szN x * topQ wide % scale.toNat ≠ 0 := by rw [← b]; omega
    have hs : 0 < scale.toNat := by
      rcases Nat.eq_zero_or_pos scale.toNat with h1 | h1
      · exfalso
        rw [h1, Nat.mod_zero] at h0
        have : szN x = 0 := by omega
        rw [this] at h0
        simp at h0
      · exact h1
    have := qk_room c hs h0
    rw [a]
    exact this
  · rw [if_neg hc]
    exact ⟨.inl rfl, hle⟩
theorem wdt_top {l : Nat} {wide : Int} (hw : stsE wide = 0) (h : l ≤ topQ wide) : (wdt (l : Int) : Int) ≤ wide := by
  have hw2 := stsE_ok.1 hw
  have hb := topQ_bd hw
  have h2 := (bitLen_lt wide.toNat l (by omega) (by omega)).2 (by unfold topQ at h hb; omega)
  unfold wdt
  rw [Int.toNat_natCast]
  omega
theorem prq_parts {v : List Int} {wide : Int} {seed : Nat} {n : List Int} (h : prqE v wide = 0) : prqS v wide seed n = ⟨2, v.length, [], [], mostV v, wide, levQ v wide seed n v.length, negQ v v.length⟩ := if_pos h
theorem prq_lvl {v : List Int} {wide : Int} (h : prqE v wide = 0) {i : Nat} (hi : i < v.length) : lvlE (v.getD i 0) (mostV v) wide = 0 := by
  obtain ⟨h1, h2, h3⟩ := prqE_ok.1 h
  refine lvlE_most h3 h1 ?_
  rw [List.getD_eq_getElem?_getD, List.getElem?_eq_getElem hi, Option.getD_some]
  exact List.getElem_mem hi
theorem prq_may {v : List Int} {wide : Int} {seed : Nat} {n : List Int} (h : prqE v wide = 0) : mayB (prqS v wide seed n) = true := by
  obtain ⟨h1, h2, h3⟩ := prqE_ok.1 h
  obtain ⟨m1, m2, m3, m4, _⟩ := mostq_ok h3
  have hw := stsE_ok.1 h1
  have hl : 1 ≤ v.length := by
    rcases Nat.eq_zero_or_pos v.length with e | e
    · exact absurd (List.length_eq_zero_iff.1 e) h2
    · exact e
  rw [prq_parts h]
  refine mayB_iff.2 ⟨by show (1 : Int) ≤ v.length; omega, by show (v.length : Int) ≤ 4096; omega, .inr (.inr (.inl ⟨rfl, hw.1, hw.2, ?_, ?_, rfl, rfl, m2, ?_⟩))⟩
  · show ((levQ v wide seed n v.length).length : Int) = v.length
    rw [levQ_len]
  · show fitsB wide (levQ v wide seed n v.length) = true
    unfold fitsB levQ
    rw [List.all_map, List.all_eq_true]
    intro i hi
    have hi' := List.mem_range.1 hi
    exact decide_eq_true (wdt_top h1 (plQ_is (prq_lvl h hi')).2)
  · show ((negQ v v.length).length : Int) = v.length
    rw [negQ_len]
theorem levq_getD (v : List Int) (wide : Int) (seed : Nat) (n : List Int) {m i : Nat} (h : i < m) : (levQ v wide seed n m).getD i 0 = (plQ (mostV v) wide seed n i (v.getD i 0) : Int) := by
  rw [List.getD_eq_getElem?_getD, levQ_at v wide seed n h, Option.getD_some]
theorem negq_getD (v : List Int) {m i : Nat} (h : i < m) : (negQ v m).getD i false = decide (v.getD i 0 < 0) := by
  rw [List.getD_eq_getElem?_getD, negQ_at v h, Option.getD_some]
/-- What is pressed is near. -/
theorem prq_near {v : List Int} {wide : Int} {seed : Nat} {n : List Int} (h : prqE v wide = 0) : nearB v (prqS v wide seed n) = true := by
  have hm := prq_may (seed := seed) (n := n) h
  have hp := prq_parts (seed := seed) (n := n) h
  unfold nearB
  rw [Bool.and_eq_true]
  constructor
  · unfold nrHead
    rw [decide_eq_true_iff]
    refine ⟨(prqE_ok.1 h).2.2, hm, ?_, ?_, ?_⟩ <;> rw [hp]
  · unfold nrAll
    rw [List.all_eq_true]
    intro i hi
    have hi' := List.mem_range.1 hi
    rw [hp]
    show nrOne (v.getD i 0) (mostV v) wide ((levQ v wide seed n v.length).getD i 0) ((negQ v v.length).getD i false) = true
    rw [levq_getD v wide seed n hi', negq_getD v hi']
    unfold nrOne
    rw [Bool.and_eq_true]
    refine ⟨by simp, ?_⟩
    rcases (plQ_is (seed := seed) (n := n) (i := i) (prq_lvl h hi')).1 with e | ⟨e0, e⟩
    · rw [e]; simp
    · rw [e]
      have : (lvlR (v.getD i 0) (mostV v) wide != 0) = true := by simpa using e0
      rw [this]
      simp
/-- What it is loosened to. -/
theorem prq_loose {v : List Int} {wide : Int} {seed : Nat} {n : List Int} (h : prqE v wide = 0) :
    loqE (prqS v wide seed n) = 0 ∧ loqV (prqS v wide seed n) = loqL (prqS v wide seed n) v.length ∧
    ∀ i, i < v.length → loQ (prqS v wide seed n) i = if v.getD i 0 < 0 then -(vlQ (plQ (mostV v) wide seed n i (v.getD i 0)) (mostV v).toNat (topQ wide) : Int) else (vlQ (plQ (mostV v) wide seed n i (v.getD i 0)) (mostV v).toNat (topQ wide) : Int) := by
  have hm := prq_may (seed := seed) (n := n) h
  have hp := prq_parts (seed := seed) (n := n) h
  obtain ⟨h1, h2, h3⟩ := prqE_ok.1 h
  obtain ⟨m1, m2, m3, m4, _⟩ := mostq_ok h3
  have hE : loqE (prqS v wide seed n) = 0 := by
    unfold loqE
    rw [if_pos ⟨hm, by rw [hp]⟩]
  refine ⟨hE, ?_, fun i hi => ?_⟩
  · unfold loqV
    rw [if_pos hE, hp]
    show loqL _ (levQ v wide seed n v.length).length = _
    rw [levQ_len]
  · rw [hp]
    unfold loQ
    show (if (negQ v v.length).getD i false = true then -(valV ((levQ v wide seed n v.length).getD i 0).toNat (mostV v) wide : Int) else (valV ((levQ v wide seed n v.length).getD i 0).toNat (mostV v) wide : Int)) = _
    rw [negq_getD v hi, levq_getD v wide seed n hi, Int.toNat_natCast]
    have hv : valE (plQ (mostV v) wide seed n i (v.getD i 0)) (mostV v) wide = 0 := valE_ok.2 ⟨h1, m2, (plQ_is (prq_lvl h hi)).2⟩
    unfold valV
    rw [if_pos hv]
    by_cases hc : v.getD i 0 < 0
    · rw [if_pos (decide_eq_true hc), if_pos hc]
    · rw [if_neg (by simpa using hc), if_neg hc]
/-- It is not far: a number, its level's worth, and how far off this is. -/
theorem prq_off {v : List Int} {wide : Int} {seed : Nat} {n : List Int} (h : prqE v wide = 0) {i : Nat} (hi : i < v.length) {x : Int} (hx : loQ (prqS v wide seed n) i = x) :
    (v.getD i 0 - x).natAbs ≤ (mostV v).toNat / topQ wide + 1 ∧ ¬ (0 < x ∧ v.getD i 0 < 0) ∧ ¬ (x < 0 ∧ 0 < v.getD i 0) ∧ szN x ≤ (mostV v).toNat := by
  obtain ⟨a, b, c, d⟩ := lvl_is (prq_lvl h hi)
  obtain ⟨e, f⟩ := plQ_is (seed := seed) (n := n) (i := i) (prq_lvl h hi)
  have hl := (prq_loose (seed := seed) (n := n) h).2.2 i hi
  rw [hx] at hl
  obtain ⟨p, hp⟩ : ∃ p, plQ (mostV v) wide seed n i (v.getD i 0) = p := ⟨_, rfl⟩
  obtain ⟨y, hy⟩ : ∃ y, v.getD i 0 = y := ⟨_, rfl⟩
  rw [hy] at hp a b c e f hl ⊢
  rw [hp] at e f hl
  obtain ⟨s, hs⟩ : ∃ s, (mostV v).toNat = s := ⟨_, rfl⟩
  obtain ⟨t, ht⟩ : ∃ t, topQ wide = t := ⟨_, rfl⟩
  rw [hs, ht] at a b
  rw [hs] at c
  rw [ht] at d f
  rw [hs, ht] at hl ⊢
  have hV : vlQ p s t ≤ s := vlQ_le f
  have hz : szN y = y.natAbs := rfl
  have hO : vlQ p s t ≤ szN y + (s / t + 1) ∧ szN y ≤ vlQ p s t + (s / t + 1) := by
    rcases Nat.eq_zero_or_pos s with h0 | h0
    · have e0 : szN y = 0 := by omega
      have e1 : vlQ p s t = 0 := by omega
      rw [e0, e1]
      exact ⟨Nat.zero_le _, Nat.zero_le _⟩
    · unfold vlQ
      rcases e with e | ⟨_, e⟩
      · rw [e, a]
        have := qk_down (z := szN y) h0 (show 0 < t by omega)
        omega
      · rw [e, a]
        have := qk_up (z := szN y) h0 (show 0 < t by omega)
        omega
  obtain ⟨V, hVV⟩ : ∃ V, vlQ p s t = V := ⟨_, rfl⟩
  obtain ⟨D, hD⟩ : ∃ D, s / t = D := ⟨_, rfl⟩
  rw [hVV] at hl hV hO
  rw [hD] at hO ⊢
  have hzx : szN x = x.natAbs := rfl
  rw [hzx]
  rw [hz] at hO
  split at hl <;> subst hl <;> omega
end Go.Proofs.Ytbkoapdeglmopaa
/- What is sure of a vector that is pressed; vectors turned, and laid behind one another; steps of a scale. Plain mathematics. No program in sight. -/
namespace Go.Proofs.Ytbkoapdeglmopaa
open Go.RowKit
set_option maxRecDepth 100000
set_option linter.unusedVariables false
/-- Where nothing is left chance tells nothing. -/
theorem plQ_sure {x scale wide : Int} {seed : Nat} {n : List Int} {i : Nat} (h : lvlR x scale wide = 0) : plQ scale wide seed n i x = lvlL x scale wide := by
  unfold plQ
  rw [if_neg (by omega)]
/-- The greatest numbers, and 0, are themselves. -/
theorem prq_ends {v : List Int} {wide : Int} {seed : Nat} {n : List Int} (h : prqE v wide = 0) {i : Nat} (hi : i < v.length) (hy : v.getD i 0 = mostV v ∨ v.getD i 0 = -mostV v ∨ v.getD i 0 = 0) : loQ (prqS v wide seed n) i = v.getD i 0 := by
  obtain ⟨a, b, c, d⟩ := lvl_is (prq_lvl h hi)
  obtain ⟨h1, h2, h3⟩ := prqE_ok.1 h
  obtain ⟨m1, m2, m3, m4, _⟩ := mostq_ok h3
  rw [(prq_loose h).2.2 i hi]
  obtain ⟨y, hyy⟩ : ∃ y, v.getD i 0 = y := ⟨_, rfl⟩
  rw [hyy] at a b c hy ⊢
  obtain ⟨t, ht⟩ : ∃ t, topQ wide = t := ⟨_, rfl⟩
  rw [ht] at a b d ⊢
  have hsi : ((mostV v).toNat : Int) = mostV v := by omega
  obtain ⟨s, hs⟩ : ∃ s, (mostV v).toNat = s := ⟨_, rfl⟩
  rw [hs] at a b c hsi ⊢
  have hz : szN y = y.natAbs := rfl
  rcases Nat.eq_zero_or_pos s with h0 | h0
  · have e0 : y = 0 := by omega
    rw [e0, h0]
    unfold vlQ
    simp
  · by_cases hy0 : y = 0
    · have e0 : szN y = 0 := by omega
      rw [e0] at a b
      have e1 := qk_none s t
      rw [e1.1] at a
      rw [e1.2.1] at b
      rw [plQ_sure b, a, hy0]
      unfold vlQ
      simp
    · have e0 : szN y = s := by omega
      rw [e0] at a b
      have e1 := qk_all (s := s) (t := t) h0 (by omega)
      rw [e1.1] at a
      rw [e1.2.1] at b
      rw [plQ_sure b, a]
      unfold vlQ
      rw [e1.2.2]
      split <;> omega
/-- Whether sizes may be told: an error just where a number has none. -/
theorem mostE_is {v : List Int} (hl : v.length ≤ 4096) (uv : ∀ x ∈ v, I64 x) : mostE v = if ∀ x ∈ v, x ≠ -9223372036854775808 then 0 else 2 := by
  have e1 : mostE v = seqE (numA v) v.length := by unfold mostE; exact (un_ok (by omega) (numA v)).1
  have hk : ∀ k, (numA v k).2 = 0 ∨ (numA v k).2 = 2 := fun k => by
    show ckE (absI (v.getD k 0)) = 0 ∨ ckE (absI (v.getD k 0)) = 2
    unfold ckE
    split
    · exact .inl rfl
    · exact .inr rfl
  have h2 : ∀ n, seqE (numA v) n = 0 ∨ seqE (numA v) n = 2 := fun n => by
    induction n with
    | zero => exact .inl rfl
    | succ n ih =>
      show (if seqE (numA v) n = 0 then (numA v n).2 else seqE (numA v) n) = 0 ∨ (if seqE (numA v) n = 0 then (numA v n).2 else seqE (numA v) n) = 2
      split
      · exact hk n
      · exact ih
  rw [e1]
  have hone : ∀ x, I64 x → (I64 (absI x) ↔ x ≠ -9223372036854775808) := fun x hx => by
    unfold I64 at *
    unfold absI
    constructor
    · intro h e
      subst e
      rw [if_pos (by decide)] at h
      omega
    · intro h
      split <;> omega
  by_cases hc : ∀ x ∈ v, x ≠ -9223372036854775808
  · rw [if_pos hc]
    refine seqE_zero.2 fun k hk2 => ?_
    have hm : v.getD k 0 ∈ v := by
      rw [List.getD_eq_getElem?_getD, List.getElem?_eq_getElem hk2, Option.getD_some]
      exact List.getElem_mem hk2
    exact ckE_zero.2 ((hone _ (uv _ hm)).2 (hc _ hm))
  · rw [if_neg hc]
    rcases h2 v.length with h | h
    · exfalso
      refine hc fun x hx => ?_
      obtain ⟨k, hk2⟩ := List.mem_iff_getElem?.1 hx
      have hlt := (List.getElem?_eq_some_iff.1 hk2).1
      have h3 := ckE_zero.1 (seqE_zero.1 h k hlt)
      rw [getD_of hk2] at h3
      exact (hone x (uv x hx)).1 h3
    · exact h
/-- Vectors with the same sizes have the same greatest one. -/
theorem most_alike {v u : List Int} (hv : mostE v = 0) (hu : mostE u = 0) (h1 : ∀ x ∈ v, ∃ y ∈ u, szN y = szN x) (h2 : ∀ y ∈ u, ∃ x ∈ v, szN x = szN y) : mostV u = mostV v := by
  obtain ⟨_, a2, _, a4, a5⟩ := mostq_ok hv
  obtain ⟨_, b2, _, b4, b5⟩ := mostq_ok hu
  have c1 : mostV v ≤ mostV u := by
    rcases a5 with e | ⟨x, hx, e⟩
    · omega
    · obtain ⟨y, hy, e2⟩ := h1 x hx
      have := b4 y hy
      omega
  have c2 : mostV u ≤ mostV v := by
    rcases b5 with e | ⟨y, hy, e⟩
    · omega
    · obtain ⟨x, hx, e2⟩ := h2 y hy
      have := a4 x hx
      omega
  omega
theorem ngL_len (v : List Int) : (ngL v).length = v.length := by unfold ngL; simp
theorem ngL_mem {v : List Int} {y : Int} : y ∈ ngL v ↔ ∃ x ∈ v, ngW x = y := by unfold ngL; rw [List.mem_map]
theorem ngW_low {x : Int} (h : I64 x) : ngW x = -9223372036854775808 ↔ x = -9223372036854775808 := by
  unfold ngW wrap64
  unfold I64 at h
  constructor <;> intro e <;> omega
theorem ngL_getD {v : List Int} (i : Nat) : (ngL v).getD i 0 = ngW (v.getD i 0) := by
  unfold ngL
  exact getD_map (by unfold ngW wrap64; omega) v i
/-- Turned, and both together: the same error, the same scale. -/
theorem turn_most {v : List Int} (hl : v.length ≤ 200) (uv : ∀ x ∈ v, I64 x) :
    mostE (ngL v) = mostE v ∧ mostE (v ++ ngL v) = mostE v ∧ (mostE v = 0 → mostV (ngL v) = mostV v ∧ mostV (v ++ ngL v) = mostV v) := by
  have l1 := ngL_len v
  have u1 := ngL_i64 v
  have u2 : ∀ x ∈ v ++ ngL v, I64 x := fun x hx => by
    rcases List.mem_append.1 hx with h | h
    · exact uv x h
    · exact u1 x h
  have c1 : (∀ x ∈ ngL v, x ≠ -9223372036854775808) ↔ ∀ x ∈ v, x ≠ -9223372036854775808 := by
    constructor
    · intro h x hx e
      exact h (ngW x) (ngL_mem.2 ⟨x, hx, rfl⟩) ((ngW_low (uv x hx)).2 e)
    · intro h y hy e
      obtain ⟨x, hx, rfl⟩ := ngL_mem.1 hy
      exact h x hx ((ngW_low (uv x hx)).1 e)
  have c2 : (∀ x ∈ v ++ ngL v, x ≠ -9223372036854775808) ↔ ∀ x ∈ v, x ≠ -9223372036854775808 := by
    constructor
    · intro h x hx
      exact h x (List.mem_append_left _ hx)
    · intro h x hx
      rcases List.mem_append.1 hx with h3 | h3
      · exact h x h3
      · exact c1.2 h x h3
  have e0 := mostE_is (v := v) (by omega) uv
  have e1 := mostE_is (v := ngL v) (by omega) u1
  have e2 := mostE_is (v := v ++ ngL v) (by rw [List.length_append]; omega) u2
  have f1 : mostE (ngL v) = mostE v := by
    rw [e0, e1]
    by_cases h : ∀ x ∈ v, x ≠ -9223372036854775808
    · rw [if_pos h, if_pos (c1.2 h)]
    · rw [if_neg h, if_neg (fun h2 => h (c1.1 h2))]
  have f2 : mostE (v ++ ngL v) = mostE v := by
    rw [e0, e2]
    by_cases h : ∀ x ∈ v, x ≠ -9223372036854775808
    · rw [if_pos h, if_pos (c2.2 h)]
    · rw [if_neg h, if_neg (fun h2 => h (c2.1 h2))]
  refine ⟨f1, f2, fun h => ⟨?_, ?_⟩⟩
  · refine most_alike h (by rw [f1]; exact h) (fun x hx => ⟨ngW x, ngL_mem.2 ⟨x, hx, rfl⟩, ngW_sz (uv x hx)⟩) fun y hy => ?_
    obtain ⟨x, hx, rfl⟩ := ngL_mem.1 hy
    exact ⟨x, hx, (ngW_sz (uv x hx)).symm⟩
  · refine most_alike h (by rw [f2]; exact h) (fun x hx => ⟨x, List.mem_append_left _ hx, rfl⟩) fun y hy => ?_
    rcases List.mem_append.1 hy with h3 | h3
    · exact ⟨y, h3, rfl⟩
    · obtain ⟨x, hx, rfl⟩ := ngL_mem.1 h3
      exact ⟨x, hx, (ngW_sz (uv x hx)).symm⟩
/-- A level hangs on the size alone. -/
theorem lvl_size {x y scale wide : Int} (h : szN x = szN y) : lvlE x scale wide = lvlE y scale wide ∧ lvlL x scale wide = lvlL y scale wide ∧ lvlR x scale wide = lvlR y scale wide := by
  have e : lvlE x scale wide = lvlE y scale wide := by unfold lvlE; rw [h]
  refine ⟨e, ?_, ?_⟩
  · unfold lvlL; rw [e, h]
  · unfold lvlR; rw [e, h]
theorem plQ_size {x y scale wide : Int} {seed : Nat} {n : List Int} {i : Nat} (h : szN x = szN y) : plQ scale wide seed n i x = plQ scale wide seed n i y := by
  obtain ⟨_, a, b⟩ := lvl_size (scale := scale) (wide := wide) h
  unfold plQ
  rw [a, b]
/-- The three vectors pressed by the same seed: errors, scales, levels and signs. -/
theorem turn_all {v : List Int} (hl : v.length ≤ 200) (uv : ∀ x ∈ v, I64 x) (wide : Int) (seed : Nat) (n : List Int) :
    prqE (ngL v) wide = prqE v wide ∧ prqE (v ++ ngL v) wide = prqE v wide ∧ (prqE v wide = 0 →
      (prqS (ngL v) wide seed n).scale = (prqS v wide seed n).scale ∧ (prqS (v ++ ngL v) wide seed n).scale = (prqS v wide seed n).scale ∧
      (prqS v wide seed n).lev.length = v.length ∧ (prqS (ngL v) wide seed n).lev.length = v.length ∧ (prqS (v ++ ngL v) wide seed n).lev.length = 2 * v.length ∧
      (prqS v wide seed n).neg.length = v.length ∧ (prqS (ngL v) wide seed n).neg.length = v.length ∧ (prqS (v ++ ngL v) wide seed n).neg.length = 2 * v.length ∧
      ∀ i, i < v.length → (prqS (ngL v) wide seed n).lev.getD i 0 = (prqS v wide seed n).lev.getD i 0 ∧ (prqS (v ++ ngL v) wide seed n).lev.getD i 0 = (prqS v wide seed n).lev.getD i 0 ∧
        (prqS (v ++ ngL v) wide seed n).neg.getD i false = (prqS v wide seed n).neg.getD i false ∧ (v.getD i 0 ≠ 0 → (prqS (ngL v) wide seed n).neg.getD i false ≠ (prqS v wide seed n).neg.getD i false)) := by
  obtain ⟨f1, f2, f3⟩ := turn_most hl uv
  have l1 := ngL_len v
  have l2 : (v ++ ngL v).length = 2 * v.length := by rw [List.length_append, l1]; omega
  have n1 : ngL v = [] ↔ v = [] := by unfold ngL; exact List.map_eq_nil_iff
  have n2 : v ++ ngL v = [] ↔ v = [] := by rw [List.append_eq_nil_iff, n1]; exact and_self_iff
  have g1 : prqE (ngL v) wide = prqE v wide := by
    unfold prqE
    rw [f1]
    by_cases h : v = []
    · rw [if_pos (.inr (n1.2 h)), if_pos (.inr h)]
    · by_cases h4 : stsE wide ≠ 0
      · rw [if_pos (.inl h4), if_pos (.inl h4)]
      · rw [if_neg (by rintro (h5 | h5); exact h4 h5; exact h (n1.1 h5)), if_neg (by rintro (h5 | h5); exact h4 h5; exact h h5)]
  have g2 : prqE (v ++ ngL v) wide = prqE v wide := by
    unfold prqE
    rw [f2]
    by_cases h : v = []
    · rw [if_pos (.inr (n2.2 h)), if_pos (.inr h)]
    · by_cases h4 : stsE wide ≠ 0
      · rw [if_pos (.inl h4), if_pos (.inl h4)]
      · rw [if_neg (by rintro (h5 | h5); exact h4 h5; exact h (n2.1 h5)), if_neg (by rintro (h5 | h5); exact h4 h5; exact h h5)]
  refine ⟨g1, g2, fun h => ?_⟩
  have hE := (prqE_ok.1 h).2.2
  obtain ⟨s1, s2⟩ := f3 hE
  have p0 := prq_parts (seed := seed) (n := n) h
  have p1 := prq_parts (v := ngL v) (seed := seed) (n := n) (by rw [g1]; exact h)
  have p2 := prq_parts (v := v ++ ngL v) (seed := seed) (n := n) (by rw [g2]; exact h)
  rw [p0, p1, p2]
  refine ⟨s1, s2, levQ_len _ _ _ _ _, by show (levQ (ngL v) wide seed n (ngL v).length).length = _; rw [levQ_len, l1], by show (levQ (v ++ ngL v) wide seed n (v ++ ngL v).length).length = _; rw [levQ_len, l2], negQ_len _ _, by show (negQ (ngL v) (ngL v).length).length = _; rw [negQ_len, l1], by show (negQ (v ++ ngL v) (v ++ ngL v).length).length = _; rw [negQ_len, l2], fun i hi => ?_⟩
  show (levQ (ngL v) wide seed n (ngL v).length).getD i 0 = (levQ v wide seed n v.length).getD i 0 ∧ (levQ (v ++ ngL v) wide seed n (v ++ ngL v).length).getD i 0 = (levQ v wide seed n v.length).getD i 0 ∧ (negQ (v ++ ngL v) (v ++ ngL v).length).getD i false = (negQ v v.length).getD i false ∧ (v.getD i 0 ≠ 0 → (negQ (ngL v) (ngL v).length).getD i false ≠ (negQ v v.length).getD i false)
  have hap : (v ++ ngL v).getD i 0 = v.getD i 0 := by rw [List.getD_eq_getElem?_getD, List.getElem?_append_left hi, ← List.getD_eq_getElem?_getD]
  have hm : v.getD i 0 ∈ v := by
    rw [List.getD_eq_getElem?_getD, List.getElem?_eq_getElem hi, Option.getD_some]
    exact List.getElem_mem hi
  rw [levq_getD v wide seed n hi, levq_getD (ngL v) wide seed n (by omega), levq_getD (v ++ ngL v) wide seed n (by omega), negq_getD v hi, negq_getD (ngL v) (by omega), negq_getD (v ++ ngL v) (by omega), s1, s2, hap, ngL_getD]
  have hx := uv _ hm
  have hne : v.getD i 0 ≠ -9223372036854775808 := by
    have := mostE_is (v := v) (by omega) uv
    rw [hE] at this
    by_cases hc : ∀ x ∈ v, x ≠ -9223372036854775808
    · exact hc _ hm
    · rw [if_neg hc] at this
      cases this
  obtain ⟨y, hy⟩ : ∃ y, v.getD i 0 = y := ⟨_, rfl⟩
  rw [hy] at hx hne ⊢
  refine ⟨by rw [plQ_size (ngW_sz hx)], rfl, rfl, fun h0 e => ?_⟩
  have e2 : (ngW y < 0) ↔ y < 0 := decide_eq_decide.1 e
  unfold ngW wrap64 at e2
  unfold I64 at hx
  omega
end Go.Proofs.Ytbkoapdeglmopaa
/- Whether a vector may be, by the program. -/
namespace Go.Proofs.Ytbkoapdeglmopaa
open Go.RowKit
set_option maxHeartbeats 400000
set_option maxRecDepth 100000
set_option linter.unusedVariables false
def namP (s : SentV) : Prop := (s.sch = 0 ∧ (s.V.length : Int) = s.dim) ∨ (s.sch = 1 ∧ chkE s.dim s.L = 0 ∧ s.V.length = s.L.length) ∨ (s.sch = 2 ∧ sgB s = true ∧ lvB s = true) ∨ (s.sch = 3 ∧ sgB s = true)
instance (s : SentV) : Decidable (namP s) := by unfold namP; infer_instance
def namB (s : SentV) : Bool := decide (namP s)
theorem namB_iff {s : SentV} : namB s = true ↔ namP s := by unfold namB; exact decide_eq_true_iff
theorem boxT_new (w : World) (s : SentV) (p : SentP) (t : TypeId) : BoxL (w.alloc (.cells #[.int .i64 s.sch, .int .i64 s.dim, .slice p.AL s.L.length p.cL, .slice p.AV s.V.length p.cV, .int .i64 s.scale, .int .i64 s.wide, .slice p.AE s.lev.length p.cE, .slice p.AN s.neg.length p.cN] t)) w.heap.size
    [.int .i64 s.sch, .int .i64 s.dim, .slice p.AL s.L.length p.cL, .slice p.AV s.V.length p.cV, .int .i64 s.scale, .int .i64 s.wide, .slice p.AE s.lev.length p.cE, .slice p.AN s.neg.length p.cN] := BoxL.new w _ t
theorem fs_named0 (s : SentV) (p : SentP) (w : World) (hs : s.sch = 0) :
    Calls Try.prog 43 #[encT s p] w fun e w' => e = .returned (.bool (namB s)) ∧ Below w.heap.size w w' := by
  have HR : namB s = true ↔ (s.V.length : Int) = s.dim := by rw [namB_iff]; unfold namP; simp [hs]
  obtain ⟨R, hR⟩ : ∃ R, namB s = R := ⟨_, rfl⟩
  rw [hR] at HR ⊢
  have HR2 := hid HR
  clear hR HR
  go_enter Try.func43, Try.ntmps43
  go_wp2_with fail
  all_goals (go_ret; refine ⟨ret_of ?_, by go_grown⟩; rw [HR2.out]; first | (simp [*]; done) | (simp [*]; omega))
theorem fs_named1 (s : SentV) (p : SentP) (hn : lnS 100000 s) (hd : I64 s.dim) (w : World) (ra : RdS w w.heap.size s p) (hs : s.sch = 1) :
    Calls Try.prog 43 #[encT s p] w fun e w' => e = .returned (.bool (namB s)) ∧ Below w.heap.size w w' := by
  have HR : namB s = true ↔ (chkE s.dim s.L = 0 ∧ s.V.length = s.L.length) := by rw [namB_iff]; unfold namP; simp [hs]
  have C := hid (fun W (h : Below w.heap.size w W) => ix_Check (A := p.AL) (c := p.cL) s.dim s.L hd (by have := hn.1; omega) W ((ra.1.below h).more h.size))
  obtain ⟨R, hR⟩ : ∃ R, namB s = R := ⟨_, rfl⟩
  rw [hR] at HR ⊢
  obtain ⟨E, hE⟩ : ∃ E, chkE s.dim s.L = E := ⟨_, rfl⟩
  rw [hE] at HR C
  have HR2 := hid HR
  have HB0 := hid (boxT_new w s p 37)
  clear hR HR hE ra hn hd
  have g0 : (s.sch == 0) = false := by rw [hs]; rfl
  have g1 : (s.sch == 1) = true := by rw [hs]; rfl
  clear hs
  go_enter Try.func43, Try.ntmps43
  go_wp2_with fail
  refine (C.out _ (by go_grown)).mono ?_
  rintro _ w1 ⟨rfl, hb1⟩
  have k1 : Below w.heap.size w w1 := Below.trans (by go_grown) (hb1.mono (by simp))
  have HB1 := hid (HB0.out.below hb1 (by simp))
  obtain ⟨⟨c0, c1, c2, c3, c4, c5, c6, c7⟩, _⟩ := HB1.out.eight
  clear hb1 HB0
  go_wp2_with fail
  all_goals (go_ret; refine ⟨ret_of ?_, k1⟩; rw [HR2.out]; first | (simp [*]; done) | (simp [*]; omega))
theorem fs_named2 (s : SentV) (p : SentP) (hn : lnS 100000 s) (ul : U64s s.lev) (w : World) (ra : RdS w w.heap.size s p) (hs : s.sch = 2) :
    Calls Try.prog 43 #[encT s p] w fun e w' => e = .returned (.bool (namB s)) ∧ Below w.heap.size w w' := by
  have HR : namB s = true ↔ (sgB s = true ∧ lvB s = true) := by rw [namB_iff]; unfold namP; simp [hs]
  have C := hid (fun W => fs_signs s p W)
  have D := hid (fun W (h : Below w.heap.size w W) => fs_levels s p hn ul W h.size (ra.below h))
  obtain ⟨R, hR⟩ : ∃ R, namB s = R := ⟨_, rfl⟩
  rw [hR] at HR ⊢
  obtain ⟨v1, h1⟩ : ∃ E, sgB s = E := ⟨_, rfl⟩
  rw [h1] at HR C
  obtain ⟨v2, h2⟩ : ∃ E, lvB s = E := ⟨_, rfl⟩
  rw [h2] at HR D
  have HR2 := hid HR
  have HB0 := hid (boxT_new w s p 37)
  clear hR HR h1 h2 ra hn ul
  have g0 : (s.sch == 0) = false := by rw [hs]; rfl
  have g1 : (s.sch == 1) = false := by rw [hs]; rfl
  have g2 : (s.sch == 2) = true := by rw [hs]; rfl
  clear hs
  go_enter Try.func43, Try.ntmps43
  go_wp2_with fail
  refine (C.out _).mono ?_
  rintro _ w1 ⟨rfl, hb1⟩
  have k1 : Below w.heap.size w w1 := Below.trans (by go_grown) (hb1.mono (by simp))
  have HB1 := hid (HB0.out.below hb1 (by simp))
  obtain ⟨⟨c0, c1, c2, c3, c4, c5, c6, c7⟩, _⟩ := HB1.out.eight
  clear hb1 HB0
  cases v1 with
  | false =>
    go_wp2_with fail
    go_ret
    exact ⟨ret_of (by rw [HR2.out]; simp), k1⟩
  | true =>
    go_wp2_with fail
    refine (D.out _ k1).mono ?_
    rintro _ w2 ⟨rfl, hb2⟩
    go_wp2_with fail
    go_ret
    exact ⟨ret_of (by rw [HR2.out]; simp), k1.trans (hb2.mono k1.size)⟩
theorem fs_named3 (s : SentV) (p : SentP) (w : World) (hs : s.sch = 3) :
    Calls Try.prog 43 #[encT s p] w fun e w' => e = .returned (.bool (namB s)) ∧ Below w.heap.size w w' := by
  have HR : namB s = true ↔ (sgB s = true) := by rw [namB_iff]; unfold namP; simp [hs]
  have C := hid (fun W => fs_signs s p W)
  obtain ⟨R, hR⟩ : ∃ R, namB s = R := ⟨_, rfl⟩
  rw [hR] at HR ⊢
  obtain ⟨v1, h1⟩ : ∃ E, sgB s = E := ⟨_, rfl⟩
  rw [h1] at HR C
  have HR2 := hid HR
  clear hR HR h1
  have g0 : (s.sch == 0) = false := by rw [hs]; rfl
  have g1 : (s.sch == 1) = false := by rw [hs]; rfl
  have g2 : (s.sch == 2) = false := by rw [hs]; rfl
  have g3 : (s.sch == 3) = true := by rw [hs]; rfl
  clear hs
  go_enter Try.func43, Try.ntmps43
  go_wp2_with fail
  refine (C.out _).mono ?_
  rintro _ w1 ⟨rfl, hb1⟩
  have k1 : Below w.heap.size w w1 := Below.trans (by go_grown) (hb1.mono (by simp))
  go_wp2_with fail
  go_ret
  exact ⟨ret_of (by rw [HR2.out]), k1⟩
theorem fs_namedX (s : SentV) (p : SentP) (w : World) (h0 : s.sch ≠ 0) (h1 : s.sch ≠ 1) (h2 : s.sch ≠ 2) (h3 : s.sch ≠ 3) :
    Calls Try.prog 43 #[encT s p] w fun e w' => e = .returned (.bool (namB s)) ∧ Below w.heap.size w w' := by
  have hR : namB s = false := decide_eq_false (by unfold namP; simp [h0, h1, h2, h3])
  rw [hR]
  clear hR
  go_enter Try.func43, Try.ntmps43
  go_wp2_with fail
  go_ret
  exact ⟨rfl, by go_grown⟩
theorem fs_named (s : SentV) (p : SentP) (hn : lnS 100000 s) (hw : wfS s) (w : World) (ra : RdS w w.heap.size s p) :
    Calls Try.prog 43 #[encT s p] w fun e w' => e = .returned (.bool (namB s)) ∧ Below w.heap.size w w' := by
  by_cases h0 : s.sch = 0
  · exact fs_named0 s p w h0
  · by_cases h1 : s.sch = 1
    · exact fs_named1 s p hn hw.2.1 w ra h1
    · by_cases h2 : s.sch = 2
      · exact fs_named2 s p hn hw.2.2.2.2.2.2 w ra h2
      · by_cases h3 : s.sch = 3
        · exact fs_named3 s p w h3
        · exact fs_namedX s p w h0 h1 h2 h3
theorem may_named {s : SentV} (h : mayP s) : namP s := by
  obtain ⟨h1, h2, h⟩ := h
  unfold namP sgB lvB
  rcases h with h | h | h | h
  · exact Or.inl ⟨h.1, h.2.2.1⟩
  · exact Or.inr (Or.inl ⟨h.1, h.2.1, h.2.2.1⟩)
  · exact Or.inr (Or.inr (Or.inl ⟨h.1, by simp [h.2.2.2.2.2.2.2.1, h.2.2.2.2.2.2.2.2], by simp [h.2.1, h.2.2.1, h.2.2.2.1, h.2.2.2.2.1]⟩))
  · exact Or.inr (Or.inr (Or.inr ⟨h.1, by simp [h.2.2.2.2.2.1, h.2.2.2.2.2.2]⟩))
/-- What is asked at the end, for any way that is left. -/
theorem fs_MayK (s t : SentV) (p q : SentP) (hn : lnS 100000 s) (hw : wfS s) (w : World) (ra : RdS w w.heap.size s p) (h1 : 1 ≤ s.dim) (h2 : s.dim ≤ 4096)
    (CR : ∀ W : World, Calls Try.prog 45 #[encT s p] W fun e w' => e = .returned (encT t q) ∧ Below W.heap.size W w') (hM : mayB s = true ↔ (namB s = true ∧ empB t = true)) :
    Calls Try.prog 26 #[encT s p] w fun e w' => e = .returned (.bool (mayB s)) ∧ Below w.heap.size w w' := by
  have C := hid (fun W (h : Below w.heap.size w W) => fs_named s p hn hw W ((ra.below h).more h.size))
  have D := hid CR
  have E := hid (fun W => fs_empty t q W)
  obtain ⟨R, hR⟩ : ∃ R, mayB s = R := ⟨_, rfl⟩
  rw [hR] at hM ⊢
  obtain ⟨v1, e1⟩ : ∃ E, namB s = E := ⟨_, rfl⟩
  rw [e1] at hM C
  obtain ⟨v2, e2⟩ : ∃ E, empB t = E := ⟨_, rfl⟩
  rw [e2] at hM E
  have HR2 := hid hM
  have HB0 := hid (boxT_new w s p 37)
  clear hR hM e1 e2 ra hn hw CR
  go_enter Try.func26, Try.ntmps26
  go_wp2_with fail
  refine (C.out _ (by go_grown)).mono ?_
  rintro _ w1 ⟨rfl, hb1⟩
  have k1 : Below w.heap.size w w1 := Below.trans (by go_grown) (hb1.mono (by simp))
  have HB1 := hid (HB0.out.below hb1 (by simp))
  obtain ⟨⟨c0, c1, c2, c3, c4, c5, c6, c7⟩, _⟩ := HB1.out.eight
  clear hb1 HB0
  cases v1 with
  | false =>
    go_wp2_with fail
    go_ret
    exact ⟨ret_of (by rw [HR2.out]; simp), k1⟩
  | true =>
    go_wp2_with fail
    refine (D.out _).mono ?_
    rintro _ w2 ⟨rfl, hb2⟩
    have k2 := k1.trans (hb2.mono k1.size)
    clear c0 c1 c2 c3 c4 c5 c6 c7
    go_wp2_with fail
    refine (E.out _).mono ?_
    rintro _ w3 ⟨rfl, hb3⟩
    have k3 := k2.trans (hb3.mono k2.size)
    go_wp2_with fail
    go_ret
    exact ⟨ret_of (by rw [HR2.out]; simp), k3⟩
theorem fs_MayD (s : SentV) (p : SentP) (w : World) (h : s.dim < 1 ∨ 4096 < s.dim) :
    Calls Try.prog 26 #[encT s p] w fun e w' => e = .returned (.bool (mayB s)) ∧ Below w.heap.size w w' := by
  have HR : mayB s = false := mayB_no (fun h2 => by have h3 := h2.1; have h4 := h2.2.1; omega)
  rw [HR]
  clear HR
  rcases h with h | h
  · go_enter Try.func26, Try.ntmps26
    go_wp2_with fail
    all_goals (go_ret; exact ⟨rfl, by go_grown⟩)
  · go_enter Try.func26, Try.ntmps26
    go_wp2_with fail
    all_goals (go_ret; exact ⟨rfl, by go_grown⟩)
theorem fs_May (s : SentV) (p : SentP) (hn : lnS 100000 s) (hw : wfS s) (w : World) (ra : RdS w w.heap.size s p) :
    Calls Try.prog 26 #[encT s p] w fun e w' => e = .returned (.bool (mayB s)) ∧ Below w.heap.size w w' := by
  by_cases hd : 1 ≤ s.dim ∧ s.dim ≤ 4096
  · by_cases h0 : s.sch = 0
    · refine fs_MayK s _ p _ hn hw w ra hd.1 hd.2 (fun W => fs_rest0 s p W h0) ?_
      rw [mayB_iff, namB_iff, empB_iff]; unfold mayP namP sgB lvB
      simp [h0, hd.1, hd.2]
      constructor
      · rintro ⟨a, b, c, d, e, f⟩; exact ⟨b, e, c, a, d, f⟩
      · rintro ⟨b, e, c, a, d, f⟩; exact ⟨a, b, c, d, e, f⟩
    · by_cases h1 : s.sch = 1
      · refine fs_MayK s _ p _ hn hw w ra hd.1 hd.2 (fun W => fs_rest1 s p W h1) ?_
        rw [mayB_iff, namB_iff, empB_iff]; unfold mayP namP sgB lvB
        simp [h1, hd.1, hd.2]
        constructor
        · rintro ⟨a, b, c, d, e, f⟩; exact ⟨⟨a, b⟩, e, c, d, f⟩
        · rintro ⟨⟨a, b⟩, e, c, d, f⟩; exact ⟨a, b, c, d, e, f⟩
      · by_cases h2 : s.sch = 2
        · refine fs_MayK s _ p _ hn hw w ra hd.1 hd.2 (fun W => fs_rest2 s p W h2) ?_
          rw [mayB_iff, namB_iff, empB_iff]; unfold mayP namP sgB lvB
          simp [h2, hd.1, hd.2]
          constructor
          · rintro ⟨a, b, c, d, e, f, g, h⟩; exact ⟨⟨⟨g, h⟩, a, b, c, d⟩, e, f⟩
          · rintro ⟨⟨⟨g, h⟩, a, b, c, d⟩, e, f⟩; exact ⟨a, b, c, d, e, f, g, h⟩
        · by_cases h3 : s.sch = 3
          · refine fs_MayK s _ p _ hn hw w ra hd.1 hd.2 (fun W => fs_rest3 s p W h3) ?_
            rw [mayB_iff, namB_iff, empB_iff]; unfold mayP namP sgB lvB
            simp [h3, hd.1, hd.2]
            constructor
            · rintro ⟨a, b, c, d, e, f⟩; exact ⟨⟨e, f⟩, c, a, b, d⟩
            · rintro ⟨⟨e, f⟩, c, a, b, d⟩; exact ⟨a, b, c, d, e, f⟩
          · have hN : namB s = false := decide_eq_false (by unfold namP; simp [h0, h1, h2, h3])
            have hM : mayB s = false := mayB_no (fun h => by have := may_named h; unfold namB at hN; rw [decide_eq_false_iff_not] at hN; exact hN this)
            have C := hid (fun W (h : Below w.heap.size w W) => fs_named s p hn hw W ((ra.below h).more h.size))
            rw [hN] at C
            rw [hM]
            obtain ⟨hd1, hd2⟩ := hd
            clear hN hM h0 h1 h2 h3 ra hn hw
            go_enter Try.func26, Try.ntmps26
            go_wp2_with fail
            refine (C.out _ (by go_grown)).mono ?_
            rintro _ w1 ⟨rfl, hb1⟩
            have k1 : Below w.heap.size w w1 := Below.trans (by go_grown) (hb1.mono (by simp))
            go_wp2_with fail
            go_ret
            exact ⟨rfl, k1⟩
  · exact fs_MayD s p w (by omega)
end Go.Proofs.Ytbkoapdeglmopaa
