
/- Ff: texts joined: FsB HpG HpH TkP TkQ TkF. -/
import Derived.Test.YtjkhdfncahhnoaaGreatFe
import Derived.Test.YtjkhdfncahhnoaaGreatFFrB
import Derived.Test.YtjkhdfncahhnoaaGreatFIxQ
import Derived.Test.YtjkhdfncahhnoaaGreatFPlR
import Derived.Test.YtjkhdfncahhnoaaGreatFHpF
import Derived.Test.YtjkhdfncahhnoaaGreatFc
import Derived.Test.YtjkhdfncahhnoaaGreatFIxP
import Derived.Test.YtjkhdfncahhnoaaGreatFd
import Derived.Test.YtjkhdfncahhnoaaGreatFTkC
import Derived.Test.YtjkhdfncahhnoaaGreatFb
/- Whether a vector may be, by the program: an outline, what is left, signs, levels, what its scheme names. -/
namespace Go.Proofs.YtjkhdfncahhnoaaGreat
open Go.RowKit
set_option maxHeartbeats 400000
set_option maxRecDepth 100000
set_option linter.unusedVariables false
attribute [local go_sem] equal_eight
def outL (s : SentV) : List Int := [s.sch, s.dim, s.scale, s.wide, s.L.length, s.V.length, s.lev.length, s.neg.length]
def outV (s : SentV) : Value := .agg #[.int .i64 s.sch, .int .i64 s.dim, .int .i64 s.scale, .int .i64 s.wide, .int .i64 s.L.length, .int .i64 s.V.length, .int .i64 s.lev.length, .int .i64 s.neg.length]
def empB (s : SentV) : Bool := eqB (outL s) [0, 0, 0, 0, 0, 0, 0, 0]
theorem empB_iff {s : SentV} : empB s = true ↔ s.sch = 0 ∧ s.dim = 0 ∧ s.scale = 0 ∧ s.wide = 0 ∧ s.L = [] ∧ s.V = [] ∧ s.lev = [] ∧ s.neg = [] := by
  unfold empB eqB outL
  simp [List.length_eq_zero_iff]
theorem fs_outline (s : SentV) (p : SentP) (w : World) :
    Calls Tryz.prog 52 #[encT s p] w fun e w' => e = .returned (.agg #[.int .i64 s.sch, .int .i64 s.dim, .int .i64 s.scale, .int .i64 s.wide, .int .i64 s.L.length, .int .i64 s.V.length, .int .i64 s.lev.length, .int .i64 s.neg.length]) ∧ Below w.heap.size w w' := by
  go_enter Tryz.func52, Tryz.ntmps52
  go_wp2_with fail
  refine bodyPost_ret (v := .agg #[.int .i64 s.sch, .int .i64 s.dim, .int .i64 s.scale, .int .i64 s.wide, .int .i64 s.L.length, .int .i64 s.V.length, .int .i64 s.lev.length, .int .i64 s.neg.length]) (by simp [results, Tryz.results52, go_sem]) rfl ⟨rfl, by go_grown⟩
theorem fs_empty (s : SentV) (p : SentP) (w : World) :
    Calls Tryz.prog 24 #[encT s p] w fun e w' => e = .returned (.bool (empB s)) ∧ Below w.heap.size w w' := by
  have C1 := hid (fun W => fs_outline s p W)
  have C2 := hid (fun W => fs_outline zeroS zeroP W)
  have HE : Hid (∀ X, eqB (outL s) X = X.isEqv (outL s) (fun a b => a == b) ∨ True) := hid (fun _ => Or.inr trivial)
  obtain ⟨R, hR⟩ : ∃ R, empB s = R := ⟨_, rfl⟩
  have HR := hid hR
  rw [hR]
  clear hR HE
  go_enter Tryz.func24, Tryz.ntmps24
  go_wp2_with fail
  refine (C1.out _).mono ?_
  rintro _ w1 ⟨rfl, hb1⟩
  have k1 : Below w.heap.size w w1 := Below.trans (by go_grown) (hb1.mono (by simp))
  go_wp2_with fail
  refine (C2.out _).mono ?_
  rintro _ w2 ⟨rfl, hb2⟩
  have k2 := k1.trans (hb2.mono k1.size)
  go_wp2_with fail
  go_ret
  exact ⟨by rw [← HR.out]; rfl, k2⟩
theorem fs_rest0 (s : SentV) (p : SentP) (w : World) (hs : s.sch = 0) :
    Calls Tryz.prog 25 #[encT s p] w fun e w' => e = .returned (encT ⟨0, 0, s.L, [], s.scale, s.wide, s.lev, s.neg⟩ ⟨p.AL, p.cL, none, 0, p.AE, p.cE, p.AN, p.cN⟩) ∧ Below w.heap.size w w' := by
  go_enter Tryz.func25, Tryz.ntmps25
  go_wp2_with fail
  refine bodyPost_ret (v := encT ⟨0, 0, s.L, [], s.scale, s.wide, s.lev, s.neg⟩ ⟨p.AL, p.cL, none, 0, p.AE, p.cE, p.AN, p.cN⟩) (by simp [results, Tryz.results25, go_sem]) rfl ⟨rfl, by go_grown⟩
theorem fs_rest1 (s : SentV) (p : SentP) (w : World) (hs : s.sch = 1) :
    Calls Tryz.prog 25 #[encT s p] w fun e w' => e = .returned (encT ⟨0, 0, [], [], s.scale, s.wide, s.lev, s.neg⟩ ⟨none, 0, none, 0, p.AE, p.cE, p.AN, p.cN⟩) ∧ Below w.heap.size w w' := by
  go_enter Tryz.func25, Tryz.ntmps25
  go_wp2_with fail
  refine bodyPost_ret (v := encT ⟨0, 0, [], [], s.scale, s.wide, s.lev, s.neg⟩ ⟨none, 0, none, 0, p.AE, p.cE, p.AN, p.cN⟩) (by simp [results, Tryz.results25, go_sem]) rfl ⟨rfl, by go_grown⟩
theorem fs_rest2 (s : SentV) (p : SentP) (w : World) (hs : s.sch = 2) :
    Calls Tryz.prog 25 #[encT s p] w fun e w' => e = .returned (encT ⟨0, 0, s.L, s.V, 0, 0, [], []⟩ ⟨p.AL, p.cL, p.AV, p.cV, none, 0, none, 0⟩) ∧ Below w.heap.size w w' := by
  go_enter Tryz.func25, Tryz.ntmps25
  go_wp2_with fail
  refine bodyPost_ret (v := encT ⟨0, 0, s.L, s.V, 0, 0, [], []⟩ ⟨p.AL, p.cL, p.AV, p.cV, none, 0, none, 0⟩) (by simp [results, Tryz.results25, go_sem]) rfl ⟨rfl, by go_grown⟩
theorem fs_rest3 (s : SentV) (p : SentP) (w : World) (hs : s.sch = 3) :
    Calls Tryz.prog 25 #[encT s p] w fun e w' => e = .returned (encT ⟨0, 0, s.L, s.V, 0, s.wide, s.lev, []⟩ ⟨p.AL, p.cL, p.AV, p.cV, p.AE, p.cE, none, 0⟩) ∧ Below w.heap.size w w' := by
  go_enter Tryz.func25, Tryz.ntmps25
  go_wp2_with fail
  refine bodyPost_ret (v := encT ⟨0, 0, s.L, s.V, 0, s.wide, s.lev, []⟩ ⟨p.AL, p.cL, p.AV, p.cV, p.AE, p.cE, none, 0⟩) (by simp [results, Tryz.results25, go_sem]) rfl ⟨rfl, by go_grown⟩
def sgB (s : SentV) : Bool := decide (0 ≤ s.scale ∧ (s.neg.length : Int) = s.dim)
theorem fs_signs (s : SentV) (p : SentP) (w : World) :
    Calls Tryz.prog 50 #[encT s p] w fun e w' => e = .returned (.bool (sgB s)) ∧ Below w.heap.size w w' := by
  have HR : sgB s = true ↔ (0 ≤ s.scale ∧ (s.neg.length : Int) = s.dim) := by unfold sgB; rw [decide_eq_true_eq]
  obtain ⟨R, hR⟩ : ∃ R, sgB s = R := ⟨_, rfl⟩
  rw [hR] at HR ⊢
  have HR2 := hid HR
  clear hR HR
  go_enter Tryz.func50, Tryz.ntmps50
  go_wp2_with fail
  all_goals (go_ret; refine ⟨ret_of ?_, by go_grown⟩; rw [HR2.out]; first | (simp [*]; done) | (simp [*]; omega))
def lvB (s : SentV) : Bool := decide (1 ≤ s.wide ∧ s.wide ≤ 8 ∧ (s.lev.length : Int) = s.dim ∧ fitsB s.wide s.lev = true)
theorem width_lv {g : Nat} {wd x : Int} {w : World} (hc : w.cell? ⟨g, 5, none⟩ = some (.int .i64 wd)) (ux : U64 x) :
    Calls Tryz.prog 75 (#[.int .u64 x] ++ #[.pointer (some ⟨g, 0, none⟩)]) w fun e w' => e = .returned (.bool (decide (wd < (wdt x : Int)))) ∧ ∃ n, w' = w.drewN n := by
  have CW := hid (fun W => pl_Width x ux W)
  obtain ⟨z, hz⟩ : ∃ z, wdt x = z := ⟨_, rfl⟩
  rw [hz] at CW ⊢
  clear hz
  go_enter Tryz.func75, Tryz.ntmps75
  go_wp2_with fail
  go_quiet ((go_at_call 76; exact quietL CW.out _))
  go_wp2_with fail
  go_ret
  exact ⟨rfl, _, rfl⟩
theorem fs_levels (s : SentV) (p : SentP) (hn : lnS 100000 s) (ul : U64s s.lev) (w : World) {B : Nat} (hB : B ≤ w.heap.size) (ra : RdS w B s p) :
    Calls Tryz.prog 51 #[encT s p] w fun e w' => e = .returned (.bool (lvB s)) ∧ Below w.heap.size w w' := by
  have HR : lvB s = true ↔ (1 ≤ s.wide ∧ s.wide ≤ 8 ∧ (s.lev.length : Int) = s.dim ∧ fitsB s.wide s.lev = true) := by unfold lvB; rw [decide_eq_true_eq]
  obtain ⟨R, hR⟩ : ∃ R, lvB s = R := ⟨_, rfl⟩
  rw [hR] at HR ⊢
  have CC : Hid (∀ W, Below w.heap.size w W → W.cell? ⟨w.heap.size, 5, none⟩ = some (.int .i64 s.wide) → Calls Tryz.prog 74 #[.slice p.AE s.lev.length p.cE, .func (.func 75) #[] #[.pointer (some ⟨w.heap.size, 0, none⟩)]] W fun e w' => e = .returned (.bool (!fitsB s.wide s.lev)) ∧ ∃ n, w' = W.drewN n) := hid (fun W hb hc => by
    have h := contains_any (A := p.AE) (c := p.cE) 75 #[.pointer (some ⟨w.heap.size, 0, none⟩)] s.lev (by have := hn.2.2.1; omega) (fun x => decide (s.wide < (wdt x : Int))) W (cl_enter 75 (by kernel_rfl)) (ra.2.2.1.below (hb.mono hB)) (fun x hx n => width_lv (w := W.drewN n) hc (ul x hx))
    rw [any_fits] at h
    exact h)
  obtain ⟨v, hv⟩ : ∃ v, fitsB s.wide s.lev = v := ⟨_, rfl⟩
  rw [hv] at HR CC
  have HR2 := hid HR
  clear hR HR hv ra hn ul
  go_enter Tryz.func51, Tryz.ntmps51
  go_wp2_with fail
  any_goals (go_ret; refine ⟨ret_of ?_, by go_grown⟩; rw [HR2.out]; first | (simp [*]; done) | (simp [*]; omega))
  refine (CC.out _ (by go_grown) (by simp [go_sem])).mono ?_
  rintro _ _ ⟨rfl, n1, rfl⟩
  go_wp2_with fail
  go_ret
  refine ⟨ret_of ?_, Below.trans (by go_grown) (belowN _ _ _)⟩
  rw [HR2.out]
  first | (simp [*]; done) | (simp [*]; omega)
end Go.Proofs.YtjkhdfncahhnoaaGreat
/- The greatest numbers, on a heap; their places. -/
namespace Go.Proofs.YtjkhdfncahhnoaaGreat
open Go.RowKit
set_option maxHeartbeats 400000
set_option maxRecDepth 100000
set_option linter.unusedVariables false
theorem hp_size (n : Int) (hn : I64 n) (w : World) : Calls Tryz.prog 33 #[.int .i64 n] w fun e w' => e = .returned (.int .u64 (szN n : Int)) ∧ w = w' := by
  unfold I64 at hn
  have hs : Hid (n < 0 → (szN n : Int) = -n) := hid (fun h => by unfold szN; omega)
  have hp : Hid (¬ n < 0 → (szN n : Int) = n) := hid (fun h => by unfold szN; omega)
  obtain ⟨z, hz⟩ : ∃ z, (szN n : Int) = z := ⟨_, rfl⟩
  rw [hz] at hs hp ⊢
  clear hz
  by_cases h : n < 0
  · rw [hs.out h]
    have e1 : IntKind.u64.wrap n = n + 18446744073709551616 := by rw [IntKind.wrap_u64]; omega
    have e2 : IntKind.u64.wrap (-(n + 18446744073709551616)) = -n := by rw [IntKind.wrap_u64]; omega
    clear hs hp
    go_enter Tryz.func33, Tryz.ntmps33
    go_wp2_with fail
    go_ret
    exact ⟨by first | rfl | (simp <;> omega), rfl⟩
  · rw [hp.out h]
    have e1 : IntKind.u64.wrap n = n := by rw [IntKind.wrap_u64]; omega
    clear hs hp
    go_enter Tryz.func33, Tryz.ntmps33
    go_wp2_with fail
    go_ret
    exact ⟨by first | rfl | (simp <;> omega), rfl⟩
theorem hp_check {A : Option Addr} {c : Nat} (k : Int) (v : List Int) (w : World) : Calls Tryz.prog 29 #[.int .i64 k, .slice A v.length c] w fun e w' => e = .returned (.int .i64 (pikE v k)) ∧ w = w' := by
  by_cases h1 : 4096 < v.length
  · have e : pikE v k = 3 := by unfold pikE orkE; rw [if_pos h1, if_pos (by decide)]
    rw [e]
    have h1' : (v.length : Int) > 4096 := by omega
    clear e
    go_enter Tryz.func29, Tryz.ntmps29
    go_wp2_with fail
    go_ret
    exact ⟨rfl, rfl⟩
  · have h1' : ¬ (v.length : Int) > 4096 := by omega
    by_cases h2 : k < 0
    · have e : pikE v k = 1 := by unfold pikE orkE; rw [if_neg h1, if_neg (by decide), if_pos (.inl h2)]
      rw [e]
      clear e
      go_enter Tryz.func29, Tryz.ntmps29
      go_wp2_with fail
      go_ret
      exact ⟨rfl, rfl⟩
    · by_cases h3 : k > (v.length : Int)
      · have e : pikE v k = 1 := by unfold pikE orkE; rw [if_neg h1, if_neg (by decide), if_pos (.inr h3)]
        rw [e]
        clear e
        go_enter Tryz.func29, Tryz.ntmps29
        go_wp2_with fail
        go_ret
        exact ⟨rfl, rfl⟩
      · have e : pikE v k = 0 := pikE_ok.2 (by omega)
        rw [e]
        clear e
        go_enter Tryz.func29, Tryz.ntmps29
        go_wp2_with fail
        go_ret
        exact ⟨rfl, rfl⟩
theorem run_roomE (c : Nat) (hc : c ≤ 100000) (w : World) : (Instr.makeSlice 70 (.int .i64 0) (.int .i64 (c : Int))).run Tryz.prog w = .ok (.slice (some ⟨w.heap.size, 0, none⟩) 0 c) (w.alloc (.cells (madeCells #[.int .i64 0, .int .u64 0] (c * 2)) 93)) := by
  obtain ⟨i, hi, hzz⟩ := Option.map_eq_some_iff.1 info_ent
  simp only [Prod.mk.injEq] at hzz
  obtain ⟨hz, hs, hb⟩ := hzz
  have h : ((i.bytes * c : Nat) : Int) ≤ 281474976710656 := by rw [hb]; omega
  have hr := run_make (P := Tryz.prog) w 70 93 i _ (by kernel_rfl) hi hz .i64 .i64 0 c (Int.le_refl _) (by omega) (by rwa [Int.natCast_mul] at h) (by omega)
  simp only [Int.toNat_natCast, hs, Int.toNat_zero] at hr
  exact hr
theorem own_roomE (w : World) (c : Nat) (hc : c ≤ 100000) : RwE (w.alloc (.cells (madeCells #[.int .i64 0, .int .u64 0] (c * 2)) 93)) w.heap.size w.heap.size c #[] := by
  have h := World.ownsRow_made (e := 93) (size := 2) (base := w.heap.size) w (madeCells #[.int .i64 0, .int .u64 0] (c * 2)) c (Nat.le_refl _) (by unfold maxLen; omega) (by rw [size_madeCells])
  exact h
/-- A row of entries that is a heap, told. -/
def OwnHp (B : Nat) (l : List (Nat × Nat)) (w : World) (e : Ending) (w' : World) : Prop :=
  ∃ g cap d, e = .returned (.slice (some ⟨g, 0, none⟩) d.size cap) ∧ d.toList.Perm l ∧ HpOk d d.size ∧ RwE w' B g cap d ∧ Below B w w'
set_option maxHeartbeats 2000000 in
theorem hp_greatest {A : Option Addr} {c : Nat} (k : Nat) (v : List Int) (uv : ∀ x ∈ v, I64 x) (hl : v.length ≤ 4096) (hk : k ≤ v.length) (w : World) (ra : Rd (Value.int .i64) w w.heap.size A v) :
    Calls Tryz.prog 30 #[.int .i64 (k : Int), .slice A v.length c] w (OwnHp w.heap.size (ctn v v.length k) w) := by
  have HA := hid ra
  have UV := hid uv
  have hmk : ∀ W, (Instr.makeSlice 70 (.int .i64 0) (.int .i64 ((k : Int) + 1))).run Tryz.prog W = .ok (.slice (some ⟨W.heap.size, 0, none⟩) 0 (k + 1)) (W.alloc (.cells (madeCells #[.int .i64 0, .int .u64 0] ((k + 1) * 2)) 93)) := fun W => by
    have := run_roomE (k + 1) (by omega) W
    rwa [show ((k + 1 : Nat) : Int) = (k : Int) + 1 by omega] at this
  have HRO := hid (own_roomE w (k + 1) (by omega))
  have HC0 := hid (ctn_zero v k)
  have HCL := hid (fun m (hm : m ≤ v.length) => ctn_len (v := v) (m := m) (k := k) hm)
  have HCM := hid (fun m (hm : m < v.length) (h : m < k) => ctn_more (v := v) hm h)
  have HCF := hid (fun m (hm : m < v.length) (h : k ≤ m) (x : Nat × Nat) (l : List (Nat × Nat)) => ctn_full (v := v) hm h (x := x) (l := l))
  clear ra uv
  go_enter Tryz.func30, Tryz.ntmps30
  go_wp2_with fail
  obtain ⟨w1, hw1⟩ : ∃ w1, w.alloc (.cells (madeCells #[.int .i64 0, .int .u64 0] ((k + 1) * 2)) 93) = w1 := ⟨_, rfl⟩
  have k1 : Below w.heap.size w w1 := by rw [← hw1]; exact (Below.refl _ _).alloc (Nat.le_refl _) _
  have s1 : w1.heap.size = w.heap.size + 1 := by rw [← hw1]; simp
  rw [hw1] at HRO ⊢
  obtain ⟨w2, hw2⟩ : ∃ w2, w1.alloc (.cells #[.slice (some ⟨w.heap.size, 0, none⟩) 0 (k + 1)] 70) = w2 := ⟨_, rfl⟩
  have k2 : Below w1.heap.size w1 w2 := by rw [← hw2]; exact (Below.refl _ _).alloc (Nat.le_refl _) _
  have s2 : w2.heap.size = w.heap.size + 2 := by rw [← hw2]; simp <;> omega
  have b2 : w2.cell? ⟨w.heap.size + 1, 0, none⟩ = some (.slice (some ⟨w.heap.size, 0, none⟩) 0 (k + 1)) := by rw [← hw2, ← s1]; simp
  have f2 : w2.frozen? ⟨w.heap.size + 1, 0, none⟩ = false := by rw [← hw2, ← s1]; simp
  have hP2 : HeapAt w2 w.heap.size (w.heap.size + 1) #[] w.heap.size (k + 1) := ⟨fun i _ h => by simp at h, b2, f2, HRO.out.on k2, by omega⟩
  have HB2 : Hid (Below w.heap.size w w2 ∧ w2.heap.size = w.heap.size + 2) := hid ⟨k1.trans (k2.mono k1.size), s2⟩
  have HP2 := hid hP2
  have HW2 := hid hw2
  clear hP2 b2 f2 k2 s2 hw2 hmk hw1 k1 s1 HRO
  rw [HW2.out]
  clear HW2
  obtain ⟨N, hN⟩ : ∃ N, w.heap.size = N := ⟨_, rfl⟩
  have HN := hid hN
  rw [hN] at HB2 HP2 ⊢
  clear hN
  go_loopw [13] (fun i wr => ∃ (m : Nat) (d : Array (Nat × Nat)) (g cap : Nat), i = .int .i64 (m : Int) ∧ Hid (m ≤ v.length ∧ d.toList.Perm (ctn v m k) ∧ HeapAt wr N (N + 1) d g cap ∧ Below N w wr ∧ N + 2 ≤ wr.heap.size)) (fun i _ => v.length - (intOf i).toNat)
  case atStart => exact ⟨0, #[], N, k + 1, rfl, hid ⟨by omega, by rw [HC0.out], HP2.out, HB2.out.1, by have := HB2.out.2; omega⟩⟩
  case round =>
    clear HP2 HB2
    obtain ⟨m, d, g, cap, rfl, hh⟩ := hrel
    have hm := hh.out.1
    have hds : d.size = min m k := by
      have := hh.out.2.1.length_eq
      rw [HCL.out m hm] at this
      simpa using this
    have HDS := hid hds
    have bx := hh.out.2.2.1.2.1
    have bf := hh.out.2.2.1.2.2.1
    have hbel := hh.out.2.2.2.1
    have hsz := hh.out.2.2.2.2
    have hd9 : d.size < 100000 := by omega
    by_cases hlt : m < v.length
    · obtain ⟨b1, o1, x, rfl, l1, ex, d1⟩ := (HA.out.below (by rw [HN.out]; exact hbel)).at_ hlt
      have CZ := hid (hp_size x (UV.out x (List.mem_of_getElem? ex)) wr)
      have HE : Hid (ent v m = (m, szN x)) := hid (by unfold ent; rw [getD_of ex])
      obtain ⟨z, hz⟩ : ∃ z, szN x = z := ⟨_, rfl⟩
      rw [hz] at CZ HE
      have CP := hid (hp_PushH d m z hd9 wr hh.out.2.2.1 (by omega))
      have hb1 : b1 < wr.heap.size := by rw [HN.out] at l1; omega
      clear ex hz hds hbel
      go_wp2_with fail
      refine CZ.out.mono ?_
      rintro _ _ ⟨rfl, rfl⟩
      go_wp2_with fail
      refine CP.out.mono ?_
      rintro _ w3 ⟨rfl, g3, cap3, d3, hs3, hp3, hh3, ho3, hg3⟩
      have HS3 := hid hs3
      have HP3 := hid hp3
      have HH3 := hid hh3
      have HB3 : Hid (Below N w w3) := hid (hh.out.2.2.2.1.trans (ho3.below (by omega) (by have := (hh.out.2.2.1.2.2.2.1).parts; obtain ⟨_, h, _⟩ := this; exact h) (by omega)))
      have HZ3 : Hid (N + 2 ≤ w3.heap.size) := hid (Nat.le_trans hsz ho3.size)
      have b3 := hh3.2.1
      have f3 := hh3.2.2.1
      have HPE : Hid (d3.toList.Perm (ctn v m k ++ [ent v m])) := hid (by
        rw [HE.out]
        exact hp3.trans (List.Perm.append_right _ hh.out.2.1))
      clear hs3 hp3 hh3 ho3 hg3 bx bf CP CZ
      by_cases hmk : m < k
      · have hgt : ¬ ((d3.size : Int) > (k : Int)) := by have := HS3.out; have := HDS.out; omega
        go_wp2_with fail
        refine (hp_Len w3).mono ?_
        rintro _ _ ⟨rfl, rfl⟩
        go_wp2_with fail
        go_roundw
        case rel => exact ⟨m + 1, d3, g3, cap3, by go_num, hid ⟨by omega, by rw [HCM.out m hlt hmk]; exact HPE.out, HH3.out, HB3.out, HZ3.out⟩⟩
        case measure => simp [intOf]; omega
      · have hgt : (d3.size : Int) > (k : Int) := by have := HS3.out; have := HDS.out; omega
        have CO := hid (hp_PopH (n := k) d3 (by have := HS3.out; have := HDS.out; omega) (by have := HS3.out; have := HDS.out; omega) w3 HH3.out)
        go_wp2_with fail
        refine (hp_Len w3).mono ?_
        rintro _ _ ⟨rfl, rfl⟩
        go_wp2_with fail
        refine CO.out.mono ?_
        rintro _ w4 ⟨y1, y2, d4, rfl, hs4, hp4, hy4, hh4, ho4⟩
        have HH4 := hid hh4
        have HP4 := hid (HCF.out m hlt (by omega) (y1, y2) d4.toList (hp4.trans HPE.out) hy4)
        have HB4 : Hid (Below N w w4) := hid (HB3.out.trans (ho4.below (by omega) (by have := (HH3.out.2.2.2.1).parts; obtain ⟨_, h, _⟩ := this; exact h) (by have := HZ3.out; omega)))
        have HZ4 : Hid (N + 2 ≤ w4.heap.size) := hid (Nat.le_trans HZ3.out ho4.size)
        clear hs4 hp4 hy4 hh4 ho4 CO b3 f3
        go_wp2_with fail
        go_roundw
        case rel => exact ⟨m + 1, d4, g3, cap3, by go_num, hid ⟨by omega, HP4.out, HH4.out, HB4.out, HZ4.out⟩⟩
        case measure => simp [intOf]; omega
    · obtain rfl : m = v.length := by omega
      clear hds
      go_wp2_with fail
      go_ret
      have e := HN.out
      subst e
      exact ⟨g, cap, d, rfl, hh.out.2.1, hh.out.2.2.1.1, hh.out.2.2.1.2.2.2.1, hh.out.2.2.2.1⟩
end Go.Proofs.YtjkhdfncahhnoaaGreat
/- The places of all that stand on the heap; what is picked. -/
namespace Go.Proofs.YtjkhdfncahhnoaaGreat
open Go.RowKit
set_option maxHeartbeats 400000
set_option maxRecDepth 100000
set_option linter.unusedVariables false
/-- A slice's length. -/
def lenV : Value → Nat | .slice _ n _ => n | _ => 0
/-- Memory of the call's own stays where two blocks below it alone turn. -/
theorem own_otr {w w' : World} {x y base n c : Nat} {e : TypeId} {A : Option Addr} {vs : List Value} (h : w.ownsRow base e 1 (.slice A n c) n vs) (ho : Otr x y w w') (hx : x < base) (hy : y < base) : w'.ownsRow base e 1 (.slice A n c) n vs := by
  refine ⟨h.1, ?_⟩
  rcases h.2 with hn | ⟨g, cap, cur, hv, hg, hh, r⟩
  · exact .inl hn
  · exact .inr ⟨g, cap, cur, hv, hg, (ho.block g (Array.getElem?_eq_some_iff.1 hh).1 (by omega) (by omega)).trans hh, r⟩
theorem otr_of_below {x y B : Nat} {w0 w w' : World} (h0 : Otr x y w0 w) (h : Below B w w') (hB : w0.heap.size ≤ B) (hw : B ≤ w.heap.size) : Otr x y w0 w' :=
  ⟨h.os.trans h0.os, h.tape.trans h0.tape, h.output.trans h0.output, Nat.le_trans h0.size h.size, fun k hk h1 h2 => (h.block k (by omega)).trans (h0.block k hk h1 h2)⟩
set_option maxHeartbeats 2000000 in
theorem hp_places {B bp g cap : Nat} (d0 : Array (Nat × Nat)) (hl : d0.size ≤ 5000) (w : World) (h : HeapAt w B bp d0 g cap) :
    Calls Tryz.prog 31 #[.pointer (some ⟨bp, 0, none⟩)] w fun e w' => ∃ (L : List Int) (A : Option Addr) (c : Nat), e = .returned (.slice A L.length c) ∧ w'.ownsRow w.heap.size 3 1 (.slice A L.length c) L.length (L.map (Value.int .i64)) ∧ L.Perm (d0.toList.map fun x => (x.1 : Int)) ∧ Otr bp g w w' := by
  have b0 := h.2.1
  have f0 := h.2.2.1
  have hmk := fun W => run_room (P := Tryz.prog) 25 3 (.int .i64 0) 8 Tryz.underlying25 info_int rfl d0.size (by omega) (by omega) W
  have hO := own_room w 3 (.int .i64 0) d0.size (by unfold maxLen; omega) (Nat.le_refl _)
  have hlt := h.2.lt
  have hgt := h.2.2.2.1.lt
  have hta : ∀ (x1 x2 : Nat) (w : World), (Instr.typeAssert (.iface 93 (.agg #[.int .i64 (x1 : Int), .int .u64 (x2 : Int)])) 20 93 false).run Tryz.prog w = .ok (.agg #[.int .i64 (x1 : Int), .int .u64 (x2 : Int)]) w := fun _ _ _ => by kernel_rfl
  have H := hid h
  clear h
  go_enter Tryz.func31, Tryz.ntmps31
  go_wp2_with fail
  refine (hp_Len w).mono ?_
  rintro _ _ ⟨rfl, rfl⟩
  go_wp2_with fail
  obtain ⟨w1, hw1⟩ : ∃ w1, w.alloc (.cells (madeCells #[.int .i64 0] d0.size) 3) = w1 := ⟨_, rfl⟩
  have k1 : Below w.heap.size w w1 := by rw [← hw1]; exact (Below.refl _ _).alloc (Nat.le_refl _) _
  rw [hw1] at hO ⊢
  have HO := hid hO
  have HK1 := hid k1
  clear hw1 hO k1 hmk b0 f0
  obtain ⟨N, hN⟩ : ∃ N, w.heap.size = N := ⟨_, rfl⟩
  rw [hN] at HO hlt hgt ⊢
  have HN := hid hN
  clear hN
  go_loopw [3] (fun s wr => ∃ (L : List Int) (A2 : Option Addr) (c2 : Nat) (d : Array (Nat × Nat)), s = .slice A2 L.length c2 ∧ Hid (wr.ownsRow N 3 1 (.slice A2 L.length c2) L.length (L.map (Value.int .i64)) ∧ (L ++ d.toList.map fun x => (x.1 : Int)).Perm (d0.toList.map fun x => (x.1 : Int)) ∧ HeapAt wr B bp d g cap ∧ Otr bp g w wr ∧ L.length + d.size = d0.size ∧ N ≤ wr.heap.size)) (fun s _ => d0.size - lenV s)
  case atStart => exact ⟨[], some ⟨N, 0, none⟩, d0.size, d0, rfl, hid ⟨HO.out, by simp, ⟨H.out.1, H.out.2.on HK1.out⟩, Otr.of_below HK1.out, by simp, by have := HK1.out.size; have := HN.out; omega⟩⟩
  case round =>
    clear HO HK1 H
    obtain ⟨L, A2, c2, d, rfl, hh⟩ := hrel
    have bx := hh.out.2.2.1.2.1
    have bf := hh.out.2.2.1.2.2.1
    have hLd := hh.out.2.2.2.2.1
    by_cases h0 : d.size = 0
    · have hgt0 : ¬ ((d.size : Int) > 0) := by omega
      go_wp2_with fail
      refine (hp_Len wr).mono ?_
      rintro _ _ ⟨rfl, rfl⟩
      go_wp2_with fail
      go_ret
      have hd : d.toList = [] := by rw [← List.length_eq_zero_iff]; simpa using h0
      have e := HN.out
      subst e
      refine ⟨L, A2, c2, rfl, hh.out.1, ?_, hh.out.2.2.2.1⟩
      have := hh.out.2.1
      rw [hd, List.map_nil, List.append_nil] at this
      exact this
    · have hgt0 : (d.size : Int) > 0 := by omega
      obtain ⟨q, hq⟩ : ∃ q, d.size = q + 1 := ⟨d.size - 1, by omega⟩
      have CO := hid (hp_PopH (n := q) d hq (by omega) wr hh.out.2.2.1)
      have HQ := hid hq
      have HLD := hid hLd
      clear h0 hq hLd
      go_wp2_with fail
      refine (hp_Len wr).mono ?_
      rintro _ _ ⟨rfl, rfl⟩
      go_wp2_with fail
      refine CO.out.mono ?_
      rintro _ w2 ⟨x1, x2, d2, rfl, hs2, hp2, _, hh2, ho2⟩
      have hta1 := hta x1 x2
      have hfd : ∀ w : World, (Instr.field 93 (.agg #[.int .i64 (x1 : Int), .int .u64 (x2 : Int)]) 0).run Tryz.prog w = .ok (.int .i64 (x1 : Int)) w := fun _ => by kernel_rfl
      have HS2 := hid hs2
      have HP2 := hid hp2
      have HH2 := hid hh2
      have HO2 := hid ho2
      have hown2 := own_otr hh.out.1 ho2 hlt hgt
      have HW2 := hid hown2
      have hz2 : N ≤ w2.heap.size := Nat.le_trans hh.out.2.2.2.2.2 ho2.size
      clear hs2 hp2 hh2 ho2 hown2 CO bx bf hta
      have k3 : Below w2.heap.size w2 (w2.alloc (.cells #[.int .i64 (x1 : Int)] 3)) := (Below.refl _ _).alloc (Nat.le_refl _) _
      have r3 := rd_one (enc := Value.int .i64) (one_cell w2 (.int .i64 (x1 : Int)) 3).1
      have HH3 : Hid (HeapAt (w2.alloc (.cells #[.int .i64 (x1 : Int)] 3)) B bp d2 g cap) := hid ⟨HH2.out.1, HH2.out.2.on k3⟩
      have HO3 : Hid (Otr bp g w (w2.alloc (.cells #[.int .i64 (x1 : Int)] 3))) := hid ((hh.out.2.2.2.1.trans HO2.out).trans (Otr.of_below k3))
      have h3 := own_on HW2.out k3
      have hz3 := Nat.le_trans hz2 k3.size
      have hL5 : L.length + 1 ≤ 6000 := by have := HLD.out; omega
      clear k3
      go_wp2_with (at_builtin; refine wpList_app (Value.int .i64) (fun _ => rfl) _ rfl _ _ 25 rfl N 3 (.int .i64 0) 8 Tryz.underlying25 info_int rfl L A2 c2 rfl h3 [(x1 : Int)] _ 1 _ rfl r3 (by simp [maxLen]; omega) (by simp; omega) hz3 ?_)
      rintro S A3 c3 w4 hS ho4 hb4 _
      have HS := hid hS
      have HO4 := hid ho4
      have HB4 := hid hb4
      clear hS ho4 hb4 h3 r3 hta1 hfd
      go_wp2_with fail
      go_roundw
      case rel =>
        have hSl : S.length = L.length + 1 := by rw [HS.out]; simp
        refine ⟨S, A3, c3, d2, rfl, hid ⟨HO4.out, ?_, ⟨HH3.out.1, HH3.out.2.keep (HB4.out.block bp hlt) (HB4.out.block g hgt)⟩, otr_of_below HO3.out HB4.out (by rw [HN.out]; exact Nat.le_refl _) hz3, by have := HLD.out; have := HQ.out; have := HS2.out; omega, Nat.le_trans hz3 HB4.out.size⟩⟩
        rw [HS.out]
        refine List.Perm.trans ?_ hh.out.2.1
        rw [List.append_assoc]
        refine List.Perm.append_left _ ?_
        have := HP2.out.map fun x : Nat × Nat => (x.1 : Int)
        simpa using this
      case measure =>
        have hSl : S.length = L.length + 1 := by rw [HS.out]; simp
        have := HLD.out
        have := HQ.out
        simp [lenV]
        omega
end Go.Proofs.YtjkhdfncahhnoaaGreat
/- The program's calls: Pick, Least. -/
namespace Go.Proofs.YtjkhdfncahhnoaaGreat
open Go.RowKit
set_option maxHeartbeats 400000
set_option maxRecDepth 100000
set_option linter.unusedVariables false
theorem srt_pick {v : List Int} {k : Nat} {L : List Int} {l : List (Nat × Nat)} (h1 : L.Perm (l.map fun x => (x.1 : Int))) (h2 : l.Perm ((pkF v k).map (ent v))) : srtI L = pkI v k := by
  refine pk_sorted (h1.trans ?_)
  have h3 := h2.map fun x : Nat × Nat => (x.1 : Int)
  refine h3.trans ?_
  rw [List.map_map]
  exact List.Perm.refl _
set_option maxHeartbeats 1000000 in
theorem tk_Pick {A : Option Addr} {c : Nat} (k : Int) (hk : I64 k) (v : List Int) (uv : ∀ x ∈ v, I64 x) (hl : v.length ≤ 5000) (w : World) (ra : Rd (Value.int .i64) w w.heap.size A v) :
    Calls Tryz.prog 12 #[.int .i64 k, .slice A v.length c] w (OwnE 3 .i64 w.heap.size (pikV v k) (pikE v k) w) := by
  have CC := hid (fun W => hp_check (A := A) (c := c) k v W)
  by_cases h : pikE v k = 0
  · have hp := pikE_ok.1 h
    obtain ⟨K, rfl⟩ := Int.eq_ofNat_of_zero_le hp.2.1
    have hK : K ≤ v.length := by omega
    have hv : pikV v K = pkI v K := by unfold pikV; rw [if_pos h, Int.toNat_natCast]
    rw [h, hv]
    rw [h] at CC
    have CG := hid (fun W h => hp_greatest (A := A) (c := c) K v uv hp.1 hK W h)
    have HA := hid ra
    have HC := hid (ctn_all v K)
    have HCL := hid (ctn_len (v := v) (m := v.length) (k := K) (Nat.le_refl _))
    have HL := hid hp.1
    clear h hp hv uv ra hl
    go_enter Tryz.func12, Tryz.ntmps12
    go_wp2_with fail
    refine (CC.out w).mono ?_
    rintro _ _ ⟨rfl, rfl⟩
    go_wp2_with fail
    refine (CG.out w HA.out).mono ?_
    rintro _ w1 ⟨g, cap, d, rfl, hp1, ho1, hr1, hb1⟩
    have hds : d.size ≤ 4096 := by
      have := hp1.length_eq
      rw [HCL.out] at this
      have h2 := HL.out
      simp at this
      omega
    have k2 : Below w1.heap.size w1 (w1.alloc (.cells #[.slice (some ⟨g, 0, none⟩) d.size cap] 70)) := (Below.refl _ _).alloc (Nat.le_refl _) _
    have hP2 : HeapAt (w1.alloc (.cells #[.slice (some ⟨g, 0, none⟩) d.size cap] 70)) w.heap.size w1.heap.size d g cap := ⟨ho1, by simp, by simp, hr1.on k2, by have := hr1.lt; omega⟩
    have CP := hid (hp_places d (by omega) _ hP2)
    have HP1 := hid hp1
    have HB2 : Hid (Below w.heap.size w (w1.alloc (.cells #[.slice (some ⟨g, 0, none⟩) d.size cap] 70))) := hid (hb1.trans (k2.mono hb1.size))
    have HG : Hid (w.heap.size ≤ g ∧ w.heap.size ≤ w1.heap.size) := hid ⟨by obtain ⟨_, h, _⟩ := hr1.parts; exact h, hb1.size⟩
    have hds2 : Hid (d.size ≤ 4096) := hid hds
    clear hp1 ho1 hr1 hb1 k2 hP2 CG CC hds
    go_wp2_with fail
    refine CP.out.mono ?_
    rintro _ w3 ⟨L, A3, c3, rfl, ho3, hp3, ht3⟩
    have hLl : L.length ≤ 100000 := by
      have h1 : L.length = d.size := by have := hp3.length_eq; simpa using this
      have := hds2.out
      omega
    have hb3 : Below w.heap.size w w3 := HB2.out.trans (ht3.below HG.out.2 HG.out.1 HB2.out.size)
    have CS := hid (ix_sort L hLl w3 hb3.size (own_base ho3 (HB2.out.size)))
    have HE : Hid (srtI L = pkI v K) := hid (srt_pick hp3 (by rw [← HC.out]; exact HP1.out))
    have HB3 := hid hb3
    have hSl : (srtI L).length = L.length := by unfold srtI; simp
    have HSL := hid hSl
    clear ho3 hp3 ht3 hb3 CP hLl hSl
    go_wp2_with fail
    refine CS.out.mono ?_
    rintro _ w4 ⟨rfl, ho4, hb4⟩
    have HO4 := hid ho4
    have HB4 := hid (HB3.out.trans hb4)
    clear ho4 hb4 CS
    go_wp2_with fail
    go_ret2
    refine ⟨A3, c3, ?_, ?_, HB4.out⟩
    · rw [← HE.out, HSL.out]; rfl
    · rw [← HE.out, HSL.out]; exact HO4.out
  · have hv : pikV v k = [] := if_neg h
    rw [hv]
    obtain ⟨E, hE⟩ : ∃ E, pikE v k = E := ⟨_, rfl⟩
    rw [hE] at CC h ⊢
    have hne : (E != 0) = true := by simpa using h
    clear hv hE h uv ra hl
    go_enter Tryz.func12, Tryz.ntmps12
    go_wp2_with fail
    refine (CC.out w).mono ?_
    rintro _ _ ⟨rfl, rfl⟩
    go_wp2_with fail
    go_ret2
    exact .nil (Below.refl _ _)
end Go.Proofs.YtjkhdfncahhnoaaGreat
/- What was picked, spread, and picked again; what is so many times greater. Plain mathematics. No program in sight. -/
namespace Go.Proofs.YtjkhdfncahhnoaaGreat
open Go.RowKit
set_option maxRecDepth 100000
set_option linter.unusedVariables false
theorem prs_ok {v : List Int} {k : Int} (h0 : v ≠ []) (h : pikE v k = 0) : prsE v k = 0 ∧ prsS v k = ⟨1, v.length, pikV v k, atL v (pikV v k), 0, 0, [], []⟩ := by
  have e : prsE v k = 0 := by unfold prsE; rw [if_neg h0, h]
  exact ⟨e, if_pos e⟩
theorem atL_len (v l : List Int) : (atL v l).length = l.length := by unfold atL; rw [List.length_map]
theorem atL_at {v l : List Int} {i n : Nat} (h : l[i]? = some (n : Int)) : (atL v l)[i]? = some (v.getD n 0) := by
  unfold atL
  rw [List.getElem?_map, h, Option.map_some, Int.toNat_natCast]
theorem spr_at {v l : List Int} {K : Nat} (h : chkE (K : Int) l = 0) : spE K l (atL v l) = 0 ∧ (spV K l (atL v l)).length = K ∧ ∀ n : Nat, n < K → (spV K l (atL v l))[n]? = some (if (n : Int) ∈ l then v.getD n 0 else 0) := by
  obtain ⟨e1, e2⟩ := sp_ok (v := atL v l) h (atL_len v l).symm
  refine ⟨e1, by rw [e2, List.length_map, upI_len], fun n hn => ?_⟩
  rw [e2, sp_at hn]
  by_cases hm : (n : Int) ∈ l
  · obtain ⟨i, hi⟩ := List.mem_iff_getElem?.1 hm
    rw [if_pos hm, spF_in (chk_ok.1 h).2.2.1 (atL_len v l).symm hi (atL_at hi)]
  · rw [if_neg hm, spF_out hm]
theorem getD_some {v : List Int} {n : Nat} {x : Int} (h : v[n]? = some x) : v.getD n 0 = x := by rw [List.getD_eq_getElem?_getD, h, Option.getD_some]
/-- How many of the first m numbers are not 0. -/
def nzM (u : List Int) (m : Nat) : Nat := (List.range m).countP fun i => decide (u.getD i 0 ≠ 0)
theorem rk_nz {u : List Int} {n : Nat} (hn : u.getD n 0 ≠ 0) : ∀ m, rkM u n m + (if n < m then 1 else 0) ≤ nzM u m
  | 0 => by simp [rkM]
  | m + 1 => by
    have ih := rk_nz hn m
    have e : nzM u (m + 1) = nzM u m + if u.getD m 0 ≠ 0 then 1 else 0 := by
      unfold nzM
      rw [List.range_succ, List.countP_append]
      congr 1
      by_cases h : u.getD m 0 = 0 <;> simp
    rw [e, rkM]
    by_cases h1 : n = m
    · subst h1
      rw [ah_irr, if_neg (by decide), if_pos (by omega), if_pos hn]
      rw [if_neg (by omega)] at ih
      omega
    · by_cases h2 : ahB u m n = true
      · have h3 : u.getD m 0 ≠ 0 := by
          rcases ahB_iff.1 h2 with h | h <;> (unfold szN at h; omega)
        rw [if_pos h2, if_pos h3]
        split at ih <;> split <;> omega
      · rw [if_neg h2]
        split at ih <;> split <;> omega
theorem pik_again {v : List Int} {k : Int} (h0 : v ≠ []) (h : pikE v k = 0) {L : List Int} (hL : pikV v k = L) {x : List Int} (hx : spV v.length L (atL v L) = x) :
    spE v.length L (atL v L) = 0 ∧ x.length = v.length ∧ pikE x k = 0 ∧ spE v.length (pikV x k) (atL x (pikV x k)) = 0 ∧ spV v.length (pikV x k) (atL x (pikV x k)) = x := by
  have hc := pik_plc h h0
  rw [hL] at hc
  obtain ⟨s1, s2, s3⟩ := spr_at (v := v) hc
  rw [hx] at s2 s3
  have hk := pikE_ok.1 h
  have hp : pikE x k = 0 := pikE_ok.2 (by omega)
  have hx0 : x ≠ [] := fun e => h0 (List.length_eq_zero_iff.1 (by rw [← s2, e]; rfl))
  have hc2 := pik_plc hp hx0
  rw [s2] at hc2
  obtain ⟨t1, t2, t3⟩ := spr_at (v := x) hc2
  refine ⟨s1, s2, hp, t1, ?_⟩
  refine List.ext_getElem? fun n => ?_
  by_cases hn : n < v.length
  · rw [t3 n hn, s3 n hn]
    have hg := getD_some (s3 n hn)
    by_cases hm : (n : Int) ∈ pikV x k
    · rw [if_pos hm, hg]
    · rw [if_neg hm]
      -- a number that is not picked again is 0
      by_cases hz : (if (n : Int) ∈ L then v.getD n 0 else 0) = 0
      · rw [hz]
      · exfalso
        refine hm ((pik_in hp).2 (pkF_mem.2 ⟨by omega, ?_⟩))
        have h1 := rk_nz (u := x) (n := n) (by rw [hg]; exact hz) v.length
        rw [if_pos hn] at h1
        have h2 : nzM x v.length ≤ (pkF v k.toNat).length := by
          unfold nzM pkF
          rw [← List.countP_eq_length_filter]
          refine List.countP_mono_left fun i hi hd => ?_
          have hi' := List.mem_range.1 hi
          have hd' := of_decide_eq_true hd
          rw [getD_some (s3 i hi')] at hd'
          by_cases hm2 : (i : Int) ∈ L
          · rw [← hL] at hm2
            exact decide_eq_true (pkF_mem.1 ((pik_in h).1 hm2)).2
          · rw [if_neg hm2] at hd'
            exact absurd rfl hd'
        rw [pkF_len (by omega)] at h2
        unfold rkN
        rw [s2]
        omega
  · rw [List.getElem?_eq_none (by omega), List.getElem?_eq_none (by omega)]
theorem spr_i64 {v l : List Int} {K : Nat} (uv : ∀ x ∈ v, I64 x) (h : chkE (K : Int) l = 0) : ∀ x ∈ spV K l (atL v l), I64 x := fun x hx => by
  obtain ⟨s1, s2, s3⟩ := spr_at (v := v) h
  obtain ⟨n, hn⟩ := List.mem_iff_getElem?.1 hx
  have hlt : n < K := by have := (List.getElem?_eq_some_iff.1 hn).1; omega
  rw [s3 n hlt] at hn
  injection hn with hn
  rw [← hn]
  split
  · exact getD_i64 uv n
  · decide
/-- So many times greater. -/
def tmL (c : Int) (v : List Int) : List Int := v.map fun n => c * n
theorem tmL_len (c : Int) (v : List Int) : (tmL c v).length = v.length := by unfold tmL; rw [List.length_map]
theorem tmL_pik {c : Int} (hc : 0 < c) (v : List Int) (k : Int) : pikE (tmL c v) k = pikE v k ∧ pikV (tmL c v) k = pikV v k := pik_alike (tmL_len c v) (ah_scale hc v) k
theorem tmL_at (c : Int) (v l : List Int) : atL (tmL c v) l = tmL c (atL v l) := by
  unfold atL tmL
  rw [List.map_map]
  refine List.map_congr_left fun n _ => ?_
  exact getD_map (by simp) v n.toNat
theorem tmL_snoc {c : Int} {v : List Int} {k : Nat} {x : Int} (h : v[k]? = some x) : tmL c (v.take (k + 1)) = tmL c (v.take k) ++ [c * x] := by
  unfold tmL
  rw [take_snoc h, List.map_append]
  rfl
theorem tmL_i64 {c : Int} (h1 : 1 ≤ c) (h2 : c ≤ 1000) {v : List Int} (h : ∀ x ∈ v, -1125899906842624 ≤ x ∧ x ≤ 1125899906842624) : ∀ x ∈ tmL c v, I64 x := fun x hx => by
  unfold tmL at hx
  obtain ⟨y, hy, rfl⟩ := List.mem_map.1 hx
  obtain ⟨a, b⟩ := h y hy
  have e1 : c * y ≤ 1000 * 1125899906842624 := by
    have e2 : c * y ≤ c * 1125899906842624 := Int.mul_le_mul_of_nonneg_left b (by omega)
    have e3 : c * 1125899906842624 ≤ 1000 * 1125899906842624 := Int.mul_le_mul_of_nonneg_right h2 (by omega)
    omega
  have e4 : -(1000 * 1125899906842624) ≤ c * y := by
    have e2 : c * (-1125899906842624) ≤ c * y := Int.mul_le_mul_of_nonneg_left a (by omega)
    have e3 : c * 1125899906842624 ≤ 1000 * 1125899906842624 := Int.mul_le_mul_of_nonneg_right h2 (by omega)
    omega
  unfold I64
  omega
end Go.Proofs.YtjkhdfncahhnoaaGreat
/- What is pressed goes as a frame. Plain mathematics. No program in sight. -/
namespace Go.Proofs.YtjkhdfncahhnoaaGreat
open Go.RowKit
set_option maxRecDepth 100000
set_option linter.unusedVariables false
theorem prs_may {v : List Int} {k : Int} (uv : ∀ x ∈ v, I64 x) (h0 : v ≠ []) (h : pikE v k = 0) :
    mayB (prsS v k) = true ∧ wfS (prsS v k) ∧ gatE (prsS v k).L v = 0 ∧ gatV (prsS v k).L v = (prsS v k).V ∧ (prsS v k).dim = v.length ∧ (prsS v k).V.length = (prsS v k).L.length := by
  obtain ⟨_, e⟩ := prs_ok h0 h
  have hk := pikE_ok.1 h
  have hl := pikV_len h
  have hc := pik_plc h h0
  have hp := chk_ok.1 hc
  have h1 : 1 ≤ v.length := by
    have : v.length ≠ 0 := fun e => h0 (List.length_eq_zero_iff.1 e)
    omega
  have hg : gatE (pikV v k) v = 0 := gat_ok.2 ⟨pik_ris v k, hp.2.2.2⟩
  rw [e]
  refine ⟨mayB_iff.2 ⟨by show (1 : Int) ≤ v.length; omega, by show (v.length : Int) ≤ 4096; omega, .inr (.inl ⟨rfl, hc, ?_, rfl, rfl, rfl, rfl⟩)⟩, ⟨by show I64 1; decide, by show I64 (v.length : Int); unfold I64; omega, ?_, ?_, by show I64 0; decide, by show I64 0; decide, by intro x hx; cases hx⟩, hg, ?_, rfl, ?_⟩
  · show (atL v (pikV v k)).length = (pikV v k).length
    exact atL_len _ _
  · intro x hx
    have := hp.2.2.2 x hx
    unfold I64; omega
  · intro x hx
    have hx' : x ∈ atL v (pikV v k) := hx
    unfold atL at hx'
    obtain ⟨n, _, rfl⟩ := List.mem_map.1 hx'
    exact getD_i64 uv n.toNat
  · unfold gatV
    rw [if_pos hg]
    rfl
  · show (atL v (pikV v k)).length = (pikV v k).length
    exact atL_len _ _
/-- The frame that it goes as. -/
theorem prs_frame {v : List Int} {k : Int} (uv : ∀ x ∈ v, I64 x) (h0 : v ≠ []) (h : pikE v k = 0) (h2 : v.length ≤ 200) {f : FrameV} (hf : f = ⟨1, 0, 0, prsS v k⟩) :
    wfF f ∧ lnS 500 f.S ∧ wrtE f = 0 ∧ rdR (wrtV f) = (f, 0) ∧ U8s (wrtV f) ∧ (wrtV f).length ≤ 65540 := by
  subst hf
  obtain ⟨m1, m2, _, _, m5, m6⟩ := prs_may uv h0 h
  obtain ⟨_, e⟩ := prs_ok h0 h
  have hk := pikE_ok.1 h
  have hl := pikV_len h
  have hL : (prsS v k).L.length ≤ 200 := by rw [e]; show (pikV v k).length ≤ 200; omega
  have hln : lnS 500 (prsS v k) := ⟨by omega, by omega, by rw [e]; simp, by rw [e]; simp⟩
  have hw : wfF ⟨1, 0, 0, prsS v k⟩ := ⟨by show I64 1; decide, by show I64 0; decide, by show I64 0; decide, m2⟩
  have hV : (FrameV.mk 1 0 0 (prsS v k)).S.V.length ≤ 1000 := by show (prsS v k).V.length ≤ 1000; omega
  have hc : chkF ⟨1, 0, 0, prsS v k⟩ = 0 := if_pos ⟨by show (0 : Int) ≤ 0; omega, by show (0 : Int) < 64; omega, by show (0 : Int) ≤ 0; omega, by show (0 : Int) ≤ 1073741824; omega, .inl ⟨rfl, m1⟩⟩
  have hE := (wrt_ok hw hV).1.2 hc
  obtain ⟨r1, r2, r3, _⟩ := rd_wrt hw hV hE
  have h3 := text_len hc hw hV
  exact ⟨hw, hln, hE, r1, r2, by omega⟩
end Go.Proofs.YtjkhdfncahhnoaaGreat
