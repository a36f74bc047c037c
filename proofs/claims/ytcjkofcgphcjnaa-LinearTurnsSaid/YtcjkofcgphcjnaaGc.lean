
/- Gc: texts joined: LnO LnS. -/
import Derived.Test.YtcjkofcgphcjnaaGb
import Derived.Test.YtcjkofcgphcjnaaGa
/- Lines: told right; of one sample; samples in another order. Plain mathematics. No program in sight. -/
namespace Go.Proofs.Ytcjkofcgphcjnaa
open Go.RowKit
set_option maxRecDepth 100000
set_option linter.unusedVariables false
theorem lt_parts {w x : List Int} {f : Int} (h : ltE w x f = 0) : (1 ≤ x.length ∧ x.length ≤ 16) ∧ w.length = x.length + 1 ∧ 0 ≤ f ∧ f ≤ 30 := by
  obtain ⟨h1, h2, _⟩ := ltE_ok.1 h
  obtain ⟨⟨n1, n2⟩, n3, _, _, _⟩ := lcE_ok.1 h1
  have hf := dot_f (by rw [List.length_take]; omega) (by rw [List.length_take]; omega) h2
  exact ⟨⟨by omega, by omega⟩, by omega, hf⟩
theorem mul_none {a f : Int} (hf : 0 ≤ f ∧ f ≤ 30) : mulV a 0 f = 0 ∧ mulE a 0 f = 0 := by
  unfold mulV mulE
  rw [if_neg (by omega), if_neg (by omega), Int.mul_zero, Int.zero_ediv]
  exact ⟨by decide, by decide⟩
theorem un_zero {num : Nat → Int × Int} {n : Nat} {f : Int} (hf : 0 ≤ f ∧ f ≤ 30) (hn : n ≤ 4096) (h : ∀ k, k < n → (num k).2 = 0) : unE (behE f) num n = 0 ∧ unV (behE f) num n = (List.range n).map fun k => (num k).1 := by
  have hb : behE f = 0 := if_neg (by omega)
  rw [hb]
  exact un_mk hn h
/-- A sample that is told right bends nothing. -/
theorem sr_right {w : List Int} {f : Int} {s : SmpV} (h : ltE w s.X f = 0) (hy : s.Y = ltV w s.X f) :
    loE w s f = 0 ∧ loV w s f = 0 ∧ srE w f s = 0 ∧ (srV w f s).length = w.length ∧ ∀ x ∈ srV w f s, x = 0 := by
  obtain ⟨⟨n1, n2⟩, n3, hf⟩ := lt_parts h
  have e1 : loE w s f = 0 := loE_ok.2 ⟨h, by rw [hy, Int.sub_self]; decide⟩
  have e2 : loV w s f = 0 := by unfold loV; rw [if_pos e1, hy, Int.sub_self]
  obtain ⟨u1, u2⟩ := un_zero (num := numS s.X 0 f) hf (show s.X.length ≤ 4096 by omega) fun k _ => (mul_none hf).2
  have e3 : srE w f s = 0 := by unfold srE; rw [if_neg (by simp [e1]), e2, u1]
  refine ⟨e1, e2, e3, ?_, ?_⟩
  · unfold srV
    rw [e2, u2, List.length_append, List.length_map, List.length_range, n3]
    rfl
  · intro x hx
    unfold srV at hx
    rw [e2, u2] at hx
    rcases List.mem_append.1 hx with hx | hx
    · obtain ⟨k, _, rfl⟩ := List.mem_map.1 hx
      exact (mul_none hf).1
    · simpa using hx
theorem col_zero {rows : List (List Int)} (h : ∀ r ∈ rows, ∀ x ∈ r, x = 0) (k : Nat) : col rows k = 0 := by
  induction rows with
  | nil => rfl
  | cons v r ih =>
    rw [col_cons, ih fun u hu => h u (by simp [hu])]
    have : v.getD k 0 = 0 := by
      rw [List.getD_eq_getElem?_getD]
      by_cases hk : k < v.length
      · rw [List.getElem?_eq_getElem hk, Option.getD_some]; exact h v (by simp) _ (List.getElem_mem _)
      · rw [List.getElem?_eq_none (by omega)]; rfl
    omega
theorem ls_right {w : List Int} {f : Int} : ∀ {ls : List SmpV}, (∀ s ∈ ls, loE w s f = 0 ∧ loV w s f = 0) → (0 ≤ f ∧ f ≤ 30) → lsGo w f ls 0 = (0, 0)
  | [], _, _ => rfl
  | s :: r, h, hf => by
    obtain ⟨a, b⟩ := h s (by simp)
    obtain ⟨c, d⟩ := mul_none (a := 0) hf
    rw [lsGo, if_neg (by simp [a]), b, d, if_neg (by simp), c, if_neg (by decide)]
    exact ls_right (fun x hx => h x (by simp [hx])) hf
theorem lin_right {w : List Int} {f : Int} {ls : List SmpV} (h : ∀ s ∈ ls, ltE w s.X f = 0 ∧ s.Y = ltV w s.X f) (hne : ls ≠ []) :
    (64 < ls.length → lgE w f ls ≠ 0 ∧ lsE w f ls ≠ 0) ∧ (ls.length ≤ 64 → lgE w f ls = 0 ∧ (lgV w f ls).length = w.length ∧ (∀ x ∈ lgV w f ls, x = 0) ∧ lsE w f ls = 0 ∧ lsV w f ls = 0) := by
  constructor
  · intro hl
    have hc : lcE ((w.length : Int) - 1) w ls ≠ 0 := fun h9 => by have := (lcE_ok.1 h9).2.2.2.2; omega
    exact ⟨by unfold lgE; rw [if_pos hc]; exact hc, by unfold lsE; rw [if_pos hc]; exact hc⟩
  · intro hl
    have hpos : 0 < ls.length := List.length_pos_iff.2 hne
    obtain ⟨s0, hs0⟩ := List.exists_mem_of_ne_nil ls hne
    obtain ⟨⟨n1, n2⟩, n3, hf⟩ := lt_parts (h s0 hs0).1
    have hc : lcE ((w.length : Int) - 1) w ls = 0 := lcE_ok.2 ⟨⟨by omega, by omega⟩, by omega, fun s hs => by have := (lt_parts (h s hs).1).2.1; omega, hne, hl⟩
    have hr := fun s hs => sr_right (h s hs).1 (h s hs).2
    have he : Even w.length (ls.map (srV w f)) := fun v hv => by
      obtain ⟨s, hs, rfl⟩ := List.mem_map.1 hv
      obtain ⟨_, _, _, a, b⟩ := hr s hs
      exact ⟨a, fun x hx => by rw [b x hx]; omega⟩
    have hs := sumAll_even (show w.length ≤ 4096 by omega) he (by rw [List.length_map]; omega) (by simpa using hne)
    have hz : ∀ r ∈ ls.map (srV w f), ∀ x ∈ r, x = 0 := fun v hv => by
      obtain ⟨s, hs, rfl⟩ := List.mem_map.1 hv
      exact (hr s hs).2.2.2.2
    have hm : lmE ls.length (ls.map (srV w f)) = 0 := by unfold lmE; rw [if_neg (by omega), hs]
    have hg : lgE w f ls = 0 := lgE_ok.2 ⟨hc, fun s hs => (hr s hs).2.2.1, hm⟩
    have hv : lgV w f ls = (List.range w.length).map fun k => col (ls.map (srV w f)) k / (ls.length : Int) := by
      unfold lgV lmV
      rw [if_pos hg, if_pos hm, hs, List.map_map]
      rfl
    have hgo := ls_right (fun s hs => ⟨(hr s hs).1, (hr s hs).2.1⟩) hf
    refine ⟨hg, by rw [hv]; simp, ?_, by unfold lsE; rw [if_neg (by simp [hc]), hgo], by unfold lsV; rw [if_neg (by simp [hc]), hgo]⟩
    intro x hx
    rw [hv] at hx
    obtain ⟨k, _, rfl⟩ := List.mem_map.1 hx
    show col _ k / _ = 0
    rw [col_zero hz, Int.zero_ediv]
/-- Of one sample. -/
theorem lin_single {w : List Int} {f : Int} {s : SmpV} (ho : loE w s f = 0) :
    lgE w f [s] = unE (behE f) (numS s.X (loV w s f) f) s.X.length ∧ (unE (behE f) (numS s.X (loV w s f) f) s.X.length = 0 → lgV w f [s] = unV (behE f) (numS s.X (loV w s f) f) s.X.length ++ [loV w s f]) := by
  have h := (loE_ok.1 ho).1
  obtain ⟨⟨n1, n2⟩, n3, hf⟩ := lt_parts h
  have hc : lcE ((w.length : Int) - 1) w [s] = 0 := lcE_ok.2 ⟨⟨by omega, by omega⟩, by omega, fun s' hs => by simp at hs; subst hs; omega, by simp, by simp⟩
  have hsr : srE w f s = unE (behE f) (numS s.X (loV w s f) f) s.X.length := by unfold srE; rw [if_neg (by simp [ho])]
  have hul : (unV (behE f) (numS s.X (loV w s f) f) s.X.length).length ≤ s.X.length := by
    unfold unV
    split
    · unfold seqV
      split <;> simp
    · simp
  have hlen : (srV w f s).length ≤ 4096 := by unfold srV; rw [List.length_append]; simp; omega
  have hsum : sumAll [srV w f s] = (srV w f s, 0) := by rw [sumAll, if_neg (by omega), sumFrom]
  have hm : lmE (1 : Nat) [srV w f s] = 0 := by unfold lmE; rw [if_neg (by omega), hsum]
  have hg : lgE w f [s] = srE w f s := by
    unfold lgE
    rw [if_neg (by simp [hc])]
    show (if fstE [srE w f s] ≠ 0 then fstE [srE w f s] else lmE (1 : Nat) [srV w f s]) = _
    rw [fstE, fstE]
    by_cases e : srE w f s = 0
    · rw [if_neg (by simp [e]), hm, e]
    · rw [if_pos e, if_pos e]
  refine ⟨by rw [hg, hsr], fun e => ?_⟩
  unfold lgV
  rw [if_pos (by rw [hg, hsr]; exact e)]
  show lmV (1 : Nat) [srV w f s] = srV w f s
  unfold lmV
  rw [if_pos hm, hsum]
  simp
/-- In another order. -/
def sqV (w : List Int) (m : Nat) (s : SmpV) : Int := loV w s m * loV w s m / 2 ^ m
def sqS (w : List Int) (m : Nat) : List SmpV → Int
  | [] => 0
  | s :: r => sqV w m s + sqS w m r
theorem sqS_app (w : List Int) (m : Nat) : ∀ a b : List SmpV, sqS w m (a ++ b) = sqS w m a + sqS w m b
  | [], b => by rw [List.nil_append, sqS]; omega
  | s :: a, b => by rw [List.cons_append, sqS, sqS, sqS_app w m a b]; omega
theorem sqS_rev (w : List Int) (m : Nat) : ∀ a : List SmpV, sqS w m a.reverse = sqS w m a
  | [] => rfl
  | s :: a => by rw [List.reverse_cons, sqS_app, sqS_rev w m a, sqS, sqS, sqS]; omega
theorem sqV_pos (w : List Int) (m : Nat) (s : SmpV) : 0 ≤ sqV w m s := by
  unfold sqV
  refine Int.ediv_nonneg ?_ (Int.le_of_lt (by have := pow_one m; omega))
  rcases Int.le_total 0 (loV w s m) with h | h
  · exact Int.mul_nonneg h h
  · exact Int.mul_nonneg_of_nonpos_of_nonpos h h
theorem sqS_pos (w : List Int) (m : Nat) : ∀ a : List SmpV, 0 ≤ sqS w m a
  | [] => Int.le_refl _
  | s :: a => by have := sqV_pos w m s; have := sqS_pos w m a; rw [sqS]; omega
theorem lsGo_sum {w : List Int} {m : Nat} (hm : m ≤ 30) : ∀ {ls : List SmpV} {a : Int}, (∀ s ∈ ls, loE w s m = 0) → 0 ≤ a → a ≤ 9223372036854775807 →
    lsGo w m ls a = if a + sqS w m ls ≤ 9223372036854775807 then (a + sqS w m ls, 0) else (0, 2)
  | [], a, _, h0, h1 => by rw [lsGo, sqS, if_pos (by omega)]; simp
  | s :: r, a, h, h0, h1 => by
    have hs := h s (by simp)
    have hp := sqV_pos w m s
    have hr := sqS_pos w m r
    have hmE : mulE (loV w s m) (loV w s m) m = ckE (sqV w m s) := by unfold mulE sqV; rw [if_neg (by omega)]; rfl
    have hmV : mulV (loV w s m) (loV w s m) m = ckV (sqV w m s) := by unfold mulV sqV; rw [if_neg (by omega)]; rfl
    rw [lsGo, if_neg (by simp [hs]), hmE, hmV, sqS]
    by_cases h2 : sqV w m s ≤ 9223372036854775807
    · have i2 : I64 (sqV w m s) := by unfold I64; omega
      rw [ckE_in i2, ckV_in i2, if_neg (by simp)]
      by_cases h3 : a + sqV w m s ≤ 9223372036854775807
      · rw [ckE_in (show I64 (a + sqV w m s) by unfold I64; omega), if_neg (by simp), lsGo_sum hm (fun x hx => h x (by simp [hx])) (by omega) h3, show a + sqV w m s + sqS w m r = a + (sqV w m s + sqS w m r) by omega]
      · rw [ckE_out (show ¬ I64 (a + sqV w m s) by unfold I64; omega), if_pos (by decide), if_neg (by omega)]
    · rw [ckE_out (show ¬ I64 (sqV w m s) by unfold I64; omega), if_pos (by decide), if_neg (by omega)]
theorem oddX_rev (n : Int) (ls : List SmpV) : oddX n ls.reverse = oddX n ls := by unfold oddX; rw [List.any_reverse]
theorem lin_turn {w : List Int} {ls : List SmpV} {m : Nat} (hm : m ≤ 16) (hw : ∀ x ∈ w, x.natAbs ≤ 1048576) (hX : ∀ s ∈ ls, ∀ x ∈ s.X, x.natAbs ≤ 4096) (hY : ∀ s ∈ ls, s.Y.natAbs ≤ 1048576) :
    lgE w m ls.reverse = lgE w m ls ∧ lgV w m ls.reverse = lgV w m ls ∧ lsE w m ls.reverse = lsE w m ls ∧ lsV w m ls.reverse = lsV w m ls ∧ 0 ≤ lsV w m ls := by
  have hc : lcE ((w.length : Int) - 1) w ls.reverse = lcE ((w.length : Int) - 1) w ls := by unfold lcE; rw [oddX_rev, List.length_reverse]
  by_cases h : lcE ((w.length : Int) - 1) w ls = 0
  · obtain ⟨⟨n1, n2⟩, n3, n4, n5, n6⟩ := lcE_ok.1 h
    have hoff : ∀ s ∈ ls, loE w s m = 0 ∧ -137438953472 ≤ loV w s m ∧ loV w s m ≤ 137438953472 := fun s hs => by
      obtain ⟨n, hnn⟩ : ∃ n, s.X.length = n := ⟨_, rfl⟩
      have hn := n4 s hs
      rw [hnn] at hn
      have mw : ∀ k, k < w.length → (w.getD k 0).natAbs ≤ 1048576 := fun k hk => hw _ (by rw [List.getD_eq_getElem?_getD, List.getElem?_eq_getElem hk, Option.getD_some]; exact List.getElem_mem _)
      obtain ⟨a1, _, a3, a4⟩ := dot_mk (xs := w.take n) (ys := s.X) (m := m) (by omega) (by rw [List.length_take]; omega) (by rw [List.length_take]; omega) (A := 1048576) (C := 4096) (by decide) fun k hk => by
        rw [List.length_take] at hk
        rw [take_getD (by omega)]
        exact ⟨mw k (by omega), hX s hs _ (by rw [List.getD_eq_getElem?_getD, List.getElem?_eq_getElem (by omega), Option.getD_some]; exact List.getElem_mem _)⟩
      have hl16 : ((w.take n).length : Int) ≤ 16 := by rw [List.length_take]; omega
      have hmm : ((1048576 * 4096 : Nat) : Int) * ((w.take n).length : Int) ≤ 4294967296 * 16 := Int.mul_le_mul (by decide) hl16 (by omega) (by decide)
      have hb := mw n (by omega)
      have hy := hY s hs
      have c1 : lcE s.X.length w [⟨s.X, 0⟩] = 0 := lc_one (n := n) (by omega) (by omega) (by omega) (by omega)
      have e1 : ltE w s.X m = 0 := ltE_ok.2 ⟨c1, by rw [hnn]; exact a1, by rw [hnn]; unfold I64; omega⟩
      have v1 : ltV w s.X m = dotV (w.take n) s.X m + w.getD n 0 := by unfold ltV; rw [if_pos e1, hnn]
      have e2 : loE w s m = 0 := loE_ok.2 ⟨e1, by rw [v1]; unfold I64; omega⟩
      refine ⟨e2, ?_⟩
      unfold loV
      rw [if_pos e2, v1]
      omega
    have hrow : ∀ s ∈ ls, srE w m s = 0 ∧ (srV w m s).length = w.length ∧ ∀ x ∈ srV w m s, -1125899906842624 ≤ x ∧ x ≤ 1125899906842624 := fun s hs => by
      obtain ⟨o1, o2, o3⟩ := hoff s hs
      have hn := n4 s hs
      have hnum : ∀ k, k < s.X.length → (numS s.X (loV w s m) m k).2 = 0 ∧ -562949953421312 ≤ (numS s.X (loV w s m) m k).1 ∧ (numS s.X (loV w s m) m k).1 ≤ 562949953421312 := fun k hk => by
        have hx := hX s hs (s.X.getD k 0) (by rw [List.getD_eq_getElem?_getD, List.getElem?_eq_getElem hk, Option.getD_some]; exact List.getElem_mem _)
        obtain ⟨c, d⟩ := mul_bd (a := s.X.getD k 0) (b := loV w s m) (A := 4096) (C := 137438953472) hx (by omega)
        obtain ⟨p, q⟩ := div_bd (pow_one m) c d (by decide)
        have e9 : ((4096 * 137438953472 : Nat) : Int) = 562949953421312 := by decide
        rw [e9] at p q
        obtain ⟨u, v⟩ := mul_ok (a := s.X.getD k 0) (b := loV w s m) (m := m) (by omega) rfl (by unfold I64; omega)
        unfold numS
        rw [u, v]
        exact ⟨rfl, p, q⟩
      obtain ⟨u1, u2⟩ := un_zero (num := numS s.X (loV w s m) m) (f := m) (by omega) (show s.X.length ≤ 4096 by omega) fun k hk => (hnum k hk).1
      refine ⟨by unfold srE; rw [if_neg (by simp [o1]), u1], ?_, ?_⟩
      · unfold srV
        rw [u2, List.length_append, List.length_map, List.length_range]
        simp
        omega
      · intro x hx
        unfold srV at hx
        rw [u2] at hx
        rcases List.mem_append.1 hx with hx | hx
        · obtain ⟨k, hk, rfl⟩ := List.mem_map.1 hx
          have := hnum k (List.mem_range.1 hk)
          show -1125899906842624 ≤ (numS s.X (loV w s m) m k).1 ∧ (numS s.X (loV w s m) m k).1 ≤ 1125899906842624
          omega
        · simp at hx
          omega
    have he : Even w.length (ls.map (srV w m)) := fun v hv => by
      obtain ⟨s, hs, rfl⟩ := List.mem_map.1 hv
      exact (hrow s hs).2
    have hst := sum_turned (show w.length ≤ 4096 by omega) he (by rw [List.length_map]; omega) (by simpa using n5)
    have hrev : ls.reverse.map (srV w m) = (ls.map (srV w m)).reverse := by rw [List.map_reverse]
    have hf1 : fstE (ls.map (srE w m)) = 0 := fstE_ok.2 fun e he => by
      obtain ⟨s, hs, rfl⟩ := List.mem_map.1 he
      exact (hrow s hs).1
    have hf2 : fstE (ls.reverse.map (srE w m)) = 0 := fstE_ok.2 fun e he => by
      obtain ⟨s, hs, rfl⟩ := List.mem_map.1 he
      exact (hrow s (by simpa using hs)).1
    have hlm : lmE ls.reverse.length (ls.reverse.map (srV w m)) = lmE ls.length (ls.map (srV w m)) := by unfold lmE; rw [hrev, hst, List.length_reverse]
    have hlv : lmV ls.reverse.length (ls.reverse.map (srV w m)) = lmV ls.length (ls.map (srV w m)) := by unfold lmV; rw [hlm, hrev, hst, List.length_reverse]
    have hg : lgE w m ls.reverse = lgE w m ls := by unfold lgE; rw [hc, hf1, hf2, hlm]
    have g1 := lsGo_sum (w := w) (m := m) (by omega) (ls := ls) (a := 0) (fun s hs => (hoff s hs).1) (by omega) (by omega)
    have g2 := lsGo_sum (w := w) (m := m) (by omega) (ls := ls.reverse) (a := 0) (fun s hs => (hoff s (by simpa using hs)).1) (by omega) (by omega)
    rw [sqS_rev] at g2
    have gg : lsGo w m ls.reverse 0 = lsGo w m ls 0 := by rw [g1, g2]
    refine ⟨hg, by unfold lgV; rw [hg, hlv], by unfold lsE; rw [hc, gg], by unfold lsV; rw [hc, gg], ?_⟩
    unfold lsV
    rw [if_neg (by simp [h]), g1]
    have := sqS_pos w m ls
    split
    · show 0 ≤ 0 + sqS w m ls; omega
    · show (0 : Int) ≤ 0; omega
  · have e1 : lgE w m ls.reverse = lgE w m ls := by unfold lgE; rw [hc, if_pos h, if_pos h]
    have e2 : lgE w m ls ≠ 0 := by unfold lgE; rw [if_pos h]; exact h
    refine ⟨e1, by unfold lgV; rw [e1, if_neg e2, if_neg e2], by unfold lsE; rw [hc, if_pos h, if_pos h], by unfold lsV; rw [hc, if_pos h, if_pos h], ?_⟩
    unfold lsV
    rw [if_pos h]
    omega
end Go.Proofs.Ytcjkofcgphcjnaa
/- A list of samples of the call's own, whose numbers lie below it: how it grows. -/
namespace Go.Proofs.Ytcjkofcgphcjnaa
open Go.RowKit
set_option maxRecDepth 100000
set_option linter.unusedVariables false
theorem info_smp : (Try.prog.info? 24).map (fun i => (i.zero, i.size, i.bytes)) = some (some (.agg #[.slice none 0 0, .int .i64 0]), 2, 32) := by kernel_rfl
def OwnSm (w : World) (B base : Nat) (A : Option Addr) (c : Nat) (ls : List SmpV) : Prop :=
  ∃ cells : List Value, w.ownsRow base 24 2 (.slice A ls.length c) ls.length cells ∧ ∀ (k : Nat) (s : SmpV), ls[k]? = some s → ∃ Ax cx, cells[k * 2]? = some (.slice Ax s.X.length cx) ∧ cells[k * 2 + 1]? = some (.int .i64 s.Y) ∧ Rd (Value.int .i64) w B Ax s.X
theorem OwnSm.nil (w : World) (B base : Nat) : OwnSm w B base none 0 [] := ⟨[], World.ownsRow_nil w base 24 2, fun k s hs => by simp at hs⟩
theorem own_keep {w w' : World} {base n m : Nat} {e : TypeId} {v : Value} {vs : List Value} (h : w.ownsRow base e m v n vs) (hb : Below w.heap.size w w') : w'.ownsRow base e m v n vs := by
  refine ⟨h.1, ?_⟩
  rcases h.2 with hn | ⟨g, cap, cur, hv, hg, hh, r⟩
  · exact .inl hn
  · exact .inr ⟨g, cap, cur, hv, hg, (hb.block g (Array.getElem?_eq_some_iff.1 hh).1).trans hh, r⟩
theorem OwnSm.on {w w' : World} {B base : Nat} {A : Option Addr} {c : Nat} {ls : List SmpV} (h : OwnSm w B base A c ls) (hB : B ≤ w.heap.size) (hb : Below w.heap.size w w') : OwnSm w' B base A c ls := by
  obtain ⟨cells, ho, hr⟩ := h
  refine ⟨cells, own_keep ho hb, fun k s hs => ?_⟩
  obtain ⟨Ax, cx, h1, h2, h3⟩ := hr k s hs
  exact ⟨Ax, cx, h1, h2, h3.below (hb.mono hB)⟩
theorem OwnSm.rd {w : World} {B base : Nat} {A : Option Addr} {c : Nat} {ls : List SmpV} (h : OwnSm w B base A c ls) (hB : B ≤ w.heap.size) : RdSm w w.heap.size A ls := by
  obtain ⟨cells, ho, hr⟩ := h
  intro k s hs
  obtain ⟨Ax, cx, h1, h2, h3⟩ := hr k s hs
  have hk : k < ls.length := (List.getElem?_eq_some_iff.1 hs).1
  have h' := ho
  rcases ho.2 with ⟨he, h0⟩ | ⟨g, cap, cur, he, hg, hh, _⟩
  · omega
  · simp only [Value.slice.injEq] at he
    obtain ⟨rfl, _, rfl⟩ := he
    refine ⟨g, 0, Ax, cx, rfl, (Array.getElem?_eq_some_iff.1 hh).1, ?_, ?_, h3.more hB⟩
    · rw [show 0 + k * 2 = k * 2 by omega, h'.cellAt (k * 2) (by omega)]; exact h1
    · rw [show 0 + k * 2 + 1 = k * 2 + 1 by omega, h'.cellAt (k * 2 + 1) (by omega)]; exact h2
theorem OwnSm.cap {w : World} {B base : Nat} {A : Option Addr} {c : Nat} {ls : List SmpV} (h : OwnSm w B base A c ls) : ls.length ≤ c ∧ c ≤ 9223372036854775807 := by
  obtain ⟨cells, ho, hr⟩ := h
  rcases ho.2 with ⟨he, h0⟩ | ⟨g, cap, cur, he, _, _, h1, h2, _⟩
  · simp only [Value.slice.injEq] at he
    omega
  · simp only [Value.slice.injEq] at he
    unfold maxLen at h2
    omega
theorem OwnSm.lies {w : World} {B base : Nat} {A : Option Addr} {c : Nat} {ls : List SmpV} (h : OwnSm w B base A c ls) : ∀ g, A.map (·.block) = some g → base ≤ g ∧ g < w.heap.size := by
  obtain ⟨cells, ho, hr⟩ := h
  intro b hb
  rcases ho.2 with ⟨he, _⟩ | ⟨g, cap, cur, he, hg, hh, _⟩
  · simp only [Value.slice.injEq] at he
    rw [he.1] at hb
    cases hb
  · simp only [Value.slice.injEq] at he
    rw [he.1] at hb
    simp at hb
    subst hb
    exact ⟨hg, (Array.getElem?_eq_some_iff.1 hh).1⟩
/-- A list does not lie there. -/
def offB (A : Option Addr) (b : Nat) : Prop := A.map (·.block) ≠ some b
theorem run_appS (w : World) (ty : TypeId) {B base c0 : Nat} {A0 : Option Addr} {ls : List SmpV} (hr : OwnSm w B base A0 c0 ls) (hB : B ≤ base) (m c : Nat) (s : SmpV) {Ax : Option Addr} {cx : Nat} (h0 : w.cell? ⟨m, 0, none⟩ = some (.slice Ax s.X.length cx)) (h1 : w.cell? ⟨m, 1, none⟩ = some (.int .i64 s.Y)) (hx : Rd (Value.int .i64) w B Ax s.X)
    (hl : ls.length < 100000) (hbase : base ≤ w.heap.size) :
    ∃ A' c' w', (Builtin.append_ #[39, 39] ty #[.slice A0 ls.length c0, .slice (some ⟨m, 0, none⟩) 1 c]).run Try.prog w = .ok (.slice A' (ls.length + 1) c') w' ∧ OwnSm w' B base A' c' (ls ++ [s]) ∧ Below base w w' ∧ (∀ p : Addr, p.block < w.heap.size → offB A0 p.block → w'.cell? p = w.cell? p) := by
  obtain ⟨i, hi, hzz⟩ := Option.map_eq_some_iff.1 info_smp
  simp only [Prod.mk.injEq] at hzz
  obtain ⟨hz, hs, hb⟩ := hzz
  obtain ⟨cells, ho, hc⟩ := hr
  obtain ⟨v', w', hrun, h2, h3, _, h5⟩ := run_append_own_at (P := Try.prog) w base 39 ty 24 i _ 2 32 Try.underlying39 hi hz hs hb rfl (by decide) _ ls.length cells ho ⟨m, 0, none⟩ 1 c [.slice Ax s.X.length cx, .int .i64 s.Y] rfl (by
    intro j u hu
    match j, hu with
    | 0, hu => simp only [List.getElem?_cons_zero, Option.some.injEq] at hu; subst hu; simpa [Addr.add] using h0
    | 1, hu => simp at hu; subst hu; simpa [Addr.add] using h1
    | j + 2, hu => simp at hu) (by
    intro u hu
    simp at hu
    rcases hu with rfl | rfl <;> rfl) (by simp [maxLen]; omega) (by omega) hbase
  have hbl : Below base w w' := (Below.refl base w).grown h3 hbase fun k hk => (ho.lt k hk).1
  have hcl : cells.length = ls.length * 2 := ho.1
  have hsh : ∃ A' c', v' = .slice A' (ls.length + 1) c' := by
    rcases h2.2 with ⟨he, h0⟩ | ⟨g, cap, cur, he, _⟩
    · omega
    · exact ⟨_, _, he⟩
  obtain ⟨A', c', rfl⟩ := hsh
  refine ⟨A', c', w', hrun, ⟨cells ++ [.slice Ax s.X.length cx, .int .i64 s.Y], by simpa using h2, fun k x hk => ?_⟩, hbl, fun p hp hn => World.cell?_of_block (h3.block p.block hp (fun e => hn (by cases A0 <;> simpa [Value.ownBlock] using e.symm)))⟩
  by_cases hkl : k < ls.length
  · rw [List.getElem?_append_left hkl] at hk
    obtain ⟨Ax', cx', g1, g2, g3⟩ := hc k x hk
    exact ⟨Ax', cx', by rw [List.getElem?_append_left (by omega)]; exact g1, by rw [List.getElem?_append_left (by omega)]; exact g2, g3.below (hbl.mono hB)⟩
  · have e : k = ls.length := by
      have := (List.getElem?_eq_some_iff.1 hk).1
      simp at this; omega
    subst e
    rw [List.getElem?_append_right (Nat.le_refl _)] at hk
    simp at hk
    subst hk
    refine ⟨Ax, cx, ?_, ?_, hx.below (hbl.mono hB)⟩
    · rw [List.getElem?_append_right (by omega), hcl, Nat.sub_self]; rfl
    · rw [List.getElem?_append_right (by omega), hcl, show ls.length * 2 + 1 - ls.length * 2 = 1 by omega]; rfl
theorem wpList_appS (w : World) {ops : Array Oper} {rest : List Oper} {o : Oper} {a : Act} {Q : Exit → Act → World → Prop} (hgd : o.guard = none) (s x : Operand)
    (ho : o.op = .call { callee := .builtin .append, args := #[s, x], argTypes := #[39, 39] })
    {B base c0 : Nat} {A0 : Option Addr} {ls : List SmpV} (hs : a.eval s = .slice A0 ls.length c0) (hr : OwnSm w B base A0 c0 ls) (hB : B ≤ base) (m c : Nat) (hx : a.eval x = .slice (some ⟨m, 0, none⟩) 1 c) (y : SmpV) {Ax : Option Addr} {cx : Nat} (h0 : w.cell? ⟨m, 0, none⟩ = some (.slice Ax y.X.length cx)) (h1 : w.cell? ⟨m, 1, none⟩ = some (.int .i64 y.Y)) (hrx : Rd (Value.int .i64) w B Ax y.X)
    (hl : ls.length < 100000) (hbase : base ≤ w.heap.size)
    (h : ∀ A' c' w', OwnSm w' B base A' c' (ls ++ [y]) → Below base w w' → (∀ p : Addr, p.block < w.heap.size → offB A0 p.block → w'.cell? p = w.cell? p) → wpList Try.prog ops Q rest (a.put o.dst (.slice A' (ls.length + 1) c')) w') : wpList Try.prog ops Q (o :: rest) a w := by
  refine wpList_plain hgd fun _ hK => ?_
  obtain ⟨A', c', w', hrun, h2, h3, h4⟩ := run_appS w o.type hr hB m c y h0 h1 hrx hl hbase
  unfold Oper.wp execOp
  simp only [ho, resolve, invoke, builtin, Sem.run_bind, Sem.run_pure, Result.andThen_ok, List.map_toArray, List.map_cons, List.map_nil, hs, hx, hrun]
  exact hK _ _ (h A' c' w' h2 h3 h4)
end Go.Proofs.Ytcjkofcgphcjnaa
