
/- Zd: texts joined: QuN QuO SgM SgA PrM HpF HpG HpH TkP TkS PlS. -/
import Derived.Test.YtecgbelgoomneaaGreatZQuB
import Derived.Test.YtecgbelgoomneaaGreatZb
import Derived.Test.YtecgbelgoomneaaGreatZa
import Derived.Test.YtecgbelgoomneaaGreatZHpE
import Derived.Test.YtecgbelgoomneaaGreatZPlR
/- What is pressed to levels may be, is near, and is loosened to what is not far; what is sure; what is turned. Plain mathematics. No program in sight. -/
namespace Go.Proofs.YtecgbelgoomneaaGreat
open Go.RowKit
set_option maxRecDepth 100000
set_option linter.unusedVariables false
theorem prqE_ok {v : List Int} {wide : Int} : prqE v wide = 0 ↔ stsE wide = 0 ∧ v ≠ [] ∧ mostE v = 0 := by
  unfold prqE
  by_cases h : stsE wide ≠ 0 ∨ v = []
  · rw [if_pos h]
    refine ⟨fun h2 => by omega, fun ⟨a, b, _⟩ => ?_⟩
    rcases h with h | h
    · exact absurd a h
    · exact absurd h b
  · rw [if_neg h]
    refine ⟨fun h2 => ⟨Classical.byContradiction fun h3 => h (.inl h3), fun h3 => h (.inr h3), h2⟩, fun ⟨_, _, c⟩ => c⟩
/-- What stands below a number, and whether anything is left, where nothing is wrong. -/
theorem lvl_is {x scale wide : Int} (h : lvlE x scale wide = 0) : lvlL x scale wide = szN x * topQ wide / scale.toNat ∧ lvlR x scale wide = szN x * topQ wide % scale.toNat ∧ szN x ≤ scale.toNat ∧ 1 ≤ topQ wide := by
  have h2 := lvlE_ok.1 h
  refine ⟨?_, ?_, by omega, (topQ_bd h2.1).1⟩
  · unfold lvlL lvQ; rw [if_pos h]
  · unfold lvlR rsQ; rw [if_pos h]
/-- A level that is pressed is the one below, or the one above where something is left; there is such a level. -/
theorem plQ_is {x scale wide : Int} {seed : Nat} {n : List Int} {i : Nat} (h : lvlE x scale wide = 0) :
    (plQ scale wide seed n i x = lvlL x scale wide ∨ (lvlR x scale wide ≠ 0 ∧ plQ scale wide seed n i x = lvlL x scale wide + 1)) ∧ plQ scale wide seed n i x ≤ topQ wide := by
  obtain ⟨a, b, c, d⟩ := lvl_is h
  have hle : lvlL x scale wide ≤ topQ wide := by
    have := lvQ_le c (topQ wide)
    unfold lvQ at this
    rw [a]
    exact this
  unfold plQ
  by_cases hc : 0 < lvlR x scale wide ∧ belV scale.toNat seed (n ++ [(i : Int)]) < lvlR x scale wide
  · rw [if_pos hc]
    refine ⟨.inr ⟨by omega, rfl⟩, ?_⟩
    have h0 : szN x * topQ wide % scale.toNat ≠ 0 := by rw [← b]; omega
    have hs : 0 < scale.toNat := by
      rcases Nat.eq_zero_or_pos scale.toNat with h1 | h1
      · exfalso
        rw [h1, Nat.mod_zero] at h0
        have : szN x = 0 := by omega
        rw [this] at h0
        simp at h0
      · exact h1
    have := qk_room c hs h0
    rw [a]
    exact this
  · rw [if_neg hc]
    exact ⟨.inl rfl, hle⟩
theorem wdt_top {l : Nat} {wide : Int} (hw : stsE wide = 0) (h : l ≤ topQ wide) : (wdt (l : Int) : Int) ≤ wide := by
  have hw2 := stsE_ok.1 hw
  have hb := topQ_bd hw
  have h2 := (bitLen_lt wide.toNat l (by omega) (by omega)).2 (by unfold topQ at h hb; omega)
  unfold wdt
  rw [Int.toNat_natCast]
  omega
theorem prq_parts {v : List Int} {wide : Int} {seed : Nat} {n : List Int} (h : prqE v wide = 0) : prqS v wide seed n = ⟨2, v.length, [], [], mostV v, wide, levQ v wide seed n v.length, negQ v v.length⟩ := if_pos h
theorem prq_lvl {v : List Int} {wide : Int} (h : prqE v wide = 0) {i : Nat} (hi : i < v.length) : lvlE (v.getD i 0) (mostV v) wide = 0 := by
  obtain ⟨h1, h2, h3⟩ := prqE_ok.1 h
  refine lvlE_most h3 h1 ?_
  rw [List.getD_eq_getElem?_getD, List.getElem?_eq_getElem hi, Option.getD_some]
  exact List.getElem_mem hi
theorem prq_may {v : List Int} {wide : Int} {seed : Nat} {n : List Int} (h : prqE v wide = 0) : mayB (prqS v wide seed n) = true := by
  obtain ⟨h1, h2, h3⟩ := prqE_ok.1 h
  obtain ⟨m1, m2, m3, m4, _⟩ := mostq_ok h3
  have hw := stsE_ok.1 h1
  have hl : 1 ≤ v.length := by
    rcases Nat.eq_zero_or_pos v.length with e | e
    · exact absurd (List.length_eq_zero_iff.1 e) h2
    · exact e
  rw [prq_parts h]
  refine mayB_iff.2 ⟨by show (1 : Int) ≤ v.length; omega, by show (v.length : Int) ≤ 4096; omega, .inr (.inr (.inl ⟨rfl, hw.1, hw.2, ?_, ?_, rfl, rfl, m2, ?_⟩))⟩
  · show ((levQ v wide seed n v.length).length : Int) = v.length
    rw [levQ_len]
  · show fitsB wide (levQ v wide seed n v.length) = true
    unfold fitsB levQ
    rw [List.all_map, List.all_eq_true]
    intro i hi
    have hi' := List.mem_range.1 hi
    exact decide_eq_true (wdt_top h1 (plQ_is (prq_lvl h hi')).2)
  · show ((negQ v v.length).length : Int) = v.length
    rw [negQ_len]
theorem levq_getD (v : List Int) (wide : Int) (seed : Nat) (n : List Int) {m i : Nat} (h : i < m) : (levQ v wide seed n m).getD i 0 = (plQ (mostV v) wide seed n i (v.getD i 0) : Int) := by
  rw [List.getD_eq_getElem?_getD, levQ_at v wide seed n h, Option.getD_some]
theorem negq_getD (v : List Int) {m i : Nat} (h : i < m) : (negQ v m).getD i false = decide (v.getD i 0 < 0) := by
  rw [List.getD_eq_getElem?_getD, negQ_at v h, Option.getD_some]
/-- What is pressed is near. -/
theorem prq_near {v : List Int} {wide : Int} {seed : Nat} {n : List Int} (h : prqE v wide = 0) : nearB v (prqS v wide seed n) = true := by
  have hm := prq_may (seed := seed) (n := n) h
  have hp := prq_parts (seed := seed) (n := n) h
  unfold nearB
  rw [Bool.and_eq_true]
  constructor
  · unfold nrHead
    rw [decide_eq_true_iff]
    refine ⟨(prqE_ok.1 h).2.2, hm, ?_, ?_, ?_⟩ <;> rw [hp]
  · unfold nrAll
    rw [List.all_eq_true]
    intro i hi
    have hi' := List.mem_range.1 hi
    rw [hp]
    show nrOne (v.getD i 0) (mostV v) wide ((levQ v wide seed n v.length).getD i 0) ((negQ v v.length).getD i false) = true
    rw [levq_getD v wide seed n hi', negq_getD v hi']
    unfold nrOne
    rw [Bool.and_eq_true]
    refine ⟨by simp, ?_⟩
    rcases (plQ_is (seed := seed) (n := n) (i := i) (prq_lvl h hi')).1 with e | ⟨e0, e⟩
    · rw [e]; simp
    · rw [e]
      have : (lvlR (v.getD i 0) (mostV v) wide != 0) = true := by simpa using e0
      rw [this]
      simp
end Go.Proofs.YtecgbelgoomneaaGreat
/- What is sure of a vector that is pressed; vectors turned, and laid behind one another; steps of a scale. Plain mathematics. No program in sight. -/
/- Signs with a mean: sums of sizes, what is pressed, loosened, turned, scaled; votes, and how many signs turn. Plain mathematics. No program in sight. -/
namespace Go.Proofs.YtecgbelgoomneaaGreat
open Go.RowKit
set_option maxRecDepth 100000
set_option linter.unusedVariables false
/-- All sizes together. -/
def sumS (v : List Int) : Nat := (v.map szN).sum
theorem sumS_snoc (v : List Int) (x : Int) : sumS (v ++ [x]) = sumS v + szN x := by unfold sumS; simp
theorem absI_sz (x : Int) : absI x = (szN x : Int) := by unfold absI szN; split <;> omega
/-- Added up one by one: as far as they go. -/
theorem tot_sum (v : List Int) : ∀ k, k ≤ v.length → ((tot (numA v) k).2 = 0 ↔ sumS (v.take k) ≤ 9223372036854775807) ∧ ((tot (numA v) k).2 = 0 → (tot (numA v) k).1 = (sumS (v.take k) : Int)) ∧ ((tot (numA v) k).2 = 0 ∨ (tot (numA v) k).2 = 2)
  | 0, _ => by
    refine ⟨⟨fun _ => by simp [sumS], fun _ => rfl⟩, fun _ => by simp [tot, sumS], .inl rfl⟩
  | k + 1, h => by
    obtain ⟨i1, i2, i3⟩ := tot_sum v k (by omega)
    have hx : v[k]? = some (v.getD k 0) := by rw [List.getD_eq_getElem?_getD, List.getElem?_eq_getElem (by omega), Option.getD_some]
    have hs : sumS (v.take (k + 1)) = sumS (v.take k) + szN (v.getD k 0) := by rw [take_snoc hx, sumS_snoc]
    obtain ⟨x, hxx⟩ : ∃ x, v.getD k 0 = x := ⟨_, rfl⟩
    have hn : numA v k = (ckV (szN x : Int), ckE (szN x : Int)) := by unfold numA; rw [hxx, absI_sz]
    rw [hs, hxx]
    rw [tot]
    by_cases h0 : (tot (numA v) k).2 = 0
    · rw [if_pos h0, hn]
      have e1 := i2 h0
      have e2 := i1.1 h0
      by_cases h1 : szN x ≤ 9223372036854775807
      · have c1 : I64 (szN x : Int) := by unfold I64; omega
        rw [if_pos (ckE_in c1)]
        show (ckE ((tot (numA v) k).1 + ckV (szN x : Int)) = 0 ↔ _) ∧ (ckE ((tot (numA v) k).1 + ckV (szN x : Int)) = 0 → ckV ((tot (numA v) k).1 + ckV (szN x : Int)) = _) ∧ _
        rw [ckV_in c1, e1]
        by_cases h2 : sumS (v.take k) + szN x ≤ 9223372036854775807
        · have c2 : I64 ((sumS (v.take k) : Int) + (szN x : Int)) := by unfold I64; omega
          refine ⟨⟨fun _ => h2, fun _ => ckE_in c2⟩, fun _ => ?_, .inl (ckE_in c2)⟩
          rw [ckV_in c2]
          omega
        · have c2 : ¬ I64 ((sumS (v.take k) : Int) + (szN x : Int)) := by unfold I64; omega
          have c3 : ckE ((sumS (v.take k) : Int) + (szN x : Int)) = 2 := if_neg c2
          rw [c3]
          exact ⟨⟨fun h => absurd h (by decide), fun h => absurd h h2⟩, fun h => absurd h (by decide), .inr rfl⟩
      · have c1 : ¬ I64 (szN x : Int) := by unfold I64; omega
        have c3 : ckE (szN x : Int) = 2 := if_neg c1
        rw [c3]
        show ((if (2 : Int) = 0 then _ else (_ : Int × Int)).2 = 0 ↔ _) ∧ _
        rw [if_neg (by decide)]
        exact ⟨⟨fun h => absurd (show (2 : Int) = 0 from h) (by decide), fun h => by omega⟩, fun h => absurd (show (2 : Int) = 0 from h) (by decide), .inr rfl⟩
    · rw [if_neg h0]
      refine ⟨⟨fun h => absurd h h0, fun h => absurd (i1.2 (by omega)) h0⟩, fun h => absurd h h0, i3⟩
theorem sizeV_is {v : List Int} (h : sizeE v = 0) : v.length ≤ 4096 ∧ sumS v ≤ 9223372036854775807 ∧ sizeV v = (sumS v : Int) := by
  have hl : v.length ≤ 4096 := by
    unfold sizeE at h
    by_cases hn : 4096 < v.length
    · rw [if_pos hn] at h; cases h
    · omega
  obtain ⟨a, b, _⟩ := tot_sum v v.length (Nat.le_refl _)
  rw [List.take_length] at a b
  have e : sizeE v = (tot (numA v) v.length).2 := if_neg (by omega)
  rw [e] at h
  refine ⟨hl, a.1 h, ?_⟩
  rw [← b h]
  exact if_neg (by omega)
/-- The mean of sizes, and what is pressed. -/
def mnE (v : List Int) : Int := if v = [] then 1 else sizeE v
def mnN (v : List Int) : Nat := sumS v / v.length
def mnV (v : List Int) : Int := if mnE v = 0 then (mnN v : Int) else 0
def sgN (v : List Int) : List Bool := v.map fun n => decide (n < 0)
def sgS (v : List Int) : SentV := if mnE v = 0 then ⟨3, v.length, [], [], mnV v, 0, [], sgN v⟩ else zeroS
theorem mnE_ok {v : List Int} : mnE v = 0 ↔ v ≠ [] ∧ sizeE v = 0 := by
  unfold mnE
  by_cases h : v = []
  · rw [if_pos h]
    exact ⟨fun h2 => absurd h2 (by decide), fun h2 => absurd h h2.1⟩
  · rw [if_neg h]
    exact ⟨fun h2 => ⟨h, h2⟩, fun h2 => h2.2⟩
theorem sgN_len (v : List Int) : (sgN v).length = v.length := by unfold sgN; simp
theorem sg_may {v : List Int} (h : mnE v = 0) : mayB (sgS v) = true := by
  obtain ⟨h0, h1⟩ := mnE_ok.1 h
  have hl := (sizeV_is h1).1
  have h2 : 1 ≤ v.length := by
    rcases Nat.eq_zero_or_pos v.length with e | e
    · exact absurd (List.length_eq_zero_iff.1 e) h0
    · exact e
  unfold sgS
  rw [if_pos h]
  refine mayB_iff.2 ⟨by show (1 : Int) ≤ v.length; omega, by show (v.length : Int) ≤ 4096; omega, .inr (.inr (.inr ⟨rfl, rfl, rfl, rfl, rfl, ?_, ?_⟩))⟩
  · show 0 ≤ mnV v
    unfold mnV
    rw [if_pos h]
    omega
  · show ((sgN v).length : Int) = v.length
    rw [sgN_len]
/-- Loosened. -/
def lsgE (s : SentV) : Int := if mayB s = true ∧ s.sch = 3 then 0 else 1
def lsgL (scale : Int) (l : List Bool) : List Int := l.map fun b => if b = true then -scale else scale
def lsgV (s : SentV) : List Int := if lsgE s = 0 then lsgL s.scale s.neg else []
end Go.Proofs.YtecgbelgoomneaaGreat
/- The mean size; pressed to signs: by the document. -/
namespace Go.Proofs.YtecgbelgoomneaaGreat
open Go.RowKit
set_option maxHeartbeats 400000
set_option maxRecDepth 100000
set_option linter.unusedVariables false
theorem mnN_le (v : List Int) : mnN v ≤ sumS v := Nat.div_le_self _ _
/-- A vector that a call tells, its signs the call's own. -/
def OwnSg (base : Nat) (s : SentV) (er : Int) (w : World) (e : Ending) (w' : World) : Prop :=
  ∃ A c, e = .returned (.tuple #[encT s ⟨none, 0, none, 0, none, 0, A, c⟩, .int .i64 er]) ∧ s.L = [] ∧ s.V = [] ∧ s.lev = [] ∧
    w'.ownsRow base 4 1 (.slice A s.neg.length c) s.neg.length (s.neg.map Value.bool) ∧ Below base w w'
theorem OwnSg.rd {base : Nat} {s : SentV} {w' : World} {A : Option Addr} {c : Nat} (h1 : s.L = []) (h2 : s.V = []) (h3 : s.lev = []) (o : w'.ownsRow base 4 1 (.slice A s.neg.length c) s.neg.length (s.neg.map Value.bool)) :
    RdS w' w'.heap.size s ⟨none, 0, none, 0, none, 0, A, c⟩ := ⟨by rw [h1]; exact Rd.none_, by rw [h2]; exact Rd.none_, by rw [h3]; exact Rd.none_, own_rd o⟩
end Go.Proofs.YtecgbelgoomneaaGreat
/- Press by way: what is pressed, loosened, left, met, and round by round. Plain mathematics. No program in sight. -/
namespace Go.Proofs.YtecgbelgoomneaaGreat
open Go.RowKit
set_option maxRecDepth 100000
set_option linter.unusedVariables false
/-- Whether a way is one for so many numbers. -/
def howP (sch k wide dim : Int) : Prop := 1 ≤ dim ∧ dim ≤ 4096 ∧
  ((sch = 0 ∧ k = 0 ∧ wide = 0) ∨ (sch = 1 ∧ 0 ≤ k ∧ k ≤ dim ∧ wide = 0) ∨ (sch = 2 ∧ k = 0 ∧ 1 ≤ wide ∧ wide ≤ 8) ∨ (sch = 3 ∧ k = 0 ∧ wide = 0))
instance (sch k wide dim : Int) : Decidable (howP sch k wide dim) := by unfold howP; infer_instance
def howE (sch k wide dim : Int) : Int := if howP sch k wide dim then 0 else 1
theorem howE_ok {sch k wide dim : Int} : howE sch k wide dim = 0 ↔ howP sch k wide dim := by unfold howE; split <;> simp [*]
def denS (v : List Int) : SentV := ⟨0, v.length, [], v, 0, 0, [], []⟩
/-- What the way itself tells. -/
def wayE (sch k wide : Int) (v : List Int) : Int := if sch = 1 then prsE v k else if sch = 2 then prqE v wide else if sch = 3 then mnE v else 0
def wayS (sch k wide : Int) (v : List Int) (seed : Nat) (n : List Int) : SentV := if sch = 1 then prsS v k else if sch = 2 then prqS v wide seed n else if sch = 3 then sgS v else denS v
def ppE (sch k wide : Int) (v : List Int) : Int := if 4096 < v.length then 3 else if howE sch k wide v.length ≠ 0 then 1 else wayE sch k wide v
def ppS (sch k wide : Int) (v : List Int) (seed : Nat) (n : List Int) : SentV := if ppE sch k wide v = 0 then wayS sch k wide v seed n else zeroS
theorem ppE_ok {sch k wide : Int} {v : List Int} : ppE sch k wide v = 0 ↔ v.length ≤ 4096 ∧ howP sch k wide v.length ∧ wayE sch k wide v = 0 := by
  unfold ppE
  rw [← howE_ok]
  constructor
  · intro h
    split at h
    · cases h
    · split at h
      · cases h
      · rename_i h1 h2
        exact ⟨by omega, by simpa using h2, h⟩
  · rintro ⟨h1, h2, h3⟩
    rw [if_neg (by omega), if_neg (by simp [h2]), h3]
theorem pp_is {sch k wide : Int} {v : List Int} {seed : Nat} {n : List Int} (h : ppE sch k wide v = 0) : ppS sch k wide v seed n = wayS sch k wide v seed n := if_pos h
/-- What is pressed may be, is of the way's scheme, and of so many numbers. -/
theorem pp_may {sch k wide : Int} {v : List Int} {seed : Nat} {n : List Int} (uv : ∀ x ∈ v, I64 x) (h : ppE sch k wide v = 0) :
    mayB (ppS sch k wide v seed n) = true ∧ (ppS sch k wide v seed n).sch = sch ∧ (ppS sch k wide v seed n).dim = v.length := by
  rw [pp_is h]
  obtain ⟨h1, ⟨d1, d2, hp⟩, h3⟩ := ppE_ok.1 h
  unfold wayE at h3
  unfold wayS
  have h0 : v ≠ [] := fun e => by rw [e] at d1; simp at d1
  rcases hp with ⟨rfl, rfl, rfl⟩ | ⟨rfl, k1, k2, rfl⟩ | ⟨rfl, rfl, w1, w2⟩ | ⟨rfl, rfl, rfl⟩
  · rw [if_neg (by decide), if_neg (by decide), if_neg (by decide)]
    exact ⟨mayB_iff.2 ⟨d1, d2, .inl ⟨rfl, rfl, rfl, rfl, rfl, rfl, rfl⟩⟩, rfl, rfl⟩
  · rw [if_pos rfl] at h3 ⊢
    have hk : pikE v k = 0 := by unfold prsE at h3; rwa [if_neg h0] at h3
    obtain ⟨p1, p2⟩ := prs_ok h0 hk
    have hm := (prs_may uv h0 hk).1
    rw [p2] at hm ⊢
    exact ⟨hm, rfl, rfl⟩
  · rw [if_neg (by decide), if_pos rfl] at h3 ⊢
    refine ⟨prq_may h3, ?_, ?_⟩ <;> rw [prq_parts h3]
  · rw [if_neg (by decide), if_neg (by decide), if_pos rfl] at h3 ⊢
    refine ⟨sg_may h3, ?_, ?_⟩ <;> rw [show sgS v = ⟨3, v.length, [], [], mnV v, 0, [], sgN v⟩ from if_pos h3]
/-- What is loosened. -/
def ploE (s : SentV) : Int := if mayB s = true then 0 else 1
def ploV (s : SentV) : List Int := if mayB s = true then (if s.sch = 1 then spV s.dim s.L s.V else if s.sch = 2 then loqV s else if s.sch = 3 then lsgV s else s.V) else []
theorem ploE_ok {s : SentV} : ploE s = 0 ↔ mayB s = true := by unfold ploE; split <;> simp [*]
theorem plo_len {s : SentV} (h : mayB s = true) : ((ploV s).length : Int) = s.dim := by
  obtain ⟨d1, d2, hp⟩ := mayB_iff.1 h
  unfold ploV
  rw [if_pos h]
  rcases hp with ⟨e, _, e2, _⟩ | ⟨e, e2, e3, _⟩ | ⟨e, _, _, e2, _, _, _, _, e3⟩ | ⟨e, _, _, _, _, _, e2⟩
  · rw [if_neg (by omega), if_neg (by omega), if_neg (by omega)]; exact e2
  · rw [if_pos e]
    obtain ⟨K, hK⟩ := Int.eq_ofNat_of_zero_le (show 0 ≤ s.dim by omega)
    rw [hK] at e2 ⊢
    have := (sp_ok e2 e3.symm).2
    rw [this, List.length_map, upI_len]
  · have h0 : loqE s = 0 := if_pos ⟨h, e⟩
    rw [if_neg (by omega), if_pos e]
    unfold loqV
    rw [if_pos h0, loqL_len]; exact e2
  · have h0 : lsgE s = 0 := if_pos ⟨h, e⟩
    rw [if_neg (by omega), if_neg (by omega), if_pos e]
    unfold lsgV
    rw [if_pos h0]
    unfold lsgL
    rw [List.length_map]; exact e2
theorem plo_le (s : SentV) : (ploV s).length ≤ 4096 := by
  by_cases h : mayB s = true
  · have := plo_len h
    have := (mayB_iff.1 h).2.1
    omega
  · unfold ploV; rw [if_neg h]; simp
/-- What is left. -/
def plfE (v : List Int) (s : SentV) : Int := if ploE s ≠ 0 then ploE s else opE (· - ·) v (ploV s)
def plfV (v : List Int) (s : SentV) : List Int := if ploE s = 0 then opV (· - ·) v (ploV s) else []
theorem plfE_ok {v : List Int} {s : SentV} : plfE v s = 0 ↔ mayB s = true ∧ opE (· - ·) v (ploV s) = 0 := by
  unfold plfE
  rw [← ploE_ok]
  by_cases h : ploE s = 0
  · rw [if_neg (by simp [h])]; simp [h]
  · rw [if_pos h]; simp [h]
/-- Loosened, with what is left, it is what was pressed. -/
theorem plf_back {v : List Int} {s : SentV} (uv : ∀ x ∈ v, I64 x) (h : plfE v s = 0) :
    opE (· + ·) (ploV s) (plfV v s) = 0 ∧ opV (· + ·) (ploV s) (plfV v s) = v ∧ (plfV v s).length = v.length ∧ ∀ k, k < v.length → (ploV s).getD k 0 + (plfV v s).getD k 0 = v.getD k 0 := by
  obtain ⟨h1, h2⟩ := plfE_ok.1 h
  have e : plfV v s = opV (· - ·) v (ploV s) := if_pos (ploE_ok.2 h1)
  obtain ⟨a1, a2, a3, a4⟩ := op_ok h2
  rw [e]
  have hl : (opV (· - ·) v (ploV s)).length = v.length := by rw [a4]; simp
  have hg : ∀ k, k < v.length → (opV (· - ·) v (ploV s)).getD k 0 = v.getD k 0 - (ploV s).getD k 0 := fun k hk => by rw [a4, getD_range hk]
  have b := op_mk (f := (· + ·)) (xs := ploV s) (ys := opV (· - ·) v (ploV s)) (by omega) (by omega) fun k hk => by
    show I64 (_ + _)
    rw [hg k (by omega), show (ploV s).getD k 0 + (v.getD k 0 - (ploV s).getD k 0) = v.getD k 0 by omega]
    exact i64_getD uv (by omega)
  refine ⟨b.1, ?_, hl, fun k hk => by rw [hg k hk]; omega⟩
  rw [b.2, a2]
  conv => rhs; rw [← range_getDv v]
  refine map_range_ext fun k hk => ?_
  show _ + _ = _
  rw [hg k hk]; omega
/-- A round. -/
def prdU (g left : List Int) : List Int := opV (· + ·) g left
def prdE (sch k wide : Int) (g left : List Int) (seed : Nat) (n : List Int) : Int :=
  if opE (· + ·) g left ≠ 0 then opE (· + ·) g left else if ppE sch k wide (prdU g left) ≠ 0 then ppE sch k wide (prdU g left) else plfE (prdU g left) (ppS sch k wide (prdU g left) seed n)
def prdS (sch k wide : Int) (g left : List Int) (seed : Nat) (n : List Int) : SentV := if prdE sch k wide g left seed n = 0 then ppS sch k wide (prdU g left) seed n else zeroS
def prdV (sch k wide : Int) (g left : List Int) (seed : Nat) (n : List Int) : List Int := if prdE sch k wide g left seed n = 0 then plfV (prdU g left) (ppS sch k wide (prdU g left) seed n) else []
end Go.Proofs.YtecgbelgoomneaaGreat
/- The library's Push and Pop over the pile. -/
namespace Go.Proofs.YtecgbelgoomneaaGreat
open Go.RowKit
set_option maxHeartbeats 400000
set_option maxRecDepth 100000
set_option linter.unusedVariables false
theorem Otr.trans2 {x y z : Nat} {a b c : World} (h : Otr x y a b) (k : Otr x z b c) (hz : z = y ∨ a.heap.size ≤ z) : Otr x y a c :=
  ⟨k.os.trans h.os, k.tape.trans h.tape, k.output.trans h.output, Nat.le_trans h.size k.size, fun i hi h1 h2 => (k.block i (Nat.lt_of_lt_of_le hi h.size) h1 (by omega)).trans (h.block i hi h1 h2)⟩
/-- A heap in a box. -/
def HeapAt (w : World) (B bp : Nat) (d : Array (Nat × Nat)) (g cap : Nat) : Prop := HpOk d d.size ∧ PileAt w B bp g cap d
set_option maxHeartbeats 1000000 in
theorem hp_PushH {B bp g cap : Nat} (d : Array (Nat × Nat)) (x1 x2 : Nat) (hl : d.size < 100000) (w : World) (h : HeapAt w B bp d g cap) (hB : B ≤ w.heap.size) :
    Calls Tryz.prog 224 #[.iface 203 (.pointer (some ⟨bp, 0, none⟩)), .iface 205 (.agg #[.int .i64 (x1 : Int), .int .u64 (x2 : Int)])] w fun e w' => e = .returned (.tuple #[]) ∧
      ∃ g' cap' d', d'.size = d.size + 1 ∧ d'.toList.Perm (d.toList ++ [(x1, x2)]) ∧ HeapAt w' B bp d' g' cap' ∧ Otr bp g w w' ∧ (g' = g ∨ w.heap.size ≤ g') := by
  have C := hid (hp_PushM d x1 x2 hl w h.2 hB)
  have HO := hid h.1
  clear h
  go_enter Tryz.func224, Tryz.ntmps224
  go_wp2_with fail
  refine C.out.mono ?_
  rintro _ w1 ⟨rfl, g1, cap1, h1, ho1, hg1⟩
  have H1 := hid h1
  have b1 := h1.1
  have f1 := h1.2.1
  have HO1 := hid ho1
  have HG1 := hid hg1
  have hsz : (d.push (x1, x2)).size = d.size + 1 := by simp
  have CU := hid (hp_up (d.push (x1, x2)) d.size (by omega) (by omega) (by rw [hsz]; exact hp_push HO.out _) w1 h1)
  have HD : Hid ((d.push (x1, x2)).toList = d.toList ++ [(x1, x2)]) := hid (by simp)
  have m1 := hp_meth0 (nm := "Len") (f := 226) (by kernel_rfl) w1 b1
  clear h1 ho1 hg1 hsz C
  go_wp2_with fail
  refine (hp_Len w1).mono ?_
  rintro _ _ ⟨rfl, rfl⟩
  go_wp2_with fail
  refine CU.out.mono ?_
  rintro _ w2 ⟨rfl, d2, hs, hp, hk, hP, hO⟩
  have HS : Hid (d2.size = d.size + 1) := hid (by rw [hs]; simp)
  have HP := hid hP
  have HO2 := hid hO
  have HK := hid hk
  clear hs hP hO hk
  go_wp2_with fail
  go_end0
  refine ⟨rfl, g1, cap1, d2, HS.out, by rw [← HD.out]; exact hp, ⟨?_, HP.out⟩, HO1.out.trans2 HO2.out HG1.out, HG1.out⟩
  have := HK.out
  rwa [HS.out, ← show (d.push (x1, x2)).size = d.size + 1 by simp]
set_option maxHeartbeats 1000000 in
theorem hp_PopH {B bp g cap n : Nat} (d : Array (Nat × Nat)) (hn : d.size = n + 1) (hl : d.size < 100000) (w : World) (h : HeapAt w B bp d g cap) :
    Calls Tryz.prog 227 #[.iface 203 (.pointer (some ⟨bp, 0, none⟩))] w fun e w' =>
      ∃ (x1 x2 : Nat) (d' : Array (Nat × Nat)), e = .returned (.iface 205 (.agg #[.int .i64 (x1 : Int), .int .u64 (x2 : Int)])) ∧ d'.size = n ∧ ((x1, x2) :: d'.toList).Perm d.toList ∧ (∀ y ∈ d'.toList, beh y (x1, x2) = false) ∧ HeapAt w' B bp d' g cap ∧ Otr bp g w w' := by
  obtain ⟨hO, hP⟩ := h
  have HO := hid hO
  have HP := hid hP
  have b0 := hP.1
  have f0 := hP.2.1
  have HN := hid hn
  have m0 := hp_meth0 (nm := "Len") (f := 226) (by kernel_rfl) w b0
  have CS : Hid (Calls Tryz.prog 277 #[.slice (some ⟨g, 0, none⟩) d.size cap, .int .i64 0, .int .i64 (n : Int)] w fun e w' => e = .returned (.tuple #[]) ∧ RwE w' B g cap (Go.Sort.swp d 0 n) ∧ Otr g g w w') := hid (by
    have := hp_Swap d 0 n (by omega) (by omega) w hP.2.2.1
    rwa [show ((0 : Nat) : Int) = 0 from rfl] at this)
  have mS := hp_meth0 (nm := "Swap") (f := 277) (by kernel_rfl) w b0
  have e1 : IntKind.i64.wrap ((d.size : Int) - 1) = (n : Int) := by rw [IntKind.wrap_i64]; omega
  clear hO hP hn
  go_enter Tryz.func227, Tryz.ntmps227
  go_wp2_with fail
  refine (hp_Len w).mono ?_
  rintro _ _ ⟨rfl, rfl⟩
  go_wp2_with fail
  refine CS.out.mono ?_
  rintro _ w1 ⟨rfl, hr1, ho1⟩
  have hne := HP.out.2.2.2
  have hsz : (Go.Sort.swp d 0 n).size = d.size := Go.Sort.size_swp _ _ _
  have hbk := ho1.block bp HP.out.lt hne hne
  have hP1 : PileAt w1 B bp g cap (Go.Sort.swp d 0 n) := ⟨by rw [hsz]; exact (cell_blk hbk).trans HP.out.1, (froz_blk hbk).trans HP.out.2.1, hr1, hne⟩
  have HO1 : Hid (Otr bp g w w1) := hid (ho1.wide (.inr rfl) (.inr rfl))
  have hnd : n < d.size := by have := HN.out; omega
  have CD := hid (hp_down (Go.Sort.swp d 0 n) n (by omega) (by omega) (hp_lower (by rw [← HN.out]; exact HO.out) hnd) w1 hP1)
  have HPR : Hid ((Go.Sort.swp d 0 n).toList.Perm d.toList) := hid (swp_perm (by omega) hnd)
  have HLA : Hid ((Go.Sort.swp d 0 n)[n]! = d[0]!) := hid (Go.Sort.swp_right d 0 n hnd)
  have HSZ := hid hsz
  clear hr1 ho1 hbk hP1 hsz m0 mS CS b0 f0 e1 hnd
  go_wp2_with fail
  refine CD.out.mono ?_
  rintro _ w2 ⟨⟨r, rfl⟩, d2, hs2, hp2, hk2, hO2, hP2, ho2⟩
  have hs2' : d2.size = n + 1 := by rw [hs2, HSZ.out, HN.out]
  have CP := hid (hp_PopM d2 hs2' w2 hP2)
  have HP2 := hid hp2
  have HK2 := hid (hk2 n (Nat.le_refl _))
  have HO2 := hid hO2
  have HO3 := hid ho2
  have HS2 := hid hs2'
  clear hs2 hp2 hk2 hO2 hP2 ho2 hs2' CD
  go_wp2_with fail
  refine CP.out.mono ?_
  rintro _ w3 ⟨rfl, hP3, ho3⟩
  have HP3 := hid hP3
  have HO4 := hid ho3
  clear hP3 ho3 CP
  go_wp2_with fail
  go_ret
  have hs3 : d2.pop.size = n := by have := HS2.out; simp; omega
  have hl2 : d2.toList = d2.pop.toList ++ [d2[n]!] := by
    have hs := HS2.out
    refine List.ext_getElem? fun i => ?_
    by_cases hi : i < n
    · rw [List.getElem?_append_left (by simp; omega), Array.getElem?_toList, Array.getElem?_toList, Array.getElem?_eq_getElem (by omega), Array.getElem?_eq_getElem (by simp; omega), Array.getElem_pop]
    · rw [List.getElem?_append_right (by simp; omega)]
      by_cases he : i = n
      · subst he
        rw [getElem!_pos d2 i (by omega), Array.getElem?_toList, Array.getElem?_eq_getElem (by omega)]
        simp [hs]
      · rw [List.getElem?_eq_none (by simp; omega), List.getElem?_eq_none (by simp; omega)]
  have hx : d2[n]! = d[0]! := HK2.out.trans HLA.out
  have hpp : ((d2[n]!.1, d2[n]!.2) :: d2.pop.toList).Perm d.toList := by
    have h1 : (d2[n]! :: d2.pop.toList).Perm d2.toList := by
      rw [hl2]
      exact (List.perm_append_comm (l₁ := d2.pop.toList) (l₂ := [d2[n]!])).symm
    exact h1.trans (HP2.out.trans HPR.out)
  refine ⟨d2[n]!.1, d2[n]!.2, d2.pop, rfl, hs3, hpp, fun y hy => ?_, ⟨fun i i0 hi => ?_, HP3.out⟩, (HO1.out.trans HO3.out).trans HO4.out⟩
  · have hy2 := hpp.mem_iff.1 (List.mem_cons_of_mem _ hy)
    obtain ⟨i, hi, rfl⟩ := List.mem_iff_getElem.1 hy2
    have hi' : i < d.size := by simpa using hi
    have := hp_top HO.out i hi'
    rw [getElem!_pos d i hi'] at this
    show beh _ d2[n]! = false
    rw [hx, Array.getElem_toList]
    exact this
  · rw [hs3] at hi
    rw [pop_get (by have := HS2.out; omega), pop_get (by have := HS2.out; omega)]
    exact HO2.out i i0 hi
end Go.Proofs.YtecgbelgoomneaaGreat
/- The greatest numbers, on a heap; their places. -/
namespace Go.Proofs.YtecgbelgoomneaaGreat
open Go.RowKit
set_option maxHeartbeats 400000
set_option maxRecDepth 100000
set_option linter.unusedVariables false
theorem hp_size (n : Int) (hn : I64 n) (w : World) : Calls Tryz.prog 225 #[.int .i64 n] w fun e w' => e = .returned (.int .u64 (szN n : Int)) ∧ w = w' := by
  unfold I64 at hn
  have hs : Hid (n < 0 → (szN n : Int) = -n) := hid (fun h => by unfold szN; omega)
  have hp : Hid (¬ n < 0 → (szN n : Int) = n) := hid (fun h => by unfold szN; omega)
  obtain ⟨z, hz⟩ : ∃ z, (szN n : Int) = z := ⟨_, rfl⟩
  rw [hz] at hs hp ⊢
  clear hz
  by_cases h : n < 0
  · rw [hs.out h]
    have e1 : IntKind.u64.wrap n = n + 18446744073709551616 := by rw [IntKind.wrap_u64]; omega
    have e2 : IntKind.u64.wrap (-(n + 18446744073709551616)) = -n := by rw [IntKind.wrap_u64]; omega
    clear hs hp
    go_enter Tryz.func225, Tryz.ntmps225
    go_wp2_with fail
    go_ret
    exact ⟨by first | rfl | (simp <;> omega), rfl⟩
  · rw [hp.out h]
    have e1 : IntKind.u64.wrap n = n := by rw [IntKind.wrap_u64]; omega
    clear hs hp
    go_enter Tryz.func225, Tryz.ntmps225
    go_wp2_with fail
    go_ret
    exact ⟨by first | rfl | (simp <;> omega), rfl⟩
theorem hp_check {A : Option Addr} {c : Nat} (k : Int) (v : List Int) (w : World) : Calls Tryz.prog 197 #[.int .i64 k, .slice A v.length c] w fun e w' => e = .returned (.int .i64 (pikE v k)) ∧ w = w' := by
  by_cases h1 : 4096 < v.length
  · have e : pikE v k = 3 := by unfold pikE orkE; rw [if_pos h1, if_pos (by decide)]
    rw [e]
    have h1' : (v.length : Int) > 4096 := by omega
    clear e
    go_enter Tryz.func197, Tryz.ntmps197
    go_wp2_with fail
    go_ret
    exact ⟨rfl, rfl⟩
  · have h1' : ¬ (v.length : Int) > 4096 := by omega
    by_cases h2 : k < 0
    · have e : pikE v k = 1 := by unfold pikE orkE; rw [if_neg h1, if_neg (by decide), if_pos (.inl h2)]
      rw [e]
      clear e
      go_enter Tryz.func197, Tryz.ntmps197
      go_wp2_with fail
      go_ret
      exact ⟨rfl, rfl⟩
    · by_cases h3 : k > (v.length : Int)
      · have e : pikE v k = 1 := by unfold pikE orkE; rw [if_neg h1, if_neg (by decide), if_pos (.inr h3)]
        rw [e]
        clear e
        go_enter Tryz.func197, Tryz.ntmps197
        go_wp2_with fail
        go_ret
        exact ⟨rfl, rfl⟩
      · have e : pikE v k = 0 := pikE_ok.2 (by omega)
        rw [e]
        clear e
        go_enter Tryz.func197, Tryz.ntmps197
        go_wp2_with fail
        go_ret
        exact ⟨rfl, rfl⟩
theorem run_roomE (c : Nat) (hc : c ≤ 100000) (w : World) : (Instr.makeSlice 181 (.int .i64 0) (.int .i64 (c : Int))).run Tryz.prog w = .ok (.slice (some ⟨w.heap.size, 0, none⟩) 0 c) (w.alloc (.cells (madeCells #[.int .i64 0, .int .u64 0] (c * 2)) 205)) := by
  obtain ⟨i, hi, hzz⟩ := Option.map_eq_some_iff.1 info_ent
  simp only [Prod.mk.injEq] at hzz
  obtain ⟨hz, hs, hb⟩ := hzz
  have h : ((i.bytes * c : Nat) : Int) ≤ 281474976710656 := by rw [hb]; omega
  have hr := run_make (P := Tryz.prog) w 181 205 i _ (by kernel_rfl) hi hz .i64 .i64 0 c (Int.le_refl _) (by omega) (by rwa [Int.natCast_mul] at h) (by omega)
  simp only [Int.toNat_natCast, hs, Int.toNat_zero] at hr
  exact hr
theorem own_roomE (w : World) (c : Nat) (hc : c ≤ 100000) : RwE (w.alloc (.cells (madeCells #[.int .i64 0, .int .u64 0] (c * 2)) 205)) w.heap.size w.heap.size c #[] := by
  have h := World.ownsRow_made (e := 205) (size := 2) (base := w.heap.size) w (madeCells #[.int .i64 0, .int .u64 0] (c * 2)) c (Nat.le_refl _) (by unfold maxLen; omega) (by rw [size_madeCells])
  exact h
/-- A row of entries that is a heap, told. -/
def OwnHp (B : Nat) (l : List (Nat × Nat)) (w : World) (e : Ending) (w' : World) : Prop :=
  ∃ g cap d, e = .returned (.slice (some ⟨g, 0, none⟩) d.size cap) ∧ d.toList.Perm l ∧ HpOk d d.size ∧ RwE w' B g cap d ∧ Below B w w'
set_option maxHeartbeats 2000000 in
theorem hp_greatest {A : Option Addr} {c : Nat} (k : Nat) (v : List Int) (uv : ∀ x ∈ v, I64 x) (hl : v.length ≤ 4096) (hk : k ≤ v.length) (w : World) (ra : Rd (Value.int .i64) w w.heap.size A v) :
    Calls Tryz.prog 198 #[.int .i64 (k : Int), .slice A v.length c] w (OwnHp w.heap.size (ctn v v.length k) w) := by
  have HA := hid ra
  have UV := hid uv
  have hmk : ∀ W, (Instr.makeSlice 181 (.int .i64 0) (.int .i64 ((k : Int) + 1))).run Tryz.prog W = .ok (.slice (some ⟨W.heap.size, 0, none⟩) 0 (k + 1)) (W.alloc (.cells (madeCells #[.int .i64 0, .int .u64 0] ((k + 1) * 2)) 205)) := fun W => by
    have := run_roomE (k + 1) (by omega) W
    rwa [show ((k + 1 : Nat) : Int) = (k : Int) + 1 by omega] at this
  have HRO := hid (own_roomE w (k + 1) (by omega))
  have HC0 := hid (ctn_zero v k)
  have HCL := hid (fun m (hm : m ≤ v.length) => ctn_len (v := v) (m := m) (k := k) hm)
  have HCM := hid (fun m (hm : m < v.length) (h : m < k) => ctn_more (v := v) hm h)
  have HCF := hid (fun m (hm : m < v.length) (h : k ≤ m) (x : Nat × Nat) (l : List (Nat × Nat)) => ctn_full (v := v) hm h (x := x) (l := l))
  clear ra uv
  go_enter Tryz.func198, Tryz.ntmps198
  go_wp2_with fail
  obtain ⟨w1, hw1⟩ : ∃ w1, w.alloc (.cells (madeCells #[.int .i64 0, .int .u64 0] ((k + 1) * 2)) 205) = w1 := ⟨_, rfl⟩
  have k1 : Below w.heap.size w w1 := by rw [← hw1]; exact (Below.refl _ _).alloc (Nat.le_refl _) _
  have s1 : w1.heap.size = w.heap.size + 1 := by rw [← hw1]; simp
  rw [hw1] at HRO ⊢
  obtain ⟨w2, hw2⟩ : ∃ w2, w1.alloc (.cells #[.slice (some ⟨w.heap.size, 0, none⟩) 0 (k + 1)] 181) = w2 := ⟨_, rfl⟩
  have k2 : Below w1.heap.size w1 w2 := by rw [← hw2]; exact (Below.refl _ _).alloc (Nat.le_refl _) _
  have s2 : w2.heap.size = w.heap.size + 2 := by rw [← hw2]; simp <;> omega
  have b2 : w2.cell? ⟨w.heap.size + 1, 0, none⟩ = some (.slice (some ⟨w.heap.size, 0, none⟩) 0 (k + 1)) := by rw [← hw2, ← s1]; simp
  have f2 : w2.frozen? ⟨w.heap.size + 1, 0, none⟩ = false := by rw [← hw2, ← s1]; simp
  have hP2 : HeapAt w2 w.heap.size (w.heap.size + 1) #[] w.heap.size (k + 1) := ⟨fun i _ h => by simp at h, b2, f2, HRO.out.on k2, by omega⟩
  have HB2 : Hid (Below w.heap.size w w2 ∧ w2.heap.size = w.heap.size + 2) := hid ⟨k1.trans (k2.mono k1.size), s2⟩
  have HP2 := hid hP2
  have HW2 := hid hw2
  clear hP2 b2 f2 k2 s2 hw2 hmk hw1 k1 s1 HRO
  rw [HW2.out]
  clear HW2
  obtain ⟨N, hN⟩ : ∃ N, w.heap.size = N := ⟨_, rfl⟩
  have HN := hid hN
  rw [hN] at HB2 HP2 ⊢
  clear hN
  go_loopw [13] (fun i wr => ∃ (m : Nat) (d : Array (Nat × Nat)) (g cap : Nat), i = .int .i64 (m : Int) ∧ Hid (m ≤ v.length ∧ d.toList.Perm (ctn v m k) ∧ HeapAt wr N (N + 1) d g cap ∧ Below N w wr ∧ N + 2 ≤ wr.heap.size)) (fun i _ => v.length - (intOf i).toNat)
  case atStart => exact ⟨0, #[], N, k + 1, rfl, hid ⟨by omega, by rw [HC0.out], HP2.out, HB2.out.1, by have := HB2.out.2; omega⟩⟩
  case round =>
    clear HP2 HB2
    obtain ⟨m, d, g, cap, rfl, hh⟩ := hrel
    have hm := hh.out.1
    have hds : d.size = min m k := by
      have := hh.out.2.1.length_eq
      rw [HCL.out m hm] at this
      simpa using this
    have HDS := hid hds
    have bx := hh.out.2.2.1.2.1
    have bf := hh.out.2.2.1.2.2.1
    have hbel := hh.out.2.2.2.1
    have hsz := hh.out.2.2.2.2
    have hd9 : d.size < 100000 := by omega
    by_cases hlt : m < v.length
    · obtain ⟨b1, o1, x, rfl, l1, ex, d1⟩ := (HA.out.below (by rw [HN.out]; exact hbel)).at_ hlt
      have CZ := hid (hp_size x (UV.out x (List.mem_of_getElem? ex)) wr)
      have HE : Hid (ent v m = (m, szN x)) := hid (by unfold ent; rw [getD_of ex])
      obtain ⟨z, hz⟩ : ∃ z, szN x = z := ⟨_, rfl⟩
      rw [hz] at CZ HE
      have CP := hid (hp_PushH d m z hd9 wr hh.out.2.2.1 (by omega))
      have hb1 : b1 < wr.heap.size := by rw [HN.out] at l1; omega
      clear ex hz hds hbel
      go_wp2_with fail
      refine CZ.out.mono ?_
      rintro _ _ ⟨rfl, rfl⟩
      go_wp2_with fail
      refine CP.out.mono ?_
      rintro _ w3 ⟨rfl, g3, cap3, d3, hs3, hp3, hh3, ho3, hg3⟩
      have HS3 := hid hs3
      have HP3 := hid hp3
      have HH3 := hid hh3
      have HB3 : Hid (Below N w w3) := hid (hh.out.2.2.2.1.trans (ho3.below (by omega) (by have := (hh.out.2.2.1.2.2.2.1).parts; obtain ⟨_, h, _⟩ := this; exact h) (by omega)))
      have HZ3 : Hid (N + 2 ≤ w3.heap.size) := hid (Nat.le_trans hsz ho3.size)
      have b3 := hh3.2.1
      have f3 := hh3.2.2.1
      have HPE : Hid (d3.toList.Perm (ctn v m k ++ [ent v m])) := hid (by
        rw [HE.out]
        exact hp3.trans (List.Perm.append_right _ hh.out.2.1))
      clear hs3 hp3 hh3 ho3 hg3 bx bf CP CZ
      by_cases hmk : m < k
      · have hgt : ¬ ((d3.size : Int) > (k : Int)) := by have := HS3.out; have := HDS.out; omega
        go_wp2_with fail
        refine (hp_Len w3).mono ?_
        rintro _ _ ⟨rfl, rfl⟩
        go_wp2_with fail
        go_roundw
        case rel => exact ⟨m + 1, d3, g3, cap3, by go_num, hid ⟨by omega, by rw [HCM.out m hlt hmk]; exact HPE.out, HH3.out, HB3.out, HZ3.out⟩⟩
        case measure => simp [intOf]; omega
      · have hgt : (d3.size : Int) > (k : Int) := by have := HS3.out; have := HDS.out; omega
        have CO := hid (hp_PopH (n := k) d3 (by have := HS3.out; have := HDS.out; omega) (by have := HS3.out; have := HDS.out; omega) w3 HH3.out)
        go_wp2_with fail
        refine (hp_Len w3).mono ?_
        rintro _ _ ⟨rfl, rfl⟩
        go_wp2_with fail
        refine CO.out.mono ?_
        rintro _ w4 ⟨y1, y2, d4, rfl, hs4, hp4, hy4, hh4, ho4⟩
        have HH4 := hid hh4
        have HP4 := hid (HCF.out m hlt (by omega) (y1, y2) d4.toList (hp4.trans HPE.out) hy4)
        have HB4 : Hid (Below N w w4) := hid (HB3.out.trans (ho4.below (by omega) (by have := (HH3.out.2.2.2.1).parts; obtain ⟨_, h, _⟩ := this; exact h) (by have := HZ3.out; omega)))
        have HZ4 : Hid (N + 2 ≤ w4.heap.size) := hid (Nat.le_trans HZ3.out ho4.size)
        clear hs4 hp4 hy4 hh4 ho4 CO b3 f3
        go_wp2_with fail
        go_roundw
        case rel => exact ⟨m + 1, d4, g3, cap3, by go_num, hid ⟨by omega, HP4.out, HH4.out, HB4.out, HZ4.out⟩⟩
        case measure => simp [intOf]; omega
    · obtain rfl : m = v.length := by omega
      clear hds
      go_wp2_with fail
      go_ret
      have e := HN.out
      subst e
      exact ⟨g, cap, d, rfl, hh.out.2.1, hh.out.2.2.1.1, hh.out.2.2.1.2.2.2.1, hh.out.2.2.2.1⟩
end Go.Proofs.YtecgbelgoomneaaGreat
/- The places of all that stand on the heap; what is picked. -/
namespace Go.Proofs.YtecgbelgoomneaaGreat
open Go.RowKit
set_option maxHeartbeats 400000
set_option maxRecDepth 100000
set_option linter.unusedVariables false
/-- A slice's length. -/
def lenV : Value → Nat | .slice _ n _ => n | _ => 0
/-- Memory of the call's own stays where two blocks below it alone turn. -/
theorem own_otr {w w' : World} {x y base n c : Nat} {e : TypeId} {A : Option Addr} {vs : List Value} (h : w.ownsRow base e 1 (.slice A n c) n vs) (ho : Otr x y w w') (hx : x < base) (hy : y < base) : w'.ownsRow base e 1 (.slice A n c) n vs := by
  refine ⟨h.1, ?_⟩
  rcases h.2 with hn | ⟨g, cap, cur, hv, hg, hh, r⟩
  · exact .inl hn
  · exact .inr ⟨g, cap, cur, hv, hg, (ho.block g (Array.getElem?_eq_some_iff.1 hh).1 (by omega) (by omega)).trans hh, r⟩
theorem otr_of_below {x y B : Nat} {w0 w w' : World} (h0 : Otr x y w0 w) (h : Below B w w') (hB : w0.heap.size ≤ B) (hw : B ≤ w.heap.size) : Otr x y w0 w' :=
  ⟨h.os.trans h0.os, h.tape.trans h0.tape, h.output.trans h0.output, Nat.le_trans h0.size h.size, fun k hk h1 h2 => (h.block k (by omega)).trans (h0.block k hk h1 h2)⟩
set_option maxHeartbeats 2000000 in
theorem hp_places {B bp g cap : Nat} (d0 : Array (Nat × Nat)) (hl : d0.size ≤ 5000) (w : World) (h : HeapAt w B bp d0 g cap) :
    Calls Tryz.prog 199 #[.pointer (some ⟨bp, 0, none⟩)] w fun e w' => ∃ (L : List Int) (A : Option Addr) (c : Nat), e = .returned (.slice A L.length c) ∧ w'.ownsRow w.heap.size 3 1 (.slice A L.length c) L.length (L.map (Value.int .i64)) ∧ L.Perm (d0.toList.map fun x => (x.1 : Int)) ∧ Otr bp g w w' := by
  have b0 := h.2.1
  have f0 := h.2.2.1
  have hmk := fun W => run_room (P := Tryz.prog) 26 3 (.int .i64 0) 8 Tryz.underlying26 info_int rfl d0.size (by omega) (by omega) W
  have hO := own_room w 3 (.int .i64 0) d0.size (by unfold maxLen; omega) (Nat.le_refl _)
  have hlt := h.2.lt
  have hgt := h.2.2.2.1.lt
  have hta : ∀ (x1 x2 : Nat) (w : World), (Instr.typeAssert (.iface 205 (.agg #[.int .i64 (x1 : Int), .int .u64 (x2 : Int)])) 20 205 false).run Tryz.prog w = .ok (.agg #[.int .i64 (x1 : Int), .int .u64 (x2 : Int)]) w := fun _ _ _ => by kernel_rfl
  have H := hid h
  clear h
  go_enter Tryz.func199, Tryz.ntmps199
  go_wp2_with fail
  refine (hp_Len w).mono ?_
  rintro _ _ ⟨rfl, rfl⟩
  go_wp2_with fail
  obtain ⟨w1, hw1⟩ : ∃ w1, w.alloc (.cells (madeCells #[.int .i64 0] d0.size) 3) = w1 := ⟨_, rfl⟩
  have k1 : Below w.heap.size w w1 := by rw [← hw1]; exact (Below.refl _ _).alloc (Nat.le_refl _) _
  rw [hw1] at hO ⊢
  have HO := hid hO
  have HK1 := hid k1
  clear hw1 hO k1 hmk b0 f0
  obtain ⟨N, hN⟩ : ∃ N, w.heap.size = N := ⟨_, rfl⟩
  rw [hN] at HO hlt hgt ⊢
  have HN := hid hN
  clear hN
  go_loopw [3] (fun s wr => ∃ (L : List Int) (A2 : Option Addr) (c2 : Nat) (d : Array (Nat × Nat)), s = .slice A2 L.length c2 ∧ Hid (wr.ownsRow N 3 1 (.slice A2 L.length c2) L.length (L.map (Value.int .i64)) ∧ (L ++ d.toList.map fun x => (x.1 : Int)).Perm (d0.toList.map fun x => (x.1 : Int)) ∧ HeapAt wr B bp d g cap ∧ Otr bp g w wr ∧ L.length + d.size = d0.size ∧ N ≤ wr.heap.size)) (fun s _ => d0.size - lenV s)
  case atStart => exact ⟨[], some ⟨N, 0, none⟩, d0.size, d0, rfl, hid ⟨HO.out, by simp, ⟨H.out.1, H.out.2.on HK1.out⟩, Otr.of_below HK1.out, by simp, by have := HK1.out.size; have := HN.out; omega⟩⟩
  case round =>
    clear HO HK1 H
    obtain ⟨L, A2, c2, d, rfl, hh⟩ := hrel
    have bx := hh.out.2.2.1.2.1
    have bf := hh.out.2.2.1.2.2.1
    have hLd := hh.out.2.2.2.2.1
    by_cases h0 : d.size = 0
    · have hgt0 : ¬ ((d.size : Int) > 0) := by omega
      go_wp2_with fail
      refine (hp_Len wr).mono ?_
      rintro _ _ ⟨rfl, rfl⟩
      go_wp2_with fail
      go_ret
      have hd : d.toList = [] := by rw [← List.length_eq_zero_iff]; simpa using h0
      have e := HN.out
      subst e
      refine ⟨L, A2, c2, rfl, hh.out.1, ?_, hh.out.2.2.2.1⟩
      have := hh.out.2.1
      rw [hd, List.map_nil, List.append_nil] at this
      exact this
    · have hgt0 : (d.size : Int) > 0 := by omega
      obtain ⟨q, hq⟩ : ∃ q, d.size = q + 1 := ⟨d.size - 1, by omega⟩
      have CO := hid (hp_PopH (n := q) d hq (by omega) wr hh.out.2.2.1)
      have HQ := hid hq
      have HLD := hid hLd
      clear h0 hq hLd
      go_wp2_with fail
      refine (hp_Len wr).mono ?_
      rintro _ _ ⟨rfl, rfl⟩
      go_wp2_with fail
      refine CO.out.mono ?_
      rintro _ w2 ⟨x1, x2, d2, rfl, hs2, hp2, _, hh2, ho2⟩
      have hta1 := hta x1 x2
      have hfd : ∀ w : World, (Instr.field 205 (.agg #[.int .i64 (x1 : Int), .int .u64 (x2 : Int)]) 0).run Tryz.prog w = .ok (.int .i64 (x1 : Int)) w := fun _ => by kernel_rfl
      have HS2 := hid hs2
      have HP2 := hid hp2
      have HH2 := hid hh2
      have HO2 := hid ho2
      have hown2 := own_otr hh.out.1 ho2 hlt hgt
      have HW2 := hid hown2
      have hz2 : N ≤ w2.heap.size := Nat.le_trans hh.out.2.2.2.2.2 ho2.size
      clear hs2 hp2 hh2 ho2 hown2 CO bx bf hta
      have k3 : Below w2.heap.size w2 (w2.alloc (.cells #[.int .i64 (x1 : Int)] 3)) := (Below.refl _ _).alloc (Nat.le_refl _) _
      have r3 := rd_one (enc := Value.int .i64) (one_cell w2 (.int .i64 (x1 : Int)) 3).1
      have HH3 : Hid (HeapAt (w2.alloc (.cells #[.int .i64 (x1 : Int)] 3)) B bp d2 g cap) := hid ⟨HH2.out.1, HH2.out.2.on k3⟩
      have HO3 : Hid (Otr bp g w (w2.alloc (.cells #[.int .i64 (x1 : Int)] 3))) := hid ((hh.out.2.2.2.1.trans HO2.out).trans (Otr.of_below k3))
      have h3 := own_on HW2.out k3
      have hz3 := Nat.le_trans hz2 k3.size
      have hL5 : L.length + 1 ≤ 6000 := by have := HLD.out; omega
      clear k3
      go_wp2_with (at_builtin; refine wpList_app (Value.int .i64) (fun _ => rfl) _ rfl _ _ 26 rfl N 3 (.int .i64 0) 8 Tryz.underlying26 info_int rfl L A2 c2 rfl h3 [(x1 : Int)] _ 1 _ rfl r3 (by simp [maxLen]; omega) (by simp; omega) hz3 ?_)
      rintro S A3 c3 w4 hS ho4 hb4 _
      have HS := hid hS
      have HO4 := hid ho4
      have HB4 := hid hb4
      clear hS ho4 hb4 h3 r3 hta1 hfd
      go_wp2_with fail
      go_roundw
      case rel =>
        have hSl : S.length = L.length + 1 := by rw [HS.out]; simp
        refine ⟨S, A3, c3, d2, rfl, hid ⟨HO4.out, ?_, ⟨HH3.out.1, HH3.out.2.keep (HB4.out.block bp hlt) (HB4.out.block g hgt)⟩, otr_of_below HO3.out HB4.out (by rw [HN.out]; exact Nat.le_refl _) hz3, by have := HLD.out; have := HQ.out; have := HS2.out; omega, Nat.le_trans hz3 HB4.out.size⟩⟩
        rw [HS.out]
        refine List.Perm.trans ?_ hh.out.2.1
        rw [List.append_assoc]
        refine List.Perm.append_left _ ?_
        have := HP2.out.map fun x : Nat × Nat => (x.1 : Int)
        simpa using this
      case measure =>
        have hSl : S.length = L.length + 1 := by rw [HS.out]; simp
        have := HLD.out
        have := HQ.out
        simp [lenV]
        omega
end Go.Proofs.YtecgbelgoomneaaGreat
/- The program's calls: Pick, Least. -/
namespace Go.Proofs.YtecgbelgoomneaaGreat
open Go.RowKit
set_option maxHeartbeats 400000
set_option maxRecDepth 100000
set_option linter.unusedVariables false
theorem srt_pick {v : List Int} {k : Nat} {L : List Int} {l : List (Nat × Nat)} (h1 : L.Perm (l.map fun x => (x.1 : Int))) (h2 : l.Perm ((pkF v k).map (ent v))) : srtI L = pkI v k := by
  refine pk_sorted (h1.trans ?_)
  have h3 := h2.map fun x : Nat × Nat => (x.1 : Int)
  refine h3.trans ?_
  rw [List.map_map]
  exact List.Perm.refl _
set_option maxHeartbeats 1000000 in
theorem tk_Pick {A : Option Addr} {c : Nat} (k : Int) (hk : I64 k) (v : List Int) (uv : ∀ x ∈ v, I64 x) (hl : v.length ≤ 5000) (w : World) (ra : Rd (Value.int .i64) w w.heap.size A v) :
    Calls Tryz.prog 160 #[.int .i64 k, .slice A v.length c] w (OwnE 3 .i64 w.heap.size (pikV v k) (pikE v k) w) := by
  have CC := hid (fun W => hp_check (A := A) (c := c) k v W)
  by_cases h : pikE v k = 0
  · have hp := pikE_ok.1 h
    obtain ⟨K, rfl⟩ := Int.eq_ofNat_of_zero_le hp.2.1
    have hK : K ≤ v.length := by omega
    have hv : pikV v K = pkI v K := by unfold pikV; rw [if_pos h, Int.toNat_natCast]
    rw [h, hv]
    rw [h] at CC
    have CG := hid (fun W h => hp_greatest (A := A) (c := c) K v uv hp.1 hK W h)
    have HA := hid ra
    have HC := hid (ctn_all v K)
    have HCL := hid (ctn_len (v := v) (m := v.length) (k := K) (Nat.le_refl _))
    have HL := hid hp.1
    clear h hp hv uv ra hl
    go_enter Tryz.func160, Tryz.ntmps160
    go_wp2_with fail
    refine (CC.out w).mono ?_
    rintro _ _ ⟨rfl, rfl⟩
    go_wp2_with fail
    refine (CG.out w HA.out).mono ?_
    rintro _ w1 ⟨g, cap, d, rfl, hp1, ho1, hr1, hb1⟩
    have hds : d.size ≤ 4096 := by
      have := hp1.length_eq
      rw [HCL.out] at this
      have h2 := HL.out
      simp at this
      omega
    have k2 : Below w1.heap.size w1 (w1.alloc (.cells #[.slice (some ⟨g, 0, none⟩) d.size cap] 181)) := (Below.refl _ _).alloc (Nat.le_refl _) _
    have hP2 : HeapAt (w1.alloc (.cells #[.slice (some ⟨g, 0, none⟩) d.size cap] 181)) w.heap.size w1.heap.size d g cap := ⟨ho1, by simp, by simp, hr1.on k2, by have := hr1.lt; omega⟩
    have CP := hid (hp_places d (by omega) _ hP2)
    have HP1 := hid hp1
    have HB2 : Hid (Below w.heap.size w (w1.alloc (.cells #[.slice (some ⟨g, 0, none⟩) d.size cap] 181))) := hid (hb1.trans (k2.mono hb1.size))
    have HG : Hid (w.heap.size ≤ g ∧ w.heap.size ≤ w1.heap.size) := hid ⟨by obtain ⟨_, h, _⟩ := hr1.parts; exact h, hb1.size⟩
    have hds2 : Hid (d.size ≤ 4096) := hid hds
    clear hp1 ho1 hr1 hb1 k2 hP2 CG CC hds
    go_wp2_with fail
    refine CP.out.mono ?_
    rintro _ w3 ⟨L, A3, c3, rfl, ho3, hp3, ht3⟩
    have hLl : L.length ≤ 100000 := by
      have h1 : L.length = d.size := by have := hp3.length_eq; simpa using this
      have := hds2.out
      omega
    have hb3 : Below w.heap.size w w3 := HB2.out.trans (ht3.below HG.out.2 HG.out.1 HB2.out.size)
    have CS := hid (ix_sort L hLl w3 hb3.size (own_base ho3 (HB2.out.size)))
    have HE : Hid (srtI L = pkI v K) := hid (srt_pick hp3 (by rw [← HC.out]; exact HP1.out))
    have HB3 := hid hb3
    have hSl : (srtI L).length = L.length := by unfold srtI; simp
    have HSL := hid hSl
    clear ho3 hp3 ht3 hb3 CP hLl hSl
    go_wp2_with fail
    refine CS.out.mono ?_
    rintro _ w4 ⟨rfl, ho4, hb4⟩
    have HO4 := hid ho4
    have HB4 := hid (HB3.out.trans hb4)
    clear ho4 hb4 CS
    go_wp2_with fail
    go_ret2
    refine ⟨A3, c3, ?_, ?_, HB4.out⟩
    · rw [← HE.out, HSL.out]; rfl
    · rw [← HE.out, HSL.out]; exact HO4.out
  · have hv : pikV v k = [] := if_neg h
    rw [hv]
    obtain ⟨E, hE⟩ : ∃ E, pikE v k = E := ⟨_, rfl⟩
    rw [hE] at CC h ⊢
    have hne : (E != 0) = true := by simpa using h
    clear hv hE h uv ra hl
    go_enter Tryz.func160, Tryz.ntmps160
    go_wp2_with fail
    refine (CC.out w).mono ?_
    rintro _ _ ⟨rfl, rfl⟩
    go_wp2_with fail
    go_ret2
    exact .nil (Below.refl _ _)
end Go.Proofs.YtecgbelgoomneaaGreat
/- The program's calls: Least, Press, Is. -/
namespace Go.Proofs.YtecgbelgoomneaaGreat
open Go.RowKit
set_option maxHeartbeats 400000
set_option maxRecDepth 100000
set_option linter.unusedVariables false
set_option maxHeartbeats 1000000 in
theorem tk_Press {A : Option Addr} {c : Nat} (k : Int) (hk : I64 k) (v : List Int) (uv : ∀ x ∈ v, I64 x) (hl : v.length ≤ 5000) (w : World) (ra : Rd (Value.int .i64) w w.heap.size A v) :
    Calls Tryz.prog 119 #[.int .i64 k, .slice A v.length c] w (OwnSt w.heap.size (prsS v k) (prsE v k) w) := by
  by_cases h0 : v = []
  · have he : prsE v k = 1 := if_pos h0
    have hs : prsS v k = zeroS := if_neg (by rw [he]; decide)
    rw [he, hs]
    subst h0
    clear he hs ra uv hl
    go_enter Tryz.func119, Tryz.ntmps119
    go_wp2_with fail
    refine bodyPost_ret (v := .tuple #[encT zeroS zeroP, .int .i64 1]) (by simp [results, Tryz.results119, go_sem, zeroS, zeroP]) rfl ⟨none, 0, none, 0, rfl, rfl, rfl, own_nil _ _ _, own_nil _ _ _, by go_grown⟩
  · have h0' : ¬ v.length = 0 := fun h => h0 (List.length_eq_zero_iff.1 h)
    have hp : prsE v k = pikE v k := if_neg h0
    have CP := hid (fun (W : World) (h : Below w.heap.size w W) => tk_Pick (A := A) (c := c) k hk v uv hl W (ra.on h))
    have RA := hid ra
    have h1' : ((v.length : Int) == 0) = false := beq_eq_false_iff_ne.2 (by omega)
    have h1'' : (v.length == 0) = false := beq_eq_false_iff_ne.2 h0'
    by_cases h : pikE v k = 0
    · have hs : prsS v k = ⟨1, v.length, pikV v k, atL v (pikV v k), 0, 0, [], []⟩ := if_pos (by rw [hp]; exact h)
      obtain ⟨_, _, hgE, hgV, _, _⟩ := prs_may uv h0 h
      have hLl := pikV_le v k
      rw [hp, hs, h]
      rw [hs] at hgE hgV
      rw [h] at CP
      simp only at hgE hgV
      obtain ⟨L, hL⟩ : ∃ L, pikV v k = L := ⟨_, rfl⟩
      rw [hL] at CP hgE hgV hLl ⊢
      have CG := hid (fun (A1 : Option Addr) (c1 : Nat) (W : World) (h1 : Rd (Value.int .i64) W W.heap.size A1 L) (h2 : Rd (Value.int .i64) W W.heap.size A v) => ix_Gather (A := A1) (B := A) (c := c1) (d := c) L v (by omega) (by omega) W h1 h2)
      rw [hgE, hgV] at CG
      obtain ⟨S, hS⟩ : ∃ S, atL v L = S := ⟨_, rfl⟩
      rw [hS] at CG ⊢
      clear hs hL hS hp h0 uv h h0' ra hgE hgV
      go_enter Tryz.func119, Tryz.ntmps119
      go_wp2_with fail
      have B0 := BoxL.new w [.int .i64 0, .int .i64 0, .slice none 0 0, .slice none 0 0, .int .i64 0, .int .i64 0, .slice none 0 0, .slice none 0 0] 32
      refine (CP.out _ (by go_grown)).mono ?_
      rintro _ w1 ⟨A1, c1, rfl, ho1, hb⟩
      have HB1 := hid (B0.below hb (by simp))
      have k1 : Below w.heap.size w w1 := Below.trans (by go_grown) (hb.mono (by simp))
      have hg1 : w.heap.size < w1.heap.size := by have := hb.size; simp at this; omega
      have HO1 := hid (own_base ho1 (show w.heap.size + 1 ≤ _ by simp))
      have HR1 := hid (own_rd ho1)
      clear B0 hb CP ho1
      go_wp2_with fail
      refine (CG.out A1 c1 w1 HR1.out (RA.out.on k1)).mono ?_
      rintro _ w2 ⟨A2, c2, rfl, ho2, hb2⟩
      have HB2 := hid (HB1.out.below hb2 hg1)
      have HOL := hid (own_on HO1.out hb2)
      have HO := hid ho2
      have kw := k1.trans (hb2.mono k1.size)
      obtain ⟨⟨g0, g1, g2, g3, g4, g5, g6, g7⟩, n0, n1, n2, n3, n4, n5, n6, n7⟩ := HB2.out.eight
      clear HB1 HO1 HR1 CG ho2 hb2 k1
      go_wp2_with fail
      refine bodyPost_ret (v := .tuple #[encT ⟨1, v.length, L, S, 0, 0, [], []⟩ ⟨A1, c1, A2, c2, none, 0, none, 0⟩, .int .i64 0]) (by simp [results, Tryz.results119, go_sem, g0, g1, g2, g3, g4, g5, g6, g7]) rfl ?_
      refine ⟨A1, c1, A2, c2, rfl, rfl, rfl, ?_, ?_, ?_⟩
      · exact own_base (own_set (own_set (own_set (own_set (own_set (own_set (own_set (own_set HOL.out (by simp) _) (by simp) _) (by simp) _) (by simp) _) (by simp) _) (by simp) _) (by simp) _) (by simp) _) (Nat.le_succ _)
      · exact own_base (own_set (own_set (own_set (own_set (own_set (own_set (own_set (own_set HO.out hg1 _) hg1 _) hg1 _) hg1 _) hg1 _) hg1 _) hg1 _) hg1 _) (by omega)
      · exact (((((((kw.setCell (by simp) _).setCell (by simp) _).setCell (by simp) _).setCell (by simp) _).setCell (by simp) _).setCell (by simp) _).setCell (by simp) _).setCell (by simp) _
    · have he : prsS v k = zeroS := if_neg (by rw [hp]; exact h)
      have hv : pikV v k = [] := if_neg h
      rw [he, hp]
      rw [hv] at CP
      obtain ⟨E, hE⟩ : ∃ E, pikE v k = E := ⟨_, rfl⟩
      rw [hE] at CP h ⊢
      have hne : (E != 0) = true := by simpa using h
      clear he hv hE hp h0 ra uv h h0'
      go_enter Tryz.func119, Tryz.ntmps119
      go_wp2_with fail
      have B0 := BoxL.new w [.int .i64 0, .int .i64 0, .slice none 0 0, .slice none 0 0, .int .i64 0, .int .i64 0, .slice none 0 0, .slice none 0 0] 32
      refine (CP.out _ (by go_grown)).mono ?_
      rintro _ w1 ⟨A1, c1, rfl, _, hb⟩
      have B1 := B0.below hb (by simp)
      have k1 : Below w.heap.size w w1 := Below.trans (by go_grown) (hb.mono (by simp))
      obtain ⟨⟨g0, g1, g2, g3, g4, g5, g6, g7⟩, n0, n1, n2, n3, n4, n5, n6, n7⟩ := B1.eight
      clear B0 B1 hb CP
      go_wp2_with fail
      refine bodyPost_ret (v := .tuple #[encT zeroS zeroP, .int .i64 E]) (by simp [results, Tryz.results119, go_sem, zeroS, zeroP, g0, g1, g2, g3, g4, g5, g6, g7]) rfl ⟨none, 0, none, 0, rfl, rfl, rfl, own_nil _ _ _, own_nil _ _ _, ?_⟩
      exact (((((((k1.setCell (by simp) _).setCell (by simp) _).setCell (by simp) _).setCell (by simp) _).setCell (by simp) _).setCell (by simp) _).setCell (by simp) _).setCell (by simp) _
theorem same_turn (a b : SentV) : sameS a b = sameS b a := by
  rw [Bool.eq_iff_iff, sameS_iff, sameS_iff]
  exact eq_comm
set_option maxHeartbeats 1000000 in
theorem tk_Is {A : Option Addr} {c : Nat} (k : Int) (hk : I64 k) (v : List Int) (uv : ∀ x ∈ v, I64 x) (hl : v.length ≤ 5000) (s : SentV) (p : SentP) (hn : lnS 5000 s) (w : World) (ra : Rd (Value.int .i64) w w.heap.size A v) (rs : RdS w w.heap.size s p) :
    Calls Tryz.prog 120 #[.int .i64 k, .slice A v.length c, encT s p] w fun e w' => e = .returned (.bool (isTB v k s)) ∧ Below w.heap.size w w' := by
  have CP := hid (fun (W : World) (h : Below w.heap.size w W) => tk_Press (A := A) (c := c) k hk v uv hl W (ra.on h))
  have RS := hid rs
  have hT := prsS_ln v k
  unfold isTB
  rw [same_turn]
  obtain ⟨T, hTT⟩ : ∃ T, prsS v k = T := ⟨_, rfl⟩
  obtain ⟨E, hE⟩ : ∃ E, prsE v k = E := ⟨_, rfl⟩
  rw [hTT, hE] at CP ⊢
  rw [hTT] at hT
  have HTL := hid hT
  have HNL := hid hn
  unfold sameS
  obtain ⟨vL, eL⟩ : ∃ v, eqB s.L T.L = v := ⟨_, rfl⟩
  obtain ⟨vV, eV⟩ : ∃ v, eqB s.V T.V = v := ⟨_, rfl⟩
  obtain ⟨vlev, elev⟩ : ∃ v, eqB s.lev T.lev = v := ⟨_, rfl⟩
  obtain ⟨vneg, eneg⟩ : ∃ v, eqN s.neg T.neg = v := ⟨_, rfl⟩
  obtain ⟨vsch, hsch⟩ : ∃ v, (s.sch == T.sch) = v := ⟨_, rfl⟩
  obtain ⟨vdim, hdim⟩ : ∃ v, (s.dim == T.dim) = v := ⟨_, rfl⟩
  obtain ⟨vscale, hscale⟩ : ∃ v, (s.scale == T.scale) = v := ⟨_, rfl⟩
  obtain ⟨vwide, hwide⟩ : ∃ v, (s.wide == T.wide) = v := ⟨_, rfl⟩
  have HD1 : Hid (E = 0 → decide (E = 0) = true) := hid (fun h => decide_eq_true h)
  have HD0 : Hid (E ≠ 0 → decide (E = 0) = false) := hid (fun h => decide_eq_false h)
  obtain ⟨D, hD⟩ : ∃ D, decide (E = 0) = D := ⟨_, rfl⟩
  rw [hD] at HD1 HD0
  rw [eL, eV, elev, eneg, hsch, hdim, hscale, hwide, hD]
  have HE1 := hid eL
  have HE2 := hid eV
  have HE3 := hid elev
  have HE4 := hid eneg
  clear hTT hE ra rs uv hT hn hD eL eV elev eneg
  go_enter Tryz.func120, Tryz.ntmps120
  go_wp2_with fail
  have B0 := BoxL.new w [.int .i64 s.sch, .int .i64 s.dim, .slice p.AL s.L.length p.cL, .slice p.AV s.V.length p.cV, .int .i64 s.scale, .int .i64 s.wide, .slice p.AE s.lev.length p.cE, .slice p.AN s.neg.length p.cN] 32
  refine (CP.out _ (by go_grown)).mono ?_
  rintro _ w1 ⟨A1, c1, A2, c2, rfl, hlev, hneg, hoL, hoV, hb⟩
  have HX := hid (B0.below hb (by simp))
  have k1 : Below w.heap.size w w1 := Below.trans (by go_grown) (hb.mono (by simp))
  have HT := hid (OwnSt.rd hlev hneg hoL hoV)
  clear B0 hb CP hoL hoV hlev hneg
  have hg : w.heap.size < w1.heap.size := HX.out.lt (by simp)
  have kz : Below w1.heap.size w1 (w1.alloc (.cells #[.int .i64 T.sch, .int .i64 T.dim, .slice A1 T.L.length c1, .slice A2 T.V.length c2, .int .i64 T.scale, .int .i64 T.wide, .slice none T.lev.length 0, .slice none T.neg.length 0] 32)) := (Below.refl _ _).alloc (Nat.le_refl _) _
  have K : Hid (∀ n, Below w.heap.size w ((w1.alloc (.cells #[.int .i64 T.sch, .int .i64 T.dim, .slice A1 T.L.length c1, .slice A2 T.V.length c2, .int .i64 T.scale, .int .i64 T.wide, .slice none T.lev.length 0, .slice none T.neg.length 0] 32)).drewN n)) := hid (fun n => (k1.trans (kz.mono k1.size)).trans (belowN _ _ n))
  by_cases h0 : E = 0
  · subst h0
    have C1 := hid (fun W (h : Below w1.heap.size w1 W) => eq_ints (A := p.AL) (B := A1) (c := p.cL) (d := c1) s.L T.L (by have := HNL.out.1; omega) (by have := HTL.out.1; omega) W (RS.out.on (k1.trans (h.mono k1.size))).1 (HT.out.on h).1)
    have C2 := hid (fun W (h : Below w1.heap.size w1 W) => eq_i64s (A := p.AV) (B := A2) (c := p.cV) (d := c2) s.V T.V (by have := HNL.out.2.1; omega) (by have := HTL.out.2.1; omega) W (RS.out.on (k1.trans (h.mono k1.size))).2.1 (HT.out.on h).2.1)
    have C3 := hid (fun W (h : Below w1.heap.size w1 W) => eq_u64s (A := p.AE) (B := none) (c := p.cE) (d := 0) s.lev T.lev (by have := HNL.out.2.2.1; omega) (by have := HTL.out.2.2.1; omega) W (RS.out.on (k1.trans (h.mono k1.size))).2.2.1 (HT.out.on h).2.2.1)
    have C4 := hid (fun W (h : Below w1.heap.size w1 W) => eq_bools (A := p.AN) (B := none) (c := p.cN) (d := 0) s.neg T.neg (by have := HNL.out.2.2.2; omega) (by have := HTL.out.2.2.2; omega) W (RS.out.on (k1.trans (h.mono k1.size))).2.2.2 (HT.out.on h).2.2.2)
    have KZ : Hid (∀ n, Below w1.heap.size w1 ((w1.alloc (.cells #[.int .i64 T.sch, .int .i64 T.dim, .slice A1 T.L.length c1, .slice A2 T.V.length c2, .int .i64 T.scale, .int .i64 T.wide, .slice none T.lev.length 0, .slice none T.neg.length 0] 32)).drewN n)) := hid (fun n => kz.trans (belowN _ _ n))
    have hD := HD1.out rfl
    subst hD
    rw [HE1.out] at C1
    rw [HE2.out] at C2
    rw [HE3.out] at C3
    rw [HE4.out] at C4
    obtain ⟨⟨g0, g1, g2, g3, g4, g5, g6, g7⟩, _⟩ := HX.out.eight
    clear RS HT HTL HNL k1 kz hl hk HD1 HD0 HE1 HE2 HE3 HE4
    go_wp2_with fail
    any_goals (go_ret; exact ⟨by simp [*], K.out 0⟩)
    refine (C1.out _ (KZ.out 0)).mono ?_
    rintro _ _ ⟨rfl, n1, rfl⟩
    go_wp2_with fail
    any_goals (go_ret; exact ⟨by simp [*], K.out _⟩)
    refine (C2.out _ (KZ.out _)).mono ?_
    rintro _ _ ⟨rfl, n2, rfl⟩
    go_wp2_with fail
    any_goals (go_ret; exact ⟨by simp [*], K.out _⟩)
    refine (C3.out _ (KZ.out _)).mono ?_
    rintro _ _ ⟨rfl, n3, rfl⟩
    go_wp2_with fail
    any_goals (go_ret; exact ⟨by simp [*], K.out _⟩)
    refine (C4.out _ (KZ.out _)).mono ?_
    rintro _ _ ⟨rfl, n4, rfl⟩
    go_wp2_with fail
    go_ret
    exact ⟨by simp [*], K.out _⟩
  · have hne : (E == 0) = false := beq_eq_false_iff_ne.2 h0
    have hD := HD0.out h0
    subst hD
    clear h0 HD1 HD0
    go_wp2_with fail
    go_ret
    exact ⟨rfl, K.out 0⟩
end Go.Proofs.YtecgbelgoomneaaGreat
/- The program's numbers packed and woven, and signs. -/
namespace Go.Proofs.YtecgbelgoomneaaGreat
open Go.RowKit
set_option maxHeartbeats 400000
set_option maxRecDepth 100000
set_option linter.unusedVariables false
theorem pl_side (v : Int) (w : World) :
    Calls Tryz.prog 232 #[.int .i64 v] w fun e w' => e = .returned (.func (.func 248) #[] #[.pointer (some ⟨w.heap.size, 0, none⟩)]) ∧ w'.cell? ⟨w.heap.size, 0, none⟩ = some (.int .i64 v) ∧ w.heap.size < w'.heap.size ∧ Below w.heap.size w w' := by
  have hb := one_cell w (.int .i64 v) 3
  have HB := hid hb
  clear hb
  go_enter Tryz.func232, Tryz.ntmps232
  go_wp2_with fail
  go_ret
  exact ⟨rfl, HB.out.1, by simp [go_sem], HB.out.2⟩
theorem pl_planes (v : Int) (w : World) :
    Calls Tryz.prog 190 #[.int .i64 v] w fun e w' => e = .returned (.func (.func 216) #[] #[.pointer (some ⟨w.heap.size, 0, none⟩)]) ∧ w'.cell? ⟨w.heap.size, 0, none⟩ = some (.int .i64 v) ∧ w.heap.size < w'.heap.size ∧ Below w.heap.size w w' := by
  have hb := one_cell w (.int .i64 v) 3
  have HB := hid hb
  clear hb
  go_enter Tryz.func190, Tryz.ntmps190
  go_wp2_with fail
  go_ret
  exact ⟨rfl, HB.out.1, by simp [go_sem], HB.out.2⟩
theorem place_few {i j k m : Nat} (hi : i < m) (hj : j < k) (hk : k ≤ 32) (hm : m ≤ 4096) : i * k + j ≤ 1000000 := by
  have h := place_lt hi hj
  have := Nat.mul_le_mul hk hm
  omega
theorem few_place {i j k m : Nat} (hi : i < m) (hj : j < k) (hk : k ≤ 32) (hm : m ≤ 4096) : j * m + i ≤ 1000000 := by
  have h := place_lt (w := m) (m := k) hj hi
  have := Nat.mul_le_mul hm hk
  omega
theorem pl_Pack {A : Option Addr} {c : Nat} (wd : Int) (l : List Int) (hw : I64 wd) (hl : l.length ≤ 100000) (ul : U64s l) (w : World) (ra : Rd (Value.int .u64) w w.heap.size A l) :
    Calls Tryz.prog 217 #[.int .i64 wd, .slice A l.length c] w (OwnE 5 .u8 w.heap.size (pckV wd l) (mayE wd l) w) := by
  have CW : Hid (∀ w1 : World, w1.cell? ⟨w.heap.size, 0, none⟩ = some (.int .i64 wd) → w.heap.size < w1.heap.size → Below w.heap.size w w1 →
      Calls Tryz.prog 189 #[.int .i64 wd, .slice A l.length c, .func (.func 248) #[] #[.pointer (some ⟨w.heap.size, 0, none⟩)]] w1 (OwnE 5 .u8 w1.heap.size (pckV wd l) (mayE wd l) w1)) := hid (fun w1 hc hlt hb => by
    refine pl_write (A := A) (c := c) 248 _ wd l hw hl ul w1 (ra.on hb) (cl_enter _ (by kernel_rfl)) (sdF wd.toNat l) _ _ _ (places_side _ _) (fun i j x hx hj => by rw [sd_at hj, getD_of hx]) (fun hm i j hi hj W hW => ?_)
    obtain ⟨k, rfl, hk, h1, h2⟩ := may_nat hm ul
    have h4 := (bys_ok h1).2.2
    rw [Int.toNat_natCast] at hj ⊢
    exact side_cl ((hW.cell (p := ⟨w.heap.size, 0, none⟩) hlt).trans hc) rfl (place_few hi hj hk (by omega)))
  obtain ⟨X, hX⟩ : ∃ X, pckV wd l = X := ⟨_, rfl⟩
  obtain ⟨E, hE⟩ : ∃ E, mayE wd l = E := ⟨_, rfl⟩
  rw [hX, hE] at CW ⊢
  have CS := hid (pl_side wd w)
  clear hX hE ra ul
  go_enter Tryz.func217, Tryz.ntmps217
  go_wp2_with fail
  refine CS.out.mono ?_
  rintro _ w1 ⟨rfl, hc1, hlt1, hb1⟩
  have CW1 := hid (CW.out w1 hc1 hlt1 hb1)
  clear hc1 hlt1
  go_wp2_with fail
  refine CW1.out.mono ?_
  rintro _ w2 ⟨A2, c2, rfl, ho, hb2⟩
  have HO := hid (own_base ho hb1.size)
  clear ho
  go_wp2_with fail
  go_ret2
  exact ⟨A2, c2, rfl, HO.out, hb1.trans (hb2.mono hb1.size)⟩
theorem pl_Weave {A : Option Addr} {c : Nat} (wd : Int) (l : List Int) (hw : I64 wd) (hl : l.length ≤ 100000) (ul : U64s l) (w : World) (ra : Rd (Value.int .u64) w w.heap.size A l) :
    Calls Tryz.prog 148 #[.int .i64 wd, .slice A l.length c] w (OwnE 5 .u8 w.heap.size (wevV wd l) (mayE wd l) w) := by
  have CW : Hid (∀ w1 : World, w1.cell? ⟨w.heap.size, 0, none⟩ = some (.int .i64 (l.length : Int)) → w.heap.size < w1.heap.size → Below w.heap.size w w1 →
      Calls Tryz.prog 189 #[.int .i64 wd, .slice A l.length c, .func (.func 216) #[] #[.pointer (some ⟨w.heap.size, 0, none⟩)]] w1 (OwnE 5 .u8 w1.heap.size (wevV wd l) (mayE wd l) w1)) := hid (fun w1 hc hlt hb => by
    refine pl_write (A := A) (c := c) 216 _ wd l hw hl ul w1 (ra.on hb) (cl_enter _ (by kernel_rfl)) (plF wd.toNat l) _ _ _ (places_plane _ _) (fun i j x hx hj => by rw [pl_at ((List.getElem?_eq_some_iff.1 hx).1), getD_of hx]) (fun hm i j hi hj W hW => ?_)
    obtain ⟨k, rfl, hk, h1, h2⟩ := may_nat hm ul
    have h4 := (bys_ok h1).2.2
    rw [Int.toNat_natCast] at hj
    exact plane_cl ((hW.cell (p := ⟨w.heap.size, 0, none⟩) hlt).trans hc) rfl (few_place hi hj hk (by omega)))
  obtain ⟨X, hX⟩ : ∃ X, wevV wd l = X := ⟨_, rfl⟩
  obtain ⟨E, hE⟩ : ∃ E, mayE wd l = E := ⟨_, rfl⟩
  rw [hX, hE] at CW ⊢
  have CS := hid (pl_planes l.length w)
  clear hX hE ra ul
  go_enter Tryz.func148, Tryz.ntmps148
  go_wp2_with fail
  refine CS.out.mono ?_
  rintro _ w1 ⟨rfl, hc1, hlt1, hb1⟩
  have CW1 := hid (CW.out w1 hc1 hlt1 hb1)
  clear hc1 hlt1
  go_wp2_with fail
  refine CW1.out.mono ?_
  rintro _ w2 ⟨A2, c2, rfl, ho, hb2⟩
  have HO := hid (own_base ho hb1.size)
  clear ho
  go_wp2_with fail
  go_ret2
  exact ⟨A2, c2, rfl, HO.out, hb1.trans (hb2.mono hb1.size)⟩
/-- Signs as numbers. -/
theorem b2_u64 (bs : List Bool) : U64s (bs.map b2) := by
  intro x hx
  obtain ⟨v, _, rfl⟩ := List.mem_map.1 hx
  cases v <;> decide
theorem wdt_b2 (v : Bool) : wdt (b2 v) ≤ 1 := by cases v <;> decide
theorem sgn_may {bs : List Bool} (h : bs.length ≤ 4096) : mayE 1 (bs.map b2) = 0 := by
  unfold mayE
  rw [List.length_map]
  have h1 : bysE 1 (bs.length : Int) = 0 := by unfold bysE; rw [if_neg (by omega), if_neg (by omega)]
  rw [if_pos h1, if_pos]
  unfold fitsB
  rw [List.all_eq_true]
  intro x hx
  obtain ⟨v, _, rfl⟩ := List.mem_map.1 hx
  have := wdt_b2 v
  exact decide_eq_true (by omega)
theorem sgn_pck {bs : List Bool} (h : bs.length ≤ 4096) : pckV 1 (bs.map b2) = sgnV bs := by
  unfold pckV sgnV
  rw [if_pos (sgn_may h), if_neg (by omega), List.length_map]
  rw [show (1 : Int).toNat = 1 from rfl, Nat.one_mul]
  refine pkL_congr fun p hp => ?_
  unfold sdF
  rw [Nat.div_one, Nat.mod_one, List.getD_eq_getElem?_getD, List.getElem?_map, List.getD_eq_getElem?_getD, List.getElem?_eq_getElem hp, Option.map_some, Option.getD_some, Option.getD_some]
  cases bs[p] <;> decide
theorem pl_Signs {A : Option Addr} {c : Nat} (bs : List Bool) (hl : bs.length ≤ 1000000) (w : World) (ra : Rd Value.bool w w.heap.size A bs) :
    Calls Tryz.prog 191 #[.slice A bs.length c] w (OwnE 5 .u8 w.heap.size (sgnV bs) (sgnE bs) w) := by
  have CB := hid (fun W => pl_Bytes 1 bs.length (by decide) (by unfold I64; omega) W)
  by_cases h : 4096 < bs.length
  · have h1 : bysE 1 (bs.length : Int) = 3 := by unfold bysE; rw [if_neg (by omega), if_pos (by omega)]
    have h2 : sgnV bs = [] := if_pos h
    have h3 : sgnE bs = 3 := if_pos h
    rw [h1] at CB
    rw [h2, h3]
    obtain ⟨V, hV⟩ : ∃ V, bysV 1 (bs.length : Int) = V := ⟨_, rfl⟩
    rw [hV] at CB
    clear h1 h2 h3 hV ra
    go_enter Tryz.func191, Tryz.ntmps191
    go_wp2_with fail
    refine (CB.out _).mono ?_
    rintro _ _ ⟨rfl, rfl⟩
    go_wp2_with fail
    go_ret2
    exact .nil (Below.refl _ _)
  · have h1 : bysE 1 (bs.length : Int) = 0 := by unfold bysE; rw [if_neg (by omega), if_neg (by omega)]
    have h3 : sgnE bs = 0 := if_neg h
    rw [h1] at CB
    rw [h3]
    obtain ⟨V, hV⟩ : ∃ V, bysV 1 (bs.length : Int) = V := ⟨_, rfl⟩
    rw [hV] at CB
    have CP : Hid (∀ w1 : World, w1.rowIs w.heap.size 25 bs.length (fun j => .int .u64 (b2 (bs.getD j false))) → Calls Tryz.prog 217 #[.int .i64 1, .slice (some ⟨w.heap.size, 0, none⟩) bs.length bs.length] w1 (OwnE 5 .u8 w1.heap.size (sgnV bs) 0 w1)) := hid (fun w1 hr => by
      have h := pl_Pack (A := some ⟨w.heap.size, 0, none⟩) (c := bs.length) 1 (bs.map b2) (by decide) (by rw [List.length_map]; omega) (b2_u64 bs) w1 (by
        intro j x hx
        refine ⟨w.heap.size, 0, rfl, hr.lt, ?_⟩
        have hj := (List.getElem?_eq_some_iff.1 hx).1
        rw [List.length_map] at hj
        rw [Nat.zero_add, hr.cell hj]
        rw [List.getElem?_map, List.getElem?_eq_getElem hj, Option.map_some] at hx
        injection hx with hx
        rw [← hx, List.getD_eq_getElem?_getD, List.getElem?_eq_getElem hj, Option.getD_some])
      rw [List.length_map, sgn_pck (by omega), sgn_may (by omega)] at h
      exact h)
    obtain ⟨X, hX⟩ : ∃ X, sgnV bs = X := ⟨_, rfl⟩
    rw [hX] at CP ⊢
    have HG : Hid (∀ k x, bs[k]? = some x → bs.getD k false = x) := hid (fun k x hx => by rw [List.getD_eq_getElem?_getD, hx]; rfl)
    obtain ⟨g, hg⟩ : ∃ g : Nat → Bool, (fun j => bs.getD j false) = g := ⟨_, rfl⟩
    have hg' : ∀ j, bs.getD j false = g j := fun j => by rw [← hg]
    simp only [hg'] at CP HG
    have RA := hid ra
    obtain ⟨N, hN⟩ : ∃ N, bs.length = N := ⟨_, rfl⟩
    have HN := hid hN
    rw [hN] at CB CP hl h ⊢
    have hmk := fun W => run_make_row' (P := Tryz.prog) 29 25 (.int .u64 0) 8 Tryz.underlying29 info_u64 rfl .i64 .i64 N (by omega) (by omega) W
    clear h1 h3 hV hX hg hg' ra hN
    go_enter Tryz.func191, Tryz.ntmps191
    go_wp2_with fail
    refine (CB.out _).mono ?_
    rintro _ _ ⟨rfl, rfl⟩
    go_wp2_with fail
    go_loopw [7, 8, 23] (fun a b i wr => ∃ k : Nat, k ≤ N ∧ i = .int .i64 k ∧ wr.rowIs w.heap.size 25 N (fun j => if j < k then .int .u64 (b2 (g j)) else .int .u64 0) ∧ Below w.heap.size w wr) (fun _ _ i _ => N - (intOf i).toNat)
    case atStart => exact ⟨0, by omega, rfl, by simpa using World.rowIs_made w (.int .u64 0) N _, by go_grown⟩
    case round =>
      obtain ⟨k, hk, rfl, hrow, hbel⟩ := hrel
      have HR := hid hrow
      clear hmk
      by_cases hlt : k < N
      · obtain ⟨b1, o1, x, rfl, l1, ex, c1⟩ := (RA.out.below hbel).at_ (k := k) (by rw [HN.out]; exact hlt)
        have hgk := HG.out k x ex
        have f1 := hrow.frozen k
        have c2 := hrow.cell hlt
        rw [if_neg (Nat.lt_irrefl k)] at c2
        have HGk := hid hgk
        clear ex hgk hrow
        cases x with
        | false =>
          go_wp2_with fail
          go_roundw
          case rel =>
            refine ⟨k + 1, by omega, by go_num, HR.out.congr fun j hj => ?_, hbel⟩
            by_cases e : j = k
            · rw [e, if_neg (Nat.lt_irrefl k), if_pos (by omega), HGk.out]; rfl
            · by_cases e2 : j < k
              · rw [if_pos e2, if_pos (by omega)]
              · rw [if_neg e2, if_neg (by omega)]
          case measure => simp [intOf]; omega
        | true =>
          go_wp2_with fail
          go_roundw
          case rel =>
            refine ⟨k + 1, by omega, by go_num, ?_, hbel.setCell (Nat.le_refl _) _⟩
            refine (HR.out.set k (.int .u64 1)).congr fun j hj => ?_
            by_cases e : j = k
            · rw [if_pos e, e, if_pos (by omega), HGk.out]; rfl
            · rw [if_neg e]
              by_cases e2 : j < k
              · rw [if_pos e2, if_pos (by omega)]
              · rw [if_neg e2, if_neg (by omega)]
          case measure => simp [intOf]; omega
      · obtain rfl : k = N := by omega
        have CP1 := hid (CP.out wr (HR.out.congr fun j hj => by rw [if_pos hj]))
        clear hrow HR
        go_wp2_with fail
        refine CP1.out.mono ?_
        rintro _ w2 ⟨A2, c2, rfl, ho, hb2⟩
        have HO := hid (own_base ho hbel.size)
        clear ho
        go_wp2_with fail
        go_ret2
        exact ⟨A2, c2, rfl, HO.out, hbel.trans (hb2.mono hbel.size)⟩
end Go.Proofs.YtecgbelgoomneaaGreat
