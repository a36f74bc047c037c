
/- ZQuB: texts joined: QuB. -/
import Derived.Test.YtecgbelgoomneaaGreatZb
import Derived.Test.YtecgbelgoomneaaGreatZa
import Derived.Deep.Cut
/- What is pressed to levels: by the document. -/
namespace Go.Proofs.YtecgbelgoomneaaGreat
open Go.RowKit
set_option maxHeartbeats 1000000
set_option maxRecDepth 100000
set_option linter.unusedVariables false
theorem mostq_ok {v : List Int} (he : mostE v = 0) : v.length ≤ 4096 ∧ 0 ≤ mostV v ∧ mostV v ≤ 9223372036854775807 ∧ (∀ x ∈ v, (szN x : Int) ≤ mostV v) ∧ (mostV v = 0 ∨ ∃ x ∈ v, (szN x : Int) = mostV v) := by
  have hn : ¬ 4096 < v.length := fun h => by unfold mostE at he; rw [(un_long h 0 (numA v)).1] at he; cases he
  have hs : seqE (numA v) v.length = 0 := by unfold mostE at he; rw [(un_ok hn (numA v)).1] at he; exact he
  have h0 := seqE_zero.1 hs
  have hk : ∀ k, k < v.length → (numA v k).1 = absI (v.getD k 0) := fun k hk => ckV_in (ckE_zero.1 (h0 k hk))
  have em : unV 0 (numA v) v.length = (List.range v.length).map fun k => absI (v.getD k 0) := by
    rw [(un_ok hn (numA v)).2]
    unfold seqV
    rw [if_pos hs]
    exact map_range_ext hk
  have ea : ∀ x : Int, absI x = (szN x : Int) := fun x => by unfold absI szN; split <;> omega
  have im : I64 (mostV v) := mx_i64 (unV_i64 fun k _ => ckV_i64 _) 0 (by decide)
  have hmem := mx_mem (unV 0 (numA v) v.length)
  rw [em] at hmem
  have hmv : mostV v = mx ((List.range v.length).map fun k => absI (v.getD k 0)) := by unfold mostV; rw [em]
  rw [← hmv] at hmem
  refine ⟨by omega, mx_nonneg _, i64_le im, fun x hx => ?_, ?_⟩
  · obtain ⟨k, hk⟩ := List.mem_iff_getElem?.1 hx
    have hlt := (List.getElem?_eq_some_iff.1 hk).1
    unfold mostV
    rw [em]
    refine Int.le_trans ?_ (le_mx (List.mem_map.2 ⟨k, by simpa using hlt, rfl⟩))
    rw [ea, getD_of hk]
    exact Int.le_refl _
  · rcases hmem with h | h
    · exact .inl h
    · right
      obtain ⟨k, hk, e⟩ := List.mem_map.1 h
      have hlt : k < v.length := by simpa using hk
      refine ⟨v[k], List.getElem_mem hlt, ?_⟩
      rw [← e, ea, getD_of (List.getElem?_eq_getElem hlt)]
theorem most_i64 (v : List Int) : I64 (mostV v) := mx_i64 (unV_i64 fun k _ => ckV_i64 _) 0 (by decide)
theorem lvlE_most {v : List Int} {wide x : Int} (he : mostE v = 0) (hw : stsE wide = 0) (hx : x ∈ v) : lvlE x (mostV v) wide = 0 := by
  obtain ⟨_, h1, _, h2, _⟩ := mostq_ok he
  exact lvlE_ok.2 ⟨hw, h1, h2 x hx⟩
/-- A vector that a call tells, its levels and signs the call's own. -/
def OwnSl (base : Nat) (s : SentV) (er : Int) (w : World) (e : Ending) (w' : World) : Prop :=
  ∃ A c A' c', e = .returned (.tuple #[encT s ⟨none, 0, none, 0, A, c, A', c'⟩, .int .i64 er]) ∧ s.L = [] ∧ s.V = [] ∧
    w'.ownsRow base 25 1 (.slice A s.lev.length c) s.lev.length (s.lev.map (Value.int .u64)) ∧ w'.ownsRow base 4 1 (.slice A' s.neg.length c') s.neg.length (s.neg.map Value.bool) ∧ apt A A' ∧ Below base w w'
theorem plQ_le {x scale wide : Int} {seed : Nat} {n : List Int} {i : Nat} (h : lvlE x scale wide = 0) : lvlL x scale wide ≤ 255 := by
  obtain ⟨h1, h2, h3⟩ := lvlE_ok.1 h
  unfold lvlL
  rw [if_pos h]
  exact Nat.le_trans (lvQ_le (by omega) _) (topQ_bd h1).2
end Go.Proofs.YtecgbelgoomneaaGreat
