
/- ZPsC: texts joined: PsC. -/
import Derived.Test.YtecgbelgoomneaaGreatZPsB
import Derived.Test.YtecgbelgoomneaaGreatZf
/- A round, and whether a vector is pressed so: the document's. -/
namespace Go.Proofs.YtecgbelgoomneaaGreat
open Go.RowKit
set_option maxHeartbeats 4000000
set_option maxRecDepth 100000
set_option linter.unusedVariables false
/-- A call's answer: a pressed vector, what is left, both in memory of the call's own, and an error. -/
def OwnRo (base : Nat) (s : SentV) (xs : List Int) (er : Int) (w : World) (e : Ending) (w' : World) : Prop :=
  ∃ (p : SentP) (A : Option Addr) (c : Nat), e = .returned (.tuple #[encT s p, .slice A xs.length c, .int .i64 er]) ∧ OwnL w' base s p ∧ w'.ownsRow base 2 1 (.slice A xs.length c) xs.length (xs.map (Value.int .i64)) ∧ Below base w w'
theorem OwnRo.zero {base : Nat} {E : Int} {w w' : World} (hb : Below base w w') : OwnRo base zeroS [] E w (.returned (.tuple #[encT zeroS zeroP, .slice none 0 0, .int .i64 E])) w' := ⟨zeroP, none, 0, rfl, OwnL.zero _ _, own_nil _ _ _, hb⟩
theorem prd_err1 {sch k wide : Int} {g l : List Int} {s : Nat} {n : List Int} (h : ¬ opE (· + ·) g l = 0) : prdE sch k wide g l s n = opE (· + ·) g l ∧ prdS sch k wide g l s n = zeroS ∧ prdV sch k wide g l s n = [] := by
  have e : prdE sch k wide g l s n = opE (· + ·) g l := if_pos h
  exact ⟨e, if_neg (by rw [e]; exact h), if_neg (by rw [e]; exact h)⟩
theorem prd_err2 {sch k wide : Int} {g l : List Int} {s : Nat} {n : List Int} (h : opE (· + ·) g l = 0) (h2 : ¬ ppE sch k wide (prdU g l) = 0) : prdE sch k wide g l s n = ppE sch k wide (prdU g l) ∧ prdS sch k wide g l s n = zeroS ∧ prdV sch k wide g l s n = [] := by
  have e : prdE sch k wide g l s n = ppE sch k wide (prdU g l) := by unfold prdE; rw [if_neg (by simp [h]), if_pos h2]
  exact ⟨e, if_neg (by rw [e]; exact h2), if_neg (by rw [e]; exact h2)⟩
theorem prd_err3 {sch k wide : Int} {g l : List Int} {s : Nat} {n : List Int} (h : opE (· + ·) g l = 0) (h2 : ppE sch k wide (prdU g l) = 0) : prdE sch k wide g l s n = plfE (prdU g l) (ppS sch k wide (prdU g l) s n) ∧
    (¬ plfE (prdU g l) (ppS sch k wide (prdU g l) s n) = 0 → prdS sch k wide g l s n = zeroS ∧ prdV sch k wide g l s n = []) ∧
    (plfE (prdU g l) (ppS sch k wide (prdU g l) s n) = 0 → prdS sch k wide g l s n = ppS sch k wide (prdU g l) s n ∧ prdV sch k wide g l s n = plfV (prdU g l) (ppS sch k wide (prdU g l) s n)) := by
  have e : prdE sch k wide g l s n = plfE (prdU g l) (ppS sch k wide (prdU g l) s n) := by unfold prdE; rw [if_neg (by simp [h]), if_neg (by simp [h2])]
  exact ⟨e, fun h3 => ⟨if_neg (by rw [e]; exact h3), if_neg (by rw [e]; exact h3)⟩, fun h3 => ⟨if_pos (by rw [e]; exact h3), if_pos (by rw [e]; exact h3)⟩⟩
theorem op_none {f : Int → Int → Int} {g l : List Int} (h : ¬ opE f g l = 0) : opV f g l = [] := by
  unfold opE at h
  unfold opV
  by_cases ht : twoE g.length l.length = 0
  · rw [if_pos ht] at h ⊢
    exact if_neg h
  · rw [if_neg ht]
theorem op_len {f : Int → Int → Int} {g l : List Int} : (opV f g l).length ≤ 4096 := by
  by_cases h : opE f g l = 0
  · obtain ⟨a1, a2, a3, a4⟩ := op_ok h
    rw [a4]
    simp
    omega
  · have : opV f g l = [] := op_none h
    rw [this]; simp
theorem op_i64 {f : Int → Int → Int} {g l : List Int} : ∀ x ∈ opV f g l, I64 x := by
  by_cases h : opE f g l = 0
  · obtain ⟨a1, a2, a3, a4⟩ := op_ok h
    intro x hx
    rw [a4] at hx
    obtain ⟨j, hj, rfl⟩ := List.mem_map.1 hx
    exact a3 j (List.mem_range.1 hj)
  · have : opV f g l = [] := op_none h
    rw [this]; simp
theorem mt_in {sch k wide : Int} {v : List Int} {s : SentV} (h1 : howE sch k wide v.length = 0) (h2 : mayB s = true) (h3 : s.sch = sch) :
    mtB sch k wide v s = if sch = 1 then isTB v k s else if sch = 2 then (decide (s.wide = wide) && nearB v s) else if sch = 3 then isGB v s else eqB s.V v := by
  unfold mtB
  rw [decide_eq_true ⟨howE_ok.1 h1, h2, h3⟩, Bool.true_and]
theorem mt_no {sch k wide : Int} {v : List Int} {s : SentV} (h : ¬ (howE sch k wide v.length = 0 ∧ mayB s = true ∧ s.sch = sch)) : mtB sch k wide v s = false := by
  unfold mtB
  rw [decide_eq_false (fun h2 => h ⟨howE_ok.2 h2.1, h2.2⟩), Bool.false_and]
end Go.Proofs.YtecgbelgoomneaaGreat
