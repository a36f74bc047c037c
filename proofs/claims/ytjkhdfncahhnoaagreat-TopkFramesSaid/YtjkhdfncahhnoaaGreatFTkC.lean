
/- FTkC: texts joined: TkC. -/
import Derived.Test.YtjkhdfncahhnoaaGreatFd
import Derived.Test.YtjkhdfncahhnoaaGreatFFrA
import Derived.Test.YtjkhdfncahhnoaaGreatFb
import Derived.Deep.RegionLaw
/- What is pressed, and whether something is that: by the document. -/
namespace Go.Proofs.YtjkhdfncahhnoaaGreat
open Go.RowKit
set_option maxHeartbeats 1000000
set_option maxRecDepth 100000
set_option linter.unusedVariables false
def prsE (v : List Int) (k : Int) : Int := if v = [] then 1 else pikE v k
/-- The numbers at some places. -/
def atL (v l : List Int) : List Int := l.map fun n => v.getD n.toNat 0
def prsS (v : List Int) (k : Int) : SentV := if prsE v k = 0 then ⟨1, v.length, pikV v k, atL v (pikV v k), 0, 0, [], []⟩ else zeroS
/-- A vector that a call tells, its two lists the call's own. -/
def OwnSt (base : Nat) (s : SentV) (er : Int) (w : World) (e : Ending) (w' : World) : Prop :=
  ∃ A c A' c', e = .returned (.tuple #[encT s ⟨A, c, A', c', none, 0, none, 0⟩, .int .i64 er]) ∧ s.lev = [] ∧ s.neg = [] ∧
    w'.ownsRow base 3 1 (.slice A s.L.length c) s.L.length (s.L.map (Value.int .i64)) ∧ w'.ownsRow base 2 1 (.slice A' s.V.length c') s.V.length (s.V.map (Value.int .i64)) ∧ Below base w w'
/-- Whether something is what is pressed. -/
def isTB (v : List Int) (k : Int) (s : SentV) : Bool := decide (prsE v k = 0) && sameS (prsS v k) s
theorem prsS_ln (v : List Int) (k : Int) : lnS 4096 (prsS v k) := by
  unfold prsS
  split
  · rename_i h
    have h1 : pikE v k = 0 := by
      unfold prsE at h
      split at h
      · cases h
      · exact h
    have h2 := pikV_le v k
    have h3 := (pikE_ok.1 h1).1
    refine ⟨by show (pikV v k).length ≤ _; omega, by show (atL v (pikV v k)).length ≤ _; unfold atL; rw [List.length_map]; omega, by simp, by simp⟩
  · exact ln_zero _
theorem OwnSt.rd {base : Nat} {s : SentV} {w' : World} {A A' : Option Addr} {c c' : Nat} (h1 : s.lev = []) (h2 : s.neg = []) (hL : w'.ownsRow base 3 1 (.slice A s.L.length c) s.L.length (s.L.map (Value.int .i64))) (hV : w'.ownsRow base 2 1 (.slice A' s.V.length c') s.V.length (s.V.map (Value.int .i64))) :
    RdS w' w'.heap.size s ⟨A, c, A', c', none, 0, none, 0⟩ := ⟨own_rd hL, own_rd hV, by rw [h1]; exact Rd.none_, by rw [h2]; exact Rd.none_⟩
end Go.Proofs.YtjkhdfncahhnoaaGreat
