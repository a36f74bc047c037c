
/- ZPsA: texts joined: PsA. -/
import Derived.Test.YtecgbelgoomneaaGreatZa
import Derived.Test.YtecgbelgoomneaaGreatZQuD
import Derived.Test.YtecgbelgoomneaaGreatZe
import Derived.Test.YtecgbelgoomneaaGreatZf
/- Whether a way may be; pressed by way: the document's. -/
namespace Go.Proofs.YtecgbelgoomneaaGreat
open Go.RowKit
set_option maxHeartbeats 4000000
set_option maxRecDepth 100000
set_option linter.unusedVariables false
theorem box2 (w : World) (o : Obj) (L : List Value) (t : TypeId) : BoxL ((w.alloc o).alloc (.cells L.toArray t)) (w.heap.size + 1) L := by
  have h := BoxL.new (w.alloc o) L t
  rw [show (w.alloc o).heap.size = w.heap.size + 1 by simp] at h
  exact h
theorem sg_up (w : World) (o : Obj) : Below w.heap.size w (w.alloc o) := (Below.refl _ _).alloc (Nat.le_refl _) o
theorem howE_no {sch k wide dim : Int} (h : ¬ howP sch k wide dim) : howE sch k wide dim = 1 := if_neg h
/-- A call's answer: a pressed vector, its lists in memory of the call's own, and an error. -/
def OwnSS (base : Nat) (s : SentV) (er : Int) (w : World) (e : Ending) (w' : World) : Prop :=
  ∃ p : SentP, e = .returned (.tuple #[encT s p, .int .i64 er]) ∧
    (w'.ownsRow base 3 1 (.slice p.AL s.L.length p.cL) s.L.length (s.L.map (Value.int .i64)) ∧ w'.ownsRow base 2 1 (.slice p.AV s.V.length p.cV) s.V.length (s.V.map (Value.int .i64)) ∧
     w'.ownsRow base 25 1 (.slice p.AE s.lev.length p.cE) s.lev.length (s.lev.map (Value.int .u64)) ∧ w'.ownsRow base 4 1 (.slice p.AN s.neg.length p.cN) s.neg.length (s.neg.map Value.bool)) ∧ Below base w w'
/-- Its lists lie so. -/
def OwnL (w' : World) (base : Nat) (s : SentV) (p : SentP) : Prop :=
  w'.ownsRow base 3 1 (.slice p.AL s.L.length p.cL) s.L.length (s.L.map (Value.int .i64)) ∧ w'.ownsRow base 2 1 (.slice p.AV s.V.length p.cV) s.V.length (s.V.map (Value.int .i64)) ∧
     w'.ownsRow base 25 1 (.slice p.AE s.lev.length p.cE) s.lev.length (s.lev.map (Value.int .u64)) ∧ w'.ownsRow base 4 1 (.slice p.AN s.neg.length p.cN) s.neg.length (s.neg.map Value.bool)
theorem OwnL.rd {w' : World} {base : Nat} {s : SentV} {p : SentP} (h : OwnL w' base s p) : RdS w' w'.heap.size s p := ⟨own_rd h.1, own_rd h.2.1, own_rd h.2.2.1, own_rd h.2.2.2⟩
theorem OwnL.base {w' : World} {base b : Nat} {s : SentV} {p : SentP} (h : OwnL w' base s p) (hb : b ≤ base) : OwnL w' b s p := ⟨own_base h.1 hb, own_base h.2.1 hb, own_base h.2.2.1 hb, own_base h.2.2.2 hb⟩
theorem OwnL.on {w w' : World} {base : Nat} {s : SentV} {p : SentP} (h : OwnL w base s p) (hb : Below w.heap.size w w') : OwnL w' base s p := ⟨own_on h.1 hb, own_on h.2.1 hb, own_on h.2.2.1 hb, own_on h.2.2.2 hb⟩
theorem OwnL.set {w : World} {base : Nat} {s : SentV} {p : SentP} (h : OwnL w base s p) {q : Addr} (hq : q.block < base) (u : Value) : OwnL (w.setCell q u) base s p := ⟨own_set h.1 hq u, own_set h.2.1 hq u, own_set h.2.2.1 hq u, own_set h.2.2.2 hq u⟩
theorem OwnL.zero (w : World) (base : Nat) : OwnL w base zeroS zeroP := ⟨own_nil _ _ _, own_nil _ _ _, own_nil _ _ _, own_nil _ _ _⟩
theorem ownt_l {w' : World} {base : Nat} {s : SentV} {A A' : Option Addr} {c c' : Nat} (h1 : s.lev = []) (h2 : s.neg = []) (o1 : w'.ownsRow base 3 1 (.slice A s.L.length c) s.L.length (s.L.map (Value.int .i64))) (o2 : w'.ownsRow base 2 1 (.slice A' s.V.length c') s.V.length (s.V.map (Value.int .i64))) :
    OwnL w' base s ⟨A, c, A', c', none, 0, none, 0⟩ := ⟨o1, o2, by rw [h1]; exact own_nil _ _ _, by rw [h2]; exact own_nil _ _ _⟩
theorem ownl_l {w' : World} {base : Nat} {s : SentV} {A A' : Option Addr} {c c' : Nat} (h1 : s.L = []) (h2 : s.V = []) (o1 : w'.ownsRow base 25 1 (.slice A s.lev.length c) s.lev.length (s.lev.map (Value.int .u64))) (o2 : w'.ownsRow base 4 1 (.slice A' s.neg.length c') s.neg.length (s.neg.map Value.bool)) :
    OwnL w' base s ⟨none, 0, none, 0, A, c, A', c'⟩ := ⟨by rw [h1]; exact own_nil _ _ _, by rw [h2]; exact own_nil _ _ _, o1, o2⟩
theorem owng_l {w' : World} {base : Nat} {s : SentV} {A : Option Addr} {c : Nat} (h1 : s.L = []) (h2 : s.V = []) (h3 : s.lev = []) (o1 : w'.ownsRow base 4 1 (.slice A s.neg.length c) s.neg.length (s.neg.map Value.bool)) :
    OwnL w' base s ⟨none, 0, none, 0, none, 0, A, c⟩ := ⟨by rw [h1]; exact own_nil _ _ _, by rw [h2]; exact own_nil _ _ _, by rw [h3]; exact own_nil _ _ _, o1⟩
/-- What is pressed by the way itself. -/
theorem way_S {sch k wide : Int} {v : List Int} {s : Nat} {n : List Int} (h : ¬ wayE sch k wide v = 0) : wayS sch k wide v s n = zeroS := by
  unfold wayE at h
  unfold wayS
  by_cases h1 : sch = 1
  · rw [if_pos h1] at h ⊢
    exact if_neg h
  · rw [if_neg h1] at h ⊢
    by_cases h2 : sch = 2
    · rw [if_pos h2] at h ⊢
      exact if_neg h
    · rw [if_neg h2] at h ⊢
      by_cases h3 : sch = 3
      · rw [if_pos h3] at h ⊢
        exact if_neg h
      · rw [if_neg h3] at h
        exact absurd rfl h
theorem pp_way {sch k wide : Int} {v : List Int} {s : Nat} {n : List Int} (h1 : ¬ 4096 < v.length) (h2 : howE sch k wide v.length = 0) : ppE sch k wide v = wayE sch k wide v ∧ ppS sch k wide v s n = wayS sch k wide v s n := by
  have e : ppE sch k wide v = wayE sch k wide v := by unfold ppE; rw [if_neg h1, if_neg (by simp [h2])]
  refine ⟨e, ?_⟩
  unfold ppS
  rw [e]
  by_cases h : wayE sch k wide v = 0
  · rw [if_pos h]
  · rw [if_neg h, way_S h]

end Go.Proofs.YtecgbelgoomneaaGreat
