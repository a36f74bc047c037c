
/- A map of numbers put one by one: how many it has; lists turned round, with one more. -/
import Derived.Test.YtgdkmgepconnpaaIxN
import Derived.Test.YtgdkmgepconnpaaIxC
import Derived.Test.YtgdkmgepconnpaaRws
import Derived.Maps.Own
import Derived.Maps.OwnSet
namespace Go.Proofs.Ytgdkmgepconnpaa
open Go.RowKit Go.Maps
set_option linter.unusedVariables false
def putB (D : DataW Unit) (n : Int) : DataW Unit := D.put (.int .i64 n) (.lit (.bool true))
def mapD (xs : List Int) : DataW Unit := xs.foldl putB (.map [])
theorem mapD_snoc (xs : List Int) (n : Int) : mapD (xs ++ [n]) = putB (mapD xs) n := by unfold mapD; rw [List.foldl_append]; rfl
theorem insert_perm {H : Type} (x : Lit × DataW H) : ∀ l : List (Lit × DataW H), (DataW.insert x l).Perm (x :: l)
  | [] => by unfold DataW.insert; exact List.Perm.refl _
  | y :: r => by
    unfold DataW.insert
    split
    · exact List.Perm.refl _
    · exact ((insert_perm x r).cons y).trans (List.Perm.swap x y r)
theorem ins_perm {out : List Int} (h : risP out) (n : Int) : (insI out n).Perm (n :: out.filter fun x => !decide (x = n)) := by
  refine (List.perm_ext_iff_of_nodup (ris_nodup (ins_ris h n)) ?_).2 fun x => ?_
  · rw [List.nodup_cons]
    refine ⟨fun hm => ?_, List.Nodup.sublist List.filter_sublist (ris_nodup h)⟩
    have := (List.mem_filter.1 hm).2
    simp at this
  · rw [ins_mem, List.mem_cons, List.mem_filter]
    by_cases e : x = n <;> simp [e]
def Like (D : DataW Unit) (out : List Int) : Prop := risP out ∧ ∃ es, D = .map es ∧ (es.map Prod.fst).Perm (out.map (Lit.int .i64))
theorem like_put {D : DataW Unit} {out : List Int} (h : Like D out) (n : Int) : Like (putB D n) (insI out n) := by
  obtain ⟨hr, es, rfl, hp⟩ := h
  refine ⟨ins_ris hr n, _, rfl, ?_⟩
  refine ((insert_perm _ _).map Prod.fst).trans ?_
  rw [List.map_cons]
  have e1 : (es.filter fun p => !p.1.sameKey (.int .i64 n)).map Prod.fst = (es.map Prod.fst).filter fun q => !q.sameKey (.int .i64 n) := by
    rw [List.filter_map]; rfl
  have e2 : (out.map (Lit.int .i64)).filter (fun q => !q.sameKey (.int .i64 n)) = (out.filter fun x => !decide (x = n)).map (Lit.int .i64) := by
    rw [List.filter_map]
    congr 1
    apply List.filter_congr
    intro x _
    simp [Lit.sameKey]
  rw [e1]
  refine List.Perm.trans ?_ ((ins_perm hr n).map (Lit.int .i64)).symm
  rw [List.map_cons, ← e2]
  exact (hp.filter _).cons _
theorem like_fold : ∀ (xs : List Int) (D : DataW Unit) (out : List Int), Like D out → Like (xs.foldl putB D) (mrgF out xs)
  | [], D, out, h => h
  | n :: xs, D, out, h => like_fold xs (putB D n) (insI out n) (like_put h n)
theorem mapD_size (xs : List Int) : Maps.size (mapD xs) = (mrgF [] xs).length := by
  obtain ⟨_, es, he, hp⟩ := like_fold xs (.map []) [] ⟨ris_nil, [], rfl, List.Perm.refl _⟩
  have h := hp.length_eq
  rw [List.length_map, List.length_map] at h
  rw [show mapD xs = .map es from he, ← h]
  rfl
section
variable {P : Program} {k : TypeId} {R : Value → Option (DataW Unit × List MemPlace)} {w w' : World} {b n : Nat} {D : DataW Unit}
theorem om_keep (h : w.ownsMap P k R b n D) (e : w'.heap[b]? = w.heap[b]?) : w'.ownsMap P k R b n D := by
  obtain ⟨es, clock, hb, F, hs, hD⟩ := h
  exact ⟨es, clock, e.trans hb, F, hs, hD⟩
theorem om_below (h : w.ownsMap P k R b n D) {B : Nat} (hb : Below B w w') (hB : b < B) : w'.ownsMap P k R b n D := om_keep h (hb.block b hB)
theorem grown_below {B : Nat} (h : w.grownBy w' (some b)) (hB : B ≤ b) (hs : B ≤ w.heap.size) : Below B w w' := ⟨h.os, h.tape, h.output, h.size, fun j hj => h.block j (by omega) (by intro e; injection e with e; omega)⟩
theorem own_grown {base m c : Nat} {e : TypeId} {A : Option Addr} {vs : List Value} (h : w.ownsRow base e 1 (.slice A m c) m vs) (hg : w.grownBy w' (some b)) (hb : b < base) : w'.ownsRow base e 1 (.slice A m c) m vs := by
  refine ⟨h.1, ?_⟩
  rcases h.2 with hn | ⟨g, cap, cur, hv, hg2, hh, r⟩
  · exact .inl hn
  · exact .inr ⟨g, cap, cur, hv, hg2, (hg.block g (Array.getElem?_eq_some_iff.1 hh).1 (by intro e; injection e with e; omega)).trans hh, r⟩
end
theorem fits_snoc {w : World} {B : Nat} {ps : List Sl} {rows : List (List Int)} {p : Sl} {x : List Int} (h : Fits w B ps rows) (hp : p.2.1 = x.length) (hr : Rd (Value.int .i64) w B p.1 x) : Fits w B (ps ++ [p]) (rows ++ [x]) := by
  refine ⟨by rw [List.length_append, List.length_append, h.1]; rfl, fun k q xs hq hx => ?_⟩
  by_cases hk : k < ps.length
  · rw [List.getElem?_append_left hk] at hq
    rw [List.getElem?_append_left (by rw [← h.1]; exact hk)] at hx
    exact h.2 k q xs hq hx
  · have hk2 : k = ps.length := by
      have := (List.getElem?_eq_some_iff.1 hq).1
      rw [List.length_append] at this
      simp at this
      omega
    subst hk2
    rw [List.getElem?_append_right (Nat.le_refl _)] at hq
    rw [h.1, List.getElem?_append_right (Nat.le_refl _)] at hx
    simp at hq hx
    subst hq
    subst hx
    exact ⟨hp, hr⟩
theorem back_next {ps : List Sl} {k : Nat} {p : Sl} (hp : ps[ps.length - 1 - k]? = some p) (hk : k < ps.length) : ps.reverse.take (k + 1) = ps.reverse.take k ++ [p] := by
  rw [List.take_add_one, List.getElem?_reverse hk, hp]
  rfl
theorem mrg_back (x : List Int) (ls : List (List Int)) : mrgV ((x :: ls).reverse ++ [x]) = mrgV (x :: ls) := by
  refine mrgV_eq (mrgV_ris _) fun y => ?_
  rw [mrgV_mem]
  constructor
  · rintro ⟨l, hl, hy⟩
    rw [List.mem_append, List.mem_reverse, List.mem_singleton] at hl
    rcases hl with hl | rfl
    · exact ⟨l, hl, hy⟩
    · exact ⟨l, by simp, hy⟩
  · rintro ⟨l, hl, hy⟩
    exact ⟨l, by rw [List.mem_append, List.mem_reverse]; exact Or.inl hl, hy⟩
theorem in_merged {ls : List (List Int)} {i j : Nat} {x : List Int} {n : Int} (hx : ls[i]? = some x) (hn : x[j]? = some n) : hasB (mrgV ls) n = true := by
  unfold hasB
  exact decide_eq_true (mrgV_mem.2 ⟨x, List.mem_of_getElem? hx, List.mem_of_getElem? hn⟩)
end Go.Proofs.Ytgdkmgepconnpaa
