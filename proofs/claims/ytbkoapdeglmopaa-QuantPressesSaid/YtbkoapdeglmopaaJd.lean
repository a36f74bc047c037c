
/- Jd: texts joined: Box Grn Step App5 FsA IxQ PlO PlQ PlR DrB QpD QuK TkB TkO QuP Law Arg ArgB FrN. -/
import Derived.Test.YtbkoapdeglmopaaJa
import Derived.Test.YtbkoapdeglmopaaJb
import Derived.RegionTactic
import Derived.Deep.RegionHeld3
import Derived.Deep.RegionLaw
import Derived.Test.YtbkoapdeglmopaaJc
import Derived.Test.YtbkoapdeglmopaaShelf
import Derived.Shelf.Slices.Empties
import Derived.ChangeAlike
import Derived.Deep.QuietTactic
import Derived.BigQuiet
import Derived.StillTailTactics
import Derived.BigRegion
import Derived.Test.YtbkoapdeglmopaaRows
import Derived.WalkKit
import Derived.ProofKit
import Derived.OpenShut
import Derived.Carry
import Derived.Deep.Grids
/- A block of the call's own that holds these values, cell by cell: structs in boxes; what stores and calls leave of them. -/
namespace Go.Proofs.Ytbkoapdeglmopaa
open Go.RowKit
set_option maxRecDepth 100000
set_option linter.unusedVariables false
/-- The cells of a block, none of them frozen. -/
def BoxL (w : World) (g : Nat) (vs : List Value) : Prop := ∀ (k : Nat) (v : Value), vs[k]? = some v → w.cell? ⟨g, k, none⟩ = some v ∧ w.frozen? ⟨g, k, none⟩ = false
section
variable {w w' : World} {g B : Nat} {vs : List Value}
theorem BoxL.below (h : BoxL w g vs) (hb : Below B w w') (hg : g < B) : BoxL w' g vs := fun k v hv =>
  ⟨(hb.cell (p := ⟨g, k, none⟩) hg).trans (h k v hv).1, (hb.frozen (p := ⟨g, k, none⟩) hg).trans (h k v hv).2⟩
theorem BoxL.new (w : World) (vs : List Value) (t : TypeId) : BoxL (w.alloc (.cells vs.toArray t)) w.heap.size vs := fun k v hv => by
  have hn := heap_alloc_new w (.cells vs.toArray t)
  refine ⟨?_, ?_⟩
  · rw [cell_of_row _ _ k _ t (0, 0) hn]
    simp [hv]
  · unfold World.frozen?
    simp only [hn]
    simp
theorem BoxL.one (h : BoxL w g vs) {k : Nat} {v : Value} (hv : vs[k]? = some v) (u : Value) : BoxL (w.setCell ⟨g, k, none⟩ u) g (vs.set k u) := fun j x hx => by
  refine ⟨?_, ?_⟩
  · by_cases e : j = k
    · subst e
      rw [List.getElem?_set_self (List.getElem?_eq_some_iff.1 hv).1] at hx
      obtain rfl : u = x := Option.some.inj hx
      exact World.cell?_setCell_same _ _ _ (h j v hv).1
    · rw [List.getElem?_set_ne (by omega)] at hx
      rw [World.cell?_setCell_other _ _ _ _ (by intro e'; injection e' with _ e2; exact e e2.symm)]
      exact (h j x hx).1
  · rw [World.frozen?_setCell]
    by_cases e : j = k
    · subst e; exact (h j v hv).2
    · rw [List.getElem?_set_ne (by omega)] at hx
      exact (h j x hx).2
theorem BoxL.other (h : BoxL w g vs) {p : Addr} (hp : p.block ≠ g) (u : Value) : BoxL (w.setCell p u) g vs := fun j x hx => by
  refine ⟨?_, ?_⟩
  · rw [World.cell?_setCell_other _ _ _ _ (by rintro rfl; exact hp rfl)]
    exact (h j x hx).1
  · rw [World.frozen?_setCell]; exact (h j x hx).2
theorem BoxL.drew (h : BoxL w g vs) : BoxL w.drew g vs := h
theorem BoxL.lt (h : BoxL w g vs) (h0 : 0 < vs.length) : g < w.heap.size := lt_of_cell (h 0 _ (List.getElem?_eq_getElem h0)).1
/-- The facts of two, eight, eleven cells. -/
theorem BoxL.two {a b : Value} (h : BoxL w g [a, b]) : w.cell? ⟨g, 0, none⟩ = some a ∧ w.cell? ⟨g, 1, none⟩ = some b ∧ w.frozen? ⟨g, 0, none⟩ = false ∧ w.frozen? ⟨g, 1, none⟩ = false :=
  ⟨(h 0 a rfl).1, (h 1 b rfl).1, (h 0 a rfl).2, (h 1 b rfl).2⟩
theorem BoxL.eight {a b c d e f i j : Value} (h : BoxL w g [a, b, c, d, e, f, i, j]) :
    (w.cell? ⟨g, 0, none⟩ = some a ∧ w.cell? ⟨g, 1, none⟩ = some b ∧ w.cell? ⟨g, 2, none⟩ = some c ∧ w.cell? ⟨g, 3, none⟩ = some d ∧ w.cell? ⟨g, 4, none⟩ = some e ∧ w.cell? ⟨g, 5, none⟩ = some f ∧ w.cell? ⟨g, 6, none⟩ = some i ∧ w.cell? ⟨g, 7, none⟩ = some j) ∧
    (w.frozen? ⟨g, 0, none⟩ = false ∧ w.frozen? ⟨g, 1, none⟩ = false ∧ w.frozen? ⟨g, 2, none⟩ = false ∧ w.frozen? ⟨g, 3, none⟩ = false ∧ w.frozen? ⟨g, 4, none⟩ = false ∧ w.frozen? ⟨g, 5, none⟩ = false ∧ w.frozen? ⟨g, 6, none⟩ = false ∧ w.frozen? ⟨g, 7, none⟩ = false) :=
  ⟨⟨(h 0 a rfl).1, (h 1 b rfl).1, (h 2 c rfl).1, (h 3 d rfl).1, (h 4 e rfl).1, (h 5 f rfl).1, (h 6 i rfl).1, (h 7 j rfl).1⟩, (h 0 a rfl).2, (h 1 b rfl).2, (h 2 c rfl).2, (h 3 d rfl).2, (h 4 e rfl).2, (h 5 f rfl).2, (h 6 i rfl).2, (h 7 j rfl).2⟩
theorem BoxL.cells11 {a b c d e f i j k l m : Value} (h : BoxL w g [a, b, c, d, e, f, i, j, k, l, m]) :
    w.cell? ⟨g, 0, none⟩ = some a ∧ w.cell? ⟨g, 1, none⟩ = some b ∧ w.cell? ⟨g, 2, none⟩ = some c ∧ w.cell? ⟨g, 3, none⟩ = some d ∧ w.cell? ⟨g, 4, none⟩ = some e ∧ w.cell? ⟨g, 5, none⟩ = some f ∧ w.cell? ⟨g, 6, none⟩ = some i ∧ w.cell? ⟨g, 7, none⟩ = some j ∧ w.cell? ⟨g, 8, none⟩ = some k ∧ w.cell? ⟨g, 9, none⟩ = some l ∧ w.cell? ⟨g, 10, none⟩ = some m :=
  ⟨(h 0 a rfl).1, (h 1 b rfl).1, (h 2 c rfl).1, (h 3 d rfl).1, (h 4 e rfl).1, (h 5 f rfl).1, (h 6 i rfl).1, (h 7 j rfl).1, (h 8 k rfl).1, (h 9 l rfl).1, (h 10 m rfl).1⟩
/-- Two cells laid at once; eight cells laid at once. -/
theorem BoxL.set2 {a b : Value} (h : BoxL w g [a, b]) (a' b' : Value) : BoxL ((w.setCell ⟨g, 0, none⟩ a').setCell ⟨g, 1, none⟩ b') g [a', b'] :=
  (h.one (k := 0) rfl a').one (k := 1) (v := b) rfl b'
theorem BoxL.other2 (h : BoxL w g vs) {g' : Nat} (hg : g' ≠ g) (a' b' : Value) : BoxL ((w.setCell ⟨g', 0, none⟩ a').setCell ⟨g', 1, none⟩ b') g vs :=
  (h.other (p := ⟨g', 0, none⟩) hg a').other (p := ⟨g', 1, none⟩) hg b'
end
theorem own_set {w : World} {base n : Nat} {e : TypeId} {v : Value} {vs : List Value} (h : w.ownsRow base e 1 v n vs) {p : Addr} (hp : p.block < base) (u : Value) : (w.setCell p u).ownsRow base e 1 v n vs := by
  refine ⟨h.1, ?_⟩
  rcases h.2 with hn | ⟨g, cap, cur, hv, hg, hh, r⟩
  · exact .inl hn
  · exact .inr ⟨g, cap, cur, hv, hg, (Below.heap_setCell w p u g (by omega)).trans hh, r⟩
end Go.Proofs.Ytbkoapdeglmopaa
/- Stores into a block of the call's own, seen from other blocks. -/
namespace Go.Proofs.Ytbkoapdeglmopaa
open Go.RowKit
set_option maxRecDepth 100000
set_option linter.unusedVariables false
theorem grown_set (w : World) (a : Addr) (u : Value) : w.grownBy (w.setCell a u) (some a.block) :=
  ⟨rfl, rfl, rfl, by simp, fun k _ hk => Below.heap_setCell w a u k (fun e => hk (by rw [e]))⟩
theorem grown_me (w : World) (row : Option Nat) : w.grownBy w row := ⟨rfl, rfl, rfl, Nat.le_refl _, fun _ _ _ => rfl⟩
theorem BoxL.far {w w' : World} {g : Nat} {vs : List Value} {row : Option Nat} (h : BoxL w g vs) (hg : w.grownBy w' row) (hr : some g ≠ row) (hl : g < w.heap.size) : BoxL w' g vs := fun k v hv =>
  ⟨(World.cell?_of_block (a := ⟨g, k, none⟩) (hg.block g hl hr)).trans (h k v hv).1, (World.frozen?_of_block (a := ⟨g, k, none⟩) (hg.block g hl hr)).trans (h k v hv).2⟩
theorem own_apart {w w' : World} {base n c : Nat} {e : TypeId} {A : Option Addr} {vs : List Value} {row : Option Nat} (h : w.ownsRow base e 1 (.slice A n c) n vs) (hg : w.grownBy w' row) (hr : ∀ b, row = some b → b < base) : w'.ownsRow base e 1 (.slice A n c) n vs := by
  refine ⟨h.1, ?_⟩
  rcases h.2 with hn | ⟨g, cap, cur, hv, hg2, hh, r⟩
  · exact .inl hn
  · exact .inr ⟨g, cap, cur, hv, hg2, (hg.block g (Array.getElem?_eq_some_iff.1 hh).1 (by intro e; have := hr g e.symm; omega)).trans hh, r⟩
/-- Where a list of the call's own lies. -/
theorem row_in {w : World} {base n c : Nat} {e : TypeId} {A : Option Addr} {vs : List Value} (h : w.ownsRow base e 1 (.slice A n c) n vs) : ∀ b, A.map (·.block) = some b → base ≤ b ∧ b < w.heap.size := by
  intro b hb
  rcases h.2 with ⟨he, _⟩ | ⟨g, cap, cur, he, hg, hh, _⟩
  · simp only [Value.slice.injEq] at he
    rw [he.1] at hb
    cases hb
  · simp only [Value.slice.injEq] at he
    rw [he.1] at hb
    simp at hb
    subst hb
    exact ⟨hg, (Array.getElem?_eq_some_iff.1 hh).1⟩
end Go.Proofs.Ytbkoapdeglmopaa
/- A step of a region that draws: an append onto a list of the call's own. -/
namespace Go.Proofs.Ytbkoapdeglmopaa
open Go.RowKit
set_option maxHeartbeats 400000
set_option maxRecDepth 100000
set_option linter.unusedVariables false
theorem step_app {P : Program} {α : Type} (enc : α → Value) (h1 : ∀ x, (enc x).oneCell' = true) {w : World} {ops : Array Oper} {o : Oper} {a : Act} {K : Act → World → Prop} {Q : Exit → Act → World → Prop} {E : Prop} (hgd : o.guard = none) (s x : Operand) (t : TypeId)
    (ho : o.op = .call { callee := .builtin .append, args := #[s, x], argTypes := #[t, t] })
    (base : Nat) (e : TypeId) (z : Value) (bytes : Nat) (ht : P.underlying t = some (.slice e)) (hinfo : (P.info? e).map (fun i => (i.zero, i.size, i.bytes)) = some (some z, 1, bytes)) (hzs : z.cells.size = 1)
    (ys : List α) (A0 : Option Addr) (c0 : Nat) (hs : a.eval s = .slice A0 ys.length c0) (hown : w.ownsRow base e 1 (.slice A0 ys.length c0) ys.length (ys.map enc))
    (xs : List α) (A : Option Addr) (c B : Nat) (hx : a.eval x = .slice A xs.length c) (hr : Rd enc w B A xs) (h63 : ys.length + xs.length ≤ maxLen) (hbytes : (ys.length + xs.length) * bytes ≤ 140737488355328) (hbase : base ≤ w.heap.size)
    (h : ∀ (S : List α) (A' : Option Addr) (c' : Nat) (w' : World), S = ys ++ xs → w'.ownsRow base e 1 (.slice A' S.length c') S.length (S.map enc) → Below base w w' → w.grownBy w' (Value.slice A0 ys.length c0).ownBlock → K (a.put o.dst (.slice A' S.length c')) w') :
    if Region.wanted o (yielded ops a.tmps) = true then Oper.wp P o a w K Q else E := by
  have hw : Region.wanted o (yielded ops a.tmps) = true := by simp [Region.wanted, hgd]
  rw [if_pos hw]
  obtain ⟨A', c', w', hrun, h2, h3, h4, _⟩ := run_app (P := P) enc h1 w base t o.type e z bytes ht hinfo hzs ys A0 c0 hown xs A c B hr h63 hbytes hbase
  unfold Oper.wp execOp
  simp only [ho, resolve, invoke, builtin, Sem.run_bind, Sem.run_pure, Result.andThen_ok, List.map_toArray, List.map_cons, List.map_nil, hs, hx, hrun]
  exact h _ A' c' w' rfl h2 h3 h4
theorem own_far {w w' : World} {base n : Nat} {e : TypeId} {v : Value} {vs : List Value} {row : Option Nat} (h : w.ownsRow base e 1 v n vs) (hg : w.grownBy w' row) (hr : ∀ k, row = some k → k < base) : w'.ownsRow base e 1 v n vs := by
  refine ⟨h.1, ?_⟩
  rcases h.2 with hn | ⟨g, cap, cur, hv, hg2, hh, r⟩
  · exact .inl hn
  · exact .inr ⟨g, cap, cur, hv, hg2, (hg.block g (Array.getElem?_eq_some_iff.1 hh).1 (by intro e; have := hr g e.symm; omega)).trans hh, r⟩
end Go.Proofs.Ytbkoapdeglmopaa
/- Two lists of the call's own that grow by turns: an append that tells where its list lies then. -/
namespace Go.Proofs.Ytbkoapdeglmopaa
open Go.RowKit
set_option maxRecDepth 100000
set_option linter.unusedVariables false
/-- Where a list lies behind an append: where it lay, or in a block that is new. -/
def went (A' A : Option Addr) (n : Nat) : Prop := A'.map (·.block) = A.map (·.block) ∨ A'.map (·.block) = some n
section
variable {α : Type} {P : Program}
theorem ob_eq (A : Option Addr) (n c : Nat) : (Value.slice A n c).ownBlock = A.map (·.block) := by cases A <;> rfl
theorem wpList_app5 (enc : α → Value) (h1 : ∀ x, (enc x).oneCell' = true) (w : World) {ops : Array Oper} {rest : List Oper} {o : Oper} {a : Act} {Q : Exit → Act → World → Prop} (hgd : o.guard = none) (s x : Operand) (t : TypeId)
    (ho : o.op = .call { callee := .builtin .append, args := #[s, x], argTypes := #[t, t] })
    (base : Nat) (e : TypeId) (z : Value) (bytes : Nat) (ht : P.underlying t = some (.slice e)) (hinfo : (P.info? e).map (fun i => (i.zero, i.size, i.bytes)) = some (some z, 1, bytes)) (hzs : z.cells.size = 1)
    (ys : List α) (A0 : Option Addr) (c0 : Nat) (hs : a.eval s = .slice A0 ys.length c0) (hown : w.ownsRow base e 1 (.slice A0 ys.length c0) ys.length (ys.map enc))
    (xs : List α) (A : Option Addr) (c B : Nat) (hx : a.eval x = .slice A xs.length c) (hr : Rd enc w B A xs) (h63 : ys.length + xs.length ≤ maxLen) (hbytes : (ys.length + xs.length) * bytes ≤ 140737488355328) (hbase : base ≤ w.heap.size)
    (h : ∀ (S : List α) (A' : Option Addr) (c' : Nat) (w' : World), S = ys ++ xs → w'.ownsRow base e 1 (.slice A' S.length c') S.length (S.map enc) → Below base w w' → w.grownBy w' (A0.map (·.block)) → went A' A0 w.heap.size → wpList P ops Q rest (a.put o.dst (.slice A' S.length c')) w') :
    wpList P ops Q (o :: rest) a w := by
  refine wpList_plain hgd fun _ hK => ?_
  obtain ⟨A', c', w', hrun, h2, h3, h4, h5⟩ := run_app (P := P) enc h1 w base t o.type e z bytes ht hinfo hzs ys A0 c0 hown xs A c B hr h63 hbytes hbase
  rw [ob_eq] at h4
  rw [ob_eq, ob_eq] at h5
  unfold Oper.wp execOp
  simp only [ho, resolve, invoke, builtin, Sem.run_bind, Sem.run_pure, Result.andThen_ok, List.map_toArray, List.map_cons, List.map_nil, hs, hx, hrun]
  exact hK _ _ (h _ A' c' w' rfl h2 h3 h4 h5)
/-- .. in a region that draws. -/
theorem step_app5 (enc : α → Value) (h1 : ∀ x, (enc x).oneCell' = true) {w : World} {ops : Array Oper} {o : Oper} {a : Act} {K : Act → World → Prop} {Q : Exit → Act → World → Prop} {E : Prop} (hgd : o.guard = none) (s x : Operand) (t : TypeId)
    (ho : o.op = .call { callee := .builtin .append, args := #[s, x], argTypes := #[t, t] })
    (base : Nat) (e : TypeId) (z : Value) (bytes : Nat) (ht : P.underlying t = some (.slice e)) (hinfo : (P.info? e).map (fun i => (i.zero, i.size, i.bytes)) = some (some z, 1, bytes)) (hzs : z.cells.size = 1)
    (ys : List α) (A0 : Option Addr) (c0 : Nat) (hs : a.eval s = .slice A0 ys.length c0) (hown : w.ownsRow base e 1 (.slice A0 ys.length c0) ys.length (ys.map enc))
    (xs : List α) (A : Option Addr) (c B : Nat) (hx : a.eval x = .slice A xs.length c) (hr : Rd enc w B A xs) (h63 : ys.length + xs.length ≤ maxLen) (hbytes : (ys.length + xs.length) * bytes ≤ 140737488355328) (hbase : base ≤ w.heap.size)
    (h : ∀ (S : List α) (A' : Option Addr) (c' : Nat) (w' : World), S = ys ++ xs → w'.ownsRow base e 1 (.slice A' S.length c') S.length (S.map enc) → Below base w w' → w.grownBy w' (A0.map (·.block)) → went A' A0 w.heap.size → K (a.put o.dst (.slice A' S.length c')) w') :
    if Region.wanted o (yielded ops a.tmps) = true then Oper.wp P o a w K Q else E := by
  have hw : Region.wanted o (yielded ops a.tmps) = true := by simp [Region.wanted, hgd]
  rw [if_pos hw]
  obtain ⟨A', c', w', hrun, h2, h3, h4, h5⟩ := run_app (P := P) enc h1 w base t o.type e z bytes ht hinfo hzs ys A0 c0 hown xs A c B hr h63 hbytes hbase
  rw [ob_eq] at h4
  rw [ob_eq, ob_eq] at h5
  unfold Oper.wp execOp
  simp only [ho, resolve, invoke, builtin, Sem.run_bind, Sem.run_pure, Result.andThen_ok, List.map_toArray, List.map_cons, List.map_nil, hs, hx, hrun]
  exact h _ A' c' w' rfl h2 h3 h4 h5
end
/-- Two lists that lie apart. -/
def apt (A B : Option Addr) : Prop := ∀ g, A.map (·.block) = some g → B.map (·.block) ≠ some g
theorem apt_none (B : Option Addr) : apt none B := fun g h => by cases h
theorem apt.symm {A B : Option Addr} (h : apt A B) : apt B A := fun g h1 h2 => h g h2 h1
theorem apt.app {A A' B : Option Addr} (h : apt A B) {m : Nat} (h5 : went A' A m) (hB : ∀ g, B.map (·.block) = some g → g < m) : apt A' B := fun g h1 h2 => by
  rcases h5 with e | e
  · exact h g (by rw [← e, h1]) h2
  · rw [e] at h1
    injection h1 with h1
    have := hB g h2
    omega
theorem own_apt {w w' : World} {base n c : Nat} {e : TypeId} {A B : Option Addr} {vs : List Value} (h : w.ownsRow base e 1 (.slice B n c) n vs) (hg : w.grownBy w' (A.map (·.block))) (hap : apt A B) : w'.ownsRow base e 1 (.slice B n c) n vs := by
  refine h.kept hg ?_
  rw [ob_eq]
  cases hB : B.map (·.block) with
  | none => exact .inl rfl
  | some g => exact .inr fun e => hap g e.symm hB
end Go.Proofs.Ytbkoapdeglmopaa
/- Lists and arrays that are compared, by package slices; the program's view of a vector and of a frame. -/
namespace Go.Proofs.Ytbkoapdeglmopaa
open Go.RowKit
set_option maxHeartbeats 400000
set_option maxRecDepth 100000
set_option linter.unusedVariables false
theorem equal_eight (a b c d e f g h a' b' c' d' e' f' g' h' : Int) (w : World) :
    (Op.equalIn 10000 78 (.agg #[.int .i64 a, .int .i64 b, .int .i64 c, .int .i64 d, .int .i64 e, .int .i64 f, .int .i64 g, .int .i64 h]) (.agg #[.int .i64 a', .int .i64 b', .int .i64 c', .int .i64 d', .int .i64 e', .int .i64 f', .int .i64 g', .int .i64 h'])).run Try.prog w = .ok (eqB [a, b, c, d, e, f, g, h] [a', b', c', d', e', f', g', h']) w := by
  have h0 : ∀ (x0 x1 x2 x3 x4 x5 x6 x7 : Int) (w : World), (part 2 #[.int .i64 x0, .int .i64 x1, .int .i64 x2, .int .i64 x3, .int .i64 x4, .int .i64 x5, .int .i64 x6, .int .i64 x7] 0).run Try.prog w = .ok (.int .i64 x0) w := fun _ _ _ _ _ _ _ _ _ => by kernel_rfl
  have h1 : ∀ (x0 x1 x2 x3 x4 x5 x6 x7 : Int) (w : World), (part 2 #[.int .i64 x0, .int .i64 x1, .int .i64 x2, .int .i64 x3, .int .i64 x4, .int .i64 x5, .int .i64 x6, .int .i64 x7] 1).run Try.prog w = .ok (.int .i64 x1) w := fun _ _ _ _ _ _ _ _ _ => by kernel_rfl
  have h2 : ∀ (x0 x1 x2 x3 x4 x5 x6 x7 : Int) (w : World), (part 2 #[.int .i64 x0, .int .i64 x1, .int .i64 x2, .int .i64 x3, .int .i64 x4, .int .i64 x5, .int .i64 x6, .int .i64 x7] 2).run Try.prog w = .ok (.int .i64 x2) w := fun _ _ _ _ _ _ _ _ _ => by kernel_rfl
  have h3 : ∀ (x0 x1 x2 x3 x4 x5 x6 x7 : Int) (w : World), (part 2 #[.int .i64 x0, .int .i64 x1, .int .i64 x2, .int .i64 x3, .int .i64 x4, .int .i64 x5, .int .i64 x6, .int .i64 x7] 3).run Try.prog w = .ok (.int .i64 x3) w := fun _ _ _ _ _ _ _ _ _ => by kernel_rfl
  have h4 : ∀ (x0 x1 x2 x3 x4 x5 x6 x7 : Int) (w : World), (part 2 #[.int .i64 x0, .int .i64 x1, .int .i64 x2, .int .i64 x3, .int .i64 x4, .int .i64 x5, .int .i64 x6, .int .i64 x7] 4).run Try.prog w = .ok (.int .i64 x4) w := fun _ _ _ _ _ _ _ _ _ => by kernel_rfl
  have h5 : ∀ (x0 x1 x2 x3 x4 x5 x6 x7 : Int) (w : World), (part 2 #[.int .i64 x0, .int .i64 x1, .int .i64 x2, .int .i64 x3, .int .i64 x4, .int .i64 x5, .int .i64 x6, .int .i64 x7] 5).run Try.prog w = .ok (.int .i64 x5) w := fun _ _ _ _ _ _ _ _ _ => by kernel_rfl
  have h6 : ∀ (x0 x1 x2 x3 x4 x5 x6 x7 : Int) (w : World), (part 2 #[.int .i64 x0, .int .i64 x1, .int .i64 x2, .int .i64 x3, .int .i64 x4, .int .i64 x5, .int .i64 x6, .int .i64 x7] 6).run Try.prog w = .ok (.int .i64 x6) w := fun _ _ _ _ _ _ _ _ _ => by kernel_rfl
  have h7 : ∀ (x0 x1 x2 x3 x4 x5 x6 x7 : Int) (w : World), (part 2 #[.int .i64 x0, .int .i64 x1, .int .i64 x2, .int .i64 x3, .int .i64 x4, .int .i64 x5, .int .i64 x6, .int .i64 x7] 7).run Try.prog w = .ok (.int .i64 x7) w := fun _ _ _ _ _ _ _ _ _ => by kernel_rfl
  have hs : (sizeOf 2).run Try.prog w = .ok 1 w := by kernel_rfl
  rw [show (10000 : Nat) = 9998 + 1 + 1 from rfl]
  unfold Op.equalIn
  simp only [Sem.run_bind, run_underlying Try.underlying78, Result.andThen_ok, hs]
  simp only [Std.Legacy.Range.forIn_eq_forIn_range', Std.Legacy.Range.size]
  simp only [Nat.sub_zero, Nat.reduceAdd, Nat.reduceSub, Nat.reduceDiv, List.range', List.forIn_cons, List.forIn_nil, Sem.run_bind]
  have hq : ∀ x y : Int, (Op.equalIn 9999 2 (.int .i64 x) (.int .i64 y)).run Try.prog w = .ok (x == y) w := fun x y => run_equalIn_int w 9998 _ _ _ _ _ Try.underlying2
  simp only [Nat.zero_mul, Nat.one_mul, h0, hq, Result.andThen_ok]
  unfold eqB
  by_cases e0 : a = a'
  · subst e0
    by_cases e1 : b = b'
    · subst e1
      by_cases e2 : c = c'
      · subst e2
        by_cases e3 : d = d'
        · subst e3
          by_cases e4 : e = e'
          · subst e4
            by_cases e5 : f = f'
            · subst e5
              by_cases e6 : g = g'
              · subst e6
                by_cases e7 : h = h' <;> simp [h1, h2, h3, h4, h5, h6, h7, hq, e7]
              · simp [h1, h2, h3, h4, h5, h6, hq, e6]
            · simp [h1, h2, h3, h4, h5, hq, e5]
          · simp [h1, h2, h3, h4, hq, e4]
        · simp [h1, h2, h3, hq, e3]
      · simp [h1, h2, hq, e2]
    · simp [h1, hq, e1]
  · simp [e0]
end Go.Proofs.Ytbkoapdeglmopaa
/- The program's places: whether they may be, by a closure that keeps the place ahead. -/
namespace Go.Proofs.Ytbkoapdeglmopaa
open Go.RowKit
set_option maxHeartbeats 400000
set_option maxRecDepth 100000
set_option linter.unusedVariables false
/-- Places that rise, below an end. -/
def gdP (E : Int) (l : List Int) : Prop := risP l ∧ ∀ n ∈ l, 0 ≤ n ∧ n < E
instance (E : Int) (l : List Int) : Decidable (gdP E l) := by unfold gdP; infer_instance
def gdB (E : Int) (l : List Int) : Bool := decide (gdP E l)
theorem gd_nil (E : Int) : gdP E [] := ⟨ris_nil, by simp⟩
theorem lastI_big : ∀ {l : List Int} {x : Int}, risP l → x ∈ l → x ≤ lastI (-1) l := by
  intro l x h hx
  rcases List.eq_nil_or_concat l with rfl | ⟨l', y, rfl⟩
  · simp at hx
  · rw [List.concat_eq_append] at *
    rw [lastI_snoc]
    rcases List.mem_append.1 hx with hx | hx
    · have := (ris_snoc.1 h).2 x hx; omega
    · simp at hx; omega
theorem lastI_from {l : List Int} {E : Int} (h : gdP E l) : -1 ≤ lastI (-1) l := by
  rcases lastI_mem l (-1) with ⟨e, _⟩ | hm
  · omega
  · have := h.2 _ hm; omega
theorem gd_step {E : Int} {l : List Int} {k : Nat} {x : Int} (h : gdP E (l.take k)) (hx : l[k]? = some x) : gdP E (l.take (k + 1)) ↔ lastI (-1) (l.take k) < x ∧ x < E := by
  rw [take_snoc hx]
  unfold gdP
  rw [ris_snoc]
  have hf := lastI_from h
  constructor
  · rintro ⟨⟨h1, h2⟩, h3⟩
    have hxE := h3 x (by simp)
    refine ⟨?_, hxE.2⟩
    rcases lastI_mem (l.take k) (-1) with ⟨e, _⟩ | hm
    · omega
    · exact h2 _ hm
  · rintro ⟨h1, h2⟩
    refine ⟨⟨h.1, fun y hy => ?_⟩, fun y hy => ?_⟩
    · have := lastI_big h.1 hy; omega
    · rcases List.mem_append.1 hy with hy | hy
      · exact h.2 y hy
      · simp at hy; omega
theorem gd_no {E : Int} {l : List Int} {k : Nat} {x : Int} (h : gdP E (l.take k)) (hx : l[k]? = some x) (hn : ¬ (lastI (-1) (l.take k) < x ∧ x < E)) : ¬ gdP E l := fun hg => by
  refine hn ((gd_step h hx).1 ⟨ris_take hg.1 _, fun n hm => hg.2 n (List.mem_of_mem_take hm)⟩)
/-- The closure's two cells. -/
def Kept (w : World) (p q : Nat) (a E : Int) : Prop := w.cell? ⟨p, 0, none⟩ = some (.int .i64 a) ∧ w.frozen? ⟨p, 0, none⟩ = false ∧ w.cell? ⟨q, 0, none⟩ = some (.int .i64 E)
theorem ix_may (dim : Int) (hd : I64 dim) (w : World) :
    Calls Try.prog 76 #[.int .i64 dim] w fun e w' => e = .returned (.bool (decide (1 ≤ dim ∧ dim ≤ 4096))) ∧ w = w' := by
  unfold I64 at hd
  by_cases h1 : 1 ≤ dim
  · by_cases h2 : dim ≤ 4096
    · rw [decide_eq_true ⟨h1, h2⟩]
      go_enter Try.func76, Try.ntmps76
      go_wp2_with fail
      go_ret
      exact ⟨rfl, rfl⟩
    · rw [decide_eq_false (fun h => h2 h.2)]
      go_enter Try.func76, Try.ntmps76
      go_wp2_with fail
      go_ret
      exact ⟨rfl, rfl⟩
  · rw [decide_eq_false (fun h => h1 h.1)]
    go_enter Try.func76, Try.ntmps76
    go_wp2_with fail
    go_ret
    exact ⟨rfl, rfl⟩
theorem ix_stray (E : Int) (w : World) :
    Calls Try.prog 78 #[.int .i64 E] w fun e w' => e = .returned (.func (.func 86) #[] #[.pointer (some ⟨w.heap.size + 1, 0, none⟩), .pointer (some ⟨w.heap.size, 0, none⟩)]) ∧ Kept w' (w.heap.size + 1) w.heap.size (-1) E ∧ Below w.heap.size w w' := by
  go_enter Try.func78, Try.ntmps78
  go_wp2_with fail
  go_ret
  refine ⟨rfl, ⟨?_, ?_, ?_⟩, ?_⟩
  · simp [go_sem]
  · simp [go_sem]
  · simp [go_sem]
  · go_grown
theorem Kept.below {w w' : World} {p q B : Nat} {a E : Int} (h : Kept w p q a E) (hb : Below B w w') (hp : p < B) (hq : q < B) : Kept w' p q a E :=
  ⟨(hb.cell (p := ⟨p, 0, none⟩) hp).trans h.1, (hb.frozen (p := ⟨p, 0, none⟩) hp).trans h.2.1, (hb.cell (p := ⟨q, 0, none⟩) hq).trans h.2.2⟩
/-- One place asked. -/
theorem stray_cl {p q B : Nat} (hpq : p ≠ q) (hB : B ≤ p) (a E x : Int) (w : World) (hk : Kept w p q a E) :
    Calls Try.prog 86 (#[.int .i64 x] ++ #[.pointer (some ⟨p, 0, none⟩), .pointer (some ⟨q, 0, none⟩)]) w fun e w' => e = .returned (.bool (!decide (a < x ∧ x < E))) ∧ Kept w' p q x E ∧ Below B w w' := by
  obtain ⟨c1, c2, c3⟩ := hk
  have key : ∀ n, Kept ((w.drewN n).setCell ⟨p, 0, none⟩ (.int .i64 x)) p q x E ∧ Below B w ((w.drewN n).setCell ⟨p, 0, none⟩ (.int .i64 x)) := fun n => by
    refine ⟨⟨World.cell?_setCell_same _ _ _ c1, ?_, ?_⟩, (belowN B w n).setCell hB _⟩
    · rw [World.frozen?_setCell]; exact c2
    · rw [World.cell?_setCell_other _ _ _ _ (by intro e; injection e with e1 e2; exact hpq e1)]; exact c3
  have HK := hid key
  clear key
  by_cases h1 : x ≤ a
  · rw [decide_eq_false (fun h => by omega)]
    go_enter Try.func86, Try.ntmps86
    go_wp2_with fail
    go_ret
    exact ⟨rfl, HK.out 0⟩
  · by_cases h2 : E ≤ x
    · rw [decide_eq_false (fun h => by omega)]
      go_enter Try.func86, Try.ntmps86
      go_wp2_with fail
      go_ret
      exact ⟨rfl, HK.out 0⟩
    · rw [decide_eq_true (show a < x ∧ x < E by omega)]
      go_enter Try.func86, Try.ntmps86
      go_wp2_with fail
      go_ret
      exact ⟨rfl, HK.out 0⟩
theorem stray_index {A : Option Addr} {c p q B : Nat} (hpq : p ≠ q) (hp : B ≤ p) (hq : B ≤ q) (E : Int) (l : List Int) (hl : l.length ≤ 9223372036854775807) (w : World) (ra : Rd (Value.int .i64) w B A l) (hk : Kept w p q (-1) E) :
    Calls Try.prog 85 #[.slice A l.length c, .func (.func 86) #[] #[.pointer (some ⟨p, 0, none⟩), .pointer (some ⟨q, 0, none⟩)]] w fun e w' => ∃ r : Int, e = .returned (.int .i64 r) ∧ decide (0 ≤ r) = !gdB E l ∧ Below B w w' := by
  have HC := hid (fun a x W h => stray_cl (p := p) (q := q) (B := B) hpq hp a E x W h)
  have hcl := cl_enter 86 (by kernel_rfl)
  have HA := hid ra
  have HY : Hid (gdP E l → gdB E l = true) := hid (fun h => decide_eq_true h)
  have HN : Hid (¬ gdP E l → gdB E l = false) := hid (fun h => decide_eq_false h)
  obtain ⟨R, hR⟩ : ∃ R, gdB E l = R := ⟨_, rfl⟩
  rw [hR] at HY HN ⊢
  clear ra hR
  have HK := hid hk
  clear hk
  go_enter Try.func85, Try.ntmps85
  go_wp2_with fail
  go_loopw [5, 8] (fun i0 i wr => ∃ k : Nat, k ≤ l.length ∧ i = .int .i64 k ∧ gdP E (l.take k) ∧ Kept wr p q (lastI (-1) (l.take k)) E ∧ Below B w wr) (fun _ i _ => l.length - (intOf i).toNat)
  case atStart => exact ⟨0, by omega, rfl, by rw [List.take_zero]; exact gd_nil E, HK.out, Below.refl _ _⟩
  case round =>
    obtain ⟨k, hk, rfl, hg, hkp, hb⟩ := hrel
    have HG := hid hg
    have HP := hid hkp
    clear hg hkp
    by_cases hlt : k < l.length
    · obtain ⟨b1, o1, x, rfl, l1, ex, c1⟩ := (HA.out.below hb).at_ hlt
      have C := hid (HC.out (lastI (-1) (l.take k)) x wr HP.out)
      have HL := hid (lastI_step ex)
      have HS := hid (gd_step HG.out ex)
      have HF := hid (gd_no HG.out ex)
      obtain ⟨t, ht⟩ : ∃ t, lastI (-1) (l.take k) = t := ⟨_, rfl⟩
      rw [ht] at C HS HF
      clear ex ht HP
      by_cases a : t < x ∧ x < E
      · rw [decide_eq_true a] at C
        have HG2 := hid (HS.out.2 a)
        clear a HS HF
        go_wp2_with fail
        refine C.out.mono ?_
        rintro _ w2 ⟨rfl, hk2, hb2⟩
        have HK2 := hid hk2
        clear hk2
        go_wp2_with fail
        go_roundw
        case rel => exact ⟨k + 1, by omega, by go_num, HG2.out, by rw [HL.out]; exact HK2.out, hb.trans hb2⟩
        case measure => simp [intOf]; omega
      · rw [decide_eq_false a] at C
        have hR := HN.out (HF.out a)
        subst hR
        clear a HS HF
        go_wp2_with fail
        refine C.out.mono ?_
        rintro _ w2 ⟨rfl, hk2, hb2⟩
        clear hk2
        go_wp2_with fail
        go_ret
        exact ⟨_, rfl, decide_eq_true (by omega), hb.trans hb2⟩
    · have hR := HY.out (by have h := HG.out; rw [List.take_of_length_le (by omega)] at h; exact h)
      subst hR
      go_wp2_with fail
      go_ret
      exact ⟨_, rfl, by decide, hb⟩
theorem stray_contains {A : Option Addr} {c p q B : Nat} (hpq : p ≠ q) (hp : B ≤ p) (hq : B ≤ q) (E : Int) (l : List Int) (hl : l.length ≤ 9223372036854775807) (w : World) (ra : Rd (Value.int .i64) w B A l) (hk : Kept w p q (-1) E) :
    Calls Try.prog 77 #[.slice A l.length c, .func (.func 86) #[] #[.pointer (some ⟨p, 0, none⟩), .pointer (some ⟨q, 0, none⟩)]] w fun e w' => e = .returned (.bool (!gdB E l)) ∧ Below B w w' := by
  have C := hid (stray_index (A := A) (c := c) hpq hp hq E l hl w ra hk)
  obtain ⟨R, hR⟩ : ∃ R, (!gdB E l) = R := ⟨_, rfl⟩
  rw [hR] at C ⊢
  clear hR ra hk
  go_enter Try.func77, Try.ntmps77
  go_wp2_with fail
  refine C.out.mono ?_
  rintro _ w2 ⟨r, rfl, hr, hb⟩
  go_wp2_with fail
  go_ret
  exact ⟨rfl, hb⟩
theorem ix_Check {A : Option Addr} {c : Nat} (dim : Int) (l : List Int) (hd : I64 dim) (hl : l.length ≤ 100000) (w : World) (ra : Rd (Value.int .i64) w w.heap.size A l) :
    Calls Try.prog 63 #[.int .i64 dim, .slice A l.length c] w fun e w' => e = .returned (.int .i64 (chkE dim l)) ∧ Below w.heap.size w w' := by
  have CM := hid (ix_may dim hd)
  have HA := hid ra
  by_cases h1 : 1 ≤ dim ∧ dim ≤ 4096
  · have e : chkE dim l = if gdB dim l = true then 0 else 1 := by
      by_cases g : gdP dim l
      · rw [chk_ok.2 ⟨h1.1, h1.2, g.1, g.2⟩, if_pos (show gdB dim l = true from decide_eq_true g)]
      · rw [chk_no (fun h => g ⟨h.2.2.1, h.2.2.2⟩), if_neg]
        unfold gdB
        simpa using g
    rw [decide_eq_true h1] at CM
    rw [e]
    have CS := hid (ix_stray dim w)
    have CC := hid (fun W h1 h2 => stray_contains (A := A) (c := c) (p := w.heap.size + 1) (q := w.heap.size) (B := w.heap.size) (by omega) (by omega) (by omega) dim l (by omega) W h1 h2)
    obtain ⟨R, hR⟩ : ∃ R, gdB dim l = R := ⟨_, rfl⟩
    rw [hR] at CC ⊢
    clear hR e ra h1
    go_enter Try.func63, Try.ntmps63
    go_wp2_with fail
    refine (CM.out w).mono ?_
    rintro _ _ ⟨rfl, rfl⟩
    go_wp2_with fail
    refine CS.out.mono ?_
    rintro _ w1 ⟨rfl, hk1, hb1⟩
    have C := hid (CC.out w1 (HA.out.below hb1) hk1)
    clear CC CS CM hk1
    cases R with
    | true =>
      go_wp2_with fail
      refine C.out.mono ?_
      rintro _ w2 ⟨rfl, hb2⟩
      go_wp2_with fail
      go_ret
      exact ⟨rfl, hb1.trans hb2⟩
    | false =>
      go_wp2_with fail
      refine C.out.mono ?_
      rintro _ w2 ⟨rfl, hb2⟩
      go_wp2_with fail
      go_ret
      exact ⟨rfl, hb1.trans hb2⟩
  · rw [decide_eq_false h1] at CM
    rw [chk_no (fun h => h1 ⟨h.1, h.2.1⟩)]
    clear ra h1
    go_enter Try.func63, Try.ntmps63
    go_wp2_with fail
    refine (CM.out w).mono ?_
    rintro _ _ ⟨rfl, rfl⟩
    go_wp2_with fail
    go_ret
    exact ⟨rfl, Below.refl _ _⟩
end Go.Proofs.Ytbkoapdeglmopaa
/- Bits set one by one, wherever they go: plain mathematics. -/
namespace Go.Proofs.Ytbkoapdeglmopaa
open Go.RowKit
set_option maxRecDepth 100000
set_option linter.unusedVariables false
theorem byF_congr {n : Nat} {f g : Nat → Bool} (h : ∀ k, k < n → f k = g k) (i : Nat) : byF n f i = byF n g i := by
  have e : ∀ p w, bv n f p w = bv n g p w := fun p w => by
    unfold bv
    by_cases hp : p < n
    · rw [h p hp]
    · rw [if_neg (by omega), if_neg (by omega)]
  unfold byF
  simp only [e]
theorem byF_same {n a i : Nat} {f g : Nat → Bool} (h : ∀ p, p < n → p ≠ a → g p = f p) (hi : i ≠ a / 8) : byF n g i = byF n f i := by
  have e : ∀ p w, p / 8 = i → bv n g p w = bv n f p w := fun p w hp => by
    unfold bv
    by_cases hn : p < n
    · rw [h p hn (by omega)]
    · rw [if_neg (by omega), if_neg (by omega)]
  unfold byF
  rw [e _ _ (by omega), e _ _ (by omega), e _ _ (by omega), e _ _ (by omega), e _ _ (by omega), e _ _ (by omega), e _ _ (by omega), e _ _ (by omega)]
theorem or8 : ∀ (r : Fin 8) (a b c d e f g h : Bool), [a, b, c, d, e, f, g, h].getD r.val false = false →
    bits BinOp.or IntKind.u8 (sum8 a b c d e f g h) (2 ^ (7 - r.val)) = sum8 (a || r.val == 0) (b || r.val == 1) (c || r.val == 2) (d || r.val == 3) (e || r.val == 4) (f || r.val == 5) (g || r.val == 6) (h || r.val == 7) := by decide +kernel
theorem byF_set {n a : Nat} {f g : Nat → Bool} (ha : a < n) (h0 : f a = false) (h1 : g a = true) (h : ∀ p, p < n → p ≠ a → g p = f p) :
    bits BinOp.or IntKind.u8 (byF n f (a / 8)) (2 ^ (7 - a % 8)) = byF n g (a / 8) := by
  have e : ∀ t, t < 8 → (decide (8 * (a / 8) + t < n) && g (8 * (a / 8) + t)) = ((decide (8 * (a / 8) + t < n) && f (8 * (a / 8) + t)) || a % 8 == t) := fun t ht => by
    by_cases he : a % 8 = t
    · rw [show 8 * (a / 8) + t = a by omega, h1]
      simp [ha, he]
    · by_cases hn : 8 * (a / 8) + t < n
      · rw [h _ hn (by omega)]
        simp [he]
      · simp [he, hn]
  have e0 := e 0 (by omega)
  rw [Nat.add_zero] at e0
  rw [byF_sum, byF_sum, e0, e 1 (by omega), e 2 (by omega), e 3 (by omega), e 4 (by omega), e 5 (by omega), e 6 (by omega), e 7 (by omega)]
  refine or8 ⟨a % 8, by omega⟩ _ _ _ _ _ _ _ _ ?_
  have ea : ∀ t, a % 8 = t → (decide (8 * (a / 8) + t < n) && f (8 * (a / 8) + t)) = false := fun t ht => by
    rw [show 8 * (a / 8) + t = a by omega, h0, Bool.and_false]
  have h8 : a % 8 < 8 := by omega
  show List.getD _ (a % 8) false = false
  obtain ⟨r, hr⟩ : ∃ r, a % 8 = r := ⟨_, rfl⟩
  rw [hr] at h8 ea ⊢
  match r, h8 with
  | 0, _ => exact ea 0 rfl
  | 1, _ => exact ea 1 rfl
  | 2, _ => exact ea 2 rfl
  | 3, _ => exact ea 3 rfl
  | 4, _ => exact ea 4 rfl
  | 5, _ => exact ea 5 rfl
  | 6, _ => exact ea 6 rfl
  | 7, _ => exact ea 7 rfl
/-- Where each bit of each number goes, and back. -/
def Places (k m : Nat) (pl : Nat → Nat → Nat) (nu bi : Nat → Nat) : Prop :=
  (∀ i j, i < m → j < k → nu (pl i j) = i ∧ bi (pl i j) = j ∧ pl i j < k * m) ∧ ∀ p, p < k * m → nu p < m ∧ bi p < k ∧ pl (nu p) (bi p) = p
theorem places_side (k m : Nat) : Places k m (fun i j => i * k + j) (fun p => p / k) (fun p => p % k) := by
  constructor
  · intro i j hi hj
    refine ⟨?_, ?_, place_lt hi hj⟩
    · show (i * k + j) / k = i
      rw [Nat.mul_comm, Nat.mul_add_div (by omega), Nat.div_eq_of_lt hj, Nat.add_zero]
    · show (i * k + j) % k = j
      rw [Nat.mul_comm, Nat.mul_add_mod, Nat.mod_eq_of_lt hj]
  · intro p hp
    have hk : 0 < k := Nat.pos_of_ne_zero (by rintro rfl; simp at hp)
    refine ⟨Nat.div_lt_of_lt_mul hp, Nat.mod_lt p hk, ?_⟩
    show p / k * k + p % k = p
    rw [Nat.mul_comm]; exact Nat.div_add_mod p k
theorem places_plane (k m : Nat) : Places k m (fun i j => j * m + i) (fun p => p % m) (fun p => p / m) := by
  constructor
  · intro i j hi hj
    refine ⟨?_, ?_, ?_⟩
    · show (j * m + i) % m = i
      rw [Nat.mul_comm, Nat.mul_add_mod, Nat.mod_eq_of_lt hi]
    · show (j * m + i) / m = j
      rw [Nat.mul_comm, Nat.mul_add_div (by omega), Nat.div_eq_of_lt hi, Nat.add_zero]
    · have := place_lt (w := m) (m := k) hj hi
      rw [Nat.mul_comm k m]; exact this
  · intro p hp
    have hm : 0 < m := Nat.pos_of_ne_zero (by rintro rfl; simp at hp)
    refine ⟨Nat.mod_lt p hm, Nat.div_lt_of_lt_mul (by rw [Nat.mul_comm]; exact hp), ?_⟩
    show p / m * m + p % m = p
    rw [Nat.mul_comm]; exact Nat.div_add_mod p m
/-- The bits that are set when all numbers ahead of i, and of i the bits ahead of j, are written. -/
def GB (f : Nat → Bool) (nu bi : Nat → Nat) (i j : Nat) : Nat → Bool := fun p => f p && decide (nu p < i ∨ nu p = i ∧ bi p < j)
section
variable {k m : Nat} {pl : Nat → Nat → Nat} {nu bi : Nat → Nat} {f : Nat → Bool}
theorem GB_zero (n x : Nat) : byF n (GB f nu bi 0 0) x = 0 := by
  rw [byF_congr (g := fun _ => false) (fun p _ => by unfold GB; simp)]
  unfold byF bv
  simp
theorem GB_next (h : Places k m pl nu bi) {i : Nat} (hi : i < m) (x : Nat) : byF (k * m) (GB f nu bi i k) x = byF (k * m) (GB f nu bi (i + 1) 0) x := byF_congr (fun p hp => by
  obtain ⟨h1, h2, h3⟩ := h.2 p hp
  unfold GB
  congr 1
  rw [decide_eq_decide]
  omega) x
theorem GB_end (h : Places k m pl nu bi) (x : Nat) : byF (k * m) (GB f nu bi m 0) x = byF (k * m) f x := byF_congr (fun p hp => by
  obtain ⟨h1, h2, h3⟩ := h.2 p hp
  unfold GB
  rw [decide_eq_true (Or.inl h1), Bool.and_true]) x
theorem GB_else (h : Places k m pl nu bi) {i j p : Nat} (hp : p < k * m) (he : p ≠ pl i j) : GB f nu bi i (j + 1) p = GB f nu bi i j p := by
  obtain ⟨h1, h2, h3⟩ := h.2 p hp
  unfold GB
  congr 1
  rw [decide_eq_decide]
  have : ¬ (nu p = i ∧ bi p = j) := by
    rintro ⟨rfl, rfl⟩
    exact he h3.symm
  omega
theorem GB_off (h : Places k m pl nu bi) {i j : Nat} (hf : f (pl i j) = false) (x : Nat) : byF (k * m) (GB f nu bi i (j + 1)) x = byF (k * m) (GB f nu bi i j) x := byF_congr (fun p hp => by
  by_cases he : p = pl i j
  · rw [he]; unfold GB; rw [hf]; rfl
  · exact GB_else h hp he) x
theorem GB_other (h : Places k m pl nu bi) {i j x : Nat} (hx : x ≠ pl i j / 8) : byF (k * m) (GB f nu bi i (j + 1)) x = byF (k * m) (GB f nu bi i j) x := byF_same (fun p hp he => GB_else h hp he) hx
theorem GB_on (h : Places k m pl nu bi) {i j : Nat} (hi : i < m) (hj : j < k) (hf : f (pl i j) = true) :
    bits BinOp.or IntKind.u8 (byF (k * m) (GB f nu bi i j) (pl i j / 8)) (2 ^ (7 - pl i j % 8)) = byF (k * m) (GB f nu bi i (j + 1)) (pl i j / 8) := by
  obtain ⟨h1, h2, h3⟩ := h.1 i j hi hj
  refine byF_set h3 ?_ ?_ (fun p hp he => GB_else h hp he)
  · unfold GB; rw [h1, h2]; simp
  · unfold GB; rw [h1, h2, hf]; simp
end
theorem or_none {x : Int} (h0 : 0 ≤ x) (h1 : x ≤ 255) : bits BinOp.or IntKind.u8 x 0 = x := by
  obtain ⟨n, rfl⟩ := Int.eq_ofNat_of_zero_le h0
  show IntKind.u8.wrap ((BitVec.ofInt 8 n ||| BitVec.ofInt 8 ((0 : Nat) : Int)).toNat : Int) = _
  rw [BitVec.toNat_or, BitVec.ofInt_natCast, BitVec.ofInt_natCast, BitVec.toNat_ofNat, BitVec.toNat_ofNat, Nat.mod_eq_of_lt (by omega), show 0 % 2 ^ 8 = 0 from rfl, Nat.or_zero]
  simp [IntKind.wrap, IntKind.bits, IntKind.signed]
  omega
/-- A bit as a number. -/
def b2 (v : Bool) : Int := if v then 1 else 0
theorem and_u8 {x : Int} (h0 : 0 ≤ x) (h1 : x ≤ 255) (s : Nat) : bits BinOp.and IntKind.u8 (x / 2 ^ s) 1 = b2 (bt x s) := by
  obtain ⟨n, hn⟩ := Int.eq_ofNat_of_zero_le (Int.ediv_nonneg h0 (show (0 : Int) ≤ 2 ^ s from Int.pow_nonneg (by decide)))
  have hle : x / 2 ^ s ≤ x := Int.ediv_le_self _ h0
  unfold bt b2
  rw [hn] at hle ⊢
  show IntKind.u8.wrap ((BitVec.ofInt 8 n &&& BitVec.ofInt 8 ((1 : Nat) : Int)).toNat : Int) = _
  rw [BitVec.toNat_and, BitVec.ofInt_natCast, BitVec.ofInt_natCast, BitVec.toNat_ofNat, BitVec.toNat_ofNat, Nat.mod_eq_of_lt (by omega), show 1 % 2 ^ 8 = 1 from rfl, Nat.and_one_is_mod]
  by_cases h : n % 2 = 1
  · rw [h, if_pos (by simp; omega)]; rfl
  · rw [show n % 2 = 0 by omega, if_neg (by simp; omega)]; rfl
theorem and_u64 {x : Int} (hx : U64 x) (s : Nat) : bits BinOp.and IntKind.u64 (x / 2 ^ s) 1 = b2 (bt x s) := by
  unfold U64 at hx
  have h0 := hx.1
  obtain ⟨n, hn⟩ := Int.eq_ofNat_of_zero_le (Int.ediv_nonneg h0 (show (0 : Int) ≤ 2 ^ s from Int.pow_nonneg (by decide)))
  have hle : x / 2 ^ s ≤ x := Int.ediv_le_self _ h0
  unfold bt b2
  rw [hn] at hle ⊢
  show IntKind.u64.wrap ((BitVec.ofInt 64 n &&& BitVec.ofInt 64 ((1 : Nat) : Int)).toNat : Int) = _
  rw [BitVec.toNat_and, BitVec.ofInt_natCast, BitVec.ofInt_natCast, BitVec.toNat_ofNat, BitVec.toNat_ofNat, Nat.mod_eq_of_lt (by omega), show 1 % 2 ^ 64 = 1 from rfl, Nat.and_one_is_mod]
  by_cases h : n % 2 = 1
  · rw [h, if_pos (by simp; omega)]; rfl
  · rw [show n % 2 = 0 by omega, if_neg (by simp; omega)]; rfl
theorem or_u64 {y : Int} (h0 : 0 ≤ y) (h1 : y ≤ 4294967296) (v : Bool) : bits BinOp.or IntKind.u64 (y * 2) (b2 v) = 2 * y + if v = true then 1 else 0 := by
  obtain ⟨n, rfl⟩ := Int.eq_ofNat_of_zero_le h0
  obtain ⟨t, ht, hv⟩ : ∃ t : Nat, t < 2 ∧ b2 v = t := by cases v; exact ⟨0, by decide, rfl⟩; exact ⟨1, by decide, rfl⟩
  have hv2 : (if v = true then 1 else 0 : Int) = t := hv
  rw [hv, hv2, show ((n : Int) * 2) = ((2 * n : Nat) : Int) by omega]
  show IntKind.u64.wrap ((BitVec.ofInt 64 _ ||| BitVec.ofInt 64 _).toNat : Int) = _
  rw [BitVec.toNat_or, BitVec.ofInt_natCast, BitVec.ofInt_natCast, BitVec.toNat_ofNat, BitVec.toNat_ofNat, Nat.mod_eq_of_lt (by omega), Nat.mod_eq_of_lt (by omega)]
  have e : 2 * n ||| t = 2 * n + t := by
    have := Nat.two_pow_add_eq_or_of_lt (i := 1) (b := t) ht n
    rw [Nat.pow_one] at this
    exact this.symm
  rw [e]
  simp [IntKind.wrap, IntKind.bits, IntKind.signed]
  omega
end Go.Proofs.Ytbkoapdeglmopaa
/- The program's widths, bytes, single bits, and places as function values. -/
namespace Go.Proofs.Ytbkoapdeglmopaa
open Go.RowKit
set_option maxHeartbeats 400000
set_option maxRecDepth 100000
set_option linter.unusedVariables false
theorem pl_Width (n : Int) (hn : U64 n) (w : World) :
    Calls Try.prog 74 #[.int .u64 n] w fun e w' => e = .returned (.int .i64 (wdt n : Int)) ∧ w = w' := by
  unfold U64 at hn
  have CL := hid (Try.bits_Len64 n w hn.1 hn.2)
  rw [show (Lib.bitLen n.toNat : Int) = (wdt n : Int) from rfl] at CL
  obtain ⟨R, hR⟩ : ∃ R, wdt n = R := ⟨_, rfl⟩
  rw [hR] at CL ⊢
  clear hR
  go_enter Try.func74, Try.ntmps74
  go_wp2_with fail
  refine CL.out.mono ?_
  rintro _ _ ⟨rfl, rfl⟩
  go_wp2_with fail
  go_ret
  exact ⟨rfl, rfl⟩
theorem tlB_no {n : Nat} {b : List Int} {p : Nat} (h : fB b p = true) (h1 : n ≤ p) (h2 : p < 8 * b.length) : tlB n b = false := by
  cases ht : tlB n b with
  | false => rfl
  | true =>
    have := (tlB_iff n b).1 ht p h1 h2
    rw [h] at this
    exact this
/-- The place of the first that is so, or -1. -/
def fidx (P : Int → Bool) (l : List Int) : Int := if l.any P = true then (l.findIdx P : Int) else -1
theorem fidx_at {P : Int → Bool} {l : List Int} {k : Nat} {x : Int} (hx : l[k]? = some x) (hp : P x = true) (h : ∀ y ∈ l.take k, P y = false) : fidx P l = k ∧ l.any P = true := by
  obtain ⟨hk, rfl⟩ := List.getElem?_eq_some_iff.1 hx
  have ha : l.any P = true := List.any_eq_true.2 ⟨l[k], List.getElem_mem hk, hp⟩
  refine ⟨?_, ha⟩
  unfold fidx
  rw [if_pos ha, (List.findIdx_eq hk).2 ⟨hp, fun j hj => h _ (by rw [List.mem_take_iff_getElem]; exact ⟨j, by omega, rfl⟩)⟩]
theorem fidx_no {P : Int → Bool} {l : List Int} (h : ∀ y ∈ l, P y = false) : fidx P l = -1 ∧ l.any P = false := by
  have ha : l.any P = false := by rw [List.any_eq_false]; intro y hy; rw [h y hy]; decide
  refine ⟨?_, ha⟩
  unfold fidx
  rw [ha]; rfl
theorem index_any {A : Option Addr} {c : Nat} (K : FuncId) (caps : Array Value) (l : List Int) (hl : l.length ≤ 100000) (P : Int → Bool) (w : World)
   (hK : ∀ (args : Array Value) (W : World), (callFunc K args).run Try.prog W = .ok (.enter K args) W) {B : Nat} (ra : Rd (Value.int .u64) w B A l)
   (H : ∀ x ∈ l, ∀ n, Calls Try.prog K (#[.int .u64 x] ++ caps) (w.drewN n) fun e w' => e = .returned (.bool (P x)) ∧ ∃ m, w' = (w.drewN n).drewN m) :
    Calls Try.prog 84 #[.slice A l.length c, .func (.func K) #[] caps] w fun e w' => e = .returned (.int .i64 (fidx P l)) ∧ ∃ n, w' = w.drewN n := by
  have HH := hid H
  have RA := hid ra
  have HF : Hid (∀ k x, l[k]? = some x → P x = true → (∀ y ∈ l.take k, P y = false) → fidx P l = k) := hid (fun k x h1 h2 h3 => (fidx_at h1 h2 h3).1)
  have HG : Hid ((∀ y ∈ l, P y = false) → fidx P l = -1) := hid (fun h => (fidx_no h).1)
  obtain ⟨R, hR⟩ : ∃ R, fidx P l = R := ⟨_, rfl⟩
  rw [hR] at HF HG ⊢
  obtain ⟨N, hN⟩ : ∃ N, l.length = N := ⟨_, rfl⟩
  have HN := hid hN
  rw [hN] at hl ⊢
  clear hR hN H ra
  go_enter Try.func84, Try.ntmps84
  go_wp2_with fail
  go_loopw [5, 8] (fun i0 i wr => ∃ k : Nat, k ≤ N ∧ i = .int .i64 k ∧ (∀ y ∈ l.take k, P y = false) ∧ ∃ m, wr = w.drewN m) (fun _ i _ => N - (intOf i).toNat)
  case atStart => exact ⟨0, by omega, rfl, by simp, 0, rfl⟩
  case round =>
    obtain ⟨k, hk, rfl, hs, m, rfl⟩ := hrel
    have HS := hid hs
    clear hs
    by_cases hlt : k < N
    · obtain ⟨b1, o1, x, rfl, l1, ex, c1⟩ := RA.out.at_ (k := k) (by rw [HN.out]; exact hlt)
      have C := hid (HH.out x (List.mem_of_getElem? ex) m)
      have hFk := HF.out k x ex
      obtain ⟨v, hv⟩ : ∃ v, P x = v := ⟨_, rfl⟩
      rw [hv] at C hFk
      have HV := hid hv
      have HE := hid ex
      clear hv ex
      cases v with
      | true =>
        have hR := hFk rfl HS.out
        subst hR
        go_wp2_with fail
        refine C.out.mono ?_
        rintro _ _ ⟨rfl, m2, rfl⟩
        go_wp2_with fail
        go_ret
        exact ⟨rfl, m + m2, by simp⟩
      | false =>
        clear hFk
        go_wp2_with fail
        refine C.out.mono ?_
        rintro _ _ ⟨rfl, m2, rfl⟩
        go_wp2_with fail
        go_roundw
        case rel =>
          refine ⟨k + 1, by omega, by go_num, ?_, m + m2, by simp⟩
          intro y hy
          rw [List.take_add_one, HE.out] at hy
          rcases List.mem_append.1 hy with h | h
          · exact HS.out y h
          · simp at h
            rw [h]; exact HV.out
        case measure => simp [intOf]; omega
    · have hR : R = -1 := HG.out (fun y hy => HS.out y (by rw [List.take_of_length_le (by rw [HN.out]; omega)]; exact hy))
      subst hR
      go_wp2_with fail
      go_ret
      exact ⟨rfl, _, rfl⟩
theorem contains_any {A : Option Addr} {c : Nat} (K : FuncId) (caps : Array Value) (l : List Int) (hl : l.length ≤ 100000) (P : Int → Bool) (w : World)
   (hK : ∀ (args : Array Value) (W : World), (callFunc K args).run Try.prog W = .ok (.enter K args) W) {B : Nat} (ra : Rd (Value.int .u64) w B A l)
   (H : ∀ x ∈ l, ∀ n, Calls Try.prog K (#[.int .u64 x] ++ caps) (w.drewN n) fun e w' => e = .returned (.bool (P x)) ∧ ∃ m, w' = (w.drewN n).drewN m) :
    Calls Try.prog 72 #[.slice A l.length c, .func (.func K) #[] caps] w fun e w' => e = .returned (.bool (l.any P)) ∧ ∃ n, w' = w.drewN n := by
  have C := hid (index_any (A := A) (c := c) K caps l hl P w hK ra H)
  have hge : decide (0 ≤ fidx P l) = l.any P := by
    unfold fidx
    by_cases h : l.any P = true
    · rw [if_pos h, h]; simp
    · rw [if_neg h]
      cases hb : l.any P with
      | true => exact absurd hb h
      | false => rfl
  obtain ⟨R, hR⟩ : ∃ R, fidx P l = R := ⟨_, rfl⟩
  obtain ⟨v, hv⟩ : ∃ v, l.any P = v := ⟨_, rfl⟩
  rw [hR, hv] at hge
  rw [hR] at C
  rw [hv]
  clear hR hv H ra
  go_enter Try.func72, Try.ntmps72
  go_wp2_with fail
  refine C.out.mono ?_
  rintro _ _ ⟨rfl, m, rfl⟩
  go_wp2_with fail
  go_ret
  exact ⟨rfl, _, rfl⟩
end Go.Proofs.Ytbkoapdeglmopaa
/- The program's numbers written, each bit where a function value tells. -/
namespace Go.Proofs.Ytbkoapdeglmopaa
open Go.RowKit
set_option maxHeartbeats 400000
set_option maxRecDepth 100000
set_option linter.unusedVariables false
theorem any_fits (wd : Int) (l : List Int) : (l.any fun x => decide (wd < (wdt x : Int))) = !fitsB wd l := by
  unfold fitsB
  induction l with
  | nil => rfl
  | cons x l ih =>
    rw [List.any_cons, List.all_cons, ih, Bool.not_and]
    congr 1
    by_cases h : wd < (wdt x : Int)
    · rw [decide_eq_true h, decide_eq_false (by omega)]; rfl
    · rw [decide_eq_false h, decide_eq_true (by omega)]; rfl
def pwrV (wd : Int) (l : List Int) (f : Nat → Bool) : List Int := if mayE wd l = 0 then pkL (wd.toNat * l.length) f else []
theorem shl_b {s : Nat} (hs : s ≤ 7) : (2 : Int) ^ s ≤ 128 := by
  have := Nat.pow_le_pow_right (show 0 < 2 by decide) hs
  have h2 : (2 : Int) ^ s = ((2 ^ s : Nat) : Int) := by norm_cast
  omega
end Go.Proofs.Ytbkoapdeglmopaa
/- Orders, by the program. -/
namespace Go.Proofs.Ytbkoapdeglmopaa
open Go.RowKit
set_option maxHeartbeats 400000
set_option maxRecDepth 100000
set_option linter.unusedVariables false
/-- Memory of the call's own that holds an order. -/
theorem own_ord {w' : World} {b B M : Nat} {e : TypeId} {g : Nat → Nat} {L : List Int} (h : w'.rowIs b e M (fun j => .int .i64 (g j : Int))) (hB : B ≤ b) (hM : M ≤ 4096) (hL : L = (List.range M).map fun j => (g j : Int)) :
    w'.ownsRow B e 1 (.slice (some ⟨b, 0, none⟩) L.length M) L.length (L.map (Value.int .i64)) := by
  have h2 := own_made (w' := w') h hB (by unfold maxLen; omega)
  subst hL
  rw [List.length_map, List.length_range, List.map_map]
  exact h2
theorem ordV_eq {M : Nat} (h : M ≤ 4096) (s : Nat) (n : List Int) : ordV (M : Int) s n = (List.range M).map fun j => (orF M s n j : Int) := by
  unfold ordV
  rw [if_pos (ordE_ok.2 (by omega)), Int.toNat_natCast]
theorem shF_down {d : Nat → Nat} {m : Nat} (h : 1 ≤ m) (g : Nat → Nat) : shF d m g = shF d (m - 1) (swF g m (d m)) := by
  obtain ⟨k, rfl⟩ : ∃ k, m = k + 1 := ⟨m - 1, by omega⟩
  rfl
theorem Clone_ints {A : Option Addr} {c : Nat} (xs : List Int) (hx : xs.length ≤ 4096) (w : World) {B : Nat} (ra : Rd (Value.int .i64) w B A xs) :
    Calls Try.prog 55 #[.slice A xs.length c] w (OwnOf 3 .i64 w.heap.size xs w) := by
  rcases A with _ | ad
  · have hxs : xs = [] := by
      cases xs with
      | nil => rfl
      | cons x xs =>
        obtain ⟨_, _, he, _⟩ := ra 0 x rfl
        cases he
    subst hxs
    refine (Try.slices_Clone_int_nil 0 c w).mono ?_
    rintro _ _ ⟨rfl, rfl⟩
    exact ⟨none, 0, rfl, own_nil _ _ _, Below.refl _ _⟩
  · cases xs with
    | nil =>
      refine (Try.slices_Clone_int_zero ad c w).mono ?_
      rintro _ _ ⟨v, rfl, ho, _, hb⟩
      obtain ⟨A', c', rfl⟩ := own_shape ho
      exact ⟨A', c', rfl, ho, hb⟩
    | cons x xs =>
      obtain ⟨b, off, ha, _, _⟩ := ra 0 x rfl
      injection ha with ha
      subst ha
      refine (Try.slices_Clone_int b off (x :: xs).length c (x :: xs) w (Nat.le_refl _) (by omega) (fun i hi => ?_)).mono ?_
      · obtain ⟨b', off', y, ha, _, hy, hc⟩ := ra.at_ hi
        injection ha with ha
        injection ha with h1 h2 h3
        subst h1 h2
        rw [hc]
        simp [List.getD, hy]
      · rintro _ _ ⟨v, rfl, ho, _, hb⟩
        obtain ⟨A', c', rfl⟩ := own_shape ho
        rw [List.take_of_length_le (Nat.le_refl _)] at ho
        exact ⟨A', c', rfl, ho, hb⟩
end Go.Proofs.Ytbkoapdeglmopaa
/- Up or down by chance, by the program: the closure and what it keeps. -/
namespace Go.Proofs.Ytbkoapdeglmopaa
open Go.RowKit
set_option maxHeartbeats 1000000
set_option maxRecDepth 100000
set_option linter.unusedVariables false
theorem row_below {w w' : World} {b B n : Nat} {t : TypeId} {f : Nat → Value} (h : w.rowIs b t n f) (hb : Below B w w') (hB : b < B) : w'.rowIs b t n f := h.of_block (hb.block b hB)
/-- What the closure keeps: the scale, the seed, the numbers, and a list of its own with room for a place behind them. -/
def ChK (w : World) (q g b c9 : Nat) (M s : Nat) (B : Option Addr) (d : Nat) (n : List Int) : Prop :=
  q + 3 ≤ g ∧ g < b ∧ b < w.heap.size ∧ w.cell? ⟨q, 0, none⟩ = some (.int .u64 (M : Int)) ∧ w.cell? ⟨q + 1, 0, none⟩ = some (.int .u64 (s : Int)) ∧
  w.cell? ⟨q + 2, 0, none⟩ = some (.slice B n.length d) ∧ w.cell? ⟨b, 0, none⟩ = some (.slice (some ⟨g, 0, none⟩) (n.length + 1) c9) ∧
  ∃ x : Int, w.ownsRow (q + 3) 3 1 (.slice (some ⟨g, 0, none⟩) (n.length + 1) c9) (n.length + 1) ((n ++ [x]).map (Value.int .i64))
theorem ChK.below {w w' : World} {q g b c9 M s d L : Nat} {B : Option Addr} {n : List Int} (h : ChK w q g b c9 M s B d n) (hb : Below L w w') (hL : b < L) (hLw : L ≤ w.heap.size) : ChK w' q g b c9 M s B d n := by
  obtain ⟨h1, h2, h3, e1, e2, e3, e4, x, ho⟩ := h
  refine ⟨h1, h2, Nat.lt_of_lt_of_le h3 hb.size, ?_, ?_, ?_, ?_, x, ?_⟩
  · rw [hb.cell (p := ⟨q, 0, none⟩) (by show q < L; omega)]; exact e1
  · rw [hb.cell (p := ⟨q + 1, 0, none⟩) (by show q + 1 < L; omega)]; exact e2
  · rw [hb.cell (p := ⟨q + 2, 0, none⟩) (by show q + 2 < L; omega)]; exact e3
  · rw [hb.cell (p := ⟨b, 0, none⟩) (by show b < L; omega)]; exact e4
  · refine ⟨ho.1, ?_⟩
    rcases ho.2 with ⟨h', _⟩ | ⟨g', cap', cur, h', hg, hc, r⟩
    · simp at h'
    · refine .inr ⟨g', cap', cur, h', hg, ?_, r⟩
      simp only [Value.slice.injEq, Option.some.injEq, Addr.mk.injEq, and_true, true_and] at h'
      rw [hb.block g' (by omega)]
      exact hc
theorem ChK.set {w : World} {q g b c9 M s d : Nat} {B : Option Addr} {n : List Int} (h : ChK w q g b c9 M s B d n) {p : Addr} (hp : p.block < q) (u : Value) : ChK (w.setCell p u) q g b c9 M s B d n := by
  obtain ⟨h1, h2, h3, e1, e2, e3, e4, x, ho⟩ := h
  have hc : ∀ a : Addr, p.block ≠ a.block → (w.setCell p u).cell? a = w.cell? a := fun a ha => by
    unfold World.cell?
    rw [heap_setCell_other _ _ _ _ (fun e => ha e.symm)]
  refine ⟨h1, h2, by simpa using h3, ?_, ?_, ?_, ?_, x, own_set ho (by omega) u⟩
  · rw [hc _ (by show p.block ≠ q; omega)]; exact e1
  · rw [hc _ (by show p.block ≠ q + 1; omega)]; exact e2
  · rw [hc _ (by show p.block ≠ q + 2; omega)]; exact e3
  · rw [hc _ (by show p.block ≠ b; omega)]; exact e4
theorem chance_cl {q g b c9 M s d : Nat} {B : Option Addr} {n : List Int} (i r : Nat) (hi : i ≤ 100000) (hr : r < 2 ^ 64) (hM : M < 2 ^ 64) (hs : s < 2 ^ 64) (un : ∀ x ∈ n, I64 x) (hn : n.length ≤ 1000) (w : World) (K : ChK w q g b c9 M s B d n) :
    Calls Try.prog 56 (#[.int .i64 (i : Int), .int .u64 (r : Int)] ++ #[.pointer (some ⟨b, 0, none⟩), .pointer (some ⟨q + 2, 0, none⟩), .pointer (some ⟨q, 0, none⟩), .pointer (some ⟨q + 1, 0, none⟩)]) w fun e w' => e = .returned (.bool (chaB r M s (n ++ [(i : Int)]))) ∧ ChK w' q g b c9 M s B d n ∧ Below q w w' := by
  obtain ⟨h1, h2, h3, e1, e2, e3, e4, x, ho⟩ := K
  have hlen : (n ++ [x]).length = n.length + 1 := by simp
  have c1 : ∃ v, w.cell? ⟨g, n.length, none⟩ = some v := ⟨.int .i64 x, by rw [ho.cellAt n.length (by omega)]; simp⟩
  obtain ⟨v0, c1⟩ := c1
  have f1 := ho.frozenAt n.length
  have hst := ho.stored n.length (.int .i64 (i : Int))
  rw [show ((n ++ [x]).map (Value.int .i64)).set n.length (.int .i64 (i : Int)) = (n ++ [(i : Int)]).map (Value.int .i64) by simp] at hst
  obtain ⟨W, hW⟩ : ∃ W, w.setCell ⟨g, n.length, none⟩ (.int .i64 (i : Int)) = W := ⟨_, rfl⟩
  have hc : ∀ a : Addr, g ≠ a.block → W.cell? a = w.cell? a := fun a ha => by
    rw [← hW]
    unfold World.cell?
    rw [heap_setCell_other _ _ _ _ (fun e => ha e.symm)]
  have hsz : W.heap.size = w.heap.size := by rw [← hW]; simp
  have E1 : W.cell? ⟨q, 0, none⟩ = some (.int .u64 (M : Int)) := by rw [hc _ (by show g ≠ q; omega)]; exact e1
  have E2 : W.cell? ⟨q + 1, 0, none⟩ = some (.int .u64 (s : Int)) := by rw [hc _ (by show g ≠ q + 1; omega)]; exact e2
  have E3 : W.cell? ⟨q + 2, 0, none⟩ = some (.slice B n.length d) := by rw [hc _ (by show g ≠ q + 2; omega)]; exact e3
  have E4 : W.cell? ⟨b, 0, none⟩ = some (.slice (some ⟨g, 0, none⟩) (n.length + 1) c9) := by rw [hc _ (by show g ≠ b; omega)]; exact e4
  rw [hW] at hst
  have KW : Hid (ChK W q g b c9 M s B d n) := hid ⟨h1, h2, by omega, E1, E2, E3, E4, (i : Int), hst.1⟩
  have HBW : Hid (Below q w W) := hid (by rw [← hW]; exact (Below.refl q w).setCell (by show q ≤ g; omega) _)
  have hl2 : (n ++ [(i : Int)]).length = n.length + 1 := by simp
  have hrd := own_rd (show W.ownsRow (q + 3) 3 1 (.slice (some ⟨g, 0, none⟩) (n ++ [(i : Int)]).length c9) (n ++ [(i : Int)]).length ((n ++ [(i : Int)]).map (Value.int .i64)) by rw [hl2]; exact hst.1)
  have CC := hid (dr_Chance (A := some ⟨g, 0, none⟩) (c := c9) r M s hr hM hs (n ++ [(i : Int)]) (by simp; omega) (by
    intro y hy
    rcases List.mem_append.1 hy with hy | hy
    · exact un y hy
    · simp at hy; subst hy; unfold I64; omega) W hrd)
  rw [show (n ++ [(i : Int)]).length = n.length + 1 by simp] at CC
  obtain ⟨X, hX⟩ : ∃ X, chaB r M s (n ++ [(i : Int)]) = X := ⟨_, rfl⟩
  obtain ⟨Y, hY⟩ : ∃ Y, chaE r M = Y := ⟨_, rfl⟩
  rw [hX, hY] at CC
  rw [hX]
  obtain ⟨m, hm⟩ : ∃ m, n.length = m := ⟨_, rfl⟩
  rw [hm] at e3 e4 E3 E4 CC c1 f1 hW hn
  clear ho hst hrd hc hlen hl2 hsz hX hY un hm
  go_enter Try.func56, Try.ntmps56
  go_wp2_with fail
  refine CC.out.mono ?_
  rintro _ _ ⟨rfl, rfl⟩
  go_wp2_with fail
  go_ret
  exact ⟨rfl, KW.out, HBW.out⟩
theorem qp_chance {B : Option Addr} {d : Nat} (M s : Nat) (n : List Int) (hn : n.length ≤ 1000) (w : World) (rb : Rd (Value.int .i64) w w.heap.size B n) :
    Calls Try.prog 32 #[.int .u64 (M : Int), .int .u64 (s : Int), .slice B n.length d] w fun e w' => ∃ g b c9, e = .returned (.func (.func 56) #[] #[.pointer (some ⟨b, 0, none⟩), .pointer (some ⟨w.heap.size + 2, 0, none⟩), .pointer (some ⟨w.heap.size, 0, none⟩), .pointer (some ⟨w.heap.size + 1, 0, none⟩)]) ∧ ChK w' w.heap.size g b c9 M s B d n ∧ Below w.heap.size w w' := by
  obtain ⟨w3, hw3⟩ : ∃ w3, ((w.alloc (.cells #[.int .u64 (M : Int)] 22)).alloc (.cells #[.int .u64 (s : Int)] 22)).alloc (.cells #[.slice B n.length d] 33) = w3 := ⟨_, rfl⟩
  have T := three_cells w (.int .u64 (M : Int)) (.int .u64 (s : Int)) (.slice B n.length d) 22 22 33
  rw [hw3] at T
  obtain ⟨t1, t2, t3, tb⟩ := T
  have hsz : w3.heap.size = w.heap.size + 3 := by rw [← hw3]; simp
  have CC := hid (Clone_ints (c := d) n (by omega) w3 (rb.below tb))
  have HT := hid (show w3.cell? ⟨w.heap.size, 0, none⟩ = some (.int .u64 (M : Int)) ∧ w3.cell? ⟨w.heap.size + 1, 0, none⟩ = some (.int .u64 (s : Int)) ∧ w3.cell? ⟨w.heap.size + 2, 0, none⟩ = some (.slice B n.length d) ∧ Below w.heap.size w w3 from ⟨t1, t2, t3, tb⟩)
  have HSZ := hid hsz
  clear t1 t2 tb rb hsz
  go_enter Try.func32, Try.ntmps32
  go_wp2_with fail
  refine CC.out.mono ?_
  rintro _ w4 ⟨A4, c4, rfl, ho4, hb4⟩
  have g5 : Below w4.heap.size w4 (w4.alloc (.cells #[.int .i64 0] 3)) := (Below.refl _ _).alloc (Nat.le_refl _) _
  have ho4a := own_on ho4 g5
  have rm : Rd (Value.int .i64) (w4.alloc (.cells #[.int .i64 0] 3)) _ (some ⟨w4.heap.size, 0, none⟩) [0] := rd_one (one_cell w4 (.int .i64 0) 3).1
  have hz4 := hb4.size
  have hz5 := g5.size
  have hb4a := hb4.trans (g5.mono hz4)
  clear ho4 g5 hb4 CC
  go_wp2_with (at_builtin; refine wpList_app (Value.int .i64) (fun _ => rfl) _ rfl _ _ 33 rfl w3.heap.size 3 (.int .i64 0) 8 Try.underlying33 info_int rfl n A4 c4 rfl ho4a [0] (some ⟨w4.heap.size, 0, none⟩) 1 _ rfl rm (by simp [maxLen]; omega) (by simp; omega) (by omega) ?_)
  rintro Q A9 c9 w5 hQ ho5 hb5 _
  have hl : Q.length = n.length + 1 := by rw [hQ]; simp
  have hk5 := hb4a.trans hb5
  obtain ⟨g, rfl, hg1, _, _⟩ := own_cellk ho5 (k := 0) (by omega)
  have hg2 := (ho5.lt g rfl).2
  rw [hl, hQ] at ho5
  rw [hl]
  have HK := hid hk5
  have HO := hid ho5
  have hs5 := hk5.size
  clear hQ hb5 hk5 ho5 rm ho4a hb4a
  go_wp2_with fail
  go_ret
  have hsz := HSZ.out
  have hk6 := HT.out.2.2.2.trans ((HK.out.mono (by omega)).alloc (show w.heap.size ≤ w5.heap.size by omega) (.cells #[.slice (some ⟨g, 0, none⟩) (n.length + 1) c9] 33))
  have hk7 := HK.out.trans ((Below.refl w3.heap.size w5).alloc hs5 (.cells #[.slice (some ⟨g, 0, none⟩) (n.length + 1) c9] 33))
  have e1 := HT.out.1
  have e2 := HT.out.2.1
  have e3 := HT.out.2.2.1
  refine ⟨g, w5.heap.size, c9, rfl, ⟨by omega, hg2, by simp, ?_, ?_, ?_, (one_cell w5 _ _).1, 0, ?_⟩, hk6⟩
  · rw [hk7.cell (p := ⟨w.heap.size, 0, none⟩) (by show w.heap.size < _; omega)]; exact e1
  · rw [hk7.cell (p := ⟨w.heap.size + 1, 0, none⟩) (by show w.heap.size + 1 < _; omega)]; exact e2
  · rw [hk7.cell (p := ⟨w.heap.size + 2, 0, none⟩) (by show w.heap.size + 2 < _; omega)]; exact e3
  · rw [hsz] at HO
    exact own_on HO.out ((Below.refl _ _).alloc (Nat.le_refl _) _)
end Go.Proofs.Ytbkoapdeglmopaa
/- Levels and what they are worth, in whole numbers alone: how far off one is, what is sure, what is gone there and back. Plain mathematics. No program in sight. -/
namespace Go.Proofs.Ytbkoapdeglmopaa
set_option maxRecDepth 100000
set_option linter.unusedVariables false
/-- z of a scale s, by t levels: the level below is worth no more than z, and less by no more than s / t + 1. -/
theorem qk_down {z s t : Nat} (hs : 0 < s) (ht : 0 < t) : z * t / s * s / t ≤ z ∧ z ≤ z * t / s * s / t + (s / t + 1) := by
  obtain ⟨L, hL⟩ : ∃ L, z * t / s = L := ⟨_, rfl⟩
  have h1 := Nat.div_add_mod (z * t) s
  have h2 := Nat.mod_lt (z * t) hs
  rw [hL] at h1 ⊢
  obtain ⟨r, hr⟩ : ∃ r, z * t % s = r := ⟨_, rfl⟩
  rw [hr] at h1 h2
  have h3 := Nat.div_add_mod (L * s) t
  have h4 := Nat.mod_lt (L * s) ht
  obtain ⟨V, hV⟩ : ∃ V, L * s / t = V := ⟨_, rfl⟩
  obtain ⟨q, hq⟩ : ∃ q, L * s % t = q := ⟨_, rfl⟩
  rw [hV, hq] at h3
  rw [hq] at h4
  rw [hV]
  have h5 := Nat.div_add_mod s t
  have h6 := Nat.mod_lt s ht
  obtain ⟨a, ha⟩ : ∃ a, s / t = a := ⟨_, rfl⟩
  obtain ⟨b, hb⟩ : ∃ b, s % t = b := ⟨_, rfl⟩
  rw [ha, hb] at h5
  rw [hb] at h6
  rw [ha]
  have e1 : s * L = L * s := Nat.mul_comm s L
  rw [e1] at h1
  -- z * t = t * V + q + r, with q < t and r < s = t * a + b
  have h7 : z * t = t * V + (q + r) := by omega
  constructor
  · refine Nat.le_of_mul_le_mul_left (c := t) ?_ ht
    rw [Nat.mul_comm t z, h7]
    omega
  · refine Nat.le_of_lt_succ (Nat.lt_of_mul_lt_mul_left (a := t) ?_)
    have e2 : t * (V + (a + 1)).succ = t * V + (t * a + (t + t)) := by rw [Nat.mul_succ, Nat.mul_add, Nat.mul_add, Nat.mul_one]; omega
    rw [Nat.mul_comm t z, h7, e2]
    omega
/-- The level above is worth no less than z, and more by no more than s / t + 1. -/
theorem qk_up {z s t : Nat} (hs : 0 < s) (ht : 0 < t) : z ≤ (z * t / s + 1) * s / t ∧ (z * t / s + 1) * s / t ≤ z + (s / t + 1) := by
  obtain ⟨L, hL⟩ : ∃ L, z * t / s = L := ⟨_, rfl⟩
  have h1 := Nat.div_add_mod (z * t) s
  have h2 := Nat.mod_lt (z * t) hs
  rw [hL] at h1 ⊢
  obtain ⟨r, hr⟩ : ∃ r, z * t % s = r := ⟨_, rfl⟩
  rw [hr] at h1 h2
  have e0 : (L + 1) * s = s * L + s := by rw [Nat.add_mul, Nat.one_mul, Nat.mul_comm]
  have h3 := Nat.div_add_mod ((L + 1) * s) t
  have h4 := Nat.mod_lt ((L + 1) * s) ht
  obtain ⟨V, hV⟩ : ∃ V, (L + 1) * s / t = V := ⟨_, rfl⟩
  obtain ⟨q, hq⟩ : ∃ q, (L + 1) * s % t = q := ⟨_, rfl⟩
  rw [hV, hq, e0] at h3
  rw [hq] at h4
  rw [hV]
  have h5 := Nat.div_add_mod s t
  have h6 := Nat.mod_lt s ht
  obtain ⟨a, ha⟩ : ∃ a, s / t = a := ⟨_, rfl⟩
  obtain ⟨b, hb⟩ : ∃ b, s % t = b := ⟨_, rfl⟩
  rw [ha, hb] at h5
  rw [hb] at h6
  rw [ha]
  -- t * V + q = z * t - r + s
  have h7 : t * V + q + r = z * t + s := by omega
  constructor
  · refine Nat.le_of_lt_succ (Nat.lt_of_mul_lt_mul_left (a := t) ?_)
    rw [Nat.mul_succ, Nat.mul_comm t z]
    omega
  · refine Nat.le_of_lt_succ (Nat.lt_of_mul_lt_mul_left (a := t) ?_)
    have e2 : t * (z + (a + 1)).succ = z * t + (t * a + (t + t)) := by rw [Nat.mul_succ, Nat.mul_add, Nat.mul_add, Nat.mul_one, Nat.mul_comm t z]; omega
    rw [e2]
    omega
/-- Where something is left the level above is one, too. -/
theorem qk_room {z s t : Nat} (hz : z ≤ s) (hs : 0 < s) (hr : z * t % s ≠ 0) : z * t / s + 1 ≤ t := by
  have h1 := Nat.div_add_mod (z * t) s
  have h3 : z * t ≤ s * t := Nat.mul_le_mul_right t hz
  rcases Nat.lt_or_ge (z * t / s) t with h | h
  · exact h
  · exfalso
    have h4 : s * t ≤ s * (z * t / s) := Nat.mul_le_mul_left s h
    omega
/-- The greatest one is at the greatest level, and nothing is left; so it is with none. -/
theorem qk_all {s t : Nat} (hs : 0 < s) (ht : 0 < t) : s * t / s = t ∧ s * t % s = 0 ∧ t * s / t = s := by
  refine ⟨Nat.mul_div_cancel_left t hs, Nat.mul_mod_right s t, Nat.mul_div_cancel_left s ht⟩
theorem qk_none (s t : Nat) : 0 * t / s = 0 ∧ 0 * t % s = 0 ∧ 0 * s / t = 0 := by simp
/-- What a level is worth has no greater level; and no less by more than one, where there are fewer levels than the scale. -/
theorem qk_again {l s t : Nat} (hs : 0 < s) (ht : 0 < t) : l * s / t * t / s ≤ l ∧ (t < s → l ≤ l * s / t * t / s + 1) := by
  have h3 := Nat.div_add_mod (l * s) t
  have h4 := Nat.mod_lt (l * s) ht
  obtain ⟨V, hV⟩ : ∃ V, l * s / t = V := ⟨_, rfl⟩
  obtain ⟨q, hq⟩ : ∃ q, l * s % t = q := ⟨_, rfl⟩
  rw [hV, hq] at h3
  rw [hq] at h4
  rw [hV]
  have e1 : V * t = t * V := Nat.mul_comm V t
  constructor
  · refine Nat.le_of_lt_succ (Nat.div_lt_of_lt_mul ?_)
    rw [Nat.mul_succ, e1, Nat.mul_comm s l]
    omega
  · intro hts
    rcases Nat.eq_zero_or_pos l with h | h
    · rw [h]; exact Nat.zero_le _
    · obtain ⟨k, rfl⟩ : ∃ k, l = k + 1 := ⟨l - 1, by omega⟩
      refine Nat.succ_le_succ ?_
      rw [Nat.le_div_iff_mul_le hs, e1]
      have e2 : (k + 1) * s = k * s + s := by rw [Nat.add_mul, Nat.one_mul]
      omega
end Go.Proofs.Ytbkoapdeglmopaa
/- What is picked, the least size of some: by the document. -/
namespace Go.Proofs.Ytbkoapdeglmopaa
open Go.RowKit
set_option maxHeartbeats 400000
set_option maxRecDepth 100000
set_option linter.unusedVariables false
/-- The first k, rising; its error. -/
def pikE (v : List Int) (k : Int) : Int := if orkE v ≠ 0 then orkE v else if k < 0 ∨ (v.length : Int) < k then 1 else 0
def pikV (v : List Int) (k : Int) : List Int := if pikE v k = 0 then pkI v k.toNat else []
theorem pikE_ok {v : List Int} {k : Int} : pikE v k = 0 ↔ v.length ≤ 4096 ∧ 0 ≤ k ∧ k ≤ v.length := by
  unfold pikE
  by_cases h : orkE v = 0
  · have := orkE_ok.1 h
    rw [if_neg (by omega)]
    split <;> omega
  · have : ¬ v.length ≤ 4096 := fun h2 => h (orkE_ok.2 h2)
    rw [if_pos h]
    omega
theorem pikV_len {v : List Int} {k : Int} (h : pikE v k = 0) : ((pikV v k).length : Int) = k := by
  have h2 := pikE_ok.1 h
  unfold pikV
  rw [if_pos h, pkI_len (by omega)]
  omega
theorem pikV_le (v : List Int) (k : Int) : (pikV v k).length ≤ v.length := by
  by_cases h : pikE v k = 0
  · have h2 := pikE_ok.1 h
    have := pikV_len h
    omega
  · unfold pikV
    rw [if_neg h]
    simp
theorem mrg_pick {v : List Int} {k : Nat} (h : orkE v = 0) (hk : k ≤ v.length) : mrgV [(orkV v).take k] = pkI v k := by
  refine (mrgV_eq (pkI_ris v k) fun x => ?_).symm
  unfold orkV pkI
  rw [if_pos h, ← List.map_take]
  simp only [List.mem_singleton, exists_eq_left, List.mem_map]
  constructor
  · rintro ⟨i, hi, rfl⟩
    exact ⟨i, (pkF_ord hk).1 hi, rfl⟩
  · rintro ⟨i, hi, rfl⟩
    exact ⟨i, (pkF_ord hk).2 hi, rfl⟩
/-- The least size at some places, and whether there is one. -/
def lsS (v : List Int) (a : Nat × Bool) (n : Int) : Nat × Bool :=
  if n < 0 ∨ (v.length : Int) ≤ n then a else if a.2 = false ∨ szN (v.getD n.toNat 0) < a.1 then (szN (v.getD n.toNat 0), true) else a
def lstR (l v : List Int) : Nat × Bool := l.foldl (lsS v) (0, false)
theorem lst_snoc {l : List Int} {k : Nat} {n : Int} (v : List Int) (h : l[k]? = some n) : lstR (l.take (k + 1)) v = lsS v (lstR (l.take k) v) n := by
  unfold lstR
  rw [take_snoc h, List.foldl_append]
  rfl
theorem lst_bound {v : List Int} (uv : ∀ x ∈ v, I64 x) : ∀ (l : List Int) (a : Nat × Bool), a.1 ≤ 9223372036854775808 → (l.foldl (lsS v) a).1 ≤ 9223372036854775808
  | [], a, h => h
  | n :: l, a, h => by
    refine lst_bound uv l _ ?_
    unfold lsS
    split
    · exact h
    · rename_i h1
      split
      · have hn : n.toNat < v.length := by omega
        refine szN_le (uv _ ?_)
        rw [List.getD_eq_getElem?_getD, List.getElem?_eq_getElem hn, Option.getD_some]
        exact List.getElem_mem hn
      · exact h
end Go.Proofs.Ytbkoapdeglmopaa
/- Orders, who is picked, who is left, the least size, scaled and turned: what the laws ask. Plain mathematics. No program in sight. -/
namespace Go.Proofs.Ytbkoapdeglmopaa
open Go.RowKit
set_option maxRecDepth 100000
set_option linter.unusedVariables false
theorem ork_at {v : List Int} (h : orkE v = 0) {r : Nat} {n : Int} (hn : (orkV v)[r]? = some n) : ∃ m : Nat, n = m ∧ m < v.length ∧ rkN v m = r := by
  have hr : r < v.length := by
    have := (List.getElem?_eq_some_iff.1 hn).1
    rwa [orkV_len h] at this
  unfold orkV at hn
  rw [if_pos h, List.getElem?_map, ordT_at hr] at hn
  simp at hn
  exact ⟨atR v r, hn.symm, (atR_is hr).1, (atR_is hr).2⟩
theorem ork_next {v : List Int} (h : orkE v = 0) {r a b : Nat} (ha : (orkV v)[r]? = some (a : Int)) (hb : (orkV v)[r + 1]? = some (b : Int)) : ahB v a b = true := by
  obtain ⟨m, e, h1, h2⟩ := ork_at h ha
  obtain ⟨m', e', h1', h2'⟩ := ork_at h hb
  obtain rfl : a = m := by omega
  obtain rfl : b = m' := by omega
  exact (rk_iff h1 h1').1 (by omega)
theorem pik_at {v : List Int} {k : Int} (h : pikE v k = 0) {n : Int} (hn : n ∈ pikV v k) : ∃ m : Nat, n = m ∧ m < v.length ∧ m ∈ pkF v k.toNat := by
  unfold pikV at hn
  rw [if_pos h] at hn
  obtain ⟨i, e, hi, hr⟩ := pkI_mem.1 hn
  exact ⟨i, e, hi, pkF_mem.2 ⟨hi, hr⟩⟩
theorem pik_in {v : List Int} {k : Int} (h : pikE v k = 0) {m : Nat} : (m : Int) ∈ pikV v k ↔ m ∈ pkF v k.toNat := by
  unfold pikV pkI
  rw [if_pos h, List.mem_map]
  constructor
  · rintro ⟨i, hi, e⟩
    obtain rfl : i = m := by omega
    exact hi
  · intro hm
    exact ⟨m, hm, rfl⟩
theorem pik_ris (v : List Int) (k : Int) : risP (pikV v k) := by
  unfold pikV
  split
  · exact pkI_ris _ _
  · exact ris_nil
theorem pik_plc {v : List Int} {k : Int} (h : pikE v k = 0) (h0 : v ≠ []) : chkE v.length (pikV v k) = 0 := by
  refine chk_ok.2 ⟨?_, ?_, pik_ris v k, fun n hn => ?_⟩
  · have : v.length ≠ 0 := fun e => h0 (List.length_eq_zero_iff.1 e)
    omega
  · have := (pikE_ok.1 h).1
    omega
  · obtain ⟨m, rfl, hm, _⟩ := pik_at h hn
    omega
theorem pik_left {v : List Int} {k : Int} (h : pikE v k = 0) (h0 : v ≠ []) {n : Int} (hn : n ∈ lfV v.length (pikV v k)) : ∃ m : Nat, n = m ∧ m < v.length ∧ m ∉ pkF v k.toNat := by
  unfold lfV at hn
  rw [if_pos (pik_plc h h0), Int.toNat_natCast] at hn
  obtain ⟨⟨h1, h2⟩, h3⟩ := lfF_mem.1 hn
  obtain ⟨m, rfl⟩ := Int.eq_ofNat_of_zero_le h1
  exact ⟨m, rfl, by omega, fun hm => h3 ((pik_in h).2 hm)⟩
/-- The least of some sizes, all of them of places. -/
theorem lst_is {v : List Int} : ∀ (l : List Int) (a : Nat × Bool), (∀ n ∈ l, 0 ≤ n ∧ n < (v.length : Int)) →
    (l = [] ∧ l.foldl (lsS v) a = a) ∨ ((l.foldl (lsS v) a).2 = true ∧ ((∃ n ∈ l, (l.foldl (lsS v) a).1 = szN (v.getD n.toNat 0)) ∨ (a.2 = true ∧ (l.foldl (lsS v) a).1 = a.1)))
  | [], a, _ => .inl ⟨rfl, rfl⟩
  | n :: l, a, h => by
    right
    have hn := h n (by simp)
    have hs : lsS v a n = if a.2 = false ∨ szN (v.getD n.toNat 0) < a.1 then (szN (v.getD n.toNat 0), true) else a := by
      unfold lsS
      rw [if_neg (by omega)]
    rw [List.foldl_cons]
    have ih := lst_is l (lsS v a n) (fun m hm => h m (by simp [hm]))
    by_cases hc : a.2 = false ∨ szN (v.getD n.toNat 0) < a.1
    · rw [if_pos hc] at hs
      rw [hs] at ih ⊢
      rcases ih with ⟨e1, e2⟩ | ⟨e1, ⟨m, hm, e2⟩ | ⟨e2, e3⟩⟩
      · rw [e2]
        exact ⟨rfl, .inl ⟨n, by simp, rfl⟩⟩
      · exact ⟨e1, .inl ⟨m, by simp [hm], e2⟩⟩
      · exact ⟨e1, .inl ⟨n, by simp, e3⟩⟩
    · rw [if_neg hc] at hs
      have ha : a.2 = true := by
        cases h2 : a.2
        · exact absurd (.inl h2) hc
        · rfl
      rw [hs] at ih ⊢
      rcases ih with ⟨e1, e2⟩ | ⟨e1, ⟨m, hm, e2⟩ | ⟨e2, e3⟩⟩
      · rw [e2]
        exact ⟨ha, .inr ⟨ha, rfl⟩⟩
      · exact ⟨e1, .inl ⟨m, by simp [hm], e2⟩⟩
      · exact ⟨e1, .inr ⟨e2, e3⟩⟩
/-- Of who is picked the least size is no less than any size of who is left; there is one just if some are picked. -/
theorem pik_least {v : List Int} {k : Int} (h : pikE v k = 0) (h0 : v ≠ []) : (lstR (pikV v k) v).2 = decide (0 < k) ∧
    ∀ n m : Nat, n < v.length → n ∉ pkF v k.toNat → v[n]? = some (v.getD n 0) ∧ ((lstR (pikV v k) v).2 = true → szN (v.getD n 0) ≤ (lstR (pikV v k) v).1) := by
  have hb : ∀ n ∈ pikV v k, 0 ≤ n ∧ n < (v.length : Int) := fun n hn => by
    obtain ⟨m, rfl, hm, _⟩ := pik_at h hn
    omega
  have hl := pikV_len h
  have hk := pikE_ok.1 h
  rcases lst_is (pikV v k) (0, false) hb with ⟨e1, e2⟩ | ⟨e1, ⟨m, hm, e2⟩ | ⟨e2, _⟩⟩
  · have hk0 : k = 0 := by rw [e1] at hl; simpa using hl.symm
    have e3 : lstR (pikV v k) v = (0, false) := e2
    rw [e3, hk0]
    exact ⟨by decide, fun n m hn _ => ⟨by rw [List.getElem?_eq_getElem hn, List.getD_eq_getElem?_getD, List.getElem?_eq_getElem hn, Option.getD_some], fun hf => by cases hf⟩⟩
  · have e3 : (lstR (pikV v k) v).2 = true := e1
    have hk0 : 0 < k := by
      have : 0 < (pikV v k).length := List.length_pos_of_mem hm
      omega
    refine ⟨by rw [e3, decide_eq_true hk0], fun n _ hn ho => ⟨by rw [List.getElem?_eq_getElem hn, List.getD_eq_getElem?_getD, List.getElem?_eq_getElem hn, Option.getD_some], fun _ => ?_⟩⟩
    obtain ⟨i, rfl, hi, hp⟩ := pik_at h hm
    have ha := ahB_iff.1 (pk_ahead hp hn ho)
    have e4 : (lstR (pikV v k) v).1 = szN (v.getD i 0) := e2
    rw [e4]
    omega
  · cases e2
/-- A number's opposite, as 64 bits have it. -/
def ngW (n : Int) : Int := wrap64 (-n)
def ngL (v : List Int) : List Int := v.map ngW
theorem ngW_i64 (n : Int) : I64 (ngW n) := by unfold ngW I64 wrap64; omega
theorem ngW_sz {n : Int} (h : I64 n) : szN (ngW n) = szN n := by unfold szN ngW wrap64; unfold I64 at h; omega
theorem ngL_i64 (v : List Int) : ∀ x ∈ ngL v, I64 x := fun x hx => by
  unfold ngL at hx
  obtain ⟨y, _, rfl⟩ := List.mem_map.1 hx
  exact ngW_i64 y
theorem getD_i64 {v : List Int} (uv : ∀ x ∈ v, I64 x) (i : Nat) : I64 (v.getD i 0) := by
  rw [List.getD_eq_getElem?_getD]
  cases h : v[i]? with
  | none => show I64 0; decide
  | some x => exact uv x (List.mem_of_getElem? h)
theorem ngL_ah {v : List Int} (uv : ∀ x ∈ v, I64 x) (i k : Nat) : ahB (ngL v) i k = ahB v i k := by
  unfold ahB ngL
  have h0 : ngW 0 = 0 := by unfold ngW wrap64; omega
  rw [getD_map h0, getD_map h0, ngW_sz (getD_i64 uv i), ngW_sz (getD_i64 uv k)]
theorem pik_alike {v u : List Int} (hl : u.length = v.length) (h : ∀ i k, ahB u i k = ahB v i k) (k : Int) : pikE u k = pikE v k ∧ pikV u k = pikV v k := by
  have e1 : pikE u k = pikE v k := by unfold pikE orkE; rw [hl]
  refine ⟨e1, ?_⟩
  unfold pikV pkI
  rw [e1, pk_alike hl h]
theorem pik_zero {v : List Int} (h : v.length ≤ 4096) : pikE v 0 = 0 ∧ pikV v 0 = [] := by
  have h1 : pikE v 0 = 0 := pikE_ok.2 ⟨h, by omega, by omega⟩
  refine ⟨h1, ?_⟩
  have := pikV_len h1
  exact List.length_eq_zero_iff.1 (by omega)
theorem pik_more {v : List Int} {k m : Int} (h1 : pikE v k = 0) (h2 : pikE v m = 0) (h : k ≤ m) {n : Int} (hn : n ∈ pikV v k) : hasB (pikV v m) n = true := by
  obtain ⟨i, rfl, _, hi⟩ := pik_at h1 hn
  refine decide_eq_true ((pik_in h2).2 ?_)
  have h3 := (pikE_ok.1 h1).2.1
  exact pk_more (by omega) hi
end Go.Proofs.Ytbkoapdeglmopaa
/- Steps of a scale: a level there and back, the next one, what is left. Plain mathematics. No program in sight. -/
namespace Go.Proofs.Ytbkoapdeglmopaa
open Go.RowKit
set_option maxRecDepth 100000
set_option linter.unusedVariables false
theorem stp_val {level : Nat} {scale wide : Int} (h : valE level scale wide = 0) :
    valV level scale wide ≤ scale.toNat ∧ lvlE (valV level scale wide : Int) scale wide = 0 ∧ lvlL (valV level scale wide : Int) scale wide ≤ level ∧ (topQ wide < scale.toNat → level ≤ lvlL (valV level scale wide : Int) scale wide + 1) := by
  obtain ⟨h1, h2, h3⟩ := valE_ok.1 h
  have ht := (topQ_bd h1).1
  have hV : valV level scale wide = vlQ level scale.toNat (topQ wide) := by unfold valV; rw [if_pos h]
  have hle : vlQ level scale.toNat (topQ wide) ≤ scale.toNat := vlQ_le h3
  rw [hV]
  have hz : szN ((vlQ level scale.toNat (topQ wide) : Nat) : Int) = vlQ level scale.toNat (topQ wide) := by unfold szN; omega
  have hE : lvlE ((vlQ level scale.toNat (topQ wide) : Nat) : Int) scale wide = 0 := lvlE_ok.2 ⟨h1, h2, by rw [hz]; omega⟩
  have hL : lvlL ((vlQ level scale.toNat (topQ wide) : Nat) : Int) scale wide = level * scale.toNat / topQ wide * topQ wide / scale.toNat := by
    unfold lvlL lvQ
    rw [if_pos hE, hz]
    rfl
  refine ⟨hle, hE, ?_, fun hs => ?_⟩
  · rw [hL]
    rcases Nat.eq_zero_or_pos scale.toNat with h0 | h0
    · rw [h0]
      simp
    · exact (qk_again (l := level) h0 (show 0 < topQ wide by omega)).1
  · rw [hL]
    exact (qk_again (l := level) (show 0 < scale.toNat by omega) (show 0 < topQ wide by omega)).2 hs
theorem stp_next {level : Nat} {scale wide : Int} (h : valE level scale wide = 0) (hl : level < topQ wide) : valE (level + 1) scale wide = 0 ∧ valV level scale wide ≤ valV (level + 1) scale wide := by
  obtain ⟨h1, h2, h3⟩ := valE_ok.1 h
  have h4 : valE (level + 1) scale wide = 0 := valE_ok.2 ⟨h1, h2, hl⟩
  refine ⟨h4, ?_⟩
  unfold valV
  rw [if_pos h, if_pos h4]
  exact vlQ_mono (Nat.le_succ _)
theorem stp_rest {n scale wide : Int} (h : lvlE n scale wide = 0) (hs : 0 < scale) : lvlR n scale wide < scale.toNat ∧ lvlL n scale wide * scale.toNat + lvlR n scale wide = szN n * topQ wide := by
  have h2 := lvlE_ok.1 h
  unfold lvlL lvlR
  rw [if_pos h, if_pos h]
  exact ⟨rsQ_lt (by omega), lvQ_both (by omega)⟩
end Go.Proofs.Ytbkoapdeglmopaa
/- A law's frame: where a call answers true and nothing that was there has turned, the given row's post holds, whatever the arguments are made of. -/
namespace Go.Proofs.Ytbkoapdeglmopaa
open Go.ChangeShapes Go.WideShapes Go.ChangeAt Go.RowKit
set_option maxRecDepth 100000
set_option linter.unusedVariables false

theorem own : ownKnob Try.prog.godebug = none := by kernel_rfl
theorem laid : laidOutB Try.prog = true := by kernel_rfl

section
variable {H : Type} {enc : TypeId × Value → H} {P : Program}

theorem all_stay (hl : laidOutB P = true) {W W' : World} (hb : Below W.heap.size W W') {sp : Nat → Bool} :
    ∀ (ts : List TypeId) (vs : List Value) (ds : List (DataW H)) (ps : List MemPlace), (∀ t ∈ ts, P.readableRec t = true ∧ t < P.types.size) →
      DataW.TrodAll enc P W 0 (fun _ => true) true ts vs ds ps → (∀ x ∈ ps, x.block < W.heap.size) → (∀ x ∈ ps, sp x.block = true) → DataW.TrodAll enc P W' 0 sp true ts vs ds ps
  | [], [], [], ps, _, h, _, _ => h
  | [], [], _ :: _, _, _, h, _, _ => h.elim
  | [], _ :: _, _, _, _, h, _, _ => h.elim
  | _ :: _, [], _, _, _, h, _, _ => h.elim
  | _ :: _, _ :: _, [], _, _, h, _, _ => h.elim
  | t :: ts, v :: vs, d :: ds, ps, hr, h, hlt, hsp => by
    obtain ⟨p, q, h1, h2, rfl⟩ := h
    have ht := hr t (by simp)
    refine ⟨p, q, WideElems.Trod_stays hl ht.1 ht.2 h1 (fun x hx => hb.same (hlt x (by simp [hx]))) (fun x hx => hsp x (by simp [hx])), ?_, rfl⟩
    exact all_stay hl hb ts vs ds q (fun t' ht' => hr t' (by simp [ht'])) h2 (fun x hx => hlt x (by simp [hx])) (fun x hx => hsp x (by simp [hx]))

theorem law_post {f : Func} {s : ChangeSpec} {apart fresh handsOn again : Bool} {W W' : World} {args : Array Value} {ds gs : List (DataW H)} {before : List MemPlace} {tb : TypeId}
    (hl : laidOutB P = true) (hts : ∀ t ∈ f.params.toList, P.readableRec t = true ∧ t < P.types.size) (hv : s.vars = [])
    (hW : DataW.Whole enc P f.params.toList s.vars apart W args.toList ds gs before)
    (hs : (s.fn H (ds ++ gs)).results = [.lit (.bool true)] ∧ (s.fn H (ds ++ gs)).args = ds ∧ (s.fn H (ds ++ gs)).vars = [])
    (hr : f.resultTypes = #[tb]) (htb : P.underlying tb = some .bool) (hb : Below W.heap.size W W') :
    s.post enc P f apart fresh handsOn again W args (.bool true) W' := by
  have hlt : ∀ p ∈ before, p.block < W.heap.size := fun p hp => hW.lt p hp
  have hW0 := hW
  obtain ⟨p, q, h1, h2, e, hz, hn⟩ := hW
  rw [hv] at h2
  cases gs with
  | cons _ _ => exact h2.elim
  | nil =>
    have hq : q = [] := h2
    subst hq
    simp only [List.append_nil] at e
    subst e
    have stay : ∀ sp : Nat → Bool, (∀ x ∈ before, sp x.block = true) → DataW.TrodAll enc P W' 0 sp true f.params.toList args.toList (s.fn H (ds ++ [])).args before :=
      fun sp hsp => by rw [hs.2.1]; exact all_stay hl hb _ _ _ _ hts h1 hlt hsp
    have vars : ∀ sp : Nat → Bool, DataW.TrodVars enc P W' sp s.vars (s.fn H (ds ++ [])).vars [] := fun sp => by rw [hs.2.2, hv]; rfl
    have res : ∀ (b : Nat) (sp : Nat → Bool) (hd : Bool), DataW.TrodAll enc P W' b sp hd f.resultTypes.toList ((Value.bool true).resultList f.resultTypes.size) (s.fn H (ds ++ [])).results [] := by
      intro b sp hd
      rw [hs.1, hr]
      exact trodAll_mk1 (shut_bool htb true)
    refine ⟨ds, [], before, [], before, [], hW0, res _ _ _, stay _ (fun x hx => by simpa using hlt x hx), vars _, ?_, fun _ => ?_⟩
    · exact World.keptBut_mono (fun x hx => ⟨hx, by simpa using hx⟩) (hb.frame (· ∈ before))
    · refine ⟨?_, _, _, ([] ++ before) ++ [], ⟨[] ++ before, [], trodAll_append (stay _ (fun _ _ => rfl)) (res _ _ _), vars _, rfl, ?_, ?_⟩, ?_⟩
      · exact ok_one hr rfl (okWide_bool_mk htb true)
      · intro b off hp
        have hin : MemPlace.cell b off ∈ before := by simpa using hp
        rw [hb.frozen (hlt _ hin)]
        exact hz b off hin
      · intro ha
        simpa using hn ha
      · intro x hx _
        simpa using hx
end
end Go.Proofs.Ytbkoapdeglmopaa
/- An argument that is a list of whole numbers of one kind, opened. -/
namespace Go.Proofs.Ytbkoapdeglmopaa
open Go.ChangeShapes Go.WideShapes Go.ChangeAt Go.RowKit
set_option maxRecDepth 100000
set_option linter.unusedVariables false
section
variable {H : Type} {enc : TypeId × Value → H} {P : Program} {W : World}
theorem nums_rd {k : IntKind} {a : Addr} {zs xs : List Int} {m : Nat} (hm : xs = zs.take m) (hc : ∀ i, i < m → W.cell? (a.add i) = some (.int k (zs.getD i 0))) : Rd (Value.int k) W W.heap.size (some a) xs := fun j x hx => by
  subst hm
  have hk : j < (zs.take m).length := (List.getElem?_eq_some_iff.1 hx).1
  have hkm : j < m := by rw [List.length_take] at hk; omega
  obtain ⟨b, off, spot⟩ := a
  have hs : spot = none := by simpa [Addr.add] using World.cell?_spot (hc 0 (by omega))
  subst hs
  have h := hc j hkm
  rw [Go.WideShapes.add_plain] at h
  have hz : zs.getD j 0 = x := by
    rw [List.getElem?_take_of_lt hkm] at hx
    simp [List.getD, hx]
  rw [hz] at h
  exact ⟨b, off, rfl, lt_of_cell h, h⟩
theorem open_nums {k : IntKind} {r : Reach} {t e : TypeId} {v : Value} {d : DataW H} {ps : List MemPlace} (ht : P.underlying t = some (.slice e)) (he : P.underlying e = some (.int k)) (hc : P.cellsOf e = 1) {b0 : Nat}
    (hval : Value.okWide P W r b0 t v) (hd : DataW.Trod enc P W 0 (fun _ => true) true t v d ps) :
    ∃ A xs c, v = .slice A xs.length c ∧ Rd (Value.int k) W W.heap.size A xs ∧ (∀ x ∈ xs, (Lit.int k x).wf = true) ∧ xs.length ≤ c ∧ c ≤ 9223372036854775807 := by
  obtain ⟨A, len, cap, rfl⟩ := okWide_slice ht hval
  obtain ⟨fuel, hf⟩ := hd
  rcases open_ints ht he hc hf with ⟨hcs, _⟩ | ⟨a, len', cap', zs, hcs, _, hl, hm, hz, _, hcell, hwz⟩
  · simp [Value.cells] at hcs
    obtain ⟨rfl, rfl, rfl⟩ := hcs
    exact ⟨none, [], 0, rfl, Rd.none_, by intro x hx; simp at hx, by simp, by omega⟩
  · simp [Value.cells] at hcs
    obtain ⟨rfl, rfl, rfl⟩ := hcs
    simp only [if_true] at hz
    have hlen : (zs.take len).length = len := by rw [List.length_take]; omega
    refine ⟨some a, zs.take len, cap, by rw [hlen], nums_rd rfl fun i hi => hcell i (by omega), fun x hx => hwz x (List.mem_of_mem_take hx), by omega, by unfold maxLen at hm; omega⟩
/-- .. and the datum that it reads as is as long. -/
theorem open_numsd {k : IntKind} {r : Reach} {t e : TypeId} {v : Value} {d : DataW H} {ps : List MemPlace} (ht : P.underlying t = some (.slice e)) (he : P.underlying e = some (.int k)) (hc : P.cellsOf e = 1) {b0 : Nat}
    (hval : Value.okWide P W r b0 t v) (hd : DataW.Trod enc P W 0 (fun _ => true) true t v d ps) :
    ∃ A xs c, v = .slice A xs.length c ∧ Rd (Value.int k) W W.heap.size A xs ∧ (∀ x ∈ xs, (Lit.int k x).wf = true) ∧ xs.length ≤ c ∧ c ≤ 9223372036854775807 ∧ (xs = [] ∨ ∃ es sp, d = .slice es sp ∧ es.length = xs.length) := by
  obtain ⟨A, xs, c, rfl, h1, h2, h3, h4⟩ := open_nums ht he hc hval hd
  refine ⟨A, xs, c, rfl, h1, h2, h3, h4, ?_⟩
  obtain ⟨fuel, hf⟩ := hd
  rcases open_ints ht he hc hf with ⟨hcs, _⟩ | ⟨a, len', cap', zs, hcs, _, hl, hm, hz, hx, _, _⟩
  · left
    simp [Value.cells] at hcs
    exact List.length_eq_zero_iff.1 (by rw [hcs.2.1]; rfl)
  · right
    simp [Value.cells] at hcs
    obtain ⟨rfl, e1, rfl⟩ := hcs
    simp only [if_true] at hz
    injection hx with hx _
    refine ⟨_, _, hx, ?_⟩
    rw [e1]
    simp [lits, List.length_take]
    omega
theorem U64.of_wf {a : Int} (h : (Lit.int .u64 a).wf = true) : U64 a := by
  simp [Lit.wf, IntKind.min, IntKind.max, IntKind.signed, IntKind.bits] at h
  unfold U64; omega
theorem U32.of_wf {a : Int} (h : (Lit.int .u32 a).wf = true) : 0 ≤ a ∧ a ≤ 4294967295 := by
  simp [Lit.wf, IntKind.min, IntKind.max, IntKind.signed, IntKind.bits] at h
  omega
end
end Go.Proofs.Ytbkoapdeglmopaa
/- An argument that is a list of bools, opened. -/
namespace Go.Proofs.Ytbkoapdeglmopaa
open Go.ChangeShapes Go.WideShapes Go.ChangeAt Go.RowKit
set_option maxRecDepth 100000
set_option linter.unusedVariables false
theorem cells_bool : Try.prog.cellsOf 4 = 1 := by kernel_rfl
section
variable {H : Type} {enc : TypeId × Value → H} {P : Program} {W : World}
theorem bools_rd {a : Addr} {B : Nat → Bool} {m : Nat} (hc : ∀ i, i < m → W.cell? (a.add i) = some (.bool (B i))) : Rd Value.bool W W.heap.size (some a) ((List.range m).map B) := fun j x hx => by
  have hk : j < ((List.range m).map B).length := (List.getElem?_eq_some_iff.1 hx).1
  have hkm : j < m := by simpa using hk
  obtain ⟨b, off, spot⟩ := a
  have hs : spot = none := by simpa [Addr.add] using World.cell?_spot (hc 0 (by omega))
  subst hs
  have h := hc j hkm
  rw [Go.WideShapes.add_plain] at h
  have hz : B j = x := by
    rw [List.getElem?_map, List.getElem?_range hkm] at hx
    exact Option.some.inj hx
  rw [hz] at h
  exact ⟨b, off, rfl, lt_of_cell h, h⟩
theorem open_bls {r : Reach} {t e : TypeId} {v : Value} {d : DataW H} {ps : List MemPlace} (ht : P.underlying t = some (.slice e)) (he : P.underlying e = some .bool) (hc : P.cellsOf e = 1) {b0 : Nat}
    (hval : Value.okWide P W r b0 t v) (hd : DataW.Trod enc P W 0 (fun _ => true) true t v d ps) :
    ∃ A xs c, v = .slice A xs.length c ∧ Rd Value.bool W W.heap.size A xs ∧ xs.length ≤ c ∧ c ≤ 9223372036854775807 := by
  obtain ⟨A, len, cap, rfl⟩ := okWide_slice ht hval
  obtain ⟨fuel, hf⟩ := hd
  rcases Deep.open_bools ht he hc hf with ⟨hcs, _⟩ | ⟨a, len', cap', B, hcs, _, hl, hm, _, hcell⟩
  · simp [Value.cells] at hcs
    obtain ⟨rfl, rfl, rfl⟩ := hcs
    exact ⟨none, [], 0, rfl, Rd.none_, by simp, by omega⟩
  · simp [Value.cells] at hcs
    obtain ⟨rfl, rfl, rfl⟩ := hcs
    have hlen : ((List.range len).map B).length = len := by simp
    exact ⟨some a, (List.range len).map B, cap, by rw [hlen], bools_rd fun i hi => hcell i (by omega), by omega, by unfold maxLen at hm; omega⟩
end
end Go.Proofs.Ytbkoapdeglmopaa
/- What follows of frames' texts: read back, written again, apart, how long. No program in sight. -/
namespace Go.Proofs.Ytbkoapdeglmopaa
set_option maxRecDepth 100000
set_option linter.unusedVariables false
theorem sealed_own {b : List Int} (ub : U8s b) : sealedB (b ++ le4 (sumN b)) = true := by
  have hl : (b ++ le4 (sumN b)).length = b.length + 4 := by rw [List.length_append, le4_len]
  rw [sealed_iff (ub.app (le4_bytes _)) (by omega), off_iff ub (sumN_lt b)]
theorem open_seal {b : List Int} (ub : U8s b) (hb : b.length ≤ 65532) : openV (sealV b) = b ∧ openE (sealV b) = 0 := by
  have e : sealV b = b ++ le4 (sumN b) := if_neg (by omega)
  rw [e]
  have hl : (b ++ le4 (sumN b)).length = b.length + 4 := by rw [List.length_append, le4_len]
  have hs := sealed_own ub
  unfold openV openE
  rw [hs, hl, if_neg (by simp only [Bool.true_eq_false, or_false]; omega), if_neg (by omega), if_neg (by omega), if_neg (by decide)]
  refine ⟨?_, rfl⟩
  rw [show b.length + 4 - 4 = b.length by omega, List.take_left]
theorem seal_open {b : List Int} (h : openE b = 0) : sealV (openV b) = b ∧ sealE (openV b) = 0 ∧ (openV b).length + 4 = b.length ∧ b.length ≤ 65536 := by
  unfold openE at h
  split at h
  · simp at h
  · rename_i h1
    split at h
    · simp at h
    · rename_i h2
      split at h
      · simp at h
      · rename_i h3
        have hs : sealedB b = true := by cases hb : sealedB b with
          | true => rfl
          | false => exact absurd hb h3
        have ho : openV b = b.take (b.length - 4) := by
          unfold openV
          rw [if_neg]
          rintro (h | h | h)
          · exact h1 h
          · exact h2 h
          · exact h3 h
        have hl : (openV b).length + 4 = b.length := by rw [ho, List.length_take]; omega
        unfold sealedB sealedB.eqL at hs
        rw [decide_eq_true_eq] at hs
        refine ⟨?_, ?_, hl, by omega⟩
        · unfold sealV
          rw [if_neg (by omega), ho, ← hs, List.take_append_drop]
        · unfold sealE
          rw [if_neg (by omega)]
theorem openV_u8 {l : List Int} (hl : U8s l) : U8s (openV l) := by
  unfold openV
  split
  · intro x hx; simp at hx
  · exact hl.take _
theorem sealV_u8 {l : List Int} (hl : U8s l) : U8s (sealV l) := by
  unfold sealV
  split
  · intro x hx; simp at hx
  · exact hl.app (le4_bytes _)
theorem sgnd_u8 {l : List Int} (h : ∀ x ∈ l, I64 x) : U8s (sgnd l) := encs_u8 (zigs_u64 h)
theorem sgnd_len {l : List Int} (h : ∀ x ∈ l, I64 x) : (sgnd l).length ≤ 10 * l.length := by
  have := encs_len (zigs_u64 h)
  rwa [List.length_map] at this
theorem U8s.cons {x : Int} {l : List Int} (h0 : 0 ≤ x) (h1 : x ≤ 255) (h : U8s l) : U8s (x :: l) := fun y hy => by
  rcases List.mem_cons.1 hy with rfl | hy
  · exact ⟨h0, h1⟩
  · exact h y hy
theorem body_u8 {s : SentV} (hm : mayP s) (hw : wfS s) : U8s (bodyL s) := by
  obtain ⟨sch, dim, L, V, scale, wide, lev, neg⟩ := s
  obtain ⟨hd1, hd4, hc⟩ := hm
  obtain ⟨w1, w2, w3, w4, w5, w6, w7⟩ := hw
  simp only at hd1 hd4 hc w1 w2 w3 w4 w5 w6 w7
  have ud := lebI_u8 dim (by omega)
  unfold bodyL tailL
  simp only
  rcases hc with ⟨rfl, rfl, h2, rfl, rfl, rfl, rfl⟩ | ⟨rfl, h1, h2, rfl, rfl, rfl, rfl⟩ | ⟨rfl, h1, h2, h3, h4, rfl, rfl, h7, h8⟩ | ⟨rfl, rfl, rfl, rfl, rfl, h5, h6⟩
  · exact .cons (by decide) (by decide) (ud.app (sgnd_u8 w4))
  · exact .cons (by decide) (by decide) (ud.app ((pixV_u8 _ _).app (sgnd_u8 w4)))
  · exact .cons (by decide) (by decide) (ud.app ((lebI_u8 scale h7).app ((U8s.cons (by omega) (by omega) (wevV_bytes _ _)).app (sgnV_bytes _))))
  · exact .cons (by decide) (by decide) (ud.app ((lebI_u8 scale h5).app (sgnV_bytes _)))
theorem body_len {s : SentV} {n : Nat} (hm : mayP s) (hw : wfS s) (hV : s.V.length ≤ n) : (bodyL s).length ≤ 45200 + 10 * n := by
  obtain ⟨sch, dim, L, V, scale, wide, lev, neg⟩ := s
  obtain ⟨hd1, hd4, hc⟩ := hm
  obtain ⟨w1, w2, w3, w4, w5, w6, w7⟩ := hw
  simp only at hd1 hd4 hc w1 w2 w3 w4 w5 w6 w7 hV
  have ld := lebI_ten (n := dim) (by unfold U64; omega)
  have lv := sgnd_len w4
  have lp := pixV_len dim L
  unfold bodyL tailL
  simp only [List.length_cons, List.length_append]
  rcases hc with ⟨rfl, rfl, h2, rfl, rfl, rfl, rfl⟩ | ⟨rfl, h1, h2, rfl, rfl, rfl, rfl⟩ | ⟨rfl, h1, h2, h3, h4, rfl, rfl, h7, h8⟩ | ⟨rfl, rfl, rfl, rfl, rfl, h5, h6⟩
  · rw [if_pos rfl]; omega
  · rw [if_neg (by decide), if_pos rfl, List.length_append]; omega
  · rw [if_neg (by decide), if_neg (by decide), if_pos rfl]
    have ls := lebI_ten (n := scale) (by unfold I64 at w5; unfold U64; omega)
    have hn := sgnV_len (l := neg) (by omega)
    have hb : bysE wide lev.length = 0 := by unfold bysE; rw [if_neg (by omega), if_neg (by omega)]
    have hm : mayE wide lev = 0 := by unfold mayE; rw [if_pos hb, if_pos h4]
    have hwl := ((may_same wide lev).2 hm).2
    have h9 : wide.toNat * lev.length ≤ 8 * 4096 := Nat.mul_le_mul (by omega) (by omega)
    simp only [List.length_cons, List.length_append]
    omega
  · rw [if_neg (by decide), if_neg (by decide), if_neg (by decide)]
    have ls := lebI_ten (n := scale) (by unfold I64 at w5; unfold U64; omega)
    have hn := sgnV_len (l := neg) (by omega)
    simp only [List.length_append, List.length_nil]
    omega
theorem text_u8 {f : FrameV} (hc : chkF f = 0) (hw : wfF f) : U8s (textL f) := by
  obtain ⟨h1, h2, h3, h4, h5⟩ := chkF_ok.1 hc
  have hk : f.knd = 1 ∨ f.knd = 2 := by rcases h5 with h | h; exact Or.inl h.1; exact Or.inr h.1
  unfold textL
  refine .cons (by decide) (by decide) (.cons (by omega) (by omega) ((lebI_u8 _ h1).app ((lebI_u8 _ h3).app ?_)))
  rcases h5 with ⟨e, hm⟩ | ⟨e, hz⟩
  · rw [if_pos e]; exact body_u8 (mayB_iff.1 hm) hw.2.2.2
  · rw [if_neg (by omega)]; intro x hx; simp at hx
theorem text_len {f : FrameV} {n : Nat} (hc : chkF f = 0) (hw : wfF f) (hV : f.S.V.length ≤ n) : (textL f).length ≤ 45300 + 10 * n := by
  obtain ⟨h1, h2, h3, h4, h5⟩ := chkF_ok.1 hc
  have lf := lebI_ten (n := f.frm) (by unfold U64; omega)
  have ls := lebI_ten (n := f.stp) (by unfold U64; omega)
  unfold textL
  simp only [List.length_cons, List.length_append]
  rcases h5 with ⟨e, hm⟩ | ⟨e, hz⟩
  · rw [if_pos e]
    have := body_len (mayB_iff.1 hm) hw.2.2.2 hV
    omega
  · rw [if_neg (by omega)]
    simp only [List.length_nil]
    omega
/-- Written, and read. -/
theorem wrt_ok {f : FrameV} (hw : wfF f) (hV : f.S.V.length ≤ 1000) : (wrtE f = 0 ↔ chkF f = 0) ∧ (wrtE f = 0 ∨ wrtE f = 1) := by
  unfold wrtE
  by_cases hc : chkF f = 0
  · have := text_len hc hw hV
    have hs : sealE (textL f) = 0 := if_neg (by omega)
    rw [if_pos hc, hs]
    simp [hc]
  · rw [if_neg hc]
    simp [hc]
theorem rd_wrt {f : FrameV} (hw : wfF f) (hV : f.S.V.length ≤ 1000) (h : wrtE f = 0) : rdR (wrtV f) = (f, 0) ∧ U8s (wrtV f) ∧ (wrtV f).length = (textL f).length + 4 ∧ off (wrtV f) = 0 := by
  have hc := (wrt_ok hw hV).1.1 h
  have hl := text_len hc hw hV
  have hu := text_u8 hc hw
  have e : wrtV f = sealV (textL f) := if_pos hc
  have e2 : sealV (textL f) = textL f ++ le4 (sumN (textL f)) := if_neg (by omega)
  obtain ⟨h1, h2⟩ := open_seal hu (by omega)
  refine ⟨?_, by rw [e]; exact sealV_u8 hu, by rw [e, e2, List.length_append, le4_len], ?_⟩
  · unfold rdR
    rw [e, h2, if_neg (by decide), h1]
    exact read1_put hc hw
  · rw [e, e2]
    exact (off_iff hu (sumN_lt _)).2 rfl
theorem wrt_rd {b : List Int} {f : FrameV} (ub : U8s b) (h : rdR b = (f, 0)) : chkF f = 0 ∧ wfF f ∧ wrtV f = b ∧ wrtE f = 0 := by
  unfold rdR at h
  by_cases he : openE b = 0
  · rw [if_neg (by rw [he]; decide)] at h
    obtain ⟨hc, hw, ht⟩ := read1_back (openV_u8 ub) h
    obtain ⟨h1, h2, _, _⟩ := seal_open he
    refine ⟨hc, hw, ?_, ?_⟩
    · unfold wrtV; rw [if_pos hc, ht, h1]
    · unfold wrtE; rw [if_pos hc, ht, h2]
  · rw [if_pos he] at h
    simp only [Prod.mk.injEq] at h
    exact absurd h.2 he
theorem rd_bad {b : List Int} (h : (rdR b).2 ≠ 0) : (rdR b).1 = zeroF := by
  unfold rdR at h ⊢
  by_cases he : openE b = 0
  · rw [if_neg (by rw [he]; decide)] at h ⊢
    rw [read1_bad h]
  · rw [if_pos he]
theorem rd_cases (b : List Int) : (rdR b).2 = openE b ∨ openE b = 0 ∧ (rdR b).2 = 6 := by
  unfold rdR
  by_cases he : openE b = 0
  · rw [if_neg (by rw [he]; decide)]
    by_cases h : (read1 (openV b)).2 = 0
    · left; rw [h, he]
    · right; rw [read1_bad h]; exact ⟨he, rfl⟩
  · rw [if_pos he]
    left; rfl
theorem apart {f g : FrameV} (hf : wfF f) (hg : wfF g) (lf : f.S.V.length ≤ 1000) (lg : g.S.V.length ≤ 1000) (h1 : wrtE f = 0) (h2 : wrtE g = 0) : eqB (wrtV f) (wrtV g) = sameF f g := by
  have a := (rd_wrt hf lf h1).1
  have b := (rd_wrt hg lg h2).1
  by_cases e : f = g
  · subst e
    rw [eqB_self, sameF_self]
  · have hs : sameF f g = false := by
      cases h : sameF f g with
      | false => rfl
      | true => exact absurd (sameF_iff.1 h) e
    rw [hs]
    unfold eqB
    rw [decide_eq_false_iff_not]
    intro he
    rw [he, b] at a
    simp only [Prod.mk.injEq, and_true] at a
    exact e a.symm
/-- How long its lists are, if it may be; what is read. -/
theorem may_len {s : SentV} (h : mayP s) : s.L.length ≤ 4096 ∧ s.V.length ≤ 4096 ∧ s.lev.length ≤ 4096 ∧ s.neg.length ≤ 4096 := by
  obtain ⟨sch, dim, L, V, scale, wide, lev, neg⟩ := s
  obtain ⟨hd1, hd4, hc⟩ := h
  simp only at hd1 hd4 hc ⊢
  rcases hc with ⟨_, rfl, h2, _, rfl, _, rfl⟩ | ⟨_, h1, h2, _, rfl, _, rfl⟩ | ⟨_, _, _, h3, _, rfl, rfl, _, h8⟩ | ⟨_, rfl, rfl, _, rfl, _, h6⟩
  · simp; omega
  · have := plc_le (chk_ok.1 h1)
    simp; omega
  · simp; omega
  · simp; omega
theorem chk_len {f : FrameV} (h : chkF f = 0) : f.S.L.length ≤ 4096 ∧ f.S.V.length ≤ 4096 ∧ f.S.lev.length ≤ 4096 ∧ f.S.neg.length ≤ 4096 := by
  obtain ⟨_, _, _, _, h5⟩ := chkF_ok.1 h
  rcases h5 with ⟨_, hm⟩ | ⟨_, hz⟩
  · exact may_len (mayB_iff.1 hm)
  · rw [sameS_iff.1 hz]; simp [zeroS]
theorem rd_all {b : List Int} (ub : U8s b) : wfF (rdR b).1 ∧ (rdR b).1.S.L.length ≤ 4096 ∧ (rdR b).1.S.V.length ≤ 4096 ∧ (rdR b).1.S.lev.length ≤ 4096 ∧ (rdR b).1.S.neg.length ≤ 4096 := by
  by_cases h : (rdR b).2 = 0
  · obtain ⟨f, e, hf⟩ : ∃ f e, rdR b = (f, e) := ⟨_, _, rfl⟩
    rw [hf] at h ⊢
    simp only at h
    subst h
    obtain ⟨hc, hw, _, _⟩ := wrt_rd ub hf
    exact ⟨hw, chk_len hc⟩
  · rw [rd_bad h]
    exact ⟨⟨by decide, by decide, by decide, wf_zeroS⟩, by simp [zeroF, zeroS]⟩
/-- An acknowledgement. -/
def ackF (frm stp : Int) : FrameV := ⟨2, frm, stp, zeroS⟩
theorem ack_wf {frm stp : Int} (h1 : I64 frm) (h2 : I64 stp) : wfF (ackF frm stp) := ⟨show I64 2 by decide, h1, h2, wf_zeroS⟩
theorem ack_chk {frm stp : Int} : chkF (ackF frm stp) = 0 ↔ (0 ≤ frm ∧ frm < 64 ∧ 0 ≤ stp ∧ stp ≤ 1073741824) := by
  rw [chkF_ok]
  unfold frmP ackF
  simp only
  constructor
  · rintro ⟨h1, h2, h3, h4, _⟩; exact ⟨h1, h2, h3, h4⟩
  · rintro ⟨h1, h2, h3, h4⟩; exact ⟨h1, h2, h3, h4, by simp [sameS_iff]⟩
theorem ack_text (frm stp : Int) : textL (ackF frm stp) = 1 :: 2 :: encs [frm, stp] := by
  unfold textL ackF
  simp only
  rw [if_neg (by decide), List.append_nil, encs_cons, encs_one]
/-- Bent. -/
theorem no_frm {f : FrameV} : chkF { f with frm := 64 } = 1 := chkF_no (fun h => by have := h.2.1; simp at this)
theorem no_knd {f : FrameV} (h : chkF f = 0) : chkF { f with knd := 3 - f.knd } = 1 := chkF_no (fun h2 => by
  obtain ⟨_, _, _, _, h5⟩ := chkF_ok.1 h
  obtain ⟨_, _, _, _, h6⟩ := h2
  simp only at h6
  have key : mayB f.S = true → sameS f.S zeroS = true → False := fun a b => by
    rw [sameS_iff.1 b] at a
    have := (mayB_iff.1 a).1
    simp [zeroS] at this
  rcases h5 with ⟨e, hm⟩ | ⟨e, hz⟩
  · rcases h6 with ⟨e2, hm2⟩ | ⟨e2, hz2⟩
    · omega
    · exact key hm hz2
  · rcases h6 with ⟨e2, hm2⟩ | ⟨e2, hz2⟩
    · exact key hm2 hz
    · omega)
theorem may_kinds {f : FrameV} (h : chkF f = 0) : mayB f.S = (f.knd == 1) := by
  obtain ⟨_, _, _, _, h5⟩ := chkF_ok.1 h
  rcases h5 with ⟨e, hm⟩ | ⟨e, hz⟩
  · rw [hm, e]; rfl
  · rw [e, sameS_iff.1 hz]
    rfl
theorem no_V {f : FrameV} (h : chkF f = 0) : chkF { f with S := { f.S with V := f.S.V ++ [1] } } = 1 := chkF_no (fun h2 => by
  obtain ⟨_, _, _, _, h5⟩ := chkF_ok.1 h
  obtain ⟨_, _, _, _, h6⟩ := h2
  simp only at h6
  rcases h6 with ⟨e2, hm2⟩ | ⟨e2, hz2⟩
  · rcases h5 with ⟨e, hm⟩ | ⟨e, hz⟩
    · obtain ⟨_, _, a⟩ := mayB_iff.1 hm
      obtain ⟨_, _, b⟩ := mayB_iff.1 hm2
      simp only [List.length_append, List.length_singleton] at b
      rcases a with a | a | a | a <;> rcases b with b | b | b | b
      all_goals first
        | (have := a.1; have := b.1; omega)
        | (have := a.2.2.1; have := b.2.2.1; omega)
        | (have := b.2.2.2.2.2.2.1; simp at this)
        | (have := b.2.2.1; simp at this)
    · omega
  · have := sameS_iff.1 hz2
    have := congrArg SentV.V this
    simp [zeroS] at this)
theorem no_L {f : FrameV} (h : chkF f = 0) : chkF { f with S := { f.S with L := f.S.L ++ [f.S.dim] } } = 1 := chkF_no (fun h2 => by
  obtain ⟨_, _, _, _, h6⟩ := h2
  simp only at h6
  rcases h6 with ⟨e2, hm2⟩ | ⟨e2, hz2⟩
  · obtain ⟨_, _, b⟩ := mayB_iff.1 hm2
    simp only at b
    rcases b with b | b | b | b
    · have := b.2.1; simp at this
    · have := (chk_ok.1 b.2.1).2.2.2 f.S.dim (by simp)
      omega
    · have := b.2.2.2.2.2.1; simp at this
    · have := b.2.1; simp at this
  · have := sameS_iff.1 hz2
    have := congrArg SentV.L this
    simp [zeroS] at this)
theorem no_scale {f : FrameV} : chkF { f with S := { f.S with scale := -1 } } = 1 := chkF_no (fun h2 => by
  obtain ⟨_, _, _, _, h6⟩ := h2
  simp only at h6
  rcases h6 with ⟨e2, hm2⟩ | ⟨e2, hz2⟩
  · obtain ⟨_, _, b⟩ := mayB_iff.1 hm2
    simp only at b
    rcases b with b | b | b | b
    · have := b.2.2.2.2.2.1; omega
    · have := b.2.2.2.2.2.1; omega
    · have := b.2.2.2.2.2.2.2.1; omega
    · have := b.2.2.2.2.2.1; omega
  · have := sameS_iff.1 hz2
    have := congrArg SentV.scale this
    simp [zeroS] at this)
end Go.Proofs.Ytbkoapdeglmopaa
