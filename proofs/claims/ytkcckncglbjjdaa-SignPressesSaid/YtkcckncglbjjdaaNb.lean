
/- Nb: texts joined: Vec Vec2 Vec3 App Rws Vec4 Dig Norm RefA RefB VecR VecS VecT VecU VecM VecN QuM TkN Byte Same Eq IxA TkA. -/
import Derived.Test.YtkcckncglbjjdaaNa
import Derived.Outline
import Derived.Maps.AppendAt
import Derived.OwnWalk
import Derived.WalkSpells
import Derived.RegionTactic
import Derived.ChangeAlike
/- vec's functions, each by its contract. -/
namespace Go.Proofs.Ytkcckncglbjjdaa
open Go.RowKit
set_option maxHeartbeats 400000
set_option maxRecDepth 100000
set_option linter.unusedVariables false
/-- What stands in the way of two vectors. -/
def twoE (n m : Nat) : Int := if 4096 < n ∨ 4096 < m then 3 else if n = m then 0 else 4
def oneE (n : Nat) : Int := if 4096 < n then 3 else 0
theorem Check_any (A : Option Addr) (n c : Nat) (hn : n ≤ 9223372036854775807) (w : World) :
    Calls Try.prog 46 #[.slice A n c] w fun e w' => e = .returned (.int .i64 (oneE n)) ∧ w = w' := by
  by_cases h : 4096 < n
  · have e1 : oneE n = 3 := if_pos h
    rw [e1]
    clear e1
    go_enter Try.func46, Try.ntmps46
    go_wp2
    go_ret
    exact ⟨rfl, rfl⟩
  · have e1 : oneE n = 0 := if_neg h
    rw [e1]
    clear e1
    go_enter Try.func46, Try.ntmps46
    go_wp2
    go_ret
    exact ⟨rfl, rfl⟩
def numV2 (f : Int → Int → Int) (xs ys : List Int) (k : Nat) : Int × Int := (ckV (f (xs.getD k 0) (ys.getD k 0)), ckE (f (xs.getD k 0) (ys.getD k 0)))
/-- Two vectors, number by number: the error, and the vector. -/
def opE (f : Int → Int → Int) (xs ys : List Int) : Int := if twoE xs.length ys.length = 0 then seqE (numV2 f xs ys) xs.length else twoE xs.length ys.length
def opV (f : Int → Int → Int) (xs ys : List Int) : List Int := if twoE xs.length ys.length = 0 then seqV (numV2 f xs ys) xs.length else []
theorem twoE_ok {n m : Nat} (h : twoE n m = 0) : n ≤ 4096 ∧ m = n := by
  unfold twoE at h
  split at h
  · cases h
  · split at h
    · omega
    · cases h
theorem OwnInts.onto {xs : List Int} {er : Int} {w wl w' : World} {e : Ending} (h : OwnInts xs er wl e w') (hb : Below w.heap.size w wl) : OwnInts xs er w e w' := by
  obtain ⟨A, c, he, ho, hk⟩ := h
  exact ⟨A, c, he, own_base ho hb.size, hb.trans (hk.mono hb.size)⟩
/-- A product with so many bits behind the point: the number, and the error. -/
def mulV (a b m : Int) : Int := if m < 0 ∨ 30 < m then 0 else ckV (a * b / 2 ^ m.toNat)
def mulE (a b m : Int) : Int := if m < 0 ∨ 30 < m then 1 else ckE (a * b / 2 ^ m.toNat)
def behE (m : Int) : Int := if m < 0 ∨ 30 < m then 1 else 0
def bndE (n : Nat) (q : Int) : Int := if 4096 < n then 3 else q
def unE (q : Int) (num : Nat → Int × Int) (n : Nat) : Int := if bndE n q = 0 then seqE num n else bndE n q
def unV (q : Int) (num : Nat → Int × Int) (n : Nat) : List Int := if bndE n q = 0 then seqV num n else []
theorem un_long {n : Nat} (h : 4096 < n) (q : Int) (num : Nat → Int × Int) : unE q num n = 3 ∧ unV q num n = [] := by
  have e : bndE n q = 3 := if_pos h
  unfold unE unV
  rw [e]
  exact ⟨rfl, rfl⟩
theorem un_bad {n : Nat} (h : ¬ 4096 < n) {q : Int} (hq : q ≠ 0) (num : Nat → Int × Int) : unE q num n = q ∧ unV q num n = [] := by
  have e : bndE n q = q := if_neg h
  unfold unE unV
  rw [e, if_neg hq, if_neg hq]
  exact ⟨rfl, rfl⟩
theorem un_ok {n : Nat} (h : ¬ 4096 < n) (num : Nat → Int × Int) : unE 0 num n = seqE num n ∧ unV 0 num n = seqV num n := by
  have e : bndE n 0 = 0 := if_neg h
  unfold unE unV
  rw [e]
  exact ⟨rfl, rfl⟩
def numS (xs : List Int) (b m : Int) (k : Nat) : Int × Int := (mulV (xs.getD k 0) b m, mulE (xs.getD k 0) b m)
def numC (xs : List Int) (m : Int) (k : Nat) : Int × Int := (clipV (xs.getD k 0) m, clipE m)
def numA (xs : List Int) (k : Nat) : Int × Int := (ckV (absI (xs.getD k 0)), ckE (absI (xs.getD k 0)))
def numD (xs ys : List Int) (m : Int) (k : Nat) : Int × Int := (mulV (xs.getD k 0) (ys.getD k 0) m, mulE (xs.getD k 0) (ys.getD k 0) m)
theorem three_cells (w : World) (u v x : Value) (t s r : TypeId) :
    (((w.alloc (.cells #[u] t)).alloc (.cells #[v] s)).alloc (.cells #[x] r)).cell? ⟨w.heap.size, 0, none⟩ = some u ∧ (((w.alloc (.cells #[u] t)).alloc (.cells #[v] s)).alloc (.cells #[x] r)).cell? ⟨w.heap.size + 1, 0, none⟩ = some v ∧
      (((w.alloc (.cells #[u] t)).alloc (.cells #[v] s)).alloc (.cells #[x] r)).cell? ⟨w.heap.size + 1 + 1, 0, none⟩ = some x ∧ Below w.heap.size w (((w.alloc (.cells #[u] t)).alloc (.cells #[v] s)).alloc (.cells #[x] r)) := by
  refine ⟨?_, ?_, ?_, by go_grown⟩ <;> simp [go_sem]
end Go.Proofs.Ytkcckncglbjjdaa
/- vec's functions, each by its contract: the others. -/
namespace Go.Proofs.Ytkcckncglbjjdaa
open Go.RowKit
set_option maxHeartbeats 400000
set_option maxRecDepth 100000
set_option linter.unusedVariables false
/-- y and so many times x: the error, and the vector. -/
def moreE (ys xs : List Int) (b m : Int) : Int := if unE (behE m) (numS xs b m) xs.length = 0 then opE (· + ·) ys (unV (behE m) (numS xs b m) xs.length) else unE (behE m) (numS xs b m) xs.length
def moreV (ys xs : List Int) (b m : Int) : List Int := if unE (behE m) (numS xs b m) xs.length = 0 then opV (· + ·) ys (unV (behE m) (numS xs b m) xs.length) else []
theorem seqV_i64 {num : Nat → Int × Int} {n : Nat} (h : ∀ k, k < n → I64 (num k).1) : I64s (seqV num n) := by
  unfold seqV
  split
  · intro x hx
    obtain ⟨k, hk, rfl⟩ := List.mem_map.1 hx
    exact h k (by simpa using hk)
  · intro x hx; simp at hx
theorem unV_i64 {q : Int} {num : Nat → Int × Int} {n : Nat} (h : ∀ k, k < n → I64 (num k).1) : I64s (unV q num n) := by
  unfold unV
  split
  · exact seqV_i64 h
  · intro x hx; simp at hx
theorem opV_i64 (f : Int → Int → Int) (xs ys : List Int) : I64s (opV f xs ys) := by
  unfold opV
  split
  · exact seqV_i64 fun k _ => ckV_i64 _
  · intro x hx; simp at hx
theorem mulV_i64 (a b m : Int) : I64 (mulV a b m) := by
  unfold mulV
  split
  · decide
  · exact ckV_i64 _
theorem seqV_len (num : Nat → Int × Int) (n : Nat) : (seqV num n).length ≤ n := by
  unfold seqV; split <;> simp
theorem unV_len (q : Int) (num : Nat → Int × Int) (n : Nat) : (unV q num n).length ≤ 4096 := by
  by_cases h : bndE n q = 0
  · rw [show unV q num n = seqV num n from if_pos h]
    have := seqV_len num n
    have : ¬ 4096 < n := fun hn => by rw [show bndE n q = 3 from if_pos hn] at h; cases h
    omega
  · rw [show unV q num n = [] from if_neg h]; simp
theorem opV_len (f : Int → Int → Int) (xs ys : List Int) : (opV f xs ys).length ≤ 4096 := by
  unfold opV
  split
  · rename_i h
    have := twoE_ok h
    have := seqV_len (numV2 f xs ys) xs.length
    omega
  · simp
/-- A product of two vectors: the number, and the error. -/
def dotE (xs ys : List Int) (m : Int) : Int := if twoE xs.length ys.length = 0 then (if behE m = 0 then (tot (numD xs ys m) xs.length).2 else behE m) else twoE xs.length ys.length
def dotV (xs ys : List Int) (m : Int) : Int := if twoE xs.length ys.length = 0 then (if behE m = 0 then (tot (numD xs ys m) xs.length).1 else 0) else 0
def sizeE (xs : List Int) : Int := if 4096 < xs.length then 3 else (tot (numA xs) xs.length).2
def sizeV (xs : List Int) : Int := if 4096 < xs.length then 0 else (tot (numA xs) xs.length).1
theorem size_H {A : Option Addr} {c : Nat} (xs : List Int) (ix : I64s xs) (w : World) (ra : Rd (Value.int .i64) w w.heap.size A xs)
    (k : Nat) (hk : k < xs.length) (W : World) (hW : Below (w.alloc (.cells #[.slice A xs.length c] 22)).heap.size (w.alloc (.cells #[.slice A xs.length c] 22)) W) :
    Calls Try.prog 48 (#[.int .i64 k] ++ #[.pointer (some ⟨w.heap.size, 0, none⟩)]) W fun e w' => e = .returned (.tuple #[.int .i64 (numA xs k).1, .int .i64 (numA xs k).2]) ∧ Below W.heap.size W w' := by
  obtain ⟨_, _, x, _, _, hx, _⟩ := ra.at_ hk
  obtain ⟨ca, hb⟩ := one_cell w (.slice A xs.length c) 22
  have h := size_cl xs (cell_later hW ca) (ra.below (hb.trans (hW.mono hb.size))) hx (ix.at_ hx)
  unfold numA
  rw [getD_of hx]
  exact h
theorem Size_any {A : Option Addr} {c : Nat} (xs : List Int) (hx : xs.length ≤ 9223372036854775807) (ix : I64s xs) (w : World) (ra : Rd (Value.int .i64) w w.heap.size A xs) :
    Calls Try.prog 28 #[.slice A xs.length c] w fun e w' => e = .returned (.tuple #[.int .i64 (sizeV xs), .int .i64 (sizeE xs)]) ∧ Below w.heap.size w w' := by
  have CM := hid (Check_any A xs.length c hx)
  have HB := hid (one_cell w (.slice A xs.length c) 22).2
  by_cases hn : 4096 < xs.length
  · rw [show sizeE xs = 3 from if_pos hn, show sizeV xs = 0 from if_pos hn]
    rw [show oneE xs.length = 3 from if_pos hn] at CM
    clear ra ix
    go_enter Try.func28, Try.ntmps28
    go_wp2_with fail
    refine (CM.out _).mono ?_
    rintro _ _ ⟨rfl, rfl⟩
    go_wp2_with fail
    go_ret2
    exact ⟨rfl, HB.out⟩
  · rw [show sizeE xs = (tot (numA xs) xs.length).2 from if_neg hn, show sizeV xs = (tot (numA xs) xs.length).1 from if_neg hn]
    rw [show oneE xs.length = 0 from if_neg hn] at CM
    have hL := hid (total_any _ _ xs.length (by omega) _ (numA xs) size_ok (fun k _ => ckV_i64 _) (size_H (c := c) xs ix w ra))
    obtain ⟨s, hs⟩ : ∃ s, tot (numA xs) xs.length = s := ⟨_, rfl⟩
    rw [hs] at hL ⊢
    clear ra ix hs
    go_enter Try.func28, Try.ntmps28
    go_wp2_with fail
    refine (CM.out _).mono ?_
    rintro _ _ ⟨rfl, rfl⟩
    go_wp2_with fail
    refine hL.out.mono ?_
    rintro _ w2 ⟨rfl, hb2⟩
    go_wp2_with fail
    go_ret2
    exact ⟨rfl, HB.out.trans (hb2.mono HB.out.size)⟩
end Go.Proofs.Ytkcckncglbjjdaa
/- vec's functions, each by its contract: Same, Most, Zero, Sum, and what they take of package slices. -/
namespace Go.Proofs.Ytkcckncglbjjdaa
open Go.RowKit
set_option maxHeartbeats 400000
set_option maxRecDepth 100000
set_option linter.unusedVariables false
def zeroE (n : Int) : Int := if n < 0 ∨ 4096 < n then 1 else 0
def zeroV (n : Int) : List Int := if n < 0 ∨ 4096 < n then [] else List.replicate n.toNat 0
/-- The greatest of numbers that are not below 0 (0 of none). -/
def mx (xs : List Int) : Int := xs.foldl max 0
theorem mx_step {xs : List Int} {k : Nat} {x : Int} (hx : xs[k]? = some x) : mx (xs.take (k + 1)) = max (mx (xs.take k)) x := by
  unfold mx
  rw [List.take_add_one, hx]
  simp [List.foldl_append]
theorem mx_ge : ∀ (xs : List Int) (a : Int), a ≤ xs.foldl max a
  | [], a => Int.le_refl _
  | x :: xs, a => by
    have := mx_ge xs (max a x)
    simp only [List.foldl_cons]
    omega
theorem mx_i64 {xs : List Int} (h : I64s xs) : ∀ a, I64 a → I64 (xs.foldl max a) := by
  induction xs with
  | nil => exact fun a ha => ha
  | cons x xs ih =>
    intro a ha
    refine ih (fun y hy => h y (by simp [hy])) (max a x) ?_
    have := h x (by simp)
    unfold I64 at *
    omega
def mostE (xs : List Int) : Int := unE 0 (numA xs) xs.length
def mostV (xs : List Int) : Int := mx (unV 0 (numA xs) xs.length)
theorem numA_pos (xs : List Int) (k : Nat) : 0 ≤ (numA xs k).1 := by
  unfold numA ckV absI
  simp only
  split <;> split <;> omega
theorem abs_pos (xs : List Int) : ∀ x ∈ unV 0 (numA xs) xs.length, 0 ≤ x := by
  intro x hx
  unfold unV seqV at hx
  split at hx
  · split at hx
    · obtain ⟨k, _, rfl⟩ := List.mem_map.1 hx
      exact numA_pos xs k
    · simp at hx
  · simp at hx
theorem mx_nil : mx [] = 0 := rfl
end Go.Proofs.Ytkcckncglbjjdaa
/- 'append' onto a list of the call's own, whatever list is appended: the walk goes on in one way. -/
namespace Go.Proofs.Ytkcckncglbjjdaa
open Go.RowKit
set_option maxRecDepth 100000
set_option linter.unusedVariables false
section
variable {P : Program} {α : Type}
theorem app_nothing (w : World) (base : Nat) (t ty e : TypeId) (i : TypeInfo) (ht : P.underlying t = some (.slice e)) (hi : P.info? e = some i)
    (v : Value) (n : Nat) (vs : List Value) (hown : w.ownsRow base e 1 v n vs) (c : Nat) : (Builtin.append_ #[t, t] ty #[v, .slice none 0 c]).run P w = .ok v w := by
  rcases hown.2 with ⟨rfl, rfl⟩ | ⟨g, cap, cur, rfl, _, _, hnc, _⟩
  · simp [Builtin.append_, run_underlying ht, sizeOf, typeInfo, hi, Builtin.lenOf, Builtin.firstCells]
  · simp [Builtin.append_, run_underlying ht, sizeOf, typeInfo, hi, Builtin.lenOf, Builtin.firstCells, hnc, storeCells]
/-- The value of a list of the call's own. -/
theorem own_shape {w : World} {base n : Nat} {e : TypeId} {v : Value} {vs : List Value} (h : w.ownsRow base e 1 v n vs) : ∃ A c, v = .slice A n c := by
  rcases h.2 with ⟨rfl, rfl⟩ | ⟨g, cap, cur, rfl, _⟩
  · exact ⟨_, _, rfl⟩
  · exact ⟨_, _, rfl⟩
theorem run_app (enc : α → Value) (h1 : ∀ x, (enc x).oneCell' = true) (w : World) (base : Nat) (t ty e : TypeId) (z : Value) (bytes : Nat) (ht : P.underlying t = some (.slice e))
    (hinfo : (P.info? e).map (fun i => (i.zero, i.size, i.bytes)) = some (some z, 1, bytes)) (hzs : z.cells.size = 1)
    (ys : List α) (A0 : Option Addr) (c0 : Nat) (hown : w.ownsRow base e 1 (.slice A0 ys.length c0) ys.length (ys.map enc))
    (xs : List α) (A : Option Addr) (c B : Nat) (hr : Rd enc w B A xs) (h63 : ys.length + xs.length ≤ maxLen) (hbytes : (ys.length + xs.length) * bytes ≤ 140737488355328) (hbase : base ≤ w.heap.size) :
    ∃ A' c' w', (Builtin.append_ #[t, t] ty #[.slice A0 ys.length c0, .slice A xs.length c]).run P w = .ok (.slice A' (ys ++ xs).length c') w' ∧ w'.ownsRow base e 1 (.slice A' (ys ++ xs).length c') (ys ++ xs).length ((ys ++ xs).map enc) ∧
      Below base w w' ∧ w.grownBy w' (Value.slice A0 ys.length c0).ownBlock ∧ ((Value.slice A' (ys ++ xs).length c').ownBlock = (Value.slice A0 ys.length c0).ownBlock ∨ (Value.slice A' (ys ++ xs).length c').ownBlock = some w.heap.size) := by
  obtain ⟨i, hi, hzz⟩ := Option.map_eq_some_iff.1 hinfo
  simp only [Prod.mk.injEq] at hzz
  obtain ⟨hz, hs, hb⟩ := hzz
  have hlen : (ys ++ xs).length = ys.length + xs.length := List.length_append
  rcases A with _ | ad
  · have hx : xs = [] := by
      cases xs with
      | nil => rfl
      | cons x xs =>
        obtain ⟨_, _, he, _⟩ := hr 0 x rfl
        cases he
    subst hx
    rw [List.append_nil]
    exact ⟨A0, c0, w, app_nothing w base t ty e i ht hi _ _ _ hown c, hown, Below.refl _ _, World.grownBy.refl w _, .inl rfl⟩
  · have hcells : ∀ j u, (xs.map enc)[j]? = some u → w.cell? (ad.add j) = some u := by
      intro j u hu
      rw [List.getElem?_map, Option.map_eq_some_iff] at hu
      obtain ⟨x, hx, rfl⟩ := hu
      obtain ⟨b, off, he, _, hc⟩ := hr j x hx
      injection he with he
      subst he
      rw [Addr.add_lit]
      exact hc
    obtain ⟨v', w', hrun, h2, h3, _, h5⟩ := run_append_own_at (P := P) w base t ty e i z 1 bytes ht hi hz hs hb hzs (by decide) _ ys.length (ys.map enc) hown ad xs.length c (xs.map enc) (by simp) hcells (by
      intro u hu
      obtain ⟨x, _, rfl⟩ := List.mem_map.1 hu
      exact h1 x) h63 hbytes hbase
    obtain ⟨A', c', rfl⟩ := own_shape h2
    rw [← List.map_append] at h2
    rw [← hlen] at h2 hrun h5
    refine ⟨A', c', w', hrun, h2, (Below.refl base w).grown h3 hbase fun k hk => (hown.lt k hk).1, h3, h5⟩
theorem wpList_app (enc : α → Value) (h1 : ∀ x, (enc x).oneCell' = true) (w : World) {ops : Array Oper} {rest : List Oper} {o : Oper} {a : Act} {Q : Exit → Act → World → Prop} (hgd : o.guard = none) (s x : Operand) (t : TypeId)
    (ho : o.op = .call { callee := .builtin .append, args := #[s, x], argTypes := #[t, t] })
    (base : Nat) (e : TypeId) (z : Value) (bytes : Nat) (ht : P.underlying t = some (.slice e)) (hinfo : (P.info? e).map (fun i => (i.zero, i.size, i.bytes)) = some (some z, 1, bytes)) (hzs : z.cells.size = 1)
    (ys : List α) (A0 : Option Addr) (c0 : Nat) (hs : a.eval s = .slice A0 ys.length c0) (hown : w.ownsRow base e 1 (.slice A0 ys.length c0) ys.length (ys.map enc))
    (xs : List α) (A : Option Addr) (c B : Nat) (hx : a.eval x = .slice A xs.length c) (hr : Rd enc w B A xs) (h63 : ys.length + xs.length ≤ maxLen) (hbytes : (ys.length + xs.length) * bytes ≤ 140737488355328) (hbase : base ≤ w.heap.size)
    (h : ∀ (S : List α) (A' : Option Addr) (c' : Nat) (w' : World), S = ys ++ xs → w'.ownsRow base e 1 (.slice A' S.length c') S.length (S.map enc) → Below base w w' → w.grownBy w' (Value.slice A0 ys.length c0).ownBlock → wpList P ops Q rest (a.put o.dst (.slice A' S.length c')) w') :
    wpList P ops Q (o :: rest) a w := by
  refine wpList_plain hgd fun _ hK => ?_
  obtain ⟨A', c', w', hrun, h2, h3, h4, _⟩ := run_app (P := P) enc h1 w base t o.type e z bytes ht hinfo hzs ys A0 c0 hown xs A c B hr h63 hbytes hbase
  unfold Oper.wp execOp
  simp only [ho, resolve, invoke, builtin, Sem.run_bind, Sem.run_pure, Result.andThen_ok, List.map_toArray, List.map_cons, List.map_nil, hs, hx, hrun]
  exact hK _ _ (h _ A' c' w' rfl h2 h3 h4)
/-- .. where the operation hangs on a test that holds. -/
theorem wpList_app_if (enc : α → Value) (h1 : ∀ x, (enc x).oneCell' = true) (w : World) {ops : Array Oper} {rest : List Oper} {o : Oper} {a : Act} {Q : Exit → Act → World → Prop} (hgd : Region.wanted o (yielded ops a.tmps) = true) (s x : Operand) (t : TypeId)
    (ho : o.op = .call { callee := .builtin .append, args := #[s, x], argTypes := #[t, t] })
    (base : Nat) (e : TypeId) (z : Value) (bytes : Nat) (ht : P.underlying t = some (.slice e)) (hinfo : (P.info? e).map (fun i => (i.zero, i.size, i.bytes)) = some (some z, 1, bytes)) (hzs : z.cells.size = 1)
    (ys : List α) (A0 : Option Addr) (c0 : Nat) (hs : a.eval s = .slice A0 ys.length c0) (hown : w.ownsRow base e 1 (.slice A0 ys.length c0) ys.length (ys.map enc))
    (xs : List α) (A : Option Addr) (c B : Nat) (hx : a.eval x = .slice A xs.length c) (hr : Rd enc w B A xs) (h63 : ys.length + xs.length ≤ maxLen) (hbytes : (ys.length + xs.length) * bytes ≤ 140737488355328) (hbase : base ≤ w.heap.size)
    (h : ∀ (S : List α) (A' : Option Addr) (c' : Nat) (w' : World), S = ys ++ xs → w'.ownsRow base e 1 (.slice A' S.length c') S.length (S.map enc) → Below base w w' → w.grownBy w' (Value.slice A0 ys.length c0).ownBlock → wpList P ops Q rest (a.put o.dst (.slice A' S.length c')) w') :
    wpList P ops Q (o :: rest) a w := by
  refine wpList_step fun K hK => ?_
  rw [if_pos hgd]
  obtain ⟨A', c', w', hrun, h2, h3, h4, _⟩ := run_app (P := P) enc h1 w base t o.type e z bytes ht hinfo hzs ys A0 c0 hown xs A c B hr h63 hbytes hbase
  unfold Oper.wp execOp
  simp only [ho, resolve, invoke, builtin, Sem.run_bind, Sem.run_pure, Result.andThen_ok, List.map_toArray, List.map_cons, List.map_nil, hs, hx, hrun]
  exact hK _ _ (h _ A' c' w' rfl h2 h3 h4)
/-- One thing appended: it lies in a cell of its own. -/
theorem rd_one {enc : α → Value} {w : World} {b o : Nat} {x : α} (hc : w.cell? ⟨b, o, none⟩ = some (enc x)) : Rd enc w w.heap.size (some ⟨b, o, none⟩) [x] := fun k y hy => by
  cases k with
  | zero =>
    simp only [List.getElem?_cons_zero, Option.some.injEq] at hy
    subst hy
    exact ⟨b, o, rfl, lt_of_cell hc, hc⟩
  | succ k => simp at hy
end
end Go.Proofs.Ytkcckncglbjjdaa
/- Lists of lists in memory, by their slices; part of them and turned round. -/
namespace Go.Proofs.Ytkcckncglbjjdaa
open Go.RowKit
set_option maxRecDepth 100000
set_option linter.unusedVariables false
/-- A slice of slices at A reads as these lists. -/
def RdRows (w : World) (B : Nat) (A : Option Addr) (rows : List (List Int)) : Prop :=
  ∀ k xs, rows[k]? = some xs → ∃ b off A' c', A = some ⟨b, off, none⟩ ∧ b < B ∧ w.cell? ⟨b, off + k, none⟩ = some (.slice A' xs.length c') ∧ Rd (Value.int .i64) w B A' xs
theorem RdRows.below {w w' : World} {B : Nat} {A : Option Addr} {rows : List (List Int)} (h : RdRows w B A rows) (hb : Below B w w') : RdRows w' B A rows := fun k xs hx => by
  obtain ⟨b, off, A', c', e, hl, hc, hr⟩ := h k xs hx
  exact ⟨b, off, A', c', e, hl, (hb.cell (p := ⟨b, off + k, none⟩) hl).trans hc, hr.below hb⟩
theorem RdRows.more {w : World} {B B' : Nat} {A : Option Addr} {rows : List (List Int)} (h : RdRows w B A rows) (hB : B ≤ B') : RdRows w B' A rows := fun k xs hx => by
  obtain ⟨b, off, A', c', e, hl, hc, hr⟩ := h k xs hx
  exact ⟨b, off, A', c', e, by omega, hc, hr.more hB⟩
theorem RdRows.on {w w' : World} {A : Option Addr} {rows : List (List Int)} (h : RdRows w w.heap.size A rows) (hb : Below w.heap.size w w') : RdRows w' w'.heap.size A rows := (h.below hb).more hb.size
/-- A slice's three parts. -/
abbrev Sl := Option Addr × Nat × Nat
def encS (p : Sl) : Value := .slice p.1 p.2.1 p.2.2
theorem encS_one (p : Sl) : (encS p).oneCell' = true := rfl
/-- The slices by which lists lie in memory. -/
def Fits (w : World) (B : Nat) (ps : List Sl) (rows : List (List Int)) : Prop := ps.length = rows.length ∧ ∀ (k : Nat) (p : Sl) (xs : List Int), ps[k]? = some p → rows[k]? = some xs → p.2.1 = xs.length ∧ Rd (Value.int .i64) w B p.1 xs
theorem rows_split {w : World} {B : Nat} {A : Option Addr} : ∀ {rows : List (List Int)}, RdRows w B A rows → ∃ ps, Rd encS w B A ps ∧ Fits w B ps rows := by
  intro rows h
  have key : ∀ k, k ≤ rows.length → ∃ ps : List Sl, Rd encS w B A ps ∧ Fits w B ps (rows.take k) := by
    intro k
    induction k with
    | zero => exact fun _ => ⟨[], Rd.none_, by simp, fun k p xs hp => by simp at hp⟩
    | succ k ih =>
      intro hk
      obtain ⟨ps, h1, h2, h3⟩ := ih (by omega)
      have hu : rows[k]? = some rows[k] := List.getElem?_eq_getElem (by omega)
      obtain ⟨b, off, A', c', e, hl, hc, hr⟩ := h k _ hu
      have hlen : ps.length = k := by rw [h2, List.length_take]; omega
      refine ⟨ps ++ [(A', rows[k].length, c')], ?_, ?_, ?_⟩
      · intro j p hp
        by_cases hj : j < ps.length
        · rw [List.getElem?_append_left hj] at hp
          exact h1 j p hp
        · have hj2 : j = k := by
            have := (List.getElem?_eq_some_iff.1 hp).1
            simp at this; omega
          subst hj2
          rw [List.getElem?_append_right (by omega), hlen] at hp
          simp at hp
          subst hp
          exact ⟨b, off, e, hl, hc⟩
      · rw [List.length_append, hlen, List.length_take]; simp; omega
      · intro j p xs hp hx
        by_cases hj : j < ps.length
        · rw [List.getElem?_append_left hj] at hp
          refine h3 j p xs hp ?_
          rw [List.getElem?_take_of_lt (by omega)] at hx ⊢
          exact hx
        · have hj2 : j = k := by
            have := (List.getElem?_eq_some_iff.1 hp).1
            simp at this; omega
          subst hj2
          rw [List.getElem?_append_right (by omega), hlen] at hp
          rw [List.getElem?_take_of_lt (by omega), hu] at hx
          simp at hp hx
          subst hp
          subst hx
          exact ⟨rfl, hr⟩
  obtain ⟨ps, h1, h2⟩ := key rows.length (Nat.le_refl _)
  rw [List.take_of_length_le (Nat.le_refl _)] at h2
  exact ⟨ps, h1, h2⟩
theorem rows_join {w : World} {B : Nat} {A : Option Addr} {ps : List Sl} {rows : List (List Int)} (h : Rd encS w B A ps) (hf : Fits w B ps rows) : RdRows w B A rows := fun k xs hx => by
  have hk : k < ps.length := by rw [hf.1]; exact (List.getElem?_eq_some_iff.1 hx).1
  obtain ⟨b, off, e, hl, hc⟩ := h k ps[k] (List.getElem?_eq_getElem hk)
  obtain ⟨h1, h2⟩ := hf.2 k _ xs (List.getElem?_eq_getElem hk) hx
  refine ⟨b, off, ps[k].1, ps[k].2.2, e, hl, ?_, h2⟩
  rw [hc]
  unfold encS
  rw [h1]
theorem fits_on {w w' : World} {B : Nat} {ps : List Sl} {rows : List (List Int)} (h : Fits w B ps rows) (hb : Below B w w') : Fits w' B ps rows := ⟨h.1, fun k p xs hp hx => ⟨(h.2 k p xs hp hx).1, (h.2 k p xs hp hx).2.below hb⟩⟩
theorem fits_more {w : World} {B B' : Nat} {ps : List Sl} {rows : List (List Int)} (h : Fits w B ps rows) (hB : B ≤ B') : Fits w B' ps rows := ⟨h.1, fun k p xs hp hx => ⟨(h.2 k p xs hp hx).1, (h.2 k p xs hp hx).2.more hB⟩⟩
theorem fits_reverse {w : World} {B : Nat} {ps : List Sl} {rows : List (List Int)} (h : Fits w B ps rows) : Fits w B ps.reverse rows.reverse := by
  refine ⟨by simp [h.1], fun k p xs hp hx => ?_⟩
  have hk : k < ps.length := by have := (List.getElem?_eq_some_iff.1 hp).1; simpa using this
  rw [List.getElem?_reverse hk] at hp
  rw [List.getElem?_reverse (by rw [← h.1]; exact hk), ← h.1] at hx
  exact h.2 _ p xs hp hx
theorem rows_tail {w : World} {B b off : Nat} {v : List Int} {r : List (List Int)} (h : RdRows w B (some ⟨b, off, none⟩) (v :: r)) : RdRows w B (some ⟨b, off + 1, none⟩) r := fun k xs hx => by
  obtain ⟨b', off', A', c', e, hl, hc, hr⟩ := h (k + 1) xs (by rw [List.getElem?_cons_succ]; exact hx)
  have e2 := Option.some.inj e
  simp only [Addr.mk.injEq] at e2
  obtain ⟨rfl, rfl, _⟩ := e2
  exact ⟨b, off + 1, A', c', rfl, hl, by rw [show off + 1 + k = off + (k + 1) by omega]; exact hc, hr⟩
theorem rows_two {A B : Option Addr} {c d : Nat} (xs ys : List Int) (W : World) (ra : Rd (Value.int .i64) W W.heap.size A xs) (rb : Rd (Value.int .i64) W W.heap.size B ys) (t : TypeId) :
    RdRows (W.alloc (.cells #[.slice A xs.length c, .slice B ys.length d] t)) (W.alloc (.cells #[.slice A xs.length c, .slice B ys.length d] t)).heap.size (some ⟨W.heap.size, 0, none⟩) [xs, ys] := fun k zs hz => by
  have hb : Below W.heap.size W (W.alloc (.cells #[.slice A xs.length c, .slice B ys.length d] t)) := (Below.refl _ _).alloc (Nat.le_refl _) _
  have hn := heap_alloc_new W (.cells #[.slice A xs.length c, .slice B ys.length d] t)
  have hlt : W.heap.size < (W.alloc (.cells #[.slice A xs.length c, .slice B ys.length d] t)).heap.size := (Array.getElem?_eq_some_iff.1 hn).1
  match k, hz with
  | 0, hz =>
    obtain rfl : xs = zs := by simpa using hz
    exact ⟨_, 0, A, c, rfl, hlt, by rw [cell_of_row _ _ _ _ t (0, 0) hn]; rfl, ra.on hb⟩
  | 1, hz =>
    obtain rfl : ys = zs := by simpa using hz
    exact ⟨_, 0, B, d, rfl, hlt, by rw [cell_of_row _ _ _ _ t (0, 0) hn]; rfl, rb.on hb⟩
  | k + 2, hz => simp at hz
theorem rows_one {A : Option Addr} {c : Nat} (xs : List Int) (W : World) (ra : Rd (Value.int .i64) W W.heap.size A xs) (t : TypeId) :
    RdRows (W.alloc (.cells #[.slice A xs.length c] t)) (W.alloc (.cells #[.slice A xs.length c] t)).heap.size (some ⟨W.heap.size, 0, none⟩) [xs] := fun k zs hz => by
  have hb : Below W.heap.size W (W.alloc (.cells #[.slice A xs.length c] t)) := (Below.refl _ _).alloc (Nat.le_refl _) _
  have hn := heap_alloc_new W (.cells #[.slice A xs.length c] t)
  have hlt : W.heap.size < (W.alloc (.cells #[.slice A xs.length c] t)).heap.size := (Array.getElem?_eq_some_iff.1 hn).1
  match k, hz with
  | 0, hz =>
    obtain rfl : xs = zs := by simpa using hz
    exact ⟨_, 0, A, c, rfl, hlt, by rw [cell_of_row _ _ _ _ t (0, 0) hn]; rfl, ra.on hb⟩
  | k + 1, hz => simp at hz
end Go.Proofs.Ytkcckncglbjjdaa
/- vec's Sum, by its contract. -/
namespace Go.Proofs.Ytkcckncglbjjdaa
open Go.RowKit
set_option maxHeartbeats 400000
set_option maxRecDepth 100000
set_option linter.unusedVariables false
/-- A call's answer: a list of numbers, in memory of the call's own; nothing that was there has turned. -/
def OwnList (xs : List Int) (w : World) (e : Ending) (w' : World) : Prop :=
  ∃ A c, e = .returned (.slice A xs.length c) ∧ w'.ownsRow w.heap.size 2 1 (.slice A xs.length c) xs.length (xs.map (Value.int .i64)) ∧ Below w.heap.size w w'
def sumFrom : List Int → List (List Int) → List Int × Int
  | S, [] => (S, 0)
  | S, v :: r => if opE (· + ·) S v = 0 then sumFrom (opV (· + ·) S v) r else ([], opE (· + ·) S v)
/-- Vectors added, from the first one on: the vector, and the error. -/
def sumAll : List (List Int) → List Int × Int
  | [] => ([], 0)
  | v :: r => if 4096 < v.length then ([], 3) else sumFrom v r
def RowsOk (rows : List (List Int)) : Prop := ∀ xs ∈ rows, I64s xs ∧ xs.length ≤ 1099511627776
theorem sum_go {S v : List Int} {r : List (List Int)} {k : Nat} (hv : r[k]? = some v) (h : opE (· + ·) S v = 0) : sumFrom S (r.drop k) = sumFrom (opV (· + ·) S v) (r.drop (k + 1)) := by
  have hk : k < r.length := (List.getElem?_eq_some_iff.1 hv).1
  rw [List.drop_eq_getElem_cons hk, show r[k] = v from (List.getElem?_eq_some_iff.1 hv).2]
  exact if_pos h
theorem sum_off {S v : List Int} {r : List (List Int)} {k : Nat} (hv : r[k]? = some v) (h : opE (· + ·) S v ≠ 0) : sumFrom S (r.drop k) = ([], opE (· + ·) S v) := by
  have hk : k < r.length := (List.getElem?_eq_some_iff.1 hv).1
  rw [List.drop_eq_getElem_cons hk, show r[k] = v from (List.getElem?_eq_some_iff.1 hv).2]
  exact if_neg h
theorem opV_off {f : Int → Int → Int} {xs ys : List Int} (h : opE f xs ys ≠ 0) : opV f xs ys = [] := by
  unfold opE at h
  unfold opV
  split
  · rename_i e
    rw [if_pos e] at h
    unfold seqV
    rw [if_neg h]
  · rfl
end Go.Proofs.Ytkcckncglbjjdaa
/- Plain facts on a long division's digits (Knuth's way, with halves of 32 bits). No program in sight. -/
namespace Go.Proofs.Ytkcckncglbjjdaa
set_option maxRecDepth 100000
set_option linter.unusedVariables false

/-- q and r while one digit is sought: never below what it is. -/
structure Dig (u d1 d0 c q r : Int) : Prop where
  sum : q * d1 + r = u
  up : (u * 4294967296 + c) / (d1 * 4294967296 + d0) ≤ q
  q0 : 0 ≤ q
  q1 : q ≤ 4294967297
  r0 : 0 ≤ r

/-- What the digits are sought of. -/
structure Den (u d1 d0 c : Int) : Prop where
  d1l : 2147483648 ≤ d1
  d1h : d1 < 4294967296
  d0l : 0 ≤ d0
  d0h : d0 < 4294967296
  u0 : 0 ≤ u
  ud : u < d1 * 4294967296 + d0
  c0 : 0 ≤ c
  c1 : c < 4294967296

variable {u d1 d0 c q r : Int}

theorem dig_quo0 (n : Den u d1 d0 c) : 0 ≤ (u * 4294967296 + c) / (d1 * 4294967296 + d0) := by
  obtain ⟨h1, h2, h3, h4, h5, h6, h7, h8⟩ := n
  exact Int.ediv_nonneg (by omega) (by omega)
theorem dig_quo1 (n : Den u d1 d0 c) : (u * 4294967296 + c) / (d1 * 4294967296 + d0) < 4294967296 := by
  obtain ⟨h1, h2, h3, h4, h5, h6, h7, h8⟩ := n
  exact Int.ediv_lt_of_lt_mul (by omega) (by omega)
theorem dig_mul (h : Dig u d1 d0 c q r) : q * (d1 * 4294967296 + d0) = (u - r) * 4294967296 + q * d0 := by
  have := h.sum
  rw [Int.mul_add, ← Int.mul_assoc, show q * d1 = u - r by omega]
theorem dig_le (n : Den u d1 d0 c) (h : Dig u d1 d0 c q r) (hle : q * d0 ≤ 4294967296 * r + c) : (u * 4294967296 + c) / (d1 * 4294967296 + d0) = q := by
  refine Int.le_antisymm h.up (Int.le_ediv_of_mul_le (by have := n.d1l; have := n.d0l; omega) ?_)
  rw [dig_mul h]
  omega
theorem dig_gt (n : Den u d1 d0 c) (h : Dig u d1 d0 c q r) (hg : 4294967296 ≤ q ∨ 4294967296 * r + c < q * d0) : (u * 4294967296 + c) / (d1 * 4294967296 + d0) ≤ q - 1 := by
  rcases hg with hg | hg
  · have := dig_quo1 n; omega
  · have : (u * 4294967296 + c) / (d1 * 4294967296 + d0) < q := Int.ediv_lt_of_lt_mul (by have := n.d1l; have := n.d0l; omega) (by rw [dig_mul h]; omega)
    omega
theorem dig_step (n : Den u d1 d0 c) (h : Dig u d1 d0 c q r) (hg : 4294967296 ≤ q ∨ 4294967296 * r + c < q * d0) : Dig u d1 d0 c (q - 1) (r + d1) ∧ 1 ≤ q ∧ q - 1 ≤ 4294967296 := by
  have h1 := dig_gt n h hg
  have h2 := dig_quo0 n
  have h3 := h.q1
  have h4 := h.r0
  have h5 := n.d1l
  have h6 := h.sum
  exact ⟨⟨by rw [Int.sub_mul]; omega, h1, by omega, by omega, by omega⟩, by omega, by omega⟩
theorem dig_break (n : Den u d1 d0 c) (h : Dig u d1 d0 c q r) (hq : q ≤ 4294967296) (hr : 4294967296 ≤ r) : (u * 4294967296 + c) / (d1 * 4294967296 + d0) = q := by
  refine dig_le n h ?_
  have h1 : q * d0 ≤ 4294967296 * 4294967295 := Int.mul_le_mul hq (by have := n.d0h; omega) n.d0l (by decide)
  have := n.c0
  omega
theorem dig_start (n : Den u d1 d0 c) : Dig u d1 d0 c (u / d1) (u - u / d1 * d1) ∧ u - u / d1 * d1 < 4294967296 := by
  obtain ⟨h1, h2, h3, h4, h5, h6, h7, h8⟩ := n
  have e := Int.mul_ediv_add_emod u d1
  have e1 := Int.emod_nonneg u (show d1 ≠ 0 by omega)
  have e2 := Int.emod_lt_of_pos u (show 0 < d1 by omega)
  rw [Int.mul_comm] at e
  have q0 : 0 ≤ u / d1 := Int.ediv_nonneg h5 (by omega)
  refine ⟨⟨by omega, ?_, q0, ?_, by omega⟩, by omega⟩
  · have : (u * 4294967296 + c) / (d1 * 4294967296 + d0) < u / d1 + 1 := by
      refine Int.ediv_lt_of_lt_mul (by omega) ?_
      have k1 : (u / d1 + 1) * (d1 * 4294967296 + d0) = (u / d1 * d1 + d1) * 4294967296 + (u / d1 + 1) * d0 := by
        rw [Int.mul_add, ← Int.mul_assoc, Int.add_mul, Int.one_mul]
      have k2 : 0 ≤ (u / d1 + 1) * d0 := Int.mul_nonneg (by omega) h3
      omega
    omega
  · have : u / d1 < 4294967298 := Int.ediv_lt_of_lt_mul (by omega) (by omega)
    omega

/-- Both digits together. -/
theorem two_digits {D t1 t0 a1 a0 b : Int} (_hD : 0 < D) (h1 : t1 = a1 * D + b) (h0 : b * 4294967296 + t0 = a0 * D + r) (hr : 0 ≤ r) (hr' : r < D) :
    (t1 * 4294967296 + t0) / D = a1 * 4294967296 + a0 ∧ (t1 * 4294967296 + t0) % D = r := by
  have e : t1 * 4294967296 + t0 = r + (a1 * 4294967296 + a0) * D := by
    subst h1
    rw [Int.add_mul, Int.add_mul, Int.mul_right_comm]
    omega
  rw [e]
  constructor
  · rw [Int.add_mul_ediv_right _ _ (by omega), Int.ediv_eq_zero_of_lt hr hr']; omega
  · rw [Int.add_mul_emod_self_right, Int.emod_eq_of_lt hr hr']

/-- Shifting both by as many bits does not change the quotient. -/
theorem quo_shift {U y p : Int} (hp : 0 < p) (hy : 0 < y) : U * p / (y * p) = U / y ∧ U * p % (y * p) / p = U % y := by
  constructor
  · exact Int.mul_ediv_mul_of_pos_left _ _ hp
  · rw [Int.mul_comm U, Int.mul_comm y, Int.mul_emod_mul_of_pos _ _ hp]
    exact Int.mul_ediv_cancel_left _ (by omega)
end Go.Proofs.Ytkcckncglbjjdaa
/- Plain facts on a number shifted so far that its highest bit stands. No program in sight. -/
namespace Go.Proofs.Ytkcckncglbjjdaa
open Go.RowKit
set_option maxRecDepth 100000
set_option linter.unusedVariables false
theorem and_low (x : Int) (h : U64 x) : bits BinOp.and IntKind.u64 x 4294967295 = x % 4294967296 :=
  bits_mask .u64 64 (by decide) (fun n h0 h1 => by rw [IntKind.wrap_u64]; omega) 32 (by decide) x h.1 (by have := h.2; omega)
theorem two_pow_split (s : Nat) (hs : s ≤ 64) : (2 : Int) ^ s * 2 ^ (64 - s) = 18446744073709551616 := by
  rw [← Int.pow_add, show s + (64 - s) = 64 by omega]; rfl
theorem norm_u (h l y : Int) (s : Nat) (hs : s ≤ 63) (hl : U64 l) (h0 : 0 ≤ h) (h1 : h < y) (hD : y * 2 ^ s ≤ 18446744073709551615) :
    bits BinOp.or IntKind.u64 (IntKind.u64.wrap (h * 2 ^ s)) (l / 2 ^ (64 - s)) = h * 2 ^ s + l / 2 ^ (64 - s) := by
  have ek := two_pow_split s (by omega)
  have hp : (0 : Int) < 2 ^ s := Int.pow_pos (by decide)
  have hp' : (0 : Int) < 2 ^ (64 - s) := Int.pow_pos (by decide)
  have e1 : h * 2 ^ s < y * 2 ^ s := Int.mul_lt_mul_of_pos_right h1 hp
  have e0 : 0 ≤ h * 2 ^ s := Int.mul_nonneg h0 (by omega)
  have e2 : l / 2 ^ (64 - s) < 2 ^ s := Int.ediv_lt_of_lt_mul hp' (by rw [ek]; have := hl.2; omega)
  have e3 : 0 ≤ l / 2 ^ (64 - s) := Int.ediv_nonneg hl.1 (by omega)
  have e4 : (2 : Int) ^ s ≤ 2 ^ s * 2 ^ (64 - s) := by
    have := Int.mul_le_mul_of_nonneg_left (show (1 : Int) ≤ 2 ^ (64 - s) by omega) (Int.le_of_lt hp)
    omega
  rw [ek] at e4
  rw [show IntKind.u64.wrap (h * 2 ^ s) = h * 2 ^ s by rw [IntKind.wrap_u64]; omega]
  exact bits_join .u64 64 (by decide) (fun n h0 h1 => by rw [IntKind.wrap_u64]; omega) s _ _ e0 (Int.mul_emod_left _ _) (by omega) e3 e2 (by omega)
theorem norm_sum (h l : Int) (s : Nat) (hs : s ≤ 63) : (h * 18446744073709551616 + l) * 2 ^ s = (h * 2 ^ s + l / 2 ^ (64 - s)) * 18446744073709551616 + IntKind.u64.wrap (l * 2 ^ s) := by
  have ek := two_pow_split s (by omega)
  have hp : (0 : Int) < 2 ^ s := Int.pow_pos (by decide)
  have e : l * 2 ^ s / 18446744073709551616 = l / 2 ^ (64 - s) := by
    rw [← ek, Int.mul_comm l]; exact Int.mul_ediv_mul_of_pos _ _ hp
  rw [IntKind.wrap_u64, Int.add_mul, Int.add_mul, ← e, Int.mul_right_comm]
  omega
theorem norm_lt (h l y : Int) (s : Nat) (hs : s ≤ 63) (hl : U64 l) (h1 : h < y) : h * 2 ^ s + l / 2 ^ (64 - s) < y * 2 ^ s := by
  have hp : (0 : Int) < 2 ^ s := Int.pow_pos (by decide)
  have e := norm_sum h l s hs
  have e2 : (h * 18446744073709551616 + l) * 2 ^ s < (y * 18446744073709551616) * 2 ^ s := Int.mul_lt_mul_of_pos_right (by have := hl.2; omega) hp
  rw [e, Int.mul_right_comm] at e2
  have := (U64.wrap (l * 2 ^ s)).1
  omega
end Go.Proofs.Ytkcckncglbjjdaa
namespace Go.Proofs.Ytkcckncglbjjdaa
open Go.RowKit
set_option maxHeartbeats 400000
set_option maxRecDepth 100000
set_option linter.unusedVariables false
theorem absI_le {a : Int} (h : I64 a) : 0 ≤ absI a ∧ absI a ≤ 9223372036854775808 := by unfold I64 at h; unfold absI; split <;> omega
theorem half_bound {x y : Int} (hx0 : 0 ≤ x) (hx : x < 4294967296) (hy0 : 0 ≤ y) (hy : y < 4294967296) : 0 ≤ x * y ∧ x * y ≤ 18446744065119617025 := by
  refine ⟨Int.mul_nonneg hx0 hy0, ?_⟩
  have := Int.mul_le_mul (show x ≤ 4294967295 by omega) (show y ≤ 4294967295 by omega) hy0 (by decide)
  omega
theorem halves (ah al bh bl : Int) : (ah * 4294967296 + al) * (bh * 4294967296 + bl) = ah * bh * 18446744073709551616 + (ah * bl + al * bh) * 4294967296 + al * bl := by
  grind
theorem or_low (z y : Int) (hy0 : 0 ≤ y) (hy : y < 4294967296) : bits BinOp.or IntKind.u64 (IntKind.u64.wrap (z * 4294967296)) y = z * 4294967296 % 18446744073709551616 + y := by
  rw [IntKind.wrap_u64]
  exact bits_join .u64 64 (by decide) (fun n h0 h1 => by rw [IntKind.wrap_u64]; omega) 32 _ _ (by omega) (by omega) (by omega) hy0 hy (by omega)
/-- The parts of a product of halves. -/
theorem times_end (a b m1 m2 m3 p ph x y t : Int) (e : a * b = m3 * 18446744073709551616 + (m1 + m2) * 4294967296 + p) (h0 : 0 ≤ a * b) (h1 : a * b < 340282366920938463463374607431768211456)
    (hph : p / 4294967296 = ph) (hx : (m1 + ph) / 4294967296 = x) (hy : (m1 + ph) % 4294967296 = y) (ht : (m2 + y) / 4294967296 = t) :
    a * b / 18446744073709551616 = m3 + x + t ∧ a * b % 18446744073709551616 = (m2 + y) * 4294967296 % 18446744073709551616 + p % 4294967296 := by
  rw [e]
  omega
theorem wide_same {a b P : Int} (h : a * b = P) (h0 : 0 ≤ P) (h1 : P ≤ 85070591730234615865843651857942052864) : wrap64 (P / 18446744073709551616) = wrap64 (hiU (a * b)) ∧ P % 18446744073709551616 = loU (a * b) := by
  rw [h]; unfold hiU loU
  refine ⟨?_, rfl⟩
  congr 1
  omega
theorem wide_neg {s P h l : Int} (hs : s = -P) (h0 : 0 ≤ P) (h1 : P ≤ 85070591730234615865843651857942052864) (hh : P / 18446744073709551616 = h) (hl : P % 18446744073709551616 = l) :
    (IntKind.u64.wrap (18446744073709551615 - l + 1) = loU s) ∧ ((loU s = 0 ∧ IntKind.u64.wrap (18446744073709551615 - h + 1) = hiU s) ∨ (loU s ≠ 0 ∧ 18446744073709551615 - h = hiU s)) := by
  subst hs
  simp only [IntKind.wrap_u64]
  unfold hiU loU
  omega
end Go.Proofs.Ytkcckncglbjjdaa
namespace Go.Proofs.Ytkcckncglbjjdaa
open Go.RowKit
set_option maxHeartbeats 400000
set_option maxRecDepth 100000
set_option linter.unusedVariables false
theorem and_one_i64 (n : Int) : bits .and .i64 n 1 = n % 2 := by
  show IntKind.i64.wrap ((BitVec.ofInt 64 n &&& BitVec.ofInt 64 1).toNat : Int) = _
  rw [BitVec.toNat_and, show (BitVec.ofInt 64 1).toNat = 2 ^ 1 - 1 from rfl, Nat.and_two_pow_sub_one_eq_mod, BitVec.toNat_ofInt, IntKind.wrap_i64]
  omega
theorem half_step (y : Int) : (y - y % 2).tdiv 2 = y / 2 := by
  rw [show y - y % 2 = 2 * (y / 2) by omega, Int.mul_tdiv_cancel_left _ (by decide)]
theorem next_shift {a y : Int} {j : Nat} (h : a / 2 ^ j = y) : a / 2 ^ (j + 1) = y / 2 := by
  rw [Int.pow_succ, ← h, Int.ediv_ediv_of_nonneg (Int.le_of_lt (Int.pow_pos (by decide)))]
theorem or_comm_u64f (x y : Int) : bits .or .u64 x y = bits .or .u64 y x := by
  show IntKind.u64.wrap ((BitVec.ofInt 64 x ||| BitVec.ofInt 64 y).toNat : Int) = IntKind.u64.wrap ((BitVec.ofInt 64 y ||| BitVec.ofInt 64 x).toNat : Int)
  rw [BitVec.or_comm]
theorem i128_half {s : Int} (h : I128 s) : I128 (s / 2) := by unfold I128 at *; omega
theorem half_hi {s h : Int} (hI : I128 s) (hh : wrap64 (hiU s) = h) : h / 2 = wrap64 (hiU (s / 2)) := by
  rw [hi_signed hI] at hh
  rw [hi_signed (i128_half hI)]
  omega
theorem half_lo {s h : Int} (hI : I128 s) (hh : wrap64 (hiU s) = h) : bits BinOp.or IntKind.u64 (loU s / 2) (h % 2 * 9223372036854775808) = loU (s / 2) := by
  rw [hi_signed hI] at hh
  have hl := U64.lo s
  unfold U64 at hl
  rw [or_comm_u64f, bits_join .u64 64 (by decide) (fun n h0 h1 => by rw [IntKind.wrap_u64]; omega) 63 _ _ (by omega) (by omega) (by omega) (by omega) (by omega) (by omega)]
  unfold loU
  omega
theorem mul_out {s h : Int} (hI : I128 s) (hh : wrap64 (hiU s) = h) (ht : (h != wrap64 (loU s) / 9223372036854775808) = true) : ¬ I64 s := by
  rw [hi_signed hI] at hh
  simp only [bne_iff_ne, ne_eq] at ht
  intro hs
  unfold I64 at hs
  apply ht
  unfold loU
  rw [wrap64_eq]
  omega
theorem mul_in {s h : Int} (hI : I128 s) (hh : wrap64 (hiU s) = h) (ht : (h != wrap64 (loU s) / 9223372036854775808) = false) : I64 s ∧ wrap64 (loU s) = s := by
  rw [hi_signed hI] at hh
  simp only [bne_eq_false_iff_eq] at ht
  unfold loU at *
  unfold I64
  rw [wrap64_eq] at *
  unfold I128 at hI
  omega
end Go.Proofs.Ytkcckncglbjjdaa
/- The document's vec, each function by its contract. -/
namespace Go.Proofs.Ytkcckncglbjjdaa
open Go.RowKit
set_option maxHeartbeats 400000
set_option maxRecDepth 100000
set_option linter.unusedVariables false
theorem rSame_any {A B : Option Addr} {c d : Nat} (xs ys : List Int) (hx : xs.length ≤ 9223372036854775807) (hy : ys.length ≤ 9223372036854775807) (w : World)
    (ra : Rd (Value.int .i64) w w.heap.size A xs) (rb : Rd (Value.int .i64) w w.heap.size B ys) :
    Calls Try.prog 19 #[.slice A xs.length c, .slice B ys.length d] w fun e w' => e = .returned (.bool (eqB xs ys)) ∧ Below w.heap.size w w' := by
  by_cases hl : xs.length = ys.length
  · have HA := hid ra
    have HB := hid rb
    clear ra rb
    have h1 : ((xs.length : Int) != (ys.length : Int)) = false := by simp; omega
    have h2 : (xs.length != ys.length) = false := by simp; omega
    have HL := hid hl
    clear hl
    go_enter Try.func19, Try.ntmps19
    go_wp2_with fail
    clear h1 h2
    go_loopw [13] (fun i wr => ∃ k : Nat, k ≤ xs.length ∧ i = .int .i64 k ∧ xs.take k = ys.take k ∧ Below w.heap.size w wr) (fun i _ => xs.length - (intOf i).toNat)
    case atStart => exact ⟨0, by omega, rfl, rfl, Below.refl _ _⟩
    case round =>
      obtain ⟨k, hk, rfl, ht, hb⟩ := hrel
      have HT := hid ht
      clear ht
      by_cases hlt : k < xs.length
      · have hlt2 : k < ys.length := by have := HL.out; omega
        obtain ⟨b1, o1, x, rfl, l1, ex, c1⟩ := (HA.out.below hb).at_ hlt
        obtain ⟨b2, o2, y, rfl, l2, ey, c2⟩ := (HB.out.below hb).at_ hlt2
        have EX := hid ex
        have EY := hid ey
        clear ex ey
        by_cases e : x = y
        · have e' : (x != y) = false := by simpa using e
          have E := hid e
          clear e
          go_wp2_with fail
          go_quiet (fail)
          go_wp2_with fail
          go_roundw
          case rel => exact ⟨k + 1, by omega, by go_num, take_step HT.out EX.out EY.out E.out, hb.trans (belowN _ _ _)⟩
          case measure => simp [intOf]; omega
        · have e' : (x != y) = true := by simpa using e
          go_wp2_with fail
          go_quiet (fail)
          go_wp2_with fail
          go_ret
          rw [eqB_no EX.out EY.out e]
          exact ⟨rfl, hb.trans (belowN _ _ _)⟩
      · have hke : k = xs.length := by omega
        have HK := hid hke
        clear hke
        go_wp2_with fail
        go_ret
        rw [eqB_yes HT.out HK.out HL.out]
        exact ⟨rfl, hb⟩
  · rw [eqB_len hl]
    have h1 : ((xs.length : Int) != (ys.length : Int)) = true := by simp; omega
    have h2 : (xs.length != ys.length) = true := by simp; omega
    go_enter Try.func19, Try.ntmps19
    go_wp2_with fail
    go_ret
    exact ⟨rfl, Below.refl _ _⟩
/-- The first k numbers. -/
def pre (num : Nat → Int × Int) (k : Nat) : List Int := (List.range k).map fun j => (num j).1
theorem pre_succ (num : Nat → Int × Int) (k : Nat) : pre num (k + 1) = pre num k ++ [(num k).1] := by
  unfold pre; rw [List.range_succ, List.map_append]; rfl
theorem pre_len (num : Nat → Int × Int) (k : Nat) : (pre num k).length = k := by unfold pre; simp
theorem seqV_pre {num : Nat → Int × Int} {n : Nat} (h : seqE num n = 0) : seqV num n = pre num n := if_pos h
theorem seqE_succ {num : Nat → Int × Int} {k : Nat} (h : seqE num k = 0) : seqE num (k + 1) = (num k).2 := by
  show (if seqE num k = 0 then (num k).2 else seqE num k) = _
  rw [if_pos h]
theorem seq_off {num : Nat → Int × Int} {k n : Nat} (h : seqE num k = 0) (hk : k < n) (he : (num k).2 ≠ 0) : seqE num n = (num k).2 ∧ seqV num n = [] := by
  have e1 := seqE_succ h
  have e2 : seqE num n = (num k).2 := by rw [seqE_stays (k := k + 1) (by rw [e1]; exact he) n hk, e1]
  refine ⟨e2, ?_⟩
  unfold seqV
  rw [if_neg (by rw [e2]; exact he)]
end Go.Proofs.Ytkcckncglbjjdaa
/- The document's vec: Scale, More, Zero. -/
namespace Go.Proofs.Ytkcckncglbjjdaa
open Go.RowKit
set_option maxHeartbeats 400000
set_option maxRecDepth 100000
set_option linter.unusedVariables false
end Go.Proofs.Ytkcckncglbjjdaa
/- The document's vec: Size, Most, Dot, Sum, Clip. -/
namespace Go.Proofs.Ytkcckncglbjjdaa
open Go.RowKit
set_option maxHeartbeats 400000
set_option maxRecDepth 100000
set_option linter.unusedVariables false
theorem rSize_any {A : Option Addr} {c : Nat} (xs : List Int) (hx : xs.length ≤ 9223372036854775807) (ix : I64s xs) (w : World) (ra : Rd (Value.int .i64) w w.heap.size A xs) :
    Calls Try.prog 29 #[.slice A xs.length c] w fun e w' => e = .returned (.tuple #[.int .i64 (sizeV xs), .int .i64 (sizeE xs)]) ∧ Below w.heap.size w w' := by
  by_cases hn : 4096 < xs.length
  · rw [show sizeE xs = 3 from if_pos hn, show sizeV xs = 0 from if_pos hn]
    clear ra ix
    go_enter Try.func29, Try.ntmps29
    go_wp2_with fail
    go_ret2
    exact ⟨rfl, Below.refl _ _⟩
  · rw [show sizeE xs = (tot (numA xs) xs.length).2 from if_neg hn, show sizeV xs = (tot (numA xs) xs.length).1 from if_neg hn]
    have HA := hid ra
    have IX := hid ix
    clear ra ix
    go_enter Try.func29, Try.ntmps29
    go_wp2_with fail
    go_loopw [4, 14] (fun s i wr => ∃ (k : Nat) (S : Int), k ≤ xs.length ∧ i = .int .i64 k ∧ s = .int .i64 S ∧ I64 S ∧ tot (numA xs) k = (S, 0) ∧ w = wr) (fun _ i _ => xs.length - (intOf i).toNat)
    case atStart => exact ⟨0, 0, by omega, rfl, rfl, by decide, rfl, rfl⟩
    case round =>
      obtain ⟨k, S, hk, rfl, rfl, hS, hs, rfl⟩ := hrel
      have HS := hid hs
      clear hs
      by_cases hlt : k < xs.length
      · obtain ⟨b1, o1, x, rfl, l1, ex, c1⟩ := HA.out.at_ hlt
        have CA := hid (ref_Abs x (IX.out.at_ ex))
        have en : numA xs k = (ckV (absI x), ckE (absI x)) := by unfold numA; rw [getD_of ex]
        have EN := hid en
        have iz := ckV_i64 (absI x)
        clear ex en
        obtain ⟨z, hz⟩ : ∃ z, ckV (absI x) = z := ⟨_, rfl⟩
        obtain ⟨er, he⟩ : ∃ z, ckE (absI x) = z := ⟨_, rfl⟩
        rw [hz, he] at CA EN
        rw [hz] at iz
        have CB := ref_Add S z hS iz
        clear hz he
        by_cases her : er = 0
        · subst her
          by_cases hin : I64 (S + z)
          · rw [ckV_in hin, ckE_in hin] at CB
            obtain ⟨T, hT⟩ : ∃ T, S + z = T := ⟨_, rfl⟩
            rw [hT] at CB hin
            have HT := hid hT
            have CB' := hid CB
            clear CB hT
            go_wp2_with fail
            refine (CA.out _).mono ?_
            rintro _ _ ⟨rfl, rfl⟩
            go_wp2_with fail
            refine (CB'.out _).mono ?_
            rintro _ _ ⟨rfl, rfl⟩
            go_wp2_with fail
            go_roundw
            case rel =>
              refine ⟨k + 1, T, by omega, by go_num, rfl, hin, ?_, by trivial⟩
              simp only [tot, HS.out, EN.out, HT.out, if_pos, ckV_in hin, ckE_in hin]
            case measure => simp [intOf]; omega
          · rw [ckV_out hin, ckE_out hin] at CB
            have CB' := hid CB
            clear CB
            go_wp2_with fail
            refine (CA.out _).mono ?_
            rintro _ _ ⟨rfl, rfl⟩
            go_wp2_with fail
            refine (CB'.out _).mono ?_
            rintro _ _ ⟨rfl, rfl⟩
            go_wp2_with fail
            go_ret2
            have e1 : tot (numA xs) (k + 1) = (0, 2) := by simp only [tot, HS.out, EN.out, if_pos, ckV_out hin, ckE_out hin]
            rw [tot_stays (k := k + 1) (by rw [e1]; decide) xs.length hlt, e1]
            exact ⟨rfl, Below.refl _ _⟩
        · have hne : (er != 0) = true := by simpa using her
          clear CB
          go_wp2_with fail
          refine (CA.out _).mono ?_
          rintro _ _ ⟨rfl, rfl⟩
          go_wp2_with fail
          go_ret2
          have e1 : tot (numA xs) (k + 1) = (0, er) := by simp only [tot, HS.out, EN.out, if_pos, if_neg her]
          rw [tot_stays (k := k + 1) (by rw [e1]; exact her) xs.length hlt, e1]
          exact ⟨rfl, Below.refl _ _⟩
      · obtain rfl : k = xs.length := by omega
        go_wp2_with fail
        go_ret2
        rw [HS.out]
        exact ⟨rfl, Below.refl _ _⟩
theorem clip3 (x m : Int) (h : 0 ≤ m) : (x < -m ∧ clipV x m = -m) ∨ (m < x ∧ -m ≤ x ∧ clipV x m = m) ∨ (-m ≤ x ∧ x ≤ m ∧ clipV x m = x) := by
  unfold clipV
  by_cases h1 : x < -m
  · left; refine ⟨h1, ?_⟩; rw [if_neg (by omega), if_pos h1]
  · by_cases h2 : m < x
    · right; left; refine ⟨h2, by omega, ?_⟩; rw [if_neg (by omega), if_neg h1, if_pos h2]
    · right; right; refine ⟨by omega, by omega, ?_⟩; rw [if_neg (by omega), if_neg h1, if_neg h2]
end Go.Proofs.Ytkcckncglbjjdaa
/- The document's vec: Sum; the chapter's examples; how many are short enough. -/
namespace Go.Proofs.Ytkcckncglbjjdaa
open Go.RowKit
set_option maxHeartbeats 400000
set_option maxRecDepth 100000
set_option linter.unusedVariables false
end Go.Proofs.Ytkcckncglbjjdaa
/- Plain mathematics of vectors: when a call tells no error, and what it tells then. -/
namespace Go.Proofs.Ytkcckncglbjjdaa
set_option maxRecDepth 100000
set_option linter.unusedVariables false
theorem seqE_zero {num : Nat → Int × Int} : ∀ {n : Nat}, seqE num n = 0 ↔ ∀ k, k < n → (num k).2 = 0
  | 0 => ⟨fun _ k hk => absurd hk (by omega), fun _ => rfl⟩
  | n + 1 => by
    show (if seqE num n = 0 then (num n).2 else seqE num n) = 0 ↔ _
    have ih := seqE_zero (num := num) (n := n)
    split
    · rename_i h
      constructor
      · intro h2 k hk
        by_cases e : k = n
        · rw [e]; exact h2
        · exact ih.1 h k (by omega)
      · intro h2; exact h2 n (by omega)
    · rename_i h
      constructor
      · intro h2; exact absurd h2 h
      · intro h2; exact absurd (ih.2 fun k hk => h2 k (by omega)) h
theorem ckE_zero {s : Int} : ckE s = 0 ↔ I64 s := by
  unfold ckE; split <;> simp_all
theorem range_getDv (xs : List Int) : (List.range xs.length).map (fun k => xs.getD k 0) = xs := by
  apply List.ext_getElem?
  intro i
  by_cases h : i < xs.length
  · simp [h, List.getD]
  · simp [h]
theorem getD_range {f : Nat → Int} {n k : Nat} (hk : k < n) : ((List.range n).map f).getD k 0 = f k := by
  simp [List.getD, hk]
theorem map_range_ext {f g : Nat → Int} {n : Nat} (h : ∀ k, k < n → f k = g k) : (List.range n).map f = (List.range n).map g := by
  apply List.map_congr_left
  intro k hk
  exact h k (by simpa using hk)
theorem op_ok {f : Int → Int → Int} {xs ys : List Int} (h : opE f xs ys = 0) :
    xs.length ≤ 4096 ∧ ys.length = xs.length ∧ (∀ k, k < xs.length → I64 (f (xs.getD k 0) (ys.getD k 0))) ∧ opV f xs ys = (List.range xs.length).map fun k => f (xs.getD k 0) (ys.getD k 0) := by
  unfold opE at h
  unfold opV
  by_cases ht : twoE xs.length ys.length = 0
  · rw [if_pos ht] at h ⊢
    obtain ⟨h1, h2⟩ := twoE_ok ht
    have hk : ∀ k, k < xs.length → I64 (f (xs.getD k 0) (ys.getD k 0)) := fun k hk => ckE_zero.1 (seqE_zero.1 h k hk)
    refine ⟨h1, h2, hk, ?_⟩
    unfold seqV
    rw [if_pos h]
    exact map_range_ext fun k hk' => ckV_in (hk k hk')
  · rw [if_neg ht] at h
    exact absurd h ht
theorem twoE_mk {n m : Nat} (h1 : n ≤ 4096) (h2 : m = n) : twoE n m = 0 := by
  unfold twoE; rw [if_neg (by omega), if_pos h2.symm]
theorem op_mk {f : Int → Int → Int} {xs ys : List Int} (h1 : xs.length ≤ 4096) (h2 : ys.length = xs.length) (hk : ∀ k, k < xs.length → I64 (f (xs.getD k 0) (ys.getD k 0))) :
    opE f xs ys = 0 ∧ opV f xs ys = (List.range xs.length).map fun k => f (xs.getD k 0) (ys.getD k 0) := by
  have h : opE f xs ys = 0 := by
    unfold opE
    rw [if_pos (twoE_mk h1 h2)]
    exact seqE_zero.2 fun k hk' => ckE_zero.2 (hk k hk')
  exact ⟨h, (op_ok h).2.2.2⟩
theorem i64_getD {xs : List Int} (h : I64s xs) {k : Nat} (hk : k < xs.length) : I64 (xs.getD k 0) := by
  have : xs.getD k 0 = xs[k] := by simp [List.getD, hk]
  rw [this]
  exact h _ (List.getElem_mem hk)
/-- What was added is taken away again; either way round it is the same. -/
theorem add_back {xs ys : List Int} (ix : I64s xs) (iy : I64s ys) (h : opE (· + ·) xs ys = 0) :
    opE (· - ·) (opV (· + ·) xs ys) ys = 0 ∧ opV (· - ·) (opV (· + ·) xs ys) ys = xs ∧ opE (· + ·) ys xs = 0 ∧ opV (· + ·) ys xs = opV (· + ·) xs ys := by
  obtain ⟨h1, h2, h3, h4⟩ := op_ok h
  have hl : (opV (· + ·) xs ys).length = xs.length := by rw [h4]; simp
  have hg : ∀ k, k < xs.length → (opV (· + ·) xs ys).getD k 0 = xs.getD k 0 + ys.getD k 0 := fun k hk => by rw [h4, getD_range hk]
  have a := op_mk (f := (· - ·)) (xs := opV (· + ·) xs ys) (ys := ys) (by omega) (by omega) fun k hk => by
    show I64 (_ - _)
    rw [hg k (by omega), show xs.getD k 0 + ys.getD k 0 - ys.getD k 0 = xs.getD k 0 by omega]
    exact i64_getD ix (by omega)
  have b := op_mk (f := (· + ·)) (xs := ys) (ys := xs) (by omega) (by omega) fun k hk => by
    have := h3 k (by omega)
    show I64 (_ + _)
    rw [Int.add_comm]; exact this
  refine ⟨a.1, ?_, b.1, ?_⟩
  · rw [a.2, hl]
    conv => rhs; rw [← range_getDv xs]
    refine map_range_ext fun k hk => ?_
    rw [hg k hk]; omega
  · rw [b.2, h4, h2]
    exact map_range_ext fun k hk => Int.add_comm _ _
theorem sub_back {xs ys : List Int} (ix : I64s xs) (h : opE (· - ·) xs ys = 0) : opE (· + ·) (opV (· - ·) xs ys) ys = 0 ∧ opV (· + ·) (opV (· - ·) xs ys) ys = xs := by
  obtain ⟨h1, h2, h3, h4⟩ := op_ok h
  have hl : (opV (· - ·) xs ys).length = xs.length := by rw [h4]; simp
  have hg : ∀ k, k < xs.length → (opV (· - ·) xs ys).getD k 0 = xs.getD k 0 - ys.getD k 0 := fun k hk => by rw [h4, getD_range hk]
  have a := op_mk (f := (· + ·)) (xs := opV (· - ·) xs ys) (ys := ys) (by omega) (by omega) fun k hk => by
    show I64 (_ + _)
    rw [hg k (by omega), show xs.getD k 0 - ys.getD k 0 + ys.getD k 0 = xs.getD k 0 by omega]
    exact i64_getD ix (by omega)
  refine ⟨a.1, ?_⟩
  rw [a.2, hl]
  conv => rhs; rw [← range_getDv xs]
  refine map_range_ext fun k hk => ?_
  rw [hg k hk]; omega
theorem moreV_len (ys xs : List Int) (b m : Int) : (moreV ys xs b m).length ≤ 4096 := by
  unfold moreV
  split
  · exact opV_len _ _ _
  · simp
theorem zeroV_len (n : Int) : (zeroV n).length ≤ 4096 := by
  unfold zeroV
  split
  · simp
  · simp; omega
theorem sumFrom_len : ∀ (r : List (List Int)) (S : List Int), S.length ≤ 4096 → (sumFrom S r).1.length ≤ 4096
  | [], S, h => h
  | v :: r, S, h => by
    unfold sumFrom
    split
    · exact sumFrom_len r _ (opV_len _ _ _)
    · simp
theorem sumAll_len {rows : List (List Int)} (h : RowsOk rows) : (sumAll rows).1.length ≤ 4096 := by
  unfold sumAll
  split
  · simp
  · split
    · simp
    · exact sumFrom_len _ _ (by omega)
end Go.Proofs.Ytkcckncglbjjdaa
/- Plain mathematics of vectors: sizes, the greatest, products. -/
namespace Go.Proofs.Ytkcckncglbjjdaa
set_option maxRecDepth 100000
set_option linter.unusedVariables false
def sm (f : Nat → Int) : Nat → Int
  | 0 => 0
  | n + 1 => sm f n + f n
theorem tot_zero {num : Nat → Int × Int} : ∀ {n : Nat}, (tot num n).2 = 0 → (∀ k, k < n → (num k).2 = 0) ∧ (tot num n).1 = sm (fun k => (num k).1) n
  | 0, _ => ⟨fun k hk => absurd hk (by omega), rfl⟩
  | n + 1, h => by
    unfold tot at h ⊢
    by_cases h1 : (tot num n).2 = 0
    · obtain ⟨a, b⟩ := tot_zero h1
      rw [if_pos h1] at h ⊢
      by_cases h2 : (num n).2 = 0
      · rw [if_pos h2] at h ⊢
        have hi := ckE_zero.1 h
        refine ⟨fun k hk => ?_, ?_⟩
        · by_cases e : k = n
          · rw [e]; exact h2
          · exact a k (by omega)
        · show ckV _ = _
          rw [ckV_in hi, b]; rfl
      · rw [if_neg h2] at h; exact absurd h h2
    · rw [if_neg h1] at h; exact absurd h h1
theorem tot_mk {num : Nat → Int × Int} : ∀ {n : Nat}, (∀ k, k < n → (num k).2 = 0) → (∀ k, k ≤ n → I64 (sm (fun k => (num k).1) k)) → tot num n = (sm (fun k => (num k).1) n, 0)
  | 0, _, _ => rfl
  | n + 1, h, hi => by
    have ih := tot_mk (num := num) (n := n) (fun k hk => h k (by omega)) (fun k hk => hi k (by omega))
    have := hi (n + 1) (Nat.le_refl _)
    unfold tot
    rw [ih]
    simp only [if_pos, h n (by omega)]
    have e : sm (fun k => (num k).1) n + (num n).1 = sm (fun k => (num k).1) (n + 1) := rfl
    rw [e, ckV_in this, ckE_in this]
theorem sm_ext {f g : Nat → Int} : ∀ {n : Nat}, (∀ k, k < n → f k = g k) → sm f n = sm g n
  | 0, _ => rfl
  | n + 1, h => by
    unfold sm
    rw [sm_ext (n := n) fun k hk => h k (by omega), h n (by omega)]
theorem sm_nonneg {f : Nat → Int} : ∀ {n : Nat}, (∀ k, k < n → 0 ≤ f k) → 0 ≤ sm f n
  | 0, _ => Int.le_refl _
  | n + 1, h => by
    have := sm_nonneg (f := f) (n := n) fun k hk => h k (by omega)
    have := h n (by omega)
    unfold sm; omega
theorem sm_ge {f : Nat → Int} : ∀ {n : Nat}, (∀ k, k < n → 0 ≤ f k) → ∀ k, k < n → f k ≤ sm f n
  | 0, _, k, hk => absurd hk (by omega)
  | n + 1, h, k, hk => by
    have h0 := sm_nonneg (f := f) (n := n) fun k hk => h k (by omega)
    unfold sm
    by_cases e : k = n
    · subst e; omega
    · have := sm_ge (f := f) (n := n) (fun k hk => h k (by omega)) k (by omega)
      have := h n (by omega)
      omega
theorem sm_bound {f : Nat → Int} {m : Int} : ∀ {n : Nat}, (∀ k, k < n → -m ≤ f k ∧ f k ≤ m) → -(m * n) ≤ sm f n ∧ sm f n ≤ m * n
  | 0, _ => by simp [sm]
  | n + 1, h => by
    have a := sm_bound (f := f) (n := n) fun k hk => h k (by omega)
    have b := h n (by omega)
    have e : m * ((n + 1 : Nat) : Int) = m * n + m := by rw [Int.natCast_add, Int.mul_add]; simp
    unfold sm
    rw [e]; omega
theorem le_mx {xs : List Int} {x : Int} (h : x ∈ xs) : x ≤ mx xs := by
  have key : ∀ (l : List Int) (a : Int), x ∈ l → x ≤ l.foldl max a := by
    intro l
    induction l with
    | nil => intro a h; simp at h
    | cons y l ih =>
      intro a h
      rw [List.foldl_cons]
      rcases List.mem_cons.1 h with rfl | h
      · have := mx_ge l (max a x); omega
      · exact ih _ h
  exact key xs 0 h
theorem mx_mem (xs : List Int) : mx xs = 0 ∨ mx xs ∈ xs := by
  have key : ∀ (l : List Int) (a : Int), l.foldl max a = a ∨ l.foldl max a ∈ l := by
    intro l
    induction l with
    | nil => intro a; left; rfl
    | cons y l ih =>
      intro a
      rw [List.foldl_cons]
      rcases ih (max a y) with h | h
      · rw [h]
        by_cases e : a < y
        · right; rw [Int.max_eq_right (by omega)]; simp
        · left; exact Int.max_eq_left (by omega)
      · right; exact List.mem_cons_of_mem _ h
  exact key xs 0
theorem mx_nonneg (xs : List Int) : 0 ≤ mx xs := mx_ge xs 0
theorem absI_bd {x m : Int} (h : absI x ≤ m) : -m ≤ x ∧ x ≤ m := by unfold absI at h; split at h <;> omega
theorem absI_pos (x : Int) : 0 ≤ absI x := by unfold absI; split <;> omega
theorem seqE_two {num : Nat → Int × Int} (h : ∀ k, (num k).2 = 0 ∨ (num k).2 = 2) : ∀ n, seqE num n = 0 ∨ seqE num n = 2
  | 0 => .inl rfl
  | n + 1 => by
    show (if seqE num n = 0 then (num n).2 else seqE num n) = 0 ∨ (if seqE num n = 0 then (num n).2 else seqE num n) = 2
    split
    · exact h n
    · exact seqE_two h n
theorem ckE_two (s : Int) : ckE s = 0 ∨ ckE s = 2 := by unfold ckE; split <;> simp
theorem tot_two {num : Nat → Int × Int} (h : ∀ k, (num k).2 = 0 ∨ (num k).2 = 2) : ∀ n, (tot num n).2 = 0 ∨ (tot num n).2 = 2
  | 0 => .inl rfl
  | n + 1 => by
    have ih := tot_two h n
    unfold tot
    by_cases h1 : (tot num n).2 = 0
    · rw [if_pos h1]
      by_cases h2 : (num n).2 = 0
      · rw [if_pos h2]; exact ckE_two _
      · rw [if_neg h2]; exact h n
    · rw [if_neg h1]; exact ih
theorem bounds_bad {v : List Int} (h : mostE v ≠ 0) : sizeE v = mostE v := by
  unfold mostE at h ⊢
  unfold sizeE
  by_cases hn : 4096 < v.length
  · rw [if_pos hn, (un_long hn 0 (numA v)).1]
  · rw [(un_ok hn (numA v)).1] at h ⊢
    rw [if_neg hn]
    have h2 : ∀ k, (numA v k).2 = 0 ∨ (numA v k).2 = 2 := fun k => ckE_two _
    have e1 : seqE (numA v) v.length = 2 := by rcases seqE_two h2 v.length with e | e; exact absurd e h; exact e
    rw [e1]
    rcases tot_two h2 v.length with e | e
    · exact absurd (seqE_zero.2 (tot_zero e).1) h
    · exact e
theorem tot_i64 (num : Nat → Int × Int) (h : ∀ k, I64 (num k).1) : ∀ n, I64 (tot num n).1
  | 0 => (by decide : I64 0)
  | n + 1 => by
    have ih := tot_i64 num h n
    unfold tot
    by_cases h1 : (tot num n).2 = 0
    · rw [if_pos h1]
      by_cases h2 : (num n).2 = 0
      · rw [if_pos h2]; exact ckV_i64 _
      · rw [if_neg h2]; exact (by decide : I64 0)
    · rw [if_neg h1]; exact ih
structure Bounds (v : List Int) (m s : Int) : Prop where
  len : v.length ≤ 4096
  each : ∀ (k : Nat) (x : Int), v[k]? = some x → -m ≤ x ∧ x ≤ m
  pos : 0 ≤ m
  top : m ≤ 9223372036854775807
  le : m ≤ s
  stop : s ≤ 9223372036854775807
  most : s ≤ m * v.length
  met : m = 0 ∨ ∃ (k : Nat) (x : Int), v[k]? = some x ∧ (x = m ∨ x = -m)
  fine : unE (clipE m) (numC v m) v.length = 0
  same : unV (clipE m) (numC v m) v.length = v
theorem i64_le {x : Int} (h : I64 x) : x ≤ 9223372036854775807 := h.2
theorem bounds_ok {v : List Int} (he : mostE v = 0) (hf : sizeE v = 0) : Bounds v (mostV v) (sizeV v) := by
  have hn : ¬ 4096 < v.length := fun h => by unfold sizeE at hf; rw [if_pos h] at hf; cases hf
  have hf2 : (tot (numA v) v.length).2 = 0 := by unfold sizeE at hf; rwa [if_neg hn] at hf
  obtain ⟨h0, hs⟩ := tot_zero hf2
  have hk : ∀ k, k < v.length → (numA v k).1 = absI (v.getD k 0) := fun k hk => ckV_in (ckE_zero.1 (h0 k hk))
  have es : sizeV v = sm (fun k => absI (v.getD k 0)) v.length := by
    unfold sizeV
    rw [if_neg hn, hs]
    exact sm_ext hk
  have em : unV 0 (numA v) v.length = (List.range v.length).map fun k => absI (v.getD k 0) := by
    rw [(un_ok hn (numA v)).2]
    unfold seqV
    rw [if_pos (seqE_zero.2 h0)]
    exact map_range_ext hk
  have hm : ∀ k, k < v.length → absI (v.getD k 0) ≤ mostV v := fun k hk => by
    unfold mostV
    rw [em]
    exact le_mx (List.mem_map.2 ⟨k, by simpa using hk, rfl⟩)
  have hm0 : 0 ≤ mostV v := mx_nonneg _
  have im : I64 (mostV v) := mx_i64 (unV_i64 fun k _ => ckV_i64 _) 0 (by decide)
  have hmem := mx_mem (unV 0 (numA v) v.length)
  rw [em] at hmem
  have hmv : mostV v = mx ((List.range v.length).map fun k => absI (v.getD k 0)) := by unfold mostV; rw [em]
  rw [← hmv] at hmem
  have hlt : ∀ {k x}, v[k]? = some x → k < v.length := fun h => (List.getElem?_eq_some_iff.1 h).1
  have hc0 : clipE (mostV v) = 0 := if_neg (by omega)
  have hcl : ∀ k, k < v.length → (numC v (mostV v) k) = (v.getD k 0, 0) := fun k hk => by
    have := absI_bd (hm k hk)
    unfold numC clipV
    rw [hc0, if_neg (by omega), if_neg (by omega), if_neg (by omega)]
  refine ⟨by omega, fun k x hx => ?_, hm0, im.2, ?_, ?_, ?_, ?_, ?_, ?_⟩
  · have := hm k (hlt hx)
    rw [getD_of hx] at this
    exact absI_bd this
  · rw [es]
    rcases hmem with h | h
    · rw [h]; exact sm_nonneg fun k _ => absI_pos _
    · obtain ⟨k, hk, e⟩ := List.mem_map.1 h
      rw [← e]
      exact sm_ge (f := fun k => absI (v.getD k 0)) (fun k _ => absI_pos _) k (by simpa using hk)
  · have : I64 (sizeV v) := by
      unfold sizeV
      rw [if_neg hn]
      exact tot_i64 _ (fun k => ckV_i64 _) _
    exact this.2
  · rw [es]
    exact (sm_bound fun k hk => ⟨by have := absI_pos (v.getD k 0); omega, hm k hk⟩).2
  · rcases hmem with h | h
    · left; exact h
    · right
      obtain ⟨k, hk, e⟩ := List.mem_map.1 h
      have hkl : k < v.length := by simpa using hk
      refine ⟨k, v.getD k 0, by simp [List.getD, hkl], ?_⟩
      have e' : absI (v.getD k 0) = mostV v := e
      unfold absI at e'
      split at e' <;> omega
  · rw [hc0, (un_ok hn _).1]
    exact seqE_zero.2 fun k hk => by rw [hcl k hk]
  · rw [hc0, (un_ok hn _).2]
    unfold seqV
    rw [if_pos (seqE_zero.2 fun k hk => by rw [hcl k hk])]
    conv => rhs; rw [← range_getDv v]
    exact map_range_ext fun k hk => by rw [hcl k hk]
theorem twoE_comm (n m : Nat) : twoE n m = twoE m n := by
  unfold twoE
  by_cases h : 4096 < n ∨ 4096 < m
  · rw [if_pos h, if_pos (show 4096 < m ∨ 4096 < n by omega)]
  · rw [if_neg h, if_neg (show ¬ (4096 < m ∨ 4096 < n) by omega)]
    by_cases e : n = m
    · subst e; rfl
    · rw [if_neg e, if_neg (show ¬ m = n by omega)]
theorem numD_comm (xs ys : List Int) (m : Int) : numD xs ys m = numD ys xs m := by
  funext k
  unfold numD mulV mulE
  rw [Int.mul_comm]
theorem dot_comm (xs ys : List Int) (m : Int) : dotV xs ys m = dotV ys xs m ∧ dotE xs ys m = dotE ys xs m := by
  unfold dotV dotE
  rw [twoE_comm, numD_comm]
  by_cases ht : twoE ys.length xs.length = 0
  · rw [if_pos ht, if_pos ht, if_pos ht, if_pos ht, (twoE_ok ht).2]
    exact ⟨rfl, rfl⟩
  · rw [if_neg ht, if_neg ht, if_neg ht, if_neg ht]
    exact ⟨rfl, rfl⟩
theorem dot_self {xs : List Int} {m : Int} (h : dotE xs xs m = 0) : 0 ≤ dotV xs xs m := by
  unfold dotE at h
  unfold dotV
  by_cases ht : twoE xs.length xs.length = 0
  · rw [if_pos ht] at h ⊢
    by_cases hq : behE m = 0
    · rw [if_pos hq] at h ⊢
      rw [(tot_zero h).2]
      refine sm_nonneg fun k _ => ?_
      show 0 ≤ mulV (xs.getD k 0) (xs.getD k 0) m
      have hm : ¬ (m < 0 ∨ 30 < m) := fun h' => by unfold behE at hq; rw [if_pos h'] at hq; cases hq
      unfold mulV
      rw [if_neg hm]
      have h1 : 0 ≤ xs.getD k 0 * xs.getD k 0 / 2 ^ m.toNat := Int.ediv_nonneg (by rcases Int.le_total 0 (xs.getD k 0) with h | h; exact Int.mul_nonneg h h; exact Int.mul_nonneg_of_nonpos_of_nonpos h h) (Int.le_of_lt (Int.pow_pos (by decide)))
      unfold ckV
      split <;> omega
    · rw [if_neg hq] at h; exact absurd h hq
  · rw [if_neg ht] at h; exact absurd h ht
theorem zero_len {n : Nat} (h : n ≤ 4096) : zeroE n = 0 ∧ (zeroV n).length = n := by
  unfold zeroE zeroV
  rw [if_neg (by omega), if_neg (by omega)]
  simp
theorem zero_long {n : Nat} (h : ¬ n ≤ 4096) : zeroE n = 1 ∧ zeroV n = [] := by
  unfold zeroE zeroV
  rw [if_pos (by omega), if_pos (by omega)]
  exact ⟨rfl, rfl⟩
theorem dot_ones {xs ones : List Int} (hn : xs.length ≤ 4096) (hl : ones.length = xs.length) (h1 : ∀ k, k < ones.length → ones.getD k 0 = 1) (hb : ∀ k, k < xs.length → -1099511627776 ≤ xs.getD k 0 ∧ xs.getD k 0 ≤ 1099511627776) :
    dotE xs ones 0 = 0 ∧ dotV xs ones 0 = sm (fun k => xs.getD k 0) xs.length := by
  have hk : ∀ k, k < xs.length → numD xs ones 0 k = (xs.getD k 0, 0) := fun k hk => by
    have b := hb k hk
    have e : xs.getD k 0 * 1 / 2 ^ (0 : Int).toNat = xs.getD k 0 := by rw [Int.mul_one]; simp
    have hi : I64 (xs.getD k 0) := by unfold I64; omega
    unfold numD mulV mulE
    rw [h1 k (by omega), if_neg (by omega), if_neg (by omega), e, ckV_in hi, ckE_in hi]
  have hs : ∀ k, k ≤ xs.length → sm (fun k => (numD xs ones 0 k).1) k = sm (fun k => xs.getD k 0) k := fun k hk' => sm_ext fun j hj => by rw [hk j (by omega)]
  have ht := tot_mk (num := numD xs ones 0) (n := xs.length) (fun k hk' => by rw [hk k hk']) fun k hk' => by
    rw [hs k hk']
    have := sm_bound (f := fun k => xs.getD k 0) (m := 1099511627776) (n := k) fun j hj => hb j (by omega)
    unfold I64; omega
  unfold dotE dotV
  rw [if_pos (twoE_mk hn hl), if_pos (twoE_mk hn hl), show behE 0 = 0 from rfl, if_pos rfl, if_pos rfl, ht]
  exact ⟨rfl, hs _ (Nat.le_refl _)⟩
theorem un_mk {num : Nat → Int × Int} {n : Nat} (hn : n ≤ 4096) (h : ∀ k, k < n → (num k).2 = 0) : unE 0 num n = 0 ∧ unV 0 num n = (List.range n).map fun k => (num k).1 := by
  have h' : ¬ 4096 < n := by omega
  rw [(un_ok h' num).1, (un_ok h' num).2]
  refine ⟨seqE_zero.2 h, ?_⟩
  unfold seqV
  rw [if_pos (seqE_zero.2 h)]
theorem mul_ok {a b : Int} {m : Nat} (hm : m ≤ 30) {c : Int} (h : a * b / 2 ^ m = c) (hc : I64 c) : mulV a b m = c ∧ mulE a b m = 0 := by
  unfold mulV mulE
  rw [if_neg (by omega), if_neg (by omega), show ((m : Nat) : Int).toNat = m from Int.toNat_natCast m, h, ckV_in hc, ckE_in hc]
  exact ⟨rfl, rfl⟩
theorem beh_ok {m : Nat} (hm : m ≤ 30) : behE m = 0 := if_neg (by omega)
theorem scale_self {a : List Int} (ia : I64s a) (hn : a.length ≤ 4096) {m : Nat} (hm : m ≤ 30) {P : Int} (hP : (2 : Int) ^ m = P) : unE (behE m) (numS a P m) a.length = 0 ∧ unV (behE m) (numS a P m) a.length = a := by
  rw [beh_ok hm]
  have hk : ∀ k, k < a.length → numS a P m k = (a.getD k 0, 0) := fun k hk => by
    have := mul_ok (a := a.getD k 0) (b := P) hm (c := a.getD k 0) (by rw [hP]; exact Int.mul_ediv_cancel _ (by rw [← hP]; exact Int.ne_of_gt (Int.pow_pos (by decide)))) (i64_getD ia hk)
    unfold numS
    rw [this.1, this.2]
  have := un_mk (num := numS a P m) hn fun k hk' => by rw [hk k hk']
  refine ⟨this.1, ?_⟩
  rw [this.2]
  conv => rhs; rw [← range_getDv a]
  exact map_range_ext fun k hk' => by rw [hk k hk']
theorem more_none {a b : List Int} (ia : I64s a) (hn : a.length ≤ 4096) (hl : a.length = b.length) {m : Nat} (hm : m ≤ 30) : moreE a b 0 m = 0 ∧ moreV a b 0 m = a := by
  have hk : ∀ k, k < b.length → numS b 0 m k = (0, 0) := fun k hk => by
    have := mul_ok (a := b.getD k 0) (b := 0) hm (c := 0) (by rw [Int.mul_zero, Int.zero_ediv]) (by decide)
    unfold numS
    rw [this.1, this.2]
  have u := un_mk (num := numS b 0 m) (n := b.length) (by omega) fun k hk' => by rw [hk k hk']
  unfold moreE moreV
  rw [beh_ok hm, u.1, if_pos rfl, if_pos rfl, u.2]
  have hz : ∀ k, k < a.length → ((List.range b.length).map fun k => (numS b 0 m k).1).getD k 0 = 0 := fun k hk' => by
    rw [getD_range (by omega), hk k (by omega)]
  have o := op_mk (f := (· + ·)) (xs := a) (ys := (List.range b.length).map fun k => (numS b 0 m k).1) hn (by simp; omega) fun k hk' => by
    show I64 (_ + _)
    rw [hz k hk', Int.add_zero]
    exact i64_getD ia hk'
  refine ⟨o.1, ?_⟩
  rw [o.2]
  conv => rhs; rw [← range_getDv a]
  exact map_range_ext fun k hk' => by rw [hz k hk', Int.add_zero]
theorem twice_same {a b : List Int} (h1 : opE (· + ·) a b = 0) (h2 : opE (· + ·) (opV (· + ·) a b) b = 0) (h3 : moreE a b 2 0 = 0) : opV (· + ·) (opV (· + ·) a b) b = moreV a b 2 0 := by
  obtain ⟨a1, a2, a3, a4⟩ := op_ok h1
  obtain ⟨b1, b2, b3, b4⟩ := op_ok h2
  have hl : (opV (· + ·) a b).length = a.length := by rw [a4]; simp
  rw [b4, hl]
  unfold moreE at h3
  unfold moreV
  by_cases hu : unE (behE 0) (numS b 2 0) b.length = 0
  · rw [if_pos hu] at h3 ⊢
    obtain ⟨c1, c2, c3, c4⟩ := op_ok h3
    rw [c4]
    refine map_range_ext fun k hk => ?_
    have hu2 : ∀ k, k < b.length → (numS b 2 0 k).2 = 0 := by
      have hn : ¬ 4096 < b.length := by omega
      rw [show behE 0 = 0 from rfl, (un_ok hn _).1] at hu
      exact fun k hk => seqE_zero.1 hu k hk
    have e : (unV (behE 0) (numS b 2 0) b.length).getD k 0 = b.getD k 0 * 2 := by
      have hn : ¬ 4096 < b.length := by omega
      rw [show behE 0 = 0 from rfl] at hu ⊢
      rw [(un_ok hn _).1] at hu
      rw [(un_ok hn _).2]
      unfold seqV
      rw [if_pos hu, getD_range (by omega)]
      have hk2 := hu2 k (by omega)
      unfold numS mulV mulE at hk2 ⊢
      simp only [show ¬ ((0 : Int) < 0 ∨ (30 : Int) < 0) by omega, if_false, show (0 : Int).toNat = 0 from rfl, Int.pow_zero, Int.ediv_one] at hk2 ⊢
      exact ckV_in (ckE_zero.1 hk2)
    rw [a4, getD_range hk, e]
    omega
  · rw [if_neg hu] at h3; exact absurd h3 hu
end Go.Proofs.Ytkcckncglbjjdaa
/- Levels: how many of a scale a number is, what is left, what a level is worth; vectors pressed to levels, loosened, near. Plain mathematics. No program in sight. -/
namespace Go.Proofs.Ytkcckncglbjjdaa
open Go.RowKit
set_option maxRecDepth 100000
set_option linter.unusedVariables false
/-- The greatest level of a width; its error. -/
def stsE (wide : Int) : Int := if wide < 1 ∨ 8 < wide then 1 else 0
def topQ (wide : Int) : Nat := 2 ^ wide.toNat - 1
def stsV (wide : Int) : Nat := if stsE wide = 0 then topQ wide else 0
theorem stsE_ok {wide : Int} : stsE wide = 0 ↔ 1 ≤ wide ∧ wide ≤ 8 := by unfold stsE; split <;> omega
theorem topQ_cases {wide : Int} (h : stsE wide = 0) : (wide = 1 ∧ topQ wide = 1) ∨ (wide = 2 ∧ topQ wide = 3) ∨ (wide = 3 ∧ topQ wide = 7) ∨ (wide = 4 ∧ topQ wide = 15) ∨ (wide = 5 ∧ topQ wide = 31) ∨ (wide = 6 ∧ topQ wide = 63) ∨ (wide = 7 ∧ topQ wide = 127) ∨ (wide = 8 ∧ topQ wide = 255) := by
  have h2 := stsE_ok.1 h
  have h3 : wide = 1 ∨ wide = 2 ∨ wide = 3 ∨ wide = 4 ∨ wide = 5 ∨ wide = 6 ∨ wide = 7 ∨ wide = 8 := by omega
  rcases h3 with rfl | rfl | rfl | rfl | rfl | rfl | rfl | rfl <;> decide
theorem topQ_bd {wide : Int} (h : stsE wide = 0) : 1 ≤ topQ wide ∧ topQ wide ≤ 255 := by
  rcases topQ_cases h with h | h | h | h | h | h | h | h <;> omega
/-- A number's level, and its rest. -/
def lvlE (n scale wide : Int) : Int := if stsE wide ≠ 0 ∨ scale < 0 ∨ scale < (szN n : Int) then 1 else 0
def lvQ (s z t : Nat) : Nat := z * t / s
def rsQ (s z t : Nat) : Nat := z * t % s
def lvlL (n scale wide : Int) : Nat := if lvlE n scale wide = 0 then lvQ scale.toNat (szN n) (topQ wide) else 0
def lvlR (n scale wide : Int) : Nat := if lvlE n scale wide = 0 then rsQ scale.toNat (szN n) (topQ wide) else 0
theorem lvlE_ok {n scale wide : Int} : lvlE n scale wide = 0 ↔ stsE wide = 0 ∧ 0 ≤ scale ∧ (szN n : Int) ≤ scale := by
  unfold lvlE
  by_cases h : stsE wide ≠ 0 ∨ scale < 0 ∨ scale < (szN n : Int)
  · rw [if_pos h]
    omega
  · rw [if_neg h]
    omega
theorem lvQ_step {s z : Nat} (hz : z ≤ s) (hs : 0 < s) (k : Nat) : rsQ s z k < s ∧
    (s ≤ rsQ s z k + z → lvQ s z (k + 1) = lvQ s z k + 1 ∧ rsQ s z (k + 1) = rsQ s z k + z - s) ∧
    (¬ s ≤ rsQ s z k + z → lvQ s z (k + 1) = lvQ s z k ∧ rsQ s z (k + 1) = rsQ s z k + z) := by
  unfold lvQ rsQ
  have h1 := Nat.div_add_mod (z * k) s
  have h2 := Nat.mod_lt (z * k) hs
  have e : z * (k + 1) = z * k + z := Nat.mul_succ z k
  obtain ⟨q, hq⟩ : ∃ q, z * k / s = q := ⟨_, rfl⟩
  obtain ⟨r, hr⟩ : ∃ r, z * k % s = r := ⟨_, rfl⟩
  rw [hq, hr] at h1
  rw [hr] at h2
  rw [e, hq, hr]
  refine ⟨h2, fun h => ?_, fun h => ?_⟩
  · have e2 : z * k + z = (r + z - s) + s * (q + 1) := by rw [Nat.mul_succ]; omega
    have h3 : r + z - s < s := by omega
    rw [e2, Nat.add_mul_div_left _ _ hs, Nat.add_mul_mod_self_left, Nat.div_eq_of_lt h3, Nat.mod_eq_of_lt h3]
    omega
  · have e2 : z * k + z = (r + z) + s * q := by omega
    have h3 : r + z < s := by omega
    rw [e2, Nat.add_mul_div_left _ _ hs, Nat.add_mul_mod_self_left, Nat.div_eq_of_lt h3, Nat.mod_eq_of_lt h3]
    omega
theorem lvQ_zero (s z : Nat) : lvQ s z 0 = 0 ∧ rsQ s z 0 = 0 := by unfold lvQ rsQ; simp
theorem lvQ_none (t : Nat) : lvQ 0 0 t = 0 ∧ rsQ 0 0 t = 0 := by unfold lvQ rsQ; simp
theorem lvQ_le {s z : Nat} (hz : z ≤ s) (t : Nat) : lvQ s z t ≤ t := by
  unfold lvQ
  rcases Nat.eq_zero_or_pos s with h | h
  · subst h; simp
  · exact Nat.div_le_of_le_mul (Nat.mul_le_mul_right t hz)
theorem lvQ_both {s z t : Nat} (hz : z ≤ s) : lvQ s z t * s + rsQ s z t = z * t := by
  unfold lvQ rsQ
  rw [Nat.mul_comm]
  exact Nat.div_add_mod (z * t) s
theorem rsQ_lt {s z t : Nat} (h : 0 < s) : rsQ s z t < s := Nat.mod_lt _ h
/-- A level's number. -/
def valE (level : Nat) (scale wide : Int) : Int := if stsE wide ≠ 0 ∨ scale < 0 ∨ topQ wide < level then 1 else 0
def vlQ (l s t : Nat) : Nat := l * s / t
def valV (level : Nat) (scale wide : Int) : Nat := if valE level scale wide = 0 then vlQ level scale.toNat (topQ wide) else 0
theorem valE_ok {level : Nat} {scale wide : Int} : valE level scale wide = 0 ↔ stsE wide = 0 ∧ 0 ≤ scale ∧ level ≤ topQ wide := by
  unfold valE
  by_cases h : stsE wide ≠ 0 ∨ scale < 0 ∨ topQ wide < level
  · rw [if_pos h]
    omega
  · rw [if_neg h]
    omega
theorem vlQ_parts {l s t : Nat} (ht : 0 < t) : s / t * l + s % t * l / t = vlQ l s t := by
  unfold vlQ
  have h := Nat.div_add_mod s t
  obtain ⟨a, ha⟩ : ∃ a, s / t = a := ⟨_, rfl⟩
  obtain ⟨b, hb⟩ : ∃ b, s % t = b := ⟨_, rfl⟩
  rw [ha, hb] at h
  rw [ha, hb, ← h]
  have e : l * (t * a + b) = b * l + t * (a * l) := by
    rw [Nat.mul_add, Nat.mul_comm l b, Nat.mul_comm l (t * a), Nat.mul_assoc, Nat.add_comm]
  rw [e, Nat.add_mul_div_left _ _ ht, Nat.add_comm]
theorem vlQ_le {l s t : Nat} (hl : l ≤ t) : vlQ l s t ≤ s := by
  unfold vlQ
  exact Nat.div_le_of_le_mul (Nat.mul_le_mul_right s hl)
theorem vlQ_mono {l m s t : Nat} (h : l ≤ m) : vlQ l s t ≤ vlQ m s t := Nat.div_le_div_right (Nat.mul_le_mul_right s h)
theorem vlQ_bits {l s t : Nat} (hl : l ≤ t) (ht : 0 < t) (h2 : t ≤ 255) : s / t * l ≤ s ∧ s % t * l ≤ 65025 := by
  refine ⟨Nat.le_trans (Nat.mul_le_mul_left _ hl) (Nat.div_mul_le_self s t), ?_⟩
  have h1 := Nat.mod_lt s ht
  have h3 : s % t * l ≤ 255 * 255 := Nat.mul_le_mul (by omega) (by omega)
  omega
/-- One number pressed: its level, one more by chance. -/
def plQ (scale wide : Int) (seed : Nat) (n : List Int) (i : Nat) (x : Int) : Nat :=
  if 0 < lvlR x scale wide ∧ belV scale.toNat seed (n ++ [(i : Int)]) < lvlR x scale wide then lvlL x scale wide + 1 else lvlL x scale wide
def prqE (v : List Int) (wide : Int) : Int := if stsE wide ≠ 0 ∨ v = [] then 1 else mostE v
def levQ (v : List Int) (wide : Int) (seed : Nat) (n : List Int) (m : Nat) : List Int := (List.range m).map fun i => (plQ (mostV v) wide seed n i (v.getD i 0) : Int)
def negQ (v : List Int) (m : Nat) : List Bool := (List.range m).map fun i => decide (v.getD i 0 < 0)
def prqS (v : List Int) (wide : Int) (seed : Nat) (n : List Int) : SentV := if prqE v wide = 0 then ⟨2, v.length, [], [], mostV v, wide, levQ v wide seed n v.length, negQ v v.length⟩ else zeroS
theorem levQ_snoc (v : List Int) (wide : Int) (seed : Nat) (n : List Int) (m : Nat) : levQ v wide seed n (m + 1) = levQ v wide seed n m ++ [(plQ (mostV v) wide seed n m (v.getD m 0) : Int)] := by unfold levQ; rw [List.range_succ, List.map_append]; rfl
theorem negQ_snoc (v : List Int) (m : Nat) : negQ v (m + 1) = negQ v m ++ [decide (v.getD m 0 < 0)] := by unfold negQ; rw [List.range_succ, List.map_append]; rfl
theorem levQ_len (v : List Int) (wide : Int) (seed : Nat) (n : List Int) (m : Nat) : (levQ v wide seed n m).length = m := by unfold levQ; simp
theorem negQ_len (v : List Int) (m : Nat) : (negQ v m).length = m := by unfold negQ; simp
theorem levQ_at (v : List Int) (wide : Int) (seed : Nat) (n : List Int) {m i : Nat} (h : i < m) : (levQ v wide seed n m)[i]? = some (plQ (mostV v) wide seed n i (v.getD i 0) : Int) := by unfold levQ; simp [h]
theorem negQ_at (v : List Int) {m i : Nat} (h : i < m) : (negQ v m)[i]? = some (decide (v.getD i 0 < 0)) := by unfold negQ; simp [h]
/-- Loosened. -/
def loqE (s : SentV) : Int := if mayB s = true ∧ s.sch = 2 then 0 else 1
def loQ (s : SentV) (i : Nat) : Int := if s.neg.getD i false = true then -(valV (s.lev.getD i 0).toNat s.scale s.wide : Int) else (valV (s.lev.getD i 0).toNat s.scale s.wide : Int)
def loqL (s : SentV) (m : Nat) : List Int := (List.range m).map (loQ s)
def loqV (s : SentV) : List Int := if loqE s = 0 then loqL s s.lev.length else []
theorem loqL_snoc (s : SentV) (m : Nat) : loqL s (m + 1) = loqL s m ++ [loQ s m] := by unfold loqL; rw [List.range_succ, List.map_append]; rfl
theorem loqL_len (s : SentV) (m : Nat) : (loqL s m).length = m := by unfold loqL; simp
theorem loqL_at (s : SentV) {m i : Nat} (h : i < m) : (loqL s m)[i]? = some (loQ s i) := by unfold loqL; simp [h]
/-- Near. -/
def nrOne (x scale wide : Int) (lev : Int) (neg : Bool) : Bool := (neg == decide (x < 0)) && ((lev == (lvlL x scale wide : Int)) || ((lvlR x scale wide != 0) && (lev == (lvlL x scale wide : Int) + 1)))
def nrAll (v : List Int) (s : SentV) (m : Nat) : Bool := (List.range m).all fun i => nrOne (v.getD i 0) (mostV v) s.wide (s.lev.getD i 0) (s.neg.getD i false)
def nrHead (v : List Int) (s : SentV) : Bool := decide (mostE v = 0 ∧ mayB s = true ∧ s.sch = 2 ∧ s.dim = v.length ∧ s.scale = mostV v)
def nearB (v : List Int) (s : SentV) : Bool := nrHead v s && nrAll v s v.length
theorem nrAll_snoc (v : List Int) (s : SentV) (m : Nat) : nrAll v s (m + 1) = (nrAll v s m && nrOne (v.getD m 0) (mostV v) s.wide (s.lev.getD m 0) (s.neg.getD m false)) := by
  unfold nrAll
  rw [List.range_succ, List.all_append]
  simp
theorem nrAll_no {v : List Int} {s : SentV} {m : Nat} (h : nrOne (v.getD m 0) (mostV v) s.wide (s.lev.getD m 0) (s.neg.getD m false) = false) {n : Nat} (hn : m < n) : nrAll v s n = false := by
  unfold nrAll
  rw [List.all_eq_false]
  exact ⟨m, List.mem_range.2 hn, by rw [h]; decide⟩
end Go.Proofs.Ytkcckncglbjjdaa
/- The greatest numbers of a vector: how many are picked, that they rise, who is left out, scaled and turned vectors. Plain mathematics. No program in sight. -/
namespace Go.Proofs.Ytkcckncglbjjdaa
set_option maxRecDepth 100000
set_option linter.unusedVariables false
theorem pkF_up (v : List Int) (k : Nat) : (pkF v k).Pairwise (· < ·) := List.Pairwise.filter _ List.pairwise_lt_range
theorem pkF_nodup (v : List Int) (k : Nat) : (pkF v k).Nodup := (pkF_up v k).imp fun h => Nat.ne_of_lt h
theorem ordT_nodup (v : List Int) : (ordT v).Nodup := by
  unfold List.Nodup
  rw [List.pairwise_iff_getElem]
  intro i j hi hj hij e
  rw [ordT_len] at hi hj
  have h1 := ordT_at hi
  have h2 := ordT_at hj
  rw [List.getElem?_eq_getElem (by rw [ordT_len]; exact hi)] at h1
  rw [List.getElem?_eq_getElem (by rw [ordT_len]; exact hj)] at h2
  injection h1 with h1
  injection h2 with h2
  have e3 : atR v i = atR v j := by rw [← h1, ← h2, e]
  have h3 := (atR_is hi).2
  have h4 := (atR_is hj).2
  rw [e3] at h3
  omega
theorem pkF_perm {v : List Int} {k : Nat} (hk : k ≤ v.length) : (pkF v k).Perm ((ordT v).take k) :=
  (List.perm_ext_iff_of_nodup (pkF_nodup v k) (List.Pairwise.sublist (List.take_sublist _ _) (ordT_nodup v))).2 fun i => pkF_ord hk
theorem pkF_len {v : List Int} {k : Nat} (hk : k ≤ v.length) : (pkF v k).length = k := by
  rw [(pkF_perm hk).length_eq, List.length_take, ordT_len]
  omega
/-- As whole numbers. -/
def pkI (v : List Int) (k : Nat) : List Int := (pkF v k).map fun (i : Nat) => (i : Int)
theorem pkI_ris (v : List Int) (k : Nat) : risP (pkI v k) := by
  unfold pkI risP
  rw [List.pairwise_map]
  exact (pkF_up v k).imp fun h => by omega
theorem pkI_len {v : List Int} {k : Nat} (hk : k ≤ v.length) : (pkI v k).length = k := by unfold pkI; rw [List.length_map, pkF_len hk]
theorem pkI_mem {v : List Int} {k : Nat} {x : Int} : x ∈ pkI v k ↔ ∃ i : Nat, x = i ∧ i < v.length ∧ rkN v i < k := by
  unfold pkI
  rw [List.mem_map]
  constructor
  · rintro ⟨i, hi, rfl⟩
    exact ⟨i, rfl, pkF_mem.1 hi⟩
  · rintro ⟨i, rfl, h⟩
    exact ⟨i, pkF_mem.2 h, rfl⟩
theorem pk_more {v : List Int} {k m i : Nat} (h : k ≤ m) (hi : i ∈ pkF v k) : i ∈ pkF v m := by
  have := pkF_mem.1 hi
  exact pkF_mem.2 ⟨this.1, by omega⟩
theorem pk_all (v : List Int) : pkF v v.length = List.range v.length := by
  unfold pkF
  rw [List.filter_eq_self]
  intro i hi
  exact decide_eq_true (rkN_lt (List.mem_range.1 hi))
theorem pk_none (v : List Int) : pkF v 0 = [] := by
  unfold pkF
  rw [List.filter_eq_nil_iff]
  intro i hi
  simp
/-- Who is picked is ahead of who is left out. -/
theorem pk_ahead {v : List Int} {k i n : Nat} (hi : i ∈ pkF v k) (hn : n < v.length) (ho : n ∉ pkF v k) : ahB v i n = true := by
  have h1 := pkF_mem.1 hi
  have h2 : ¬ rkN v n < k := fun h => ho (pkF_mem.2 ⟨hn, h⟩)
  exact (rk_iff h1.1 hn).1 (by omega)
/-- Vectors whose sizes stand to one another alike are picked alike. -/
theorem rk_alike {v u : List Int} (hl : u.length = v.length) (h : ∀ i k, ahB u i k = ahB v i k) (i : Nat) : rkN u i = rkN v i := by
  have : ∀ m, rkM u i m = rkM v i m := by
    intro m
    induction m with
    | zero => rfl
    | succ m ih => rw [rkM, rkM, ih, h]
  unfold rkN
  rw [hl, this]
theorem pk_alike {v u : List Int} (hl : u.length = v.length) (h : ∀ i k, ahB u i k = ahB v i k) (k : Nat) : pkF u k = pkF v k := by
  unfold pkF
  rw [hl]
  congr 1
  funext i
  rw [rk_alike hl h]
theorem getD_map {f : Int → Int} (h0 : f 0 = 0) (v : List Int) (i : Nat) : (v.map f).getD i 0 = f (v.getD i 0) := by
  unfold List.getD
  rw [List.getElem?_map]
  cases v[i]? with
  | none => simp [h0]
  | some x => rfl
theorem ah_neg (v : List Int) (i k : Nat) : ahB (v.map fun n => -n) i k = ahB v i k := by
  unfold ahB szN
  rw [getD_map (by decide), getD_map (by decide), Int.natAbs_neg, Int.natAbs_neg]
theorem ah_scale {c : Int} (hc : 0 < c) (v : List Int) (i k : Nat) : ahB (v.map fun n => c * n) i k = ahB v i k := by
  unfold ahB szN
  rw [getD_map (by simp), getD_map (by simp), Int.natAbs_mul, Int.natAbs_mul]
  have hp : 0 < c.natAbs := by omega
  have e1 : ∀ a b : Nat, (c.natAbs * a < c.natAbs * b) ↔ a < b := fun a b => Nat.mul_lt_mul_left hp
  have e2 : ∀ a b : Nat, (c.natAbs * a = c.natAbs * b) ↔ a = b := fun a b => ⟨fun h => Nat.eq_of_mul_eq_mul_left hp h, fun h => by rw [h]⟩
  simp only [e1, e2]
end Go.Proofs.Ytkcckncglbjjdaa
/- Words for bytes and numbers of 64 bits: their types, a list that a call tells. -/
namespace Go.Proofs.Ytkcckncglbjjdaa
open Go.RowKit
set_option maxRecDepth 100000
set_option linter.unusedVariables false
theorem cells_u8 : Try.prog.cellsOf 5 = 1 := by kernel_rfl
theorem cells_u64 : Try.prog.cellsOf 68 = 1 := by kernel_rfl
theorem cells_i64' : Try.prog.cellsOf 2 = 1 := by kernel_rfl
theorem info_u8 : (Try.prog.info? 5).map (fun i => (i.zero, i.size, i.bytes)) = some (some (.int .u8 0), 1, 1) := by kernel_rfl
theorem info_u64 : (Try.prog.info? 68).map (fun i => (i.zero, i.size, i.bytes)) = some (some (.int .u64 0), 1, 8) := by kernel_rfl
/-- A call's answer: a list in memory that lies from base on; nothing below base has turned. -/
def OwnOf (t : TypeId) (k : IntKind) (base : Nat) (xs : List Int) (w : World) (e : Ending) (w' : World) : Prop :=
  ∃ A c, e = .returned (.slice A xs.length c) ∧ w'.ownsRow base t 1 (.slice A xs.length c) xs.length (xs.map (Value.int k)) ∧ Below base w w'
theorem OwnOf.onto {t : TypeId} {k : IntKind} {xs : List Int} {B : Nat} {w wl w' : World} {e : Ending} (h : OwnOf t k wl.heap.size xs wl e w') (hb : Below B w wl) (hB : B ≤ wl.heap.size) : OwnOf t k B xs w e w' := by
  obtain ⟨A, c, he, ho, hk⟩ := h
  exact ⟨A, c, he, own_base ho hB, hb.trans (hk.mono hB)⟩
/-- A call's answer: a list in memory of the call's own, and a number beside it (an error). -/
def OwnE (t : TypeId) (k : IntKind) (base : Nat) (xs : List Int) (er : Int) (w : World) (e : Ending) (w' : World) : Prop :=
  ∃ A c, e = .returned (.tuple #[.slice A xs.length c, .int .i64 er]) ∧ w'.ownsRow base t 1 (.slice A xs.length c) xs.length (xs.map (Value.int k)) ∧ Below base w w'
theorem OwnE.nil {t : TypeId} {k : IntKind} {base : Nat} {er : Int} {w w' : World} (hb : Below base w w') : OwnE t k base [] er w (.returned (.tuple #[.slice none 0 0, .int .i64 er])) w' := ⟨none, 0, rfl, own_nil _ _ _, hb⟩
theorem ret1 {k : IntKind} {x y : Int} (h : x = y) : Ending.returned (Value.int k x) = Ending.returned (Value.int k y) := by rw [h]
end Go.Proofs.Ytkcckncglbjjdaa
/- Texts that are the same, lists of numbers that are, as the document tells them. -/
namespace Go.Proofs.Ytkcckncglbjjdaa
open Go.RowKit
set_option maxHeartbeats 400000
set_option maxRecDepth 100000
set_option linter.unusedVariables false
theorem ref_SameNumbers {A B : Option Addr} {c d : Nat} (xs ys : List Int) (hx : xs.length ≤ 9223372036854775807) (hy : ys.length ≤ 9223372036854775807) (w : World)
    (ra : Rd (Value.int .u64) w w.heap.size A xs) (rb : Rd (Value.int .u64) w w.heap.size B ys) :
    Calls Try.prog 37 #[.slice A xs.length c, .slice B ys.length d] w fun e w' => e = .returned (.bool (eqB xs ys)) ∧ Below w.heap.size w w' := by
  by_cases hl : xs.length = ys.length
  · have HA := hid ra
    have HB := hid rb
    clear ra rb
    have h1 : ((xs.length : Int) != (ys.length : Int)) = false := by simp; omega
    have h2 : (xs.length != ys.length) = false := by simp; omega
    have HL := hid hl
    clear hl
    go_enter Try.func37, Try.ntmps37
    go_wp2_with fail
    clear h1 h2
    go_loopw [13] (fun i wr => ∃ k : Nat, k ≤ xs.length ∧ i = .int .i64 k ∧ xs.take k = ys.take k ∧ Below w.heap.size w wr) (fun i _ => xs.length - (intOf i).toNat)
    case atStart => exact ⟨0, by omega, rfl, rfl, Below.refl _ _⟩
    case round =>
      obtain ⟨k, hk, rfl, ht, hb⟩ := hrel
      have HT := hid ht
      clear ht
      by_cases hlt : k < xs.length
      · have hlt2 : k < ys.length := by have := HL.out; omega
        obtain ⟨b1, o1, x, rfl, l1, ex, c1⟩ := (HA.out.below hb).at_ hlt
        obtain ⟨b2, o2, y, rfl, l2, ey, c2⟩ := (HB.out.below hb).at_ hlt2
        have EX := hid ex
        have EY := hid ey
        clear ex ey
        by_cases e : x = y
        · have e' : (x != y) = false := by simpa using e
          have E := hid e
          clear e
          go_wp2_with fail
          go_quiet (fail)
          go_wp2_with fail
          go_roundw
          case rel => exact ⟨k + 1, by omega, by go_num, take_step HT.out EX.out EY.out E.out, hb.trans (belowN _ _ _)⟩
          case measure => simp [intOf]; omega
        · have e' : (x != y) = true := by simpa using e
          go_wp2_with fail
          go_quiet (fail)
          go_wp2_with fail
          go_ret
          rw [eqB_no EX.out EY.out e]
          exact ⟨rfl, hb.trans (belowN _ _ _)⟩
      · have hke : k = xs.length := by omega
        have HK := hid hke
        clear hke
        go_wp2_with fail
        go_ret
        rw [eqB_yes HT.out HK.out HL.out]
        exact ⟨rfl, hb⟩
  · rw [eqB_len hl]
    have h1 : ((xs.length : Int) != (ys.length : Int)) = true := by simp; omega
    have h2 : (xs.length != ys.length) = true := by simp; omega
    go_enter Try.func37, Try.ntmps37
    go_wp2_with fail
    go_ret
    exact ⟨rfl, Below.refl _ _⟩
/-- What is told the same is found the same. -/
def SameB (P : Program) (f : FuncId) (X : List Int) : Prop := ∀ (A B : Option Addr) (c d : Nat) (W : World) (L M : Nat), Rd (Value.int .u8) W L A X → Rd (Value.int .u8) W M B X → Calls P f #[.slice A X.length c, .slice B X.length d] W fun e w' => e = .returned (.bool true) ∧ W = w'
/-- .. of numbers. -/
def SameN (P : Program) (f : FuncId) (X : List Int) : Prop := ∀ (A B : Option Addr) (c d : Nat) (W : World), Rd (Value.int .u64) W W.heap.size A X → Rd (Value.int .u64) W W.heap.size B X → Calls P f #[.slice A X.length c, .slice B X.length d] W fun e w' => e = .returned (.bool true) ∧ Below W.heap.size W w'
theorem samen_yes {X : List Int} (hx : X.length ≤ 9223372036854775807) : SameN Try.prog 37 X := fun A B c d W h1 h2 => by
  have := ref_SameNumbers (A := A) (B := B) (c := c) (d := d) X X hx hx W h1 h2
  rwa [eqB_self] at this
end Go.Proofs.Ytkcckncglbjjdaa
/- Lists that are the same, by the document (thrumref06). -/
namespace Go.Proofs.Ytkcckncglbjjdaa
open Go.RowKit
set_option maxHeartbeats 400000
set_option maxRecDepth 100000
set_option linter.unusedVariables false
theorem info_int : (Try.prog.info? 3).map (fun i => (i.zero, i.size, i.bytes)) = some (some (.int .i64 0), 1, 8) := by kernel_rfl
theorem cells_int : Try.prog.cellsOf 3 = 1 := by kernel_rfl
theorem cells_ints : Try.prog.cellsOf 23 = 1 := by kernel_rfl
theorem drewN_two (w : World) (n m : Nat) : ∃ k, (w.drewN n).drewN m = w.drewN k := ⟨n + m, by simp⟩
theorem ref_Equal {A B : Option Addr} {c d : Nat} (xs ys : List Int) (hx : xs.length ≤ 9223372036854775807) (hy : ys.length ≤ 9223372036854775807) (w : World) {L M : Nat}
    (ra : Rd (Value.int .i64) w L A xs) (rb : Rd (Value.int .i64) w M B ys) :
    Calls Try.prog 36 #[.slice A xs.length c, .slice B ys.length d] w fun e w' => e = .returned (.bool (eqB xs ys)) ∧ ∃ n, w' = w.drewN n := by
  by_cases hl : xs.length = ys.length
  · have HA := hid ra
    have HB := hid rb
    clear ra rb
    have h1 : ((xs.length : Int) != (ys.length : Int)) = false := by simp; omega
    have h2 : (xs.length != ys.length) = false := by simp; omega
    have HL := hid hl
    clear hl
    go_enter Try.func36, Try.ntmps36
    go_wp2_with fail
    clear h1 h2
    go_loopw [13] (fun i wr => ∃ k : Nat, k ≤ xs.length ∧ i = .int .i64 k ∧ xs.take k = ys.take k ∧ ∃ n, wr = w.drewN n) (fun i _ => xs.length - (intOf i).toNat)
    case atStart => exact ⟨0, by omega, rfl, rfl, 0, rfl⟩
    case round =>
      obtain ⟨k, hk, rfl, ht, n, rfl⟩ := hrel
      have HT := hid ht
      clear ht
      by_cases hlt : k < xs.length
      · have hlt2 : k < ys.length := by have := HL.out; omega
        obtain ⟨b1, o1, x, rfl, l1, ex, c1⟩ := HA.out.at_ hlt
        obtain ⟨b2, o2, y, rfl, l2, ey, c2⟩ := HB.out.at_ hlt2
        have EX := hid ex
        have EY := hid ey
        clear ex ey
        by_cases e : x = y
        · have e' : (x != y) = false := by simpa using e
          have E := hid e
          clear e
          go_wp2_with fail
          go_quiet (fail)
          go_wp2_with fail
          go_roundw
          case rel => exact ⟨k + 1, by omega, by go_num, take_step HT.out EX.out EY.out E.out, _, rfl⟩
          case measure => simp [intOf]; omega
        · have e' : (x != y) = true := by simpa using e
          go_wp2_with fail
          go_quiet (fail)
          go_wp2_with fail
          go_ret
          rw [eqB_no EX.out EY.out e]
          exact ⟨rfl, drewN_two _ _ _⟩
      · have hke : k = xs.length := by omega
        have HK := hid hke
        clear hke
        go_wp2_with fail
        go_ret
        rw [eqB_yes HT.out HK.out HL.out]
        exact ⟨rfl, _, rfl⟩
  · rw [eqB_len hl]
    have h1 : ((xs.length : Int) != (ys.length : Int)) = true := by simp; omega
    have h2 : (xs.length != ys.length) = true := by simp; omega
    go_enter Try.func36, Try.ntmps36
    go_wp2_with fail
    go_ret
    exact ⟨rfl, 0, rfl⟩
end Go.Proofs.Ytkcckncglbjjdaa
/- Lists that are the same, that rise, places of a dimension, where a number stands: by the document. -/
namespace Go.Proofs.Ytkcckncglbjjdaa
open Go.RowKit
set_option maxHeartbeats 400000
set_option maxRecDepth 100000
set_option linter.unusedVariables false
theorem ris_small {l : List Int} (h : l.length ≤ 1) : risP l := by
  cases l with
  | nil => exact ris_nil
  | cons x l => cases l with
    | nil => exact ris_one x
    | cons y l => simp at h
theorem ref_rises {A : Option Addr} {c : Nat} (l : List Int) (hl : l.length ≤ 9223372036854775807) (w : World) {B : Nat} (ra : Rd (Value.int .i64) w B A l) :
    Calls Try.prog 61 #[.slice A l.length c] w fun e w' => e = .returned (.bool (risB l)) ∧ ∃ n, w' = w.drewN n := by
  have HA := hid ra
  have HY : Hid (risP l → risB l = true) := hid (fun h => decide_eq_true h)
  have HN : Hid (¬ risP l → risB l = false) := hid (fun h => decide_eq_false h)
  obtain ⟨R, hR⟩ : ∃ R, risB l = R := ⟨_, rfl⟩
  rw [hR] at HY HN ⊢
  clear ra hR
  go_enter Try.func61, Try.ntmps61
  go_wp2_with fail
  go_loopw [3] (fun i wr => ∃ k : Nat, 1 ≤ k ∧ (k ≤ l.length ∨ k = 1) ∧ i = .int .i64 k ∧ risP (l.take k) ∧ ∃ n, wr = w.drewN n) (fun i _ => l.length - (intOf i).toNat)
  case atStart => exact ⟨1, by omega, by omega, rfl, ris_small (by rw [List.length_take]; omega), 0, rfl⟩
  case round =>
    obtain ⟨k, hk1, hk, rfl, ht, n, rfl⟩ := hrel
    have HT := hid ht
    clear ht
    by_cases hlt : k < l.length
    · obtain ⟨j, rfl⟩ : ∃ j, k = j + 1 := ⟨k - 1, by omega⟩
      have hj : j < l.length := by omega
      obtain ⟨b1, o1, y, rfl, l1, ey, c1⟩ := HA.out.at_ hlt
      obtain ⟨b2, o2, x, e2, l2, ex, c2⟩ := HA.out.at_ hj
      injection e2 with e2
      injection e2 with e2 e3
      subst e2 e3
      have hji : ((j + 1 : Nat) : Int) - 1 = (j : Int) := by omega
      have hjc : ((j + 1 : Nat) : Int) = (j : Int) + 1 := by omega
      have hi0 : (0 : Int) ≤ (j : Int) := by omega
      have hi1 : (j : Int) < (l.length : Int) := by omega
      have EX := hid ex
      have EY := hid ey
      clear ex ey hk1 hk
      by_cases e : y ≤ x
      · have hR := HN.out (ris_no EX.out EY.out (by omega) e)
        subst hR
        go_wp2_with fail
        go_quiet (fail)
        go_wp2_with fail
        go_ret
        exact ⟨rfl, drewN_two _ _ _⟩
      · have e' : x < y := by omega
        go_wp2_with fail
        go_quiet (fail)
        go_wp2_with fail
        go_roundw
        case rel => exact ⟨j + 1 + 1, by omega, by omega, by go_num, ris_step HT.out EY.out (Or.inr ⟨EX.out, e'⟩), _, rfl⟩
        case measure => simp [intOf]; omega
    · have hR := HY.out (by have h := HT.out; rw [List.take_of_length_le (by omega)] at h; exact h)
      subst hR
      go_wp2_with fail
      go_ret
      exact ⟨rfl, _, rfl⟩
theorem ref_Check {A : Option Addr} {c : Nat} (dim : Int) (l : List Int) (hd : I64 dim) (hl : l.length ≤ 9223372036854775807) (w : World) {B : Nat} (ra : Rd (Value.int .i64) w B A l) :
    Calls Try.prog 52 #[.int .i64 dim, .slice A l.length c] w fun e w' => e = .returned (.int .i64 (chkE dim l)) ∧ ∃ n, w' = w.drewN n := by
  have C := hid (ref_rises (c := c) l hl w ra)
  have HY : Hid (plcP dim l → chkE dim l = 0) := hid (fun h => chk_ok.2 h)
  have HN : Hid (¬ plcP dim l → chkE dim l = 1) := hid chk_no
  obtain ⟨R, hR⟩ : ∃ R, chkE dim l = R := ⟨_, rfl⟩
  rw [hR] at HY HN ⊢
  unfold I64 at hd
  clear hR
  by_cases h1 : dim < 1
  · have hR := HN.out (fun h => by have := h.1; omega)
    subst hR
    clear HY HN C ra
    go_enter Try.func52, Try.ntmps52
    go_wp2_with fail
    go_ret
    exact ⟨rfl, 0, rfl⟩
  · by_cases h2 : 4096 < dim
    · have hR := HN.out (fun h => by have := h.2.1; omega)
      subst hR
      clear HY HN C ra
      go_enter Try.func52, Try.ntmps52
      go_wp2_with fail
      go_ret
      exact ⟨rfl, 0, rfl⟩
    · by_cases h3 : risP l
      · rw [show risB l = true from decide_eq_true h3] at C
        have HA := hid ra
        have HR := hid h3
        clear ra h3
        go_enter Try.func52, Try.ntmps52
        go_wp2_with fail
        refine C.out.mono ?_
        rintro _ _ ⟨rfl, n0, rfl⟩
        go_wp2_with fail
        go_loopw [6, 20] (fun n0 i wr => ∃ k : Nat, k ≤ l.length ∧ i = .int .i64 k ∧ (∀ n ∈ l.take k, 0 ≤ n ∧ n < dim) ∧ ∃ n, wr = w.drewN n) (fun _ i _ => l.length - (intOf i).toNat)
        case atStart => exact ⟨0, by omega, rfl, by simp, n0, rfl⟩
        case round =>
          obtain ⟨k, hk, rfl, ht, n, rfl⟩ := hrel
          have HT := hid ht
          clear ht
          by_cases hlt : k < l.length
          · obtain ⟨b1, o1, y, rfl, l1, ey, c1⟩ := HA.out.at_ hlt
            have EY := hid ey
            clear ey
            by_cases a : y < 0
            · have hR := HN.out (fun h => by have := h.2.2.2 y (List.mem_of_getElem? EY.out); omega)
              subst hR
              go_wp2_with fail
              go_ret
              exact ⟨rfl, _, rfl⟩
            · by_cases b : dim ≤ y
              · have hR := HN.out (fun h => by have := h.2.2.2 y (List.mem_of_getElem? EY.out); omega)
                subst hR
                go_wp2_with fail
                go_ret
                exact ⟨rfl, _, rfl⟩
              · have a' : 0 ≤ y := by omega
                have b' : y < dim := by omega
                go_wp2_with fail
                go_roundw
                case rel =>
                  refine ⟨k + 1, by omega, by go_num, ?_, _, rfl⟩
                  intro z hz
                  rw [take_snoc EY.out] at hz
                  rcases List.mem_append.1 hz with hz | hz
                  · exact HT.out z hz
                  · simp at hz; omega
                case measure => simp [intOf]; omega
          · have hR := HY.out ⟨by omega, by omega, HR.out, by have h := HT.out; rw [List.take_of_length_le (by omega)] at h; exact h⟩
            subst hR
            go_wp2_with fail
            go_ret
            exact ⟨rfl, _, rfl⟩
      · rw [show risB l = false from decide_eq_false h3] at C
        have hR := HN.out (fun h => h3 h.2.2.1)
        subst hR
        clear HY HN ra h3
        go_enter Try.func52, Try.ntmps52
        go_wp2_with fail
        refine C.out.mono ?_
        rintro _ _ ⟨rfl, n0, rfl⟩
        go_wp2_with fail
        go_ret
        exact ⟨rfl, _, rfl⟩
end Go.Proofs.Ytkcckncglbjjdaa
/- Sizes, which place is ahead, an order of all: by the document. -/
namespace Go.Proofs.Ytkcckncglbjjdaa
open Go.RowKit
set_option maxHeartbeats 400000
set_option maxRecDepth 100000
set_option linter.unusedVariables false
/-- An order's error, and the order. -/
def orkE (v : List Int) : Int := if 4096 < v.length then 3 else 0
def orkV (v : List Int) : List Int := if orkE v = 0 then (ordT v).map fun (i : Nat) => (i : Int) else []
theorem orkE_ok {v : List Int} : orkE v = 0 ↔ v.length ≤ 4096 := by unfold orkE; split <;> omega
theorem orkV_len {v : List Int} (h : orkE v = 0) : (orkV v).length = v.length := by unfold orkV; rw [if_pos h, List.length_map, ordT_len]
theorem orkV_le (v : List Int) : (orkV v).length ≤ v.length := by
  unfold orkV
  split
  · rw [List.length_map, ordT_len]; exact Nat.le_refl _
  · simp
/-- The places found by those below m. -/
def oF (v : List Int) (m j : Nat) : Nat := if atR v j < m then atR v j else 0
theorem oF_step {v : List Int} {m j : Nat} (hm : m < v.length) (hj : j < v.length) : oF v (m + 1) j = if j = rkN v m then m else oF v m j := by
  obtain ⟨h1, h2⟩ := atR_is hj
  by_cases e : j = rkN v m
  · have e2 : atR v j = m := by rw [e, atR_of hm]
    unfold oF
    rw [if_pos e, e2, if_pos (by omega)]
  · have e2 : atR v j ≠ m := fun h => e (by rw [← h2, h])
    unfold oF
    rw [if_neg e]
    by_cases h3 : atR v j < m
    · rw [if_pos h3, if_pos (by omega)]
    · rw [if_neg h3, if_neg (by omega)]
theorem oF_all {v : List Int} {j : Nat} (hj : j < v.length) : oF v v.length j = atR v j := if_pos (atR_is hj).1
theorem szN_le {n : Int} (h : I64 n) : szN n ≤ 9223372036854775808 := by unfold szN; unfold I64 at h; omega
theorem ret_of9 {v R : Bool} (h : v = true ↔ R = true) : Ending.returned (Value.bool v) = Ending.returned (Value.bool R) := by
  have : v = R := by cases v <;> cases R <;> simp_all
  rw [this]
theorem own_ordT {w : World} {b M : Nat} {v : List Int} (h : w.rowIs b 3 M (fun j => .int .i64 (oF v M j : Int))) (hM : v.length = M) (hl : M ≤ 4096) {B : Nat} (hB : B ≤ b) :
    w.ownsRow B 3 1 (.slice (some ⟨b, 0, none⟩) M M) M (((ordT v).map fun (i : Nat) => (i : Int)).map (Value.int .i64)) := by
  have h2 := own_made (w' := w) h hB (by unfold maxLen; omega)
  have e : ((ordT v).map fun (i : Nat) => (i : Int)).map (Value.int .i64) = (List.range M).map fun j => .int .i64 (oF v M j : Int) := by
    unfold ordT
    rw [List.map_map, List.map_map, hM]
    refine List.map_congr_left fun j hj => ?_
    have hj' : j < v.length := by rw [hM]; exact List.mem_range.1 hj
    have := oF_all hj'
    rw [hM] at this
    rw [this]
    rfl
  rw [e]
  exact h2
end Go.Proofs.Ytkcckncglbjjdaa
