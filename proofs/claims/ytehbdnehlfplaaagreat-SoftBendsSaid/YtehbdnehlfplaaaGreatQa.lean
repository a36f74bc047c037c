
/- Qa: texts joined: Math Mem App Wd Box Grn Step App5 Rws LnR RgF SqA SpR Law Arg FixA VecL Prod Fun Dig Norm TbM TbN TbA TbF TbG TbH TbJ TbB TbC OvMath Byte. -/
import Derived.WalkKit
import Derived.OpenShut
import Derived.Test.YtehbdnehlfplaaaGreatProg
import Derived.Handy
import Derived.Deep.OwnRows
import Derived.Deep.Draws
import Derived.Laws.OwnMore
import Derived.Maps.AppendAt
import Derived.OwnWalk
import Derived.Deep.QuietTactic
import Derived.BigQuiet
import Derived.Laws.Slices
import Derived.Laws.BytesArg
import Derived.WideShapes
import Derived.RegionTactic
import Derived.Deep.RegionHeld3
import Derived.Deep.RegionLaw
import Derived.RangeFuncNested
import Derived.RangeFuncBound
import Derived.RangeFuncCalls
import Derived.RangeFuncLeaves
import Derived.RangeFuncBox
import Derived.Shelf.Abstract
import Derived.Shelf.RegionOpen
import Derived.OwnWalkIn
import Derived.TacticsInMore
import Derived.LoopNIn
import Derived.LoopIn
import Derived.Test.YtehbdnehlfplaaaGreatRows
import Derived.ProofKit
import Derived.Carry
import Derived.WalkSpells
import Derived.WalkLawsBesides
import Derived.Laws.FloatArith
import Derived.Laws.Externs
import Derived.Deep.MidRow
import Derived.StillTailTactics
import Derived.Laws.MakeOwn
/-
  Plain facts on whole numbers of 64 bits, checked sums and wraps. No program in sight.
-/
namespace Go.Proofs.YtehbdnehlfplaaaGreat
open Go.RowKit

/-- Kept from the walk, which takes every equation that stands open for a rule. -/
theorem hid {p : Prop} (h : p) : Hid p := h

/-- The numbers of 64 bits with a sign, and without one. -/
def I64 (a : Int) : Prop := -9223372036854775808 ≤ a ∧ a ≤ 9223372036854775807
def U64 (a : Int) : Prop := 0 ≤ a ∧ a ≤ 18446744073709551615
instance (a : Int) : Decidable (I64 a) := by unfold I64; infer_instance
instance (a : Int) : Decidable (U64 a) := by unfold U64; infer_instance
/-- Every one is a byte, a number of 64 bits. -/
def U8s (xs : List Int) : Prop := ∀ x ∈ xs, 0 ≤ x ∧ x ≤ 255
def U64s (xs : List Int) : Prop := ∀ x ∈ xs, U64 x
theorem U8s.app {a b : List Int} (ha : U8s a) (hb : U8s b) : U8s (a ++ b) := fun x hx => (List.mem_append.1 hx).elim (ha x) (hb x)
theorem U8s.at_ {xs : List Int} (h : U8s xs) {k : Nat} {x : Int} (hx : xs[k]? = some x) : 0 ≤ x ∧ x ≤ 255 := h x (List.mem_of_getElem? hx)
theorem U8s.take {xs : List Int} (h : U8s xs) (k : Nat) : U8s (xs.take k) := fun x hx => h x (List.mem_of_mem_take hx)
theorem U8s.drop {xs : List Int} (h : U8s xs) (k : Nat) : U8s (xs.drop k) := fun x hx => h x (List.mem_of_mem_drop hx)
theorem U64s.at_ {xs : List Int} (h : U64s xs) {k : Nat} {x : Int} (hx : xs[k]? = some x) : U64 x := h x (List.mem_of_getElem? hx)
theorem U64s.take {xs : List Int} (h : U64s xs) (k : Nat) : U64s (xs.take k) := fun x hx => h x (List.mem_of_mem_take hx)
theorem I64.of_wf {a : Int} (h : (Lit.int .i64 a).wf = true) : I64 a := by
  have := bounds_i64 h; unfold I64; omega

/-- What a checked result is: the number, if it has a place in 64 bits; its error. -/
def ckV (s : Int) : Int := if I64 s then s else 0
def ckE (s : Int) : Int := if I64 s then 0 else 2

theorem ckV_in {s : Int} (h : I64 s) : ckV s = s := by unfold ckV; rw [if_pos h]
theorem ckE_in {s : Int} (h : I64 s) : ckE s = 0 := by unfold ckE; rw [if_pos h]
theorem ckV_out {s : Int} (h : ¬ I64 s) : ckV s = 0 := by unfold ckV; rw [if_neg h]
theorem ckE_out {s : Int} (h : ¬ I64 s) : ckE s = 2 := by unfold ckE; rw [if_neg h]
theorem ckV_i64 (s : Int) : I64 (ckV s) := by
  unfold ckV; split
  · assumption
  · unfold I64; omega
theorem ckE_cases (s : Int) : (ckE s = 0 ∧ I64 s ∧ ckV s = s) ∨ (ckE s = 2 ∧ ¬ I64 s ∧ ckV s = 0) := by
  by_cases h : I64 s
  · exact Or.inl ⟨ckE_in h, h, ckV_in h⟩
  · exact Or.inr ⟨ckE_out h, h, ckV_out h⟩

theorem ret2 {k k' : IntKind} {x y x' y' : Int} (h1 : x = x') (h2 : y = y') : Ending.returned (Value.tuple #[.int k x, .int k' y]) = Ending.returned (Value.tuple #[.int k x', .int k' y']) := by rw [h1, h2]
theorem wrap64_eq (s : Int) : wrap64 s = (s + 9223372036854775808) % 18446744073709551616 - 9223372036854775808 := by unfold wrap64; omega
theorem I64.wrap (s : Int) : I64 (wrap64 s) := by unfold I64; rw [wrap64_eq]; omega
theorem I64.wrap_in {s : Int} (h : I64 s) : wrap64 s = s := by unfold I64 at h; rw [wrap64_eq]; omega

theorem add_w1 {a b : Int} (ha : I64 a) (hb : I64 b) (h : (!decide (wrap64 (a + b) < a) == decide (b < 0)) = true) : ¬ I64 (a + b) := by
  unfold I64 at *; rw [wrap64_eq] at h
  by_cases c1 : (a + b + 9223372036854775808) % 18446744073709551616 - 9223372036854775808 < a <;> by_cases c2 : b < 0 <;> simp [c1, c2] at h <;> omega
theorem add_w2 {a b : Int} (ha : I64 a) (hb : I64 b) (h : (!decide (wrap64 (a + b) < a) == decide (b < 0)) = false) : I64 (a + b) := by
  unfold I64 at *; rw [wrap64_eq] at h
  by_cases c1 : (a + b + 9223372036854775808) % 18446744073709551616 - 9223372036854775808 < a <;> by_cases c2 : b < 0 <;> simp [c1, c2] at h <;> omega
theorem sub_w1 {a b : Int} (ha : I64 a) (hb : I64 b) (h : (!decide (a < wrap64 (a - b)) == decide (b < 0)) = true) : ¬ I64 (a - b) := by
  unfold I64 at *; rw [wrap64_eq] at h
  by_cases c1 : a < (a - b + 9223372036854775808) % 18446744073709551616 - 9223372036854775808 <;> by_cases c2 : b < 0 <;> simp [c1, c2] at h <;> omega
theorem sub_w2 {a b : Int} (ha : I64 a) (hb : I64 b) (h : (!decide (a < wrap64 (a - b)) == decide (b < 0)) = false) : I64 (a - b) := by
  unfold I64 at *; rw [wrap64_eq] at h
  by_cases c1 : a < (a - b + 9223372036854775808) % 18446744073709551616 - 9223372036854775808 <;> by_cases c2 : b < 0 <;> simp [c1, c2] at h <;> omega
theorem ck_out2 {s : Int} (h : ¬ I64 s) : Ending.returned (Value.tuple #[.int .i64 0, .int .i64 2]) = Ending.returned (Value.tuple #[.int .i64 (ckV s), .int .i64 (ckE s)]) := ret2 (ckV_out h).symm (ckE_out h).symm
theorem ck_wrap2 {s : Int} (h : I64 s) : Ending.returned (Value.tuple #[.int .i64 (wrap64 s), .int .i64 0]) = Ending.returned (Value.tuple #[.int .i64 (ckV s), .int .i64 (ckE s)]) := ret2 ((I64.wrap_in h).trans (ckV_in h).symm) (ckE_in h).symm
theorem ck_in2 {s : Int} (h : I64 s) : Ending.returned (Value.tuple #[.int .i64 s, .int .i64 0]) = Ending.returned (Value.tuple #[.int .i64 (ckV s), .int .i64 (ckE s)]) := ret2 (ckV_in h).symm (ckE_in h).symm

/-- A number's size. -/
def absI (a : Int) : Int := if a < 0 then -a else a

end Go.Proofs.YtehbdnehlfplaaaGreat
/- Words for memory: a slice that reads as a list; a call's answer in memory of its own; number by number, up to the first error. -/
namespace Go.Proofs.YtehbdnehlfplaaaGreat
open Go.RowKit
set_option maxHeartbeats 400000
set_option maxRecDepth 100000
set_option linter.unusedVariables false
theorem info_i64 : (Tryz.prog.info? 2).map (fun i => (i.zero, i.size, i.bytes)) = some (some (.int .i64 0), 1, 8) := by kernel_rfl
def seqE (num : Nat → Int × Int) : Nat → Int
  | 0 => 0
  | n + 1 => if seqE num n = 0 then (num n).2 else seqE num n
theorem seqE_stays {num : Nat → Int × Int} {k : Nat} (h : seqE num k ≠ 0) : ∀ n, k ≤ n → seqE num n = seqE num k
  | 0, hn => by have : k = 0 := by omega
                subst this; rfl
  | n + 1, hn => by
    by_cases e : k = n + 1
    · rw [e]
    · have := seqE_stays h n (by omega)
      show (if seqE num n = 0 then (num n).2 else seqE num n) = _
      rw [this, if_neg h]
def seqV (num : Nat → Int × Int) (n : Nat) : List Int := if seqE num n = 0 then (List.range n).map fun k => (num k).1 else []
/-- A call's answer: a list of numbers, in memory of the call's own, and an error; nothing that was there has turned. -/
def OwnInts (xs : List Int) (er : Int) (w : World) (e : Ending) (w' : World) : Prop :=
  ∃ A c, e = .returned (.tuple #[.slice A xs.length c, .int .i64 er]) ∧ w'.ownsRow w.heap.size 2 1 (.slice A xs.length c) xs.length (xs.map (Value.int .i64)) ∧ Below w.heap.size w w'
theorem own_made {w w' : World} {n : Nat} {f : Nat → Value} {e : TypeId} {B b : Nat} (h : w.rowIs b e n f) (hB : B ≤ b) (hn : n ≤ maxLen) :
    w.ownsRow B e 1 (.slice (some ⟨b, 0, none⟩) n n) n ((List.range n).map f) := by
  obtain ⟨c, hb, hs, hc⟩ := h
  refine ⟨by simp, .inr ⟨b, n, c, rfl, hB, hb, Nat.le_refl _, hn, by omega, ?_⟩⟩
  apply List.ext_getElem?
  intro i
  by_cases hi : i < n
  · rw [List.getElem?_take_of_lt (by omega), Array.getElem?_toList, hc i hi]
    simp [hi]
  · rw [List.getElem?_eq_none (by simp; omega), List.getElem?_eq_none (by simp; omega)]
theorem own_nil (w : World) (B : Nat) (e : TypeId) : w.ownsRow B e 1 (.slice none 0 0) 0 [] := World.ownsRow_nil w B e 1

/-- A slice at A, whatever its capacity, reads as these things, in blocks below B. -/
def Rd {α : Type} (enc : α → Value) (w : World) (B : Nat) (A : Option Addr) (xs : List α) : Prop :=
  ∀ k x, xs[k]? = some x → ∃ b off, A = some ⟨b, off, none⟩ ∧ b < B ∧ w.cell? ⟨b, off + k, none⟩ = some (enc x)
section
variable {α : Type} {enc : α → Value} {w w' : World} {B B' : Nat} {A : Option Addr} {xs : List α}
theorem Rd.keep (h : Rd enc w B A xs) (hk : ∀ p : Addr, p.block < B → w'.cell? p = w.cell? p) : Rd enc w' B A xs := fun k x hx => by
  obtain ⟨b, off, e, hb, hc⟩ := h k x hx
  exact ⟨b, off, e, hb, (hk _ hb).trans hc⟩
theorem Rd.below (h : Rd enc w B A xs) (hb : Below B w w') : Rd enc w' B A xs := h.keep fun _ hp => hb.cell hp
theorem Rd.more (h : Rd enc w B A xs) (hB : B ≤ B') : Rd enc w B' A xs := fun k x hx => by
  obtain ⟨b, off, e, hb, hc⟩ := h k x hx
  exact ⟨b, off, e, by omega, hc⟩
/-- To a world from which nothing below its own start has turned. -/
theorem Rd.on (h : Rd enc w w.heap.size A xs) (hb : Below w.heap.size w w') : Rd enc w' w'.heap.size A xs := (h.below hb).more hb.size
theorem Rd.drewN (h : Rd enc w B A xs) (n : Nat) : Rd enc (w.drewN n) B A xs := h
theorem Rd.none_ : Rd enc w B A ([] : List α) := fun k x hx => by simp at hx
theorem Rd.at_ (h : Rd enc w B A xs) {k : Nat} (hk : k < xs.length) : ∃ b off x, A = some ⟨b, off, none⟩ ∧ b < B ∧ xs[k]? = some x ∧ w.cell? ⟨b, off + k, none⟩ = some (enc x) := by
  obtain ⟨b, off, e, hb, hc⟩ := h k xs[k] (List.getElem?_eq_getElem hk)
  exact ⟨b, off, xs[k], e, hb, List.getElem?_eq_getElem hk, hc⟩
theorem Rd.of_own {base n c : Nat} {e : TypeId} (h : w.ownsRow base e 1 (.slice A n c) n (xs.map enc)) : Rd enc w w.heap.size A xs := fun k x hx => by
  have hl : xs.length = n := by simpa using h.1
  have hk : k < xs.length := (List.getElem?_eq_some_iff.1 hx).1
  rcases h.2 with ⟨h', h0⟩ | ⟨g, cap, cur, h', _, hg, _⟩
  · omega
  · simp only [Value.slice.injEq] at h'
    obtain ⟨rfl, _, rfl⟩ := h'
    refine ⟨g, 0, rfl, ?_, ?_⟩
    · exact (Array.getElem?_eq_some_iff.1 hg).1
    · rw [Nat.zero_add, h.cellAt k (by omega)]
      simp [hx]
/-- Memory of the call's own: it lies from base on, and below the heap's end. -/
theorem own_rd {base c : Nat} {e : TypeId} (h : w.ownsRow base e 1 (.slice A xs.length c) xs.length (xs.map enc)) : Rd enc w w.heap.size A xs := .of_own h
/-- It stays where only what lies above its world's end turns. -/
theorem own_on {base n c : Nat} {e : TypeId} {vs : List Value} (h : w.ownsRow base e 1 (.slice A n c) n vs) (hb : Below w.heap.size w w') : w'.ownsRow base e 1 (.slice A n c) n vs := by
  refine ⟨h.1, ?_⟩
  rcases h.2 with hn | ⟨g, cap, cur, hv, hg, hh, r⟩
  · exact .inl hn
  · exact .inr ⟨g, cap, cur, hv, hg, (hb.block g (Array.getElem?_eq_some_iff.1 hh).1).trans hh, r⟩
theorem own_lt {base n c g : Nat} {e : TypeId} {vs : List Value} (h : w.ownsRow base e 1 (.slice (some ⟨g, 0, none⟩) n c) n vs) : g < w.heap.size := (h.lt g rfl).2
theorem own_cell {base n c k : Nat} {e : TypeId} {zs : List Int} (h : w.ownsRow base e 1 (.slice A n c) n (zs.map (Value.int .i64))) (hk : k < zs.length) :
    ∃ g, A = some ⟨g, 0, none⟩ ∧ base ≤ g ∧ w.cell? ⟨g, k, none⟩ = some (.int .i64 (zs.getD k 0)) ∧ w.frozen? ⟨g, k, none⟩ = false := by
  have hl : zs.length = n := by simpa using h.1
  have h' := h
  rcases h.2 with ⟨he, h0⟩ | ⟨g, cap, cur, he, hg, _⟩
  · omega
  · simp only [Value.slice.injEq] at he
    obtain ⟨rfl, _, rfl⟩ := he
    refine ⟨g, rfl, hg, ?_, h'.frozenAt k⟩
    rw [h'.cellAt k (by omega)]
    simp [List.getD, hk]
theorem own_base {base base' n c : Nat} {e : TypeId} {vs : List Value} (h : w.ownsRow base e 1 (.slice A n c) n vs) (hb : base' ≤ base) : w.ownsRow base' e 1 (.slice A n c) n vs := by
  refine ⟨h.1, ?_⟩
  rcases h.2 with hn | ⟨g, cap, cur, hv, hg, r⟩
  · exact .inl hn
  · exact .inr ⟨g, cap, cur, hv, by omega, r⟩
end
theorem lt_of_cell {w : World} {p : Addr} {v : Value} (h : w.cell? p = some v) : p.block < w.heap.size := by
  rcases Nat.lt_or_ge p.block w.heap.size with hlt | hge
  · exact hlt
  · rw [World.cell?, Array.getElem?_eq_none hge] at h; cases h
/-- Every one is an int64. -/
def I64s (xs : List Int) : Prop := ∀ x ∈ xs, I64 x
theorem I64s.at_ {xs : List Int} (h : I64s xs) {k : Nat} {x : Int} (hx : xs[k]? = some x) : I64 x := h x (List.mem_of_getElem? hx)
theorem getD_of {xs : List Int} {k : Nat} {x : Int} (hx : xs[k]? = some x) : xs.getD k 0 = x := by simp [List.getD, hx]
/-- Below: what a call leaves as it was, as the walk asks it. -/
theorem bcells {W w1 : World} (hb : Below W.heap.size W w1) : (∀ b o, b < W.heap.size → w1.cell? ⟨b, o, none⟩ = W.cell? ⟨b, o, none⟩) ∧ (∀ b o, b < W.heap.size → w1.frozen? ⟨b, o, none⟩ = W.frozen? ⟨b, o, none⟩) :=
  ⟨fun b o h => hb.cell (p := ⟨b, o, none⟩) h, fun b o h => hb.frozen (p := ⟨b, o, none⟩) h⟩
/-- Numbers added up, up to the first error. -/
def tot (num : Nat → Int × Int) : Nat → Int × Int
  | 0 => (0, 0)
  | n + 1 => if (tot num n).2 = 0 then (if (num n).2 = 0 then (ckV ((tot num n).1 + (num n).1), ckE ((tot num n).1 + (num n).1)) else (0, (num n).2)) else tot num n
theorem tot_stays {num : Nat → Int × Int} {k : Nat} (h : (tot num k).2 ≠ 0) : ∀ n, k ≤ n → tot num n = tot num k
  | 0, hn => by have : k = 0 := by omega
                subst this; rfl
  | n + 1, hn => by
    by_cases e : k = n + 1
    · rw [e]
    · have := tot_stays h n (by omega)
      rw [tot, this, if_neg h]
end Go.Proofs.YtehbdnehlfplaaaGreat
/- 'append' onto a list of the call's own, whatever list is appended: the walk goes on in one way. -/
namespace Go.Proofs.YtehbdnehlfplaaaGreat
open Go.RowKit
set_option maxRecDepth 100000
set_option linter.unusedVariables false
section
variable {P : Program} {α : Type}
theorem app_nothing (w : World) (base : Nat) (t ty e : TypeId) (i : TypeInfo) (ht : P.underlying t = some (.slice e)) (hi : P.info? e = some i)
    (v : Value) (n : Nat) (vs : List Value) (hown : w.ownsRow base e 1 v n vs) (c : Nat) : (Builtin.append_ #[t, t] ty #[v, .slice none 0 c]).run P w = .ok v w := by
  rcases hown.2 with ⟨rfl, rfl⟩ | ⟨g, cap, cur, rfl, _, _, hnc, _⟩
  · simp [Builtin.append_, run_underlying ht, sizeOf, typeInfo, hi, Builtin.lenOf, Builtin.firstCells]
  · simp [Builtin.append_, run_underlying ht, sizeOf, typeInfo, hi, Builtin.lenOf, Builtin.firstCells, hnc, storeCells]
/-- The value of a list of the call's own. -/
theorem own_shape {w : World} {base n : Nat} {e : TypeId} {v : Value} {vs : List Value} (h : w.ownsRow base e 1 v n vs) : ∃ A c, v = .slice A n c := by
  rcases h.2 with ⟨rfl, rfl⟩ | ⟨g, cap, cur, rfl, _⟩
  · exact ⟨_, _, rfl⟩
  · exact ⟨_, _, rfl⟩
theorem run_app (enc : α → Value) (h1 : ∀ x, (enc x).oneCell' = true) (w : World) (base : Nat) (t ty e : TypeId) (z : Value) (bytes : Nat) (ht : P.underlying t = some (.slice e))
    (hinfo : (P.info? e).map (fun i => (i.zero, i.size, i.bytes)) = some (some z, 1, bytes)) (hzs : z.cells.size = 1)
    (ys : List α) (A0 : Option Addr) (c0 : Nat) (hown : w.ownsRow base e 1 (.slice A0 ys.length c0) ys.length (ys.map enc))
    (xs : List α) (A : Option Addr) (c B : Nat) (hr : Rd enc w B A xs) (h63 : ys.length + xs.length ≤ maxLen) (hbytes : (ys.length + xs.length) * bytes ≤ 140737488355328) (hbase : base ≤ w.heap.size) :
    ∃ A' c' w', (Builtin.append_ #[t, t] ty #[.slice A0 ys.length c0, .slice A xs.length c]).run P w = .ok (.slice A' (ys ++ xs).length c') w' ∧ w'.ownsRow base e 1 (.slice A' (ys ++ xs).length c') (ys ++ xs).length ((ys ++ xs).map enc) ∧
      Below base w w' ∧ w.grownBy w' (Value.slice A0 ys.length c0).ownBlock ∧ ((Value.slice A' (ys ++ xs).length c').ownBlock = (Value.slice A0 ys.length c0).ownBlock ∨ (Value.slice A' (ys ++ xs).length c').ownBlock = some w.heap.size) := by
  obtain ⟨i, hi, hzz⟩ := Option.map_eq_some_iff.1 hinfo
  simp only [Prod.mk.injEq] at hzz
  obtain ⟨hz, hs, hb⟩ := hzz
  have hlen : (ys ++ xs).length = ys.length + xs.length := List.length_append
  rcases A with _ | ad
  · have hx : xs = [] := by
      cases xs with
      | nil => rfl
      | cons x xs =>
        obtain ⟨_, _, he, _⟩ := hr 0 x rfl
        cases he
    subst hx
    rw [List.append_nil]
    exact ⟨A0, c0, w, app_nothing w base t ty e i ht hi _ _ _ hown c, hown, Below.refl _ _, World.grownBy.refl w _, .inl rfl⟩
  · have hcells : ∀ j u, (xs.map enc)[j]? = some u → w.cell? (ad.add j) = some u := by
      intro j u hu
      rw [List.getElem?_map, Option.map_eq_some_iff] at hu
      obtain ⟨x, hx, rfl⟩ := hu
      obtain ⟨b, off, he, _, hc⟩ := hr j x hx
      injection he with he
      subst he
      rw [Addr.add_lit]
      exact hc
    obtain ⟨v', w', hrun, h2, h3, _, h5⟩ := run_append_own_at (P := P) w base t ty e i z 1 bytes ht hi hz hs hb hzs (by decide) _ ys.length (ys.map enc) hown ad xs.length c (xs.map enc) (by simp) hcells (by
      intro u hu
      obtain ⟨x, _, rfl⟩ := List.mem_map.1 hu
      exact h1 x) h63 hbytes hbase
    obtain ⟨A', c', rfl⟩ := own_shape h2
    rw [← List.map_append] at h2
    rw [← hlen] at h2 hrun h5
    refine ⟨A', c', w', hrun, h2, (Below.refl base w).grown h3 hbase fun k hk => (hown.lt k hk).1, h3, h5⟩
theorem wpList_app (enc : α → Value) (h1 : ∀ x, (enc x).oneCell' = true) (w : World) {ops : Array Oper} {rest : List Oper} {o : Oper} {a : Act} {Q : Exit → Act → World → Prop} (hgd : o.guard = none) (s x : Operand) (t : TypeId)
    (ho : o.op = .call { callee := .builtin .append, args := #[s, x], argTypes := #[t, t] })
    (base : Nat) (e : TypeId) (z : Value) (bytes : Nat) (ht : P.underlying t = some (.slice e)) (hinfo : (P.info? e).map (fun i => (i.zero, i.size, i.bytes)) = some (some z, 1, bytes)) (hzs : z.cells.size = 1)
    (ys : List α) (A0 : Option Addr) (c0 : Nat) (hs : a.eval s = .slice A0 ys.length c0) (hown : w.ownsRow base e 1 (.slice A0 ys.length c0) ys.length (ys.map enc))
    (xs : List α) (A : Option Addr) (c B : Nat) (hx : a.eval x = .slice A xs.length c) (hr : Rd enc w B A xs) (h63 : ys.length + xs.length ≤ maxLen) (hbytes : (ys.length + xs.length) * bytes ≤ 140737488355328) (hbase : base ≤ w.heap.size)
    (h : ∀ (S : List α) (A' : Option Addr) (c' : Nat) (w' : World), S = ys ++ xs → w'.ownsRow base e 1 (.slice A' S.length c') S.length (S.map enc) → Below base w w' → w.grownBy w' (Value.slice A0 ys.length c0).ownBlock → wpList P ops Q rest (a.put o.dst (.slice A' S.length c')) w') :
    wpList P ops Q (o :: rest) a w := by
  refine wpList_plain hgd fun _ hK => ?_
  obtain ⟨A', c', w', hrun, h2, h3, h4, _⟩ := run_app (P := P) enc h1 w base t o.type e z bytes ht hinfo hzs ys A0 c0 hown xs A c B hr h63 hbytes hbase
  unfold Oper.wp execOp
  simp only [ho, resolve, invoke, builtin, Sem.run_bind, Sem.run_pure, Result.andThen_ok, List.map_toArray, List.map_cons, List.map_nil, hs, hx, hrun]
  exact hK _ _ (h _ A' c' w' rfl h2 h3 h4)
/-- One thing appended: it lies in a cell of its own. -/
theorem rd_one {enc : α → Value} {w : World} {b o : Nat} {x : α} (hc : w.cell? ⟨b, o, none⟩ = some (enc x)) : Rd enc w w.heap.size (some ⟨b, o, none⟩) [x] := fun k y hy => by
  cases k with
  | zero =>
    simp only [List.getElem?_cons_zero, Option.some.injEq] at hy
    subst hy
    exact ⟨b, o, rfl, lt_of_cell hc, hc⟩
  | succ k => simp at hy
end
end Go.Proofs.YtehbdnehlfplaaaGreat
/- Words that every layer's walks use: quiet calls, blocks just laid, lists that are the same. -/
namespace Go.Proofs.YtehbdnehlfplaaaGreat
open Go.RowKit
set_option maxHeartbeats 400000
set_option maxRecDepth 100000
set_option linter.unusedVariables false
theorem quietL {P : Program} {f : FuncId} {args : Array Value} {w : World} {v : Value} (h : ∀ W : World, Calls P f args W fun e w' => e = .returned v ∧ W = w') (n : Nat) :
    Calls P f args (w.drewN n) fun e w' => e = .returned v ∧ ∃ m, w' = w.drewN m := (h _).mono fun _ _ ⟨he, hm⟩ => ⟨he, n, hm.symm⟩
theorem belowN (B : Nat) (w : World) (n : Nat) : Below B w (w.drewN n) := ⟨rfl, rfl, rfl, Nat.le_refl _, fun _ _ => rfl⟩
theorem below_step {B : Nat} {w W w1 : World} (h0 : Below B w W) (h1 : Below W.heap.size W w1) (hB : B ≤ w.heap.size) : Below B w w1 := h0.trans (h1.mono (Nat.le_trans hB h0.size))
theorem two_cells (w : World) (u v : Value) (t s : TypeId) :
    ((w.alloc (.cells #[u] t)).alloc (.cells #[v] s)).cell? ⟨w.heap.size, 0, none⟩ = some u ∧ ((w.alloc (.cells #[u] t)).alloc (.cells #[v] s)).cell? ⟨w.heap.size + 1, 0, none⟩ = some v ∧
      Below w.heap.size w ((w.alloc (.cells #[u] t)).alloc (.cells #[v] s)) := by
  refine ⟨?_, ?_, by go_grown⟩ <;> simp [go_sem]
theorem one_cell (w : World) (u : Value) (t : TypeId) : (w.alloc (.cells #[u] t)).cell? ⟨w.heap.size, 0, none⟩ = some u ∧ Below w.heap.size w (w.alloc (.cells #[u] t)) := by
  refine ⟨?_, by go_grown⟩; simp [go_sem]
/-- Are they the same? -/
def eqB (xs ys : List Int) : Bool := decide (xs = ys)
theorem take_step {xs ys : List Int} {k : Nat} {x y : Int} (h : xs.take k = ys.take k) (hx : xs[k]? = some x) (hy : ys[k]? = some y) (e : x = y) : xs.take (k + 1) = ys.take (k + 1) := by
  rw [List.take_add_one, List.take_add_one, h, hx, hy, e]
theorem eqB_no {xs ys : List Int} {k : Nat} {x y : Int} (hx : xs[k]? = some x) (hy : ys[k]? = some y) (e : x ≠ y) : eqB xs ys = false := by
  unfold eqB
  rw [decide_eq_false_iff_not]
  rintro rfl
  rw [hx] at hy
  exact e (Option.some.inj hy)
theorem eqB_yes {xs ys : List Int} {k : Nat} (h : xs.take k = ys.take k) (hx : k = xs.length) (hl : xs.length = ys.length) : eqB xs ys = true := by
  unfold eqB
  rw [List.take_of_length_le (by omega), List.take_of_length_le (by omega)] at h
  simpa using h
theorem eqB_len {xs ys : List Int} (h : xs.length ≠ ys.length) : eqB xs ys = false := by
  unfold eqB
  rw [decide_eq_false_iff_not]
  rintro rfl
  exact h rfl
theorem eqB_self (xs : List Int) : eqB xs xs = true := by unfold eqB; simp
theorem rd_block {α : Type} {enc : α → Value} {w : World} {b : Nat} {t : TypeId} (xs : List α) (fr : Nat × Nat) (h : w.heap[b]? = some (.cells (xs.map enc).toArray t fr)) : Rd enc w w.heap.size (some ⟨b, 0, none⟩) xs := fun k x hx => by
  refine ⟨b, 0, rfl, (Array.getElem?_eq_some_iff.1 h).1, ?_⟩
  have hk := (List.getElem?_eq_some_iff.1 hx)
  rw [Nat.zero_add, cell_of_row w b k _ t fr h]
  simp [hx]
theorem rd_new {α : Type} {enc : α → Value} (w : World) (t : TypeId) (xs : List α) : Rd enc (w.alloc (.cells (xs.map enc).toArray t)) (w.alloc (.cells (xs.map enc).toArray t)).heap.size (some ⟨w.heap.size, 0, none⟩) xs := rd_block xs (0, 0) (heap_alloc_new w _)
/-- What the call's own list's room is. -/
theorem own_cap {w : World} {base n c : Nat} {e : TypeId} {A : Option Addr} {vs : List Value} (h : w.ownsRow base e 1 (.slice A n c) n vs) : n ≤ c ∧ c ≤ 9223372036854775807 := by
  rcases h.2 with ⟨he, h0⟩ | ⟨g, cap, cur, he, _, _, h1, h2, _⟩
  · simp only [Value.slice.injEq] at he
    omega
  · simp only [Value.slice.injEq] at he
    unfold maxLen at h2
    omega
theorem own_cellk {w : World} {q : IntKind} {A : Option Addr} {base n c k : Nat} {e : TypeId} {zs : List Int} (h : w.ownsRow base e 1 (.slice A n c) n (zs.map (Value.int q))) (hk : k < zs.length) :
    ∃ g, A = some ⟨g, 0, none⟩ ∧ base ≤ g ∧ w.cell? ⟨g, k, none⟩ = some (.int q (zs.getD k 0)) ∧ w.frozen? ⟨g, k, none⟩ = false := by
  have hl : zs.length = n := by simpa using h.1
  have h' := h
  rcases h.2 with ⟨he, h0⟩ | ⟨g, cap, cur, he, hg, _⟩
  · omega
  · simp only [Value.slice.injEq] at he
    obtain ⟨rfl, _, rfl⟩ := he
    refine ⟨g, rfl, hg, ?_, h'.frozenAt k⟩
    rw [h'.cellAt k (by omega)]
    simp [List.getD, hk]
/-- Room made ahead. -/
theorem run_room {P : Program} (t e : TypeId) (z : Value) (bytes : Nat) (ht : P.underlying t = some (.slice e)) (hinfo : (P.info? e).map (fun i => (i.zero, i.size, i.bytes)) = some (some z, 1, bytes)) (hz1 : z.cells = #[z])
    (c : Nat) (hbytes : bytes * c ≤ 281474976710656) (h63 : c ≤ 9223372036854775807) (w : World) :
    (Instr.makeSlice t (.int .i64 0) (.int .i64 (c : Int))).run P w = .ok (.slice (some ⟨w.heap.size, 0, none⟩) 0 c) (w.alloc (.cells (madeCells #[z] c) e)) := by
  obtain ⟨i, hi, hzz⟩ := Option.map_eq_some_iff.1 hinfo
  simp only [Prod.mk.injEq] at hzz
  obtain ⟨hz, hs, hb⟩ := hzz
  have h : ((i.bytes * c : Nat) : Int) ≤ 281474976710656 := by rw [hb]; omega
  have hr := run_make (P := P) w t e i z ht hi hz .i64 .i64 0 c (Int.le_refl _) (by omega) (by rwa [Int.natCast_mul] at h) (by omega)
  simp only [Int.toNat_natCast, hs, Nat.mul_one, hz1, Int.toNat_zero] at hr
  exact hr
theorem own_room (w : World) (t : TypeId) (z : Value) (c : Nat) (hc : c ≤ maxLen) {B : Nat} (hB : B ≤ w.heap.size) :
    (w.alloc (.cells (madeCells #[z] c) t)).ownsRow B t 1 (.slice (some ⟨w.heap.size, 0, none⟩) 0 c) 0 [] :=
  World.ownsRow_made w _ c hB hc (by rw [size_madeCells, Nat.mul_one])
/-- Where what is left of a slice lies. -/
def cutA (A : Option Addr) (k c : Nat) : Option Addr := if c = k then A else A.map (·.add k)
theorem run_upto {P : Program} (t : TypeId) (ht : P.underlying t = some (.slice (P.elem t))) (hs : ∀ w, (sizeOf (P.elem t)).run P w = .ok 1 w) (A : Option Addr) (len c k : Nat) (hk : k ≤ c) (w : World) :
    (Instr.slice t (.slice A len c) none (some (.int .i64 (k : Int))) none).run P w = .ok (.slice (cutA A 0 c) k c) w := by
  rw [run_slice_h w t A len c ht .i64 (k : Int) (by omega) (by omega)]
  simp [hs, sliced, cutA, Result.andThen]
theorem run_part {P : Program} (t : TypeId) (ht : P.underlying t = some (.slice (P.elem t))) (hs : ∀ w, (sizeOf (P.elem t)).run P w = .ok 1 w) (A : Option Addr) (len c k j : Nat) (hk : k ≤ j) (hj : j ≤ c) (w : World) :
    (Instr.slice t (.slice A len c) (some (.int .i64 (k : Int))) (some (.int .i64 (j : Int))) none).run P w = .ok (.slice (cutA A k c) (j - k) (c - k)) w := by
  rw [run_slice_lh w t A len c ht .i64 .i64 (k : Int) (j : Int) (by omega) (by omega) (by omega)]
  simp [hs, sliced, cutA, Result.andThen]
theorem Rd.cut {α : Type} {enc : α → Value} {w : World} {B : Nat} {A : Option Addr} {xs : List α} {c : Nat} (h : Rd enc w B A xs) (k : Nat) (hc : xs.length ≤ c) : Rd enc w B (cutA A k c) (xs.drop k) := fun j x hx => by
  unfold cutA
  by_cases e : c = k
  · rw [List.drop_eq_nil_of_le (by omega)] at hx
    simp at hx
  · rw [if_neg e]
    rw [List.getElem?_drop] at hx
    obtain ⟨b, off, rfl, hb, hc⟩ := h (k + j) x hx
    refine ⟨b, off + k, by simp [Go.WideShapes.add_plain], hb, ?_⟩
    rw [Nat.add_assoc]
    exact hc
theorem Rd.some_cut {α : Type} {enc : α → Value} {w : World} {B : Nat} {A : Option Addr} {xs : List α} (h : Rd enc w B A xs) (k : Nat) : Rd enc w B A (xs.take k) := fun j x hx => h j x (by
  rw [List.getElem?_take] at hx
  split at hx
  · exact hx
  · simp at hx)
theorem Rd.cut0 {α : Type} {enc : α → Value} {w : World} {B : Nat} {A : Option Addr} {xs : List α} {c : Nat} (h : Rd enc w B A xs) (hc : xs.length ≤ c) (k : Nat) : Rd enc w B (cutA A 0 c) (xs.take k) := by
  have := (h.cut 0 hc).some_cut k
  rwa [List.drop_zero] at this
end Go.Proofs.YtehbdnehlfplaaaGreat
/- A block of the call's own that holds these values, cell by cell: structs in boxes; what stores and calls leave of them. -/
namespace Go.Proofs.YtehbdnehlfplaaaGreat
open Go.RowKit
set_option maxRecDepth 100000
set_option linter.unusedVariables false
/-- The cells of a block, none of them frozen. -/
def BoxL (w : World) (g : Nat) (vs : List Value) : Prop := ∀ (k : Nat) (v : Value), vs[k]? = some v → w.cell? ⟨g, k, none⟩ = some v ∧ w.frozen? ⟨g, k, none⟩ = false
section
variable {w w' : World} {g B : Nat} {vs : List Value}
theorem BoxL.below (h : BoxL w g vs) (hb : Below B w w') (hg : g < B) : BoxL w' g vs := fun k v hv =>
  ⟨(hb.cell (p := ⟨g, k, none⟩) hg).trans (h k v hv).1, (hb.frozen (p := ⟨g, k, none⟩) hg).trans (h k v hv).2⟩
theorem BoxL.new (w : World) (vs : List Value) (t : TypeId) : BoxL (w.alloc (.cells vs.toArray t)) w.heap.size vs := fun k v hv => by
  have hn := heap_alloc_new w (.cells vs.toArray t)
  refine ⟨?_, ?_⟩
  · rw [cell_of_row _ _ k _ t (0, 0) hn]
    simp [hv]
  · unfold World.frozen?
    simp only [hn]
    simp
theorem BoxL.one (h : BoxL w g vs) {k : Nat} {v : Value} (hv : vs[k]? = some v) (u : Value) : BoxL (w.setCell ⟨g, k, none⟩ u) g (vs.set k u) := fun j x hx => by
  refine ⟨?_, ?_⟩
  · by_cases e : j = k
    · subst e
      rw [List.getElem?_set_self (List.getElem?_eq_some_iff.1 hv).1] at hx
      obtain rfl : u = x := Option.some.inj hx
      exact World.cell?_setCell_same _ _ _ (h j v hv).1
    · rw [List.getElem?_set_ne (by omega)] at hx
      rw [World.cell?_setCell_other _ _ _ _ (by intro e'; injection e' with _ e2; exact e e2.symm)]
      exact (h j x hx).1
  · rw [World.frozen?_setCell]
    by_cases e : j = k
    · subst e; exact (h j v hv).2
    · rw [List.getElem?_set_ne (by omega)] at hx
      exact (h j x hx).2
theorem BoxL.other (h : BoxL w g vs) {p : Addr} (hp : p.block ≠ g) (u : Value) : BoxL (w.setCell p u) g vs := fun j x hx => by
  refine ⟨?_, ?_⟩
  · rw [World.cell?_setCell_other _ _ _ _ (by rintro rfl; exact hp rfl)]
    exact (h j x hx).1
  · rw [World.frozen?_setCell]; exact (h j x hx).2
theorem BoxL.drew (h : BoxL w g vs) : BoxL w.drew g vs := h
theorem BoxL.lt (h : BoxL w g vs) (h0 : 0 < vs.length) : g < w.heap.size := lt_of_cell (h 0 _ (List.getElem?_eq_getElem h0)).1
/-- The facts of two, eight, eleven cells. -/
theorem BoxL.two {a b : Value} (h : BoxL w g [a, b]) : w.cell? ⟨g, 0, none⟩ = some a ∧ w.cell? ⟨g, 1, none⟩ = some b ∧ w.frozen? ⟨g, 0, none⟩ = false ∧ w.frozen? ⟨g, 1, none⟩ = false :=
  ⟨(h 0 a rfl).1, (h 1 b rfl).1, (h 0 a rfl).2, (h 1 b rfl).2⟩
end
theorem own_set {w : World} {base n : Nat} {e : TypeId} {v : Value} {vs : List Value} (h : w.ownsRow base e 1 v n vs) {p : Addr} (hp : p.block < base) (u : Value) : (w.setCell p u).ownsRow base e 1 v n vs := by
  refine ⟨h.1, ?_⟩
  rcases h.2 with hn | ⟨g, cap, cur, hv, hg, hh, r⟩
  · exact .inl hn
  · exact .inr ⟨g, cap, cur, hv, hg, (Below.heap_setCell w p u g (by omega)).trans hh, r⟩
end Go.Proofs.YtehbdnehlfplaaaGreat
/- Stores into a block of the call's own, seen from other blocks. -/
namespace Go.Proofs.YtehbdnehlfplaaaGreat
open Go.RowKit
set_option maxRecDepth 100000
set_option linter.unusedVariables false
theorem BoxL.far {w w' : World} {g : Nat} {vs : List Value} {row : Option Nat} (h : BoxL w g vs) (hg : w.grownBy w' row) (hr : some g ≠ row) (hl : g < w.heap.size) : BoxL w' g vs := fun k v hv =>
  ⟨(World.cell?_of_block (a := ⟨g, k, none⟩) (hg.block g hl hr)).trans (h k v hv).1, (World.frozen?_of_block (a := ⟨g, k, none⟩) (hg.block g hl hr)).trans (h k v hv).2⟩
/-- Where a list of the call's own lies. -/
theorem row_in {w : World} {base n c : Nat} {e : TypeId} {A : Option Addr} {vs : List Value} (h : w.ownsRow base e 1 (.slice A n c) n vs) : ∀ b, A.map (·.block) = some b → base ≤ b ∧ b < w.heap.size := by
  intro b hb
  rcases h.2 with ⟨he, _⟩ | ⟨g, cap, cur, he, hg, hh, _⟩
  · simp only [Value.slice.injEq] at he
    rw [he.1] at hb
    cases hb
  · simp only [Value.slice.injEq] at he
    rw [he.1] at hb
    simp at hb
    subst hb
    exact ⟨hg, (Array.getElem?_eq_some_iff.1 hh).1⟩
end Go.Proofs.YtehbdnehlfplaaaGreat
/- A step of a region that draws: an append onto a list of the call's own. -/
/- Two lists of the call's own that grow by turns: an append that tells where its list lies then. -/
namespace Go.Proofs.YtehbdnehlfplaaaGreat
open Go.RowKit
set_option maxRecDepth 100000
set_option linter.unusedVariables false
/-- Where a list lies behind an append: where it lay, or in a block that is new. -/
def went (A' A : Option Addr) (n : Nat) : Prop := A'.map (·.block) = A.map (·.block) ∨ A'.map (·.block) = some n
section
variable {α : Type} {P : Program}
theorem ob_eq (A : Option Addr) (n c : Nat) : (Value.slice A n c).ownBlock = A.map (·.block) := by cases A <;> rfl
theorem wpList_app5 (enc : α → Value) (h1 : ∀ x, (enc x).oneCell' = true) (w : World) {ops : Array Oper} {rest : List Oper} {o : Oper} {a : Act} {Q : Exit → Act → World → Prop} (hgd : o.guard = none) (s x : Operand) (t : TypeId)
    (ho : o.op = .call { callee := .builtin .append, args := #[s, x], argTypes := #[t, t] })
    (base : Nat) (e : TypeId) (z : Value) (bytes : Nat) (ht : P.underlying t = some (.slice e)) (hinfo : (P.info? e).map (fun i => (i.zero, i.size, i.bytes)) = some (some z, 1, bytes)) (hzs : z.cells.size = 1)
    (ys : List α) (A0 : Option Addr) (c0 : Nat) (hs : a.eval s = .slice A0 ys.length c0) (hown : w.ownsRow base e 1 (.slice A0 ys.length c0) ys.length (ys.map enc))
    (xs : List α) (A : Option Addr) (c B : Nat) (hx : a.eval x = .slice A xs.length c) (hr : Rd enc w B A xs) (h63 : ys.length + xs.length ≤ maxLen) (hbytes : (ys.length + xs.length) * bytes ≤ 140737488355328) (hbase : base ≤ w.heap.size)
    (h : ∀ (S : List α) (A' : Option Addr) (c' : Nat) (w' : World), S = ys ++ xs → w'.ownsRow base e 1 (.slice A' S.length c') S.length (S.map enc) → Below base w w' → w.grownBy w' (A0.map (·.block)) → went A' A0 w.heap.size → wpList P ops Q rest (a.put o.dst (.slice A' S.length c')) w') :
    wpList P ops Q (o :: rest) a w := by
  refine wpList_plain hgd fun _ hK => ?_
  obtain ⟨A', c', w', hrun, h2, h3, h4, h5⟩ := run_app (P := P) enc h1 w base t o.type e z bytes ht hinfo hzs ys A0 c0 hown xs A c B hr h63 hbytes hbase
  rw [ob_eq] at h4
  rw [ob_eq, ob_eq] at h5
  unfold Oper.wp execOp
  simp only [ho, resolve, invoke, builtin, Sem.run_bind, Sem.run_pure, Result.andThen_ok, List.map_toArray, List.map_cons, List.map_nil, hs, hx, hrun]
  exact hK _ _ (h _ A' c' w' rfl h2 h3 h4 h5)
end
/-- Two lists that lie apart. -/
def apt (A B : Option Addr) : Prop := ∀ g, A.map (·.block) = some g → B.map (·.block) ≠ some g
theorem apt.symm {A B : Option Addr} (h : apt A B) : apt B A := fun g h1 h2 => h g h2 h1
theorem apt.app {A A' B : Option Addr} (h : apt A B) {m : Nat} (h5 : went A' A m) (hB : ∀ g, B.map (·.block) = some g → g < m) : apt A' B := fun g h1 h2 => by
  rcases h5 with e | e
  · exact h g (by rw [← e, h1]) h2
  · rw [e] at h1
    injection h1 with h1
    have := hB g h2
    omega
end Go.Proofs.YtehbdnehlfplaaaGreat
/- Lists of lists in memory, by their slices; part of them and turned round. -/
namespace Go.Proofs.YtehbdnehlfplaaaGreat
open Go.RowKit
set_option maxRecDepth 100000
set_option linter.unusedVariables false
/-- A slice of slices at A reads as these lists. -/
def RdRows (w : World) (B : Nat) (A : Option Addr) (rows : List (List Int)) : Prop :=
  ∀ k xs, rows[k]? = some xs → ∃ b off A' c', A = some ⟨b, off, none⟩ ∧ b < B ∧ w.cell? ⟨b, off + k, none⟩ = some (.slice A' xs.length c') ∧ Rd (Value.int .i64) w B A' xs
theorem RdRows.below {w w' : World} {B : Nat} {A : Option Addr} {rows : List (List Int)} (h : RdRows w B A rows) (hb : Below B w w') : RdRows w' B A rows := fun k xs hx => by
  obtain ⟨b, off, A', c', e, hl, hc, hr⟩ := h k xs hx
  exact ⟨b, off, A', c', e, hl, (hb.cell (p := ⟨b, off + k, none⟩) hl).trans hc, hr.below hb⟩
theorem RdRows.more {w : World} {B B' : Nat} {A : Option Addr} {rows : List (List Int)} (h : RdRows w B A rows) (hB : B ≤ B') : RdRows w B' A rows := fun k xs hx => by
  obtain ⟨b, off, A', c', e, hl, hc, hr⟩ := h k xs hx
  exact ⟨b, off, A', c', e, by omega, hc, hr.more hB⟩
theorem RdRows.on {w w' : World} {A : Option Addr} {rows : List (List Int)} (h : RdRows w w.heap.size A rows) (hb : Below w.heap.size w w') : RdRows w' w'.heap.size A rows := (h.below hb).more hb.size
/-- A slice's three parts. -/
abbrev Sl := Option Addr × Nat × Nat
def encS (p : Sl) : Value := .slice p.1 p.2.1 p.2.2
/-- The slices by which lists lie in memory. -/
def Fits (w : World) (B : Nat) (ps : List Sl) (rows : List (List Int)) : Prop := ps.length = rows.length ∧ ∀ (k : Nat) (p : Sl) (xs : List Int), ps[k]? = some p → rows[k]? = some xs → p.2.1 = xs.length ∧ Rd (Value.int .i64) w B p.1 xs
theorem rows_join {w : World} {B : Nat} {A : Option Addr} {ps : List Sl} {rows : List (List Int)} (h : Rd encS w B A ps) (hf : Fits w B ps rows) : RdRows w B A rows := fun k xs hx => by
  have hk : k < ps.length := by rw [hf.1]; exact (List.getElem?_eq_some_iff.1 hx).1
  obtain ⟨b, off, e, hl, hc⟩ := h k ps[k] (List.getElem?_eq_getElem hk)
  obtain ⟨h1, h2⟩ := hf.2 k _ xs (List.getElem?_eq_getElem hk) hx
  refine ⟨b, off, ps[k].1, ps[k].2.2, e, hl, ?_, h2⟩
  rw [hc]
  unfold encS
  rw [h1]
end Go.Proofs.YtehbdnehlfplaaaGreat
/- A list of rows of the call's own, each of which is of the call's own: how it grows. -/
namespace Go.Proofs.YtehbdnehlfplaaaGreat
open Go.RowKit
set_option maxRecDepth 100000
set_option linter.unusedVariables false
theorem info_row : (Tryz.prog.info? 22).map (fun i => (i.zero, i.size, i.bytes)) = some (some (.slice none 0 0), 1, 24) := by kernel_rfl
/-- Numbers that lie in a block of the call's own, and not in that of the list of rows; they may be set. -/
def RdX (w : World) (base : Nat) (G : Option Nat) (A : Option Addr) (xs : List Int) : Prop :=
  ∀ j x, xs[j]? = some x → ∃ b o, A = some ⟨b, o, none⟩ ∧ base ≤ b ∧ b < w.heap.size ∧ G ≠ some b ∧ w.cell? ⟨b, o + j, none⟩ = some (.int .i64 x) ∧ w.frozen? ⟨b, o + j, none⟩ = false
theorem RdX.rd {w : World} {base : Nat} {G : Option Nat} {A : Option Addr} {xs : List Int} (h : RdX w base G A xs) : Rd (Value.int .i64) w w.heap.size A xs := fun j x hx => by
  obtain ⟨b, o, e, _, hl, _, hc, _⟩ := h j x hx
  exact ⟨b, o, e, hl, hc⟩
theorem RdX.none_ {w : World} {base : Nat} {G : Option Nat} : RdX w base G none [] := fun j x hx => by simp at hx
theorem RdX.on {w w' : World} {base : Nat} {G : Option Nat} {A : Option Addr} {xs : List Int} (h : RdX w base G A xs) (hb : Below w.heap.size w w') : RdX w' base G A xs := fun j x hx => by
  obtain ⟨b, o, e, hg, hl, hn, hc, hf⟩ := h j x hx
  exact ⟨b, o, e, hg, Nat.lt_of_lt_of_le hl hb.size, hn, (hb.cell (p := ⟨b, o + j, none⟩) hl).trans hc, (hb.frozen (p := ⟨b, o + j, none⟩) hl).trans hf⟩
theorem RdX.set {w : World} {base : Nat} {G : Option Nat} {A : Option Addr} {xs : List Int} (h : RdX w base G A xs) {p : Addr} (hp : p.block < base) (u : Value) : RdX (w.setCell p u) base G A xs := fun j x hx => by
  obtain ⟨b, o, e, hg, hl, hn, hc, hf⟩ := h j x hx
  refine ⟨b, o, e, hg, by simpa using hl, hn, ?_, (World.frozen?_setCell _ _ _ _).trans hf⟩
  unfold World.cell? at hc ⊢
  rw [heap_setCell_other _ _ _ _ (by show b ≠ p.block; omega)]
  exact hc
theorem RdX.grown {w w' : World} {base : Nat} {G G' : Option Nat} {A : Option Addr} {xs : List Int} (h : RdX w base G A xs) (hg : w.grownBy w' G) (h5 : G' = G ∨ G' = some w.heap.size) : RdX w' base G' A xs := fun j x hx => by
  obtain ⟨b, o, e, hB, hl, hn, hc, hf⟩ := h j x hx
  refine ⟨b, o, e, hB, Nat.lt_of_lt_of_le hl hg.size, ?_, (World.cell?_of_block (a := ⟨b, o + j, none⟩) (hg.block b hl (fun e => hn e.symm))).trans hc, (World.frozen?_of_block (a := ⟨b, o + j, none⟩) (hg.block b hl (fun e => hn e.symm))).trans hf⟩
  rcases h5 with rfl | rfl
  · exact hn
  · intro e; injection e with e; omega
/-- A row just made. -/
theorem rdx_own {w : World} {base b0 : Nat} {G : Option Nat} {A : Option Addr} {c : Nat} {xs : List Int} {t : TypeId} (h : w.ownsRow b0 t 1 (.slice A xs.length c) xs.length (xs.map (Value.int .i64))) (hb : base ≤ b0) (hG : ∀ g, G = some g → g < b0) : RdX w base G A xs := fun j x hx => by
  obtain ⟨g, e, hg, hc, hf⟩ := own_cell h (List.getElem?_eq_some_iff.1 hx).1
  rw [getD_of hx] at hc
  refine ⟨g, 0, e, by omega, lt_of_cell hc, fun e => by have := hG g e; omega, ?_, ?_⟩
  · rw [Nat.zero_add]; exact hc
  · rw [Nat.zero_add]; exact hf
def OwnRw (w : World) (base : Nat) (A : Option Addr) (c : Nat) (rows : List (List Int)) : Prop :=
  ∃ ps : List Sl, ps.length = rows.length ∧ w.ownsRow base 22 1 (.slice A ps.length c) ps.length (ps.map encS) ∧
    ∀ (k : Nat) (p : Sl) (xs : List Int), ps[k]? = some p → rows[k]? = some xs → (p.2.1 = xs.length ∧ p.2.1 ≤ p.2.2 ∧ p.2.2 ≤ 9223372036854775807) ∧ RdX w base (A.map (·.block)) p.1 xs
theorem OwnRw.nil (w : World) (base : Nat) : OwnRw w base none 0 [] := ⟨[], rfl, own_nil _ _ _, fun k p xs hp => by simp at hp⟩
theorem OwnRw.rd {w : World} {base : Nat} {A : Option Addr} {c : Nat} {rows : List (List Int)} (h : OwnRw w base A c rows) : RdRows w w.heap.size A rows := by
  obtain ⟨ps, hl, ho, hr⟩ := h
  exact rows_join (Rd.of_own ho) ⟨hl, fun k p xs hp hx => ⟨(hr k p xs hp hx).1.1, (hr k p xs hp hx).2.rd⟩⟩
theorem OwnRw.on {w w' : World} {base : Nat} {A : Option Addr} {c : Nat} {rows : List (List Int)} (h : OwnRw w base A c rows) (hb : Below w.heap.size w w') : OwnRw w' base A c rows := by
  obtain ⟨ps, hl, ho, hr⟩ := h
  exact ⟨ps, hl, own_on ho hb, fun k p xs hp hx => ⟨(hr k p xs hp hx).1, (hr k p xs hp hx).2.on hb⟩⟩
theorem OwnRw.set {w : World} {base : Nat} {A : Option Addr} {c : Nat} {rows : List (List Int)} (h : OwnRw w base A c rows) {p : Addr} (hp : p.block < base) (u : Value) : OwnRw (w.setCell p u) base A c rows := by
  obtain ⟨ps, hl, ho, hr⟩ := h
  exact ⟨ps, hl, own_set ho hp u, fun k q xs hq hx => ⟨(hr k q xs hq hx).1, (hr k q xs hq hx).2.set hp u⟩⟩
theorem OwnRw.cap {w : World} {base : Nat} {A : Option Addr} {c : Nat} {rows : List (List Int)} (h : OwnRw w base A c rows) : rows.length ≤ c ∧ c ≤ 9223372036854775807 := by
  obtain ⟨ps, hl, ho, hr⟩ := h
  rw [← hl]
  exact own_cap ho
theorem OwnRw.lies {w : World} {base : Nat} {A : Option Addr} {c : Nat} {rows : List (List Int)} (h : OwnRw w base A c rows) : ∀ g, A.map (·.block) = some g → base ≤ g ∧ g < w.heap.size := by
  obtain ⟨ps, hl, ho, hr⟩ := h
  exact row_in ho
theorem OwnRw.at_ {w : World} {base : Nat} {A : Option Addr} {c : Nat} {rows : List (List Int)} (h : OwnRw w base A c rows) {k : Nat} (hk : k < rows.length) :
    ∃ b off xs A' c', A = some ⟨b, off, none⟩ ∧ b < w.heap.size ∧ rows[k]? = some xs ∧ w.cell? ⟨b, off + k, none⟩ = some (.slice A' xs.length c') ∧ xs.length ≤ c' ∧ c' ≤ 9223372036854775807 ∧ Rd (Value.int .i64) w w.heap.size A' xs := by
  obtain ⟨ps, hl, ho, hr⟩ := h
  have hkp : k < ps.length := by omega
  obtain ⟨b, off, e, hb, hc⟩ := Rd.of_own ho k ps[k] (List.getElem?_eq_getElem hkp)
  have hx : rows[k]? = some rows[k] := List.getElem?_eq_getElem hk
  obtain ⟨⟨h1, h2, h3⟩, h4⟩ := hr k _ _ (List.getElem?_eq_getElem hkp) hx
  refine ⟨b, off, rows[k], ps[k].1, ps[k].2.2, e, hb, hx, ?_, by omega, h3, h4.rd⟩
  rw [hc]
  unfold encS
  rw [h1]
/-- One row appended. -/
theorem OwnRw.app {w w' : World} {base : Nat} {A A' : Option Addr} {c' : Nat} {rows : List (List Int)} {ps S : List Sl} {p : Sl} {xs : List Int}
    (hl : ps.length = rows.length) (hr : ∀ (k : Nat) (p : Sl) (xs : List Int), ps[k]? = some p → rows[k]? = some xs → (p.2.1 = xs.length ∧ p.2.1 ≤ p.2.2 ∧ p.2.2 ≤ 9223372036854775807) ∧ RdX w base (A.map (·.block)) p.1 xs)
    (hp : p.2.1 = xs.length ∧ p.2.1 ≤ p.2.2 ∧ p.2.2 ≤ 9223372036854775807) (hx : RdX w base (A.map (·.block)) p.1 xs)
    (hS : S = ps ++ [p]) (ho : w'.ownsRow base 22 1 (.slice A' S.length c') S.length (S.map encS)) (hg : w.grownBy w' (A.map (·.block))) (h5 : went A' A w.heap.size) : OwnRw w' base A' c' (rows ++ [xs]) := by
  subst hS
  refine ⟨ps ++ [p], by simp [hl], ho, fun k q ys hq hy => ?_⟩
  by_cases hk : k < ps.length
  · rw [List.getElem?_append_left hk] at hq
    rw [List.getElem?_append_left (by rw [← hl]; exact hk)] at hy
    exact ⟨(hr k q ys hq hy).1, (hr k q ys hq hy).2.grown hg h5⟩
  · have e : k = ps.length := by
      have := (List.getElem?_eq_some_iff.1 hq).1
      simp at this; omega
    subst e
    rw [List.getElem?_append_right (Nat.le_refl _)] at hq
    rw [hl, List.getElem?_append_right (Nat.le_refl _)] at hy
    simp at hq hy
    subst hq
    subst hy
    exact ⟨hp, hx.grown hg h5⟩
end Go.Proofs.YtehbdnehlfplaaaGreat
/- A range over a function: what a round keeps; an append in a round. -/
namespace Go.Proofs.YtehbdnehlfplaaaGreat
open Go.RowKit
set_option maxRecDepth 100000
set_option linter.unusedVariables false
section
variable {α : Type} {P : Program} {F : Fence} {nF : Nat}
theorem wpListIn_app5 (enc : α → Value) (h1 : ∀ x, (enc x).oneCell' = true) (w : World) {ops : Array Oper} {rest : List Oper} {o : Oper} {a : Act} {Q : Exit → Act → World → Prop} (hgd : o.guard = none) (s x : Operand) (t : TypeId)
    (ho : o.op = .call { callee := .builtin .append, args := #[s, x], argTypes := #[t, t] })
    (base : Nat) (e : TypeId) (z : Value) (bytes : Nat) (ht : P.underlying t = some (.slice e)) (hinfo : (P.info? e).map (fun i => (i.zero, i.size, i.bytes)) = some (some z, 1, bytes)) (hzs : z.cells.size = 1)
    (ys : List α) (A0 : Option Addr) (c0 : Nat) (hs : a.eval s = .slice A0 ys.length c0) (hown : w.ownsRow base e 1 (.slice A0 ys.length c0) ys.length (ys.map enc))
    (xs : List α) (A : Option Addr) (c B : Nat) (hx : a.eval x = .slice A xs.length c) (hr : Rd enc w B A xs) (h63 : ys.length + xs.length ≤ maxLen) (hbytes : (ys.length + xs.length) * bytes ≤ 140737488355328) (hbase : base ≤ w.heap.size)
    (h : ∀ (S : List α) (A' : Option Addr) (c' : Nat) (w' : World), S = ys ++ xs → w'.ownsRow base e 1 (.slice A' S.length c') S.length (S.map enc) → Below base w w' → w.grownBy w' (A0.map (·.block)) → went A' A0 w.heap.size → wpListIn F nF P ops Q rest (a.put o.dst (.slice A' S.length c')) w') :
    wpListIn F nF P ops Q (o :: rest) a w := by
  refine wpListIn_plain hgd fun _ hK => ?_
  obtain ⟨A', c', w', hrun, h2, h3, h4, h5⟩ := run_app (P := P) enc h1 w base t o.type e z bytes ht hinfo hzs ys A0 c0 hown xs A c B hr h63 hbytes hbase
  rw [ob_eq] at h4
  rw [ob_eq, ob_eq] at h5
  unfold Oper.wpIn
  refine ⟨by simp [Oper.about, ho, resolve, Target.leads, Sem.run_pure], ?_⟩
  rw [Oper.semAt_plain F _ _ (by rw [ho]; intro c hc'; cases hc')]
  unfold execOp
  simp only [ho, resolve, invoke, builtin, Sem.run_bind, Sem.run_pure, Result.andThen_ok, List.map_toArray, List.map_cons, List.map_nil, hs, hx, hrun]
  exact hK _ _ (h _ A' c' w' rfl h2 h3 h4 h5)
end
/-- What only turns above the heap's end keeps whatever lay. -/
theorem keeps_below {W W' : World} (h : Below W.heap.size W W') : KeepsOthers W W' := ⟨h.size, fun k o hk _ => (h.block k (Array.getElem?_eq_some_iff.1 hk).1).trans hk⟩
theorem keeps_app {W W' : World} {base n c : Nat} {e : TypeId} {A : Option Addr} {vs : List Value} (ho : W.ownsRow base e 1 (.slice A n c) n vs) (hg : W.grownBy W' (A.map (·.block))) : KeepsOthers W W' :=
  KeepsOthers.of_grownBy hg fun j o ej hj => by
    rcases ho.2 with ⟨he, _⟩ | ⟨g, cap, cur, he, _, hgb, _⟩
    · simp only [Value.slice.injEq] at he
      obtain ⟨rfl, _⟩ := he
      cases ej
    · simp only [Value.slice.injEq] at he
      obtain ⟨rfl, _⟩ := he
      have ej' : g = j := by simpa using ej
      subst ej'
      rw [hgb] at hj; cases hj; rfl
/-- Two cells that a round leaves as they are. -/
def KpC (Bs Bn : Nat) (W W' : World) : Prop := W'.cell? ⟨Bs, 0, none⟩ = W.cell? ⟨Bs, 0, none⟩ ∧ W'.cell? ⟨Bn, 0, none⟩ = W.cell? ⟨Bn, 0, none⟩
theorem KpC.refl (Bs Bn : Nat) (W : World) : KpC Bs Bn W W := ⟨rfl, rfl⟩
theorem KpC.trans {Bs Bn : Nat} {X Y Z : World} (h : KpC Bs Bn X Y) (k : KpC Bs Bn Y Z) : KpC Bs Bn X Z := ⟨k.1.trans h.1, k.2.trans h.2⟩
theorem KpC.book {Bs Bn : Nat} {w : World} (hs : Bs < w.heap.size) (hn : Bn < w.heap.size) (W : World) (l : Nat) (o o' : Obj) (hl : w.heap.size ≤ l) (_ : W.heap[l]? = some o) (_ : o.isCells = false) (_ : o.isWalk = false) : KpC Bs Bn W (W.putObj l o') := by
  constructor
  · unfold World.cell?
    rw [World.putObj_heap_other (by show Bs ≠ l; omega)]
  · unfold World.cell?
    rw [World.putObj_heap_other (by show Bn ≠ l; omega)]
theorem KpC.below {Bs Bn : Nat} {W W' : World} (hs : Bs < W.heap.size) (hn : Bn < W.heap.size) (h : Below W.heap.size W W') : KpC Bs Bn W W' := ⟨h.cell (p := ⟨Bs, 0, none⟩) hs, h.cell (p := ⟨Bn, 0, none⟩) hn⟩
theorem KpC.set {Bs Bn : Nat} {W : World} {p : Addr} (hs : Bs ≠ p.block) (hn : Bn ≠ p.block) (v : Value) : KpC Bs Bn W (W.setCell p v) := by
  constructor
  · unfold World.cell?
    rw [heap_setCell_other _ _ _ _ (by exact hs)]
  · unfold World.cell?
    rw [heap_setCell_other _ _ _ _ (by exact hn)]
theorem KpC.grown {Bs Bn : Nat} {W W' : World} {r : Option Nat} (hs : Bs < W.heap.size) (hn : Bn < W.heap.size) (hg : W.grownBy W' r) (h1 : r ≠ some Bs) (h2 : r ≠ some Bn) : KpC Bs Bn W W' :=
  ⟨World.cell?_of_block (a := ⟨Bs, 0, none⟩) (hg.block Bs hs (fun e => h1 e.symm)), World.cell?_of_block (a := ⟨Bn, 0, none⟩) (hg.block Bn hn (fun e => h2 e.symm))⟩
end Go.Proofs.YtehbdnehlfplaaaGreat
/- Chunks of a list: what slices.Chunk hands on, one after the other. -/
namespace Go.Proofs.YtehbdnehlfplaaaGreat
open Go.RowKit
set_option maxHeartbeats 2000000
set_option maxRecDepth 100000
set_option linter.unusedVariables false
attribute [local go_sem] Oper.semAt_some
/-- Which chunk. -/
abbrev Nth (O : Nat) := { k : Nat // k < O }
theorem sq_step {k q O U : Nat} (hU : O * q = U) (hk : k < O) (hq : 1 ≤ q) (hU63 : U ≤ 9223372036854775807) : ∃ i j : Nat, k * q = i ∧ (k + 1) * q = j ∧ j = i + q ∧ j ≤ U ∧ i < U ∧ ¬ U - i < q := by
  have h2 : (k + 1) * q = k * q + q := Nat.succ_mul k q
  have h3 : (k + 1) * q ≤ O * q := Nat.mul_le_mul_right q hk
  have h4 : k * q + q ≤ U := by omega
  clear h2 h3 hU63
  refine ⟨k * q, k * q + q, rfl, Nat.succ_mul k q, rfl, h4, by omega, by omega⟩
theorem grown_drew (w : World) : w.grownBy w.drew none := ⟨rfl, rfl, rfl, Nat.le_refl _, fun _ _ _ => rfl⟩
theorem chunk_in (m : Nat) (hm : 1 ≤ m) (l Bs Bn b o U c q O : Nat) (hU : O * q = U) (hq : 1 ≤ q) (hUc : U ≤ c) (hc : c ≤ 9223372036854775807) (J Jx : List (Nth O) → World → Prop)
    {B0 : Nat} (hJ : AbidesFrom B0 J) (hY : ∀ pre x W, J pre W → pre.length < O → YieldAt Fence.wide (m - 1) Tryz.prog l #[.slice (some ⟨b, o + x.1 * q, none⟩) q q] W fun e W' =>
      (e = .returned (.bool true) ∧ J (pre ++ [x]) W' ∧ KpC Bs Bn W W') ∨ (e = .returned (.bool false) ∧ Jx (pre ++ [x]) W'))
    (W : World) (hBs : W.cell? ⟨Bs, 0, none⟩ = some (.slice (some ⟨b, o, none⟩) U c)) (hBn : W.cell? ⟨Bn, 0, none⟩ = some (.int .i64 (q : Int))) (h0 : J [] W) :
    CallsIn Fence.wide m Tryz.prog 87 #[.func (.yield l) #[] #[], .pointer (some ⟨Bs, 0, none⟩), .pointer (some ⟨Bn, 0, none⟩)] W fun e W' => (∃ v, e = .returned v) ∧
      ((∃ ys : List (Nth O), ys.map (·.1) = List.range O ∧ J ys W') ∨ (∃ pre : List (Nth O), (∃ k, k ≤ O ∧ pre.map (·.1) = List.range k) ∧ Jx pre W')) := by
  refine callsIn_of_wp Tryz.func87 rfl trivial ?_ rfl
  simp only [Tryz.ntmps87, List.size_toArray, List.length_cons, List.length_nil, Nat.reduceAdd, Nat.reduceSub, Array.replicate_succ, Array.replicate_zero, List.push_toArray, List.append_toArray, List.nil_append, List.cons_append]
  gi_wp2
  gi_loopw [4] (fun i wr => ∃ (k : Nat) (pre : List (Nth O)), k ≤ O ∧ i = .int .i64 ((k * q : Nat) : Int) ∧ pre.map (·.1) = List.range k ∧ J pre wr ∧ KpC Bs Bn W wr)
    (fun i _ => U - (intOf i).toNat)
  case atStart => exact ⟨0, [], Nat.zero_le _, by simp, rfl, h0, KpC.refl _ _ _⟩
  case round =>
    obtain ⟨k, pre, hk, rfl, hp, hJs, hkp⟩ := hrel
    have c1 := hkp.1.trans hBs
    have c2 := hkp.2.trans hBn
    have hpl : pre.length = k := by have := congrArg List.length hp; simpa using this
    by_cases hlt : k < O
    · obtain ⟨i, j, hi, hj, hij, hjU, hiU, hnm⟩ := sq_step hU hlt hq (Nat.le_trans hUc hc)
      obtain ⟨fn, tmps, assign, body, hy, hR⟩ := hY pre ⟨k, hlt⟩ wr.drew (hJ _ _ _ none hJs (grown_drew wr) (fun r e => by cases e)) (by omega)
      dsimp only at hy
      rw [hi] at hy
      rw [hi]
      have hKK := hid hj
      have HI := hid hi
      have HP := hid hp
      have HK := hid hkp
      have HR := hid hR
      have HJ := hid hJs
      have HIJ := hid hij
      have hw1 : wrap64 ((i : Int) + (q : Int)) = (j : Int) := by rw [hij]; exact Go.IntWalk.wrap64_in _ (by omega)
      have hiU2 : i ≤ U := by omega
      have hlt2 : (i : Int) < (U : Int) := by omega
      clear hj hi hp hkp hR hJs hij hk hY h0 hpl hBs hBn
      gi_wp2
      gi_region
      have c1' : (World.drew wr).cell? ⟨Bs, 0, none⟩ = some (.slice (some ⟨b, o, none⟩) U c) := c1
      have c2' : (World.drew wr).cell? ⟨Bn, 0, none⟩ = some (.int .i64 (q : Int)) := c2
      gi_wp2
      refine HR.out.mono ?_
      rintro e W3 (⟨rfl, hJ3, hk3⟩ | ⟨rfl, hJx3⟩)
      · have c3 : W3.cell? ⟨Bn, 0, none⟩ = some (.int .i64 (q : Int)) := hk3.2.trans c2'
        have hnx : Hid ((i : Int) + (q : Int) = (((k + 1) * q : Nat) : Int)) := hid (by rw [hKK.out, HIJ.out]; simp)
        clear c1 c2 c1' c2' hy HR HJ
        gi_wp2
        go_roundw
        case rel => exact ⟨k + 1, pre ++ [⟨k, hlt⟩], hlt, by rw [← hnx.out], by rw [List.map_append, HP.out, List.range_succ]; rfl, hJ3, HK.out.trans (KpC.trans ⟨rfl, rfl⟩ hk3)⟩
        case measure => simp [intOf]; omega
      · clear c1 c2 c1' c2' hy HR HJ
        gi_wp2
        refine bodyPost_ret (results_none rfl _ _ _) rfl ?_
        exact ⟨⟨_, rfl⟩, .inr ⟨pre ++ [⟨k, hlt⟩], ⟨k + 1, hlt, by rw [List.map_append, HP.out, List.range_succ]; rfl⟩, hJx3⟩⟩
    · obtain rfl : k = O := by omega
      rw [hU]
      gi_wp2
      go_end0
      exact ⟨⟨_, rfl⟩, .inl ⟨pre, hp, hJs⟩⟩
/-- slices.Chunk hands back what hands the chunks on. -/
theorem sq_Chunk {A : Option Addr} {U c : Nat} (q : Nat) (hq : 1 ≤ q) (hq2 : q ≤ 9223372036854775807) (w : World) :
    Calls Tryz.prog 64 #[.slice A U c, .int .i64 (q : Int)] w fun e w' => e = .returned (.func (.func 87) #[] #[.pointer (some ⟨w.heap.size, 0, none⟩), .pointer (some ⟨w.heap.size + 1, 0, none⟩)]) ∧ (w.alloc (.cells #[.slice A U c] 22)).alloc (.cells #[.int .i64 (q : Int)] 3) = w' := by
  have t0 : ¬ (q : Int) < 1 := by omega
  clear hq hq2
  go_enter Tryz.func64, Tryz.ntmps64
  go_wp2_with fail
  go_ret
  exact ⟨rfl, rfl⟩
/-- The lines of w, one after the other. -/
theorem sf_lines {A : Option Addr} {U c : Nat} (O q : Nat) (hO : 1 ≤ O) (hq : 1 ≤ q) (hU : U / O = q) (hq2 : q ≤ 9223372036854775807) (hO2 : O ≤ 9223372036854775807) (w : World) :
    Calls Tryz.prog 44 #[.int .i64 (O : Int), .slice A U c] w fun e w' => e = .returned (.func (.func 87) #[] #[.pointer (some ⟨w.heap.size, 0, none⟩), .pointer (some ⟨w.heap.size + 1, 0, none⟩)]) ∧ (w.alloc (.cells #[.slice A U c] 22)).alloc (.cells #[.int .i64 (q : Int)] 3) = w' := by
  have CC := hid (fun W => sq_Chunk (A := A) (U := U) (c := c) q hq hq2 W)
  have hd : (U : Int).tdiv (O : Int) = (q : Int) := by rw [Int.tdiv_eq_ediv_of_nonneg (by omega)]; rw [← hU]; rfl
  have h0 : (O : Int) ≠ 0 := by omega
  have hw : IntKind.i64.wrap (q : Int) = (q : Int) := Go.IntWalk.i64_in _ (by omega)
  have hw2 : wrap64 (q : Int) = (q : Int) := Go.IntWalk.wrap64_in _ (by omega)
  clear hO hq hU hq2 hO2
  go_enter Tryz.func44, Tryz.ntmps44
  go_wp2_with fail
  refine (CC.out _).mono ?_
  rintro _ _ ⟨rfl, rfl⟩
  go_wp2_with fail
  go_ret
  exact ⟨rfl, rfl⟩
/-- What it hands back: chunk after chunk, or the first of them. -/
theorem sq_stops {n : Nat} (hn : 1 ≤ n) {Bs Bn b o U c q O : Nat} (hU : O * q = U) (hq : 1 ≤ q) (hUc : U ≤ c) (hc : c ≤ 9223372036854775807) {w : World} (hs : Bs < w.heap.size) (hb : Bn < w.heap.size)
    (c1 : w.cell? ⟨Bs, 0, none⟩ = some (.slice (some ⟨b, o, none⟩) U c)) (c2 : w.cell? ⟨Bn, 0, none⟩ = some (.int .i64 (q : Int))) :
    SeqStopsK Fence.wide n Tryz.prog 87 #[.pointer (some ⟨Bs, 0, none⟩), .pointer (some ⟨Bn, 0, none⟩)] (fun x : Nth O => #[Value.slice (some ⟨b, o + x.1 * q, none⟩) q q]) (KpC Bs Bn)
      (fun ys => ys.map (·.1) = List.range O) (fun pre => ∃ k, k ≤ O ∧ pre.map (·.1) = List.range k) O w := fun l J Jx W hW hJ hJx hY h0 =>
  chunk_in n hn l Bs Bn b o U c q O hU hq hUc hc J Jx hJ hY W ((hW.cell (p := ⟨Bs, 0, none⟩) hs).trans c1) ((hW.cell (p := ⟨Bn, 0, none⟩) hb).trans c2) h0
end Go.Proofs.YtehbdnehlfplaaaGreat
/- A round that appends a row to a list of rows in a box. -/
namespace Go.Proofs.YtehbdnehlfplaaaGreat
open Go.RowKit
set_option maxHeartbeats 1000000
set_option maxRecDepth 100000
set_option linter.unusedVariables false
theorem bx_on {W W' : World} {B : Nat} {t : TypeId} {v : Value} (h : Boxed W B t v) (hb : Below W.heap.size W W') : Boxed W' B t v := (hb.block B h.lt).trans h
theorem bx_book {W W' : World} {B : Nat} {t : TypeId} {v : Value} {row : Option Nat} (h : Boxed W B t v) (hg : W.grownBy W' row) (hr : ∀ r, row = some r → ∃ o : Obj, W.heap[r]? = some o ∧ o.isCells = false) : Boxed W' B t v :=
  h.kept hg (fun e => by
    obtain ⟨o, ho, hc⟩ := hr B e.symm
    rw [show W.heap[B]? = _ from h] at ho; cases ho; cases hc)
theorem own_book {W W' : World} {base n c : Nat} {e : TypeId} {A : Option Addr} {vs : List Value} {row : Option Nat} (h : W.ownsRow base e 1 (.slice A n c) n vs) (hg : W.grownBy W' row) (hr : ∀ r, row = some r → ∃ o : Obj, W.heap[r]? = some o ∧ o.isCells = false) : W'.ownsRow base e 1 (.slice A n c) n vs := by
  refine h.kept hg ?_
  rcases h.2 with ⟨he, _⟩ | ⟨g, cap, cur, he, _, hgb, _⟩
  · exact .inl (by rw [he]; rfl)
  · refine .inr fun e' => ?_
    rw [he] at e'
    obtain ⟨o, ho, hc⟩ := hr g (by simpa [Value.ownBlock] using e'.symm)
    rw [hgb] at ho; cases ho; cases hc
theorem rdx_book {W W' : World} {base : Nat} {G A : Option Addr} {xs : List Int} {row : Option Nat} (h : RdX W base (G.map (·.block)) A xs) (hg : W.grownBy W' row) (hr : ∀ r, row = some r → ∃ o : Obj, W.heap[r]? = some o ∧ o.isCells = false) : RdX W' base (G.map (·.block)) A xs := fun j x hx => by
  obtain ⟨b, o, e, hB, hl, hn, hc, hf⟩ := h j x hx
  exact ⟨b, o, e, hB, Nat.lt_of_lt_of_le hl hg.size, hn, cell_kept hc hg hr, (frozen_kept hc hg hr).trans hf⟩
theorem rw_book {W W' : World} {base c : Nat} {A : Option Addr} {rows : List (List Int)} {row : Option Nat} (h : OwnRw W base A c rows) (hg : W.grownBy W' row) (hr : ∀ r, row = some r → ∃ o : Obj, W.heap[r]? = some o ∧ o.isCells = false) : OwnRw W' base A c rows := by
  obtain ⟨ps, hl, ho, hp⟩ := h
  exact ⟨ps, hl, own_book ho hg hr, fun k p xs h1 h2 => ⟨(hp k p xs h1 h2).1, rdx_book (hp k p xs h1 h2).2 hg hr⟩⟩
/-- A store into a box that the list is not. -/
theorem own_box {W : World} {base B n c : Nat} {e : TypeId} {A : Option Addr} {vs : List Value} (h : W.ownsRow base e 1 (.slice A n c) n vs) (hA : A.map (·.block) ≠ some B) (v' : Value) : (W.setCell ⟨B, 0, none⟩ v').ownsRow base e 1 (.slice A n c) n vs :=
  h.kept (grownBy_setCell' W B v') (.inr (by rw [ob_eq]; exact hA))
/-- Where the list lies: not in the boxes behind its first block. -/
def apart4 (S : Nat) (A : Option Addr) : Prop := ∀ g, A.map (·.block) = some g → g = S ∨ S + 4 ≤ g
theorem apart4.ne {S : Nat} {A : Option Addr} (h : apart4 S A) {k : Nat} (h1 : S < k) (h2 : k < S + 4) : A.map (·.block) ≠ some k := fun e => by have := h k e; omega
theorem apart4.app {S m : Nat} {A A' : Option Addr} (h : apart4 S A) (hm : S + 4 ≤ m) (h5 : went A' A m) : apart4 S A' := fun g e => by
  rcases h5 with h6 | h6
  · exact h g (by rw [← h6, e])
  · rw [h6] at e; injection e with e; omega
/-- What a round knows of the rows so far. -/
def RowsAt (S : Nat) (w : World) (rows : List (List Int)) (W : World) : Prop :=
  ∃ A c, apart4 S A ∧ Boxed W (S + 1) 38 (.slice A rows.length c) ∧ OwnRw W S A c rows ∧ S + 4 ≤ W.heap.size ∧ Below S w W
theorem RowsAt.book {S : Nat} {w : World} {rows : List (List Int)} {W W' : World} {row : Option Nat} (h : RowsAt S w rows W) (hS : S ≤ w.heap.size) (hg : W.grownBy W' row) (hr : ∀ r, row = some r → S ≤ r ∧ ∃ o : Obj, W.heap[r]? = some o ∧ o.isCells = false) : RowsAt S w rows W' := by
  obtain ⟨A, c, h1, h2, h3, h4, h5⟩ := h
  have hr2 : ∀ r, row = some r → ∃ o : Obj, W.heap[r]? = some o ∧ o.isCells = false := fun r e => (hr r e).2
  exact ⟨A, c, h1, bx_book h2 hg hr2, rw_book h3 hg hr2, Nat.le_trans h4 hg.size, h5.grown hg (Nat.le_trans hS h5.size) (fun k e => (hr k e).1)⟩
end Go.Proofs.YtehbdnehlfplaaaGreat
/- A law's frame: where a call answers true and nothing that was there has turned, the given row's post holds, whatever the arguments are made of. -/
namespace Go.Proofs.YtehbdnehlfplaaaGreat
open Go.ChangeShapes Go.WideShapes Go.ChangeAt Go.RowKit
set_option maxRecDepth 100000
set_option linter.unusedVariables false

theorem own : ownKnob Tryz.prog.godebug = none := by kernel_rfl
theorem laid : laidOutB Tryz.prog = true := by kernel_rfl

section
variable {H : Type} {enc : TypeId × Value → H} {P : Program}

theorem all_stay (hl : laidOutB P = true) {W W' : World} (hb : Below W.heap.size W W') {sp : Nat → Bool} :
    ∀ (ts : List TypeId) (vs : List Value) (ds : List (DataW H)) (ps : List MemPlace), (∀ t ∈ ts, P.readableRec t = true ∧ t < P.types.size) →
      DataW.TrodAll enc P W 0 (fun _ => true) true ts vs ds ps → (∀ x ∈ ps, x.block < W.heap.size) → (∀ x ∈ ps, sp x.block = true) → DataW.TrodAll enc P W' 0 sp true ts vs ds ps
  | [], [], [], ps, _, h, _, _ => h
  | [], [], _ :: _, _, _, h, _, _ => h.elim
  | [], _ :: _, _, _, _, h, _, _ => h.elim
  | _ :: _, [], _, _, _, h, _, _ => h.elim
  | _ :: _, _ :: _, [], _, _, h, _, _ => h.elim
  | t :: ts, v :: vs, d :: ds, ps, hr, h, hlt, hsp => by
    obtain ⟨p, q, h1, h2, rfl⟩ := h
    have ht := hr t (by simp)
    refine ⟨p, q, WideElems.Trod_stays hl ht.1 ht.2 h1 (fun x hx => hb.same (hlt x (by simp [hx]))) (fun x hx => hsp x (by simp [hx])), ?_, rfl⟩
    exact all_stay hl hb ts vs ds q (fun t' ht' => hr t' (by simp [ht'])) h2 (fun x hx => hlt x (by simp [hx])) (fun x hx => hsp x (by simp [hx]))

theorem law_post {f : Func} {s : ChangeSpec} {apart fresh handsOn again : Bool} {W W' : World} {args : Array Value} {ds gs : List (DataW H)} {before : List MemPlace} {tb : TypeId}
    (hl : laidOutB P = true) (hts : ∀ t ∈ f.params.toList, P.readableRec t = true ∧ t < P.types.size) (hv : s.vars = [])
    (hW : DataW.Whole enc P f.params.toList s.vars apart W args.toList ds gs before)
    (hs : (s.fn H (ds ++ gs)).results = [.lit (.bool true)] ∧ (s.fn H (ds ++ gs)).args = ds ∧ (s.fn H (ds ++ gs)).vars = [])
    (hr : f.resultTypes = #[tb]) (htb : P.underlying tb = some .bool) (hb : Below W.heap.size W W') :
    s.post enc P f apart fresh handsOn again W args (.bool true) W' := by
  have hlt : ∀ p ∈ before, p.block < W.heap.size := fun p hp => hW.lt p hp
  have hW0 := hW
  obtain ⟨p, q, h1, h2, e, hz, hn⟩ := hW
  rw [hv] at h2
  cases gs with
  | cons _ _ => exact h2.elim
  | nil =>
    have hq : q = [] := h2
    subst hq
    simp only [List.append_nil] at e
    subst e
    have stay : ∀ sp : Nat → Bool, (∀ x ∈ before, sp x.block = true) → DataW.TrodAll enc P W' 0 sp true f.params.toList args.toList (s.fn H (ds ++ [])).args before :=
      fun sp hsp => by rw [hs.2.1]; exact all_stay hl hb _ _ _ _ hts h1 hlt hsp
    have vars : ∀ sp : Nat → Bool, DataW.TrodVars enc P W' sp s.vars (s.fn H (ds ++ [])).vars [] := fun sp => by rw [hs.2.2, hv]; rfl
    have res : ∀ (b : Nat) (sp : Nat → Bool) (hd : Bool), DataW.TrodAll enc P W' b sp hd f.resultTypes.toList ((Value.bool true).resultList f.resultTypes.size) (s.fn H (ds ++ [])).results [] := by
      intro b sp hd
      rw [hs.1, hr]
      exact trodAll_mk1 (shut_bool htb true)
    refine ⟨ds, [], before, [], before, [], hW0, res _ _ _, stay _ (fun x hx => by simpa using hlt x hx), vars _, ?_, fun _ => ?_⟩
    · exact World.keptBut_mono (fun x hx => ⟨hx, by simpa using hx⟩) (hb.frame (· ∈ before))
    · refine ⟨?_, _, _, ([] ++ before) ++ [], ⟨[] ++ before, [], trodAll_append (stay _ (fun _ _ => rfl)) (res _ _ _), vars _, rfl, ?_, ?_⟩, ?_⟩
      · exact ok_one hr rfl (okWide_bool_mk htb true)
      · intro b off hp
        have hin : MemPlace.cell b off ∈ before := by simpa using hp
        rw [hb.frozen (hlt _ hin)]
        exact hz b off hin
      · intro ha
        simpa using hn ha
      · intro x hx _
        simpa using hx
end
end Go.Proofs.YtehbdnehlfplaaaGreat
/- An argument that is a list of whole numbers of one kind, opened. -/
namespace Go.Proofs.YtehbdnehlfplaaaGreat
open Go.ChangeShapes Go.WideShapes Go.ChangeAt Go.RowKit
set_option maxRecDepth 100000
set_option linter.unusedVariables false
section
variable {H : Type} {enc : TypeId × Value → H} {P : Program} {W : World}
theorem nums_rd {k : IntKind} {a : Addr} {zs xs : List Int} {m : Nat} (hm : xs = zs.take m) (hc : ∀ i, i < m → W.cell? (a.add i) = some (.int k (zs.getD i 0))) : Rd (Value.int k) W W.heap.size (some a) xs := fun j x hx => by
  subst hm
  have hk : j < (zs.take m).length := (List.getElem?_eq_some_iff.1 hx).1
  have hkm : j < m := by rw [List.length_take] at hk; omega
  obtain ⟨b, off, spot⟩ := a
  have hs : spot = none := by simpa [Addr.add] using World.cell?_spot (hc 0 (by omega))
  subst hs
  have h := hc j hkm
  rw [Go.WideShapes.add_plain] at h
  have hz : zs.getD j 0 = x := by
    rw [List.getElem?_take_of_lt hkm] at hx
    simp [List.getD, hx]
  rw [hz] at h
  exact ⟨b, off, rfl, lt_of_cell h, h⟩
theorem open_nums {k : IntKind} {r : Reach} {t e : TypeId} {v : Value} {d : DataW H} {ps : List MemPlace} (ht : P.underlying t = some (.slice e)) (he : P.underlying e = some (.int k)) (hc : P.cellsOf e = 1) {b0 : Nat}
    (hval : Value.okWide P W r b0 t v) (hd : DataW.Trod enc P W 0 (fun _ => true) true t v d ps) :
    ∃ A xs c, v = .slice A xs.length c ∧ Rd (Value.int k) W W.heap.size A xs ∧ (∀ x ∈ xs, (Lit.int k x).wf = true) ∧ xs.length ≤ c ∧ c ≤ 9223372036854775807 := by
  obtain ⟨A, len, cap, rfl⟩ := okWide_slice ht hval
  obtain ⟨fuel, hf⟩ := hd
  rcases open_ints ht he hc hf with ⟨hcs, _⟩ | ⟨a, len', cap', zs, hcs, _, hl, hm, hz, _, hcell, hwz⟩
  · simp [Value.cells] at hcs
    obtain ⟨rfl, rfl, rfl⟩ := hcs
    exact ⟨none, [], 0, rfl, Rd.none_, by intro x hx; simp at hx, by simp, by omega⟩
  · simp [Value.cells] at hcs
    obtain ⟨rfl, rfl, rfl⟩ := hcs
    simp only [if_true] at hz
    have hlen : (zs.take len).length = len := by rw [List.length_take]; omega
    refine ⟨some a, zs.take len, cap, by rw [hlen], nums_rd rfl fun i hi => hcell i (by omega), fun x hx => hwz x (List.mem_of_mem_take hx), by omega, by unfold maxLen at hm; omega⟩
theorem U64.of_wf {a : Int} (h : (Lit.int .u64 a).wf = true) : U64 a := by
  simp [Lit.wf, IntKind.min, IntKind.max, IntKind.signed, IntKind.bits] at h
  unfold U64; omega
theorem U32.of_wf {a : Int} (h : (Lit.int .u32 a).wf = true) : 0 ≤ a ∧ a ≤ 4294967295 := by
  simp [Lit.wf, IntKind.min, IntKind.max, IntKind.signed, IntKind.bits] at h
  omega
end
end Go.Proofs.YtehbdnehlfplaaaGreat
namespace Go.Proofs.YtehbdnehlfplaaaGreat
open Go.RowKit
set_option maxHeartbeats 400000
set_option maxRecDepth 100000
set_option linter.unusedVariables false
theorem fix_Add (a b : Int) (ha : I64 a) (hb : I64 b) (w : World) :
    Calls Tryz.prog 66 #[.int .i64 a, .int .i64 b] w fun e w' => e = .returned (.tuple #[.int .i64 (ckV (a + b)), .int .i64 (ckE (a + b))]) ∧ w = w' := by
  go_enter Tryz.func66, Tryz.ntmps66
  go_wp2
  · go_ret2; exact ⟨ck_out2 (add_w1 ha hb (by assumption)), rfl⟩
  · go_ret2; exact ⟨ck_wrap2 (add_w2 ha hb (by assumption)), rfl⟩
theorem fix_Sub (a b : Int) (ha : I64 a) (hb : I64 b) (w : World) :
    Calls Tryz.prog 68 #[.int .i64 a, .int .i64 b] w fun e w' => e = .returned (.tuple #[.int .i64 (ckV (a - b)), .int .i64 (ckE (a - b))]) ∧ w = w' := by
  go_enter Tryz.func68, Tryz.ntmps68
  go_wp2
  · go_ret2; exact ⟨ck_out2 (sub_w1 ha hb (by assumption)), rfl⟩
  · go_ret2; exact ⟨ck_wrap2 (sub_w2 ha hb (by assumption)), rfl⟩
theorem ref_Add (a b : Int) (ha : I64 a) (hb : I64 b) (w : World) :
    Calls Tryz.prog 83 #[.int .i64 a, .int .i64 b] w fun e w' => e = .returned (.tuple #[.int .i64 (ckV (a + b)), .int .i64 (ckE (a + b))]) ∧ w = w' := by
  unfold I64 at ha hb
  go_enter Tryz.func83, Tryz.ntmps83
  go_wp2
  all_goals
    go_ret2
    first
    | (refine ⟨ck_out2 ?_, rfl⟩; unfold I64; omega)
    | (refine ⟨ck_in2 ?_, rfl⟩; unfold I64; omega)
    | (refine ⟨ck_wrap2 ?_, rfl⟩; unfold I64; omega)
theorem ref_Sub (a b : Int) (ha : I64 a) (hb : I64 b) (w : World) :
    Calls Tryz.prog 78 #[.int .i64 a, .int .i64 b] w fun e w' => e = .returned (.tuple #[.int .i64 (ckV (a - b)), .int .i64 (ckE (a - b))]) ∧ w = w' := by
  unfold I64 at ha hb
  go_enter Tryz.func78, Tryz.ntmps78
  go_wp2
  all_goals
    go_ret2
    first
    | (refine ⟨ck_out2 ?_, rfl⟩; unfold I64; omega)
    | (refine ⟨ck_in2 ?_, rfl⟩; unfold I64; omega)
    | (refine ⟨ck_wrap2 ?_, rfl⟩; unfold I64; omega)
theorem fix_Neg (a : Int) (ha : I64 a) (w : World) :
    Calls Tryz.prog 91 #[.int .i64 a] w fun e w' => e = .returned (.tuple #[.int .i64 (ckV (-a)), .int .i64 (ckE (-a))]) ∧ w = w' := by
  go_enter Tryz.func91, Tryz.ntmps91
  go_wp2_with (go_at_call 68; refine (fix_Sub 0 a (by decide) ha _).mono ?_; rintro e w' ⟨rfl, rfl⟩)
  go_ret2
  exact ⟨rfl, rfl⟩
theorem ref_Neg (a : Int) (ha : I64 a) (w : World) :
    Calls Tryz.prog 98 #[.int .i64 a] w fun e w' => e = .returned (.tuple #[.int .i64 (ckV (-a)), .int .i64 (ckE (-a))]) ∧ w = w' := by
  go_enter Tryz.func98, Tryz.ntmps98
  go_wp2_with (go_at_call 78; refine (ref_Sub 0 a (by decide) ha _).mono ?_; rintro e w' ⟨rfl, rfl⟩)
  go_ret2
  exact ⟨rfl, rfl⟩
theorem fix_Abs (a : Int) (ha : I64 a) (w : World) :
    Calls Tryz.prog 93 #[.int .i64 a] w fun e w' => e = .returned (.tuple #[.int .i64 (ckV (absI a)), .int .i64 (ckE (absI a))]) ∧ w = w' := by
  by_cases h : a < 0
  · rw [show absI a = -a from if_pos h]
    go_enter Tryz.func93, Tryz.ntmps93
    go_wp2_with (go_at_call 91; refine (fix_Neg a ha _).mono ?_; rintro e w' ⟨rfl, rfl⟩)
    go_ret2
    exact ⟨rfl, rfl⟩
  · rw [show absI a = a from if_neg h]
    go_enter Tryz.func93, Tryz.ntmps93
    go_wp2
    go_ret2
    exact ⟨ck_in2 ha, rfl⟩
end Go.Proofs.YtehbdnehlfplaaaGreat
/- Number by number, and all added up: each number told by a function value. -/
namespace Go.Proofs.YtehbdnehlfplaaaGreat
open Go.RowKit
set_option maxHeartbeats 400000
set_option maxRecDepth 100000
set_option linter.unusedVariables false
theorem list_any (K : FuncId) (caps : Array Value) (n : Nat) (hn : n ≤ 4096) (w : World) (num : Nat → Int × Int)
   (hK : ∀ (args : Array Value) (W : World), (callFunc K args).run Tryz.prog W = .ok (.enter K args) W)
   (H : ∀ k, k < n → ∀ W, Below w.heap.size w W → Calls Tryz.prog K (#[.int .i64 k] ++ caps) W fun e w' => e = .returned (.tuple #[.int .i64 (num k).1, .int .i64 (num k).2]) ∧ Below W.heap.size W w') :
    Calls Tryz.prog 52 #[.int .i64 n, .func (.func K) #[] caps] w (OwnInts (seqV num n) (seqE num n) w) := by
  have hmk := fun W => run_make_row' (P := Tryz.prog) 22 2 (.int .i64 0) 8 Tryz.underlying22 info_i64 rfl .i64 .i64 n (by omega) (by omega) W
  have HH := hid H
  clear H
  go_enter Tryz.func52, Tryz.ntmps52
  go_wp2_with fail
  go_loopw [14] (fun i wr => ∃ k : Nat, k ≤ n ∧ i = .int .i64 k ∧ seqE num k = 0 ∧ wr.rowIs w.heap.size 2 n (fun j => if j < k then .int .i64 (num j).1 else .int .i64 0) ∧ Below w.heap.size w wr) (fun i _ => n - (intOf i).toNat)
  case atStart => exact ⟨0, by omega, rfl, rfl, by simpa using World.rowIs_made w (.int .i64 0) n _, by go_grown⟩
  case round =>
    obtain ⟨k, hk, rfl, hs, hrow, hbel⟩ := hrel
    have hz := hrow.lt
    clear hmk
    have HS := hid hs
    clear hs
    by_cases hlt : k < n
    · have h := HH.out k hlt wr hbel
      obtain ⟨x, hx⟩ : ∃ x, (num k).1 = x := ⟨_, rfl⟩
      obtain ⟨er, he⟩ : ∃ x, (num k).2 = x := ⟨_, rfl⟩
      rw [hx, he] at h
      have HX := hid hx
      have HE := hid he
      clear hx he
      go_wp2_with fail
      refine h.mono ?_
      clear h
      rintro _ w1 ⟨rfl, hb1⟩
      have hbel1 := hbel.trans (hb1.mono (Nat.le_of_lt hz))
      have hrow1 := hrow.of_block (hb1.block _ hz)
      have hz1 := hrow1.lt
      have c1 := hrow1.cell hlt
      rw [if_neg (Nat.lt_irrefl k)] at c1
      have f1 := hrow1.frozen k
      by_cases her : er = 0
      · subst her
        go_wp2_with fail
        go_roundw
        case rel =>
          refine ⟨k + 1, by omega, by go_num, by unfold seqE; rw [if_pos HS.out, HE.out], ?_, hbel1.setCell (Nat.le_refl _) _⟩
          refine (hrow1.set k (.int .i64 x)).congr fun j hj => ?_
          by_cases e : j = k
          · subst e
            rw [if_pos rfl, if_pos (by omega), HX.out]
          · rw [if_neg e]
            by_cases e2 : j < k
            · rw [if_pos e2, if_pos (by omega)]
            · rw [if_neg e2, if_neg (by omega)]
        case measure => simp [intOf]; omega
      · have hne : (er != 0) = true := by simpa using her
        go_wp2_with fail
        go_ret2
        have e1 : seqE num (k + 1) = er := by unfold seqE; rw [if_pos HS.out, HE.out]
        have e2 : seqE num n = er := by rw [seqE_stays (by rw [e1]; exact her) n hlt, e1]
        have e3 : seqV num n = [] := by unfold seqV; rw [e2, if_neg her]
        rw [e2, e3]
        exact ⟨none, 0, rfl, own_nil _ _ _, hbel1⟩
    · obtain rfl : k = n := by omega
      go_wp2_with fail
      go_ret2
      have e2 := HS.out
      have e3 : seqV num k = (List.range k).map fun k => (num k).1 := by unfold seqV; rw [e2, if_pos rfl]
      rw [e2, e3]
      refine ⟨some ⟨w.heap.size, 0, none⟩, k, by simp, ?_, hbel⟩
      have := own_made (B := w.heap.size) (w' := w) (hrow.congr (g := fun j => .int .i64 (num j).1) fun i hi => by rw [if_pos hi]) (Nat.le_refl _) (by unfold maxLen; omega)
      simpa [Function.comp_def] using this
theorem total_any (K : FuncId) (caps : Array Value) (n : Nat) (hn : n ≤ 4096) (w : World) (num : Nat → Int × Int)
   (hK : ∀ (args : Array Value) (W : World), (callFunc K args).run Tryz.prog W = .ok (.enter K args) W) (hI : ∀ k, k < n → I64 (num k).1)
   (H : ∀ k, k < n → ∀ W, Below w.heap.size w W → Calls Tryz.prog K (#[.int .i64 k] ++ caps) W fun e w' => e = .returned (.tuple #[.int .i64 (num k).1, .int .i64 (num k).2]) ∧ Below W.heap.size W w') :
    Calls Tryz.prog 88 #[.int .i64 n, .func (.func K) #[] caps] w fun e w' => e = .returned (.tuple #[.int .i64 (tot num n).1, .int .i64 (tot num n).2]) ∧ Below w.heap.size w w' := by
  have HH := hid H
  have HI := hid hI
  clear H hI
  go_enter Tryz.func88, Tryz.ntmps88
  go_wp2_with fail
  go_loopw [6, 11] (fun s i wr => ∃ (k : Nat) (S : Int), k ≤ n ∧ i = .int .i64 k ∧ s = .int .i64 S ∧ I64 S ∧ tot num k = (S, 0) ∧ Below w.heap.size w wr) (fun _ i _ => n - (intOf i).toNat)
  case atStart => exact ⟨0, 0, by omega, rfl, rfl, by decide, rfl, by go_grown⟩
  case round =>
    obtain ⟨k, S, hk, rfl, rfl, hS, hs, hbel⟩ := hrel
    have HS := hid hs
    clear hs
    by_cases hlt : k < n
    · have h := HH.out k hlt wr hbel
      have hX := HI.out k hlt
      obtain ⟨x, hx⟩ : ∃ x, (num k).1 = x := ⟨_, rfl⟩
      obtain ⟨er, he⟩ : ∃ x, (num k).2 = x := ⟨_, rfl⟩
      rw [hx, he] at h
      rw [hx] at hX
      have HX := hid hx
      have HE := hid he
      clear hx he
      go_wp2_with fail
      refine h.mono ?_
      clear h
      rintro _ w1 ⟨rfl, hb1⟩
      have hbel1 := hbel.trans (hb1.mono hbel.size)
      by_cases her : er = 0
      · subst her
        have hA := fix_Add S x hS hX
        by_cases hin : I64 (S + x)
        · rw [ckV_in hin, ckE_in hin] at hA
          obtain ⟨T, hT⟩ : ∃ T, S + x = T := ⟨_, rfl⟩
          rw [hT] at hA hin
          have HT := hid hT
          have HA := hid hA
          clear hA hT
          go_wp2_with fail
          refine (HA.out _).mono ?_
          rintro _ _ ⟨rfl, rfl⟩
          go_wp2_with fail
          go_roundw
          case rel =>
            refine ⟨k + 1, T, by omega, by go_num, rfl, hin, ?_, hbel1⟩
            simp only [tot, HS.out, HE.out, HX.out, HT.out, if_pos, ckV_in hin, ckE_in hin]
          case measure => simp [intOf]; omega
        · rw [ckV_out hin, ckE_out hin] at hA
          have HA := hid hA
          clear hA
          go_wp2_with fail
          refine (HA.out _).mono ?_
          rintro _ _ ⟨rfl, rfl⟩
          go_wp2_with fail
          go_ret2
          have e1 : tot num (k + 1) = (0, 2) := by simp only [tot, HS.out, HE.out, HX.out, if_pos, ckV_out hin, ckE_out hin]
          rw [tot_stays (k := k + 1) (by rw [e1]; decide) n hlt, e1]
          exact ⟨rfl, hbel1⟩
      · have hne : (er != 0) = true := by simpa using her
        go_wp2_with fail
        go_ret2
        have e1 : tot num (k + 1) = (0, er) := by simp only [tot, HS.out, HE.out, if_pos, if_neg her]
        rw [tot_stays (k := k + 1) (by rw [e1]; exact her) n hlt, e1]
        exact ⟨rfl, hbel1⟩
    · obtain rfl : k = n := by omega
      go_wp2_with fail
      go_ret2
      rw [HS.out]
      exact ⟨rfl, hbel⟩
end Go.Proofs.YtehbdnehlfplaaaGreat
/- Plain facts on whole products: 128 bits, in an upper and a lower half. No program in sight. -/
namespace Go.Proofs.YtehbdnehlfplaaaGreat
open Go.RowKit
set_option maxHeartbeats 400000
def hiU (s : Int) : Int := s / 18446744073709551616 % 18446744073709551616
def loU (s : Int) : Int := s % 18446744073709551616
def I128 (s : Int) : Prop := -170141183460469231731687303715884105728 ≤ s ∧ s ≤ 170141183460469231731687303715884105727
theorem U64.wrap (a : Int) : U64 (IntKind.u64.wrap a) := by unfold U64; rw [IntKind.wrap_u64]; omega
theorem U64.hi (s : Int) : U64 (hiU s) := by unfold U64 hiU; omega
theorem U64.lo (s : Int) : U64 (loU s) := by unfold U64 loU; omega

theorem prod_shift (a b x y m n : Int) (hx : x = a + m * 18446744073709551616) (hy : y = b + n * 18446744073709551616) :
    x * y = a * b + (a * n + m * b + m * n * 18446744073709551616) * 18446744073709551616 := by
  subst hx hy
  grind
theorem u64_case {a : Int} (ha : I64 a) : (a < 0 ∧ IntKind.u64.wrap a = a + 1 * 18446744073709551616) ∨ (0 ≤ a ∧ IntKind.u64.wrap a = a + 0 * 18446744073709551616) := by
  unfold I64 at ha; rw [IntKind.wrap_u64]; omega
theorem times_nn {a b : Int} (ha : I64 a) (hb : I64 b) (h1 : a < 0) (h2 : b < 0) :
    IntKind.u64.wrap (IntKind.u64.wrap (IntKind.u64.wrap a * IntKind.u64.wrap b / 18446744073709551616 - IntKind.u64.wrap b) - IntKind.u64.wrap a) = hiU (a * b) := by
  rcases u64_case ha with ⟨_, ea⟩ | ⟨_, _⟩
  · rcases u64_case hb with ⟨_, eb⟩ | ⟨_, _⟩
    · rw [prod_shift a b _ _ 1 1 ea eb, ea, eb, IntKind.wrap_u64, IntKind.wrap_u64]
      unfold hiU
      generalize a * b = p
      omega
    · omega
  · omega
theorem times_np {a b : Int} (ha : I64 a) (hb : I64 b) (h1 : a < 0) (h2 : 0 ≤ b) :
    IntKind.u64.wrap (IntKind.u64.wrap a * IntKind.u64.wrap b / 18446744073709551616 - IntKind.u64.wrap b) = hiU (a * b) := by
  rcases u64_case ha with ⟨_, ea⟩ | ⟨_, _⟩
  · rcases u64_case hb with ⟨_, _⟩ | ⟨_, eb⟩
    · omega
    · rw [prod_shift a b _ _ 1 0 ea eb, eb, IntKind.wrap_u64]
      unfold hiU
      generalize a * b = p
      omega
  · omega
theorem times_pn {a b : Int} (ha : I64 a) (hb : I64 b) (h1 : 0 ≤ a) (h2 : b < 0) :
    IntKind.u64.wrap (IntKind.u64.wrap a * IntKind.u64.wrap b / 18446744073709551616 - IntKind.u64.wrap a) = hiU (a * b) := by
  rw [Int.mul_comm (IntKind.u64.wrap a), Int.mul_comm a]
  exact times_np hb ha h2 h1
theorem times_pp {a b : Int} (ha : I64 a) (hb : I64 b) (h1 : 0 ≤ a) (h2 : 0 ≤ b) :
    IntKind.u64.wrap a * IntKind.u64.wrap b / 18446744073709551616 = hiU (a * b) := by
  rcases u64_case ha with ⟨_, _⟩ | ⟨_, ea⟩
  · omega
  · rcases u64_case hb with ⟨_, _⟩ | ⟨_, eb⟩
    · omega
    · have hp : 0 ≤ a * b := Int.mul_nonneg h1 h2
      have hq : a * b ≤ 9223372036854775807 * 9223372036854775807 := Int.mul_le_mul ha.2 hb.2 h2 (by omega)
      rw [prod_shift a b _ _ 0 0 ea eb]
      unfold hiU
      generalize a * b = p at *
      omega
theorem times_lo {a b : Int} : IntKind.u64.wrap a * IntKind.u64.wrap b % 18446744073709551616 = loU (a * b) := by
  unfold loU
  rw [IntKind.wrap_u64, IntKind.wrap_u64, ← Int.mul_emod]
theorem bits_not_u64 {p : Int} (h : U64 p) : bits BinOp.xor IntKind.u64 IntKind.u64.max p = 18446744073709551615 - p := by
  obtain ⟨m, rfl⟩ := Int.eq_ofNat_of_zero_le h.1
  have hm : m < 18446744073709551616 := by have := h.2; omega
  have e : (IntKind.u64.max : Int) = ((18446744073709551615 : Nat) : Int) := by decide
  rw [e, bits_xor_u64_nat _ _ (by decide) hm]
  have hx : 18446744073709551615 ^^^ m = 18446744073709551615 - m := by
    have h1 : (BitVec.allOnes 64 ^^^ BitVec.ofNat 64 m).toNat = 18446744073709551615 ^^^ m := by
      rw [BitVec.toNat_xor, BitVec.toNat_ofNat, Nat.mod_eq_of_lt (by omega)]; simp
    rw [← h1, BitVec.allOnes_xor, BitVec.toNat_not, BitVec.toNat_ofNat, Nat.mod_eq_of_lt (by omega)]
  rw [hx]
  omega
theorem flip_hi (s : Int) : 18446744073709551615 - hiU s = hiU (-s - 1) := by unfold hiU; omega
theorem flip_lo (s : Int) : 18446744073709551615 - loU s = loU (-s - 1) := by unfold loU; omega
theorem hi_signed {s : Int} (h : I128 s) : wrap64 (hiU s) = s / 18446744073709551616 := by unfold I128 at h; unfold hiU; rw [wrap64_eq]; omega
theorem shift_hi {s : Int} (h : I128 s) (k : Nat) : IntKind.u64.wrap (wrap64 (hiU s) / 2 ^ k) = hiU (s / 2 ^ k) := by
  rw [hi_signed h, IntKind.wrap_u64]
  unfold hiU
  rw [Int.ediv_ediv_of_nonneg (by decide), Int.ediv_ediv_of_nonneg (Int.le_of_lt (Int.pow_pos (by decide))), Int.mul_comm]
theorem shift_lo {s : Int} (k : Nat) (hk : k ≤ 64) : bits BinOp.or IntKind.u64 (IntKind.u64.wrap (hiU s * 2 ^ (64 - k))) (loU s / 2 ^ k) = loU (s / 2 ^ k) := by
  have ek : (2 : Int) ^ (64 - k) * 2 ^ k = 18446744073709551616 := by rw [← Int.pow_add, show 64 - k + k = 64 by omega]; rfl
  have hp : (0 : Int) < 2 ^ k := Int.pow_pos (by decide)
  have hp' : (0 : Int) < 2 ^ (64 - k) := Int.pow_pos (by decide)
  have hlo : 0 ≤ loU s ∧ loU s < 18446744073709551616 := by unfold loU; omega
  have hq1 : loU s / 2 ^ k < 2 ^ (64 - k) := Int.ediv_lt_of_lt_mul hp (by rw [ek]; exact hlo.2)
  have hq0 : 0 ≤ loU s / 2 ^ k := Int.ediv_nonneg hlo.1 (Int.le_of_lt hp)
  have hs : s = loU s + s / 18446744073709551616 * 18446744073709551616 := by unfold loU; omega
  have e1 : s / 2 ^ k = loU s / 2 ^ k + s / 18446744073709551616 * 2 ^ (64 - k) := by
    conv => lhs; rw [hs]
    rw [show s / 18446744073709551616 * 18446744073709551616 = s / 18446744073709551616 * 2 ^ (64 - k) * 2 ^ k by rw [Int.mul_assoc, ek]]
    exact Int.add_mul_ediv_right _ _ (by omega)
  have e2 : IntKind.u64.wrap (hiU s * 2 ^ (64 - k)) = 2 ^ (64 - k) * (s / 18446744073709551616 % 2 ^ k) := by
    rw [IntKind.wrap_u64]
    unfold hiU
    rw [Int.mul_emod, Int.emod_emod_of_dvd _ (Int.dvd_refl _), ← Int.mul_emod, Int.mul_comm]
    rw [show (18446744073709551616 : Int) = 2 ^ (64 - k) * 2 ^ k from ek.symm]
    exact Int.mul_emod_mul_of_pos _ _ hp'
  have hr0 : 0 ≤ s / 18446744073709551616 % 2 ^ k := Int.emod_nonneg _ (by omega)
  have hr1 : s / 18446744073709551616 % 2 ^ k < 2 ^ k := Int.emod_lt_of_pos _ hp
  have e3 : 2 ^ (64 - k) * (s / 18446744073709551616 % 2 ^ k) + 2 ^ (64 - k) ≤ 18446744073709551616 := by
    have := Int.mul_le_mul_of_nonneg_left (show s / 18446744073709551616 % 2 ^ k + 1 ≤ 2 ^ k by omega) (Int.le_of_lt hp')
    rw [Int.mul_add, ek] at this
    omega
  have e4 : 0 ≤ 2 ^ (64 - k) * (s / 18446744073709551616 % 2 ^ k) := Int.mul_nonneg (Int.le_of_lt hp') hr0
  have e5 : s / 18446744073709551616 * 2 ^ (64 - k) % 18446744073709551616 = 2 ^ (64 - k) * (s / 18446744073709551616 % 2 ^ k) := by
    rw [show (18446744073709551616 : Int) = 2 ^ (64 - k) * 2 ^ k from ek.symm, Int.mul_comm]
    exact Int.mul_emod_mul_of_pos _ _ hp'
  rw [e2, bits_join .u64 64 (by decide) (fun n h0 h1 => by rw [IntKind.wrap_u64]; omega) (64 - k) _ _ e4 (Int.mul_emod_right _ _) (by omega) hq0 hq1 (by omega), e1]
  unfold loU at *
  generalize s % 18446744073709551616 / 2 ^ k = y at *
  generalize s / 18446744073709551616 * 2 ^ (64 - k) = A at *
  rw [← e5] at e3 e4 ⊢
  omega
end Go.Proofs.YtehbdnehlfplaaaGreat
/- Function values: a call of one enters its function. -/
namespace Go.Proofs.YtehbdnehlfplaaaGreat
open Go.RowKit
set_option maxRecDepth 100000
set_option linter.unusedVariables false
theorem cl_enter (K : FuncId) (hK : (Tryz.prog.funcs[K]?).map (fun f => f.name == "runtime.NumGoroutine" || f.body.isNone) = some false) (args : Array Value) (W : World) : (callFunc K args).run Tryz.prog W = .ok (.enter K args) W := by
  obtain ⟨fn, hf, hb⟩ := Option.map_eq_some_iff.1 hK
  simp only [Bool.or_eq_false_iff] at hb
  have h1 : ¬ fn.name = "runtime.NumGoroutine" := by simpa using hb.1
  have h2 : ¬ fn.body = none := fun e => by simp [e] at hb
  simp [callFunc, hf, h1, h2, go_sem]
end Go.Proofs.YtehbdnehlfplaaaGreat
/- Plain facts on a long division's digits (Knuth's way, with halves of 32 bits). No program in sight. -/
namespace Go.Proofs.YtehbdnehlfplaaaGreat
set_option maxRecDepth 100000
set_option linter.unusedVariables false

/-- q and r while one digit is sought: never below what it is. -/
structure Dig (u d1 d0 c q r : Int) : Prop where
  sum : q * d1 + r = u
  up : (u * 4294967296 + c) / (d1 * 4294967296 + d0) ≤ q
  q0 : 0 ≤ q
  q1 : q ≤ 4294967297
  r0 : 0 ≤ r

/-- What the digits are sought of. -/
structure Den (u d1 d0 c : Int) : Prop where
  d1l : 2147483648 ≤ d1
  d1h : d1 < 4294967296
  d0l : 0 ≤ d0
  d0h : d0 < 4294967296
  u0 : 0 ≤ u
  ud : u < d1 * 4294967296 + d0
  c0 : 0 ≤ c
  c1 : c < 4294967296

variable {u d1 d0 c q r : Int}

theorem dig_quo0 (n : Den u d1 d0 c) : 0 ≤ (u * 4294967296 + c) / (d1 * 4294967296 + d0) := by
  obtain ⟨h1, h2, h3, h4, h5, h6, h7, h8⟩ := n
  exact Int.ediv_nonneg (by omega) (by omega)
theorem dig_quo1 (n : Den u d1 d0 c) : (u * 4294967296 + c) / (d1 * 4294967296 + d0) < 4294967296 := by
  obtain ⟨h1, h2, h3, h4, h5, h6, h7, h8⟩ := n
  exact Int.ediv_lt_of_lt_mul (by omega) (by omega)
theorem dig_mul (h : Dig u d1 d0 c q r) : q * (d1 * 4294967296 + d0) = (u - r) * 4294967296 + q * d0 := by
  have := h.sum
  rw [Int.mul_add, ← Int.mul_assoc, show q * d1 = u - r by omega]
theorem dig_le (n : Den u d1 d0 c) (h : Dig u d1 d0 c q r) (hle : q * d0 ≤ 4294967296 * r + c) : (u * 4294967296 + c) / (d1 * 4294967296 + d0) = q := by
  refine Int.le_antisymm h.up (Int.le_ediv_of_mul_le (by have := n.d1l; have := n.d0l; omega) ?_)
  rw [dig_mul h]
  omega
theorem dig_gt (n : Den u d1 d0 c) (h : Dig u d1 d0 c q r) (hg : 4294967296 ≤ q ∨ 4294967296 * r + c < q * d0) : (u * 4294967296 + c) / (d1 * 4294967296 + d0) ≤ q - 1 := by
  rcases hg with hg | hg
  · have := dig_quo1 n; omega
  · have : (u * 4294967296 + c) / (d1 * 4294967296 + d0) < q := Int.ediv_lt_of_lt_mul (by have := n.d1l; have := n.d0l; omega) (by rw [dig_mul h]; omega)
    omega
theorem dig_step (n : Den u d1 d0 c) (h : Dig u d1 d0 c q r) (hg : 4294967296 ≤ q ∨ 4294967296 * r + c < q * d0) : Dig u d1 d0 c (q - 1) (r + d1) ∧ 1 ≤ q ∧ q - 1 ≤ 4294967296 := by
  have h1 := dig_gt n h hg
  have h2 := dig_quo0 n
  have h3 := h.q1
  have h4 := h.r0
  have h5 := n.d1l
  have h6 := h.sum
  exact ⟨⟨by rw [Int.sub_mul]; omega, h1, by omega, by omega, by omega⟩, by omega, by omega⟩
theorem dig_break (n : Den u d1 d0 c) (h : Dig u d1 d0 c q r) (hq : q ≤ 4294967296) (hr : 4294967296 ≤ r) : (u * 4294967296 + c) / (d1 * 4294967296 + d0) = q := by
  refine dig_le n h ?_
  have h1 : q * d0 ≤ 4294967296 * 4294967295 := Int.mul_le_mul hq (by have := n.d0h; omega) n.d0l (by decide)
  have := n.c0
  omega
theorem dig_start (n : Den u d1 d0 c) : Dig u d1 d0 c (u / d1) (u - u / d1 * d1) ∧ u - u / d1 * d1 < 4294967296 := by
  obtain ⟨h1, h2, h3, h4, h5, h6, h7, h8⟩ := n
  have e := Int.mul_ediv_add_emod u d1
  have e1 := Int.emod_nonneg u (show d1 ≠ 0 by omega)
  have e2 := Int.emod_lt_of_pos u (show 0 < d1 by omega)
  rw [Int.mul_comm] at e
  have q0 : 0 ≤ u / d1 := Int.ediv_nonneg h5 (by omega)
  refine ⟨⟨by omega, ?_, q0, ?_, by omega⟩, by omega⟩
  · have : (u * 4294967296 + c) / (d1 * 4294967296 + d0) < u / d1 + 1 := by
      refine Int.ediv_lt_of_lt_mul (by omega) ?_
      have k1 : (u / d1 + 1) * (d1 * 4294967296 + d0) = (u / d1 * d1 + d1) * 4294967296 + (u / d1 + 1) * d0 := by
        rw [Int.mul_add, ← Int.mul_assoc, Int.add_mul, Int.one_mul]
      have k2 : 0 ≤ (u / d1 + 1) * d0 := Int.mul_nonneg (by omega) h3
      omega
    omega
  · have : u / d1 < 4294967298 := Int.ediv_lt_of_lt_mul (by omega) (by omega)
    omega

/-- Both digits together. -/
theorem two_digits {D t1 t0 a1 a0 b : Int} (_hD : 0 < D) (h1 : t1 = a1 * D + b) (h0 : b * 4294967296 + t0 = a0 * D + r) (hr : 0 ≤ r) (hr' : r < D) :
    (t1 * 4294967296 + t0) / D = a1 * 4294967296 + a0 ∧ (t1 * 4294967296 + t0) % D = r := by
  have e : t1 * 4294967296 + t0 = r + (a1 * 4294967296 + a0) * D := by
    subst h1
    rw [Int.add_mul, Int.add_mul, Int.mul_right_comm]
    omega
  rw [e]
  constructor
  · rw [Int.add_mul_ediv_right _ _ (by omega), Int.ediv_eq_zero_of_lt hr hr']; omega
  · rw [Int.add_mul_emod_self_right, Int.emod_eq_of_lt hr hr']

/-- Shifting both by as many bits does not change the quotient. -/
theorem quo_shift {U y p : Int} (hp : 0 < p) (hy : 0 < y) : U * p / (y * p) = U / y ∧ U * p % (y * p) / p = U % y := by
  constructor
  · exact Int.mul_ediv_mul_of_pos_left _ _ hp
  · rw [Int.mul_comm U, Int.mul_comm y, Int.mul_emod_mul_of_pos _ _ hp]
    exact Int.mul_ediv_cancel_left _ (by omega)
end Go.Proofs.YtehbdnehlfplaaaGreat
/- Plain facts on a number shifted so far that its highest bit stands. No program in sight. -/
namespace Go.Proofs.YtehbdnehlfplaaaGreat
open Go.RowKit
set_option maxRecDepth 100000
set_option linter.unusedVariables false
theorem and_low (x : Int) (h : U64 x) : bits BinOp.and IntKind.u64 x 4294967295 = x % 4294967296 :=
  bits_mask .u64 64 (by decide) (fun n h0 h1 => by rw [IntKind.wrap_u64]; omega) 32 (by decide) x h.1 (by have := h.2; omega)
theorem two_pow_split (s : Nat) (hs : s ≤ 64) : (2 : Int) ^ s * 2 ^ (64 - s) = 18446744073709551616 := by
  rw [← Int.pow_add, show s + (64 - s) = 64 by omega]; rfl
theorem norm_u (h l y : Int) (s : Nat) (hs : s ≤ 63) (hl : U64 l) (h0 : 0 ≤ h) (h1 : h < y) (hD : y * 2 ^ s ≤ 18446744073709551615) :
    bits BinOp.or IntKind.u64 (IntKind.u64.wrap (h * 2 ^ s)) (l / 2 ^ (64 - s)) = h * 2 ^ s + l / 2 ^ (64 - s) := by
  have ek := two_pow_split s (by omega)
  have hp : (0 : Int) < 2 ^ s := Int.pow_pos (by decide)
  have hp' : (0 : Int) < 2 ^ (64 - s) := Int.pow_pos (by decide)
  have e1 : h * 2 ^ s < y * 2 ^ s := Int.mul_lt_mul_of_pos_right h1 hp
  have e0 : 0 ≤ h * 2 ^ s := Int.mul_nonneg h0 (by omega)
  have e2 : l / 2 ^ (64 - s) < 2 ^ s := Int.ediv_lt_of_lt_mul hp' (by rw [ek]; have := hl.2; omega)
  have e3 : 0 ≤ l / 2 ^ (64 - s) := Int.ediv_nonneg hl.1 (by omega)
  have e4 : (2 : Int) ^ s ≤ 2 ^ s * 2 ^ (64 - s) := by
    have := Int.mul_le_mul_of_nonneg_left (show (1 : Int) ≤ 2 ^ (64 - s) by omega) (Int.le_of_lt hp)
    omega
  rw [ek] at e4
  rw [show IntKind.u64.wrap (h * 2 ^ s) = h * 2 ^ s by rw [IntKind.wrap_u64]; omega]
  exact bits_join .u64 64 (by decide) (fun n h0 h1 => by rw [IntKind.wrap_u64]; omega) s _ _ e0 (Int.mul_emod_left _ _) (by omega) e3 e2 (by omega)
theorem norm_sum (h l : Int) (s : Nat) (hs : s ≤ 63) : (h * 18446744073709551616 + l) * 2 ^ s = (h * 2 ^ s + l / 2 ^ (64 - s)) * 18446744073709551616 + IntKind.u64.wrap (l * 2 ^ s) := by
  have ek := two_pow_split s (by omega)
  have hp : (0 : Int) < 2 ^ s := Int.pow_pos (by decide)
  have e : l * 2 ^ s / 18446744073709551616 = l / 2 ^ (64 - s) := by
    rw [← ek, Int.mul_comm l]; exact Int.mul_ediv_mul_of_pos _ _ hp
  rw [IntKind.wrap_u64, Int.add_mul, Int.add_mul, ← e, Int.mul_right_comm]
  omega
theorem norm_lt (h l y : Int) (s : Nat) (hs : s ≤ 63) (hl : U64 l) (h1 : h < y) : h * 2 ^ s + l / 2 ^ (64 - s) < y * 2 ^ s := by
  have hp : (0 : Int) < 2 ^ s := Int.pow_pos (by decide)
  have e := norm_sum h l s hs
  have e2 : (h * 18446744073709551616 + l) * 2 ^ s < (y * 18446744073709551616) * 2 ^ s := Int.mul_lt_mul_of_pos_right (by have := hl.2; omega) hp
  rw [e, Int.mul_right_comm] at e2
  have := (U64.wrap (l * 2 ^ s)).1
  omega
end Go.Proofs.YtehbdnehlfplaaaGreat
/- Roots, rows, powers of two, shares of a whole. Plain mathematics. No program in sight. -/
namespace Go.Proofs.YtehbdnehlfplaaaGreat
set_option maxRecDepth 100000
set_option linter.unusedVariables false
/-- The root, bit by bit. -/
def rootGo (n : Nat) : Nat → Nat → Nat
  | 0, out => out
  | i + 1, out => if (out + 2 ^ i) * (out + 2 ^ i) ≤ n then rootGo n i (out + 2 ^ i) else rootGo n i out
def rootN (n : Nat) : Nat := rootGo n 32 0
theorem rootGo_ok {n : Nat} : ∀ (i out : Nat), out * out ≤ n → n < (out + 2 ^ i) * (out + 2 ^ i) → rootGo n i out * rootGo n i out ≤ n ∧ n < (rootGo n i out + 1) * (rootGo n i out + 1) ∧ rootGo n i out < out + 2 ^ i
  | 0, out, h1, h2 => by
    rw [rootGo]
    simp only [Nat.pow_zero] at h2 ⊢
    exact ⟨h1, h2, by omega⟩
  | i + 1, out, h1, h2 => by
    rw [rootGo]
    have hp : 2 ^ (i + 1) = 2 ^ i + 2 ^ i := by rw [Nat.pow_succ]; omega
    have h0 : 0 < 2 ^ i := Nat.two_pow_pos i
    by_cases h : (out + 2 ^ i) * (out + 2 ^ i) ≤ n
    · rw [if_pos h]
      obtain ⟨a, b, c⟩ := rootGo_ok i (out + 2 ^ i) h (by rw [Nat.add_assoc, ← hp]; exact h2)
      exact ⟨a, b, by rw [hp]; omega⟩
    · rw [if_neg h]
      obtain ⟨a, b, c⟩ := rootGo_ok i out h1 (by omega)
      exact ⟨a, b, by rw [hp]; omega⟩
theorem rootN_ok {n : Nat} (h : n < 18446744073709551616) : rootN n * rootN n ≤ n ∧ n < (rootN n + 1) * (rootN n + 1) ∧ rootN n < 4294967296 := by
  have h2 := rootGo_ok (n := n) 32 0 (by omega) (by simpa using h)
  simpa [rootN] using h2
/-- The table. -/
def rowsN : List Nat := [1073741824, 1028218692, 984625593, 942880698, 902905650, 864625412, 827968131, 792864998, 759250124, 727060409, 696235433, 666717334, 638450707, 611382491, 585461880, 560640217, 536870912]
theorem rows_fall : ∀ i, i < 16 → rowsN.getD (i + 1) 0 < rowsN.getD i 0 := by decide
theorem rows_down {i k : Nat} (h : i ≤ k) (hk : k ≤ 16) : rowsN.getD k 0 ≤ rowsN.getD i 0 := by
  induction k with
  | zero => have : i = 0 := by omega
            subst this; exact Nat.le_refl _
  | succ k ih =>
    by_cases e : i = k + 1
    · subst e; exact Nat.le_refl _
    · exact Nat.le_trans (Nat.le_of_lt (rows_fall k (by omega))) (ih (by omega) (by omega))
theorem rows_lo {i : Nat} (h : i ≤ 16) : 536870912 ≤ rowsN.getD i 0 := rows_down (k := 16) h (Nat.le_refl _)
theorem rows_hi {i : Nat} (h : i ≤ 16) : rowsN.getD i 0 ≤ 1073741824 := rows_down (i := 0) (Nat.zero_le _) h
/-- The power of two: y is the opposite, with f bits behind the point. -/
def rowN (y f : Nat) : Nat := rowsN.getD (y % 2 ^ f * 16 / 2 ^ f) 0
def expN (y f : Nat) : Nat := rowN y f / 2 ^ (30 - f + y / 2 ^ f)
theorem row_at {y f : Nat} : y % 2 ^ f * 16 / 2 ^ f ≤ 15 := by
  have h0 := Nat.two_pow_pos f
  have h := Nat.mod_lt y h0
  have : y % 2 ^ f * 16 / 2 ^ f < 16 := by
    rw [Nat.div_lt_iff_lt_mul h0, Nat.mul_comm 16]
    exact Nat.mul_lt_mul_of_pos_right h (by decide)
  omega
theorem expN_zero {f : Nat} (hf : f ≤ 30) : expN 0 f = 2 ^ f := by
  have h : rowN 0 f = 2 ^ 30 := by unfold rowN; simp [rowsN]
  unfold expN
  rw [h, Nat.zero_div, Nat.add_zero, Nat.pow_div (by omega) (by decide)]
  congr 1
  omega
theorem expN_down {y z f : Nat} (h : y ≤ z) : expN z f ≤ expN y f := by
  have h0 := Nat.two_pow_pos f
  have hq := Nat.div_le_div_right (c := 2 ^ f) h
  have hy := Nat.div_add_mod y (2 ^ f)
  have hz := Nat.div_add_mod z (2 ^ f)
  unfold expN
  by_cases e : y / 2 ^ f = z / 2 ^ f
  · rw [← e]
    refine Nat.div_le_div_right ?_
    unfold rowN
    refine rows_down ?_ (Nat.le_trans row_at (by decide))
    refine Nat.div_le_div_right (Nat.mul_le_mul_right _ ?_)
    rw [e] at hy
    omega
  · obtain ⟨d, hd⟩ : ∃ d, z / 2 ^ f = y / 2 ^ f + 1 + d := ⟨z / 2 ^ f - (y / 2 ^ f + 1), by omega⟩
    rw [hd]
    obtain ⟨q, hqq⟩ : ∃ q, 30 - f + y / 2 ^ f = q := ⟨_, rfl⟩
    rw [show 30 - f + (y / 2 ^ f + 1 + d) = q + 1 + d by omega, hqq]
    have a1 : rowN z f ≤ 1073741824 := rows_hi (Nat.le_trans row_at (by decide))
    have a2 : 536870912 ≤ rowN y f := rows_lo (Nat.le_trans row_at (by decide))
    calc rowN z f / 2 ^ (q + 1 + d) ≤ 1073741824 / 2 ^ (q + 1 + d) := Nat.div_le_div_right a1
      _ ≤ 1073741824 / 2 ^ (q + 1) := Nat.div_le_div_left (Nat.pow_le_pow_right (by decide) (by omega)) (Nat.two_pow_pos _)
      _ = 536870912 / 2 ^ q := by rw [Nat.pow_succ, Nat.mul_comm, ← Nat.div_div_eq_div_mul]
      _ ≤ rowN y f / 2 ^ q := Nat.div_le_div_right a2
theorem expN_le {y f : Nat} (hf : f ≤ 30) : expN y f ≤ 2 ^ f := by rw [← expN_zero hf]; exact expN_down (Nat.zero_le _)
/-- Shares of a whole. -/
def shN (one S p : Nat) : Nat := p * one / S
theorem sh_sum {one S : Nat} (hS : 0 < S) : ∀ (l : List Nat), S * (l.map (shN one S)).sum ≤ l.sum * one ∧ l.sum * one ≤ S * (l.map (shN one S)).sum + l.length * (S - 1)
  | [] => by simp
  | p :: l => by
    obtain ⟨a, b⟩ := sh_sum (one := one) hS l
    rw [List.map_cons, List.sum_cons, List.sum_cons, List.length_cons, Nat.mul_add, Nat.add_mul, Nat.add_mul (l.length), Nat.one_mul]
    have h1 := Nat.div_add_mod (p * one) S
    have h2 := Nat.mod_lt (p * one) hS
    have h3 : shN one S p = p * one / S := rfl
    rw [h3]
    omega
/-- All shares together are no more than the whole, and less by fewer than as many as there are. -/
theorem sh_whole {one : Nat} {l : List Nat} (h : 0 < l.sum) : (l.map (shN one l.sum)).sum ≤ one ∧ one < (l.map (shN one l.sum)).sum + l.length := by
  obtain ⟨a, b⟩ := sh_sum (one := one) h l
  obtain ⟨S, hS⟩ : ∃ S, l.sum = S := ⟨_, rfl⟩
  obtain ⟨T, hT⟩ : ∃ T, (l.map (shN one S)).sum = T := ⟨_, rfl⟩
  have hl : 0 < l.length := by
    rcases Nat.eq_zero_or_pos l.length with e | e
    · rw [List.length_eq_zero_iff.1 e] at h; simp at h
    · exact e
  rw [hS] at a b h ⊢
  rw [hT] at a b ⊢
  constructor
  · exact Nat.le_of_mul_le_mul_left a h
  · refine Nat.lt_of_mul_lt_mul_left (a := S) ?_
    rw [Nat.mul_add]
    refine Nat.lt_of_le_of_lt b ?_
    have : l.length * (S - 1) < S * l.length := by
      rw [Nat.mul_comm S]
      exact Nat.mul_lt_mul_of_pos_left (by omega) hl
    omega
theorem sh_more {one S p q : Nat} (h : p ≤ q) : shN one S p ≤ shN one S q := Nat.div_le_div_right (Nat.mul_le_mul_right _ h)
/-- The greatest one's share is not less than the whole by how many there are. -/
theorem sh_best {one : Nat} {l : List Nat} (h1 : 0 < one) (hm : ∀ p ∈ l, p ≤ one) (hl : 0 < l.sum) : one / l.length ≤ shN one l.sum one := by
  have hs : ∀ (l : List Nat), (∀ p ∈ l, p ≤ one) → l.sum ≤ l.length * one := by
    intro l
    induction l with
    | nil => intro _; simp
    | cons x t ih =>
      intro h
      rw [List.sum_cons, List.length_cons, Nat.add_mul, Nat.one_mul]
      have a := h x (by simp)
      have b := ih fun p hp => h p (by simp [hp])
      omega
  have h2 := hs l hm
  unfold shN
  rw [Nat.le_div_iff_mul_le hl]
  refine Nat.le_trans (Nat.mul_le_mul_left _ h2) ?_
  rw [← Nat.mul_assoc]
  exact Nat.mul_le_mul_right _ (Nat.div_mul_le_self _ _)
end Go.Proofs.YtehbdnehlfplaaaGreat
/- The greatest number's place, and shares: the errors, and what follows. Plain mathematics. No program in sight. -/
namespace Go.Proofs.YtehbdnehlfplaaaGreat
set_option maxRecDepth 100000
set_option linter.unusedVariables false
/-- The first place of the greatest number, of the first so many. -/
def bstGo (z : List Int) : Nat → Nat
  | 0 => 0
  | k + 1 => if z.getD k 0 > z.getD (bstGo z k) 0 then k else bstGo z k
def bstE (z : List Int) : Int := if z = [] then 1 else if 4096 < z.length then 3 else 0
def bstN (z : List Int) : Nat := if bstE z = 0 then bstGo z z.length else 0
theorem bstE_ok {z : List Int} : bstE z = 0 ↔ z ≠ [] ∧ z.length ≤ 4096 := by
  unfold bstE
  by_cases h : z = []
  · rw [if_pos h]
    exact ⟨fun h2 => absurd h2 (by decide), fun h2 => absurd h h2.1⟩
  · rw [if_neg h]
    by_cases h2 : 4096 < z.length
    · rw [if_pos h2]
      exact ⟨fun h3 => absurd h3 (by decide), fun h3 => by omega⟩
    · rw [if_neg h2]
      exact ⟨fun _ => ⟨h, by omega⟩, fun _ => rfl⟩
theorem bstGo_lt {z : List Int} : ∀ k, bstGo z k < k ∨ bstGo z k = 0
  | 0 => .inr rfl
  | k + 1 => by
    rw [bstGo]
    split
    · exact .inl (by omega)
    · rcases bstGo_lt (z := z) k with h | h
      · exact .inl (by omega)
      · exact .inr h
theorem bstGo_ok {z : List Int} : ∀ k i, i < k → z.getD i 0 ≤ z.getD (bstGo z k) 0 ∧ (z.getD i 0 = z.getD (bstGo z k) 0 → bstGo z k ≤ i)
  | 0, i, h => by omega
  | k + 1, i, h => by
    rw [bstGo]
    by_cases h1 : z.getD k 0 > z.getD (bstGo z k) 0
    · rw [if_pos h1]
      by_cases e : i = k
      · subst e; exact ⟨Int.le_refl _, fun _ => Nat.le_refl _⟩
      · obtain ⟨a, b⟩ := bstGo_ok (z := z) k i (by omega)
        exact ⟨by omega, fun h3 => by omega⟩
    · rw [if_neg h1]
      by_cases e : i = k
      · subst e
        refine ⟨by omega, fun _ => ?_⟩
        rcases bstGo_lt (z := z) i with h2 | h2 <;> omega
      · exact bstGo_ok (z := z) k i (by omega)
theorem bst_in {z : List Int} (h : z ≠ []) : bstGo z z.length < z.length := by
  have h0 : 0 < z.length := List.length_pos_iff.2 h
  rcases bstGo_lt (z := z) z.length with h2 | h2 <;> omega
/-- The greatest number. -/
def topZ (z : List Int) : Int := z.getD (bstGo z z.length) 0
theorem topZ_mem {z : List Int} (h : z ≠ []) : topZ z ∈ z := by
  have h2 := bst_in h
  unfold topZ
  rw [List.getD_eq_getElem?_getD, List.getElem?_eq_getElem h2, Option.getD_some]
  exact List.getElem_mem h2
theorem topZ_ge {z : List Int} {x : Int} (hx : x ∈ z) : x ≤ topZ z := by
  obtain ⟨i, hi, rfl⟩ := List.mem_iff_getElem.1 hx
  have h := (bstGo_ok (z := z) z.length i hi).1
  rw [List.getD_eq_getElem?_getD, List.getElem?_eq_getElem hi, Option.getD_some] at h
  exact h
/-- The opposite of a number less the greatest one may not be. -/
def farZ (z : List Int) : Bool := decide (∃ x ∈ z, x - topZ z < -9223372036854775807)
def sofE (frac : Int) (z : List Int) : Int := if bstE z ≠ 0 then bstE z else if frac < 0 ∨ 30 < frac then 1 else if farZ z = true then 2 else 0
def powL (frac : Int) (z : List Int) : List Nat := z.map fun x => expN (topZ z - x).toNat frac.toNat
def sofL (frac : Int) (z : List Int) : List Int := (powL frac z).map fun p => (shN (2 ^ frac.toNat) (powL frac z).sum p : Int)
def sofV (frac : Int) (z : List Int) : List Int := if sofE frac z = 0 then sofL frac z else []
theorem sofE_ok {frac : Int} {z : List Int} : sofE frac z = 0 ↔ (z ≠ [] ∧ z.length ≤ 4096) ∧ 0 ≤ frac ∧ frac ≤ 30 ∧ ∀ x ∈ z, -9223372036854775807 ≤ x - topZ z := by
  unfold sofE farZ
  rw [← bstE_ok]
  by_cases h1 : bstE z = 0
  · rw [if_neg (by simp [h1])]
    by_cases h2 : frac < 0 ∨ 30 < frac
    · rw [if_pos h2]
      exact ⟨fun h => absurd h (by decide), fun h => by omega⟩
    · rw [if_neg h2]
      by_cases h3 : ∃ x ∈ z, x - topZ z < -9223372036854775807
      · rw [if_pos (by simpa using h3)]
        obtain ⟨x, hx, h4⟩ := h3
        exact ⟨fun h => absurd h (by decide), fun h => by have := h.2.2.2 x hx; omega⟩
      · rw [if_neg (by simpa using h3)]
        exact ⟨fun _ => ⟨h1, by omega, by omega, fun x hx => by
          rcases Int.lt_or_le (x - topZ z) (-9223372036854775807) with h5 | h5
          · exact absurd ⟨x, hx, h5⟩ h3
          · exact h5⟩, fun _ => rfl⟩
  · rw [if_pos h1]
    exact ⟨fun h => absurd h h1, fun h => absurd h.1 h1⟩
theorem powL_len (frac : Int) (z : List Int) : (powL frac z).length = z.length := by unfold powL; simp
theorem sofL_len (frac : Int) (z : List Int) : (sofL frac z).length = z.length := by unfold sofL; rw [List.length_map, powL_len]
theorem powL_le {frac : Int} {z : List Int} (hf : frac ≤ 30) : ∀ p ∈ powL frac z, p ≤ 2 ^ frac.toNat := fun p hp => by
  unfold powL at hp
  obtain ⟨x, _, rfl⟩ := List.mem_map.1 hp
  exact expN_le (by omega)
theorem powL_at {frac : Int} {z : List Int} {i : Nat} (hi : i < z.length) : (powL frac z).getD i 0 = expN (topZ z - z.getD i 0).toNat frac.toNat := by
  unfold powL
  rw [List.getD_eq_getElem?_getD, List.getElem?_map, List.getD_eq_getElem?_getD, List.getElem?_eq_getElem hi]
  rfl
theorem sofL_at {frac : Int} {z : List Int} {i : Nat} (hi : i < z.length) : (sofL frac z).getD i 0 = (shN (2 ^ frac.toNat) (powL frac z).sum (expN (topZ z - z.getD i 0).toNat frac.toNat) : Int) := by
  have h := powL_at (frac := frac) hi
  have h2 : i < (powL frac z).length := by rw [powL_len]; exact hi
  unfold sofL
  rw [← h, List.getD_eq_getElem?_getD, List.getElem?_map, List.getD_eq_getElem?_getD, List.getElem?_eq_getElem h2]
  rfl
theorem pow_top {frac : Int} {z : List Int} (hz : z ≠ []) (hf : frac ≤ 30) : 2 ^ frac.toNat ∈ powL frac z := by
  unfold powL
  refine List.mem_map.2 ⟨topZ z, topZ_mem hz, ?_⟩
  rw [Int.sub_self]
  exact expN_zero (by omega)
theorem sum_mem {p : Nat} : ∀ {l : List Nat}, p ∈ l → p ≤ l.sum
  | x :: l, h => by
    rw [List.sum_cons]
    rcases List.mem_cons.1 h with rfl | h
    · omega
    · have := sum_mem h; omega
theorem pow_sum {frac : Int} {z : List Int} (hz : z ≠ []) (hf : frac ≤ 30) : 0 < (powL frac z).sum := Nat.lt_of_lt_of_le (Nat.two_pow_pos _) (sum_mem (pow_top hz hf))
/-- All shares together. -/
theorem sof_whole {frac : Int} {z : List Int} (h : sofE frac z = 0) :
    (sofL frac z).sum ≤ 2 ^ frac.toNat ∧ 2 ^ frac.toNat - (sofL frac z).sum < (z.length : Int) ∧ (∀ s ∈ sofL frac z, 0 ≤ s ∧ s ≤ 2 ^ frac.toNat) ∧
    (∀ i, i < z.length → (sofL frac z).getD i 0 ≤ (sofL frac z).getD (bstGo z z.length) 0) ∧
    (∀ i k, i < z.length → k < z.length → z.getD k 0 ≤ z.getD i 0 → (sofL frac z).getD k 0 ≤ (sofL frac z).getD i 0) ∧
    ((2 ^ frac.toNat / z.length : Nat) : Int) ≤ (sofL frac z).getD (bstGo z z.length) 0 := by
  obtain ⟨⟨hz, hl⟩, f0, f1, hd⟩ := sofE_ok.1 h
  have hs := pow_sum hz f1
  obtain ⟨a, b⟩ := sh_whole (one := 2 ^ frac.toNat) hs
  have hsum : (sofL frac z).sum = (((powL frac z).map (shN (2 ^ frac.toNat) (powL frac z).sum)).sum : Nat) := by
    unfold sofL
    generalize (powL frac z).sum = S
    generalize powL frac z = l
    induction l with
    | nil => rfl
    | cons x t ih => rw [List.map_cons, List.sum_cons, List.map_cons, List.sum_cons, ih]; omega
  rw [powL_len] at b
  have hin := bst_in hz
  have hone : ((2 ^ frac.toNat : Nat) : Int) = 2 ^ frac.toNat := by simp
  have hup : ∀ i k, i < z.length → k < z.length → z.getD k 0 ≤ z.getD i 0 → (sofL frac z).getD k 0 ≤ (sofL frac z).getD i 0 := by
    intro i k hi hk hik
    rw [sofL_at hi, sofL_at hk]
    exact Int.ofNat_le.2 (sh_more (expN_down (by omega)))
  refine ⟨by rw [hsum]; omega, by rw [hsum]; omega, ?_, fun i hi => hup _ i hin hi ((bstGo_ok (z := z) z.length i hi).1), hup, ?_⟩
  · intro s hs2
    unfold sofL at hs2
    obtain ⟨p, hp, rfl⟩ := List.mem_map.1 hs2
    refine ⟨by omega, ?_⟩
    have h1 : shN (2 ^ frac.toNat) (powL frac z).sum p ≤ ((powL frac z).map (shN (2 ^ frac.toNat) (powL frac z).sum)).sum := sum_mem (List.mem_map.2 ⟨p, hp, rfl⟩)
    omega
  · rw [sofL_at hin, show topZ z - z.getD (bstGo z z.length) 0 = 0 from Int.sub_self _, show (0 : Int).toNat = 0 from rfl, expN_zero (by omega)]
    have := sh_best (one := 2 ^ frac.toNat) (Nat.two_pow_pos _) (powL_le (z := z) f1) hs
    rw [powL_len] at this
    exact Int.ofNat_le.2 this
end Go.Proofs.YtehbdnehlfplaaaGreat
/- Roots, the greatest number's place: by the document. -/
namespace Go.Proofs.YtehbdnehlfplaaaGreat
open Go.RowKit
set_option maxHeartbeats 1000000
set_option maxRecDepth 100000
set_option linter.unusedVariables false
theorem ref_Root (n : Nat) (hn : n < 18446744073709551616) (w : World) :
    Calls Tryz.prog 103 #[.int .u64 (n : Int)] w fun e w' => e = .returned (.int .u64 (rootN n : Int)) ∧ w = w' := by
  obtain ⟨R, hR⟩ : ∃ R, rootN n = R := ⟨_, rfl⟩
  have HR : Hid (rootGo n 32 0 = R) := hid hR
  rw [hR]
  clear hR
  go_enter Tryz.func103, Tryz.ntmps103
  go_wp2_with fail
  go_loop [3, 5, 4] (fun xo xt i => ∃ k out : Nat, k ≤ 32 ∧ i = .int .i64 ((k : Int) - 1) ∧ xo = .int .u64 (out : Int) ∧ out + 2 ^ k ≤ 4294967296 ∧ rootGo n k out = R) (fun _ _ i => (intOf i + 1).toNat)
  case atStart => exact ⟨32, 0, by omega, rfl, rfl, by decide, HR.out⟩
  case round =>
    obtain ⟨k, out, hk, rfl, rfl, ho, hg⟩ := hrel
    have HG := hid hg
    have HO := hid ho
    clear hg ho
    cases k with
    | zero =>
      have hz : ((0 : Nat) : Int) - 1 = -1 := rfl
      have he : out = R := HG.out
      subst he
      rw [hz]
      go_wp2_with fail
      go_ret
      exact ⟨rfl, rfl⟩
    | succ m =>
      have hi : ((m + 1 : Nat) : Int) - 1 = (m : Int) := by omega
      rw [hi]
      obtain ⟨P, hP⟩ : ∃ P : Nat, 2 ^ m = P := ⟨_, rfl⟩
      have hm : P ≤ 2147483648 := by rw [← hP]; exact Nat.pow_le_pow_right (n := 2) (by decide) (show m ≤ 31 by omega)
      have hp2 : 2 ^ (m + 1) = 2 * P := by rw [Nat.pow_succ, hP]; omega
      have hO := HO.out
      rw [hp2] at hO
      obtain ⟨T, hT⟩ : ∃ T : Nat, out + P = T := ⟨_, rfl⟩
      have hP1 : 1 ≤ P := by rw [← hP]; exact Nat.two_pow_pos m
      have hT1 : T ≤ 4294967295 := by omega
      have hT2 : T * T ≤ 4294967295 * 4294967295 := Nat.mul_le_mul hT1 hT1
      have q1 : IntKind.u64.wrap ((2 : Int) ^ m) = (P : Int) := by
        have : ((2 : Int) ^ m) = ((2 ^ m : Nat) : Int) := by simp
        rw [this, hP, IntKind.wrap_u64]; omega
      have q2 : IntKind.u64.wrap ((out : Int) + (P : Int)) = (T : Int) := by rw [IntKind.wrap_u64]; omega
      obtain ⟨Z, hZ⟩ : ∃ Z : Nat, T * T = Z := ⟨_, rfl⟩
      have q3 : IntKind.u64.wrap ((T : Int) * (T : Int)) = (Z : Int) := by
        rw [show (T : Int) * (T : Int) = ((T * T : Nat) : Int) by simp, hZ, IntKind.wrap_u64]; omega
      have HS : Hid (rootGo n (m + 1) out = if Z ≤ n then rootGo n m T else rootGo n m out) := hid (by rw [rootGo, hP, hT, hZ])
      have HT : Hid (T + P ≤ 4294967296 ∧ out + P ≤ 4294967296 ∧ 2 ^ m = P) := hid ⟨by omega, by omega, hP⟩
      clear hP hp2 hO hT hT2 hZ HO
      by_cases hle : Z ≤ n
      · have hle' : (Z : Int) ≤ (n : Int) := by omega
        have hg2 : rootGo n m T = R := by rw [← HG.out, HS.out, if_pos hle]
        have HG2 := hid hg2
        clear hle hg2 HG HS
        go_wp2_with fail
        go_round
        case rel => exact ⟨m, T, by omega, rfl, rfl, by rw [HT.out.2.2]; exact HT.out.1, HG2.out⟩
        case measure => simp [intOf]
      · have hle' : ¬ (Z : Int) ≤ (n : Int) := by omega
        have hg2 : rootGo n m out = R := by rw [← HG.out, HS.out, if_neg hle]
        have HG2 := hid hg2
        clear hle hg2 HG HS
        go_wp2_with fail
        go_round
        case rel => exact ⟨m, out, by omega, rfl, rfl, by rw [HT.out.2.2]; exact HT.out.2.1, HG2.out⟩
        case measure => simp [intOf]
theorem ref_Best {A : Option Addr} {c : Nat} (z : List Int) (hz : z.length ≤ 9223372036854775807) (w : World) (ra : Rd (Value.int .i64) w w.heap.size A z) :
    Calls Tryz.prog 41 #[.slice A z.length c] w fun e w' => e = .returned (.tuple #[.int .i64 (bstN z : Int), .int .i64 (bstE z)]) ∧ Below w.heap.size w w' := by
  by_cases h0 : z = []
  · subst h0
    have e1 : bstE [] = 1 := rfl
    have e2 : bstN [] = 0 := rfl
    rw [e1, e2]
    clear ra e1 e2
    go_enter Tryz.func41, Tryz.ntmps41
    go_wp2_with fail
    go_ret2
    exact ⟨rfl, Below.refl _ _⟩
  · have hpos : 0 < z.length := List.length_pos_iff.2 h0
    have t0 : ((z.length : Int) == 0) = false := beq_eq_false_iff_ne.2 (by omega)
    by_cases h4 : 4096 < z.length
    · have e1 : bstE z = 3 := by unfold bstE; rw [if_neg h0, if_pos h4]
      have e2 : bstN z = 0 := if_neg (by rw [e1]; decide)
      rw [e1, e2]
      have h4' : (z.length : Int) > 4096 := by omega
      clear ra e1 e2 h0
      go_enter Tryz.func41, Tryz.ntmps41
      go_wp2_with fail
      go_ret2
      exact ⟨rfl, Below.refl _ _⟩
    · have e1 : bstE z = 0 := bstE_ok.2 ⟨h0, by omega⟩
      have e2 : bstN z = bstGo z z.length := if_pos e1
      rw [e1, e2]
      have h4' : ¬ (z.length : Int) > 4096 := by omega
      obtain ⟨M, hM⟩ : ∃ M, z.length = M := ⟨_, rfl⟩
      have HB : Hid (∀ k, k < M → ∃ x y, z[k]? = some x ∧ z[bstGo z k]? = some y ∧ bstGo z k < M ∧ bstGo z (k + 1) = if x > y then k else bstGo z k) := hid (fun k hk => by
        have hb : bstGo z k < z.length := by rcases bstGo_lt (z := z) k with h | h <;> omega
        refine ⟨z.getD k 0, z.getD (bstGo z k) 0, ?_, ?_, by omega, rfl⟩
        · rw [List.getD_eq_getElem?_getD, List.getElem?_eq_getElem (by omega)]; rfl
        · rw [List.getD_eq_getElem?_getD, List.getElem?_eq_getElem hb]; rfl)
      have HR := hid ra
      have HM := hid hM
      rw [hM] at hpos t0 h4 h4' ⊢
      obtain ⟨f, hf⟩ : ∃ f : Nat → Nat, (fun k => bstGo z k) = f := ⟨_, rfl⟩
      have HF : Hid (∀ k, bstGo z k = f k) := hid (fun k => by rw [← hf])
      rw [HF.out M]
      have HZ : Hid (f 0 = 0) := hid (by rw [← HF.out]; rfl)
      clear hf hM ra e1 e2 h0
      go_enter Tryz.func41, Tryz.ntmps41
      go_wp2_with fail
      go_loopw [4, 5, 14] (fun xa xi i wr => ∃ k : Nat, k ≤ M ∧ i = .int .i64 k ∧ xa = .int .i64 (f k : Int) ∧ Below w.heap.size w wr) (fun _ _ i _ => M - (intOf i).toNat)
      case atStart => exact ⟨0, by omega, rfl, by rw [HZ.out]; rfl, Below.refl _ _⟩
      case round =>
        obtain ⟨k, hk, rfl, rfl, hbel⟩ := hrel
        have HBL := hid hbel
        by_cases hlt : k < M
        · obtain ⟨x, y, ex, ey, hb, hs⟩ := HB.out k hlt
          rw [HF.out, HF.out] at hs
          rw [HF.out] at ey hb
          obtain ⟨b1, o1, x', rfl, l1, en, c1⟩ := (HR.out.on hbel).at_ (k := k) (by rw [HM.out]; exact hlt)
          obtain ⟨b2, o2, y', e2, l2, em, c2⟩ := (HR.out.on hbel).at_ (k := f k) (by rw [HM.out]; exact hb)
          obtain rfl : x = x' := Option.some.inj (ex.symm.trans en)
          obtain rfl : y = y' := Option.some.inj (ey.symm.trans em)
          cases e2
          obtain ⟨Q, hQ⟩ : ∃ Q, f k = Q := ⟨_, rfl⟩
          rw [hQ] at hb hs c2 ⊢
          have HS := hid hs
          clear hs ex ey en em hbel hQ
          by_cases hxy : x > y
          · have hq : f (k + 1) = k := by rw [HS.out, if_pos hxy]
            have HQ := hid hq
            clear hq HS
            go_wp2_with fail
            go_region
            go_wp2_with fail
            go_roundw
            case rel => exact ⟨k + 1, by omega, by go_num, by rw [HQ.out], HBL.out.drew⟩
            case measure => simp [intOf]; omega
          · have hq : f (k + 1) = Q := by rw [HS.out, if_neg hxy]
            have HQ := hid hq
            clear hq HS
            go_wp2_with fail
            go_region
            go_wp2_with fail
            go_roundw
            case rel => exact ⟨k + 1, by omega, by go_num, by rw [HQ.out], HBL.out.drew⟩
            case measure => simp [intOf]; omega
        · obtain rfl : k = M := by omega
          go_wp2_with fail
          go_ret2
          exact ⟨rfl, HBL.out⟩
end Go.Proofs.YtehbdnehlfplaaaGreat
/- A root that is taken of a fraction is hardly off. Plain mathematics. No program in sight. -/
namespace Go.Proofs.YtehbdnehlfplaaaGreat
open Ieee
set_option maxRecDepth 100000
set_option linter.unusedVariables false
theorem cut_even {n d : Nat} (h : d ≤ n.log2 + 2) : ∃ K, Toward.even.cut false n d = K ∧ n / 2 ^ d ≤ K ∧ K ≤ n / 2 ^ d + 1 ∧ 2 * n ≤ 2 * (K * 2 ^ d) + 2 ^ d := by
  have hp := Nat.two_pow_pos d
  have e : Toward.even.cut false n d = n / 2 ^ d + (decide (2 ^ d < 2 * (n % 2 ^ d)) || (2 ^ d == 2 * (n % 2 ^ d) && n / 2 ^ d % 2 == 1)).toNat := by
    unfold Toward.cut
    simp only [Nat.min_eq_left h, Nat.shiftLeft_eq, Nat.one_mul]
  rw [e]
  generalize 2 ^ d = G at hp ⊢
  have h1 := Nat.div_add_mod n G
  have h2 := Nat.mod_lt n hp
  obtain ⟨X, hX⟩ : ∃ X, n / G = X := ⟨_, rfl⟩
  obtain ⟨Y, hY⟩ : ∃ Y, n % G = Y := ⟨_, rfl⟩
  rw [hX, hY] at h1
  rw [hY] at h2
  rw [hX, hY]
  have h3 : X * G = G * X := Nat.mul_comm _ _
  by_cases b : (decide (G < 2 * Y) || (G == 2 * Y && X % 2 == 1)) = true
  · rw [b]
    refine ⟨X + 1, rfl, by omega, by omega, ?_⟩
    rw [Nat.add_mul, h3]
    omega
  · have b2 : (decide (G < 2 * Y) || (G == 2 * Y && X % 2 == 1)) = false := by simpa using b
    rw [b2]
    refine ⟨X, rfl, by omega, by omega, ?_⟩
    have : ¬ G < 2 * Y := fun h => by simp [h] at b2
    rw [h3]
    omega
theorem cut_zero {n d : Nat} (h : d ≤ n.log2 + 2) : Toward.zero.cut false n d = n / 2 ^ d := by
  unfold Toward.cut
  simp only [Nat.min_eq_left h, Nat.shiftLeft_eq, Nat.one_mul, Bool.toNat_false, Nat.add_zero]
theorem least_double : double.leastPlace = -1074 := by simp [Format.leastPlace, double]
theorem inf_double : double.infRung = 9218868437227405312 := by simp [Format.infRung, Format.binade, double]
theorem sign_double : double.signWeight = 9223372036854775808 := by simp [Format.signWeight, double]
theorem bin_double : double.binade = 4503599627370496 := by simp [Format.binade, double]
theorem frac_double : double.fractionBits = 52 := rfl
theorem read_double {r : Nat} (h1 : 4503599627370496 ≤ r) (h2 : r < 9218868437227405312) :
    double.read r = .number false (4503599627370496 + r % 4503599627370496) (-1074 + ((r / 4503599627370496 - 1 : Nat) : Int)) := by
  unfold Format.read
  simp only [least_double, inf_double, sign_double, bin_double]
  have a1 : r / 9223372036854775808 = 0 := Nat.div_eq_of_lt (by omega)
  have a2 : r % 9223372036854775808 = r := Nat.mod_eq_of_lt (by omega)
  rw [a1, a2, if_neg (by omega), if_pos h2]
  rfl
theorem p52 : (2 : Nat) ^ 52 = 4503599627370496 := by decide
theorem p53 : (2 : Nat) ^ 53 = 9007199254740992 := by decide
theorem near_size {mag l : Nat} (h1 : 2 ^ l ≤ mag) (h2 : mag < 2 ^ (l + 1)) : 4503599627370496 * 2 ^ (l - 52) ≤ mag * 2 ^ (52 - l) ∧ mag * 2 ^ (52 - l) < 9007199254740992 * 2 ^ (l - 52) := by
  rw [← p52, ← p53, ← Nat.pow_add, ← Nat.pow_add]
  have e1 : 52 + (l - 52) = l + (52 - l) := by omega
  have e2 : 53 + (l - 52) = l + 1 + (52 - l) := by omega
  rw [e1, e2, Nat.pow_add, Nat.pow_add (n := 52 - l)]
  exact ⟨Nat.mul_le_mul_right _ h1, Nat.mul_lt_mul_of_pos_right h2 (Nat.two_pow_pos _)⟩
theorem near_log {mag l : Nat} (h1 : 2 ^ l ≤ mag) (h2 : mag < 2 ^ (l + 1)) : l - 52 ≤ (mag * 2 ^ (52 - l)).log2 + 2 := by
  by_cases h : l ≤ 52
  · omega
  · have e : 52 - l = 0 := by omega
    rw [e, Nat.pow_zero, Nat.mul_one]
    have hm : mag ≠ 0 := by have := Nat.two_pow_pos l; omega
    have := (Nat.le_log2 hm).2 h1
    omega
theorem near_word {mag l q K : Nat} {place : Int} (h1 : 2 ^ l ≤ mag) (h2 : mag < 2 ^ (l + 1)) (hq : place + l - 52 = (q : Int) - 1074) (hq2 : q ≤ 1500) (hK : Toward.even.cut false (mag * 2 ^ (52 - l)) (l - 52) = K) (hK2 : K ≤ 9007199254740992) :
    double.nearest false mag place = q * 4503599627370496 + K := by
  have hm : mag ≠ 0 := by have := Nat.two_pow_pos l; omega
  have hlog : mag.log2 = l := (Nat.log2_eq_iff hm).2 ⟨h1, h2⟩
  have e1 : max (place + (l : Int) - (52 : Nat)) (-1074) = (q : Int) - 1074 := by omega
  have e2 : (place - ((q : Int) - 1074)).toNat = 52 - l := by omega
  have e3 : ((q : Int) - 1074 - place).toNat = l - 52 := by omega
  have e4 : ((q : Int) - 1074 - -1074).toNat = q := by omega
  have e5 : min (q * 4503599627370496 + K) 9218868437227405312 = q * 4503599627370496 + K := Nat.min_eq_left (by omega)
  unfold Format.nearest
  rw [if_neg hm]
  simp only [least_double, inf_double, bin_double, frac_double, hlog]
  rw [e1, e2, e3, e4, Nat.shiftLeft_eq, hK, e5]
  unfold Format.word
  exact if_neg (by decide)
/-- What the nearest fraction to a number is. -/
theorem near_read {mag l : Nat} {place : Int} (h1 : 2 ^ l ≤ mag) (h2 : mag < 2 ^ (l + 1)) (hl : l ≤ 100) (p0 : -100 ≤ place) (p1 : place ≤ 100) :
    ∃ (m K : Nat) (p : Int), double.read (double.nearest false mag place) = .number false m p ∧ 4503599627370496 ≤ m ∧ m < 9007199254740992 ∧
      (p = place + l - 52 ∧ m = K ∨ p = place + l - 51 ∧ 2 * m = K) ∧ 2 * (mag * 2 ^ (52 - l)) ≤ 2 * (K * 2 ^ (l - 52)) + 2 ^ (l - 52) := by
  obtain ⟨s1, s2⟩ := near_size h1 h2
  obtain ⟨K, hK, k1, k2, k3⟩ := cut_even (near_log h1 h2)
  have hlow := (Nat.le_div_iff_mul_le (Nat.two_pow_pos _)).2 s1
  have hhi := (Nat.div_lt_iff_lt_mul (Nat.two_pow_pos _)).2 s2
  obtain ⟨q, hq⟩ : ∃ q : Nat, place + l - 52 = (q : Int) - 1074 := ⟨(place + l - 52 + 1074).toNat, by omega⟩
  rw [near_word h1 h2 hq (by omega) hK (by omega)]
  generalize mag * 2 ^ (52 - l) = M at *
  generalize 2 ^ (l - 52) = G at *
  generalize M / G = X at *
  rw [read_double (by omega) (by omega)]
  by_cases hc : K < 9007199254740992
  · have e1 : (q * 4503599627370496 + K) % 4503599627370496 = K - 4503599627370496 := by omega
    have e2 : (q * 4503599627370496 + K) / 4503599627370496 = q + 1 := by omega
    rw [e1, e2]
    exact ⟨_, K, _, rfl, by omega, by omega, .inl ⟨by omega, by omega⟩, k3⟩
  · have e0 : K = 9007199254740992 := by omega
    have e1 : (q * 4503599627370496 + K) % 4503599627370496 = 0 := by omega
    have e2 : (q * 4503599627370496 + K) / 4503599627370496 = q + 2 := by omega
    rw [e1, e2]
    exact ⟨_, K, _, rfl, by omega, by omega, .inr ⟨by omega, by omega⟩, k3⟩
theorem rootFrom_ok {n : Nat} : ∀ (todo out : Nat), out * out ≤ n → n < (out + 2 ^ todo) * (out + 2 ^ todo) →
    Datum.rootFrom n todo out * Datum.rootFrom n todo out ≤ n ∧ n < (Datum.rootFrom n todo out + 1) * (Datum.rootFrom n todo out + 1)
  | 0, out, h1, h2 => by
    rw [Datum.rootFrom]
    simpa using And.intro h1 h2
  | i + 1, out, h1, h2 => by
    rw [Datum.rootFrom]
    have hp : 2 ^ (i + 1) = 2 ^ i + 2 ^ i := by rw [Nat.pow_succ]; omega
    simp only [Nat.shiftLeft_eq, Nat.one_mul]
    by_cases h : (out + 2 ^ i) * (out + 2 ^ i) ≤ n
    · rw [if_pos h]
      exact rootFrom_ok i (out + 2 ^ i) h (by rw [Nat.add_assoc, ← hp]; exact h2)
    · rw [if_neg h]
      exact rootFrom_ok i out h1 (by omega)
theorem sq_mono {a b : Nat} (h : a * a < b * b) : a < b := by
  rcases Nat.lt_or_ge a b with h2 | h2
  · exact h2
  · have := Nat.mul_le_mul h2 h2; omega
/-- The root's fraction, cut: one more than it is never too small. -/
theorem frac_root {n : Nat} (hn : n < 18446744073709551616) :
    ∃ s m : Nat, double.sqrt (double.nearest false n 0) = some s ∧ (double.read s).toInt .zero = some (m : Int) ∧ m < 9007199254740992 ∧ rootN n ≤ m + 1 := by
  obtain ⟨r1, r2, r3⟩ := rootN_ok hn
  by_cases h0 : n = 0
  · subst h0
    refine ⟨0, 0, by decide, by decide, by decide, ?_⟩
    have : rootN 0 = 0 := by decide
    omega
  · have hlog := (Nat.log2_eq_iff h0 (k := n.log2)).1 rfl
    have hl64 : n.log2 < 64 := (Nat.log2_lt h0).2 (by simpa using hn)
    generalize n.log2 = l at hlog hl64
    obtain ⟨m1, K1, p1, hr1, a1, a2, a3, a4⟩ := near_read (place := 0) hlog.1 hlog.2 (by omega) (by omega) (by omega)
    -- the root
    have hm1 : m1 ≠ 0 := by omega
    have hm1l : m1.log2 = 52 := (Nat.log2_eq_iff hm1).2 ⟨by simpa using a1, by simpa using a2⟩
    obtain ⟨more, hmore⟩ : ∃ more : Nat, 108 - 52 + ((p1 - ((108 - 52 : Nat) : Int)) % 2).toNat = more := ⟨_, rfl⟩
    obtain ⟨E, hE⟩ : ∃ E : Nat, p1 = (more : Int) - 2 * E := ⟨((more - p1) / 2).toNat, by omega⟩
    have hmo : more = 56 ∨ more = 57 := by omega
    have hN1 : 2 ^ 108 ≤ m1 * 2 ^ more ∧ m1 * 2 ^ more < 2 ^ 110 := by
      rcases hmo with e | e <;> (rw [e]; constructor <;> omega)
    have hN0 : m1 * 2 ^ more ≠ 0 := by omega
    have hNl : (m1 * 2 ^ more).log2 / 2 + 1 = 55 := by
      have b1 : (m1 * 2 ^ more).log2 < 110 := (Nat.log2_lt hN0).2 hN1.2
      have b2 : 108 ≤ (m1 * 2 ^ more).log2 := (Nat.le_log2 hN0).2 hN1.1
      omega
    obtain ⟨W, hW⟩ : ∃ W, Datum.rootFrom (m1 * 2 ^ more) 55 0 = W := ⟨_, rfl⟩
    obtain ⟨w1, w2⟩ := rootFrom_ok (n := m1 * 2 ^ more) 55 0 (by omega) (by
      refine Nat.lt_of_lt_of_le hN1.2 ?_
      decide)
    rw [hW] at w1 w2
    have hW1 : 2 ^ 54 ≤ W := by
      have : 2 ^ 54 < W + 1 := sq_mono (Nat.lt_of_le_of_lt (by simpa using hN1.1) w2)
      omega
    have hW2 : W < 2 ^ 55 := sq_mono (Nat.lt_of_le_of_lt w1 (by simpa using hN1.2))
    obtain ⟨S, hS⟩ : ∃ S : Nat, 2 * W + (W * W != m1 * 2 ^ more).toNat = S := ⟨_, rfl⟩
    have hS1 : 2 * W ≤ S ∧ S ≤ 2 * W + 1 := by
      have := Bool.toNat_le (W * W != m1 * 2 ^ more)
      omega
    have hroot : (Datum.number false m1 p1).root 54 = some (.number false S (-(E : Int) - 1)) := by
      unfold Datum.root
      simp only [if_neg hm1, hm1l, Nat.shiftLeft_eq, hmore, hNl, hW, hS]
      simp
      omega
    obtain ⟨m3, K3, p3, hr3, c1, c2, c3, c4⟩ := near_read (mag := S) (l := 55) (place := -(E : Int) - 1) (by omega) (by omega) (by omega) (by omega) (by omega)
    refine ⟨double.nearest false S (-(E : Int) - 1), m3 / 2 ^ (-p3).toNat, ?_, ?_, Nat.lt_of_le_of_lt (Nat.div_le_self _ _) c2, ?_⟩
    · unfold Format.sqrt
      rw [hr1, frac_double, hroot]
      rfl
    · rw [hr3]
      have hm3 : m3 ≠ 0 := by omega
      have hm3l : m3.log2 = 52 := (Nat.log2_eq_iff hm3).2 ⟨by simpa using c1, by simpa using c2⟩
      have hp3 : p3.toNat = 0 := by omega
      have hcut : Toward.zero.cut false m3 (-p3).toNat = m3 / 2 ^ (-p3).toNat := cut_zero (by omega)
      unfold Datum.toInt Datum.integral
      simp only [hp3, Nat.shiftLeft_zero, hcut]
      rfl
    · -- what is wanted: (R - 1) * 2 ^ (E - 2) ≤ K3
      generalize rootN n = R at r1 r2 r3 ⊢
      by_cases hR : R ≤ 1
      · exact Nat.le_trans hR (Nat.le_add_left _ _)
      · -- the fraction of n, times 2 ^ (2 * E)
        have hY : (R * R - R) * 2 ^ (2 * E) ≤ m1 * 2 ^ more := by
          have hRR : R ≤ R * R := Nat.le_mul_of_pos_left R (by omega)
          by_cases hl : l ≤ 52
          · -- told wholly
            have e1 : l - 52 = 0 := by omega
            rw [e1, Nat.pow_zero, Nat.mul_one] at a4
            have hK1 : n * 2 ^ (52 - l) ≤ K1 := by omega
            have e2 : n * 2 ^ (2 * E) ≤ m1 * 2 ^ more := by
              rcases a3 with ⟨g1, g2⟩ | ⟨g1, g2⟩
              · have g3 : 2 * E = (52 - l) + more := by omega
                rw [g3, Nat.pow_add, ← Nat.mul_assoc, g2]
                exact Nat.mul_le_mul_right _ hK1
              · have g3 : 2 * E + 1 = (52 - l) + more := by omega
                refine Nat.le_of_mul_le_mul_left (c := 2) ?_ (by decide)
                rw [← Nat.mul_assoc, Nat.mul_comm 2 n, Nat.mul_assoc, ← Nat.pow_succ', show (2 * E).succ = 2 * E + 1 from rfl, g3, Nat.pow_add, ← Nat.mul_assoc, ← Nat.mul_assoc, g2]
                exact Nat.mul_le_mul_right _ hK1
            exact Nat.le_trans (Nat.mul_le_mul_right _ (by omega)) e2
          · have e1 : 52 - l = 0 := by omega
            rw [e1, Nat.pow_zero, Nat.mul_one] at a4
            obtain ⟨d, hd⟩ : ∃ d, l - 52 = d := ⟨_, rfl⟩
            rw [hd] at a4
            have hd11 : d ≤ 11 := by omega
            have hG : 2 ^ d ≤ 2048 := Nat.pow_le_pow_right (n := 2) (by decide) hd11
            have hl53 : 2 ^ 53 ≤ n := Nat.le_trans (Nat.pow_le_pow_right (n := 2) (by decide) (by omega)) hlog.1
            have hR26 : 1024 ≤ R := by
              have : 2048 * 2048 < (R + 1) * (R + 1) := by omega
              have := sq_mono this
              omega
            have hX : R * R - R ≤ K1 * 2 ^ d := by omega
            refine Nat.le_trans (Nat.mul_le_mul_right _ hX) ?_
            rcases a3 with ⟨g1, g2⟩ | ⟨g1, g2⟩
            · have g3 : more = d + 2 * E := by omega
              rw [g3, Nat.pow_add, ← Nat.mul_assoc, g2]
              exact Nat.le_refl _
            · have g3 : more = d + 1 + 2 * E := by omega
              rw [g3, Nat.pow_add, Nat.pow_succ, ← g2]
              rw [← Nat.mul_assoc, ← Nat.mul_assoc, Nat.mul_comm 2 m1, Nat.mul_assoc m1 2, Nat.mul_comm 2 (2 ^ d), ← Nat.mul_assoc]
              exact Nat.le_refl _
        -- the root of it
        have hW3 : (R - 1) * 2 ^ E + 2 ≤ W := by
          have h8 : 8 ≤ 2 ^ E := Nat.pow_le_pow_right (n := 2) (by decide) (show 3 ≤ E by omega)
          have hsq : ((R - 1) * 2 ^ E + 2) * ((R - 1) * 2 ^ E + 2) ≤ m1 * 2 ^ more := by
            refine Nat.le_trans ?_ hY
            rw [show 2 * E = E + E by omega, Nat.pow_add]
            obtain ⟨r, rfl⟩ : ∃ r, R = r + 1 := ⟨R - 1, by omega⟩
            rw [Nat.add_sub_cancel, show (r + 1) * (r + 1) - (r + 1) = r * (r + 1) by rw [Nat.add_mul r 1]; omega]
            generalize 2 ^ E = P at h8
            have hr1 : 1 ≤ r := by omega
            have b1 : (r * P + 2) * (r * P + 2) = r * P * (r * P) + 4 * (r * P) + 4 := by
              rw [Nat.add_mul, Nat.mul_add]; omega
            have b2 : r * (r + 1) * (P * P) = r * P * (r * P) + r * P * P := by
              rw [Nat.mul_add, Nat.mul_one, Nat.add_mul, Nat.mul_assoc r P P]
              congr 1
              rw [Nat.mul_assoc r r, Nat.mul_assoc r P, Nat.mul_left_comm P r P]
            have b3 : r * P * 8 ≤ r * P * P := Nat.mul_le_mul_left _ h8
            have b4 : 8 ≤ r * P := Nat.le_trans h8 (Nat.le_mul_of_pos_left P hr1)
            rw [b1, b2]
            omega
          have := sq_mono (Nat.lt_of_le_of_lt hsq w2)
          omega
        -- the fraction of it, cut
        have hE2 : ∃ e, E = e + 2 ∧ 20 ≤ e := ⟨E - 2, by omega, by omega⟩
        obtain ⟨e, rfl, he⟩ := hE2
        have hK3 : (R - 1) * 2 ^ e ≤ K3 := by
          rw [Nat.pow_add, ← Nat.mul_assoc] at hW3
          simp at c4
          omega
        have : R - 1 ≤ m3 / 2 ^ (-p3).toNat := by
          refine (Nat.le_div_iff_mul_le (Nat.two_pow_pos _)).2 ?_
          rcases c3 with ⟨g1, g2⟩ | ⟨g1, g2⟩
          · have g3 : (-p3).toNat = e := by omega
            rw [g3, g2]
            exact hK3
          · have g3 : (-p3).toNat + 1 = e := by omega
            rw [← g3, Nat.pow_succ, ← Nat.mul_assoc] at hK3
            omega
        generalize m3 / 2 ^ (-p3).toNat = X at this
        omega
end Go.Proofs.YtehbdnehlfplaaaGreat
/- Roots by the program: a fraction's root, put right. -/
namespace Go.Proofs.YtehbdnehlfplaaaGreat
open Go.RowKit
set_option maxHeartbeats 1000000
set_option maxRecDepth 100000
set_option linter.unusedVariables false
theorem root_bits {n : Nat} (hn : n < 18446744073709551616) :
    ∃ s m : Nat, FloatKind.f64.format.sqrt (floatOfInt .f64 (n : Int)) = some s ∧ floatToIntVal .f64 s .u64 = some (m : Int) ∧ m < 9007199254740992 ∧ rootN n ≤ m + 1 := by
  obtain ⟨s, m, h1, h2, h3, h4⟩ := frac_root hn
  refine ⟨s, m, ?_, ?_, h3, h4⟩
  · have e : floatOfInt .f64 (n : Int) = Ieee.double.nearest false n 0 := by
      unfold floatOfInt FloatKind.nearest FloatKind.encode
      have : decide ((n : Int) < 0) = false := by simp
      rw [this]
      rfl
    rw [e]
    exact h1
  · unfold floatToIntVal
    have e : (FloatKind.f64.decode s).toInt .zero = some (m : Int) := h2
    rw [e]
    have e1 : IntKind.u64.min = 0 := by decide
    have e2 : IntKind.u64.max = 18446744073709551615 := by decide
    rw [e1, e2]
    exact if_pos ⟨by omega, by omega⟩
theorem run_sqrt {P : Program} (x r : Nat) (h : FloatKind.f64.format.sqrt x = some r) (w : World) : (Extern.MathSqrt.sqrt #[.float .f64 x]).run P w = .ok (.float .f64 r) w := by
  have e : Extern.MathSqrt.sqrt #[.float .f64 x] = (match FloatKind.f64.format.sqrt x with | some r => pure (.float .f64 r) | none => do pure (.float .f64 (← choose (.nanBits .f64 x x)))) := rfl
  rw [e, h]
  rfl
theorem call_sqrt (x r : Nat) (h : FloatKind.f64.format.sqrt x = some r) (w : World) : (callFunc 101 #[.float .f64 x]).run Tryz.prog w = .ok (.value (.float .f64 r)) w := by
  rw [run_callFunc_extern (P := Tryz.prog) (f := 101) (fn := Tryz.f101) (e := Extern.MathSqrt.sqrt) Tryz.func101 (by kernel_rfl) (by kernel_rfl) (by kernel_rfl) (by kernel_rfl), run_sqrt x r h w]
  rfl
theorem ma_Sqrt (x r : Nat) (h : FloatKind.f64.format.sqrt x = some r) (w : World) : Calls Tryz.prog 90 #[.float .f64 x] w fun e w' => e = .returned (.float .f64 r) ∧ w = w' := by
  have hc := fun w => call_sqrt x r h w
  clear h
  go_enter Tryz.func90, Tryz.ntmps90
  go_wp2_with (simp only [hc])
  all_goals (go_ret; exact ⟨rfl, rfl⟩)
theorem tb_Root (n : Nat) (hn : n < 18446744073709551616) (w : World) :
    Calls Tryz.prog 67 #[.int .u64 (n : Int)] w fun e w' => e = .returned (.int .u64 (rootN n : Int)) ∧ w = w' := by
  obtain ⟨s, m, h1, h2, h3, h4⟩ := root_bits hn
  obtain ⟨r1, r2, r3⟩ := rootN_ok hn
  obtain ⟨R, hR⟩ : ∃ R, rootN n = R := ⟨_, rfl⟩
  rw [hR] at r1 r2 r3 h4 ⊢
  obtain ⟨b, hb⟩ : ∃ b, floatOfInt .f64 (n : Int) = b := ⟨_, rfl⟩
  rw [hb] at h1
  have hc : ∀ w, (convert 93 61 (.float .f64 s)).run Tryz.prog w = .ok (.int .u64 (m : Int)) w := fun w => run_convert_float_int w 93 61 .f64 .u64 s m (by rw [Tryz.underlying93]; rfl) Tryz.underlying61 h2
  have H1 := hid h1
  obtain ⟨p, q2, p1, p2⟩ : ∃ p : Nat, (if (4294967295 : Int) < (m : Int) + 1 then (4294967295 : Int) else (m : Int) + 1) = (p : Int) ∧ R ≤ p ∧ p ≤ 4294967295 := by
    by_cases h : ¬ (4294967295 : Int) < (m : Int) + 1
    · exact ⟨m + 1, by rw [if_neg h]; rfl, h4, by omega⟩
    · exact ⟨4294967295, by rw [if_pos (by omega)]; rfl, by omega, by omega⟩
  have q1 : IntKind.u64.wrap ((m : Int) + 1) = (m : Int) + 1 := by rw [IntKind.wrap_u64]; omega
  have hmn : ∀ ts t (w : World), (Builtin.min_ ts t #[.int .u64 ((m : Int) + 1), .int .u64 4294967295]).run Tryz.prog w = .ok (.int .u64 (p : Int)) w := fun ts t w => by rw [run_min_int2, q2]
  have HP : Hid (R ≤ p ∧ p ≤ 4294967295) := hid ⟨p1, p2⟩
  have HR : Hid (R * R ≤ n ∧ n < (R + 1) * (R + 1)) := hid ⟨r1, r2⟩
  clear h1 h2 h4 hR r1 r2 p1 p2 q2
  go_enter Tryz.func67, Tryz.ntmps67
  go_wp2_with fail
  refine (ma_Sqrt _ _ H1.out _).mono ?_
  rintro _ w1 ⟨rfl, rfl⟩
  go_wp2_with fail
  go_loop [3] (fun xr => ∃ r : Nat, xr = .int .u64 (r : Int) ∧ R ≤ r ∧ r ≤ 4294967295) (fun xr => (intOf xr).toNat)
  case atStart => exact ⟨p, rfl, HP.out.1, HP.out.2⟩
  case round =>
    obtain ⟨r, rfl, a1, a2⟩ := hrel
    have hZ2 : r * r ≤ 4294967295 * 4294967295 := Nat.mul_le_mul a2 a2
    obtain ⟨Z, hZ⟩ : ∃ Z : Nat, r * r = Z := ⟨_, rfl⟩
    have q3 : IntKind.u64.wrap ((r : Int) * (r : Int)) = (Z : Int) := by
      rw [show (r : Int) * (r : Int) = ((r * r : Nat) : Int) by simp, hZ, IntKind.wrap_u64]; omega
    by_cases hlt : Z > n
    · have hgt : (Z : Int) > (n : Int) := by omega
      have a3 : R + 1 ≤ r := by
        rcases Nat.lt_or_ge R r with h | h
        · exact h
        · have : R = r := by omega
          have := HR.out.1
          subst R
          omega
      have q4 : IntKind.u64.wrap ((r : Int) - 1) = ((r - 1 : Nat) : Int) := by rw [IntKind.wrap_u64]; omega
      have HA := hid a3
      clear hZ hZ2 hlt a3
      go_wp2_with fail
      go_round
      case rel => exact ⟨r - 1, rfl, by have := HA.out; omega, by omega⟩
      case measure => have := HA.out; simp [intOf]; omega
    · have hgt : ¬ (Z : Int) > (n : Int) := by omega
      have a3 : r = R := by
        rcases Nat.lt_or_ge R r with h | h
        · have h5 := Nat.mul_le_mul (show R + 1 ≤ r from h) (show R + 1 ≤ r from h)
          have := HR.out.2
          omega
        · omega
      subst a3
      clear hZ hZ2 hlt
      go_wp2_with fail
      go_ret
      exact ⟨rfl, rfl⟩
end Go.Proofs.YtehbdnehlfplaaaGreat
/- The table, by the program. -/
namespace Go.Proofs.YtehbdnehlfplaaaGreat
open Go.RowKit
set_option maxHeartbeats 2000000
set_option maxRecDepth 100000
set_option linter.unusedVariables false
/-- The table while it is filled: rows that are so far from each other, the new ones below 'a'. -/
def fillL (far a : Nat) : List Nat := (List.range 17).map fun p => if far = 0 then rowsN.getD p 0 else if p % (2 * far) = 0 ∨ (p % far = 0 ∧ p < a) then rowsN.getD p 0 else 0
theorem fill_len (far a : Nat) : (fillL far a).length = 17 := by unfold fillL; simp
theorem fill_on : ∀ far ∈ [8, 4, 2, 1], ∀ a, a < 16 → a % (2 * far) = far →
    (fillL far a).set a (rootN ((fillL far a).getD (a - far) 0 * (fillL far a).getD (a + far) 0)) = fillL far (a + 2 * far) ∧ (fillL far a).getD (a - far) 0 * (fillL far a).getD (a + far) 0 < 18446744073709551616 ∧ a + far ≤ 16 := by decide +kernel
theorem fill_end : ∀ far ∈ [8, 4, 2, 1], ∀ a, a < 32 → 16 ≤ a → a % (2 * far) = far → fillL far a = fillL (far / 2) (far / 2) := by decide +kernel
theorem fill_first : fillL 8 8 = [1073741824, 0, 0, 0, 0, 0, 0, 0, 0, 0, 0, 0, 0, 0, 0, 0, 536870912] := by decide +kernel
theorem fill_done : fillL 0 0 = rowsN := by decide +kernel
def u64sL (l : List Nat) : List Value := l.map fun (n : Nat) => .int .u64 (n : Int)
theorem u64sL_set (l : List Nat) (k n : Nat) : u64sL (l.set k n) = (u64sL l).set k (.int .u64 (n : Int)) := by unfold u64sL; rw [List.map_set]
theorem u64sL_at {l : List Nat} {k : Nat} (h : k < l.length) : (u64sL l)[k]? = some (.int .u64 ((l.getD k 0 : Nat) : Int)) := by
  unfold u64sL
  rw [List.getElem?_map, List.getD_eq_getElem?_getD, List.getElem?_eq_getElem h]
  rfl
theorem wpList_st17 {P : Program} {ops : Array Oper} {rest : List Oper} {op : Oper} {a : Act} {w : World} {Q : Exit → Act → World → Prop} (hgd : op.guard = none) (ty : TypeId) (x y : Operand) (ho : op.op = .store ty x y)
    (b o : Nat) (cells : Array Value) (hx : a.eval x = .pointer (some ⟨b, o, none⟩)) (hy : a.eval y = .agg cells)
    (ht : w.there b o cells.size) (hi : (P.info? ty).map (·.size) = some cells.size) (h1 : cells.all (·.oneCell') = true)
    (h : ∀ W', Hid (W' = w.setCells b o cells.toList) → wpList P ops Q rest (a.put op.dst undef) W') : wpList P ops Q (op :: rest) a w :=
  wpList_store_mid hgd ty x y ho b o cells hx hy ht hi h1 (h _ (hid rfl))
theorem box_there17 {w : World} {k n : Nat} {vs : List Value} (hb : BoxL w k vs) (h : n ≤ vs.length) : w.there k 0 n := fun j hj => by
  have hv := hb (0 + j) _ (List.getElem?_eq_getElem (by omega))
  exact ⟨by rw [hv.1]; rfl, hv.2⟩
theorem box_all {w : World} {k : Nat} {vs us : List Value} (hb : BoxL w k vs) (h : us.length = vs.length) : BoxL (w.setCells k 0 us) k us := fun j v hv => by
  have hj : j < us.length := (List.getElem?_eq_some_iff.1 hv).1
  have hs : ∀ j, j < us.length → (w.cell? ⟨k, 0 + j, none⟩).isSome = true := fun j hj => by
    have := hb (0 + j) _ (List.getElem?_eq_getElem (by omega))
    rw [this.1]; rfl
  refine ⟨?_, ?_⟩
  · have := World.cell?_setCells_in k us 0 w hs j hj
    rw [Nat.zero_add] at this
    rw [this, ← hv, List.getElem?_eq_getElem hj]
  · rw [World.frozen?_setCells]
    exact (hb j _ (List.getElem?_eq_getElem (by omega))).2
theorem box_far {w : World} {g k : Nat} {vs us : List Value} (hb : BoxL w g vs) (h : g ≠ k) : BoxL (w.setCells k 0 us) g vs := fun j v hv => by
  have h2 := hb j v hv
  refine ⟨?_, ?_⟩
  · rw [World.cell?_setCells_out k us 0 w ⟨g, j, none⟩ (fun e => absurd e h)]
    exact h2.1
  · rw [World.frozen?_setCells]
    exact h2.2
theorem below_cellsO {B k : Nat} {w : World} (hk : B ≤ k) : ∀ (us : List Value) (o : Nat) (w' : World), Below B w w' → Below B w (w'.setCells k o us)
  | [], _, _, h => h
  | u :: us, o, w', h => below_cellsO hk us (o + 1) _ (h.setCell (p := ⟨k, o, none⟩) hk u)
theorem below_cells {B k : Nat} {w w' : World} {us : List Value} (h : Below B w w') (hk : B ≤ k) : Below B w (w'.setCells k 0 us) := below_cellsO hk us 0 w' h
theorem rows_cells : u64sL rowsN = [.int .u64 1073741824, .int .u64 1028218692, .int .u64 984625593, .int .u64 942880698, .int .u64 902905650, .int .u64 864625412, .int .u64 827968131, .int .u64 792864998, .int .u64 759250124, .int .u64 727060409, .int .u64 696235433, .int .u64 666717334, .int .u64 638450707, .int .u64 611382491, .int .u64 585461880, .int .u64 560640217, .int .u64 536870912] := by simp [u64sL, rowsN]
theorem box_range {w : World} {k : Nat} {vs : List Value} (hb : BoxL w k vs) : w.rangeAt k 0 vs := fun j v hv => by
  rw [Nat.zero_add]
  exact (hb j v hv).1
theorem info_roots : (Tryz.prog.info? 63).map (·.size) = some 17 := by kernel_rfl
theorem results_cell {P : Program} {fn : Func} {a t : Nat} {tmps : Array Value} {w : World} {v : Value} {p : Addr} (hf : fn.results = #[.cell a t]) (ht : tmps.getD a undef = .pointer (some p))
    (hl : (loadVar t p).run P w = .ok v w) : (results fn tmps).run P w = .ok v w := by
  have ht' : tmps[a]?.getD undef = Value.pointer (some p) := by rw [← ht]; simp
  have e : results fn tmps = loadVar t p := by
    unfold results
    rw [hf]
    simp [ht', asAddr]
  rw [e, hl]
/-- The table's cells. -/
theorem tb_makeRows (w : World) :
    Calls Tryz.prog 47 #[] w fun e w' => e = .returned (.agg #[.int .u64 1073741824, .int .u64 1028218692, .int .u64 984625593, .int .u64 942880698, .int .u64 902905650, .int .u64 864625412, .int .u64 827968131, .int .u64 792864998, .int .u64 759250124, .int .u64 727060409, .int .u64 696235433, .int .u64 666717334, .int .u64 638450707, .int .u64 611382491, .int .u64 585461880, .int .u64 560640217, .int .u64 536870912]) ∧ Below w.heap.size w w' := by
  obtain ⟨w2, hw2⟩ : ∃ w2, (w.alloc (.cells #[.int .u64 0, .int .u64 0, .int .u64 0, .int .u64 0, .int .u64 0, .int .u64 0, .int .u64 0, .int .u64 0, .int .u64 0, .int .u64 0, .int .u64 0, .int .u64 0, .int .u64 0, .int .u64 0, .int .u64 0, .int .u64 0, .int .u64 0] 63)).alloc (.cells #[.int .u64 0, .int .u64 0, .int .u64 0, .int .u64 0, .int .u64 0, .int .u64 0, .int .u64 0, .int .u64 0, .int .u64 0, .int .u64 0, .int .u64 0, .int .u64 0, .int .u64 0, .int .u64 0, .int .u64 0, .int .u64 0, .int .u64 0] 63) = w2 := ⟨_, rfl⟩
  have hb2 : Below w.heap.size w w2 := by rw [← hw2]; go_grown
  have f2 : BoxL w2 (w.heap.size + 1) [.int .u64 0, .int .u64 0, .int .u64 0, .int .u64 0, .int .u64 0, .int .u64 0, .int .u64 0, .int .u64 0, .int .u64 0, .int .u64 0, .int .u64 0, .int .u64 0, .int .u64 0, .int .u64 0, .int .u64 0, .int .u64 0, .int .u64 0] := by
    rw [← hw2]
    have := BoxL.new (w.alloc (.cells #[.int .u64 0, .int .u64 0, .int .u64 0, .int .u64 0, .int .u64 0, .int .u64 0, .int .u64 0, .int .u64 0, .int .u64 0, .int .u64 0, .int .u64 0, .int .u64 0, .int .u64 0, .int .u64 0, .int .u64 0, .int .u64 0, .int .u64 0] 63)) [.int .u64 0, .int .u64 0, .int .u64 0, .int .u64 0, .int .u64 0, .int .u64 0, .int .u64 0, .int .u64 0, .int .u64 0, .int .u64 0, .int .u64 0, .int .u64 0, .int .u64 0, .int .u64 0, .int .u64 0, .int .u64 0, .int .u64 0] 63
    rwa [World.size_alloc] at this
  have f1 : BoxL w2 w.heap.size [.int .u64 0, .int .u64 0, .int .u64 0, .int .u64 0, .int .u64 0, .int .u64 0, .int .u64 0, .int .u64 0, .int .u64 0, .int .u64 0, .int .u64 0, .int .u64 0, .int .u64 0, .int .u64 0, .int .u64 0, .int .u64 0, .int .u64 0] := by
    rw [← hw2]
    exact (BoxL.new w [.int .u64 0, .int .u64 0, .int .u64 0, .int .u64 0, .int .u64 0, .int .u64 0, .int .u64 0, .int .u64 0, .int .u64 0, .int .u64 0, .int .u64 0, .int .u64 0, .int .u64 0, .int .u64 0, .int .u64 0, .int .u64 0, .int .u64 0] 63).below ((Below.refl _ _).alloc (Nat.le_refl _) _) (by simp)
  have F1 := hid f1
  have F2 := hid f2
  clear f1 f2
  go_enter Tryz.func47, Tryz.ntmps47
  go_wp2_with (refine wpList_st17 rfl 63 _ _ rfl (w.heap.size + 1) 0 #[.int .u64 1073741824, .int .u64 0, .int .u64 0, .int .u64 0, .int .u64 0, .int .u64 0, .int .u64 0, .int .u64 0, .int .u64 0, .int .u64 0, .int .u64 0, .int .u64 0, .int .u64 0, .int .u64 0, .int .u64 0, .int .u64 0, .int .u64 536870912] rfl rfl (box_there17 F2.out (by decide)) info_roots (by simp [Value.oneCell']) ?_)
  intro w3 HW3
  have F3 : Hid (BoxL w3 (w.heap.size + 1) (u64sL (fillL 8 8))) := hid (by rw [fill_first, HW3.out]; exact box_all F2.out (by decide))
  have F0 : Hid (BoxL w3 w.heap.size [.int .u64 0, .int .u64 0, .int .u64 0, .int .u64 0, .int .u64 0, .int .u64 0, .int .u64 0, .int .u64 0, .int .u64 0, .int .u64 0, .int .u64 0, .int .u64 0, .int .u64 0, .int .u64 0, .int .u64 0, .int .u64 0, .int .u64 0]) := hid (by rw [HW3.out]; exact box_far F1.out (by omega))
  have hb3 : Below w.heap.size w w3 := by rw [HW3.out]; exact below_cells hb2 (by omega)
  have HB3 := hid hb3
  clear hw2 hb2 F1 F2 HW3 hb3
  go_wp2_with fail
  go_loopw [2, 3] (fun xs xa wr => ∃ far : Nat, far ∈ [8, 4, 2, 1, 0] ∧ xs = .int .i64 (far : Int) ∧ BoxL wr (w.heap.size + 1) (u64sL (fillL far far)) ∧ BoxL wr w.heap.size [.int .u64 0, .int .u64 0, .int .u64 0, .int .u64 0, .int .u64 0, .int .u64 0, .int .u64 0, .int .u64 0, .int .u64 0, .int .u64 0, .int .u64 0, .int .u64 0, .int .u64 0, .int .u64 0, .int .u64 0, .int .u64 0, .int .u64 0] ∧ Below w.heap.size w wr) (fun xs _ _ => (intOf xs).toNat)
  case atStart => exact ⟨8, by decide, rfl, F3.out, F0.out, HB3.out⟩
  case round =>
    obtain ⟨far, hmem, rfl, g2, g1, hbr⟩ := hrel
    have G1 := hid g1
    have HBR := hid hbr
    clear F3 F0 HB3 g1 hbr
    by_cases h0 : far = 0
    · subst h0
      rw [fill_done, rows_cells] at g2
      have G2 := hid g2
      clear g2 hmem
      go_wp2_with (first | refine wpList_load_mid rfl 63 _ rfl (w.heap.size + 1) 0 rfl [.int .u64 1073741824, .int .u64 1028218692, .int .u64 984625593, .int .u64 942880698, .int .u64 902905650, .int .u64 864625412, .int .u64 827968131, .int .u64 792864998, .int .u64 759250124, .int .u64 727060409, .int .u64 696235433, .int .u64 666717334, .int .u64 638450707, .int .u64 611382491, .int .u64 585461880, .int .u64 560640217, .int .u64 536870912] _ (box_range G2.out) Tryz.underlying63 rfl info_roots ?_ | refine wpList_st17 rfl 63 _ _ rfl w.heap.size 0 #[.int .u64 1073741824, .int .u64 1028218692, .int .u64 984625593, .int .u64 942880698, .int .u64 902905650, .int .u64 864625412, .int .u64 827968131, .int .u64 792864998, .int .u64 759250124, .int .u64 727060409, .int .u64 696235433, .int .u64 666717334, .int .u64 638450707, .int .u64 611382491, .int .u64 585461880, .int .u64 560640217, .int .u64 536870912] rfl rfl (box_there17 G1.out (by decide)) info_roots (by simp [Value.oneCell']) ?_)
      intro w5 HW5
      have K : BoxL w5 w.heap.size [.int .u64 1073741824, .int .u64 1028218692, .int .u64 984625593, .int .u64 942880698, .int .u64 902905650, .int .u64 864625412, .int .u64 827968131, .int .u64 792864998, .int .u64 759250124, .int .u64 727060409, .int .u64 696235433, .int .u64 666717334, .int .u64 638450707, .int .u64 611382491, .int .u64 585461880, .int .u64 560640217, .int .u64 536870912] := by rw [HW5.out]; exact box_all G1.out (by decide)
      have KB : Below w.heap.size w w5 := by rw [HW5.out]; exact below_cells HBR.out (Nat.le_refl _)
      have hl := run_loadVar_mid (P := Tryz.prog) w5 w.heap.size 0 63 [.int .u64 1073741824, .int .u64 1028218692, .int .u64 984625593, .int .u64 942880698, .int .u64 902905650, .int .u64 864625412, .int .u64 827968131, .int .u64 792864998, .int .u64 759250124, .int .u64 727060409, .int .u64 696235433, .int .u64 666717334, .int .u64 638450707, .int .u64 611382491, .int .u64 585461880, .int .u64 560640217, .int .u64 536870912] _ (box_range K) Tryz.underlying63 rfl info_roots
      clear G1 G2 HW5
      have HK := hid KB
      clear K KB
      go_wp2_with fail
      refine bodyPost_ret (v := .agg #[.int .u64 1073741824, .int .u64 1028218692, .int .u64 984625593, .int .u64 942880698, .int .u64 902905650, .int .u64 864625412, .int .u64 827968131, .int .u64 792864998, .int .u64 759250124, .int .u64 727060409, .int .u64 696235433, .int .u64 666717334, .int .u64 638450707, .int .u64 611382491, .int .u64 585461880, .int .u64 560640217, .int .u64 536870912]) (results_cell rfl rfl hl) rfl ⟨rfl, HK.out⟩
    · have hm4 : far ∈ [8, 4, 2, 1] := by simp at hmem ⊢; omega
      have hfar : 1 ≤ far ∧ far ≤ 8 := by simp at hm4; omega
      have HM := hid hm4
      have G2 := hid g2
      obtain ⟨f1, f2⟩ := hfar
      have hfp : 0 < far := by omega
      clear hmem hm4 g2
      go_wp2_with fail
      go_loopw [3] (fun xa wr => ∃ a : Nat, a < 32 ∧ a % (2 * far) = far ∧ xa = .int .i64 (a : Int) ∧ BoxL wr (w.heap.size + 1) (u64sL (fillL far a)) ∧ BoxL wr w.heap.size [.int .u64 0, .int .u64 0, .int .u64 0, .int .u64 0, .int .u64 0, .int .u64 0, .int .u64 0, .int .u64 0, .int .u64 0, .int .u64 0, .int .u64 0, .int .u64 0, .int .u64 0, .int .u64 0, .int .u64 0, .int .u64 0, .int .u64 0] ∧ Below w.heap.size w wr) (fun xa _ => 32 - (intOf xa).toNat)
      case atStart => exact ⟨far, by omega, Nat.mod_eq_of_lt (by omega), rfl, G2.out, G1.out, HBR.out⟩
      case round =>
        obtain ⟨a, ha, hmod, rfl, g2, g1, hbr⟩ := hrel
        have G1 := hid g1
        have G2 := hid g2
        have HBR := hid hbr
        clear g1 hbr
        by_cases hlt : a < 16
        · obtain ⟨s1, s2, hup⟩ := fill_on far HM.out a hlt hmod
          have hle : far ≤ a := by rw [← hmod]; exact Nat.mod_le _ _
          obtain ⟨b, hb⟩ : ∃ b, a - far = b := ⟨_, rfl⟩
          obtain ⟨d, hd⟩ : ∃ d, a + far = d := ⟨_, rfl⟩
          have q1 := g2 b _ (u64sL_at (by rw [fill_len]; omega))
          have q2 := g2 d _ (u64sL_at (by rw [fill_len]; omega))
          have q3 := g2 a _ (u64sL_at (by rw [fill_len]; omega))
          have t1 : IntKind.i64.wrap ((a : Int) - (far : Int)) = (b : Int) := by rw [IntKind.wrap_i64]; omega
          have t2 : IntKind.i64.wrap ((a : Int) + (far : Int)) = (d : Int) := by rw [IntKind.wrap_i64]; omega
          rw [hb, hd] at s1 s2
          obtain ⟨x, hx⟩ : ∃ x, (fillL far a).getD b 0 = x := ⟨_, rfl⟩
          obtain ⟨y, hy⟩ : ∃ y, (fillL far a).getD d 0 = y := ⟨_, rfl⟩
          obtain ⟨v, hv⟩ : ∃ v, (fillL far a).getD a 0 = v := ⟨_, rfl⟩
          rw [hx, hy] at s1 s2
          rw [hx] at q1
          rw [hy] at q2
          rw [hv] at q3
          obtain ⟨Z, hZ⟩ : ∃ Z, x * y = Z := ⟨_, rfl⟩
          rw [hZ] at s1 s2
          have t3 : IntKind.u64.wrap ((x : Int) * (y : Int)) = (Z : Int) := by
            rw [show (x : Int) * (y : Int) = ((x * y : Nat) : Int) by simp, hZ, IntKind.wrap_u64]; omega
          have CR := hid (fun W => (tb_Root Z s2 W).mono fun e w' (h : _ ∧ W = w') => (⟨h.1, h.2.symm⟩ : e = .returned (.int .u64 (rootN Z : Int)) ∧ w' = W))
          obtain ⟨r, hr⟩ : ∃ r, rootN Z = r := ⟨_, rfl⟩
          rw [hr] at s1 CR
          have HS := hid s1
          have t4 : IntKind.i64.wrap (2 * (far : Int)) = 2 * (far : Int) := by rw [IntKind.wrap_i64]; omega
          have t5 : IntKind.i64.wrap ((a : Int) + 2 * (far : Int)) = ((a + 2 * far : Nat) : Int) := by rw [IntKind.wrap_i64]; omega
          have HE : Hid (a + 2 * far < 32 ∧ (a + 2 * far) % (2 * far) = far) := hid ⟨by omega, by rw [Nat.add_mod_right]; exact hmod⟩
          have hd17 : (d : Int) < 17 := by omega
          have hb17 : (b : Int) < 17 := by omega
          have ha17 : (a : Int) < 17 := by omega
          obtain ⟨c1, _⟩ := q1
          obtain ⟨c2, _⟩ := q2
          obtain ⟨c3, c4⟩ := q3
          clear s1 s2 g2 hmod hb hd hx hy hv hZ hr hle hup ha
          go_wp2_with fail
          go_still_tail 14, (by kernel_rfl)
          still_call (CR.out _)
          repeat still_step
          refine wpStill_nil ?_
          change wpList _ _ _ _ _ wr.drew
          have GN : Hid (BoxL (wr.drew.setCell ⟨w.heap.size + 1, a, none⟩ (.int .u64 (r : Int))) (w.heap.size + 1) (u64sL (fillL far (a + 2 * far)))) := hid (by rw [← HS.out, u64sL_set]; exact (BoxL.drew G2.out).one (u64sL_at (by rw [fill_len]; omega)) _)
          have GM : Hid (BoxL (wr.drew.setCell ⟨w.heap.size + 1, a, none⟩ (.int .u64 (r : Int))) w.heap.size [.int .u64 0, .int .u64 0, .int .u64 0, .int .u64 0, .int .u64 0, .int .u64 0, .int .u64 0, .int .u64 0, .int .u64 0, .int .u64 0, .int .u64 0, .int .u64 0, .int .u64 0, .int .u64 0, .int .u64 0, .int .u64 0, .int .u64 0]) := hid ((BoxL.drew G1.out).other (by simp) _)
          have GB : Hid (Below w.heap.size w (wr.drew.setCell ⟨w.heap.size + 1, a, none⟩ (.int .u64 (r : Int)))) := hid (HBR.out.drew.setCell (by simp) _)
          have c3' : wr.drew.cell? ⟨w.heap.size + 1, a, none⟩ = some (.int .u64 (v : Int)) := c3
          have c4' : wr.drew.frozen? ⟨w.heap.size + 1, a, none⟩ = false := c4
          generalize wr.drew = w2 at GN GM GB c3' c4' ⊢
          clear c1 c2 c3 c4 G1 G2 HBR
          go_wp2_with fail
          go_roundw
          case rel => exact ⟨a + 2 * far, HE.out.1, HE.out.2, rfl, GN.out, GM.out, GB.out⟩
          case measure => have := HE.out.1; simp [intOf]; omega
        · obtain hge : 16 ≤ a := by omega
          have hE := fill_end far HM.out a ha hge hmod
          have hm := HM.out
          obtain ⟨h, hh, hmem⟩ : ∃ h, far / 2 = h ∧ h ∈ [8, 4, 2, 1, 0] := ⟨_, rfl, by simp at hm ⊢; omega⟩
          rw [hh] at hE
          have t1 : (far : Int) / 2 = (h : Int) := by omega
          have hlth : h < far := by omega
          have HE := hid hE
          have HL := hid hlth
          clear g2 hE hm hh
          go_wp2_with fail
          go_roundw
          case rel => exact ⟨h, hmem, by go_num, by rw [← HE.out]; exact G2.out, G1.out, HBR.out⟩
          case measure => have := HL.out; simp [intOf]; omega
end Go.Proofs.YtehbdnehlfplaaaGreat
/- Powers of two, by the program. -/
namespace Go.Proofs.YtehbdnehlfplaaaGreat
open Go.RowKit
set_option maxHeartbeats 2000000
set_option maxRecDepth 100000
set_option linter.unusedVariables false
def expE (frac x : Int) : Int := if frac < 0 ∨ 30 < frac ∨ 0 < x then 1 else if x = -9223372036854775808 then 2 else 0
def expV (frac x : Int) : Int := if expE frac x = 0 then (expN (-x).toNat frac.toNat : Int) else 0
theorem exp_bad {frac x : Int} (h : frac < 0 ∨ 30 < frac ∨ 0 < x) : expE frac x = 1 ∧ expV frac x = 0 := by
  have h1 : expE frac x = 1 := if_pos h
  refine ⟨h1, if_neg ?_⟩
  rw [h1]
  decide
theorem exp_min {frac x : Int} (h : ¬ (frac < 0 ∨ 30 < frac ∨ 0 < x)) (hx : x = -9223372036854775808) : expE frac x = 2 ∧ expV frac x = 0 := by
  have h1 : expE frac x = 2 := by unfold expE; rw [if_neg h, if_pos hx]
  refine ⟨h1, if_neg ?_⟩
  rw [h1]
  decide
theorem exp_ok {frac x : Int} (h : ¬ (frac < 0 ∨ 30 < frac ∨ 0 < x)) (hx : x ≠ -9223372036854775808) : expE frac x = 0 ∧ expV frac x = (expN (-x).toNat frac.toNat : Int) := by
  have h1 : expE frac x = 0 := by unfold expE; rw [if_neg h, if_neg hx]
  exact ⟨h1, if_pos h1⟩
theorem expN_up {y f : Nat} : expN y f ≤ 1073741824 := Nat.le_trans (Nat.div_le_self _ _) (rows_hi (Nat.le_trans row_at (by decide)))
/-- How the power is told: row by row. -/
theorem exp_way {y k : Nat} (hk : k ≤ 30) : ∃ W P r C v : Nat, (y : Int) / 2 ^ k = (W : Int) ∧ (y : Int) % 2 ^ k = (P : Int) ∧ P < 2 ^ k ∧ W ≤ y ∧ ((P * 16 : Nat) : Int) / 2 ^ k = (r : Int) ∧ r < 17 ∧ W + 30 = C + k ∧ rowsN.getD r 0 = v ∧ ((v : Nat) : Int) / 2 ^ min C 64 = (expN y k : Int) := by
  have hc : ((2 : Int) ^ k) = ((2 ^ k : Nat) : Int) := by simp
  refine ⟨y / 2 ^ k, y % 2 ^ k, y % 2 ^ k * 16 / 2 ^ k, 30 - k + y / 2 ^ k, rowsN.getD (y % 2 ^ k * 16 / 2 ^ k) 0, ?_, ?_, Nat.mod_lt _ (Nat.two_pow_pos k), Nat.div_le_self _ _, ?_, ?_, by omega, rfl, ?_⟩
  · rw [hc]; rfl
  · rw [hc]; rfl
  · rw [hc]; rfl
  · have := row_at (y := y) (f := k); omega
  · have hC : ∀ c : Nat, ((2 : Int) ^ c) = ((2 ^ c : Nat) : Int) := fun c => by simp
    rw [hC]
    rw [← Int.natCast_ediv]
    congr 1
    show _ = rowN y k / 2 ^ (30 - k + y / 2 ^ k)
    rcases Nat.le_total (30 - k + y / 2 ^ k) 64 with h | h
    · rw [Nat.min_eq_left h]; rfl
    · rw [Nat.min_eq_right h]
      have hr : rowN y k ≤ 1073741824 := rows_hi (Nat.le_trans row_at (by decide))
      have h2 : rowN y k < 2 ^ 64 := Nat.lt_of_le_of_lt hr (by decide)
      have h3 : rowN y k < 2 ^ (30 - k + y / 2 ^ k) := Nat.lt_of_lt_of_le h2 (Nat.pow_le_pow_right (by decide) h)
      rw [Nat.div_eq_of_lt h3]
      exact Nat.div_eq_of_lt h2
theorem tb_behind_yes (n : Int) (h1 : 0 ≤ n) (h2 : n ≤ 30) (w : World) : Calls Tryz.prog 46 #[.int .i64 n] w fun e w' => e = .returned (.bool true) ∧ w = w' := by
  go_enter Tryz.func46, Tryz.ntmps46
  go_wp2_with fail
  go_ret
  exact ⟨rfl, rfl⟩
theorem tb_behind_no (n : Int) (h : n < 0 ∨ 30 < n) (w : World) : Calls Tryz.prog 46 #[.int .i64 n] w fun e w' => e = .returned (.bool false) ∧ w = w' := by
  rcases h with h | h
  · have h2 : ¬ 0 ≤ n := by omega
    go_enter Tryz.func46, Tryz.ntmps46
    go_wp2_with fail
    go_ret
    exact ⟨rfl, rfl⟩
  · have h2 : 0 ≤ n := by omega
    have h3 : ¬ n ≤ 30 := by omega
    go_enter Tryz.func46, Tryz.ntmps46
    go_wp2_with fail
    go_ret
    exact ⟨rfl, rfl⟩
theorem tb_exp (frac x : Int) (hx : I64 x) (w : World) :
    Calls Tryz.prog 69 #[.agg #[.int .u64 1073741824, .int .u64 1028218692, .int .u64 984625593, .int .u64 942880698, .int .u64 902905650, .int .u64 864625412, .int .u64 827968131, .int .u64 792864998, .int .u64 759250124, .int .u64 727060409, .int .u64 696235433, .int .u64 666717334, .int .u64 638450707, .int .u64 611382491, .int .u64 585461880, .int .u64 560640217, .int .u64 536870912], .int .i64 x, .int .i64 frac] w fun e w' => e = .returned (.tuple #[.int .i64 (expV frac x), .int .i64 (expE frac x)]) ∧ Below w.heap.size w w' := by
  obtain ⟨w2, hw2⟩ : ∃ w2, w.alloc (.cells #[.int .u64 1073741824, .int .u64 1028218692, .int .u64 984625593, .int .u64 942880698, .int .u64 902905650, .int .u64 864625412, .int .u64 827968131, .int .u64 792864998, .int .u64 759250124, .int .u64 727060409, .int .u64 696235433, .int .u64 666717334, .int .u64 638450707, .int .u64 611382491, .int .u64 585461880, .int .u64 560640217, .int .u64 536870912] 63) = w2 := ⟨_, rfl⟩
  have hb2 : Below w.heap.size w w2 := by rw [← hw2]; go_grown
  have f2 : BoxL w2 w.heap.size [.int .u64 1073741824, .int .u64 1028218692, .int .u64 984625593, .int .u64 942880698, .int .u64 902905650, .int .u64 864625412, .int .u64 827968131, .int .u64 792864998, .int .u64 759250124, .int .u64 727060409, .int .u64 696235433, .int .u64 666717334, .int .u64 638450707, .int .u64 611382491, .int .u64 585461880, .int .u64 560640217, .int .u64 536870912] := by rw [← hw2]; exact BoxL.new w [.int .u64 1073741824, .int .u64 1028218692, .int .u64 984625593, .int .u64 942880698, .int .u64 902905650, .int .u64 864625412, .int .u64 827968131, .int .u64 792864998, .int .u64 759250124, .int .u64 727060409, .int .u64 696235433, .int .u64 666717334, .int .u64 638450707, .int .u64 611382491, .int .u64 585461880, .int .u64 560640217, .int .u64 536870912] 63
  have HB := hid hb2
  have F2 := hid f2
  clear hb2 f2
  by_cases h1 : frac < 0 ∨ 30 < frac
  · obtain ⟨e1, e2⟩ := exp_bad (x := x) (show frac < 0 ∨ 30 < frac ∨ 0 < x by omega)
    rw [e1, e2]
    have C := hid (fun w => tb_behind_no frac h1 w)
    clear h1 e1 e2
    go_enter Tryz.func69, Tryz.ntmps69
    go_wp2_with fail
    refine (C.out _).mono ?_
    rintro _ _ ⟨rfl, rfl⟩
    go_wp2_with fail
    go_ret2
    exact ⟨rfl, HB.out⟩
  · have C := hid (fun w => tb_behind_yes frac (by omega) (by omega) w)
    by_cases h2 : 0 < x
    · obtain ⟨e1, e2⟩ := exp_bad (show frac < 0 ∨ 30 < frac ∨ 0 < x by omega)
      rw [e1, e2]
      have h3 : x > 0 := h2
      clear h1 e1 e2
      go_enter Tryz.func69, Tryz.ntmps69
      go_wp2_with fail
      refine (C.out _).mono ?_
      rintro _ _ ⟨rfl, rfl⟩
      go_wp2_with fail
      go_ret2
      exact ⟨rfl, HB.out⟩
    · have hn : ¬ (frac < 0 ∨ 30 < frac ∨ 0 < x) := by omega
      have h3 : ¬ x > 0 := h2
      have CN := hid (fun w => fix_Neg x hx w)
      by_cases hm : x = -9223372036854775808
      · obtain ⟨e1, e2⟩ := exp_min hn hm
        rw [e1, e2]
        have k1 : ckV (-x) = 0 := by subst hm; decide
        have k2 : ckE (-x) = 2 := by subst hm; decide
        rw [k1, k2] at CN
        clear h1 h2 hn e1 e2 k1 k2 hm
        go_enter Tryz.func69, Tryz.ntmps69
        go_wp2_with fail
        refine (C.out _).mono ?_
        rintro _ _ ⟨rfl, rfl⟩
        go_wp2_with fail
        refine (CN.out _).mono ?_
        rintro _ _ ⟨rfl, rfl⟩
        go_wp2_with fail
        go_ret2
        exact ⟨rfl, HB.out⟩
      · obtain ⟨e1, e2⟩ := exp_ok hn hm
        rw [e1, e2]
        obtain ⟨y, hy⟩ : ∃ y, (-x).toNat = y := ⟨_, rfl⟩
        have hyx : -x = (y : Int) := by omega
        obtain ⟨k, rfl⟩ : ∃ k : Nat, frac = (k : Int) := ⟨frac.toNat, by omega⟩
        have k1 : ckV (-x) = (y : Int) := by rw [hyx]; exact ckV_in (by unfold I64 at *; omega)
        have k2 : ckE (-x) = 0 := by rw [hyx]; exact ckE_in (by unfold I64 at *; omega)
        rw [k1, k2] at CN
        rw [hy]
        have hk : k ≤ 30 := by omega
        obtain ⟨W, P, r, c, v, q1, q2, p1, p2, q3, r1, q4, q5, q6⟩ := exp_way (y := y) hk
        obtain ⟨U, hU⟩ : ∃ U, P * 16 = U := ⟨_, rfl⟩
        obtain ⟨Z, hZ⟩ : ∃ Z, W + 30 = Z := ⟨_, rfl⟩
        rw [hU] at q3
        rw [hZ] at q4
        have hV : expN y k ≤ 1073741824 := expN_up
        rw [show (k : Int).toNat = k from rfl]
        obtain ⟨V, hV2⟩ : ∃ V, expN y k = V := ⟨_, rfl⟩
        rw [hV2] at q6 hV ⊢
        have hT : (2 : Int) ^ k ≤ 1073741824 := by
          have : (2 : Int) ^ k = ((2 ^ k : Nat) : Int) := by simp
          have : 2 ^ k ≤ 2 ^ 30 := Nat.pow_le_pow_right (n := 2) (by decide) hk
          omega
        have hT1 : (1 : Int) ≤ (2 : Int) ^ k := by
          have : (2 : Int) ^ k = ((2 ^ k : Nat) : Int) := by simp
          have := Nat.two_pow_pos k
          omega
        have p3 : (P : Int) < 2 ^ k := by
          have : (2 : Int) ^ k = ((2 ^ k : Nat) : Int) := by simp
          omega
        have hf2 := F2.out r (.int .u64 (v : Int)) (by
          rw [← rows_cells, u64sL_at (show r < rowsN.length from r1), q5])
        obtain ⟨c1, c2⟩ := hf2
        have r2 : (r : Int) < 17 := by omega
        have y1 : (y : Int) ≤ 9223372036854775807 := by unfold I64 at hx; omega
        have t1 : IntKind.u64.wrap (2 ^ k) = (2 : Int) ^ k := by rw [IntKind.wrap_u64]; omega
        have t2 : IntKind.u64.wrap (y : Int) = (y : Int) := by rw [IntKind.wrap_u64]; omega
        have t3 : IntKind.u64.wrap ((P : Int) * 16) = (U : Int) := by rw [IntKind.wrap_u64]; omega
        have t4 : IntKind.u64.wrap ((W : Int) + 30) = (Z : Int) := by rw [IntKind.wrap_u64]; omega
        have t5 : IntKind.u64.wrap (k : Int) = (k : Int) := by rw [IntKind.wrap_u64]; omega
        have t6 : IntKind.u64.wrap ((Z : Int) - (k : Int)) = (c : Int) := by rw [IntKind.wrap_u64]; omega
        have t7 : IntKind.i64.wrap (V : Int) = (V : Int) := Go.IntWalk.i64_in _ (by omega)
        have t8 : wrap64 (V : Int) = (V : Int) := Go.IntWalk.wrap64_in _ (by omega)
        clear h1 h2 hn e1 e2 k1 k2 hm hy hyx hU hZ q4 q5 hV2 p1 p2 F2 y1 hT p3 hx
        go_enter Tryz.func69, Tryz.ntmps69
        go_wp2_with fail
        refine (C.out _).mono ?_
        rintro _ _ ⟨rfl, rfl⟩
        go_wp2_with fail
        refine (CN.out _).mono ?_
        rintro _ _ ⟨rfl, rfl⟩
        have n0 : ((2 : Int) ^ k == 0) = false := beq_eq_false_iff_ne.2 (by omega)
        have n1 : ¬ (2 : Int) ^ k = 0 := by omega
        have hge : ¬ (k : Int) < 0 := by omega
        go_wp2_with fail
        go_region
        have HB2 : Hid (Below w.heap.size w w2.drew) := hid HB.out.drew
        have c1' : w2.drew.cell? ⟨w.heap.size, r, none⟩ = some (.int .u64 (v : Int)) := c1
        have c2' : w2.drew.frozen? ⟨w.heap.size, r, none⟩ = false := c2
        clear c1 c2 HB
        generalize w2.drew = w3 at HB2 c1' c2' ⊢
        go_wp2_with fail
        go_ret2
        exact ⟨rfl, HB2.out⟩
/-- The table as a list. -/
def rowsI : List Int := rowsN.map fun (n : Nat) => (n : Int)
theorem rows_vals : u64sL rowsN = rowsI.map (Value.int .u64) := by unfold u64sL rowsI; rw [List.map_map]; rfl
def OwnRows (w : World) (e : Ending) (w' : World) : Prop :=
  ∃ A c, e = .returned (.slice A 17 c) ∧ Rd (Value.int .u64) w' w'.heap.size A rowsI ∧ Below w.heap.size w w'
end Go.Proofs.YtehbdnehlfplaaaGreat
/- The table, by the document. -/
namespace Go.Proofs.YtehbdnehlfplaaaGreat
open Go.RowKit
set_option maxHeartbeats 2000000
set_option maxRecDepth 100000
set_option linter.unusedVariables false
theorem info_u64t : (Tryz.prog.info? 61).map (fun i => (i.zero, i.size, i.bytes)) = some (some (.int .u64 0), 1, 8) := by kernel_rfl
theorem make17 (W : World) : (Instr.makeSlice 99 (.int .i64 17) (.int .i64 17)).run Tryz.prog W = .ok (.slice (some ⟨W.heap.size, 0, none⟩) 17 17) (W.alloc (.cells #[.int .u64 0, .int .u64 0, .int .u64 0, .int .u64 0, .int .u64 0, .int .u64 0, .int .u64 0, .int .u64 0, .int .u64 0, .int .u64 0, .int .u64 0, .int .u64 0, .int .u64 0, .int .u64 0, .int .u64 0, .int .u64 0, .int .u64 0] 61)) := by
  obtain ⟨i, hi, hzz⟩ := Option.map_eq_some_iff.1 info_u64t
  simp only [Prod.mk.injEq] at hzz
  obtain ⟨hz, hs, hb⟩ := hzz
  have h := run_make (P := Tryz.prog) W 99 61 i _ Tryz.underlying99 hi hz .i64 .i64 17 17 (by decide) (by decide) (by rw [hb]; decide) (by decide)
  rw [hs] at h
  rw [h]
  have e : madeCells (Value.int .u64 0).cells (Int.toNat 17 * 1) = #[.int .u64 0, .int .u64 0, .int .u64 0, .int .u64 0, .int .u64 0, .int .u64 0, .int .u64 0, .int .u64 0, .int .u64 0, .int .u64 0, .int .u64 0, .int .u64 0, .int .u64 0, .int .u64 0, .int .u64 0, .int .u64 0, .int .u64 0] := by kernel_rfl
  rw [e]
  rfl
theorem far_lit : ∀ j, j < 4 → ([.int .i64 8, .int .i64 4, .int .i64 2, .int .i64 1] : List Value)[j]? = some (.int .i64 ((8 / 2 ^ j : Nat) : Int)) ∧ 8 / 2 ^ j ∈ [8, 4, 2, 1] ∧ 8 / 2 ^ j / 2 = 8 / 2 ^ (j + 1) := fun j hj => by
  match j, hj with
  | 0, _ => exact ⟨rfl, by decide, by decide⟩
  | 1, _ => exact ⟨rfl, by decide, by decide⟩
  | 2, _ => exact ⟨rfl, by decide, by decide⟩
  | 3, _ => exact ⟨rfl, by decide, by decide⟩
theorem ref_Rows (w : World) : Calls Tryz.prog 99 #[] w (OwnRows w) := by
  have hmk := make17 w
  obtain ⟨w2, hw2⟩ : ∃ w2, w.alloc (.cells #[.int .u64 0, .int .u64 0, .int .u64 0, .int .u64 0, .int .u64 0, .int .u64 0, .int .u64 0, .int .u64 0, .int .u64 0, .int .u64 0, .int .u64 0, .int .u64 0, .int .u64 0, .int .u64 0, .int .u64 0, .int .u64 0, .int .u64 0] 61) = w2 := ⟨_, rfl⟩
  have hs2 : w2.heap.size = w.heap.size + 1 := by rw [← hw2]; simp
  have hb2 : Below w.heap.size w w2 := by rw [← hw2]; go_grown
  have f2 : BoxL w2 w.heap.size [.int .u64 0, .int .u64 0, .int .u64 0, .int .u64 0, .int .u64 0, .int .u64 0, .int .u64 0, .int .u64 0, .int .u64 0, .int .u64 0, .int .u64 0, .int .u64 0, .int .u64 0, .int .u64 0, .int .u64 0, .int .u64 0, .int .u64 0] := by rw [← hw2]; exact BoxL.new w [.int .u64 0, .int .u64 0, .int .u64 0, .int .u64 0, .int .u64 0, .int .u64 0, .int .u64 0, .int .u64 0, .int .u64 0, .int .u64 0, .int .u64 0, .int .u64 0, .int .u64 0, .int .u64 0, .int .u64 0, .int .u64 0, .int .u64 0] 61
  obtain ⟨w3, hw3⟩ : ∃ w3, w2.setCell ⟨w.heap.size, 0, none⟩ (.int .u64 1073741824) = w3 := ⟨_, rfl⟩
  have f3 := f2.one (k := 0) rfl (.int .u64 1073741824)
  have hb3 : Below w.heap.size w w3 := by rw [← hw3]; exact hb2.setCell (Nat.le_refl _) _
  have hs3 : w3.heap.size = w.heap.size + 1 := by rw [← hw3, ← hs2]; simp
  rw [hw3] at f3
  obtain ⟨w4, hw4⟩ : ∃ w4, w3.setCell ⟨w.heap.size, 16, none⟩ (.int .u64 536870912) = w4 := ⟨_, rfl⟩
  have f4 := f3.one (k := 16) rfl (.int .u64 536870912)
  have hb4 : Below w.heap.size w w4 := by rw [← hw4]; exact hb3.setCell (Nat.le_refl _) _
  have hs4 : w4.heap.size = w.heap.size + 1 := by rw [← hw4, ← hs3]; simp
  rw [hw4] at f4
  obtain ⟨w5, hw5⟩ : ∃ w5, w4.alloc (.cells #[.int .i64 8, .int .i64 4, .int .i64 2, .int .i64 1] 3) = w5 := ⟨_, rfl⟩
  have hb5 : Below w.heap.size w w5 := by rw [← hw5]; exact hb4.alloc hb4.size _
  have l5 : BoxL w5 (w.heap.size + 1) [.int .i64 8, .int .i64 4, .int .i64 2, .int .i64 1] := by rw [← hw5, ← hs4]; exact BoxL.new w4 [.int .i64 8, .int .i64 4, .int .i64 2, .int .i64 1] 3
  have f5 : BoxL w5 w.heap.size (u64sL (fillL 8 8)) := by
    rw [fill_first, ← hw5]
    exact f4.below ((Below.refl _ _).alloc (Nat.le_refl _) _) (by omega)
  obtain ⟨c0, d0⟩ := f2 0 _ rfl
  obtain ⟨c16, d16⟩ := f3 16 _ rfl
  have F5 := hid f5
  have L5 := hid l5
  have HB := hid hb5
  clear f2 f3 f4 f5 l5 hb2 hb3 hb4 hb5
  go_enter Tryz.func99, Tryz.ntmps99
  go_wp2_with fail
  go_loopw [3, 4, 12] (fun xf xi xn wr => ∃ j : Nat, j ≤ 4 ∧ xn = .int .i64 (j : Int) ∧ BoxL wr w.heap.size (u64sL (fillL (8 / 2 ^ j) (8 / 2 ^ j))) ∧ BoxL wr (w.heap.size + 1) [.int .i64 8, .int .i64 4, .int .i64 2, .int .i64 1] ∧ Below w.heap.size w wr) (fun _ _ xn _ => 4 - (intOf xn).toNat)
  case atStart => exact ⟨0, by decide, rfl, F5.out, L5.out, HB.out⟩
  case round =>
    obtain ⟨j, hj, rfl, g2, g1, hbr⟩ := hrel
    have G1 := hid g1
    have G2 := hid g2
    have HBR := hid hbr
    clear F5 L5 HB g1 hbr hmk hw2 hw3 hw4 hw5 c0 d0 c16 d16 hs2 hs3 hs4 g2
    by_cases hlt : j < 4
    · obtain ⟨e1, hm, e2⟩ := far_lit j hlt
      obtain ⟨far, hfar⟩ : ∃ far, 8 / 2 ^ j = far := ⟨_, rfl⟩
      rw [hfar] at e1 hm e2
      obtain ⟨l1, _⟩ := G1.out j _ e1
      have hf2 : 1 ≤ far ∧ far ≤ 8 := by simp at hm; omega
      obtain ⟨f1, f2⟩ := hf2
      have hlt' : (j : Int) < 4 := by omega
      have hfp : 0 < far := by omega
      have G3 : Hid (BoxL wr w.heap.size (u64sL (fillL far far))) := hid (by rw [← hfar]; exact G2.out)
      have HM := hid hm
      have HE := hid e2
      clear e1 hm e2 hfar G2
      go_wp2_with fail
      go_loopw [4] (fun xa wr => ∃ a : Nat, a < 32 ∧ a % (2 * far) = far ∧ xa = .int .i64 (a : Int) ∧ BoxL wr w.heap.size (u64sL (fillL far a)) ∧ BoxL wr (w.heap.size + 1) [.int .i64 8, .int .i64 4, .int .i64 2, .int .i64 1] ∧ Below w.heap.size w wr) (fun xa _ => 32 - (intOf xa).toNat)
      case atStart => exact ⟨far, by omega, Nat.mod_eq_of_lt (by omega), rfl, G3.out, G1.out, HBR.out⟩
      case round =>
        clear l1 G3 G1 HBR
        obtain ⟨a, ha, hmod, rfl, g2, g1, hbr⟩ := hrel
        have G1 := hid g1
        have G2 := hid g2
        have HBR := hid hbr
        clear g1 hbr
        by_cases hlt : a < 16
        · obtain ⟨s1, s2, hup⟩ := fill_on far HM.out a hlt hmod
          have hle : far ≤ a := by rw [← hmod]; exact Nat.mod_le _ _
          obtain ⟨b, hb⟩ : ∃ b, a - far = b := ⟨_, rfl⟩
          obtain ⟨d, hd⟩ : ∃ d, a + far = d := ⟨_, rfl⟩
          have q1 := g2 b _ (u64sL_at (by rw [fill_len]; omega))
          have q2 := g2 d _ (u64sL_at (by rw [fill_len]; omega))
          have q3 := g2 a _ (u64sL_at (by rw [fill_len]; omega))
          have t1 : IntKind.i64.wrap ((a : Int) - (far : Int)) = (b : Int) := by rw [IntKind.wrap_i64]; omega
          have t2 : IntKind.i64.wrap ((a : Int) + (far : Int)) = (d : Int) := by rw [IntKind.wrap_i64]; omega
          rw [hb, hd] at s1 s2
          obtain ⟨x, hx⟩ : ∃ x, (fillL far a).getD b 0 = x := ⟨_, rfl⟩
          obtain ⟨y, hy⟩ : ∃ y, (fillL far a).getD d 0 = y := ⟨_, rfl⟩
          obtain ⟨v, hv⟩ : ∃ v, (fillL far a).getD a 0 = v := ⟨_, rfl⟩
          rw [hx, hy] at s1 s2
          rw [hx] at q1
          rw [hy] at q2
          rw [hv] at q3
          obtain ⟨Z, hZ⟩ : ∃ Z, x * y = Z := ⟨_, rfl⟩
          rw [hZ] at s1 s2
          have t3 : IntKind.u64.wrap ((x : Int) * (y : Int)) = (Z : Int) := by
            rw [show (x : Int) * (y : Int) = ((x * y : Nat) : Int) by simp, hZ, IntKind.wrap_u64]; omega
          have CR := hid (fun W => (ref_Root Z s2 W).mono fun e w' (h : _ ∧ W = w') => (⟨h.1, h.2.symm⟩ : e = .returned (.int .u64 (rootN Z : Int)) ∧ w' = W))
          obtain ⟨r, hr⟩ : ∃ r, rootN Z = r := ⟨_, rfl⟩
          rw [hr] at s1 CR
          have HS := hid s1
          have t4 : IntKind.i64.wrap (2 * (far : Int)) = 2 * (far : Int) := by rw [IntKind.wrap_i64]; omega
          have t5 : IntKind.i64.wrap ((a : Int) + 2 * (far : Int)) = ((a + 2 * far : Nat) : Int) := by rw [IntKind.wrap_i64]; omega
          have HE2 : Hid (a + 2 * far < 32 ∧ (a + 2 * far) % (2 * far) = far) := hid ⟨by omega, by rw [Nat.add_mod_right]; exact hmod⟩
          have hd17 : (d : Int) < 17 := by omega
          have hb17 : (b : Int) < 17 := by omega
          have ha17 : (a : Int) < 17 := by omega
          obtain ⟨c1, _⟩ := q1
          obtain ⟨c2, _⟩ := q2
          obtain ⟨c3, c4⟩ := q3
          clear s1 s2 g2 hmod hb hd hx hy hv hZ hr hle hup ha
          go_wp2_with fail
          go_still_tail 17, (by kernel_rfl)
          still_call (CR.out _)
          repeat still_step
          refine wpStill_nil ?_
          change wpList _ _ _ _ _ wr.drew
          have GN : Hid (BoxL (wr.drew.setCell ⟨w.heap.size, a, none⟩ (.int .u64 (r : Int))) w.heap.size (u64sL (fillL far (a + 2 * far)))) := hid (by rw [← HS.out, u64sL_set]; exact (BoxL.drew G2.out).one (u64sL_at (by rw [fill_len]; omega)) _)
          have GM : Hid (BoxL (wr.drew.setCell ⟨w.heap.size, a, none⟩ (.int .u64 (r : Int))) (w.heap.size + 1) [.int .i64 8, .int .i64 4, .int .i64 2, .int .i64 1]) := hid ((BoxL.drew G1.out).other (by simp) _)
          have GB : Hid (Below w.heap.size w (wr.drew.setCell ⟨w.heap.size, a, none⟩ (.int .u64 (r : Int)))) := hid (HBR.out.drew.setCell (by simp) _)
          have c3' : wr.drew.cell? ⟨w.heap.size, a, none⟩ = some (.int .u64 (v : Int)) := c3
          have c4' : wr.drew.frozen? ⟨w.heap.size, a, none⟩ = false := c4
          generalize wr.drew = w2 at GN GM GB c3' c4' ⊢
          clear c1 c2 c3 c4 G1 G2 HBR
          go_wp2_with fail
          go_roundw
          case rel => exact ⟨a + 2 * far, HE2.out.1, HE2.out.2, rfl, GN.out, GM.out, GB.out⟩
          case measure => have := HE2.out.1; simp [intOf]; omega
        · obtain hge : 16 ≤ a := by omega
          have hE := fill_end far HM.out a ha hge hmod
          rw [HE.out] at hE
          have HF := hid hE
          clear g2 hE
          go_wp2_with fail
          go_roundw
          case rel => exact ⟨j + 1, by omega, by go_num, by rw [← HF.out]; exact G2.out, G1.out, HBR.out⟩
          case measure => simp [intOf]; omega
    · obtain rfl : j = 4 := by omega
      have K : Hid (BoxL wr w.heap.size (rowsI.map (Value.int .u64))) := hid (by
        have := G2.out
        rw [show 8 / 2 ^ 4 = 0 by decide, fill_done, rows_vals] at this
        exact this)
      clear G1 G2
      go_wp2_with fail
      go_ret
      refine ⟨some ⟨w.heap.size, 0, none⟩, 17, rfl, ?_, HBR.out⟩
      intro k x hx
      have hc := (K.out k (.int .u64 x) (by rw [List.getElem?_map, hx]; rfl)).1
      exact ⟨w.heap.size, 0, rfl, lt_of_cell hc, by rw [Nat.zero_add]; exact hc⟩
end Go.Proofs.YtehbdnehlfplaaaGreat
/- Powers of two, by the document. -/
namespace Go.Proofs.YtehbdnehlfplaaaGreat
open Go.RowKit
set_option maxHeartbeats 2000000
set_option maxRecDepth 100000
set_option linter.unusedVariables false
/-- Halved so often. -/
def halve (v : Nat) (n : Nat) : Nat := v / 2 ^ n
theorem halve_on (v n : Nat) : halve v n / 2 = halve v (n + 1) := by unfold halve; rw [Nat.div_div_eq_div_mul, ← Nat.pow_succ]
theorem halve_none {v n : Nat} (h : halve v n = 0) (m : Nat) : halve v (n + m) = 0 := by
  unfold halve at *
  rw [Nat.pow_add, ← Nat.div_div_eq_div_mul, h, Nat.zero_div]
theorem ref_Exp (frac x : Int) (hx : I64 x) (w : World) :
    Calls Tryz.prog 79 #[.int .i64 x, .int .i64 frac] w fun e w' => e = .returned (.tuple #[.int .i64 (expV frac x), .int .i64 (expE frac x)]) ∧ Below w.heap.size w w' := by
  by_cases h1 : frac < 0
  · obtain ⟨e1, e2⟩ := exp_bad (x := x) (show frac < 0 ∨ 30 < frac ∨ 0 < x by omega)
    rw [e1, e2]
    clear e1 e2
    go_enter Tryz.func79, Tryz.ntmps79
    go_wp2_with fail
    go_ret2
    exact ⟨rfl, Below.refl _ _⟩
  by_cases h2 : frac > 30
  · obtain ⟨e1, e2⟩ := exp_bad (x := x) (show frac < 0 ∨ 30 < frac ∨ 0 < x by omega)
    rw [e1, e2]
    clear e1 e2
    go_enter Tryz.func79, Tryz.ntmps79
    go_wp2_with fail
    go_ret2
    exact ⟨rfl, Below.refl _ _⟩
  by_cases h3 : x > 0
  · obtain ⟨e1, e2⟩ := exp_bad (x := x) (show frac < 0 ∨ 30 < frac ∨ 0 < x by omega)
    rw [e1, e2]
    clear e1 e2
    go_enter Tryz.func79, Tryz.ntmps79
    go_wp2_with fail
    go_ret2
    exact ⟨rfl, Below.refl _ _⟩
  have hn : ¬ (frac < 0 ∨ 30 < frac ∨ 0 < x) := by omega
  have CN := hid (fun w => ref_Neg x hx w)
  by_cases hm : x = -9223372036854775808
  · obtain ⟨e1, e2⟩ := exp_min hn hm
    rw [e1, e2]
    have k1 : ckV (-x) = 0 := by subst hm; decide
    have k2 : ckE (-x) = 2 := by subst hm; decide
    rw [k1, k2] at CN
    clear hn e1 e2 k1 k2 hm
    go_enter Tryz.func79, Tryz.ntmps79
    go_wp2_with fail
    refine (CN.out _).mono ?_
    rintro _ _ ⟨rfl, rfl⟩
    go_wp2_with fail
    go_ret2
    exact ⟨rfl, Below.refl _ _⟩
  · obtain ⟨e1, e2⟩ := exp_ok hn hm
    rw [e1, e2]
    obtain ⟨y, hy⟩ : ∃ y, (-x).toNat = y := ⟨_, rfl⟩
    have hyx : -x = (y : Int) := by omega
    obtain ⟨k, rfl⟩ : ∃ k : Nat, frac = (k : Int) := ⟨frac.toNat, by omega⟩
    have k1 : ckV (-x) = (y : Int) := by rw [hyx]; exact ckV_in (by unfold I64 at *; omega)
    have k2 : ckE (-x) = 0 := by rw [hyx]; exact ckE_in (by unfold I64 at *; omega)
    rw [k1, k2] at CN
    rw [hy]
    have hk : k ≤ 30 := by omega
    obtain ⟨W, P, r, c, v, q1, q2, p1, p2, q3, r1, q4, q5, q6⟩ := exp_way (y := y) hk
    have hvN : halve v c = expN y k := by
      have hw : W = y / 2 ^ k := by
        have : ((2 : Int) ^ k) = ((2 ^ k : Nat) : Int) := by simp
        rw [this, ← Int.natCast_ediv] at q1
        omega
      have hc : c = 30 - k + y / 2 ^ k := by omega
      have hr : r = y % 2 ^ k * 16 / 2 ^ k := by
        have : ((2 : Int) ^ k) = ((2 ^ k : Nat) : Int) := by simp
        rw [this, ← Int.natCast_emod] at q2
        rw [this, ← Int.natCast_ediv] at q3
        have : P = y % 2 ^ k := by omega
        rw [← this]
        omega
      unfold halve expN rowN
      rw [← q5, hc, hr]
    obtain ⟨U, hU⟩ : ∃ U, P * 16 = U := ⟨_, rfl⟩
    rw [hU] at q3
    have hV : expN y k ≤ 1073741824 := expN_up
    rw [show (k : Int).toNat = k from rfl]
    obtain ⟨V, hV2⟩ : ∃ V, expN y k = V := ⟨_, rfl⟩
    rw [hV2] at hV hvN ⊢
    have hvl : v ≤ 1073741824 := by rw [← q5]; exact rows_hi (by omega)
    have hT : (2 : Int) ^ k ≤ 1073741824 := by
      have : (2 : Int) ^ k = ((2 ^ k : Nat) : Int) := by simp
      have : 2 ^ k ≤ 2 ^ 30 := Nat.pow_le_pow_right (n := 2) (by decide) hk
      omega
    have hT1 : (1 : Int) ≤ (2 : Int) ^ k := by
      have : (2 : Int) ^ k = ((2 ^ k : Nat) : Int) := by simp
      have := Nat.two_pow_pos k
      omega
    have p3 : (P : Int) < 2 ^ k := by
      have : (2 : Int) ^ k = ((2 ^ k : Nat) : Int) := by simp
      omega
    have q5' : rowsI[r]? = some (v : Int) := by
      unfold rowsI
      rw [List.getElem?_map, List.getElem?_eq_getElem (show r < rowsN.length from r1)]
      rw [← q5, List.getD_eq_getElem?_getD, List.getElem?_eq_getElem (show r < rowsN.length from r1)]
      rfl
    have r2 : (r : Int) < 17 := by omega
    have y1 : (y : Int) ≤ 9223372036854775807 := by unfold I64 at hx; omega
    have t1 : IntKind.i64.wrap (2 ^ k) = (2 : Int) ^ k := by rw [IntKind.wrap_i64]; omega
    have t3 : IntKind.i64.wrap ((P : Int) * 16) = (U : Int) := by rw [IntKind.wrap_i64]; omega
    have n0 : ((2 : Int) ^ k == 0) = false := beq_eq_false_iff_ne.2 (by omega)
    have n1 : ¬ (2 : Int) ^ k = 0 := by omega
    have hWy : (W : Int) ≤ (y : Int) := by omega
    have t6 : wrap64 (W : Int) = (W : Int) := Go.IntWalk.wrap64_in _ (by omega)
    have t8 : IntKind.i64.wrap (r : Int) = (r : Int) := Go.IntWalk.i64_in _ (by omega)
    have t7 : wrap64 (r : Int) = (r : Int) := Go.IntWalk.wrap64_in _ (by omega)
    have HY1 := hid y1
    have HQ := hid q5'
    have HC := hid hvN
    have HC4 := hid q4
    clear hn e1 e2 k1 k2 hm hy hyx hU q4 q5 q6 q5' hV2 p1 p2 y1 hT p3 hx hvN hT1
    go_enter Tryz.func79, Tryz.ntmps79
    go_wp2_with fail
    refine (CN.out _).mono ?_
    rintro _ _ ⟨rfl, rfl⟩
    go_wp2_with fail
    go_region_law (first | (go_simp; go_at_call 99; refine (ref_Rows _).mono ?_; rintro _ w4 ⟨A4, c4, rfl, hr4, hb4⟩; obtain ⟨b4, o4, x4, rfl, l4, en4, m4⟩ := hr4.at_ (k := r) r1; obtain rfl : (v : Int) = x4 := Option.some.inj (HQ.out.symm.trans en4); clear hr4 en4))
    have HB4 : Hid (Below w.heap.size w w4) := hid ((Below.refl _ w).drew.trans hb4)
    clear hb4 l4 m4 q1 q2 q3 t1 t3 n0 n1 CN r1 r2 t8 t7 HQ
    obtain ⟨D, hD⟩ : ∃ D, 30 - k = D := ⟨_, rfl⟩
    have td : IntKind.i64.wrap (30 - (k : Int)) = (D : Int) := by rw [IntKind.wrap_i64]; omega
    have HD : Hid (30 - k = D) := hid hD
    have hD30 : D ≤ 30 := by omega
    have hWy2 : (W : Int) ≤ 9223372036854775807 := by have := HY1.out; omega
    have hVw : wrap64 (V : Int) = (V : Int) := Go.IntWalk.wrap64_in _ (by omega)
    have hh : ∀ n, halve v n ≤ 1073741824 := fun n => Nat.le_trans (Nat.div_le_self _ _) hvl
    have HH := hid hh
    clear hD hk hvl hh hV
    go_wp2_with fail
    go_loop [11, 48] (fun xo xn => ∃ n : Nat, n ≤ D ∧ xn = .int .i64 (n : Int) ∧ xo = .int .u64 (halve v n : Int)) (fun _ xn => D - (intOf xn).toNat)
    case atStart => exact ⟨0, by omega, rfl, by unfold halve; rw [Nat.pow_zero, Nat.div_one]⟩
    case round =>
      obtain ⟨n, hn, rfl, rfl⟩ := hrel
      by_cases hlt : n < D
      · obtain ⟨O, hO⟩ : ∃ O, halve v n = O := ⟨_, rfl⟩
        obtain ⟨O2, hO2⟩ : ∃ O2, halve v (n + 1) = O2 := ⟨_, rfl⟩
        have hs := halve_on v n
        rw [hO, hO2] at hs
        have hl := HH.out n
        rw [hO] at hl ⊢
        have q1 : (O : Int) / 2 = (O2 : Int) := by omega
        have q2 : IntKind.u64.wrap (O2 : Int) = (O2 : Int) := by rw [IntKind.wrap_u64]; omega
        have HO := hid hO2
        have hlt' : (n : Int) < (D : Int) := by omega
        clear hs hl hO hO2
        go_wp2_with fail
        go_round
        case rel => exact ⟨n + 1, by omega, by go_num, by rw [HO.out]⟩
        case measure => simp [intOf]; omega
      · obtain rfl : n = D := by omega
        obtain ⟨O, hO⟩ : ∃ O, halve v n = O := ⟨_, rfl⟩
        rw [hO]
        have HO := hid hO
        clear hO
        go_wp2_with fail
        go_loop [11, 12] (fun xo xi => ∃ i : Nat, i ≤ W ∧ xi = .int .i64 (i : Int) ∧ xo = .int .u64 (halve v (n + i) : Int)) (fun _ xi => W - (intOf xi).toNat)
        case atStart => exact ⟨0, by omega, rfl, by rw [Nat.add_zero, HO.out]⟩
        case round =>
          obtain ⟨i, hi, rfl, rfl⟩ := hrel
          by_cases hlt : i < W
          · obtain ⟨O', hO'⟩ : ∃ O', halve v (n + i) = O' := ⟨_, rfl⟩
            by_cases h0 : O' = 0
            · subst h0
              have hz : V = 0 := by
                rw [← HC.out, show c = n + i + (W - i) by have := HC4.out; have := HD.out; omega]
                exact halve_none hO' _
              subst hz
              rw [hO']
              have hlt' : (i : Int) < (W : Int) := by omega
              clear hO'
              go_wp2_with fail
              go_ret2
              exact ⟨rfl, HB4.out⟩
            · obtain ⟨O2, hO2⟩ : ∃ O2, halve v (n + (i + 1)) = O2 := ⟨_, rfl⟩
              have hs := halve_on v (n + i)
              rw [show n + i + 1 = n + (i + 1) from rfl, hO', hO2] at hs
              have hl := HH.out (n + i)
              rw [hO'] at hl ⊢
              have q1 : (O' : Int) / 2 = (O2 : Int) := by omega
              have q2 : IntKind.u64.wrap (O2 : Int) = (O2 : Int) := by rw [IntKind.wrap_u64]; omega
              have q3 : (O' : Int) > 0 := by omega
              have HO2 := hid hO2
              have hlt' : (i : Int) < (W : Int) := by omega
              have hw : IntKind.i64.wrap ((i : Int) + 1) = ((i + 1 : Nat) : Int) := by rw [IntKind.wrap_i64]; omega
              clear hs hl hO' hO2
              go_wp2_with fail
              go_round
              case rel => exact ⟨i + 1, by omega, by go_num, by rw [HO2.out]⟩
              case measure => simp [intOf]; omega
          · obtain rfl : i = W := by omega
            have hV0 : halve v (n + i) = V := by
              rw [← HC.out, show c = n + i by have := HC4.out; have := HD.out; omega]
            rw [hV0]
            clear hV0
            go_wp2_with fail
            go_ret2
            exact ⟨rfl, HB4.out⟩
end Go.Proofs.YtehbdnehlfplaaaGreat
/- Plain facts on a division bit by bit. No program in sight. -/
namespace Go.Proofs.YtehbdnehlfplaaaGreat
open Go.RowKit
set_option maxRecDepth 100000
set_option linter.unusedVariables false

structure OvR (h l y : Int) (n : Nat) (left q : Int) (f : Bool) : Prop where
  nle : n ≤ 128
  left : left = (h * 18446744073709551616 + l) / 2 ^ n % y
  q0 : U64 q
  big : 64 ≤ n → q = 0 ∧ (f = true ↔ (h * 18446744073709551616 + l) / 2 ^ n < y)
  small : n ≤ 64 → (f = true ↔ h < y) ∧ (h < y → q = (h * 18446744073709551616 + l) / 2 ^ n / y * 2 ^ n)

variable {h l y left q : Int} {n : Nat} {f : Bool}

theorem ov_start (hh : U64 h) (hl : U64 l) (hy : 1 ≤ y) : OvR h l y 128 0 0 true := by
  have e : (h * 18446744073709551616 + l) / 2 ^ 128 = 0 := by
    unfold U64 at *
    exact Int.ediv_eq_zero_of_lt (by omega) (by omega)
  refine ⟨by decide, by rw [e]; simp, by unfold U64; omega, fun _ => ⟨rfl, by rw [e]; simp; omega⟩, fun h => by omega⟩
theorem ov_bit (U : Int) (n : Nat) : U / 2 ^ n = 2 * (U / 2 ^ (n + 1)) + U / 2 ^ n % 2 := by
  rw [Int.pow_succ, ← Int.ediv_ediv_of_nonneg (Int.le_of_lt (Int.pow_pos (by decide)))]
  omega
theorem ov_div {T T' b y left : Int} (hy : 1 ≤ y) (e : T' = 2 * T + b) (hb : 0 ≤ b ∧ b ≤ 1) (hl : left = T % y) :
    (y ≤ 2 * left + b ∧ T' % y = 2 * left + b - y ∧ T' / y = 2 * (T / y) + 1) ∨ (2 * left + b < y ∧ T' % y = 2 * left + b ∧ T' / y = 2 * (T / y)) := by
  have k := Int.mul_ediv_add_emod T y
  have k1 := Int.emod_nonneg T (show y ≠ 0 by omega)
  have k2 := Int.emod_lt_of_pos T (show 0 < y by omega)
  rw [← hl] at k k1 k2
  rcases Int.lt_or_le (2 * left + b) y with c | c
  · right
    have e2 : T' = (2 * left + b) + 2 * (T / y) * y := by rw [Int.mul_assoc, Int.mul_comm (T / y)]; omega
    rw [e2, Int.add_mul_emod_self_right, Int.add_mul_ediv_right _ _ (by omega), Int.emod_eq_of_lt (by omega) c, Int.ediv_eq_zero_of_lt (by omega) c]
    omega
  · left
    have e2 : T' = (2 * left + b - y) + (2 * (T / y) + 1) * y := by rw [Int.add_mul, Int.one_mul, Int.mul_assoc, Int.mul_comm (T / y)]; omega
    rw [e2, Int.add_mul_emod_self_right, Int.add_mul_ediv_right _ _ (by omega), Int.emod_eq_of_lt (by omega) (by omega), Int.ediv_eq_zero_of_lt (by omega) (by omega)]
    omega
/-- A round above the 64th bit. -/
theorem ov_high (hh : U64 h) (hl : U64 l) (hy : 1 ≤ y) (hn : 64 ≤ n) (r : OvR h l y (n + 1) left q f) (b : Int) (hb : (h * 18446744073709551616 + l) / 2 ^ n % 2 = b) :
    (y ≤ 2 * left + b → OvR h l y n (2 * left + b - y) q false) ∧ (2 * left + b < y → OvR h l y n (2 * left + b) q f) := by
  obtain ⟨r1, r2, r3, r4, r5⟩ := r
  obtain ⟨r6, r7⟩ := r4 (by omega)
  have e := ov_bit (h * 18446744073709551616 + l) n
  have hU : 0 ≤ h * 18446744073709551616 + l := by unfold U64 at *; omega
  have hp : (0 : Int) < 2 ^ n := Int.pow_pos (by decide)
  have hp1 : (0 : Int) < 2 ^ (n + 1) := Int.pow_pos (by decide)
  have hT : 0 ≤ (h * 18446744073709551616 + l) / 2 ^ (n + 1) := Int.ediv_nonneg hU (Int.le_of_lt hp1)
  have h64 : n = 64 → (h * 18446744073709551616 + l) / 2 ^ n = h := by
    rintro rfl
    unfold U64 at *
    omega
  rw [hb] at e
  have b01 : 0 ≤ b ∧ b ≤ 1 := by omega
  have d := ov_div hy e b01 r2
  generalize hTe : (h * 18446744073709551616 + l) / 2 ^ n = T' at e d hb
  generalize (h * 18446744073709551616 + l) / 2 ^ (n + 1) = T at *
  rw [hTe] at h64
  have kq : T < y ↔ T / y = 0 := by
    constructor
    · intro c; exact Int.ediv_eq_zero_of_lt hT c
    · intro c; have := Int.lt_ediv_add_one_mul_self T (show 0 < y by omega); rw [c] at this; omega
  have hT' : 0 ≤ T' := by omega
  have kq' : T' < y ↔ T' / y = 0 := by
    constructor
    · intro c; exact Int.ediv_eq_zero_of_lt hT' c
    · intro c; have := Int.lt_ediv_add_one_mul_self T' (show 0 < y by omega); rw [c] at this; omega
  have hTy : 0 ≤ T / y := Int.ediv_nonneg hT (by omega)
  constructor
  · intro c
    rcases d with ⟨d1, d2, d3⟩ | ⟨d1, _, _⟩
    · have nf : ¬ T' < y := by rw [kq', d3]; omega
      refine ⟨by omega, by rw [hTe]; exact d2.symm, r3, fun _ => ⟨r6, by rw [hTe]; simp; omega⟩, fun hs => ?_⟩
      have := h64 (by omega)
      rw [this] at nf
      exact ⟨by simp; omega, fun c => absurd c nf⟩
    · omega
  · intro c
    rcases d with ⟨d1, _, _⟩ | ⟨d1, d2, d3⟩
    · omega
    · have ff : f = true ↔ T' < y := by rw [r7, kq, kq', d3]; omega
      refine ⟨by omega, by rw [hTe]; exact d2.symm, r3, fun _ => ⟨r6, by rw [hTe]; exact ff⟩, fun hs => ?_⟩
      have e4 := h64 (by omega)
      rw [hTe, e4]
      rw [e4] at ff kq'
      refine ⟨ff, fun c => ?_⟩
      rw [r6, kq'.1 c, Int.zero_mul]
theorem or_u64 (x z : Int) : U64 (bits BinOp.or IntKind.u64 x z) := by
  show U64 (IntKind.u64.wrap ((BitVec.ofInt 64 x ||| BitVec.ofInt 64 z).toNat : Int))
  exact U64.wrap _
/-- A round below it. -/
theorem ov_low (hh : U64 h) (hl : U64 l) (hy : 1 ≤ y) (hn : n < 64) (r : OvR h l y (n + 1) left q f) (b : Int) (hb : (h * 18446744073709551616 + l) / 2 ^ n % 2 = b) :
    (y ≤ 2 * left + b → OvR h l y n (2 * left + b - y) (bits BinOp.or IntKind.u64 q (2 ^ n)) f) ∧ (2 * left + b < y → OvR h l y n (2 * left + b) q f) := by
  obtain ⟨r1, r2, r3, r4, r5⟩ := r
  obtain ⟨r6, r7⟩ := r5 (by omega)
  have e := ov_bit (h * 18446744073709551616 + l) n
  have hU : 0 ≤ h * 18446744073709551616 + l := by unfold U64 at *; omega
  have hp : (0 : Int) < 2 ^ n := Int.pow_pos (by decide)
  have hp1 : (0 : Int) < 2 ^ (n + 1) := Int.pow_pos (by decide)
  have e2 : (2 : Int) ^ (n + 1) = 2 ^ n * 2 := Int.pow_succ 2 n
  have hT : 0 ≤ (h * 18446744073709551616 + l) / 2 ^ (n + 1) := Int.ediv_nonneg hU (Int.le_of_lt hp1)
  rw [hb] at e
  have b01 : 0 ≤ b ∧ b ≤ 1 := by omega
  have d := ov_div hy e b01 r2
  generalize hTe : (h * 18446744073709551616 + l) / 2 ^ n = T' at e d hb
  generalize (h * 18446744073709551616 + l) / 2 ^ (n + 1) = T at *
  have hTy : 0 ≤ T / y := Int.ediv_nonneg hT (by omega)
  constructor
  · intro c
    rcases d with ⟨d1, d2, d3⟩ | ⟨d1, _, _⟩
    · refine ⟨by omega, by rw [hTe]; exact d2.symm, or_u64 _ _, fun c => by omega, fun _ => ⟨r6, fun hc => ?_⟩⟩
      rw [hTe]
      have q1 := r7 hc
      have q2 := r3.2
      have p64 : (2 : Int) ^ (n + 1) ≤ 18446744073709551616 := by
        have hx : 2 ^ (n + 1) ≤ 2 ^ 64 := Nat.pow_le_pow_right (show 0 < 2 by decide) (show n + 1 ≤ 64 by omega)
        have h2 : ((2 ^ (n + 1) : Nat) : Int) ≤ ((2 ^ 64 : Nat) : Int) := Int.ofNat_le.2 hx
        rw [Int.natCast_pow] at h2
        exact h2
      have hm : q % 2 ^ (n + 1) = 0 := by rw [q1]; exact Int.mul_emod_left _ _
      rw [bits_join .u64 64 (by decide) (fun n h0 h1 => by rw [IntKind.wrap_u64]; omega) (n + 1) q (2 ^ n) r3.1 hm (by omega) (by omega) (by omega) (by omega)]
      rw [q1, d3, e2, Int.add_mul, Int.one_mul, ← Int.mul_assoc, Int.mul_right_comm, Int.mul_comm _ 2]
    · omega
  · intro c
    rcases d with ⟨d1, _, _⟩ | ⟨d1, d2, d3⟩
    · omega
    · refine ⟨by omega, by rw [hTe]; exact d2.symm, r3, fun c => by omega, fun _ => ⟨r6, fun hc => ?_⟩⟩
      rw [hTe]
      rw [r7 hc, d3, e2, ← Int.mul_assoc, Int.mul_right_comm, Int.mul_comm _ 2]
end Go.Proofs.YtehbdnehlfplaaaGreat
/- Words for bytes and numbers of 64 bits: their types, a list that a call tells. -/
namespace Go.Proofs.YtehbdnehlfplaaaGreat
open Go.RowKit
set_option maxRecDepth 100000
set_option linter.unusedVariables false
theorem cells_i64' : Tryz.prog.cellsOf 2 = 1 := by kernel_rfl
/-- A call's answer: a list in memory that lies from base on; nothing below base has turned. -/
def OwnOf (t : TypeId) (k : IntKind) (base : Nat) (xs : List Int) (w : World) (e : Ending) (w' : World) : Prop :=
  ∃ A c, e = .returned (.slice A xs.length c) ∧ w'.ownsRow base t 1 (.slice A xs.length c) xs.length (xs.map (Value.int k)) ∧ Below base w w'
theorem OwnOf.onto {t : TypeId} {k : IntKind} {xs : List Int} {B : Nat} {w wl w' : World} {e : Ending} (h : OwnOf t k wl.heap.size xs wl e w') (hb : Below B w wl) (hB : B ≤ wl.heap.size) : OwnOf t k B xs w e w' := by
  obtain ⟨A, c, he, ho, hk⟩ := h
  exact ⟨A, c, he, own_base ho hB, hb.trans (hk.mono hB)⟩
/-- A call's answer: a list in memory of the call's own, and a number beside it (an error). -/
def OwnE (t : TypeId) (k : IntKind) (base : Nat) (xs : List Int) (er : Int) (w : World) (e : Ending) (w' : World) : Prop :=
  ∃ A c, e = .returned (.tuple #[.slice A xs.length c, .int .i64 er]) ∧ w'.ownsRow base t 1 (.slice A xs.length c) xs.length (xs.map (Value.int k)) ∧ Below base w w'
theorem OwnE.nil {t : TypeId} {k : IntKind} {base : Nat} {er : Int} {w w' : World} (hb : Below base w w') : OwnE t k base [] er w (.returned (.tuple #[.slice none 0 0, .int .i64 er])) w' := ⟨none, 0, rfl, own_nil _ _ _, hb⟩
end Go.Proofs.YtehbdnehlfplaaaGreat
