
/- Words for memory: a slice that reads as a list; a call's answer in memory of its own; number by number, up to the first error. -/
import Derived.Test.YtnokomlekndgfaaMath
import Derived.Test.YtnokomlekndgfaaProg
import Derived.WalkKit
import Derived.Handy
import Derived.Deep.OwnRows
import Derived.Deep.Draws
import Derived.Laws.OwnMore
namespace Go.Proofs.Ytnokomlekndgfaa
open Go.RowKit
set_option maxHeartbeats 400000
set_option maxRecDepth 100000
set_option linter.unusedVariables false
theorem info_i64 : (Try.prog.info? 2).map (fun i => (i.zero, i.size, i.bytes)) = some (some (.int .i64 0), 1, 8) := by kernel_rfl
def seqE (num : Nat → Int × Int) : Nat → Int
  | 0 => 0
  | n + 1 => if seqE num n = 0 then (num n).2 else seqE num n
theorem seqE_stays {num : Nat → Int × Int} {k : Nat} (h : seqE num k ≠ 0) : ∀ n, k ≤ n → seqE num n = seqE num k
  | 0, hn => by have : k = 0 := by omega
                subst this; rfl
  | n + 1, hn => by
    by_cases e : k = n + 1
    · rw [e]
    · have := seqE_stays h n (by omega)
      show (if seqE num n = 0 then (num n).2 else seqE num n) = _
      rw [this, if_neg h]
def seqV (num : Nat → Int × Int) (n : Nat) : List Int := if seqE num n = 0 then (List.range n).map fun k => (num k).1 else []
/-- A call's answer: a list of numbers, in memory of the call's own, and an error; nothing that was there has turned. -/
def OwnInts (xs : List Int) (er : Int) (w : World) (e : Ending) (w' : World) : Prop :=
  ∃ A c, e = .returned (.tuple #[.slice A xs.length c, .int .i64 er]) ∧ w'.ownsRow w.heap.size 2 1 (.slice A xs.length c) xs.length (xs.map (Value.int .i64)) ∧ Below w.heap.size w w'
theorem own_made {w w' : World} {n : Nat} {f : Nat → Value} {e : TypeId} {B b : Nat} (h : w.rowIs b e n f) (hB : B ≤ b) (hn : n ≤ maxLen) :
    w.ownsRow B e 1 (.slice (some ⟨b, 0, none⟩) n n) n ((List.range n).map f) := by
  obtain ⟨c, hb, hs, hc⟩ := h
  refine ⟨by simp, .inr ⟨b, n, c, rfl, hB, hb, Nat.le_refl _, hn, by omega, ?_⟩⟩
  apply List.ext_getElem?
  intro i
  by_cases hi : i < n
  · rw [List.getElem?_take_of_lt (by omega), Array.getElem?_toList, hc i hi]
    simp [hi]
  · rw [List.getElem?_eq_none (by simp; omega), List.getElem?_eq_none (by simp; omega)]
theorem own_nil (w : World) (B : Nat) (e : TypeId) : w.ownsRow B e 1 (.slice none 0 0) 0 [] := World.ownsRow_nil w B e 1

/-- A slice at A, whatever its capacity, reads as these things, in blocks below B. -/
def Rd {α : Type} (enc : α → Value) (w : World) (B : Nat) (A : Option Addr) (xs : List α) : Prop :=
  ∀ k x, xs[k]? = some x → ∃ b off, A = some ⟨b, off, none⟩ ∧ b < B ∧ w.cell? ⟨b, off + k, none⟩ = some (enc x)
section
variable {α : Type} {enc : α → Value} {w w' : World} {B B' : Nat} {A : Option Addr} {xs : List α}
theorem Rd.keep (h : Rd enc w B A xs) (hk : ∀ p : Addr, p.block < B → w'.cell? p = w.cell? p) : Rd enc w' B A xs := fun k x hx => by
  obtain ⟨b, off, e, hb, hc⟩ := h k x hx
  exact ⟨b, off, e, hb, (hk _ hb).trans hc⟩
theorem Rd.below (h : Rd enc w B A xs) (hb : Below B w w') : Rd enc w' B A xs := h.keep fun _ hp => hb.cell hp
theorem Rd.more (h : Rd enc w B A xs) (hB : B ≤ B') : Rd enc w B' A xs := fun k x hx => by
  obtain ⟨b, off, e, hb, hc⟩ := h k x hx
  exact ⟨b, off, e, by omega, hc⟩
/-- To a world from which nothing below its own start has turned. -/
theorem Rd.on (h : Rd enc w w.heap.size A xs) (hb : Below w.heap.size w w') : Rd enc w' w'.heap.size A xs := (h.below hb).more hb.size
theorem Rd.drewN (h : Rd enc w B A xs) (n : Nat) : Rd enc (w.drewN n) B A xs := h
theorem Rd.none_ : Rd enc w B A ([] : List α) := fun k x hx => by simp at hx
theorem Rd.at_ (h : Rd enc w B A xs) {k : Nat} (hk : k < xs.length) : ∃ b off x, A = some ⟨b, off, none⟩ ∧ b < B ∧ xs[k]? = some x ∧ w.cell? ⟨b, off + k, none⟩ = some (enc x) := by
  obtain ⟨b, off, e, hb, hc⟩ := h k xs[k] (List.getElem?_eq_getElem hk)
  exact ⟨b, off, xs[k], e, hb, List.getElem?_eq_getElem hk, hc⟩
theorem Rd.of_own {base n c : Nat} {e : TypeId} (h : w.ownsRow base e 1 (.slice A n c) n (xs.map enc)) : Rd enc w w.heap.size A xs := fun k x hx => by
  have hl : xs.length = n := by simpa using h.1
  have hk : k < xs.length := (List.getElem?_eq_some_iff.1 hx).1
  rcases h.2 with ⟨h', h0⟩ | ⟨g, cap, cur, h', _, hg, _⟩
  · omega
  · simp only [Value.slice.injEq] at h'
    obtain ⟨rfl, _, rfl⟩ := h'
    refine ⟨g, 0, rfl, ?_, ?_⟩
    · exact (Array.getElem?_eq_some_iff.1 hg).1
    · rw [Nat.zero_add, h.cellAt k (by omega)]
      simp [hx]
/-- Memory of the call's own: it lies from base on, and below the heap's end. -/
theorem own_rd {base c : Nat} {e : TypeId} (h : w.ownsRow base e 1 (.slice A xs.length c) xs.length (xs.map enc)) : Rd enc w w.heap.size A xs := .of_own h
/-- It stays where only what lies above its world's end turns. -/
theorem own_on {base n c : Nat} {e : TypeId} {vs : List Value} (h : w.ownsRow base e 1 (.slice A n c) n vs) (hb : Below w.heap.size w w') : w'.ownsRow base e 1 (.slice A n c) n vs := by
  refine ⟨h.1, ?_⟩
  rcases h.2 with hn | ⟨g, cap, cur, hv, hg, hh, r⟩
  · exact .inl hn
  · exact .inr ⟨g, cap, cur, hv, hg, (hb.block g (Array.getElem?_eq_some_iff.1 hh).1).trans hh, r⟩
theorem own_lt {base n c g : Nat} {e : TypeId} {vs : List Value} (h : w.ownsRow base e 1 (.slice (some ⟨g, 0, none⟩) n c) n vs) : g < w.heap.size := (h.lt g rfl).2
theorem own_cell {base n c k : Nat} {e : TypeId} {zs : List Int} (h : w.ownsRow base e 1 (.slice A n c) n (zs.map (Value.int .i64))) (hk : k < zs.length) :
    ∃ g, A = some ⟨g, 0, none⟩ ∧ base ≤ g ∧ w.cell? ⟨g, k, none⟩ = some (.int .i64 (zs.getD k 0)) ∧ w.frozen? ⟨g, k, none⟩ = false := by
  have hl : zs.length = n := by simpa using h.1
  have h' := h
  rcases h.2 with ⟨he, h0⟩ | ⟨g, cap, cur, he, hg, _⟩
  · omega
  · simp only [Value.slice.injEq] at he
    obtain ⟨rfl, _, rfl⟩ := he
    refine ⟨g, rfl, hg, ?_, h'.frozenAt k⟩
    rw [h'.cellAt k (by omega)]
    simp [List.getD, hk]
theorem own_base {base base' n c : Nat} {e : TypeId} {vs : List Value} (h : w.ownsRow base e 1 (.slice A n c) n vs) (hb : base' ≤ base) : w.ownsRow base' e 1 (.slice A n c) n vs := by
  refine ⟨h.1, ?_⟩
  rcases h.2 with hn | ⟨g, cap, cur, hv, hg, r⟩
  · exact .inl hn
  · exact .inr ⟨g, cap, cur, hv, by omega, r⟩
end
theorem lt_of_cell {w : World} {p : Addr} {v : Value} (h : w.cell? p = some v) : p.block < w.heap.size := by
  rcases Nat.lt_or_ge p.block w.heap.size with hlt | hge
  · exact hlt
  · rw [World.cell?, Array.getElem?_eq_none hge] at h; cases h
/-- Every one is an int64. -/
def I64s (xs : List Int) : Prop := ∀ x ∈ xs, I64 x
theorem I64s.at_ {xs : List Int} (h : I64s xs) {k : Nat} {x : Int} (hx : xs[k]? = some x) : I64 x := h x (List.mem_of_getElem? hx)
theorem getD_of {xs : List Int} {k : Nat} {x : Int} (hx : xs[k]? = some x) : xs.getD k 0 = x := by simp [List.getD, hx]
/-- Below: what a call leaves as it was, as the walk asks it. -/
theorem bcells {W w1 : World} (hb : Below W.heap.size W w1) : (∀ b o, b < W.heap.size → w1.cell? ⟨b, o, none⟩ = W.cell? ⟨b, o, none⟩) ∧ (∀ b o, b < W.heap.size → w1.frozen? ⟨b, o, none⟩ = W.frozen? ⟨b, o, none⟩) :=
  ⟨fun b o h => hb.cell (p := ⟨b, o, none⟩) h, fun b o h => hb.frozen (p := ⟨b, o, none⟩) h⟩
/-- Numbers added up, up to the first error. -/
def tot (num : Nat → Int × Int) : Nat → Int × Int
  | 0 => (0, 0)
  | n + 1 => if (tot num n).2 = 0 then (if (num n).2 = 0 then (ckV ((tot num n).1 + (num n).1), ckE ((tot num n).1 + (num n).1)) else (0, (num n).2)) else tot num n
theorem tot_stays {num : Nat → Int × Int} {k : Nat} (h : (tot num k).2 ≠ 0) : ∀ n, k ≤ n → tot num n = tot num k
  | 0, hn => by have : k = 0 := by omega
                subst this; rfl
  | n + 1, hn => by
    by_cases e : k = n + 1
    · rw [e]
    · have := tot_stays h n (by omega)
      rw [tot, this, if_neg h]
end Go.Proofs.Ytnokomlekndgfaa
